import PyProof.Rows.All
import Wide.All
import OpenK.AllK
import Wide.FinOn
import HandS.ForMost
import HandS.IsInst
import HandS.Style
import HandS.StrMore
import PyProof.ReprRoads
import PyProof.Rows.StrRev
import PyProof.StrOps2
import KE.GoesEnum
import HandS.Conv
import HandS.DictComp
import HandS.Codes
import PySem.Challenge.RW_markersplice_k01_value_kinds
set_option Elab.async false
set_option linter.all false
set_option maxRecDepth 100000
set_option maxHeartbeats 4000000
/-! Calls whose promise may lean on this: no repr of the program is under way (the guards are empty). -/
namespace Gd
open PySem PySem.Spec PyProof.Rows L2

/-- a def's promise, shown where no repr runs -/
structure FnG (P : Program) (w : World) (K : PySem.W.Frag) (mg : Str → Option Value) (base : Heap)
    (CX : CXT) (k : Nat) (f : Addr) (fd : FuncData) (ps : List Str) (sp : Sp) : Prop where
  len : ∀ vs H Q E, sp vs H Q E → vs.length = ps.length
  run : ∀ (A : Around) (outer : List Env) (s : Shared) (H : Hp) (args : Args) (us : List Value)
    (vs : List V) (Q : VK) (E : XK), A.guards = some [] → Room k A →
    Env0 P w K mg base A outer s H → BindsTo s fd args (ps.zip us) → Vals vs us → sp vs H Q E →
    codeAny (model P w) A (.call (.ref f) args) (CR CX outer P w H s Q E) s

section
variable {P : Program} {w : World} {K : PySem.W.Frag} {mg : Str → Option Value} {base : Heap}
  {CX : CXT} {k : Nat} {f : Addr} {fd : FuncData} {ps : List Str} {sp : Sp}
theorem FnG.of (F : FnOk P w K mg base CX k f fd ps sp) : FnG P w K mg base CX k f fd ps sp :=
  ⟨F.len, fun A o s H a us vs Q E _ => F.run A o s H a us vs Q E⟩

/-- the def by its body, the guards told -/
theorem fnG_body {name qual : Str} {params : Arguments} {body : List Stmt} {scope : Scope}
    {dV kV doc pm cdv ct oc : Value} {an od : Option Addr} {osl : Array (Option Value)} {N : List Str}
    (lk : K.lookup f = some ⟨oc, od, .func (PySem.W.fnOf name qual params body scope dV kV doc pm an cdv ct), osl⟩)
    (hcd : PySem.W.codeIn K cdv qual = true) (S : FnScope N ps scope)
    (len : ∀ vs H Q E, sp vs H Q E → vs.length = ps.length)
    (hB : ∀ (A : Around) (outer : List Env) (s : Shared) (H : Hp) (vs : List V) (Q : VK) (E : XK),
      A.guards = some [] → Room k (A.deeper (envOfC qual scope s.heap.objs.size f cdv)) → sp vs H Q E →
      ∃ t, PSs (cxOf CX P w K mg base N qual scope f cdv A outer s H E) body t ∧
        t { nx := fun _ H' => Q .non H', rt := Q } (start N vs) H) :
    FnG P w K mg base CX (k + 1) f (PySem.W.fnOf name qual params body scope dV kV doc pm an cdv ct) ps sp where
  len := len
  run A outer s H args us vs Q E hg hr e0 hb r hsp := by
    have KX : K.In s.heap := e0.mod.kin.keeps (fun b o e => (e0.bs b o e).1)
    have lim : s.heap.NoLimit := e0.mod.nolimit.keeps (fun b o e => (e0.bs b o e).1)
    have hk : ∀ y ∈ ps.zip us, scope.names.lookup y.1 = some .local ∨
        (scope.names.lookup y.1 = some .cell ∧
          ((cellsFrom (s.heap.objs.size + 1) scope.names []).lookup y.1).isSome = true) := by
      intro y hy
      obtain ⟨n, v⟩ := y
      cases S.par n (List.of_mem_zip hy).1 with
      | inl q => exact Or.inl q
      | inr q => exact Or.inr ⟨q, PySem.W.cellsFrom_some _ _ _ (Or.inl q)⟩
    apply codeAny_call_function hr.depth (KX _ _ lk) rfl S.co S.gen rfl (PySem.W.codeRec_of KX hcd)
    apply hb
    apply wpAny_newFunctionEnv_cells S.kind hk
    intro env he s1 x
    subst he
    refine ⟨lim.keeps x.toInCall.keep, codeAny_func ?_⟩
    obtain ⟨t, ht, hq⟩ := hB A outer s H vs Q E hg (hr.deeper _) hsp
    have I := inv_start (CX := CX) (E := E) S hr.hd e0 (len _ _ _ _ hsp) r x
    apply wpAny_mono (ht.run [] s1 _ H _ I hq) ?_ (fun e s' hs => hs)
    intro fl s' hs
    match fl, hs with
    | .ret u, ⟨v, σ', H', J, rv, q⟩ => exact ⟨v, H', J.os, J.bare, J.base, J.hok, rv, q⟩
    | .next, ⟨σ', H', J, q⟩ => exact ⟨V.non, H', J.os, J.bare, J.base, J.hok, rfl, q⟩
    | .brk, ⟨_, _, _, q⟩ => exact q.elim
    | .cont, ⟨_, _, _, q⟩ => exact q.elim

theorem okG {x qual : Str} {st : Stmt} {N : List Str} (F : Fun K x qual st f fd) (S : FnScope N ps (defScope st))
    (len : ∀ vs H Q E, sp vs H Q E → vs.length = ps.length)
    (hB : ∀ (cdv : Value) (A : Around) (outer : List Env) (s : Shared) (H : Hp) (vs : List V) (Q : VK) (E : XK),
      A.guards = some [] → Room k (A.deeper (envOfC qual (defScope st) s.heap.objs.size f cdv)) → sp vs H Q E →
      ∃ t, PSs (cxOf CX0 P w K mg base N qual (defScope st) f cdv A outer s H E).nox (defBody st) t ∧
        t { nx := fun _ H' => Q .non H', rt := Q } (start N vs) H) :
    FnG P w K mg base CX0 (k + 1) f fd ps sp := by
  obtain ⟨oc, od, kV, doc, pm, an, cdv, ct, osl, rfl, lk, hcd⟩ := F.ex
  apply fnG_body lk hcd S len
  intro A outer s H vs Q E hg hr hsp
  obtain ⟨t, h, q⟩ := hB cdv A outer s H vs Q E hg hr hsp
  exact ⟨t, h.nox, q⟩
end

section
variable {X : Cx} {CX : CXT} {k : Nat} {f C : Addr} {fd : FuncData} {ps : List Str} {sp : Sp} {dvs : List V}
  {ds : List Value} {E : XK} {x m : Str} {p pos apos : Pos} {e o : Expr} {es : List Expr} {ta : TE} {t : TA}

theorem runG {pins : List (Addr × Obj)} {σ : L2.St} {H : Hp} {s : Shared} {Q : VK} {us : List Value} {vs : List V}
    (F : FnG X.prog X.w X.K X.mg X.base CX k f fd ps sp) (hgd : X.A.guards = some []) (hr : Room k X.A)
    (hb : Binds X.K fd ps ds) (hd : Vals dvs ds) (hx : Passes CX X E) (I : Inv X pins σ H s) (r : Vals vs us)
    (h : sp (vs ++ dvs) H Q E) :
    wpAny (model X.prog X.w) X.A (call (.ref f) us) (EP X pins σ Q) X.xe s := by
  have r2 : Vals (vs ++ dvs) (us ++ ds) := r.append hd
  have hl : (us ++ ds).length = ps.length := r2.length.symm.trans (F.len _ _ _ _ h)
  apply wpAny_call
  refine codeAny_mono (F.run X.A X.stack s H ⟨us, []⟩ _ _ Q E hgd hr I.env0 (hb s us I.kIn hl) r2 h) ?_
  intro r s' hq
  match r, hq with
  | .error e, hq => exact hx pins σ H s e s' I hq
  | .ok (.ret u), hq => exact I.after hq
  | .ok .next, hq => exact hq.elim
  | .ok .brk, hq => exact hq.elim
  | .ok .cont, hq => exact hq.elim

theorem pe_callG (F : FnG X.prog X.w X.K X.mg X.base CX k f fd ps sp) (hgd : X.A.guards = some []) (hr : Room k X.A)
    (hg : Gl X x) (hm : X.mg x = some (.ref f)) (hk : PySem.W.keepIn X.K (.ref f) = true) (hb : Binds X.K fd ps ds)
    (hd : Vals dvs ds) (hx : Passes CX X E) (ha : PA X (e :: es) t)
    (hdb : (x == ("__debug__" : Str)) = false := by decide)
    (he : starEach (e :: es) X.env = (false, eval e X.env) :: starEach es X.env := by rfl)
    (hpl : (backTo pos (starEach es X.env)).any (·.1) = false := by rfl) :
    PE X (.Call (.Name x p) (e :: es) [] pos) (tCall sp dvs E t) where
  run pins s σ H Q I h := by
    apply wpAny_Call_Name_kw
    apply ld_glob I hg hm ?_ hdb
    refine PySem.W.callWith_K (h₀ := X.base) I.ok.mod.kin hk ?_ he hpl
    refine thn (ha.run pos pins s σ H _ I h) ?_
    intro us s1 ⟨vs, H1, I1, r, q⟩
    exact ⟨I1.kIn, runG F hgd hr hb hd hx I1 r q⟩
theorem pe_callG0 (F : FnG X.prog X.w X.K X.mg X.base CX k f fd ps sp) (hgd : X.A.guards = some []) (hr : Room k X.A)
    (hg : Gl X x) (hm : X.mg x = some (.ref f)) (hk : PySem.W.keepIn X.K (.ref f) = true) (hb : Binds X.K fd ps ds)
    (hd : Vals dvs ds) (hx : Passes CX X E) (hdb : (x == ("__debug__" : Str)) = false := by decide) :
    PE X (.Call (.Name x p) [] [] pos) (tCall sp dvs E tNil) where
  run pins s σ H Q I h := by
    apply wpAny_Call_Name_kw
    apply ld_glob I hg hm ?_ hdb
    exact PySem.W.callWith_K0 I.kIn hk (runG (us := []) F hgd hr hb hd hx I .nil h)

/-- repr of plain data -/
def rReprD (K : PySem.W.Frag) : List V → Hp → VK → Prop := fun xs H Q =>
  ∃ v d, xs = [v] ∧ Dp K H v d ∧ d.showable = true ∧ d.hasDict = false ∧ d.depth ≤ 64 ∧ d.shown.length ≤ sizeLine ∧
    Q (.str d.shown) H
theorem call_reprD (hgd : X.A.guards = some []) (hu : X.A.units + 66 < cLine) : CallR X (.builtin "repr") (rReprD X.K) := by
  intro pins s σ H xs us Q I r h
  obtain ⟨v, d, rfl, hD, hs, hn, hdp, hz, q⟩ := h
  obtain ⟨u, rfl, rv⟩ := vals1 r
  cases hD with
  | non =>
    obtain rfl : u = Value.none := rv
    exact PySem.P.repr_of_none ⟨.str _, H, I.tok _, ⟨_, rfl⟩, q⟩
  | bl b =>
    obtain rfl : u = Value.bool b := rv
    refine PySem.P.repr_of_bool ⟨.str _, H, I.tok _, ⟨_, rfl⟩, ?_⟩
    exact q
  | int i =>
    obtain ⟨t, rfl⟩ := rv
    refine PySem.P.repr_of_int ?_ ⟨.str _, H, I.tok _, ⟨_, rfl⟩, q⟩
    simpa [PyData.showable] using hs
  | str x =>
    obtain ⟨t, rfl⟩ := rv
    exact PySem.P.repr_of_str ⟨.str _, H, I.tok _, ⟨_, rfl⟩, q⟩ hz
  | lst hS hA =>
    rename_i a ys ds
    obtain ⟨as, rr⟩ := Dp.reads I _ _ _ (Dp.lst hS hA) rv
    obtain rfl : u = Value.ref a := rv
    refine repr_of_reads' rr hs (fun z => by rw [hn] at z; cases z) hgd (by omega) (fun b o e => e) ?_ hz
    intro h' u tk hk
    exact ⟨.str _, H, I.kept hk, ⟨_, rfl⟩, q⟩
  | tup hS hA =>
    rename_i a ys ds
    obtain ⟨as, rr⟩ := Dp.reads I _ _ _ (Dp.tup hS hA) rv
    obtain rfl : u = Value.ref a := rv
    refine repr_of_reads' rr hs (fun z => by rw [hn] at z; cases z) hgd (by omega) (fun b o e => e) ?_ hz
    intro h' u tk hk
    exact ⟨.str _, H, I.kept hk, ⟨_, rfl⟩, q⟩
end
end Gd
/-! Rules of texts and of backward slices. -/
namespace Gd
open PySem PySem.Spec PyProof.Rows L2

/-- the text backward -/
def revS (x : Str) : Str := ⟨x.cps.toList.reverse.toArray⟩
theorem revS_list (x : Str) : (revS x).cps.toList = x.cps.toList.reverse := by simp [revS]
theorem revS_length (x : Str) : (revS x).length = x.length := by
  show (revS x).cps.size = x.cps.size
  simp [revS]
theorem str_ext {x y : Str} (h : x.cps.toList = y.cps.toList) : x = y := by
  obtain ⟨⟨a⟩⟩ := x
  obtain ⟨⟨b⟩⟩ := y
  simp only at h
  rw [h]
theorem sliceBy_rev (x : Str) (u : Tok) : Txt.sliceBy x none none (-1, u) = revS x := by
  apply str_ext
  rw [step_rev_list, revS_list]
  apply List.ext_getElem
  · simp [Str.length]
  · intro i h1 h2
    have hi : i < x.cps.size := by simpa [Str.length] using h1
    simp only [List.getElem_map, List.getElem_range, List.getElem_reverse, Array.getElem_toList, Array.length_toList]
    have h3 : x.length - 1 - i < x.cps.size := by show x.cps.size - 1 - i < x.cps.size; omega
    rw [Array.getD, dif_pos h3]
    rfl

section
variable {X : Cx}
theorem mt_swapcase : MtR X "str.swapcase" (fun x xs H Q => ∃ a, x = .str a ∧ xs = [] ∧
    (Txt.swapcase a).length ≤ 16777216 ∧ Q (.str (Txt.swapcase a)) H) :=
  mt0 (C := fun a => (Txt.swapcase a).length ≤ 16777216) (g := fun a => .str (Txt.swapcase a)) fun a _ s _ hc h =>
    PySem.SC.swapcase (PyProof.Rows.short24 hc) (h _ (s.toks + 1) ⟨_, rfl⟩)

/-- s * n -/
def mulS (x : Str) (n : Int) : Str := ⟨(List.replicate n.toNat x.cps.toList).flatten.toArray⟩
theorem foldl_cps (l : List (Array Nat)) : ∀ acc : Array Nat, (l.foldl (· ++ ·) acc).toList = acc.toList ++ (l.map (·.toList)).flatten := by
  induction l with
  | nil => intro acc; simp
  | cons a l ih => intro acc; rw [List.foldl_cons, ih]; simp
theorem op_mul_str : OpR X (binaryOp .Mult) (fun x y H Q => ∃ (z : Str) (n : Int), x = .str z ∧ y = .int n ∧
    -(2 ^ 63) ≤ n ∧ z.length * n.toNat ≤ 16777216 ∧ n < 2 ^ 62 ∧ Q (.str (mulS z n)) H) := by
  intro pins s σ H x y v u Q I rx ry h
  obtain ⟨z, n, rfl, rfl, hlo, hz, hhi, q⟩ := h
  obtain ⟨t, rfl⟩ := rx
  obtain ⟨t2, rfl⟩ := ry
  have e1 : ∀ w : Str, w = mulS z n → ∀ k t', EP X pins σ Q (.str w t') { s with toks := k } := by
    intro w hw k t'
    subst hw
    exact ⟨.str _, H, I.tok _, ⟨_, rfl⟩, q⟩
  have hrep : (⟨(List.replicate n.toNat z.cps).foldl (· ++ ·) #[]⟩ : Str) = mulS z n := by
    apply str_ext
    show ((List.replicate n.toNat z.cps).foldl (· ++ ·) #[]).toList = _
    rw [foldl_cps]
    simp [mulS]
  refine PySem.P.mul_str (by
      have a : ¬ n < -(2 ^ 63 : Int) := by omega
      have b : ¬ n ≥ 2 ^ 63 := by omega
      rw [decide_eq_false a, decide_eq_false b]; rfl) (fun h1 _ => ?_) (fun _ _ => PyProof.Rows.short24 hz) ?_
  · intro hbig
    have hn : 0 < n := by omega
    have h2 : (2 ^ 63 - 1 : Int) / n * n ≥ (2 ^ 63 - 1) - (n - 1) := by
      have := Int.emod_add_mul_ediv (2 ^ 63 - 1) n
      have m := Int.emod_lt_of_pos (2 ^ 63 - 1) hn
      rw [Int.mul_comm] at this
      omega
    have h3 : ((z.length : Int)) * n ≤ 16777216 := by
      have h5 : ((z.length * n.toNat : Nat) : Int) ≤ ((16777216 : Nat) : Int) := Int.ofNat_le.mpr hz
      rw [Int.natCast_mul, Int.toNat_of_nonneg (by omega)] at h5
      exact h5
    have h4 : ((2 ^ 63 - 1 : Int) / n) * n ≤ (z.length : Int) * n := Int.mul_le_mul_of_nonneg_right (by omega) (by omega)
    omega
  · by_cases hn : n < 1
    · rw [if_pos hn]
      refine ⟨by decide, e1 _ ?_ _ _⟩
      have h0 : n.toNat = 0 := by omega
      apply str_ext
      simp [mulS, h0, Str.empty]
    · rw [if_neg hn]
      by_cases hw : (n == 1 || z.length == 0) = true
      · rw [if_pos hw]
        have hzz : z = mulS z n := by
          apply str_ext
          rw [Bool.or_eq_true] at hw
          rcases hw with hw | hw
          · have : n = 1 := by simpa using hw
            subst this
            simp [mulS]
          · have : z.cps.toList = [] := by
              have : z.cps.size = 0 := by simpa [Str.length] using hw
              exact List.eq_nil_of_length_eq_zero (by simpa using this)
            simp [mulS, this]
        show EP X pins σ Q (.str z t) s
        have := e1 z hzz s.toks t
        exact this
      · rw [if_neg hw, hrep]
        refine ⟨?_, e1 _ rfl _ _⟩
        show (mulS z n).cps.size ≤ sizeLine
        have : (mulS z n).cps.size = z.length * n.toNat := by
          simp [mulS, Str.length, Nat.mul_comm]
        rw [this, sizeLine_eq]
        exact hz

/-- a step slice by values -/
def SlS (X : Cx) (r : V → Option Int → Option Int → Option Int → Hp → VK → Prop) : Prop :=
  ∀ (pins : List (Addr × Obj)) (s : Shared) (σ : L2.St) (H : Hp) (x : V) (v vl vu vs : Value) (lo hi st : Option Int) (sl : Addr) (Q : VK),
    Inv X pins σ H s → RelV x v → s.heap.IsSliceOf sl vl vu vs → IsPart vl lo → IsPart vu hi → IsPart vs st → r x lo hi st H Q →
    ∃ T id, typeLookup (.type T) "__getitem__" = pure (some (.builtin id)) ∧ s.TypeIs v T ∧
      wpAny (model X.prog X.w) X.A (getItem v (.ref sl)) (EP X pins σ Q) X.xe s
def tSlS (r : V → Option Int → Option Int → Option Int → Hp → VK → Prop) (te : TE) (tl th ts : TO) : TE := fun σ H Q =>
  te σ H fun x H1 => tl σ H1 fun l H2 => th σ H2 fun u H3 => ts σ H3 fun st H4 => r x l u st H4 Q
theorem pe_sliceS {r : V → Option Int → Option Int → Option Int → Hp → VK → Prop} {e : Expr} {lo hi : Option Expr} {st : Expr} {te : TE} {tl th ts : TO} {p2 pos : Pos}
    (hr : SlS X r) (he : PE X e te) (hl : PO X lo tl) (hu : PO X hi th) (hs : PO X (some st) ts)
    (hsub : ∀ v w, subscripted (.Slice lo hi (some st) p2) false v w = operate [v, w] (getItem v w) := by intro _ _; with_unfolding_all rfl) :
    PE X (.Subscript e (.Slice lo hi (some st) p2) pos) (tSlS r te tl th ts) where
  run pins s σ H Q I h := by
    apply Subscript_
    refine thn (he.run pins s σ H _ I h) ?_
    intro v s1 ⟨x, H1, I1, r1, q1⟩
    apply wpAny_Slice
    refine thn (hl.run pins s1 σ H1 _ I1 q1) ?_
    intro vl s2 ⟨l, H2, I2, pl, q2⟩
    refine thn (hu.run pins s2 σ H2 _ I2 q2) ?_
    intro vu s3 ⟨u, H3, I3, pu, q3⟩
    refine thn (hs.run pins s3 σ H3 _ I3 q3) ?_
    intro vs s4 ⟨stp, H4, I4, ps, q4⟩
    have I5 : Inv X pins σ H4 { s4 with heap := s4.heap.push { cls := .type "slice", data := .fields #[vl, vu, vs] } } :=
      I4.kept (t' := s4.toks) (fun b ob q => Heap.get?_push_of_some _ q)
    obtain ⟨T, id, hT, ht, hg⟩ := hr pins _ σ H4 x v vl vu vs l u stp s4.heap.objs.size Q I5 r1 (Heap.IsSliceOf.new ..) pl pu ps q4
    exact tail_any (ops := [v, .ref s4.heap.objs.size]) ht hT hg (hsub _ _)

/-- x[::-1] of a text -/
def rBackS : V → Option Int → Option Int → Option Int → Hp → VK → Prop := fun x lo hi st H Q =>
  ∃ z, x = .str z ∧ lo = none ∧ hi = none ∧ st = some (-1) ∧ z.length ≤ sizeLine ∧ Q (.str (revS z)) H
theorem ss_backS : SlS X rBackS := by
  intro pins s σ H x v vl vu vs lo hi st sl Q I rx hs pl pu ps h
  obtain ⟨z, rfl, rfl, rfl, rfl, hz, q⟩ := h
  obtain ⟨t, rfl⟩ := rx
  cases pl
  cases pu
  cases ps with
  | int i tk =>
  refine ⟨"str", _, F.slot_str_getitem.lookup, typeIs_str _ _ _, ?_⟩
  obtain ⟨os, hos, hcs, hds⟩ := hs
  refine wpAny_getItem_str_slice (l := none) (u := none) (st := some (-1, tk)) ⟨os, hos, hcs, hds⟩ (by rfl) ?_
  have e := sliceBy_rev z tk
  have hl : (revS z).length ≤ sizeLine := by rw [revS_length]; exact hz
  refine post_val_or_str ⟨?_, fun t' c => ?_⟩
  · show (Txt.sliceBy z none none (-1, tk)).length ≤ sizeLine
    rw [e]; exact hl
  · show EP X pins σ Q (.str (Txt.sliceBy z none none (-1, tk)) t') { s with toks := c }
    rw [e]
    exact ⟨.str _, H, I.tok _, ⟨_, rfl⟩, q⟩
end
end Gd
/-! enumerate of a tuple, a tuple backward. -/
namespace Gd
open PySem PySem.Spec PyProof.Rows L2 Builtin

theorem newEnum1 {v : Value} {o : Obj} {H : Heap → Prop} (B : Begins v o H) :
    Meets (Builtin.«enumerate.__new__» ⟨[.type "enumerate", v], []⟩) (fun _ R s => H s.heap ∧
      R (.ok (.ret (.ref (s.heap.push o).objs.size)))
        { s with heap := (s.heap.push o).push { cls := .type "enumerate", data := .fields #[.none, .bool false, .ref s.heap.objs.size, rawInt 0, .none, .none] } }) := by
  apply Meets.of_wp
  intro prog w A R s hs
  obtain ⟨hp, g, d, tk, os⟩ := s
  obtain ⟨h1, h⟩ := hs
  have hsub := sub_enumerate
  have q1 : ∀ {A' : Around} {E : Value → Shared → Prop} {Q : Value → Shared → Prop},
      Q (.ref hp.objs.size) ⟨hp.push o, g, d, tk, os⟩ → wpAny (model prog w) A' (pyIter v) Q E ⟨hp, g, d, tk, os⟩ := by
    intro A' E Q q
    exact B.iter prog w _ _ ⟨hp, g, d, tk, os⟩ _ h1 q
  wp_walk using q1
  refine wpAny_stack_any (fun st => wpAny_pure ?_)
  split
  · rename_i c _ _ _ _ _
    cases (c == Value.type "enumerate")
    · wp_walk using q1
      exact ⟨_, rfl, h⟩
    · wp_walk using q1
      exact ⟨_, rfl, h⟩
  · wp_walk using q1
    exact ⟨_, rfl, h⟩

/-- the tuple at a as it stands, each item in a new pair -/
def IteT (K : PySem.W.Frag) (a : Addr) : It where
  go i H := ∃ (xs : List V) (x : V), SqT K H a xs ∧ xs[i]? = some x
  yld i H v H' := ∃ T x, v = .ref T ∧ H T = none ∧ H' = upd H T (.tup [.int (i : Nat), x]) ∧ ∀ xs, SqT K H a xs → xs[i]? = some x
  stop i H := ∃ xs : List V, SqT K H a xs ∧ xs.length = i

theorem tup_is {h : Heap} {a : Addr} {its : Array Value} (p : IsTup h a its) : h.IsTuple a its := by
  obtain ⟨o, h1, h2, n, h3⟩ := p
  exact ⟨o, h1, h2, n, h3⟩
theorem turn_enumT {P : Program} {w : World} {K : PySem.W.Frag} {elts : List Expr} {kk : Nat} {tpos : Pos} (a e it : Addr) :
    Turn P w K (.Tuple elts kk tpos) (IteT K a) [e, it] e
      (fun i h => (∃ old, IsEnum h e it ((i : Nat) : Int) old) ∧ h.IsTupleIter it a i ∧ e ≠ it) where
  mem := by simp
  obj i h st b hb := by
    obtain ⟨⟨old, he⟩, ⟨o, ho, hc, hd⟩, _⟩ := st
    have hb' : b = e ∨ b = it := by simpa using hb
    rcases hb' with rfl | rfl
    · exact ⟨_, he, fun v q => nomatch q⟩
    · exact ⟨o, ho, fun v q => by rw [hd] at q; cases q⟩
  keep i h h' st k := by
    obtain ⟨⟨old, he⟩, hi, hne⟩ := st
    exact ⟨⟨old, k e (by simp) _ he⟩, hi.at fun o q => k it (by simp) o q, hne⟩
  item := by
    intro X hP hw hK hc i pins s σ H E I hf st hg
    subst hP hw hK
    obtain ⟨⟨old, he⟩, hit, hne⟩ := st
    obtain ⟨xs, x, hq, hx⟩ := hg
    obtain ⟨its, rv, p, hz⟩ := I.tuple hq
    obtain ⟨u, hu, ru⟩ := rv.get hx
    have ht := tup_is p
    have hel : e < s.heap.objs.size := Heap.lt_size he
    have hil : it < s.heap.objs.size := by obtain ⟨_, q, _⟩ := hit; exact Heap.lt_size q
    have hai : a ≠ it := by
      intro z
      obtain ⟨o1, g1, c1, _⟩ := ht
      obtain ⟨o2, g2, c2, _⟩ := hit
      rw [z, g2] at g1
      cases g1
      rw [c2] at c1
      exact absurd c1 (by decide)
    have hae : a ≠ e := by
      intro z
      obtain ⟨o1, g1, c1, _⟩ := ht
      have g2 : s.heap.get? e = some _ := he
      rw [z, g2] at g1
      cases g1
      have c3 : Value.type "enumerate" = Value.type "tuple" := c1
      exact absurd c3 (by decide)
    have hlt : i < its.toArray.size := by
      have := (List.getElem?_eq_some_iff.mp hu).1
      simpa using this
    refine wpAny_pyNext_enum_itemC (Draws.tuple (A := X.A.in1) (I.ok.hd hc) it a hai its.toArray) he ⟨hit, ht⟩ hlt hne (by simp [hne, hae.symm]) ?_
    intro x' h' tk hP ho hs' hT hsz hk
    have hxu : x' = u := by
      have h9 : its[i]? = some x' := by simpa using hP
      rw [hu] at h9
      exact (Option.some.inj h9).symm
    subst hxu
    refine ⟨_, rfl, wpAny_letOwnedTupleGo_enum (s := { s with heap := h', toks := tk + 1 }) ho ?_⟩
    intro h'' he' sb
    have hT2 : h''.get? s.heap.objs.size = some { cls := .type "tuple", data := .seq #[.int i tk, x'] } := (sb.2 _ (Nat.ne_of_gt hel)).trans hT
    have new : ObjOk X.prog X.w (upd H s.heap.objs.size (.tup [.int (i : Nat), x])) h'' s.heap.objs.size (.tup [.int (i : Nat), x]) :=
      ⟨by show 2 ≤ sizeLine; decide, [.int i tk, x'], .cons ⟨_, rfl⟩ (.cons ru .nil), ⟨_, hT2, rfl, _, rfl⟩⟩
    have I1 : Inv X pins σ (upd H s.heap.objs.size (.tup [.int (i : Nat), x])) { s with heap := h'', toks := tk + 1 } := by
      refine I.turnedNew (ch := [e, it]) (fun b o hb q => ?_) hf (Nat.le_refl _) new
      have b1 : b ≠ e := fun z => hb (by simp [z])
      have b2 : b ≠ it := fun z => hb (by simp [z])
      exact (sb.2 b b1).trans (hk b o b1 b2 q)
    refine ⟨.ref s.heap.objs.size, _, I1, rfl, ⟨_, x, rfl, I.hok.fresh (Nat.le_refl _), rfl, fun ys hy => by rw [I.tuple_inj hy hq]; exact hx⟩,
      ⟨⟨x', ?_⟩, ?_, hne⟩, fun b hb => ?_⟩
    · have e1 : ((i + 1 : Nat) : Int) = (i : Int) + 1 := by omega
      rw [e1]
      exact he'
    · exact Heap.IsTupleIter.at hs'.1 fun o q => (sb.2 it (Ne.symm hne)).trans q
    · have hb' : b < s.heap.objs.size := by
        have e' : b = e ∨ b = it := by simpa using hb
        rcases e' with z | z
        · rw [z]; exact hel
        · rw [z]; exact hil
      rw [upd_ne (Nat.ne_of_lt hb')]
      exact (hf b hb).1
  done := by
    intro X hP hw hK hc i pins s σ H E I hf st hg
    subst hP hw hK
    obtain ⟨⟨old, he⟩, hit, hne⟩ := st
    obtain ⟨xs, hq, hx⟩ := hg
    obtain ⟨its, rv, p, hz⟩ := I.tuple hq
    have hl := rv.length
    have ht := tup_is p
    obtain ⟨f0, f1, f2, f3, f4, f5⟩ := hf it (by simp)
    have hlen : i = its.toArray.size := by simp; omega
    have hai : a ≠ it := by
      intro z
      obtain ⟨o1, g1, c1, _⟩ := ht
      obtain ⟨o2, g2, c2, _⟩ := hit
      rw [z, g2] at g1
      cases g1
      rw [c2] at c1
      exact absurd c1 (by decide)
    subst hlen
    refine wpAny_pyNext_enum_endD (Draws.tuple (A := X.A.in1) (I.ok.hd hc) it a hai its.toArray) he ⟨hit, ht⟩ ?_
    intro h' eb
    exact ⟨rfl, I.turned (t' := s.toks) (fun b o hb q => eb b o hb q) f0 f1 f3 f4 f5⟩
  self := by
    intro A i s Q E st h
    obtain ⟨⟨_, he⟩, _⟩ := st
    exact wpAny_pyIter_enum he h

def iEnumT (K : PySem.W.Frag) (ta : TA) : TI := fun σ H R => ta σ H fun vs H1 => ∃ a xs, vs = [.ref a] ∧ SqT K H1 a xs ∧ R (IteT K a) H1
theorem pi_enumT {X : Cx} {e : Expr} {ta : TA} {p pos tpos : Pos} {elts : List Expr} {kk : Nat} (hg : Gl X "enumerate")
    (hm : X.mg "enumerate" = none) (ha : PA X [e] ta) (hs : starEach [e] X.env = [(false, eval e X.env)] := by rfl) :
    PI X (.Tuple elts kk tpos) (.Call (.Name "enumerate" p) [e] [] pos) (iEnumT X.K ta) where
  run pins s σ H R I h := by
    refine Call_ (ld_blt I hg hm boot_enumerate (PyProof.Rows.callWith_type1 (thn (ha.run pos pins s σ H _ I h) ?_) hs rfl))
    intro us s1 ⟨vs, H1, I1, r1, q1⟩
    obtain ⟨a, xs, ex, hq, q⟩ := q1
    subst ex
    cases r1 with
    | cons r rr =>
      cases rr
      cases r
      obtain ⟨its, rv, p', hz⟩ := I1.tuple hq
      have ht := tup_is p'
      refine callType_new F.called_enumerate (by decide) (F.typeCall_enumerate_1 _) (F.newCall_enumerate_1 _) (fun obj => F.args_object_init_2 obj _)
        F.entry_enumerate_new (newEnum1 (begins_tuple a its.toArray)) ⟨ht, ?_⟩
      have hz1 : (s1.heap.push { cls := .type "tuple_iterator", data := .fields #[.ref a, .int 0 0] }).objs.size = s1.heap.objs.size + 1 := Heap.size_push ..
      show _ ∧ _
      rw [hz1]
      have he := Heap.get?_push_size (s1.heap.push { cls := .type "tuple_iterator", data := .fields #[.ref a, .int 0 0] })
        (o := { cls := .type "enumerate", data := .fields #[.none, .bool false, .ref s1.heap.objs.size, rawInt 0, .none, .none] }) rfl
      rw [hz1] at he
      refine ⟨⟨_, he, rfl⟩, ?_⟩
      have hit : ((s1.heap.push { cls := .type "tuple_iterator", data := .fields #[.ref a, .int 0 0] }).push
          { cls := .type "enumerate", data := .fields #[.none, .bool false, .ref s1.heap.objs.size, rawInt 0, .none, .none] }).IsTupleIter s1.heap.objs.size a 0 :=
        ⟨_, Heap.get?_push_of_some _ (Heap.get?_push_size _ rfl), rfl, rfl⟩
      refine wpAny_pyIter_enum he ?_
      have I2 := I1.kept (t' := s1.toks) (h' := (s1.heap.push { cls := .type "tuple_iterator", data := .fields #[.ref a, .int 0 0] }).push
          { cls := .type "enumerate", data := .fields #[.none, .bool false, .ref s1.heap.objs.size, rawInt 0, .none, .none] })
        (fun b o x => Heap.get?_push_of_some _ (Heap.get?_push_of_some _ x))
      refine ⟨s1.heap.objs.size + 1, [s1.heap.objs.size + 1, s1.heap.objs.size], _, _, H1, rfl, I2,
        turn_enumT a (s1.heap.objs.size + 1) s1.heap.objs.size, ⟨⟨.none, he⟩, hit, Nat.succ_ne_self _⟩, fun b hb => ?_, q⟩
      have hle : s1.heap.objs.size ≤ b := by
        have e' : b = s1.heap.objs.size + 1 ∨ b = s1.heap.objs.size := by simpa using hb
        rcases e' with z | z
        · rw [z]; exact Nat.le_succ _
        · rw [z]; exact Nat.le_refl _
      exact I1.fpOk hle (I1.hok.fresh hle)

/-- the walk of enumerate(t), t a tuple: Pv i σ H ahead of turn i -/
theorem for_enumT {K : PySem.W.Frag} {a : Addr} {xs : List V} {g : TG} {tb : TS} {D : Ends} {σ : L2.St} {H : Hp} (Pv : Nat → L2.St → Hp → Prop)
    (h0 : Pv 0 σ H) (hl : ∀ i σ H, i ≤ xs.length → Pv i σ H → SqT K H a xs)
    (hs : ∀ i x σ H T, xs[i]? = some x → Pv i σ H → H T = none →
      g (.ref T) σ (upd H T (.tup [.int (i : Nat), x])) fun σ2 H2 => tb { D with nx := Pv (i + 1), ct := Pv (i + 1), bk := D.nx } σ2 H2)
    (hd : ∀ σ H, Pv xs.length σ H → D.nx σ H) :
    ∃ W : Nat → Nat → L2.St → Hp → Prop, (∃ m, W 0 m σ H) ∧ ∀ i m σ H, W i m σ H →
      ((IteT K a).stop i H ∧ D.nx σ H) ∨ ((IteT K a).go i H ∧ ∃ N : L2.St → Hp → Prop, (∀ σ' H', N σ' H' → ∃ m', m' < m ∧ W (i + 1) m' σ' H') ∧
        ∀ x H', (IteT K a).yld i H x H' → g x σ H' fun σ2 H2 => tb { D with nx := N, ct := N, bk := D.nx } σ2 H2) := by
  refine ⟨fun i m σ H => m = xs.length - i ∧ i ≤ xs.length ∧ Pv i σ H, ⟨xs.length, by simp, Nat.zero_le _, h0⟩, ?_⟩
  intro i m σ H ⟨e, hi, p⟩
  subst e
  have q := hl i σ H hi p
  by_cases hlt : i < xs.length
  · refine Or.inr ⟨⟨xs, xs[i], q, by simp [hlt]⟩, Pv (i + 1), fun σ' H' p' => ⟨xs.length - (i + 1), by omega, rfl, hlt, p'⟩, ?_⟩
    intro x H' ⟨T, y, e1, e2, e3, e4⟩
    subst e1 e3
    exact hs i y σ H T (e4 xs q) p e2
  · have e : i = xs.length := by omega
    subst e
    exact Or.inl ⟨⟨xs, q, rfl⟩, hd σ H p⟩
/-- the walk of enumerate(l), l a list -/
theorem for_enumL {K : PySem.W.Frag} {a : Addr} {xs : List V} {g : TG} {tb : TS} {D : Ends} {σ : L2.St} {H : Hp} (Pv : Nat → L2.St → Hp → Prop)
    (h0 : Pv 0 σ H) (hl : ∀ i σ H, i ≤ xs.length → Pv i σ H → SqL K H a xs)
    (hs : ∀ i x σ H T, xs[i]? = some x → Pv i σ H → H T = none →
      g (.ref T) σ (upd H T (.tup [.int (i : Nat), x])) fun σ2 H2 => tb { D with nx := Pv (i + 1), ct := Pv (i + 1), bk := D.nx } σ2 H2)
    (hd : ∀ σ H, Pv xs.length σ H → D.nx σ H) :
    ∃ W : Nat → Nat → L2.St → Hp → Prop, (∃ m, W 0 m σ H) ∧ ∀ i m σ H, W i m σ H →
      ((Ite K a).stop i H ∧ D.nx σ H) ∨ ((Ite K a).go i H ∧ ∃ N : L2.St → Hp → Prop, (∀ σ' H', N σ' H' → ∃ m', m' < m ∧ W (i + 1) m' σ' H') ∧
        ∀ x H', (Ite K a).yld i H x H' → g x σ H' fun σ2 H2 => tb { D with nx := N, ct := N, bk := D.nx } σ2 H2) := by
  refine ⟨fun i m σ H => m = xs.length - i ∧ i ≤ xs.length ∧ Pv i σ H, ⟨xs.length, by simp, Nat.zero_le _, h0⟩, ?_⟩
  intro i m σ H ⟨e, hi, p⟩
  subst e
  have q := hl i σ H hi p
  by_cases hlt : i < xs.length
  · refine Or.inr ⟨⟨xs, xs[i], q, by simp [hlt]⟩, Pv (i + 1), fun σ' H' p' => ⟨xs.length - (i + 1), by omega, rfl, hlt, p'⟩, ?_⟩
    intro x H' ⟨T, y, e1, e2, e3, e4⟩
    subst e1 e3
    exact hs i y σ H T (e4 xs q) p e2
  · have e : i = xs.length := by omega
    subst e
    exact Or.inl ⟨⟨xs, q, Nat.le_refl _⟩, hd σ H p⟩
end Gd
/-! Slices with a step: tuples and lists. -/
namespace Gd
open PySem PySem.Spec PyProof.Rows L2 Builtin

/-- the places that a tuple's slice with a step takes -/
def stepIx (n : Nat) (lo hi : Option Int) (c : Int) : List Nat :=
  (List.range (Slice.slicePlaces (Slice.sliceAdjust lo hi c n).1 (Slice.sliceAdjust lo hi c n).2 c)).map fun (k : Nat) =>
    ((Slice.sliceAdjust lo hi c n).1 + (k : Int) * c).toNat
section
variable {prog : Program} {w : World} {A : Around} {E : Value → Shared → Prop} {s : Shared}
theorem tup_step {t sl : Addr} {items : Array Value} {vl vu vs : Value} {lo hi : Option Int} {c : Int} {Q : Value → Shared → Prop}
    (ht : IsTup s.heap t items) (hs : s.heap.IsSliceOf sl vl vu vs) (pl : IsPart vl lo) (pu : IsPart vu hi) (ps : IsPart vs (some c))
    (h0 : c ≠ 0) (h1 : c ≠ 1) (hz : ((stepIx items.size lo hi c).filterMap (items[·]?)).length ≤ sizeLine)
    (h : Q (.ref s.heap.objs.size) { s with heap := s.heap.push { cls := .type "tuple", data := .seq ((stepIx items.size lo hi c).filterMap (items[·]?)).toArray } }) :
    wpAny (model prog w) A (getItem (.ref t) (.ref sl)) Q E s := by
  obtain ⟨os, hos, hcs, hds⟩ := id hs
  have hTs : s.TypeIs (.ref sl) "slice" := ⟨os, hos, hcs⟩
  unfold getItem
  try with_reducible refine wpAny_holding ?_
  first | refine wpAny_bind (wpAny_pure ?_) | skip
  refine wpAny_bind (wpAny_sequenceKey ht.typeIs (by decide) ?_)
  refine wpAny_bind (wpAny_callSpecial?_slot (name := Str.ofString "__getitem__") ht.typeIs PyProof.Rows.slot_tuple_getitem
    (wpAny_call_entry PyProof.Rows.slot_tuple_getitem ht.typeIs entry_tuple_getitem ?_ (args_tuple_getitem _ _)))
  show wpAny _ _ (Builtin.Tuple.tupleItemsOf (.ref t) >>= _) _ _ s
  apply wpAny_bind
  apply tupleItemsOf_ ht
  refine wpAny_bind (wpAny_typeOf hTs ?_)
  rw [if_pos (by decide)]
  have app : ∀ {A' : Around} {E' : Value → Shared → Prop} {Q' : Int × Int × Nat → Shared → Prop}, Q' ((Slice.sliceAdjust lo hi c items.size).1, c, Slice.slicePlaces (Slice.sliceAdjust lo hi c items.size).1 (Slice.sliceAdjust lo hi c items.size).2 c) s →
      wpAny (model prog w) A' (Slice.sliceApplied (.ref sl) (pure (items.size : Int))) Q' E' s := by
    intro A' E' Q' q
    unfold Slice.sliceApplied Slice.sliceFields
    refine wpAny_bind (wpAny_bind (wpAny_field hos hds (x := vl) rfl (wpAny_bind (wpAny_field hos hds (x := vu) rfl (wpAny_bind (wpAny_field hos hds (x := vs) rfl (wpAny_pure ?_)))))))
    refine wpAny_bind (HT.slicePart_ ps ?_)
    show wpAny _ _ (if (c == 0) = true then _ else _) _ _ s
    rw [if_neg (by simpa using h0)]
    exact wpAny_bind (HT.slicePart_ pl (wpAny_bind (HT.slicePart_ pu (wpAny_bind (wpAny_pure (wpAny_pure q))))))
  refine wpAny_bind (app ?_)
  have hno : ¬ (((Slice.sliceAdjust lo hi c items.size).1 == 0 && c == 1 && Slice.slicePlaces (Slice.sliceAdjust lo hi c items.size).1 (Slice.sliceAdjust lo hi c items.size).2 c == items.size) = true) := by
    intro q
    rw [Bool.and_eq_true, Bool.and_eq_true] at q
    exact h1 (eq_of_beq q.1.2)
  show wpAny _ _ (if ((Slice.sliceAdjust lo hi c items.size).1 == 0 && c == 1 && Slice.slicePlaces (Slice.sliceAdjust lo hi c items.size).1 (Slice.sliceAdjust lo hi c items.size).2 c == items.size) = true then _ else _) _ _ s
  rw [if_neg hno]
  have ei : ((List.range (Slice.slicePlaces (Slice.sliceAdjust lo hi c items.size).1 (Slice.sliceAdjust lo hi c items.size).2 c)).filterMap fun (k : Nat) => items[((Slice.sliceAdjust lo hi c items.size).1 + (k : Int) * c).toNat]?) =
      (stepIx items.size lo hi c).filterMap (items[·]?) := by
    unfold stepIx
    rw [List.filterMap_map]
    rfl
  rw [ei]
  have hsz : sizeOk (.seq ((stepIx items.size lo hi c).filterMap (items[·]?)).toArray) := by
    show ((stepIx items.size lo hi c).filterMap (items[·]?)).toArray.size ≤ sizeLine
    rw [List.size_toArray]
    exact hz
  exact wpAny_bind (m := Builtin.Tuple.tupleExact _) (wpAny_newObj_type (wpAny_pure ⟨_, rfl, wpAny_pure h⟩) hsz)
end

theorem step_back (n : Nat) : stepIx n none none (-1) = (List.range n).map fun k => n - 1 - k := by
  have e1 : Slice.sliceAdjust none none (-1) (n : Int) = ((n : Int) - 1, -1) := rfl
  have e2 : Slice.slicePlaces ((n : Int) - 1) (-1) (-1) = n := by
    unfold Slice.slicePlaces
    rw [if_neg (by decide)]
    by_cases h : (n : Int) - 1 > -1
    · rw [if_pos h]
      have : ((n : Int) - 1 - -1 - 1) / (- -1) = (n : Int) - 1 := by
        rw [show (- -1 : Int) = 1 by decide, Int.ediv_one]; omega
      rw [this]; omega
    · rw [if_neg h]; omega
  unfold stepIx
  rw [e1]
  simp only []
  rw [e2]
  apply List.map_congr_left
  intro k hk
  have := List.mem_range.mp hk
  omega
theorem fm_some {α β : Type} {f : α → Option β} {g : α → β} : ∀ {l : List α}, (∀ x ∈ l, f x = some (g x)) → l.filterMap f = l.map g
  | [], _ => rfl
  | a :: l, h => by
    rw [List.filterMap_cons, h a (by simp), List.map_cons, fm_some fun x hx => h x (by simp [hx])]
theorem pick_back {α : Type} (xs : List α) : ((List.range xs.length).map fun k => xs.length - 1 - k).filterMap (xs[·]?) = xs.reverse := by
  cases hx : xs with
  | nil => rfl
  | cons x0 r =>
    rw [← hx, List.filterMap_map]
    have e : (List.range xs.length).filterMap ((fun x => xs[x]?) ∘ fun k => xs.length - 1 - k) = (List.range xs.length).map fun k => xs[xs.length - 1 - k]?.getD x0 := by
      apply fm_some
      intro k hk
      have hk' := List.mem_range.mp hk
      simp [show xs.length - 1 - k < xs.length by omega]
    rw [e]
    apply List.ext_getElem
    · simp
    · intro i h1 h2
      have hi : i < xs.length := by simpa using h1
      simp [show xs.length - 1 - i < xs.length by omega]
section
variable {X : Cx}
/-- t[::-1] of a tuple -/
def rBackT (K : PySem.W.Frag) : V → Option Int → Option Int → Option Int → Hp → VK → Prop := fun x lo hi st H Q =>
  ∃ a xs, x = .ref a ∧ SqT K H a xs ∧ lo = none ∧ hi = none ∧ st = some (-1) ∧ ∀ p, H p = none → Q (.ref p) (upd H p (.tup xs.reverse))
theorem ss_backT : SlS X (rBackT X.K) := by
  intro pins s σ H x v vl vu vs lo hi st sl Q I rx hs pl pu ps h
  obtain ⟨a, xs, rfl, hx, rfl, rfl, rfl, q⟩ := h
  cases rx
  obtain ⟨its, r, ht, hz⟩ := I.tuple hx
  have hl := r.length
  have e : (stepIx its.toArray.size none none (-1)).filterMap (its.toArray[·]?) = its.reverse := by
    rw [step_back, List.size_toArray]
    have := pick_back its
    simpa using this
  refine ⟨"tuple", _, PyProof.Rows.slot_tuple_getitem.lookup, ht.typeIs, ?_⟩
  refine tup_step ht hs pl pu ps (by decide) (by decide) (by rw [e, List.length_reverse]; omega) ?_
  rw [e]
  refine ⟨.ref s.heap.objs.size, _, I.laid (t' := s.toks) (o := .tup xs.reverse) (fun b ob q => Heap.get?_push_of_some _ q) (Nat.le_refl _) ?_, rfl, q _ (I.hok.fresh (Nat.le_refl _))⟩
  exact ⟨by rw [List.length_reverse]; exact hz, _, r.reverse, IsTup.new _ _⟩
/-- l[::-1] of a list -/
def rBackL (K : PySem.W.Frag) : V → Option Int → Option Int → Option Int → Hp → VK → Prop := fun x lo hi st H Q =>
  ∃ a xs, x = .ref a ∧ SqL K H a xs ∧ lo = none ∧ hi = none ∧ st = some (-1) ∧ ∀ p, H p = none → Q (.ref p) (upd H p (.lst xs.reverse))
theorem ss_backL : SlS X (rBackL X.K) := by
  intro pins s σ H x v vl vu vs lo hi st sl Q I rx hs pl pu ps h
  obtain ⟨a, xs, rfl, hx, rfl, rfl, rfl, q⟩ := h
  cases rx
  obtain ⟨its, r, ht, hz⟩ := I.list hx
  have hl := r.length
  refine ⟨"list", _, PySem.slot_list_getitem.lookup, ht.isList.typeIs, ?_⟩
  refine wpAny_getItem_list_slice ht.isList hs pl pu ps (by decide) ?_ (by rw [List.size_toArray]; omega)
  rw [PySem.W.krv_pick]
  refine ⟨.ref _, _, I.laid (t' := s.toks) (o := .lst xs.reverse) (fun b ob q => Heap.get?_push_of_some _ q) (Nat.le_refl _) ?_, rfl, q _ (I.hok.fresh (Nat.le_refl _))⟩
  exact ⟨by rw [List.length_reverse]; exact hz, _, 0, r.reverse, Heap.get?_push_size _ rfl⟩
end
end Gd
/-! Words for whole laws: a def's place, growing heaps, the box of draws. -/
namespace Gd
open PySem PySem.Spec PyProof.Rows L2

/-- where a def stands and how its arguments bind -/
structure Df (K : PySem.W.Frag) (mg : Str → Option Value) (x : Str) (f : Addr) (fd : FuncData) (ps : List Str) : Prop where
  g : mg x = some (.ref f)
  k : PySem.W.keepIn K (.ref f) = true
  b : Binds K fd ps []

theorem pe_const {X : Cx} {x : Str} {pos : Pos} {i : Int} (hg : Gl X x) (h : ∃ t, X.mg x = some (.int i t))
    (hd : (x == ("__debug__" : Str)) = false := by decide) : PE X (.Name x pos) (tC (.int i)) := by
  obtain ⟨t, h⟩ := h
  exact pe_glob hg h ⟨_, rfl⟩ hd
theorem pe_constS {X : Cx} {x : Str} {pos : Pos} {i : Str} (hg : Gl X x) (h : ∃ t, X.mg x = some (.str i t))
    (hd : (x == ("__debug__" : Str)) = false := by decide) : PE X (.Name x pos) (tC (.str i)) := by
  obtain ⟨t, h⟩ := h
  exact pe_glob hg h ⟨_, rfl⟩ hd

/-! ### heaps that grow -/
def Ex (H H' : Hp) : Prop := ∀ a o, H a = some o → H' a = some o
theorem Ex.rfl' (H : Hp) : Ex H H := fun _ _ h => h
theorem Ex.tr {H H1 H2 : Hp} (a : Ex H H1) (b : Ex H1 H2) : Ex H H2 := fun x o h => b x o (a x o h)
theorem Ex.new {H : Hp} {p : Addr} {o : HO} (h : H p = none) : Ex H (upd H p o) := fun a u e => by
  rw [upd_ne (ne_of_none e h)]; exact e
/-- a place that G does not know may change -/
theorem Ex.mut {G H : Hp} {p : Addr} {o : HO} (e : Ex G H) (h : G p = none) : Ex G (upd H p o) := fun a u ha => by
  rw [upd_ne (ne_of_none ha h)]; exact e a u ha
theorem Ex.both {G H : Hp} {p : Addr} {o : HO} (e : Ex G H) : Ex (upd G p o) (upd H p o) := fun a u ha => by
  by_cases hp : a = p
  · subst hp
    rw [upd_same] at ha ⊢
    exact ha
  · rw [upd_ne hp] at ha ⊢
    exact e a u ha
theorem Ex.free {G H : Hp} {p : Addr} (e : Ex G H) (h : H p = none) : G p = none := by
  cases q : G p with
  | none => rfl
  | some o => rw [e p o q] at h; cases h
theorem Ex.l {K : PySem.W.Frag} {H H' : Hp} {a : Addr} {xs : List V} (e : Ex H H') (h : SqL K H a xs) : SqL K H' a xs := by
  rcases h with (h | ⟨o, h⟩) | h
  · exact .inl (.inl (e _ _ h))
  · exact .inl (.inr ⟨o, e _ _ h⟩)
  · exact .inr h
theorem Ex.t {K : PySem.W.Frag} {H H' : Hp} {a : Addr} {xs : List V} (e : Ex H H') (h : SqT K H a xs) : SqT K H' a xs := by
  rcases h with (h | ⟨o, h⟩) | h
  · exact .inl (.inl (e _ _ h))
  · exact .inl (.inr ⟨o, e _ _ h⟩)
  · exact .inr h
/-- all but what stands at a is kept -/
def Kp (a : Addr) (H H' : Hp) : Prop := ∀ b o, b ≠ a → H b = some o → H' b = some o
theorem Kp.rfl' (a : Addr) (H : Hp) : Kp a H H := fun _ _ _ h => h
theorem Kp.tr {a : Addr} {H H1 H2 : Hp} (x : Kp a H H1) (y : Kp a H1 H2) : Kp a H H2 := fun b o n h => y b o n (x b o n h)
theorem Kp.at {a : Addr} {H : Hp} {o : HO} : Kp a H (upd H a o) := fun b u n h => by rw [upd_ne n]; exact h
theorem Kp.of {a : Addr} {H H' : Hp} (e : Ex H H') : Kp a H H' := fun b o _ h => e b o h
theorem Kp.mut {a p : Addr} {H H1 : Hp} {o : HO} (e : Kp a H H1) (h : H p = none) : Kp a H (upd H1 p o) := fun b u n hb => by
  rw [upd_ne (ne_of_none hb h)]; exact e b u n hb
theorem Ex.kp {a : Addr} {G H H' : Hp} (e : Ex G H) (g : G a = none) (k : Kp a H H') : Ex G H' := fun b o h =>
  k b o (ne_of_none h g) (e b o h)
theorem Kp.free {a p : Addr} {H H' : Hp} (k : Kp a H H') (n : p ≠ a) (h : H' p = none) : H p = none := by
  cases q : H p with
  | none => rfl
  | some o => rw [k p o n q] at h; cases h

/-! ### the box of draws: three ints -/
def BoxAt (H : Hp) (a : Addr) (c : Nat) : Prop := ∃ x y z : Int, H a = some (.lst [.int x, .int y, .int z]) ∧
  0 ≤ y ∧ y < 2147483629 ∧ 0 ≤ z ∧ z ≤ c
theorem BoxAt.up {H : Hp} {a : Addr} {c d : Nat} (b : BoxAt H a c) (h : c ≤ d) : BoxAt H a d := by
  obtain ⟨x, y, z, e, h1, h2, h3, h4⟩ := b
  exact ⟨x, y, z, e, h1, h2, h3, by omega⟩
theorem BoxAt.some {H : Hp} {a : Addr} {c : Nat} (b : BoxAt H a c) : H a ≠ none := by
  obtain ⟨x, y, z, e, _⟩ := b
  rw [e]; simp
theorem BoxAt.ne {H : Hp} {a p : Addr} {c : Nat} (b : BoxAt H a c) (h : H p = none) : p ≠ a := by
  intro e; subst e; exact b.some h
theorem BoxAt.ne' {H : Hp} {a p : Addr} {c : Nat} (b : BoxAt H a c) (h : H p = none) : a ≠ p := (b.ne h).symm
theorem BoxAt.ex {H H' : Hp} {a : Addr} {c : Nat} (b : BoxAt H a c) (e : Ex H H') : BoxAt H' a c := by
  obtain ⟨x, y, z, h, r⟩ := b
  exact ⟨x, y, z, e _ _ h, r⟩
theorem BoxAt.upd {H : Hp} {a p : Addr} {c : Nat} {o : HO} (b : BoxAt H a c) (h : a ≠ p) : BoxAt (upd H p o) a c := by
  obtain ⟨x, y, z, e, r⟩ := b
  exact ⟨x, y, z, by rw [upd_ne h]; exact e, r⟩

theorem natAbs_small {m k : Int} (h0 : 0 ≤ m) (h1 : m < 2147483647) (h2 : 0 ≤ k) (h3 : k < 1000000000000000000) : (m + k).natAbs < 2 ^ 64 := by omega
theorem BoxAt.drawn {H : Hp} {a : Addr} {c : Nat} {x y z : Int} (y0 : 0 ≤ y) (y1 : y < 2147483629) (z0 : 0 ≤ z) (z1 : z ≤ ((c + 1 : Nat) : Int)) :
    BoxAt (L2.upd H a (.lst [.int x, .int y, .int z])) a (c + 1) := ⟨x, y, z, upd_same, y0, y1, z0, by omega⟩
/-- take(box, n) -/
def spTake : Sp := fun vs H Q _ => ∃ (a : Addr) (c : Nat) (n : Int), vs = [.ref a, .int n] ∧ BoxAt H a c ∧ c < 1000000000 ∧ 0 < n ∧ n < 1000000000 ∧
  ∀ (r : Int) (H' : Hp), Kp a H H' → BoxAt H' a (c + 1) → 0 ≤ r → r < n → Q (.int r) H'
/-- a place that was free behind a kept heap was free before -/
theorem Kp.none {a p : Addr} {c : Nat} {H H' : Hp} (k : Kp a H H') (b : BoxAt H' a c) (h : H' p = none) : H p = none := k.free (b.ne h) h
/-- cell(script, k) -/
def spCell (K : PySem.W.Frag) : Sp := fun vs H Q _ => ∃ (a : Addr) (ns : List Int) (k : Int), vs = [.ref a, .int k] ∧ SqL K H a (ns.map V.int) ∧
  ns.length ≤ 63 ∧ 0 ≤ k ∧ k < 100 ∧ ∀ i, Q (.int i) H
/-- box(i) -/
def spBox : Sp := fun vs H Q _ => ∃ i : Int, vs = [.int i] ∧ ∀ a x y : _, H a = none → 0 ≤ y → y < 2147483629 → Q (.ref a) (upd H a (.lst [.int x, .int y, .int 0]))
end Gd
/-! Letters, pieces, names; plain data over a growing heap. -/
namespace Gd
open PySem PySem.Spec PyProof.Rows L2

def lowB (c : Nat) : Bool := decide (97 ≤ c) && decide (c ≤ 122)
def upB (c : Nat) : Bool := decide (65 ≤ c) && decide (c ≤ 90)
def letB (c : Nat) : Bool := lowB c || upB c
theorem uni_ascii : ∀ c < 128, Unicode.isAlpha c = letB c ∧ Unicode.isLower c = lowB c ∧ Unicode.isUpper c = upB c ∧ Unicode.isTitle c = false := by decide +kernel
theorem letB_lt {c : Nat} (h : letB c = true) : c < 128 := by
  unfold letB lowB upB at h
  simp at h
  omega
theorem lowB_let {c : Nat} (h : lowB c = true) : letB c = true := by unfold letB; rw [h]; rfl
/-- a piece -/
def pieceB (z : Str) : Bool := z.cps.toList.all letB
/-- a name -/
def nameB (z : Str) : Bool := z.cps.toList.all lowB && decide (1 ≤ z.length) && decide (z.length ≤ 4)
theorem all_list {z : Str} {p : Nat → Bool} : z.cps.all p = z.cps.toList.all p := by simp
theorem len_list (z : Str) : z.length = z.cps.toList.length := by simp [Str.length]
/-- what is_piece says of a text -/
theorem piece_of (z : Str) : (decide ((z.length : Int) = 0) || (Txt.isascii z && Txt.isalpha z)) = pieceB z := by
  unfold Txt.isascii Txt.isalpha pieceB
  rw [all_list, all_list, len_list]
  generalize z.cps.toList = l
  cases l with
  | nil => rfl
  | cons c r =>
    have e1 : decide (((c :: r).length : Int) = 0) = false := decide_eq_false (by simp; omega)
    have e2 : decide ((c :: r).length > 0) = true := by simp
    rw [e1, e2, Bool.false_or, Bool.true_and]
    generalize (c :: r) = l
    induction l with
    | nil => rfl
    | cons a l ih =>
      simp only [List.all_cons]
      by_cases ha : a < 128
      · rw [(uni_ascii a ha).1, decide_eq_true ha, Bool.true_and]
        rw [← ih]
        cases letB a <;> simp
      · have e3 : letB a = false := by
          cases h : letB a with
          | false => rfl
          | true => exact absurd (letB_lt h) ha
        rw [decide_eq_false ha, e3]
        simp
/-- what is_name says of a text -/
theorem name_of (z : Str) : (pieceB z && (Txt.islower z && decide ((z.length : Int) ≤ 4))) = nameB z := by
  unfold Txt.islower pieceB nameB
  rw [show z.cps.any Unicode.isLower = z.cps.toList.any Unicode.isLower by simp,
    show (z.cps.any fun c => Unicode.isUpper c || Unicode.isTitle c) = z.cps.toList.any fun c => Unicode.isUpper c || Unicode.isTitle c by simp, len_list]
  generalize z.cps.toList = l
  have e1 : decide ((l.length : Int) ≤ 4) = decide (l.length ≤ 4) := by
    by_cases h : l.length ≤ 4
    · rw [decide_eq_true h, decide_eq_true (by omega)]
    · rw [decide_eq_false h, decide_eq_false (by omega)]
  rw [e1]
  by_cases hp : l.all letB = true
  · rw [hp]
    have h : ∀ c ∈ l, letB c = true := List.all_eq_true.mp hp
    have e2 : l.any Unicode.isLower = l.any lowB := by
      apply Bool.eq_iff_iff.mpr
      simp only [List.any_eq_true]
      constructor
      · rintro ⟨c, hc, q⟩; exact ⟨c, hc, by rw [← (uni_ascii c (letB_lt (h c hc))).2.1]; exact q⟩
      · rintro ⟨c, hc, q⟩; exact ⟨c, hc, by rw [(uni_ascii c (letB_lt (h c hc))).2.1]; exact q⟩
    have e3 : (l.any fun c => Unicode.isUpper c || Unicode.isTitle c) = l.any upB := by
      apply Bool.eq_iff_iff.mpr
      simp only [List.any_eq_true]
      constructor
      · rintro ⟨c, hc, q⟩
        have u := uni_ascii c (letB_lt (h c hc))
        rw [u.2.2.1, u.2.2.2, Bool.or_false] at q
        exact ⟨c, hc, q⟩
      · rintro ⟨c, hc, q⟩
        have u := uni_ascii c (letB_lt (h c hc))
        exact ⟨c, hc, by rw [u.2.2.1, q]; rfl⟩
    have e4 : (l.any lowB && !l.any upB) = (l.all lowB && decide (1 ≤ l.length)) := by
      apply Bool.eq_iff_iff.mpr
      simp only [Bool.and_eq_true, Bool.not_eq_true', List.any_eq_true, List.any_eq_false, List.all_eq_true, decide_eq_true_eq]
      constructor
      · rintro ⟨⟨c, hc, _⟩, q⟩
        refine ⟨fun d hd => ?_, List.length_pos_of_mem hc⟩
        have := h d hd
        unfold letB at this
        rw [Bool.or_eq_true] at this
        rcases this with t | t
        · exact t
        · exact absurd t (q d hd)
      · rintro ⟨q, hl⟩
        obtain ⟨c, hc⟩ := List.exists_mem_of_length_pos hl
        refine ⟨⟨c, hc, q c hc⟩, fun d hd t => ?_⟩
        have := q d hd
        unfold lowB at this
        unfold upB at t
        simp at this t
        omega
    rw [e2, e3, Bool.true_and, e4]
  · have e : l.all letB = false := by simpa using hp
    have e5 : l.all lowB = false := by
      cases q : l.all lowB with
      | false => rfl
      | true =>
        exfalso
        apply hp
        exact List.all_eq_true.mpr fun c hc => lowB_let (List.all_eq_true.mp q c hc)
    rw [e, e5]
    simp

/-- ASCII alone -/
def ascB (z : Str) : Bool := z.cps.toList.all fun c => decide (c < 128)
/-- a text within the limits -/
def okS (z : Str) : Bool := decide (z.length ≤ 100000) && ascB z
theorem okS_len {z : Str} (h : okS z = true) : z.length ≤ 100000 := by
  unfold okS at h
  simp at h
  exact h.1
theorem okS_asc {z : Str} (h : okS z = true) : ∀ c ∈ z.cps.toList, c < 128 := by
  unfold okS ascB at h
  rw [Bool.and_eq_true] at h
  intro c hc
  exact of_decide_eq_true (List.all_eq_true.mp h.2 c hc)
theorem okS_of {z : Str} (h : z.length ≤ 100000) (a : ∀ c ∈ z.cps.toList, c < 128) : okS z = true := by
  unfold okS ascB
  rw [Bool.and_eq_true]
  exact ⟨decide_eq_true h, List.all_eq_true.mpr fun c hc => decide_eq_true (a c hc)⟩

/-! ### plain data -/
inductive D where
  | non | bl (b : Bool) | int (i : Int) | str (z : Str) | lst (xs : List D) | tup (xs : List D) | oth
mutual
/-- v stands for d; O tells which other objects may stand -/
inductive DV (O : HO → Prop) (H : Hp) : V → D → Prop
  | non : DV O H .non .non
  | bl (b : Bool) : DV O H (.bl b) (.bl b)
  | int (i : Int) : DV O H (.int i) (.int i)
  | str (z : Str) (h : okS z = true) : DV O H (.str z) (.str z)
  | lst {a : Addr} {vs : List V} {ds : List D} (h : H a = some (.lst vs)) (r : DVs O H vs ds) (l : vs.length ≤ 100000) : DV O H (.ref a) (.lst ds)
  | tup {a : Addr} {vs : List V} {ds : List D} (h : H a = some (.tup vs)) (r : DVs O H vs ds) (l : vs.length ≤ 100000) : DV O H (.ref a) (.tup ds)
  | oth {a : Addr} {o : HO} (h : H a = some o) (p : O o) : DV O H (.ref a) .oth
inductive DVs (O : HO → Prop) (H : Hp) : List V → List D → Prop
  | nil : DVs O H [] []
  | cons {v : V} {d : D} {vs : List V} {ds : List D} (h : DV O H v d) (r : DVs O H vs ds) : DVs O H (v :: vs) (d :: ds)
end
section
variable {O : HO → Prop} {H H' : Hp}
mutual
theorem DV.ex (e : Ex H H') : ∀ (d : D) (v : V), DV O H v d → DV O H' v d
  | .non, _, .non => .non
  | .bl _, _, .bl b => .bl b
  | .int _, _, .int i => .int i
  | .str _, _, .str z h => .str z h
  | .lst ds, _, .lst h r l => .lst (e _ _ h) (DVs.ex e ds _ r) l
  | .tup ds, _, .tup h r l => .tup (e _ _ h) (DVs.ex e ds _ r) l
  | .oth, _, .oth h p => .oth (e _ _ h) p
theorem DVs.ex (e : Ex H H') : ∀ (ds : List D) (vs : List V), DVs O H vs ds → DVs O H' vs ds
  | [], _, .nil => .nil
  | d :: ds, _, .cons h r => .cons (DV.ex e d _ h) (DVs.ex e ds _ r)
end
theorem DVs.length : ∀ {vs : List V} {ds : List D}, DVs O H vs ds → vs.length = ds.length
  | _, _, .nil => rfl
  | _, _, .cons _ r => by simp [DVs.length r]
theorem DVs.get : ∀ {vs : List V} {ds : List D} {i : Nat} {v : V}, DVs O H vs ds → vs[i]? = some v → ∃ d, ds[i]? = some d ∧ DV O H v d
  | _, _, 0, _, .cons h _, e => by simp at e; subst e; exact ⟨_, rfl, h⟩
  | _, _, i + 1, _, .cons _ r, e => by simpa using DVs.get r (by simpa using e)
theorem DVs.app : ∀ {vs ws : List V} {ds es : List D}, DVs O H vs ds → DVs O H ws es → DVs O H (vs ++ ws) (ds ++ es)
  | _, _, _, _, .nil, s => s
  | _, _, _, _, .cons h r, s => .cons h (DVs.app r s)
theorem DVs.set {v : V} {d : D} (h : DV O H v d) : ∀ {vs : List V} {ds : List D} (i : Nat), DVs O H vs ds → DVs O H (vs.set i v) (ds.set i d)
  | _, _, _, .nil => .nil
  | _, _, 0, .cons _ r => .cons h r
  | _, _, i + 1, .cons g r => .cons g (DVs.set h i r)
theorem DVs.take : ∀ {vs : List V} {ds : List D} (n : Nat), DVs O H vs ds → DVs O H (vs.take n) (ds.take n)
  | _, _, 0, _ => by simp; exact .nil
  | _, _, n + 1, .nil => by simp; exact .nil
  | _, _, n + 1, .cons g r => .cons g (DVs.take n r)
theorem DVs.drop : ∀ {vs : List V} {ds : List D} (n : Nat), DVs O H vs ds → DVs O H (vs.drop n) (ds.drop n)
  | _, _, 0, r => r
  | _, _, n + 1, .nil => by simp; exact .nil
  | _, _, n + 1, .cons _ r => DVs.drop n r
end

def isStr : D → Bool | .str _ => true | _ => false
def isBl : D → Bool | .bl _ => true | _ => false
def isIntB : D → Bool | .int _ => true | .bl _ => true | _ => false
def isTup : D → Bool | .tup _ => true | _ => false
def isLst : D → Bool | .lst _ => true | _ => false
/-- what is asked of other objects: no text, no bool, no int, no tuple, no list -/
def OthOk (K : PySem.W.Frag) (O : HO → Prop) : Prop := ∀ (H : Hp) (a : Addr) (o : HO), O o → H a = some o → ∃ t, TyX K H (.ref a) t ∧
  PySem.W.kitOne K t (.type "str") = some false ∧ PySem.W.kitOne K t (.type "bool") = some false ∧ PySem.W.kitOne K t (.type "int") = some false ∧
  PySem.W.kitOne K t (.type "tuple") = some false ∧ PySem.W.kitOne K t (.type "list") = some false
theorem kit5 {K : PySem.W.Frag} (T : String) (a b c d e : Bool)
    (h : [kitB T "str", kitB T "bool", kitB T "int", kitB T "tuple", kitB T "list"] = [some a, some b, some c, some d, some e]) :
    PySem.W.kitOne K (.type T) (.type "str") = some a ∧ PySem.W.kitOne K (.type T) (.type "bool") = some b ∧ PySem.W.kitOne K (.type T) (.type "int") = some c ∧
    PySem.W.kitOne K (.type T) (.type "tuple") = some d ∧ PySem.W.kitOne K (.type T) (.type "list") = some e := by
  injection h with h1 h
  injection h with h2 h
  injection h with h3 h
  injection h with h4 h
  injection h with h5 h
  exact ⟨kit_ty h1, kit_ty h2, kit_ty h3, kit_ty h4, kit_ty h5⟩
/-- what isinstance says -/
theorem DV.ty {K : PySem.W.Frag} {O : HO → Prop} {H : Hp} (ho : OthOk K O) {v : V} {d : D} (h : DV O H v d) : ∃ t, TyX K H v t ∧
    PySem.W.kitOne K t (.type "str") = some (isStr d) ∧ PySem.W.kitOne K t (.type "bool") = some (isBl d) ∧ PySem.W.kitOne K t (.type "int") = some (isIntB d) ∧
    PySem.W.kitOne K t (.type "tuple") = some (isTup d) ∧ PySem.W.kitOne K t (.type "list") = some (isLst d) := by
  cases h with
  | non => exact ⟨_, .base .non, kit5 "NoneType" false false false false false (by decide +kernel)⟩
  | bl b => exact ⟨_, .base (.bl b), kit5 "bool" false true true false false (by decide +kernel)⟩
  | int i => exact ⟨_, .base (.int i), kit5 "int" false false true false false (by decide +kernel)⟩
  | str z _ => exact ⟨_, .base (.str z), kit5 "str" true false false false false (by decide +kernel)⟩
  | lst h _ _ => exact ⟨_, .base (.lst h), kit5 "list" false false false false true (by decide +kernel)⟩
  | tup h _ _ => exact ⟨_, .base (.tup h), kit5 "tuple" false false false true false (by decide +kernel)⟩
  | oth h p =>
    obtain ⟨t, h1, h2, h3, h4, h5, h6⟩ := ho H _ _ p h
    exact ⟨t, h1, h2, h3, h4, h5, h6⟩
theorem kit_two {K : PySem.W.Frag} {t a b : Value} {x y : Bool} (h1 : PySem.W.kitOne K t a = some x) (h2 : PySem.W.kitOne K t b = some y) :
    PySem.W.kitAny K t [a, b] = some (x || y) := by
  refine kitAny_cons h1 (fun e => ?_) (fun e => by rw [e]; rfl)
  subst e
  refine kitAny_cons h2 (fun e => ?_) (fun e => by rw [e]; rfl)
  subst e
  rfl

/-! ### what the functions of rows say -/
def isName : D → Bool | .str z => nameB z | _ => false
def isPiece : D → Bool | .str z => pieceB z | _ => false
def isMark : D → Bool | .tup [x, y] => isName x && isBl y | _ => false
def isInt (d : D) (lo hi : Int) : Bool := match d with | .int i => decide (lo ≤ i) && decide (i ≤ hi) | _ => false
def fits (i : Nat) (d : D) : Bool := if i % 2 = 0 then isPiece d else isMark d
/-- the first item that can't stand at its place -/
def misfit : Nat → List D → Option Nat
  | _, [] => none
  | i, d :: ds => if fits i d = true then misfit (i + 1) ds else some i
def isRow : D → Bool
  | .lst xs => decide (xs.length % 2 = 1) && (misfit 0 xs).isNone
  | .tup xs => decide (xs.length % 2 = 1) && (misfit 0 xs).isNone
  | _ => false
end Gd
namespace Gd
open PySem PySem.Spec PyProof.Rows L2
theorem le_line {n : Nat} (h : n ≤ 100000) : n ≤ sizeLine := Nat.le_trans h (by decide)
theorem tyS {K : PySem.W.Frag} {z : Str} {H : Hp} : tyV K "str" (.str z) H := rfl
theorem bl_to {Q : VK} {H : Hp} {a b : Bool} (e : a = b) (h : Q (.bl b) H) : Q (.bl a) H := by rw [e]; exact h
theorem dec_int0 (n : Nat) : decide (V.int (n : Int) = V.int 0) = decide ((n : Int) = 0) := by
  by_cases h : (n : Int) = 0
  · rw [h]; rfl
  · rw [decide_eq_false h, decide_eq_false (fun e => h (V.int.inj e))]
end Gd
namespace Gd
open PySem PySem.Spec PyProof.Rows L2
/-- an item at a place in bounds, by what holds of all -/
theorem atI_all {α : Type} {xs : List α} {r : Int} (Pr : α → Prop) (h0 : 0 ≤ r) (h1 : r < xs.length) (h : ∀ v ∈ xs, Pr v) : ∃ v, atI xs r = some v ∧ Pr v := by
  have h2 : r.toNat < xs.length := by omega
  refine ⟨xs[r.toNat], ?_, h _ (List.getElem_mem h2)⟩
  unfold atI ixN
  rw [if_pos h0, if_pos (by simpa using h1)]
  simp [h2]
theorem sub_sl {n m : Nat} (h : n ≤ 100000) (h2 : m ≤ 100000) : n + m ≤ sizeLine := Nat.le_trans (Nat.add_le_add h h2) (by decide)
theorem join_size {ys : List Str} {k : Nat} {a : Str} (h : ∀ y ∈ ys, y.length ≤ k) : (ys.map (·.length)).sum + ys.length * a.length ≤ ys.length * (k + a.length) := by
  induction ys with
  | nil => simp
  | cons y ys ih =>
    have h1 := h y (by simp)
    have h2 := ih fun z hz => h z (by simp [hz])
    simp only [List.map_cons, List.sum_cons, List.length_cons]
    rw [Nat.add_mul, Nat.add_mul, Nat.mul_add] at *
    omega
theorem str_app_list (x y : Str) : (x ++ y).cps.toList = x.cps.toList ++ y.cps.toList := by
  show (x.cps ++ y.cps).toList = _
  simp
theorem sjoin_list : ∀ ys : List Str, (Str.join "" ys).cps.toList = (ys.map (·.cps.toList)).flatten
  | [] => rfl
  | [x] => by simp [Str.join]
  | x :: y :: r => by
    have e : Str.join "" (x :: y :: r) = x ++ ("" : Str) ++ Str.join "" (y :: r) := rfl
    have e2 : ("" : Str).cps.toList = [] := rfl
    rw [e, str_app_list, str_app_list, sjoin_list (y :: r), e2]
    simp
theorem join_empty_list (ys : List Str) : (Txt.join "" ys).cps.toList = (ys.map (·.cps.toList)).flatten := by
  rw [show Txt.join "" ys = Str.join "" ys from PySem.StrLaws.glued_eq_join "" ys]
  exact sjoin_list ys
theorem sum_len : ∀ {ys : List Str} {k : Nat}, (∀ y ∈ ys, y.length ≤ k) → ((ys.map (·.cps.toList)).flatten).length ≤ ys.length * k
  | [], _, _ => by simp
  | y :: ys, k, h => by
    have h1 := h y (by simp)
    have h2 := sum_len (ys := ys) fun z hz => h z (by simp [hz])
    rw [len_list] at h1
    simp only [List.map_cons, List.flatten_cons, List.length_append, List.length_cons, Nat.add_mul]
    omega
theorem join_len {ys : List Str} {k : Nat} (h : ∀ y ∈ ys, y.length ≤ k) : (Txt.join "" ys).length ≤ ys.length * k := by
  rw [len_list, join_empty_list]
  exact sum_len h
theorem join_asc {ys : List Str} (h : ∀ y ∈ ys, ∀ c ∈ y.cps.toList, c < 128) : ∀ c ∈ (Txt.join "" ys).cps.toList, c < 128 := by
  intro c hc
  rw [join_empty_list] at hc
  obtain ⟨l, hl, hc⟩ := List.mem_flatten.mp hc
  obtain ⟨y, hy, rfl⟩ := List.mem_map.mp hl
  exact h y hy c hc
theorem join_fits {ys : List Str} {k n : Nat} (h : ∀ y ∈ ys, y.length ≤ k) (hn : ys.length ≤ n) (hk : n * k ≤ 16777216) :
    (ys.map (·.length)).sum + ys.length * ("" : Str).length ≤ 16777216 := by
  have h1 := join_size (a := "") h
  have h2 : ys.length * (k + ("" : Str).length) ≤ n * k := Nat.mul_le_mul hn (Nat.le_of_eq rfl)
  omega
end Gd
namespace Gd
open PySem PySem.Spec PyProof.Rows L2
/-- a text of such a length -/
def strIn (lo hi : Nat) : V → Bool
  | .str z => decide (lo ≤ z.length) && decide (z.length ≤ hi) && ascB z
  | _ => false
theorem strIn_of {lo hi : Nat} {v : V} (h : strIn lo hi v = true) : ∃ z, v = .str z ∧ lo ≤ z.length ∧ z.length ≤ hi ∧ ∀ c ∈ z.cps.toList, c < 128 := by
  cases v with
  | str z =>
    unfold strIn ascB at h
    rw [Bool.and_eq_true, Bool.and_eq_true] at h
    exact ⟨z, rfl, of_decide_eq_true h.1.1, of_decide_eq_true h.1.2, fun c hc => of_decide_eq_true (List.all_eq_true.mp h.2 c hc)⟩
  | _ => cases h
end Gd
namespace Gd
open PySem PySem.Spec PyProof.Rows L2
/-- a comprehension's turn without a test -/
theorem lcY {σ : L2.St} {H : Hp} {A B : Hp → Prop} (h : A H) : tYes σ H fun b H3 => if b = true then A H3 else B H3 := by
  show if true = true then A H else B H
  exact iteT h
end Gd
/-! Every other item. -/
namespace Gd
open PySem PySem.Spec PyProof.Rows L2 Builtin

def evens {α : Type} : List α → List α
  | [] => []
  | [x] => [x]
  | x :: _ :: r => x :: evens r
def odds {α : Type} : List α → List α
  | [] => []
  | [_] => []
  | _ :: y :: r => y :: odds r
theorem vals_pick {xs : List V} {us : List Value} (r : Vals xs us) : ∀ ix : List Nat, Vals (ix.filterMap (xs[·]?)) (ix.filterMap (us[·]?))
  | [] => .nil
  | i :: ix => by
    have ih := vals_pick r ix
    rw [List.filterMap_cons, List.filterMap_cons]
    cases h : xs[i]? with
    | none => rw [r.none_of h]; exact ih
    | some x =>
      obtain ⟨u, hu, ru⟩ := r.get h
      rw [hu]
      exact .cons ru ih
/-- the places of every other item from j on -/
theorem pick_evens {α : Type} : ∀ (xs : List α) (pre : List α), (List.range ((xs.length + 1) / 2)).filterMap (fun k => (pre ++ xs)[pre.length + k * 2]?) = evens xs
  | [], pre => by simp [evens]
  | [x], pre => by simp [evens]
  | x :: y :: r, pre => by
    have e : ((x :: y :: r).length + 1) / 2 = (r.length + 1) / 2 + 1 := by simp; omega
    rw [e, List.range_succ_eq_map, List.filterMap_cons]
    have e0 : (pre ++ x :: y :: r)[pre.length + 0 * 2]? = some x := by simp
    rw [e0, List.filterMap_map]
    have ih := pick_evens r (pre ++ [x, y])
    show x :: _ = x :: evens r
    rw [← ih]
    congr 1
    apply congrArg (fun f => List.filterMap f (List.range ((r.length + 1) / 2)))
    funext k
    show (pre ++ x :: y :: r)[pre.length + (k + 1) * 2]? = (pre ++ [x, y] ++ r)[(pre ++ [x, y]).length + k * 2]?
    rw [List.append_assoc]
    have : (pre ++ [x, y]).length + k * 2 = pre.length + (k + 1) * 2 := by simp; omega
    rw [this]
    rfl
theorem odds_eq {α : Type} : ∀ xs : List α, odds xs = evens (xs.drop 1)
  | [] => rfl
  | [_] => rfl
  | [_, y] => rfl
  | _ :: y :: z :: r => by
    show y :: odds (z :: r) = evens (y :: z :: r)
    rw [odds_eq (z :: r)]
    rfl
theorem evens_length {α : Type} : ∀ xs : List α, (evens xs).length = (xs.length + 1) / 2
  | [] => by simp [evens]
  | [_] => by simp [evens]
  | _ :: _ :: r => by
    show (evens r).length + 1 = _
    rw [evens_length r]
    simp
    omega
theorem odds_length {α : Type} (xs : List α) : (odds xs).length = xs.length / 2 := by
  rw [odds_eq, evens_length, List.length_drop]
  omega
theorem evens_get {α : Type} : ∀ (xs : List α) (k : Nat), (evens xs)[k]? = xs[2 * k]?
  | [], k => by simp [evens]
  | [x], 0 => rfl
  | [x], k + 1 => by
    show ([] : List α)[k]? = _
    rw [List.getElem?_eq_none (by simp), List.getElem?_eq_none (by simp; omega)]
  | x :: y :: r, 0 => rfl
  | x :: y :: r, k + 1 => by
    show (evens r)[k]? = _
    rw [evens_get r k]
    show r[2 * k]? = (x :: y :: r)[2 * k + 2]?
    rfl
theorem odds_get {α : Type} (xs : List α) (k : Nat) : (odds xs)[k]? = xs[2 * k + 1]? := by
  rw [odds_eq, evens_get, List.getElem?_drop]
  congr 1
  omega
theorem bounds_two (n : Nat) : sliceBounds none none (some 2) n = (0, (n : Int), 2) := rfl
theorem bounds_one (n : Nat) : sliceBounds (some 1) none (some 2) n = (min 1 (n : Int), (n : Int), 2) := by
  unfold sliceBounds
  simp
  omega
theorem range_two (a n : Nat) (h : a ≤ n) : sliceRange (a : Int) (n : Int) 2 = (List.range ((n - a + 1) / 2)).map fun k => a + k * 2 := by
  unfold sliceRange
  have e : (if (2 : Int) > 0 then (if (a : Int) < n then ((n : Int) - a + 2 - 1) / 2 else 0) else (if (a : Int) > n then ((a : Int) - n - 2 - 1) / (-2) else 0)).toNat = (n - a + 1) / 2 := by
    rw [if_pos (by decide)]
    split <;> omega
  show (List.range _).map _ = _
  rw [e]
  apply List.map_congr_left
  intro k _
  omega
theorem pick0 {α : Type} (xs : List α) : (sliceRange (sliceBounds none none (some 2) xs.length).1 (sliceBounds none none (some 2) xs.length).2.1 (sliceBounds none none (some 2) xs.length).2.2).filterMap (xs[·]?) = evens xs := by
  rw [bounds_two]
  have := range_two 0 xs.length (Nat.zero_le _)
  simp only [] at this ⊢
  rw [show ((0 : Nat) : Int) = 0 from rfl] at this
  rw [this, List.filterMap_map]
  have q := pick_evens xs []
  simpa [Function.comp_def] using q
theorem pick1 {α : Type} (xs : List α) : (sliceRange (sliceBounds (some 1) none (some 2) xs.length).1 (sliceBounds (some 1) none (some 2) xs.length).2.1 (sliceBounds (some 1) none (some 2) xs.length).2.2).filterMap (xs[·]?) = odds xs := by
  rw [bounds_one]
  cases xs with
  | nil => rfl
  | cons x r =>
    have e : min 1 ((x :: r).length : Int) = ((1 : Nat) : Int) := by simp; omega
    simp only []
    rw [e, range_two 1 (x :: r).length (by simp), List.filterMap_map, odds_eq]
    have q := pick_evens r [x]
    rw [List.drop_one, List.tail_cons, ← q]
    have : (x :: r).length - 1 + 1 = r.length + 1 := by simp
    rw [this]
    rfl

section
variable {X : Cx}
/-- l[::2] and l[1::2] of a list -/
def rTwoL (K : PySem.W.Frag) : V → Option Int → Option Int → Option Int → Hp → VK → Prop := fun x lo hi st H Q =>
  ∃ a xs, x = .ref a ∧ SqL K H a xs ∧ hi = none ∧ st = some 2 ∧
    ((lo = none ∧ ∀ p, H p = none → Q (.ref p) (upd H p (.lst (evens xs)))) ∨ (lo = some 1 ∧ ∀ p, H p = none → Q (.ref p) (upd H p (.lst (odds xs)))))
theorem ss_twoL : SlS X (rTwoL X.K) := by
  intro pins s σ H x v vl vu vs lo hi st sl Q I rx hs pl pu ps h
  obtain ⟨a, xs, rfl, hx, rfl, rfl, q⟩ := h
  cases rx
  obtain ⟨its, r, ht, hz⟩ := I.list hx
  have hl := r.length
  have hpick : ∀ lo', (slicePick its.toArray lo' none (some 2)) = ((sliceRange (sliceBounds lo' none (some 2) its.length).1 (sliceBounds lo' none (some 2) its.length).2.1 (sliceBounds lo' none (some 2) its.length).2.2).filterMap (its[·]?)).toArray := by
    intro lo'
    unfold slicePick
    simp
  refine ⟨"list", _, PySem.slot_list_getitem.lookup, ht.isList.typeIs, ?_⟩
  refine wpAny_getItem_list_slice ht.isList hs pl pu ps (by decide) ?_ (by rw [List.size_toArray]; omega)
  rw [hpick]
  rcases q with ⟨rfl, q⟩ | ⟨rfl, q⟩
  · refine ⟨.ref _, _, I.laid (t' := s.toks) (o := .lst (evens xs)) (fun b ob q => Heap.get?_push_of_some _ q) (Nat.le_refl _) ?_, rfl, q _ (I.hok.fresh (Nat.le_refl _))⟩
    refine ⟨by rw [evens_length]; omega, _, 0, ?_, Heap.get?_push_size _ rfl⟩
    have := vals_pick r (sliceRange (sliceBounds none none (some 2) its.length).1 (sliceBounds none none (some 2) its.length).2.1 (sliceBounds none none (some 2) its.length).2.2)
    rw [← hl, pick0 xs] at this
    rw [← hl]
    exact this
  · refine ⟨.ref _, _, I.laid (t' := s.toks) (o := .lst (odds xs)) (fun b ob q => Heap.get?_push_of_some _ q) (Nat.le_refl _) ?_, rfl, q _ (I.hok.fresh (Nat.le_refl _))⟩
    refine ⟨by rw [odds_length]; omega, _, 0, ?_, Heap.get?_push_size _ rfl⟩
    have := vals_pick r (sliceRange (sliceBounds (some 1) none (some 2) its.length).1 (sliceBounds (some 1) none (some 2) its.length).2.1 (sliceBounds (some 1) none (some 2) its.length).2.2)
    rw [← hl, pick1 xs] at this
    rw [← hl]
    exact this
end
end Gd
/-! Rules whose reading names the written part by a letter (for a comprehension's element). -/
namespace Gd
open PySem PySem.Spec PyProof.Rows L2
section
variable {X : Cx} {K : PySem.W.Frag}
/-- an expression that is never reached -/
theorem pe_never {e : Expr} : PE X e (fun _ _ _ => False) := ⟨fun _ _ _ _ _ _ h => h.elim⟩
theorem ix_listK (e : X.K = K) : IxR X (rIxL K) := e ▸ ix_list
theorem ix_tupK (e : X.K = K) : IxR X (rIxT K) := e ▸ ix_tup
theorem sl_listK (e : X.K = K) : SlR X (rSlL K) := e ▸ sl_list
theorem op_in_seqK (e : X.K = K) : OpR X (compareOp .In) (rIn K false) := e ▸ op_in_seq
theorem op_notIn_seqK (e : X.K = K) : OpR X (compareOp .NotIn) (rIn K true) := e ▸ op_notIn_seq
theorem op_eqDK (e : X.K = K) (hu : X.A.units + 64 < cLine) : OpR X (compareOp .Eq) (rEqD K) := e ▸ op_eqD hu
theorem op_neDK (e : X.K = K) (hu : X.A.units + 64 < cLine) : OpR X (compareOp .NotEq) (rNeD K) := e ▸ op_neD hu
theorem call_isiK' (e : X.K = K) : CallR X (.builtin "isinstance") (rIsi K) := e ▸ call_isi
theorem call_reprK (e : X.K = K) (hgd : X.A.guards = some []) (hu : X.A.units + 66 < cLine) : CallR X (.builtin "repr") (rReprD K) := e ▸ call_reprD hgd hu
def rLen (K : PySem.W.Frag) : List V → Hp → VK → Prop := fun xs H Q => ∃ p ys, xs = [.ref p] ∧ (SqL K H p ys ∨ SqT K H p ys) ∧ Q (.int (ys.length : Nat)) H
theorem call_lenK (e : X.K = K) : CallR X (.builtin "len") (rLen K) := by subst e; exact call_len_seq
end
end Gd
namespace Gd
open PySem PySem.Spec PyProof.Rows L2
/-- G is what is known for good, H what stands; the box at a is apart; G0, H0 what was so at the start -/
structure Sta (G0 H0 G H : Hp) (a : Addr) (c : Nat) : Prop where
  ex : Ex G H
  ga : G a = none
  bx : BoxAt H a c
  kp : Kp a H0 H
  up : Ex G0 G
  fr : ∀ b, H0 b ≠ none → G0 b = none → G b = none
section
variable {G0 H0 G G' H H' : Hp} {a p : Addr} {c d : Nat} {o : HO}
theorem Sta.start (e : Ex G H) (g : G a = none) (b : BoxAt H a c) : Sta G H G H a c := ⟨e, g, b, Kp.rfl' a H, Ex.rfl' G, fun _ _ h => h⟩
theorem Sta.new (S : Sta G0 H0 G H a c) (hp : H p = none) (o : HO) : Sta G0 H0 (upd G p o) (upd H p o) a c :=
  ⟨S.ex.both, by rw [upd_ne (S.bx.ne hp).symm]; exact S.ga, S.bx.upd (S.bx.ne' hp), S.kp.mut (S.kp.none S.bx hp), S.up.mut (S.up.free (S.ex.free hp)), fun b hb g => by
    rw [upd_ne (fun e => hb (by rw [e]; exact S.kp.none S.bx hp))]
    exact S.fr b hb g⟩
theorem Sta.hid (S : Sta G0 H0 G H a c) (hp : H p = none) (o : HO) : Sta G0 H0 G (upd H p o) a c :=
  ⟨S.ex.mut (S.ex.free hp), S.ga, S.bx.upd (S.bx.ne' hp), S.kp.mut (S.kp.none S.bx hp), S.up, S.fr⟩
theorem Sta.put (S : Sta G0 H0 G H a c) (hg : G p = none) (ha : p ≠ a) (h0 : H0 p = none) (o : HO) : Sta G0 H0 G (upd H p o) a c :=
  ⟨S.ex.mut hg, S.ga, S.bx.upd ha.symm, S.kp.mut h0, S.up, S.fr⟩
theorem Sta.draw (S : Sta G0 H0 G H a c) (k : Kp a H H') (b : BoxAt H' a d) : Sta G0 H0 G H' a d := ⟨S.ex.kp S.ga k, S.ga, b, S.kp.tr k, S.up, S.fr⟩
theorem Sta.grow (S : Sta G0 H0 G H a c) (e : Ex H H') : Sta G0 H0 G H' a c := ⟨S.ex.tr e, S.ga, S.bx.ex e, S.kp.tr (Kp.of e), S.up, S.fr⟩
theorem Sta.enew (S : Sta G0 H0 G H a c) (hp : H p = none) : Ex G (upd G p o) := Ex.new (S.ex.free hp)
theorem Sta.le (S : Sta G0 H0 G H a c) (h : c ≤ d) : Sta G0 H0 G H a d := ⟨S.ex, S.ga, S.bx.up h, S.kp, S.up, S.fr⟩
/-- other parts kept: an instance that G does not know -/
theorem Sta.kpx {x : Addr} (S : Sta G0 H0 G H a c) (hg : G x = none) (h0 : H0 x = none) (hx : x ≠ a) (k : Kp x H H') : Sta G0 H0 G H' a c := by
  refine ⟨S.ex.kp hg k, S.ga, ?_, fun b o nb h => ?_, S.up, S.fr⟩
  · obtain ⟨y, z, w, h, r⟩ := S.bx
    exact ⟨y, z, w, k _ _ hx.symm h, r⟩
  · exact k _ _ (ne_of_none h h0) (S.kp _ _ nb h)
theorem Sta.know (S : Sta G0 H0 G H a c) (h : H p = some o) (np : p ≠ a) (h0 : H0 p = none) (g0 : G p = none) : Sta G0 H0 (upd G p o) H a c := by
  refine ⟨fun b u hb => ?_, by rw [upd_ne np.symm]; exact S.ga, S.bx, S.kp, S.up.mut (S.up.free g0), fun b hb g => ?_⟩
  · by_cases e : b = p
    · subst e
      rw [upd_same] at hb
      rw [h]
      exact hb
    · rw [upd_ne e] at hb
      exact S.ex b u hb
  · rw [upd_ne (fun e => hb (by rw [e]; exact h0))]
    exact S.fr b hb g
theorem Sta.tr (S : Sta G0 H0 G H a c) (T : Sta G H G' H' a d) : Sta G0 H0 G' H' a d :=
  ⟨T.ex, T.ga, T.bx, S.kp.tr T.kp, S.up.tr T.up, fun b hb g => T.fr b (fun e => by
    by_cases hba : b = a
    · subst hba; exact S.bx.some e
    · cases q : H0 b with
      | none => exact hb q
      | some u => rw [S.kp b u hba q] at e; cases e) (S.fr b hb g)⟩
end
end Gd

namespace Gd
open PySem PySem.Spec PyProof.Rows L2
theorem DVs.mem {O : HO → Prop} {H : Hp} : ∀ {vs : List V} {ds : List D}, DVs O H vs ds → ∀ v ∈ vs, ∃ d, d ∈ ds ∧ DV O H v d
  | _, _, .nil, v, h => by simp at h
  | _, _, .cons h r, v, hv => by
    rcases List.mem_cons.mp hv with rfl | hv
    · exact ⟨_, by simp, h⟩
    · obtain ⟨d, h1, h2⟩ := DVs.mem r v hv
      exact ⟨d, by simp [h1], h2⟩
end Gd
namespace Gd
open PySem PySem.Spec PyProof.Rows L2
theorem DVs.cut {O : HO → Prop} {H : Hp} {vs : List V} {ds : List D} (h : DVs O H vs ds) (lo hi : Option Int) : ∃ es, DVs O H (cutV vs lo hi) es ∧ ∀ d ∈ es, d ∈ ds :=
  ⟨_, (h.drop _).take _, fun _ hd => List.mem_of_mem_drop (List.mem_of_mem_take hd)⟩
mutual
/-- how deep it goes -/
def dep : D → Nat
  | .lst xs => depAll xs + 1
  | .tup xs => depAll xs + 1
  | _ => 0
def depAll : List D → Nat
  | [] => 0
  | d :: ds => max (dep d) (depAll ds)
end
theorem depAll_le {n : Nat} : ∀ {ds : List D}, (∀ d ∈ ds, dep d ≤ n) → depAll ds ≤ n
  | [], _ => Nat.zero_le _
  | d :: ds, h => by
    have h1 := h d (by simp)
    have h2 := depAll_le (ds := ds) fun x hx => h x (by simp [hx])
    unfold depAll
    omega
theorem dep_of_all {n : Nat} : ∀ {ds : List D}, depAll ds ≤ n → ∀ d ∈ ds, dep d ≤ n
  | d :: ds, h, x, hx => by
    unfold depAll at h
    rcases List.mem_cons.mp hx with rfl | hx
    · omega
    · exact dep_of_all (ds := ds) (by omega) x hx
theorem all_dep {ds : List D} {n : Nat} (h : (ds.all fun d => decide (dep d ≤ n)) = true) : ∀ d ∈ ds, dep d ≤ n := fun d hd => of_decide_eq_true (List.all_eq_true.mp h d hd)
theorem app_mem {q : D → Prop} {xs ys : List D} (h1 : ∀ d ∈ xs, q d) (h2 : ∀ d ∈ ys, q d) : ∀ d ∈ xs ++ ys, q d := fun d hd => by
  rcases List.mem_append.mp hd with h | h
  · exact h1 d h
  · exact h2 d h
theorem one_mem {q : D → Prop} {x : D} (h : q x) : ∀ d ∈ [x], q d := fun d hd => by
  rcases List.mem_cons.mp hd with rfl | hd
  · exact h
  · simp at hd
theorem set_mem {q : D → Prop} {xs : List D} {i : Nat} {x : D} (h1 : ∀ d ∈ xs, q d) (h2 : q x) : ∀ d ∈ xs.set i x, q d := fun d hd => by
  rcases List.mem_or_eq_of_mem_set hd with h | rfl
  · exact h1 d h
  · exact h2
theorem le_100 {n : Nat} (h : n ≤ 100) : n ≤ sizeLine := Nat.le_trans h (by decide)
theorem lt_100 {n : Nat} (h : n ≤ 100) : n < sizeLine := Nat.lt_of_le_of_lt h (by decide)
end Gd
namespace Gd
open PySem PySem.Spec PyProof.Rows L2
theorem sIx_in {n : Nat} {i : Int} {d : Nat} (h0 : 0 ≤ i) (h1 : i ≤ n) : HT.sIx n d (some i) = i.toNat := by
  show (if i < 0 then (i + (n : Int)).toNat else min i.toNat n) = i.toNat
  rw [if_neg (by omega)]
  omega
theorem cut_both {vs : List V} {i : Int} (h0 : 0 ≤ i) (h1 : i < vs.length) : (cutV vs none (some i)).length + (cutV vs (some i) none).length = vs.length := by
  unfold cutV
  rw [sIx_in h0 (by omega), sIx_in h0 (by omega)]
  have e1 : HT.sIx vs.length 0 none = 0 := rfl
  have e2 : HT.sIx vs.length vs.length none = vs.length := rfl
  rw [e1, e2]
  simp
  omega
end Gd
namespace Gd
open PySem PySem.Spec PyProof.Rows L2
/-- one sign -/
def one (c : Nat) : Str := ⟨#[c]⟩
theorem dp_strs {K : PySem.W.Frag} {H : Hp} : ∀ ys : List Str, DpAll K H (ys.map V.str) (ys.map PyData.str)
  | [] => .nil
  | y :: ys => .cons (.str y) (dp_strs ys)
theorem lay_strs : ∀ ys : List Str, (∀ y ∈ ys, PyData.strOk y = true) → PyData.canLayAll0 (ys.map PyData.str) = true
  | [], _ => by simp [PyData.canLayAll0]
  | y :: ys, h => by
    rw [List.map_cons, PyData.canLayAll0, PyData.canLay0, lay_strs ys fun z hz => h z (by simp [hz])]
    rw [Bool.and_true]
    exact h y (by simp)
end Gd
namespace Gd
open PySem PySem.Spec PyProof.Rows L2
/-- a comprehension over a text's signs -/
theorem lc_txt {z : Str} {g : TG} {tt : TT} {te : TE} {vs : List Nat} {σ : L2.St} {H1 : Hp} {D : Addr} {Qd : Hp → Prop} (Pv : Nat → Hp → Prop)
    (h0 : Pv 0 (upd H1 D (.lst [])))
    (hs : ∀ i c H, z.cps.toList[i]? = some c → Pv i H → g (.str (one c)) (wipe σ vs) H fun σ2 H2 => wipe σ2 vs = wipe σ vs ∧ tt σ2 H2 fun b H3 =>
      if b = true then te σ2 H3 fun y H4 => ∃ acc, H4 D = some (.lst acc) ∧ acc.length < sizeLine ∧ Pv (i + 1) (upd H4 D (.lst (acc ++ [y]))) else Pv (i + 1) H3)
    (hd : ∀ H, Pv z.cps.toList.length H → Qd H) :
    ∃ W : Nat → Nat → Hp → Prop, (∃ m, W 0 m (upd H1 D (.lst []))) ∧ ∀ i m H, W i m H →
      ((Its z).stop i H ∧ Qd H) ∨ ((Its z).go i H ∧ ∃ Nx : Hp → Prop, (∀ H', Nx H' → ∃ m', m' < m ∧ W (i + 1) m' H') ∧
        ∀ x H', (Its z).yld i H x H' → g x (wipe σ vs) H' fun σ2 H2 => wipe σ2 vs = wipe σ vs ∧ tt σ2 H2 fun b H3 =>
          if b = true then te σ2 H3 fun y H4 => ∃ acc, H4 D = some (.lst acc) ∧ acc.length < sizeLine ∧ Nx (upd H4 D (.lst (acc ++ [y]))) else Nx H3) := by
  have hl : z.cps.size = z.cps.toList.length := by simp
  refine ⟨fun i m H => m = z.cps.size - i ∧ i ≤ z.cps.size ∧ Pv i H, ⟨z.cps.size, by simp, Nat.zero_le _, h0⟩, ?_⟩
  intro i m H ⟨e, hi, p⟩
  subst e
  by_cases hlt : i < z.cps.size
  · refine Or.inr ⟨hlt, Pv (i + 1), fun H' p' => ⟨z.cps.size - (i + 1), by omega, rfl, hlt, p'⟩, ?_⟩
    intro x H' ⟨e1, c, e2, e3⟩
    subst e1 e3
    exact hs i c H' (by simpa using e2) p
  · have e : i = z.cps.size := by omega
    subst e
    exact Or.inl ⟨Nat.le_refl _, hd H (by rw [← hl]; exact p)⟩
theorem eqv_nil (ds : List PyData) : PyData.eqv (.list ds) (.list []) = ds.isEmpty := by
  cases ds <;> simp [PyData.eqv, PyData.eqvAll]
theorem shaped_nil : SeqAt.shaped (.list []) = true := by simp [SeqAt.shaped, PyData.canLay0, PyData.canLayAll0, PyData.depth, PyData.depthAll]
theorem depth_strs : ∀ ys : List Str, PyData.depthAll (ys.map PyData.str) = 0
  | [] => by simp [PyData.depthAll]
  | y :: ys => by simp [PyData.depthAll, PyData.depth, depth_strs ys]
theorem shaped_strs {ys : List Str} (h : ∀ y ∈ ys, PyData.strOk y = true) : SeqAt.shaped (.list (ys.map PyData.str)) = true := by
  simp [SeqAt.shaped, PyData.canLay0, PyData.depth, depth_strs, lay_strs ys h]
theorem dp_ints {K : PySem.W.Frag} {H : Hp} : ∀ ys : List Int, DpAll K H (ys.map V.int) (ys.map PyData.int)
  | [] => .nil
  | y :: ys => .cons (.int y) (dp_ints ys)
theorem shaped_ints (ys : List Int) : SeqAt.shaped (.list (ys.map PyData.int)) = true := by
  have h1 : ∀ ys : List Int, PyData.canLayAll0 (ys.map PyData.int) = true := by
    intro ys
    induction ys with
    | nil => simp [PyData.canLayAll0]
    | cons y ys ih => simp [PyData.canLayAll0, PyData.canLay0]; simpa using ih
  have h2 : ∀ ys : List Int, PyData.depthAll (ys.map PyData.int) = 0 := by
    intro ys
    induction ys with
    | nil => simp [PyData.depthAll]
    | cons y ys ih => simp [PyData.depthAll, PyData.depth]; simpa using ih
  simp [SeqAt.shaped, PyData.canLay0, PyData.depth, h1, h2]
theorem strOk_one {c : Nat} (h : c < 128) : PyData.strOk (one c) = true := by
  simp [PyData.strOk, one]
  omega
end Gd
namespace Gd
open PySem PySem.Spec PyProof.Rows L2
/-- comprehensions over enumerate of a list, of a tuple -/
theorem lc_enumL {K : PySem.W.Frag} {a : Addr} {xs : List V} {g : TG} {tt : TT} {te : TE} {vs : List Nat} {σ : L2.St} {H1 : Hp} {D : Addr} {Qd : Hp → Prop} (Pv : Nat → Hp → Prop)
    (h0 : Pv 0 (upd H1 D (.lst []))) (hl : ∀ i H, i ≤ xs.length → Pv i H → SqL K H a xs)
    (hs : ∀ i x H T, xs[i]? = some x → Pv i H → H T = none → g (.ref T) (wipe σ vs) (upd H T (.tup [.int (i : Nat), x])) fun σ2 H2 => wipe σ2 vs = wipe σ vs ∧ tt σ2 H2 fun b H3 =>
      if b = true then te σ2 H3 fun y H4 => ∃ acc, H4 D = some (.lst acc) ∧ acc.length < sizeLine ∧ Pv (i + 1) (upd H4 D (.lst (acc ++ [y]))) else Pv (i + 1) H3)
    (hd : ∀ H, Pv xs.length H → Qd H) :
    ∃ W : Nat → Nat → Hp → Prop, (∃ m, W 0 m (upd H1 D (.lst []))) ∧ ∀ i m H, W i m H →
      ((Ite K a).stop i H ∧ Qd H) ∨ ((Ite K a).go i H ∧ ∃ Nx : Hp → Prop, (∀ H', Nx H' → ∃ m', m' < m ∧ W (i + 1) m' H') ∧
        ∀ x H', (Ite K a).yld i H x H' → g x (wipe σ vs) H' fun σ2 H2 => wipe σ2 vs = wipe σ vs ∧ tt σ2 H2 fun b H3 =>
          if b = true then te σ2 H3 fun y H4 => ∃ acc, H4 D = some (.lst acc) ∧ acc.length < sizeLine ∧ Nx (upd H4 D (.lst (acc ++ [y]))) else Nx H3) := by
  refine ⟨fun i m H => m = xs.length - i ∧ i ≤ xs.length ∧ Pv i H, ⟨xs.length, by simp, Nat.zero_le _, h0⟩, ?_⟩
  intro i m H ⟨e, hi, p⟩
  subst e
  have q := hl i H hi p
  by_cases hlt : i < xs.length
  · refine Or.inr ⟨⟨xs, xs[i], q, by simp [hlt]⟩, Pv (i + 1), fun H' p' => ⟨xs.length - (i + 1), by omega, rfl, hlt, p'⟩, ?_⟩
    intro x H' ⟨T, y, e1, e2, e3, e4⟩
    subst e1 e3
    exact hs i y H T (e4 xs q) p e2
  · have e : i = xs.length := by omega
    subst e
    exact Or.inl ⟨⟨xs, q, Nat.le_refl _⟩, hd H p⟩
theorem lc_enumT {K : PySem.W.Frag} {a : Addr} {xs : List V} {g : TG} {tt : TT} {te : TE} {vs : List Nat} {σ : L2.St} {H1 : Hp} {D : Addr} {Qd : Hp → Prop} (Pv : Nat → Hp → Prop)
    (h0 : Pv 0 (upd H1 D (.lst []))) (hl : ∀ i H, i ≤ xs.length → Pv i H → SqT K H a xs)
    (hs : ∀ i x H T, xs[i]? = some x → Pv i H → H T = none → g (.ref T) (wipe σ vs) (upd H T (.tup [.int (i : Nat), x])) fun σ2 H2 => wipe σ2 vs = wipe σ vs ∧ tt σ2 H2 fun b H3 =>
      if b = true then te σ2 H3 fun y H4 => ∃ acc, H4 D = some (.lst acc) ∧ acc.length < sizeLine ∧ Pv (i + 1) (upd H4 D (.lst (acc ++ [y]))) else Pv (i + 1) H3)
    (hd : ∀ H, Pv xs.length H → Qd H) :
    ∃ W : Nat → Nat → Hp → Prop, (∃ m, W 0 m (upd H1 D (.lst []))) ∧ ∀ i m H, W i m H →
      ((IteT K a).stop i H ∧ Qd H) ∨ ((IteT K a).go i H ∧ ∃ Nx : Hp → Prop, (∀ H', Nx H' → ∃ m', m' < m ∧ W (i + 1) m' H') ∧
        ∀ x H', (IteT K a).yld i H x H' → g x (wipe σ vs) H' fun σ2 H2 => wipe σ2 vs = wipe σ vs ∧ tt σ2 H2 fun b H3 =>
          if b = true then te σ2 H3 fun y H4 => ∃ acc, H4 D = some (.lst acc) ∧ acc.length < sizeLine ∧ Nx (upd H4 D (.lst (acc ++ [y]))) else Nx H3) := by
  refine ⟨fun i m H => m = xs.length - i ∧ i ≤ xs.length ∧ Pv i H, ⟨xs.length, by simp, Nat.zero_le _, h0⟩, ?_⟩
  intro i m H ⟨e, hi, p⟩
  subst e
  have q := hl i H hi p
  by_cases hlt : i < xs.length
  · refine Or.inr ⟨⟨xs, xs[i], q, by simp [hlt]⟩, Pv (i + 1), fun H' p' => ⟨xs.length - (i + 1), by omega, rfl, hlt, p'⟩, ?_⟩
    intro x H' ⟨T, y, e1, e2, e3, e4⟩
    subst e1 e3
    exact hs i y H T (e4 xs q) p e2
  · have e : i = xs.length := by omega
    subst e
    exact Or.inl ⟨⟨xs, q, rfl⟩, hd H p⟩
end Gd
/-! Promises of the rows' functions and of the draws. -/
namespace Gd
open PySem PySem.Spec PyProof.Rows L2
/-- a def of one value that says yes or no -/
def spB (O : HO → Prop) (f : D → Bool) : Sp := fun vs H Q _ => ∃ v d, vs = [v] ∧ DV O H v d ∧ ∀ H', Ex H H' → Q (.bl (f d)) H'
/-- a list or a tuple of an odd length -/
def oddLen : D → Bool
  | .lst xs => decide (xs.length % 2 = 1)
  | .tup xs => decide (xs.length % 2 = 1)
  | _ => false
theorem odd_dec (n : Nat) : decide (V.int ((n : Int) % 2) = V.int 1) = decide (n % 2 = 1) := by
  by_cases h : n % 2 = 1
  · rw [decide_eq_true h]
    have : (n : Int) % 2 = 1 := by omega
    rw [this]
    rfl
  · rw [decide_eq_false h, decide_eq_false (fun e => h (by have := V.int.inj e; omega))]
/-- the first item that can't stand at its place, of a list or a tuple -/
def spMisfit (O : HO → Prop) : Sp := fun vs H Q _ => ∃ v ds, vs = [v] ∧ (DV O H v (.lst ds) ∨ DV O H v (.tup ds)) ∧
  (∀ H', Ex H H' → misfit 0 ds = none → Q .non H') ∧ ∀ H' i, Ex H H' → misfit 0 ds = some i → Q (.int (i : Nat)) H'
theorem misfit_drop {ds : List D} {i : Nat} {d : D} (h : ds[i]? = some d) : ds.drop i = d :: ds.drop (i + 1) := by
  obtain ⟨hi, e⟩ := List.getElem?_eq_some_iff.mp h
  rw [← e, List.drop_eq_getElem_cons hi]
theorem misfit_step {ds : List D} {i : Nat} {d : D} (h1 : ds[i]? = some d) (hm : misfit 0 ds = misfit i (ds.drop i)) :
    (fits i d = true → misfit 0 ds = misfit (i + 1) (ds.drop (i + 1))) ∧ (¬ fits i d = true → misfit 0 ds = some i) := by
  rw [misfit_drop h1, misfit] at hm
  exact ⟨fun hf => by rw [hm, if_pos hf], fun hf => by rw [hm, if_neg hf]⟩
theorem even_dec (n : Nat) : decide (V.int ((n : Int) % 2) = V.int 0) = decide (n % 2 = 0) := by
  by_cases h : n % 2 = 0
  · rw [decide_eq_true h]
    have : (n : Int) % 2 = 0 := by omega
    rw [this]
    rfl
  · rw [decide_eq_false h, decide_eq_false (fun e => h (by have := V.int.inj e; omega))]
/-- a valid row is let through -/
def spPass (O : HO → Prop) : Sp := fun vs H Q _ => ∃ v d, vs = [v] ∧ DV O H v d ∧ isRow d = true ∧ ∀ H', Ex H H' → Q .non H'
theorem isRow_cases {d : D} (h : isRow d = true) : (∃ ds, (d = .lst ds ∨ d = .tup ds) ∧ misfit 0 ds = none) ∧ oddLen d = true := by
  cases d with
  | lst ds =>
    unfold isRow at h
    rw [Bool.and_eq_true] at h
    exact ⟨⟨ds, .inl rfl, by simpa using h.2⟩, h.1⟩
  | tup ds =>
    unfold isRow at h
    rw [Bool.and_eq_true] at h
    exact ⟨⟨ds, .inr rfl, by simpa using h.2⟩, h.1⟩
  | _ => cases h
/-- a def that draws a value of some kind -/
def spDraw (O : HO → Prop) (k : Nat) (R : D → Prop) : Sp := fun vs H Q _ => ∃ (a : Addr) (c : Nat) (G : Hp), vs = [.ref a] ∧ BoxAt H a c ∧ c + k < 1000000000 ∧ Ex G H ∧ G a = none ∧
  ∀ (v : V) (d : D) (G' H' : Hp), Sta G H G' H' a (c + k) → DV O G' v d → R d → Q v H'
/-- a def that draws a text -/
def spText (k m : Nat) : Sp := fun vs H Q _ => ∃ (a : Addr) (c : Nat), vs = [.ref a] ∧ BoxAt H a c ∧ c + k < 1000000000 ∧
  ∀ (z : Str) (H' : Hp), Kp a H H' → BoxAt H' a (c + k) → z.length ≤ m → okS z = true → Q (.str z) H'
theorem decI {i j : Int} : decide (V.int i = V.int j) = decide (i = j) := by
  by_cases h : i = j
  · rw [h]; simp
  · rw [decide_eq_false h, decide_eq_false (fun e => h (V.int.inj e))]
/-- dicts, and strips -/
def OO (C : Addr) : HO → Prop := fun o => (∃ kvs, o = .dK kvs) ∨ ∃ dx fs, o = .ins C dx fs
theorem isRow_odd {d : D} (h : oddLen d = false) : isRow d = false := by
  cases d with
  | tup ds =>
    show (decide (ds.length % 2 = 1) && (misfit 0 ds).isNone) = false
    rw [show decide (ds.length % 2 = 1) = false from h, Bool.false_and]
  | lst ds =>
    show (decide (ds.length % 2 = 1) && (misfit 0 ds).isNone) = false
    rw [show decide (ds.length % 2 = 1) = false from h, Bool.false_and]
  | _ => rfl
theorem isRow_seq {d : D} {ds : List D} (hd : d = .lst ds ∨ d = .tup ds) (h : oddLen d = true) : isRow d = (misfit 0 ds).isNone := by
  rcases hd with rfl | rfl
  · show (decide (ds.length % 2 = 1) && (misfit 0 ds).isNone) = _
    rw [show decide (ds.length % 2 = 1) = true from h, Bool.true_and]
  · show (decide (ds.length % 2 = 1) && (misfit 0 ds).isNone) = _
    rw [show decide (ds.length % 2 = 1) = true from h, Bool.true_and]
/-- the places that do not fit, as they are gathered -/
def Bad (ds : List D) (i : Nat) (ks : List Int) : Prop := (ks = [] ∧ misfit 0 ds = misfit i (ds.drop i)) ∨ (ks ≠ [] ∧ (misfit 0 ds).isSome = true)
theorem Bad.good {ds : List D} {i : Nat} {d : D} {ks : List Int} (h : Bad ds i ks) (hd : ds[i]? = some d) (hf : fits i d = true) : Bad ds (i + 1) ks := by
  rcases h with ⟨h1, h2⟩ | h
  · exact .inl ⟨h1, (misfit_step hd h2).1 hf⟩
  · exact .inr h
theorem Bad.bad {ds : List D} {i : Nat} {d : D} {ks : List Int} {x : Int} (h : Bad ds i ks) (hd : ds[i]? = some d) (hf : ¬ fits i d = true) : Bad ds (i + 1) (ks ++ [x]) := by
  rcases h with ⟨h1, h2⟩ | h
  · exact .inr ⟨by simp, by rw [(misfit_step hd h2).2 hf]; rfl⟩
  · exact .inr ⟨by simp, h.2⟩
theorem Bad.done {ds : List D} {ks : List Int} (h : Bad ds ds.length ks) : (ks.map PyData.int).isEmpty = (misfit 0 ds).isNone := by
  rcases h with ⟨h1, h2⟩ | ⟨h1, h2⟩
  · rw [h1, h2, List.drop_length]
    rfl
  · cases ks with
    | nil => exact absurd rfl h1
    | cons a r =>
      cases hm : misfit 0 ds with
      | none => rw [hm] at h2; cases h2
      | some j => rfl
theorem kinds_at {d : D} {i : Nat} : atI [V.bl (isName d), V.bl (isPiece d), V.bl (isMark d), V.bl (isRow d)] (1 + (i : Int) % 2) = some (V.bl (fits i d)) := by
  by_cases h : i % 2 = 0
  · have e : (1 + (i : Int) % 2) = 1 := by omega
    rw [e]
    unfold fits
    rw [if_pos h]
    rfl
  · have e : (1 + (i : Int) % 2) = 2 := by omega
    rw [e]
    unfold fits
    rw [if_neg h]
    rfl
/-- kinds(thing), as deep as it goes -/
def spKinds (O : HO → Prop) (n : Nat) : Sp := fun vs H Q _ => ∃ v d, vs = [v] ∧ DV O H v d ∧ dep d ≤ n ∧ ∀ p H', Ex H H' → H p = none → H' p = some (.lst [.bl (isName d), .bl (isPiece d), .bl (isMark d), .bl (isRow d)]) → Q (.ref p) H'
end Gd
namespace Gd
open PySem PySem.Spec PyProof.Rows L2
/-- how many turns a law takes -/
theorem turns_le {n : Int} (m : Int) (h0 : 0 ≤ n) (h : 2 ≤ m) (hm : m ≤ 50) : 0 ≤ (if (if n < m then n else m) > 2 then (if n < m then n else m) else 2) ∧ (if (if n < m then n else m) > 2 then (if n < m then n else m) else 2) ≤ 50 := by
  constructor <;> (split <;> split <;> omega)
end Gd
namespace Gd
open PySem PySem.Spec PyProof.Rows L2
theorem asc_mul {z : Str} {n : Int} (h : ∀ c ∈ z.cps.toList, c < 128) : ∀ c ∈ (mulS z n).cps.toList, c < 128 := by
  intro c hc
  have : c ∈ (List.replicate n.toNat z.cps.toList).flatten := by simpa [mulS] using hc
  obtain ⟨l, hl, hc⟩ := List.mem_flatten.mp this
  rw [(List.mem_replicate.mp hl).2] at hc
  exact h c hc
theorem len_mul (z : Str) (n : Int) : (mulS z n).length = n.toNat * z.length := by
  show (mulS z n).cps.size = _
  simp [mulS, Str.length]
theorem DVs.rep {O : HO → Prop} {H : Hp} {vs : List V} {ds : List D} (h : DVs O H vs ds) : ∀ n : Nat, DVs O H (List.replicate n vs).flatten (List.replicate n ds).flatten
  | 0 => .nil
  | n + 1 => by
    rw [List.replicate_succ, List.replicate_succ, List.flatten_cons, List.flatten_cons]
    exact h.app (DVs.rep h n)
theorem rep_mem {q : D → Prop} {ds : List D} (h : ∀ d ∈ ds, q d) (n : Nat) : ∀ d ∈ (List.replicate n ds).flatten, q d := by
  intro d hd
  obtain ⟨l, hl, hc⟩ := List.mem_flatten.mp hd
  rw [(List.mem_replicate.mp hl).2] at hc
  exact h d hc
theorem rep_len {α : Type} (xs : List α) (n : Nat) : ((List.replicate n xs).flatten).length = n * xs.length := by simp
theorem cons_mem {q : D → Prop} {x : D} {xs : List D} (h : q x) (h2 : ∀ d ∈ xs, q d) : ∀ d ∈ x :: xs, q d := fun d hd => by
  rcases List.mem_cons.mp hd with rfl | hd
  · exact h
  · exact h2 d hd
theorem nil_mem {q : D → Prop} : ∀ d ∈ ([] : List D), q d := fun d hd => by simp at hd
end Gd
namespace Gd
open PySem PySem.Spec PyProof.Rows L2
theorem bool4 (a b c e : Bool) : PyData.showable (.list [.bool a, .bool b, .bool c, .bool e]) = true ∧ PyData.hasDict (.list [.bool a, .bool b, .bool c, .bool e]) = false ∧
    PyData.depth (.list [.bool a, .bool b, .bool c, .bool e]) ≤ 64 ∧ (PyData.shown (.list [.bool a, .bool b, .bool c, .bool e])).length ≤ sizeLine := by
  cases a <;> cases b <;> cases c <;> cases e <;> exact ⟨by decide +kernel, by decide +kernel, by decide +kernel, by decide +kernel⟩
theorem bool1 (a : Bool) : PyData.showable (.bool a) = true ∧ PyData.hasDict (.bool a) = false ∧ PyData.depth (.bool a) ≤ 64 ∧ (PyData.shown (.bool a)).length ≤ sizeLine := by
  cases a <;> exact ⟨by decide +kernel, by decide +kernel, by decide +kernel, by decide +kernel⟩
theorem ne_self (z : Str) : (!decide (V.str z = V.str z)) = false := by simp
end Gd
/-! The end of a law whose promise leans on empty guards. -/
namespace Gd
open PySem PySem.Spec PyProof.Rows L2

/-- the one place that the script may take in the abstract heap -/
def onlyAt (a : Addr) (o : Obj) (xs : List V) : Hp := fun b => if b = a then some (.frz o (.lst xs)) else none
theorem onlyAt_same {a : Addr} {o : Obj} {xs : List V} : onlyAt a o xs a = some (.frz o (.lst xs)) := if_pos rfl
theorem onlyAt_ne {a b : Addr} {o : Obj} {xs : List V} (h : b ≠ a) : onlyAt a o xs b = none := if_neg h

section
variable {P : Program} {w : World} {K : PySem.W.Frag} {mg mb : Str → Option Value} {CX : CXT} {k : Nat} {fa a : Addr} {fd : FuncData}
  {x : Str} {sp : Sp} {s₁ : Shared} {vs : List Value} {ns : List Int}

/-- what the end of the call says of the whole heap -/
theorem ended (H : Hp) (only : Only H) (ok : HOk P w H s₁.heap) {r : Result} {s' : Shared}
    (hx : ∀ e s', ¬ CX [] H s₁ (fun _ _ _ => False) e s')
    (h : CR CX [] P w H s₁ (fun v _ => v = V.bl true) (fun _ _ _ => False) r s') :
    r = .ok (.ret (.bool true)) ∧ OldK s₁.heap s'.heap ∧ s'.os = s₁.os ∧ AllBare s'.gens := by
  match r, h with
  | .error e, h => exact absurd h (hx e s')
  | .ok .next, h => exact h.elim
  | .ok .brk, h => exact h.elim
  | .ok .cont, h => exact h.elim
  | .ok (.ret u), ⟨v, H', os, bare, un, ok', rv, hv⟩ =>
    have hv' : v = V.bl true := hv
    subst hv'
    have hu : u = Value.bool true := rv
    subst hu
    refine ⟨rfl, ?_, os, bare⟩
    apply OldK.of_keep
    intro b o hb
    have none_in : b ∉ ([] : List Addr) := by simp
    rcases only b with hn | ⟨ob, ys, hf⟩
    · exact un.keep b o hb hn none_in none_in
    · have e1 := (ok b _ hf).1
      have e2 := (ok' b _ (un.frzs b ob _ hf)).1
      rw [hb] at e1
      cases e1
      exact e2

theorem callG (KX : K.In s₁.heap) (hns : s₁.heap.Ns mainGlobals mg) (hb : s₁.heap.Ns builtinsNs mb) (hbb : ∀ x : Str, x ≠ "__name__" → mb x = bootBuiltins x)
    (hlim : s₁.heap.NoLimit) (hg : s₁.gens = #[]) (ha : s₁.heap.get? a = some { cls := .type "list", data := .seq vs.toArray }) (hi : IntsAre vs ns)
    (hl : ns.length ≤ sizeLine) (hr : Room k callerA)
    (F : ∀ base : Heap, K.In base → base.Ns mainGlobals mg → FnG P w K mg base CX k fa fd [x] sp)
    (hbind : ∀ (s : Shared) (u : Value), BindsTo s fd ⟨[u], []⟩ [(x, u)])
    (hsp : ∀ H : Hp, Only H → SqL K H a (ns.map V.int) → sp [.ref a] H (fun v _ => v = .bl true) fun _ _ _ => False)
    (hCX : ∀ H e s', ¬ CX [] H s₁ (fun _ _ _ => False) e s') :
    codeAny (model P w) callerA (.call (.ref fa) ⟨[.ref a], []⟩)
      (fun r s' => r = .ok (.ret (.bool true)) ∧ OldK s₁.heap s'.heap ∧ s'.os = s₁.os ∧ AllBare s'.gens) s₁ := by
  have rv := vals_ints hi
  have lenV := hi.length
  have go : ∀ H : Hp, Only H → SqL K H a (ns.map V.int) → HOk P w H s₁.heap → (∀ b, H b ≠ none → b = a ∧ K.lookup b = none) →
      codeAny (model P w) callerA (.call (.ref fa) ⟨[.ref a], []⟩)
        (fun r s' => r = .ok (.ret (.bool true)) ∧ OldK s₁.heap s'.heap ∧ s'.os = s₁.os ∧ AllBare s'.gens) s₁ := by
    intro H only sq ok at_a
    have free : ∀ {b : Addr} {o : Obj}, s₁.heap.get? b = some o → (∀ us, o.data ≠ .seq us) → H b = none := by
      intro b o e nd
      cases q : H b with
      | none => rfl
      | some u =>
        obtain ⟨z, _⟩ := at_a b (by rw [q]; exact Option.some_ne_none u)
        rw [z, ha] at e
        cases e
        exact absurd rfl (nd vs.toArray)
    have nsH : ∀ {b : Addr} {m : Str → Option Value}, s₁.heap.Ns b m → (hidT s₁.heap H).Ns b m := by
      intro b m ⟨o, es, ep, e, d, rest⟩
      exact ⟨o, es, ep, hidT_get e (free e fun us h => by rw [d] at h; cases h), d, rest⟩
    have KH : K.In (hidT s₁.heap H) := by
      intro b o e
      refine hidT_get (KX b o e) ?_
      cases q : H b with
      | none => rfl
      | some u =>
        obtain ⟨_, z⟩ := at_a b (by rw [q]; exact Option.some_ne_none u)
        rw [z] at e
        cases e
    obtain ⟨mc, lim1, lim2⟩ := hlim
    have hM : Mod K mg (hidT s₁.heap H) := ⟨KH, nsH hns, ⟨mb, nsH hb, hbb⟩, ⟨mc, nsH lim1, lim2⟩⟩
    have e0 : Env0 P w K mg (hidT s₁.heap H) callerA [] s₁ H := by
      refine ⟨rfl, hM, fun b o e => of_hidT e, Nat.le_of_eq (hidT_size _ _), trivial, ?_, ok, .of_eq hg⟩
      intro b hb
      exact absurd (show b ∈ ([] : List Addr) from hb) (by simp)
    have run := (F _ KH (nsH hns)).run callerA [] s₁ H ⟨[.ref a], []⟩ [.ref a] [.ref a] _ _ rfl hr e0 (hbind s₁ (.ref a)) (.cons rfl .nil) (hsp H only sq)
    exact codeAny_mono run fun r s' h => ended H only ok (hCX H) h
  cases hk : K.lookup a with
  | some o =>
    have e := KX a o hk
    rw [ha] at e
    cases e
    apply go (fun _ => none) (fun _ => Or.inl rfl)
    · exact Or.inr ⟨_, vs.toArray, _, hk, rfl, rfl, rfl, by rw [List.size_toArray, lenV]; exact hl, by simpa using rv⟩
    · intro b u z
      cases (show (none : Option HO) = some u from z)
    · intro b z
      exact absurd rfl z
  | none =>
    apply go (onlyAt a { cls := .type "list", data := .seq vs.toArray } (ns.map V.int))
    · intro b
      by_cases hb : b = a
      · subst hb
        exact Or.inr ⟨_, _, onlyAt_same⟩
      · exact Or.inl (onlyAt_ne hb)
    · exact Or.inl (Or.inr ⟨_, onlyAt_same⟩)
    · intro b u z
      by_cases hb : b = a
      · subst hb
        rw [onlyAt_same] at z
        cases z
        exact ⟨ha, by rw [List.length_map]; exact hl, vs, _, rv, ha⟩
      · rw [onlyAt_ne hb] at z
        cases z
    · intro b z
      by_cases hb : b = a
      · subst hb
        exact ⟨rfl, hk⟩
      · exact absurd (onlyAt_ne hb) z
end

/-- the goal that k_head leaves -/
theorem walkG {l : PySem.W.OpenLaw} {n k : Nat} {q : Program} {loose : List Str} {XP : (Str → Option Value) → Heap → Prop} {YP : World → Heap → Prop}
    {d : DefRec} {K : Params → PySem.W.Frag} {sp : PySem.W.Frag → Sp} {x : Str}
    (hn : l.most = some n) (hn2 : n ≤ sizeLine) (hdf : d.params.defaults = []) (hr : Room k callerA)
    (hY : ∀ (w : World) (h : Heap), YP w h → (K w.params).In h)
    (F : ∀ (w : World) (mg : Str → Option Value) (fa : Addr) (h : Heap), (K w.params).In h → h.Ns mainGlobals mg → mg d.name = some (.ref fa) →
      ∃ fd : FuncData, (∀ (s : Shared) (u : Value), BindsTo s fd ⟨[u], []⟩ [(x, u)]) ∧
        ∀ base : Heap, (K w.params).In base → base.Ns mainGlobals mg → FnG l.prog w (K w.params) mg base CX0 k fa fd [x] (sp (K w.params)))
    (hsp : ∀ (K : PySem.W.Frag) (H : Hp) (a : Addr) (ns : List Int), ns.length ≤ n → Only H → SqL K H a (ns.map V.int) → sp K [.ref a] H (fun v _ => v = .bl true) fun _ _ _ => False) :
    PySem.W.WalkO q loose XP YP l.row.toRowW d [] (fun f vs => PySem.call f vs) := by
  apply Att.attach_call hn hdf
  intro w s₀ s₁ mg mb fa o pm cd doc a vs ns G Y ho hd hcd hmg hobj hints hlen hg
  obtain ⟨fd, hb, hF⟩ := F w mg fa _ (hY w _ Y) G.T.g hmg
  exact callG (hY w _ Y) G.T.g G.T.b G.T.builtins G.T.nolimit hg hobj hints (Nat.le_trans hlen hn2) hr hF hb
    (fun H hO hS => hsp (K w.params) H a ns hlen hO hS) (fun H e s' h => h)
end Gd
namespace Gd
open PySem PySem.Spec PyProof.Rows L2
/-- the law says True of every script of at most 63 ints -/
def spLaw (K : PySem.W.Frag) : Sp := fun vs H Q _ => ∃ (a : Addr) (ns : List Int), vs = [.ref a] ∧ SqL K H a (ns.map V.int) ∧ ns.length ≤ 63 ∧ ∀ H', Q (.bl true) H'
end Gd
namespace Gd
open PySem PySem.Spec PyProof.Rows L2
theorem kit_own {K : PySem.W.Frag} {C : Addr} {T : String} {b : Bool} (hm : PySem.W.kitMeta T = true) (h : PySem.W.subIn K (.ref C) (.type T) = some b) :
    PySem.W.kitOne K (.ref C) (.type T) = some b := by
  unfold PySem.W.kitOne
  rw [if_neg (show ¬ ((Value.ref C == Value.type T) = true) from Bool.false_ne_true)]
  show (if PySem.W.kitMeta T = true then PySem.W.subIn K (.ref C) (.type T) else none) = some b
  rw [if_pos hm]
  exact h
end Gd
namespace MS
open PySem PySem.Spec PyProof.Rows L2 Gd
def top (i : Nat) : Stmt := PySem.Challenge.pw_markersplice_k01_value_kinds.main.body.getD i (.Pass ⟨0, 0, 0, 0⟩)
abbrev s_is_integer : Stmt := top 12
abbrev s_is_name : Stmt := top 13
abbrev s_is_piece : Stmt := top 14
abbrev s_is_marker : Stmt := top 15
abbrev s_is_row : Stmt := top 16
abbrev s_has_row_length : Stmt := top 17
abbrev s_first_misfit : Stmt := top 18
abbrev s_check_items : Stmt := top 19
abbrev s_check_row : Stmt := top 20
abbrev s_places_by_name : Stmt := top 21
abbrev s_Strip_init : Stmt := inClass (top 28) 0
abbrev s_L_cell : Stmt := top 30
abbrev s_L_box : Stmt := top 31
abbrev s_L_take : Stmt := top 32
abbrev s_L_text : Stmt := top 33
abbrev s_L_odd : Stmt := top 34
abbrev s_L_row : Stmt := top 35
abbrev s_L_is_text : Stmt := top 36
abbrev s_L_kinds : Stmt := top 37
abbrev s_law : Stmt := top 38
abbrev sc_is_integer.N' : List Str := ["value", "low", "high"]
theorem sc_is_integer : FnScope sc_is_integer.N' ["value", "low", "high"] (defScope s_is_integer) :=
  ⟨rfl, rfl, rfl, by decide +kernel, rfl, by decide +kernel, by decide +kernel⟩
abbrev sc_is_name.N' : List Str := ["value"]
theorem sc_is_name : FnScope sc_is_name.N' ["value"] (defScope s_is_name) :=
  ⟨rfl, rfl, rfl, by decide +kernel, rfl, by decide +kernel, by decide +kernel⟩
abbrev sc_is_piece.N' : List Str := ["value"]
theorem sc_is_piece : FnScope sc_is_piece.N' ["value"] (defScope s_is_piece) :=
  ⟨rfl, rfl, rfl, by decide +kernel, rfl, by decide +kernel, by decide +kernel⟩
abbrev sc_is_marker.N' : List Str := ["value"]
theorem sc_is_marker : FnScope sc_is_marker.N' ["value"] (defScope s_is_marker) :=
  ⟨rfl, rfl, rfl, by decide +kernel, rfl, by decide +kernel, by decide +kernel⟩
abbrev sc_is_row.N' : List Str := ["value"]
theorem sc_is_row : FnScope sc_is_row.N' ["value"] (defScope s_is_row) :=
  ⟨rfl, rfl, rfl, by decide +kernel, rfl, by decide +kernel, by decide +kernel⟩
abbrev sc_has_row_length.N' : List Str := ["value"]
theorem sc_has_row_length : FnScope sc_has_row_length.N' ["value"] (defScope s_has_row_length) :=
  ⟨rfl, rfl, rfl, by decide +kernel, rfl, by decide +kernel, by decide +kernel⟩
abbrev sc_first_misfit.N' : List Str := ["items", "index", "item", "fits"]
theorem sc_first_misfit : FnScope sc_first_misfit.N' ["items"] (defScope s_first_misfit) :=
  ⟨rfl, rfl, rfl, by decide +kernel, rfl, by decide +kernel, by decide +kernel⟩
abbrev sc_check_items.N' : List Str := ["items", "index"]
theorem sc_check_items : FnScope sc_check_items.N' ["items"] (defScope s_check_items) :=
  ⟨rfl, rfl, rfl, by decide +kernel, rfl, by decide +kernel, by decide +kernel⟩
abbrev sc_check_row.N' : List Str := ["row"]
theorem sc_check_row : FnScope sc_check_row.N' ["row"] (defScope s_check_row) :=
  ⟨rfl, rfl, rfl, by decide +kernel, rfl, by decide +kernel, by decide +kernel⟩
abbrev sc_places_by_name.N' : List Str := ["row", "places", "number", "name", "_"]
theorem sc_places_by_name : FnScope sc_places_by_name.N' ["row"] (defScope s_places_by_name) :=
  ⟨rfl, rfl, rfl, by decide +kernel, rfl, by decide +kernel, by decide +kernel⟩
abbrev sc_Strip_init.N' : List Str := ["self", "row", "places", "name"]
theorem sc_Strip_init : FnScope sc_Strip_init.N' ["self", "row"] (defScope s_Strip_init) :=
  ⟨rfl, rfl, rfl, by decide +kernel, rfl, by decide +kernel, by decide +kernel⟩
abbrev sc_L_cell.N' : List Str := ["_law_script", "_law_k"]
theorem sc_L_cell : FnScope sc_L_cell.N' ["_law_script", "_law_k"] (defScope s_L_cell) :=
  ⟨rfl, rfl, rfl, by decide +kernel, rfl, by decide +kernel, by decide +kernel⟩
abbrev sc_L_box.N' : List Str := ["_law_cell_here"]
theorem sc_L_box : FnScope sc_L_box.N' ["_law_cell_here"] (defScope s_L_box) :=
  ⟨rfl, rfl, rfl, by decide +kernel, rfl, by decide +kernel, by decide +kernel⟩
abbrev sc_L_take.N' : List Str := ["_law_box_here", "_law_many", "_law_digit", "_law_mixed"]
theorem sc_L_take : FnScope sc_L_take.N' ["_law_box_here", "_law_many"] (defScope s_L_take) :=
  ⟨rfl, rfl, rfl, by decide +kernel, rfl, by decide +kernel, by decide +kernel⟩
abbrev sc_L_text.N' : List Str := ["_law_box_here", "_law_signs", "_law_some", "_law_k"]
theorem sc_L_text : FnScope sc_L_text.N' ["_law_box_here"] (defScope s_L_text) :=
  ⟨rfl, rfl, rfl, by decide +kernel, rfl, by decide +kernel, by decide +kernel⟩
abbrev sc_L_odd.N' : List Str := ["_law_box_here", "_law_some"]
theorem sc_L_odd : FnScope sc_L_odd.N' ["_law_box_here"] (defScope s_L_odd) :=
  ⟨rfl, rfl, rfl, by decide +kernel, rfl, by decide +kernel, by decide +kernel⟩
abbrev sc_L_row.N' : List Str := ["_law_box_here", "_law_found", "_law_k", "_law_at", "_law_way"]
theorem sc_L_row : FnScope sc_L_row.N' ["_law_box_here"] (defScope s_L_row) :=
  ⟨rfl, rfl, rfl, by decide +kernel, rfl, by decide +kernel, by decide +kernel⟩
abbrev sc_L_is_text.N' : List Str := ["_law_thing", "_law_signs", "_law_sign"]
theorem sc_L_is_text : FnScope sc_L_is_text.N' ["_law_thing", "_law_signs"] (defScope s_L_is_text) :=
  ⟨rfl, rfl, rfl, by decide +kernel, rfl, by decide +kernel, by decide +kernel⟩
abbrev sc_L_kinds.N' : List Str := ["_law_thing", "_law_signs", "_law_name", "_law_piece", "_law_mark", "_law_row_here", "_law_k", "_law_one"]
theorem sc_L_kinds : FnScope sc_L_kinds.N' ["_law_thing"] (defScope s_L_kinds) :=
  ⟨rfl, rfl, rfl, by decide +kernel, rfl, by decide +kernel, by decide +kernel⟩
abbrev sc_law.N' : List Str := ["_law_script", "_law_k", "_law_box_here", "_law_far", "_law_low", "_law_high", "_law_some", "_law_long", "_law_thing", "_law_found", "_law_whole"]
theorem sc_law : FnScope sc_law.N' ["_law_script"] (defScope s_law) :=
  ⟨rfl, rfl, rfl, by decide +kernel, rfl, by decide +kernel, by decide +kernel⟩
structure Txt (K : PySem.W.Frag) (mg : Str → Option Value) : Prop where
  z_bool : mg "bool" = none
  z_enumerate : mg "enumerate" = none
  z_int : mg "int" = none
  z_isinstance : mg "isinstance" = none
  z_len : mg "len" = none
  z_list : mg "list" = none
  z_max : mg "max" = none
  z_min : mg "min" = none
  z_range : mg "range" = none
  z_repr : mg "repr" = none
  z_str : mg "str" = none
  z_tuple : mg "tuple" = none
  g_MOST_NAMES : ∃ t, mg "MOST_NAMES" = some (.int 12 t)
  g_NAME_LETTERS : ∃ t, mg "NAME_LETTERS" = some (.int 4 t)
section
variable {P : Program} {w : World} {K : PySem.W.Frag} {mg : Str → Option Value} {base : Heap}
theorem ok_cell {f : Addr} {fd : FuncData} (F : Fun K "_law_cell" "_law_cell" s_L_cell f fd) (T : Txt K mg) :
    FnOk P w K mg base CX0 1 f fd ["_law_script", "_law_k"] (Gd.spCell K) := by
  refine F.ok sc_L_cell (fun vs H Q E h => ?_) (fun cdv A outer s H vs Q E hr h => ?_)
  · obtain ⟨a, ns, k, rfl, _⟩ := h
    rfl
  · obtain ⟨a, ns, k, rfl, hS, hl, h0, h1, q⟩ := h
    refine ⟨_, (pss_cons (ps_if (pt_cmpR op_lt (pv 1) (pe_callB call_len_seq (by rfl) T.z_len (by decide +kernel) (pa_cons (pv 0) pa_nil)) (nomark _)) (pss_one (ps_ret (pe_ix ix_list (pv 0) (pv 1) (fun _ _ => rfl)))) pss_nil)
    (pss_one (ps_ret (pe_op op_add (pe_op op_mul pe_int (pv 1)) pe_int)))), ?_⟩
    refine ⟨_, rfl, _, rfl, a, _, rfl, .inl hS, _, _, rfl, rfl, _, rfl, ?_⟩
    refine ite2 (fun hlt => ?_) (fun _ => ?_)
    · have hk : k < (ns.length : Int) := by simpa [List.length_map] using of_decide_eq_true hlt
      have hk2 : k.toNat < ns.length := by omega
      refine ⟨_, rfl, _, rfl, a, _, k, V.int ns[k.toNat], rfl, rfl, hS, ?_, q _⟩
      unfold atI ixN
      rw [if_pos h0, List.length_map, if_pos hk]
      simp [hk2]
    · exact ⟨_, rfl, _, _, rfl, rfl, .inl ⟨by decide, by decide⟩, _, _, rfl, rfl, q _⟩
theorem ok_box {f : Addr} {fd : FuncData} (F : Fun K "_law_box" "_law_box" s_L_box f fd) (T : Txt K mg) :
    FnOk P w K mg base CX0 1 f fd ["_law_cell_here"] spBox := by
  refine F.ok sc_L_box (fun vs H Q E h => ?_) (fun cdv A outer s H vs Q E hr h => ?_)
  · obtain ⟨i, rfl, _⟩ := h
    rfl
  · obtain ⟨i, rfl, q⟩ := h
    refine ⟨_, (pss_one (ps_ret (pe_lst (pa_cons (pe_callB (call_max2 rfl) (by rfl) T.z_max (by decide +kernel) (pa_cons pe_int (pa_cons (pe_op op_sub (pv 0) (pe_op op_pow pe_int pe_int)) pa_nil))) (pa_cons (pe_op op_mod (pv 0) pe_int) (pa_cons pe_int pa_nil)))))), ?_⟩
    refine ⟨_, rfl, _, _, rfl, rfl, ⟨by decide, by decide, by decide⟩, _, _, rfl, rfl, _, _, rfl, ?_⟩
    refine ⟨_, rfl, _, _, rfl, rfl, (by decide : (0 : Int) < 2147483629), ?_⟩
    refine ⟨by show 3 ≤ sizeLine; decide, fun p hp => q p _ _ hp ?_ ?_⟩
    · exact Int.emod_nonneg _ (by decide)
    · exact Int.emod_lt_of_pos _ (by decide)
theorem ok_take {f : Addr} {fd : FuncData} (F : Fun K "_law_take" "_law_take" s_L_take f fd) (T : Txt K mg) :
    FnOk P w K mg base CX0 1 f fd ["_law_box_here", "_law_many"] spTake := by
  refine F.ok sc_L_take (fun vs H Q E h => ?_) (fun cdv A outer s H vs Q E hr h => ?_)
  · obtain ⟨a, c, n, rfl, _⟩ := h
    rfl
  · obtain ⟨a, c, n, rfl, ⟨x, y, z, hb, y0, y1, z0, z1⟩, hc, n0, n1, q⟩ := h
    refine ⟨_, (pss_cons (ps_if (pt_cmpR op_gt (pe_ix ix_list (pv 0) pe_int (fun _ _ => rfl)) pe_int (nomark _)) (pss_cons (ps_set (i := 2) sc_L_take.nd rfl (.inl rfl) (pe_op op_mod (pe_ix ix_list (pv 0) pe_int (fun _ _ => rfl)) (pv 1)))
    (pss_cons (ps_asg (pe_op op_fdiv (pe_ix ix_list (pv 0) pe_int (fun _ _ => rfl)) (pv 1)) (pg_sub (pv 0) pe_int set_list))
    (pss_one (ps_ret (pv 2))))) pss_nil)
    (pss_cons (ps_asg (pe_op op_add (pe_ix ix_list (pv 0) pe_int (fun _ _ => rfl)) pe_int) (pg_sub (pv 0) pe_int set_list))
    (pss_cons (ps_set (i := 3) sc_L_take.nd rfl (.inl rfl) (pe_op op_mod (pe_op op_pow (pe_op op_add (pe_op op_add (pe_ix ix_list (pv 0) pe_int (fun _ _ => rfl)) (pe_op op_mul pe_int (pe_ix ix_list (pv 0) pe_int (fun _ _ => rfl)))) pe_int) pe_int) pe_int))
    (pss_cons (ps_set (i := 3) sc_L_take.nd rfl (.inl rfl) (pe_op op_mod (pe_op op_pow (pe_op op_add (pv 3) (pe_op op_mul pe_int (pe_ix ix_list (pv 0) pe_int (fun _ _ => rfl)))) pe_int) pe_int))
    (pss_one (ps_ret (pe_op op_mod (pe_op op_fdiv (pv 3) pe_int) (pv 1)))))))), ?_⟩
    refine ⟨_, rfl, a, _, 0, _, rfl, rfl, SqL.of hb, rfl, _, _, rfl, rfl, _, rfl, ?_⟩
    refine ite2 (fun hx => ?_) (fun hx => ?_)
    · refine ⟨_, rfl, a, _, 0, _, rfl, rfl, SqL.of hb, rfl, _, rfl, _, _, rfl, rfl, n0, ?_⟩
      refine ⟨_, rfl, a, _, 0, _, rfl, rfl, SqL.of hb, rfl, _, rfl, _, _, rfl, rfl, ⟨n0, by omega⟩, ?_⟩
      refine ⟨_, rfl, a, _, 0, 0, rfl, rfl, hb, rfl, ?_⟩
      exact ⟨_, rfl, q _ _ Kp.at (BoxAt.drawn y0 y1 z0 (by omega)) (Int.emod_nonneg _ (by omega)) (Int.emod_lt_of_pos _ n0)⟩
    · refine ⟨_, rfl, a, _, 2, _, rfl, rfl, SqL.of hb, rfl, _, _, rfl, rfl, _, rfl, a, _, 2, 2, rfl, rfl, hb, rfl, ?_⟩
      have hb2 : upd H a (.lst [.int x, .int y, .int (z + 1)]) a = some (.lst [.int x, .int y, .int (z + 1)]) := upd_same
      refine ⟨_, rfl, a, _, 1, _, rfl, rfl, SqL.of hb2, rfl, _, rfl, a, _, 2, _, rfl, rfl, SqL.of hb2, rfl, _, _, rfl, rfl, .inl ⟨by decide, by decide⟩, _, _, rfl, rfl, _, _, rfl, rfl, ?_⟩
      refine ⟨_, _, rfl, rfl, ⟨by decide, by decide, by omega⟩, _, _, rfl, rfl, (show (0 : Int) < 2147483647 by decide), ?_⟩
      refine ⟨_, rfl, _, rfl, a, _, 2, _, rfl, rfl, SqL.of hb2, rfl, _, _, rfl, rfl, .inl ⟨by decide, by decide⟩, _, _, rfl, rfl, ?_⟩
      refine ⟨_, _, rfl, rfl, ⟨by decide, by decide, ?_⟩, _, _, rfl, rfl, (show (0 : Int) < 2147483587 by decide), ?_⟩
      · refine natAbs_small ?_ ?_ ?_ ?_
        · exact Int.emod_nonneg _ (by decide)
        · exact Int.emod_lt_of_pos _ (by decide)
        · omega
        · omega
      · refine ⟨_, rfl, _, _, rfl, rfl, ⟨by decide, by decide⟩, _, rfl, _, _, rfl, rfl, n0, ?_⟩
        exact q _ _ Kp.at (BoxAt.drawn y0 y1 (by omega) (by omega)) (Int.emod_nonneg _ (by omega)) (Int.emod_lt_of_pos _ n0)
end

/-! ### the program's rows -/
section
variable {P : Program} {w : World} {K : PySem.W.Frag} {mg : Str → Option Value} {base : Heap} {O : HO → Prop}
theorem ok_is_piece {f : Addr} {fd : FuncData} (F : Fun K "is_piece" "is_piece" s_is_piece f fd) (T : Txt K mg) (ho : OthOk K O) :
    FnOk P w K mg base CX0 1 f fd ["value"] (spB O isPiece) := by
  refine F.ok sc_is_piece (fun vs H Q E h => ?_) (fun cdv A outer s H vs Q E hr h => ?_)
  · obtain ⟨v, d, rfl, _⟩ := h
    rfl
  · obtain ⟨v, d, rfl, hv, q⟩ := h
    obtain ⟨t, ty, k1, _⟩ := hv.ty ho
    refine ⟨_, (pss_cons (ps_if (pt_not (pt_val (pe_callB call_isi (by rfl) T.z_isinstance (by decide +kernel) (pa_cons (pv 0) (pa_cons (pe_bltn (v := .ty "str") (by rfl) T.z_str (by decide +kernel) rfl) pa_nil))))) (pss_one (ps_ret pe_bl)) pss_nil)
    (pss_one (ps_ret (pe_or (pe_cmpR op_eq (pe_callB call_len_str (by rfl) T.z_len (by decide +kernel) (pa_cons (pv 0) pa_nil)) pe_int (nomark _)) (pe_one (pe_and (pe_bm0 PySem.F.plainAttrs_str PySem.F.slot_str_isascii PySem.F.type_str_isascii mt_isascii (pv 0)) (pe_one (pe_bm0 PySem.F.plainAttrs_str PySem.F.slot_str_isalpha PySem.F.type_str_isalpha mt_isalpha (pv 0))))))))), ?_⟩
    refine ⟨_, rfl, v, _, t, _, _, rfl, .ty _, ty, k1, _, rfl, ?_⟩
    cases hv with
    | str z hz =>
      refine iteF ⟨_, rfl, _, rfl, le_line (okS_len hz), rfl, _, rfl, ?_⟩
      have e := piece_of z
      rw [← dec_int0] at e
      refine ite2 (fun h0 => ?_) (fun h0 => ⟨_, rfl, tyS, z, rfl, rfl, trivial, _, rfl, ite2 (fun h1 => ⟨_, rfl, tyS, z, rfl, rfl, trivial, ?_⟩) (fun h1 => ?_)⟩)
      · rw [h0, Bool.true_or] at e
        exact bl_to e (q H (Ex.rfl' H))
      · rw [Bool.eq_false_iff.mpr h0, h1, Bool.false_or, Bool.true_and] at e
        exact bl_to e (q H (Ex.rfl' H))
      · rw [Bool.eq_false_iff.mpr h0, Bool.eq_false_iff.mpr h1, Bool.false_or, Bool.false_and] at e
        exact bl_to e (q H (Ex.rfl' H))
    | _ => exact iteT (q H (Ex.rfl' H))
theorem ok_is_name {f : Addr} {fd : FuncData} (F : Fun K "is_name" "is_name" s_is_name f fd) (T : Txt K mg) (ho : OthOk K O)
    {f_is_piece : Addr} {fd_is_piece : FuncData} (D_is_piece : Df K mg "is_piece" f_is_piece fd_is_piece ["value"]) (G_is_piece : FnOk P w K mg base CX0 1 f_is_piece fd_is_piece ["value"] (spB O isPiece)) :
    FnOk P w K mg base CX0 2 f fd ["value"] (spB O isName) := by
  refine F.ok sc_is_name (fun vs H Q E h => ?_) (fun cdv A outer s H vs Q E hr h => ?_)
  · obtain ⟨v, d, rfl, _⟩ := h
    rfl
  · obtain ⟨v, d, rfl, hv, q⟩ := h
    refine ⟨_, (pss_one (ps_ret (pe_and (pe_call G_is_piece (hr.mono (by first | decide | omega)) rfl D_is_piece.g D_is_piece.k D_is_piece.b .nil pass0 (pa_cons (pv 0) pa_nil)) (pe_and (pe_bm0 PySem.F.plainAttrs_str PySem.F.slot_str_islower PySem.F.type_str_islower mt_islower (pv 0)) (pe_one (pe_cmpR op_le (pe_callB call_len_str (by rfl) T.z_len (by decide +kernel) (pa_cons (pv 0) pa_nil)) (pe_const rfl T.g_NAME_LETTERS) (nomark _))))))), ?_⟩
    refine ⟨_, rfl, v, d, rfl, hv, fun H1 e1 => ⟨_, rfl, ?_⟩⟩
    have hv1 := hv.ex e1
    cases hv with
    | str z hz =>
      have e := name_of z
      refine ite2 (fun h0 => ⟨_, rfl, tyS, z, rfl, rfl, trivial, _, rfl, ite2 (fun h1 => ?_) (fun h1 => ?_)⟩) (fun h0 => ?_)
      · refine ⟨_, rfl, _, rfl, le_line (okS_len hz), _, _, rfl, rfl, ?_⟩
        have h0' : pieceB z = true := h0
        rw [h0', h1, Bool.true_and, Bool.true_and] at e
        exact bl_to e (q H1 e1)
      · have h0' : pieceB z = true := h0
        rw [h0', Bool.eq_false_iff.mpr h1, Bool.true_and, Bool.false_and] at e
        exact bl_to e (q H1 e1)
      · have h0' : pieceB z = false := Bool.eq_false_iff.mpr h0
        rw [h0', Bool.false_and] at e
        exact bl_to e (q H1 e1)
    | _ => exact iteF (q H1 e1)
theorem ok_is_marker {f : Addr} {fd : FuncData} (F : Fun K "is_marker" "is_marker" s_is_marker f fd) (T : Txt K mg) (ho : OthOk K O)
    {f_is_name : Addr} {fd_is_name : FuncData} (D_is_name : Df K mg "is_name" f_is_name fd_is_name ["value"]) (G_is_name : FnOk P w K mg base CX0 2 f_is_name fd_is_name ["value"] (spB O isName)) :
    FnOk P w K mg base CX0 3 f fd ["value"] (spB O isMark) := by
  refine F.ok sc_is_marker (fun vs H Q E h => ?_) (fun cdv A outer s H vs Q E hr h => ?_)
  · obtain ⟨v, d, rfl, _⟩ := h
    rfl
  · obtain ⟨v, d, rfl, hv, q⟩ := h
    obtain ⟨t, ty, _, _, _, k1, _⟩ := hv.ty ho
    refine ⟨_, (pss_cons (ps_if (PW.pt (pw_or (pt_not (pt_val (pe_callB call_isi (by rfl) T.z_isinstance (by decide +kernel) (pa_cons (pv 0) (pa_cons (pe_bltn (v := .ty "tuple") (by rfl) T.z_tuple (by decide +kernel) rfl) pa_nil))))) (pw_or1 (pt_cmpR op_ne (pe_callB call_len (by rfl) T.z_len (by decide +kernel) (pa_cons (pv 0) pa_nil)) pe_int (nomark _))))) (pss_one (ps_ret pe_bl)) pss_nil)
    (pss_one (ps_ret (pe_and (pe_call G_is_name (hr.mono (by first | decide | omega)) rfl D_is_name.g D_is_name.k D_is_name.b .nil pass0 (pa_cons (pe_ix ix_tup (pv 0) pe_int (fun _ _ => rfl)) pa_nil)) (pe_one (pe_callB call_isi (by rfl) T.z_isinstance (by decide +kernel) (pa_cons (pe_ix ix_tup (pv 0) pe_int (fun _ _ => rfl)) (pa_cons (pe_bltn (v := .ty "bool") (by rfl) T.z_bool (by decide +kernel) rfl) pa_nil)))))))), ?_⟩
    refine ⟨_, rfl, v, _, t, _, _, rfl, .ty _, ty, k1, _, rfl, ?_⟩
    cases hv with
    | @tup a vs ds ha hd hl =>
      refine iteF ⟨_, rfl, _, _, rfl, .inr ⟨vs, SqT.of ha, rfl⟩, rfl, _, rfl, ?_⟩
      have hlen := hd.length
      refine ite2 (fun h0 => ?_) (fun h0 => ?_)
      · have hn : ¬ ds.length = 2 := by
          intro h2
          rw [← hlen] at h2
          rw [h2] at h0
          exact absurd h0 (by decide)
        refine bl_to (b := isMark (.tup ds)) ?_ (q H (Ex.rfl' H))
        match ds, hn with
        | [], _ => rfl
        | [_], _ => rfl
        | [_, _], h => exact absurd rfl h
        | _ :: _ :: _ :: _, _ => rfl
      · have h2 : vs.length = 2 := by
          by_cases h : vs.length = 2
          · exact h
          · exfalso
            apply h0
            have : ¬ (V.int (vs.length : Int) = V.int 2) := fun e => h (by have := V.int.inj e; omega)
            rw [decide_eq_false this]
            rfl
        match vs, ds, hd, h2 with
        | [x, y], _, @DVs.cons _ _ _ dx _ _ hx (@DVs.cons _ _ _ dy _ _ hy .nil), _ =>
          obtain ⟨ty2, k2, _, kb, _⟩ := hy.ty ho
          refine ⟨_, rfl, a, _, 0, _, rfl, rfl, SqT.of ha, rfl, x, dx, rfl, hx, fun H1 e1 => ⟨_, rfl, ?_⟩⟩
          obtain ⟨ty3, k3, _, kb3, _⟩ := (hy.ex e1).ty ho
          refine ite2 (fun h5 => ⟨_, rfl, a, _, 1, _, rfl, rfl, SqT.of (e1 _ _ ha), rfl, y, _, ty3, _, _, rfl, .ty _, k3, kb3, ?_⟩) (fun h5 => ?_)
          · refine bl_to (b := isName dx && isBl dy) ?_ (q H1 e1)
            have h6 : isName dx = true := h5
            rw [h6, Bool.true_and]
          · refine bl_to (b := isName dx && isBl dy) ?_ (q H1 e1)
            have h6 : isName dx = false := Bool.eq_false_iff.mpr h5
            rw [h6, Bool.false_and]
    | _ => exact iteT (q H (Ex.rfl' H))
theorem ok_has_row_length {f : Addr} {fd : FuncData} (F : Fun K "has_row_length" "has_row_length" s_has_row_length f fd) (T : Txt K mg) (ho : OthOk K O) :
    FnOk P w K mg base CX0 1 f fd ["value"] (spB O oddLen) := by
  refine F.ok sc_has_row_length (fun vs H Q E h => ?_) (fun cdv A outer s H vs Q E hr h => ?_)
  · obtain ⟨v, d, rfl, _⟩ := h
    rfl
  · obtain ⟨v, d, rfl, hv, q⟩ := h
    refine ⟨_, (pss_one (ps_ret (pe_and (pe_callB call_isiT (by rfl) T.z_isinstance (by decide +kernel) (pa_cons (pv 0) (pa_cons (pe_tup (pa_cons (pe_bltn (v := .ty "list") (by rfl) T.z_list (by decide +kernel) rfl) (pa_cons (pe_bltn (v := .ty "tuple") (by rfl) T.z_tuple (by decide +kernel) rfl) pa_nil))) pa_nil))) (pe_one (pe_cmpR op_eq (pe_op op_mod (pe_callB call_len (by rfl) T.z_len (by decide +kernel) (pa_cons (pv 0) pa_nil)) pe_int) pe_int (nomark _)))))), ?_⟩
    refine ⟨_, rfl, by show 2 ≤ sizeLine; decide, fun p hp => ?_⟩
    have e1 : Ex H (upd H p (.tup [.ty "list", .ty "tuple"])) := Ex.new hp
    obtain ⟨t, ty, _, _, _, k1, k2⟩ := (hv.ex e1).ty ho
    refine ⟨v, p, _, t, _, _, rfl, upd_same, .cons (.ty _) (.cons (.ty _) .nil), ty, kit_two k2 k1, _, rfl, ?_⟩
    cases hv with
    | @tup a vs ds ha hd hl =>
      refine iteT ⟨_, rfl, _, _, rfl, .inr ⟨vs, SqT.of (e1 _ _ ha), rfl⟩, _, _, rfl, rfl, (by show (0 : Int) < 2; decide), rfl, ?_⟩
      refine bl_to ?_ (q _ e1)
      rw [odd_dec, hd.length]
      rfl
    | @lst a vs ds ha hd hl =>
      refine iteT ⟨_, rfl, _, _, rfl, .inl ⟨vs, SqL.of (e1 _ _ ha), rfl⟩, _, _, rfl, rfl, (by show (0 : Int) < 2; decide), rfl, ?_⟩
      refine bl_to ?_ (q _ e1)
      rw [odd_dec, hd.length]
      rfl
    | _ => exact iteF (q _ e1)
theorem ok_is_integer {f : Addr} {fd : FuncData} (F : Fun K "is_integer" "is_integer" s_is_integer f fd) (T : Txt K mg) (ho : OthOk K O) :
    FnOk P w K mg base CX0 1 f fd ["value", "low", "high"] (fun vs H Q _ => ∃ v d lo hi, vs = [v, .int lo, .int hi] ∧ DV O H v d ∧ ∀ H', Ex H H' → Q (.bl (isInt d lo hi)) H') := by
  refine F.ok sc_is_integer (fun vs H Q E h => ?_) (fun cdv A outer s H vs Q E hr h => ?_)
  · obtain ⟨v, d, lo, hi, rfl, _⟩ := h
    rfl
  · obtain ⟨v, d, lo, hi, rfl, hv, q⟩ := h
    obtain ⟨t, ty, _, k1, k2, _⟩ := hv.ty ho
    refine ⟨_, (pss_cons (ps_if (PW.pt (pw_or (pt_val (pe_callB call_isi (by rfl) T.z_isinstance (by decide +kernel) (pa_cons (pv 0) (pa_cons (pe_bltn (v := .ty "bool") (by rfl) T.z_bool (by decide +kernel) rfl) pa_nil)))) (pw_or1 (pt_not (pt_val (pe_callB call_isi (by rfl) T.z_isinstance (by decide +kernel) (pa_cons (pv 0) (pa_cons (pe_bltn (v := .ty "int") (by rfl) T.z_int (by decide +kernel) rfl) pa_nil)))))))) (pss_one (ps_ret pe_bl)) pss_nil)
    (pss_one (ps_ret (pe_chain op_le op_le (pv 1) (pv 0) (pv 2))))), ?_⟩
    refine ⟨_, rfl, v, _, t, _, _, rfl, .ty _, ty, k1, _, rfl, ?_⟩
    cases hv with
    | bl b => exact iteT (iteT (q H (Ex.rfl' H)))
    | int i =>
      refine iteF ⟨_, rfl, _, _, t, _, _, rfl, .ty _, ty, k2, _, rfl, ?_⟩
      refine iteF ⟨_, rfl, _, rfl, _, _, rfl, rfl, _, rfl, ?_⟩
      refine ite2 (fun h1 => ⟨_, rfl, _, _, rfl, rfl, ?_⟩) (fun h1 => ?_)
      · refine bl_to (b := isInt (.int i) lo hi) ?_ (q H (Ex.rfl' H))
        show _ = (decide (lo ≤ i) && decide (i ≤ hi))
        rw [h1, Bool.true_and]
      · refine bl_to (b := isInt (.int i) lo hi) ?_ (q H (Ex.rfl' H))
        show _ = (decide (lo ≤ i) && decide (i ≤ hi))
        rw [Bool.eq_false_iff.mpr h1, Bool.false_and]
    | _ => exact iteF ⟨_, rfl, _, _, t, _, _, rfl, .ty _, ty, k2, _, rfl, iteT (q H (Ex.rfl' H))⟩
theorem ok_first_misfit {f : Addr} {fd : FuncData} (F : Fun K "first_misfit" "first_misfit" s_first_misfit f fd) (T : Txt K mg) (ho : OthOk K O)
    {f_is_piece : Addr} {fd_is_piece : FuncData} (D_is_piece : Df K mg "is_piece" f_is_piece fd_is_piece ["value"])
    {f_is_marker : Addr} {fd_is_marker : FuncData} (D_is_marker : Df K mg "is_marker" f_is_marker fd_is_marker ["value"]) (G_is_piece : FnOk P w K mg base CX0 1 f_is_piece fd_is_piece ["value"] (spB O isPiece)) (G_is_marker : FnOk P w K mg base CX0 3 f_is_marker fd_is_marker ["value"] (spB O isMark)) :
    FnOk P w K mg base CX0 4 f fd ["items"] (spMisfit O) := by
  refine F.ok sc_first_misfit (fun vs H Q E h => ?_) (fun cdv A outer s H vs Q E hr h => ?_)
  · obtain ⟨v, ds, rfl, _⟩ := h
    rfl
  · obtain ⟨v, ds, rfl, hv, q1, q2⟩ := h
    rcases hv with hv | hv
    · cases hv with
      | @lst a vs _ ha hd hl =>
      refine ⟨_, (pss_cons (ps_for PassesOwn.never rfl (pi_enum (by rfl) T.z_enumerate (pa_cons (pv 0) pa_nil)) (pg_tup (by rfl) (pgs_cons (pg_name (i := 1) sc_first_misfit.nd rfl (.inl rfl)) (pgs_cons (pg_name (i := 2) sc_first_misfit.nd rfl (.inl rfl)) pgs_nil)))
      (pss_cons (ps_set (i := 3) sc_first_misfit.nd rfl (.inl rfl) (pe_ifExp (pt_cmpR op_eq (pe_op op_mod (pv 1) pe_int) pe_int (nomark _)) (pe_call G_is_piece (hr.mono (by first | decide | omega)) rfl D_is_piece.g D_is_piece.k D_is_piece.b .nil pass0 (pa_cons (pv 2) pa_nil)) (pe_call G_is_marker (hr.mono (by first | decide | omega)) rfl D_is_marker.g D_is_marker.k D_is_marker.b .nil pass0 (pa_cons (pv 2) pa_nil))))
    (pss_one (ps_if (pt_not (pt_val (pv 3))) (pss_one (ps_ret (pv 1))) pss_nil))))
    (pss_one (ps_ret pe_non))), ?_⟩
      refine ⟨_, rfl, a, vs, rfl, SqL.of ha, ?_⟩
      refine for_enumL (K := K) (a := a) (xs := vs) (fun i σ H' => ∃ y1 y2 y3, σ = [some (.ref a), y1, y2, y3] ∧ Ex H H' ∧ misfit 0 ds = misfit i (ds.drop i))
        ⟨none, none, none, rfl, Ex.rfl' H, rfl⟩ (fun i σ H' _ ⟨_, _, _, _, e, _⟩ => SqL.of (e _ _ ha)) ?_ ?_
      · rintro i x σ H1 Tp hx ⟨y1, y2, y3, rfl, e1, hm⟩ hT
        have e2 := e1.tr (Ex.new (o := .tup [.int (i : Nat), x]) hT)
        obtain ⟨d, h1, h2⟩ := hd.get hx
        have hm2 := misfit_step h1 hm
        have hxd := h2.ex e2
        refine ⟨Tp, _, rfl, SqT.of upd_same, rfl, _, _, rfl, _, _, rfl, rfl, ?_⟩
        refine ⟨_, rfl, _, _, rfl, rfl, (by show (0 : Int) < 2; decide), rfl, _, rfl, ?_⟩
        rw [even_dec]
        refine ite2 (fun h0 => ?_) (fun h0 => ?_)
        · have h0' : i % 2 = 0 := of_decide_eq_true h0
          have hf : fits i d = isPiece d := by unfold fits; rw [if_pos h0']
          rw [hf] at hm2
          refine ⟨_, rfl, x, d, rfl, hxd, fun H3 e3 => ⟨_, rfl, _, rfl, ?_⟩⟩
          cases hq : isPiece d with
          | true => exact iteF ⟨_, _, _, rfl, e2.tr e3, hm2.1 hq⟩
          | false => exact iteT ⟨_, rfl, q2 _ _ (e2.tr e3) (hm2.2 (by rw [hq]; decide))⟩
        · have h0' : ¬ i % 2 = 0 := fun e => h0 (decide_eq_true e)
          have hf : fits i d = isMark d := by unfold fits; rw [if_neg h0']
          rw [hf] at hm2
          refine ⟨_, rfl, x, d, rfl, hxd, fun H3 e3 => ⟨_, rfl, _, rfl, ?_⟩⟩
          cases hq : isMark d with
          | true => exact iteF ⟨_, _, _, rfl, e2.tr e3, hm2.1 hq⟩
          | false => exact iteT ⟨_, rfl, q2 _ _ (e2.tr e3) (hm2.2 (by rw [hq]; decide))⟩
      · rintro σ H1 ⟨y1, y2, y3, rfl, e1, hm⟩
        refine q1 _ e1 ?_
        rw [hm, hd.length, List.drop_length]
        rfl
    · cases hv with
      | @tup a vs _ ha hd hl =>
      refine ⟨_, (pss_cons (ps_for PassesOwn.never rfl (pi_enumT (by rfl) T.z_enumerate (pa_cons (pv 0) pa_nil)) (pg_tup (by rfl) (pgs_cons (pg_name (i := 1) sc_first_misfit.nd rfl (.inl rfl)) (pgs_cons (pg_name (i := 2) sc_first_misfit.nd rfl (.inl rfl)) pgs_nil)))
      (pss_cons (ps_set (i := 3) sc_first_misfit.nd rfl (.inl rfl) (pe_ifExp (pt_cmpR op_eq (pe_op op_mod (pv 1) pe_int) pe_int (nomark _)) (pe_call G_is_piece (hr.mono (by first | decide | omega)) rfl D_is_piece.g D_is_piece.k D_is_piece.b .nil pass0 (pa_cons (pv 2) pa_nil)) (pe_call G_is_marker (hr.mono (by first | decide | omega)) rfl D_is_marker.g D_is_marker.k D_is_marker.b .nil pass0 (pa_cons (pv 2) pa_nil))))
    (pss_one (ps_if (pt_not (pt_val (pv 3))) (pss_one (ps_ret (pv 1))) pss_nil))))
    (pss_one (ps_ret pe_non))), ?_⟩
      refine ⟨_, rfl, a, vs, rfl, SqT.of ha, ?_⟩
      refine for_enumT (K := K) (a := a) (xs := vs) (fun i σ H' => ∃ y1 y2 y3, σ = [some (.ref a), y1, y2, y3] ∧ Ex H H' ∧ misfit 0 ds = misfit i (ds.drop i))
        ⟨none, none, none, rfl, Ex.rfl' H, rfl⟩ (fun i σ H' _ ⟨_, _, _, _, e, _⟩ => SqT.of (e _ _ ha)) ?_ ?_
      · rintro i x σ H1 Tp hx ⟨y1, y2, y3, rfl, e1, hm⟩ hT
        have e2 := e1.tr (Ex.new (o := .tup [.int (i : Nat), x]) hT)
        obtain ⟨d, h1, h2⟩ := hd.get hx
        have hm2 := misfit_step h1 hm
        have hxd := h2.ex e2
        refine ⟨Tp, _, rfl, SqT.of upd_same, rfl, _, _, rfl, _, _, rfl, rfl, ?_⟩
        refine ⟨_, rfl, _, _, rfl, rfl, (by show (0 : Int) < 2; decide), rfl, _, rfl, ?_⟩
        rw [even_dec]
        refine ite2 (fun h0 => ?_) (fun h0 => ?_)
        · have h0' : i % 2 = 0 := of_decide_eq_true h0
          have hf : fits i d = isPiece d := by unfold fits; rw [if_pos h0']
          rw [hf] at hm2
          refine ⟨_, rfl, x, d, rfl, hxd, fun H3 e3 => ⟨_, rfl, _, rfl, ?_⟩⟩
          cases hq : isPiece d with
          | true => exact iteF ⟨_, _, _, rfl, e2.tr e3, hm2.1 hq⟩
          | false => exact iteT ⟨_, rfl, q2 _ _ (e2.tr e3) (hm2.2 (by rw [hq]; decide))⟩
        · have h0' : ¬ i % 2 = 0 := fun e => h0 (decide_eq_true e)
          have hf : fits i d = isMark d := by unfold fits; rw [if_neg h0']
          rw [hf] at hm2
          refine ⟨_, rfl, x, d, rfl, hxd, fun H3 e3 => ⟨_, rfl, _, rfl, ?_⟩⟩
          cases hq : isMark d with
          | true => exact iteF ⟨_, _, _, rfl, e2.tr e3, hm2.1 hq⟩
          | false => exact iteT ⟨_, rfl, q2 _ _ (e2.tr e3) (hm2.2 (by rw [hq]; decide))⟩
      · rintro σ H1 ⟨y1, y2, y3, rfl, e1, hm⟩
        refine q1 _ e1 ?_
        rw [hm, hd.length, List.drop_length]
        rfl
theorem ok_is_row {f : Addr} {fd : FuncData} (F : Fun K "is_row" "is_row" s_is_row f fd) (T : Txt K mg) (ho : OthOk K O)
    {f_has_row_length : Addr} {fd_has_row_length : FuncData} (D_has_row_length : Df K mg "has_row_length" f_has_row_length fd_has_row_length ["value"])
    {f_first_misfit : Addr} {fd_first_misfit : FuncData} (D_first_misfit : Df K mg "first_misfit" f_first_misfit fd_first_misfit ["items"]) (G_has_row_length : FnOk P w K mg base CX0 1 f_has_row_length fd_has_row_length ["value"] (spB O oddLen)) (G_first_misfit : FnOk P w K mg base CX0 4 f_first_misfit fd_first_misfit ["items"] (spMisfit O)) :
    FnOk P w K mg base CX0 5 f fd ["value"] (spB O isRow) := by
  refine F.ok sc_is_row (fun vs H Q E h => ?_) (fun cdv A outer s H vs Q E hr h => ?_)
  · obtain ⟨v, d, rfl, _⟩ := h
    rfl
  · obtain ⟨v, d, rfl, hv, q⟩ := h
    refine ⟨_, (pss_one (ps_ret (pe_and (pe_call G_has_row_length (hr.mono (by first | decide | omega)) rfl D_has_row_length.g D_has_row_length.k D_has_row_length.b .nil pass0 (pa_cons (pv 0) pa_nil)) (pe_one (pe_cmp (pc_isN (pe_call G_first_misfit (hr.mono (by first | decide | omega)) rfl D_first_misfit.g D_first_misfit.k D_first_misfit.b .nil pass0 (pa_cons (pv 0) pa_nil))) rfl))))), ?_⟩
    refine ⟨_, rfl, v, d, rfl, hv, fun H1 e1 => ⟨_, rfl, ?_⟩⟩
    have hv1 := hv.ex e1
    cases d with
    | lst ds =>
      refine ite2 (fun h => ?_) (fun h => ?_)
      · refine ⟨_, rfl, v, ds, rfl, .inl hv1, fun H2 e2 hm => ?_, fun H2 i e2 hm => ?_⟩
        · refine bl_to (b := isRow (.lst ds)) ?_ (q _ (e1.tr e2))
          show _ = (decide (ds.length % 2 = 1) && (misfit 0 ds).isNone)
          rw [hm, show decide (ds.length % 2 = 1) = true from h]
          rfl
        · refine bl_to (b := isRow (.lst ds)) ?_ (q _ (e1.tr e2))
          show _ = (decide (ds.length % 2 = 1) && (misfit 0 ds).isNone)
          rw [hm, show decide (ds.length % 2 = 1) = true from h]
          rfl
      · refine bl_to (b := isRow (.lst ds)) ?_ (q _ e1)
        show _ = (decide (ds.length % 2 = 1) && (misfit 0 ds).isNone)
        rw [show decide (ds.length % 2 = 1) = false from Bool.eq_false_iff.mpr h]
        rfl
    | tup ds =>
      refine ite2 (fun h => ?_) (fun h => ?_)
      · refine ⟨_, rfl, v, ds, rfl, .inr hv1, fun H2 e2 hm => ?_, fun H2 i e2 hm => ?_⟩
        · refine bl_to (b := isRow (.tup ds)) ?_ (q _ (e1.tr e2))
          show _ = (decide (ds.length % 2 = 1) && (misfit 0 ds).isNone)
          rw [hm, show decide (ds.length % 2 = 1) = true from h]
          rfl
        · refine bl_to (b := isRow (.tup ds)) ?_ (q _ (e1.tr e2))
          show _ = (decide (ds.length % 2 = 1) && (misfit 0 ds).isNone)
          rw [hm, show decide (ds.length % 2 = 1) = true from h]
          rfl
      · refine bl_to (b := isRow (.tup ds)) ?_ (q _ e1)
        show _ = (decide (ds.length % 2 = 1) && (misfit 0 ds).isNone)
        rw [show decide (ds.length % 2 = 1) = false from Bool.eq_false_iff.mpr h]
        rfl
    | _ => exact iteF (q _ e1)
end

/-! ### valid rows pass the checks -/
section
variable {P : Program} {w : World} {K : PySem.W.Frag} {mg : Str → Option Value} {base : Heap} {O : HO → Prop}
theorem ok_check_items {f : Addr} {fd : FuncData} (F : Fun K "check_items" "check_items" s_check_items f fd) (T : Txt K mg)
    {f_first_misfit : Addr} {fd_first_misfit : FuncData} (D_first_misfit : Df K mg "first_misfit" f_first_misfit fd_first_misfit ["items"]) (G_first_misfit : FnOk P w K mg base CX0 4 f_first_misfit fd_first_misfit ["items"] (spMisfit O)) :
    FnOk P w K mg base CX0 5 f fd ["items"] (spPass O) := by
  refine F.ok sc_check_items (fun vs H Q E h => ?_) (fun cdv A outer s H vs Q E hr h => ?_)
  · obtain ⟨v, d, rfl, _⟩ := h
    rfl
  · obtain ⟨v, d, rfl, hv, hr1, q⟩ := h
    obtain ⟨⟨ds, hd, hm⟩, _⟩ := isRow_cases hr1
    refine ⟨_, (pss_cons (ps_set (i := 1) sc_check_items.nd rfl (.inl rfl) (pe_call G_first_misfit (hr.mono (by first | decide | omega)) rfl D_first_misfit.g D_first_misfit.k D_first_misfit.b .nil pass0 (pa_cons (pv 0) pa_nil)))
    (pss_cons (ps_if (pt_cmp (pc_isN (pv 1))) (pss_one ps_retN) pss_nil)
    (pss_cons (ps_if (pt_cmpR op_eq (pe_op op_mod (pv 1) pe_int) pe_int (nomark _)) (pss_one ps_never) pss_nil)
    (pss_one ps_never)))), ?_⟩
    refine ⟨_, rfl, v, ds, rfl, ?_, fun H1 e1 _ => ?_, fun H1 i e1 h => ?_⟩
    · rcases hd with rfl | rfl
      · exact .inl hv
      · exact .inr hv
    · exact ⟨_, rfl, _, rfl, iteT (q _ e1)⟩
    · rw [hm] at h
      cases h
theorem ok_check_row {f : Addr} {fd : FuncData} (F : Fun K "check_row" "check_row" s_check_row f fd) (T : Txt K mg)
    {f_check_items : Addr} {fd_check_items : FuncData} (D_check_items : Df K mg "check_items" f_check_items fd_check_items ["items"])
    {f_has_row_length : Addr} {fd_has_row_length : FuncData} (D_has_row_length : Df K mg "has_row_length" f_has_row_length fd_has_row_length ["value"]) (G_has_row_length : FnOk P w K mg base CX0 1 f_has_row_length fd_has_row_length ["value"] (spB O oddLen)) (G_check_items : FnOk P w K mg base CX0 5 f_check_items fd_check_items ["items"] (spPass O)) :
    FnOk P w K mg base CX0 6 f fd ["row"] (spPass O) := by
  refine F.ok sc_check_row (fun vs H Q E h => ?_) (fun cdv A outer s H vs Q E hr h => ?_)
  · obtain ⟨v, d, rfl, _⟩ := h
    rfl
  · obtain ⟨v, d, rfl, hv, hr1, q⟩ := h
    obtain ⟨_, ho⟩ := isRow_cases hr1
    refine ⟨_, (pss_cons (ps_if (pt_not (pt_val (pe_call G_has_row_length (hr.mono (by first | decide | omega)) rfl D_has_row_length.g D_has_row_length.k D_has_row_length.b .nil pass0 (pa_cons (pv 0) pa_nil)))) (pss_one ps_never) pss_nil)
    (pss_one (ps_expr (pe_call G_check_items (hr.mono (by first | decide | omega)) rfl D_check_items.g D_check_items.k D_check_items.b .nil pass0 (pa_cons (pv 0) pa_nil))))), ?_⟩
    refine ⟨_, rfl, v, d, rfl, hv, fun H1 e1 => ⟨_, rfl, ?_⟩⟩
    rw [ho]
    exact iteF ⟨_, rfl, v, d, rfl, hv.ex e1, hr1, fun H2 e2 => q _ (e1.tr e2)⟩
end

section
variable {P : Program} {w : World} {K : PySem.W.Frag} {mg : Str → Option Value} {base : Heap}
theorem ok_text {f : Addr} {fd : FuncData} (F : Fun K "_law_text" "_law_text" s_L_text f fd) (T : Txt K mg)
    {f_L_take : Addr} {fd_L_take : FuncData} (D_L_take : Df K mg "_law_take" f_L_take fd_L_take ["_law_box_here", "_law_many"]) (G_L_take : FnOk P w K mg base CX0 1 f_L_take fd_L_take ["_law_box_here", "_law_many"] spTake) :
    FnOk P w K mg base CX0 2 f fd ["_law_box_here"] (spText 10 6) := by
  refine F.ok sc_L_text (fun vs H Q E h => ?_) (fun cdv A outer s H vs Q E hr h => ?_)
  · obtain ⟨a, c, rfl, _⟩ := h
    rfl
  · obtain ⟨a, c, rfl, hb, hc, q⟩ := h
    refine ⟨_, (pss_cons (ps_set (i := 1) sc_L_text.nd rfl (.inl rfl) pe_str)
    (pss_cons (ps_set (i := 2) sc_L_text.nd rfl (.inr rfl) (pe_ix ix_list (pe_lst (pa_cons (pv 1) (pa_cons (pv 1) (pa_cons (pe_op op_add_str (pv 1) (pe_bm0 PySem.F.plainAttrs_str PySem.F.slot_str_upper PySem.F.type_str_upper mt_upper (pv 1))) (pa_cons (pe_op op_add_str pe_str (pe_slice sl_str (pv 1) (po_some (pe_un un_neg pe_int)) po_none)) pa_nil))))) (pe_call G_L_take (hr.mono (by first | decide | omega)) rfl D_L_take.g D_L_take.k D_L_take.b .nil pass0 (pa_cons (pv 0) (pa_cons pe_int pa_nil))) (fun _ _ => rfl)))
    (pss_one (ps_ret (pe_bm PySem.F.plainAttrs_str PySem.F.slot_str_join PySem.F.type_str_join mt_join pe_str (pa_cons (pe_lc (own := [("_law_k", 3)]) (g := gName 3) (tt := tYes) rfl sc_L_text.nd (pi_range1 (by rfl) T.z_range (pa_cons (pe_call G_L_take (hr.mono (by first | decide | omega)) rfl D_L_take.g D_L_take.k D_L_take.b .nil pass0 (pa_cons (pv 0) (pa_cons pe_int pa_nil))) pa_nil)) (blkOk_by (N := sc_L_text.N') (sc := defScope s_L_text) (by decide +kernel)) (fun _ _ _ _ _ => (pg_name (i := 3) sc_L_text.nd rfl (by first | exact Or.inl rfl | exact Or.inr rfl))) (fun _ _ _ _ _ => pts_nil) (fun _ _ _ _ _ => (pe_ix ix_str (pv 2) (pe_call G_L_take (hr.mono (by first | decide | omega)) rfl D_L_take.g D_L_take.k D_L_take.b .nil pass0 (pa_cons (pv 0) (pa_cons (pe_callB call_len_str (by rfl) T.z_len (by decide +kernel) (pa_cons (pv 2) pa_nil)) pa_nil))) (fun _ _ => rfl)))) pa_nil)))))), ?_⟩
    refine ⟨_, rfl, _, rfl, ⟨_, rfl, _, rfl, tyS, _, rfl, rfl, (by decide +kernel), _, _, rfl, rfl, (by decide +kernel), ?_⟩⟩
    refine ⟨_, rfl, _, rfl, _, rfl, _, rfl, (by decide +kernel), _, _, rfl, rfl, (by decide +kernel), ?_⟩
    refine ⟨(by show 4 ≤ sizeLine; decide), fun p hp => ?_⟩
    have nap := hb.ne' hp
    refine ⟨_, rfl, a, c, 4, rfl, hb.upd nap, by omega, by decide, by decide, fun r H1 k1 hb1 r0 r1 => ?_⟩
    obtain ⟨v, e1, e2⟩ := atI_all (xs := [V.str "abcdefghijklmnopqrstuvwxyz", V.str "abcdefghijklmnopqrstuvwxyz",
      V.str (("abcdefghijklmnopqrstuvwxyz" : Str) ++ Txt.upper "abcdefghijklmnopqrstuvwxyz"), V.str (("ab-_+ Z1" : Str) ++ cutS "abcdefghijklmnopqrstuvwxyz" (some (-2)) none)])
      (fun v => strIn 1 100 v = true) r0 r1 (by decide +kernel)
    obtain ⟨sg, rfl, s1, s2, sA⟩ := strIn_of e2
    refine ⟨p, _, r, _, rfl, rfl, SqL.of (k1 _ _ nap.symm upd_same), e1, ?_⟩
    replace k1 := (Kp.of (a := a) (Ex.new hp)).tr k1
    refine ⟨tyS, _, rfl, a, c + 1, 6, rfl, hb1, by omega, by decide, by decide, fun r H2 k2 hb2 r0 r1 => ?_⟩
    replace k2 := k1.tr k2
    refine ⟨r, rfl, by omega, by omega, fun D hD => lc_range (n := r.toNat) (fun i H' => ∃ ys : List Str, H' D = some (.lst (ys.map V.str)) ∧ ys.length = i ∧ (∀ y ∈ ys, y.length ≤ 1) ∧ (∀ y ∈ ys, ∀ c ∈ y.cps.toList, c < 128) ∧ Kp a H H' ∧ BoxAt H' a (c + 2 + i))
      ⟨[], upd_same, rfl, fun y hy => by simp at hy, fun y hy => by simp at hy, k2.mut (k2.none hb2 hD), hb2.upd (hb2.ne' hD)⟩ ?_ ?_⟩
    · rintro i H3 hi ⟨ys, hy, hl, hall, hasc, k3, hb3⟩
      have nDa : D ≠ a := hb2.ne hD
      refine ⟨rfl, lcY ⟨_, rfl, _, rfl, _, rfl, _, rfl, le_line (by omega), a, c + 2 + i, _, rfl, hb3, by omega, by omega, by omega, fun r H4 k4 hb4 r0 r1 => ?_⟩⟩
      obtain ⟨ch, e3, hch⟩ := atI_all (xs := sg.cps.toList) (fun c => c < 128) r0 (by rw [← Gd.len_list]; exact r1) sA
      refine ⟨sg, r, ch, rfl, rfl, le_line (by omega), e3, ?_⟩
      refine ⟨_, k4 _ _ nDa hy, by rw [List.length_map, hl]; exact Nat.lt_of_lt_of_le (show i < 100 by omega) (by decide), ys ++ [⟨#[ch]⟩], ?_, by simp [hl], ?_, ?_, ?_, ?_⟩
      · rw [upd_same, List.map_append]; rfl
      · intro y hy
        rcases List.mem_append.mp hy with h | h
        · exact hall y h
        · have : y = ⟨#[ch]⟩ := by simpa using h
          subst this
          exact Nat.le_refl 1
      · intro y hy
        rcases List.mem_append.mp hy with h | h
        · exact hasc y h
        · have : y = ⟨#[ch]⟩ := by simpa using h
          subst this
          intro d hd
          have : d = ch := by simpa using hd
          omega
      · exact (k3.tr k4).mut (k2.none hb2 hD)
      · exact (hb4.up (by omega)).upd nDa.symm
    · rintro H3 ⟨ys, hy, hl, hall, hasc, k3, hb3⟩
      have hle : ys.length ≤ 6 := by omega
      refine ⟨_, D, ys, rfl, rfl, .inl (SqL.of hy), join_fits hall hle (by decide), q _ _ k3 (hb3.up (by omega)) ?_ ?_⟩
      · have := join_len hall
        omega
      · exact okS_of (by have := join_len hall; omega) (join_asc hasc)
end

/-! ### the strip of one piece -/
section
variable {P : Program} {w : World} {K : PySem.W.Frag} {mg : Str → Option Value} {base : Heap} {O : HO → Prop}
/-- the row ['a'] has no markers -/
theorem ok_places_by_name {f : Addr} {fd : FuncData} (F : Fun K "places_by_name" "places_by_name" s_places_by_name f fd) (T : Txt K mg) :
    FnOk P w K mg base CX0 1 f fd ["row"] (fun vs H Q _ => ∃ (l : Addr) (x : V), vs = [.ref l] ∧ H l = some (.lst [x]) ∧ ∀ p H', Ex H H' → H p = none → H' p = some (.dK []) → Q (.ref p) H') := by
  refine F.ok sc_places_by_name (fun vs H Q E h => ?_) (fun cdv A outer s H vs Q E hr h => ?_)
  · obtain ⟨l, x, rfl, _⟩ := h
    rfl
  · obtain ⟨l, x, rfl, hl, q⟩ := h
    refine ⟨_, (pss_cons (ps_set (i := 1) sc_places_by_name.nd rfl (.inl rfl) pe_dnewK)
    (pss_cons (ps_for PassesOwn.never rfl (pi_enum (by rfl) T.z_enumerate (pa_cons (pe_sliceS ss_twoL (pv 0) (po_some pe_int) po_none (po_some pe_int)) pa_nil)) (pg_tup (by rfl) (pgs_cons (pg_name (i := 2) sc_places_by_name.nd rfl (.inl rfl)) (pgs_cons (pg_tup (by rfl) (pgs_cons (pg_name (i := 3) sc_places_by_name.nd rfl (.inl rfl)) (pgs_cons (pg_name (i := 4) sc_places_by_name.nd rfl (.inl rfl)) pgs_nil))) pgs_nil)))
      (pss_one ps_never))
    (pss_one (ps_ret (pv 1))))), ?_⟩
    refine fun p hp => ?_
    have e1 : Ex H (upd H p (.dK [])) := Ex.new hp
    refine ⟨_, rfl, _, rfl, _, rfl, l, _, rfl, SqL.of (e1 _ _ hl), rfl, rfl, .inr ⟨rfl, fun t ht => ?_⟩⟩
    have e2 := Ex.new (o := .lst (odds [x])) ht
    refine ⟨t, [], rfl, SqL.of upd_same, for_enumL (K := K) (a := t) (xs := []) (fun i σ H' => i = 0 ∧ σ = [some (.ref l), some (.ref p), none, none, none] ∧ H' = upd (upd H p (.dK [])) t (.lst (odds [x]))) ⟨rfl, rfl, rfl⟩ ?_ ?_ ?_⟩
    · rintro i σ H' _ ⟨_, _, rfl⟩
      exact SqL.of upd_same
    · intro i y σ H' T hi
      simp at hi
    · rintro σ H' ⟨_, rfl, rfl⟩
      exact ⟨_, rfl, q p _ (e1.tr e2) hp (e2 _ _ upd_same)⟩
structure StripCls (K : PySem.W.Frag) (C : Addr) : Prop where
  cl : Cls K C
  nR : NoAttr K C "_row"
  nP : NoAttr K C "_places"
theorem ok_strip_init {f C : Addr} {fd : FuncData} (F : Fun K "__init__" "Strip.__init__" s_Strip_init f fd) (T : Txt K mg) (TC : StripCls K C)
    {f_check_row : Addr} {fd_check_row : FuncData} (D_check_row : Df K mg "check_row" f_check_row fd_check_row ["row"])
    {f_places_by_name : Addr} {fd_places_by_name : FuncData} (D_places_by_name : Df K mg "places_by_name" f_places_by_name fd_places_by_name ["row"]) (G_check_row : FnOk P w K mg base CX0 6 f_check_row fd_check_row ["row"] (spPass O))
    (G_places_by_name : FnOk P w K mg base CX0 1 f_places_by_name fd_places_by_name ["row"] (fun vs H Q _ => ∃ (l : Addr) (x : V), vs = [.ref l] ∧ H l = some (.lst [x]) ∧ ∀ p H', Ex H H' → H p = none → H' p = some (.dK []) → Q (.ref p) H')) :
    FnOk P w K mg base CX0 7 f fd ["self", "row"] (fun vs H Q _ => ∃ (x dx l : Addr), vs = [.ref x, .ref l] ∧ H x = some (.ins C dx []) ∧ H l = some (.lst [.str "a"]) ∧
      ∀ H' fs, Kp x H H' → H' x = some (.ins C dx fs) → Q .non H') := by
  refine F.ok sc_Strip_init (fun vs H Q E h => ?_) (fun cdv A outer s H vs Q E hr h => ?_)
  · obtain ⟨x, dx, l, rfl, _⟩ := h
    rfl
  · obtain ⟨x, dx, l, rfl, hx, hl, q⟩ := h
    have hu := hu_of hr
    refine ⟨_, (pss_cons (ps_expr (pe_call G_check_row (hr.mono (by first | decide | omega)) rfl D_check_row.g D_check_row.k D_check_row.b .nil pass0 (pa_cons (pv 1) pa_nil)))
    (pss_cons (ps_set (i := 2) sc_Strip_init.nd rfl (.inr rfl) (pe_call G_places_by_name (hr.mono (by first | decide | omega)) rfl D_places_by_name.g D_places_by_name.k D_places_by_name.b .nil pass0 (pa_cons (pv 1) pa_nil)))
    (pss_cons (ps_lock (ps_for PassesOwn.never rfl (pi_keys (pv 2)) (pg_name (i := 3) sc_Strip_init.nd rfl (.inl rfl))
      (pss_one ps_never)))
    (pss_cons (ps_if (pt_cmpR op_gt (pe_callB call_lenD (by rfl) T.z_len (by decide +kernel) (pa_cons (pv 2) pa_nil)) (pe_const rfl T.g_MOST_NAMES) (nomark _)) (pss_one ps_never) pss_nil)
    (pss_cons (ps_fld (pv 0) (pe_callTy call_list_of (by rfl) T.z_list (by decide +kernel) (pa_cons (pv 1) pa_nil)) rfl)
    (pss_one (ps_fld (pv 0) (pe_lock (pe_dc (own := [("name", 3)]) (g := gName 3) (tt := tYes) rfl sc_Strip_init.nd (pi_keys (pv 2)) (blkOk_by (N := sc_Strip_init.N') (sc := defScope s_Strip_init) (by decide +kernel)) (fun _ _ _ _ _ => (pg_name (i := 3) sc_Strip_init.nd rfl (by first | exact Or.inl rfl | exact Or.inr rfl))) (fun _ _ _ _ _ => pts_nil) (fun _ _ _ _ _ => (pv 3)) (fun _ _ _ _ _ => pe_never))) rfl))))))), ?_⟩
    refine ⟨_, rfl, .ref l, .lst [.str "a"], rfl, .lst hl (.cons (.str _ (by decide)) .nil) (by decide), by decide +kernel, fun H1 e1 => ?_⟩
    refine ⟨_, rfl, l, _, rfl, e1 _ _ hl, fun p H2 e2 hp1 hp => ?_⟩
    have e12 := e1.tr e2
    have npx : p ≠ x := fun e => by rw [e, e1 _ _ hx] at hp1; cases hp1
    have npl : p ≠ l := fun e => by rw [e, e1 _ _ hl] at hp1; cases hp1
    refine ⟨p, _, hp, trivial, fun od => ?_⟩
    refine ⟨_, rfl, p, od, rfl, .inl ⟨[], upd_same, fun i m σ H' => i = 0 ∧ σ = [some (.ref x), some (.ref l), some (.ref p), none] ∧ H' = upd H2 p (.frz od (.dK [])), ⟨0, rfl, rfl, rfl⟩, ?_⟩⟩
    rintro i m σ H' ⟨rfl, rfl, rfl⟩
    refine .inl ⟨⟨upd_same, Nat.le_refl _⟩, upd_same, ?_⟩
    rw [upd_upd]
    have e3 : ∀ b o, H b = some o → upd H2 p (.dK []) b = some o := fun b o h => by
      rw [upd_ne (fun e => by rw [e] at h; exact absurd (e1 _ _ h) (by rw [hp1]; simp))]
      exact e12 _ _ h
    generalize hH3 : upd H2 p (.dK []) = H3 at e3 ⊢
    have hp3 : H3 p = some (.dK []) := by rw [← hH3]; exact upd_same
    refine ⟨_, rfl, p, [], rfl, hp3, _, _, rfl, rfl, _, rfl, iteF ?_⟩
    refine ⟨_, rfl, l, _, rfl, .inl (SqL.of (e3 _ _ hl)), fun r hr0 => ?_⟩
    have nrx : r ≠ x := (ne_of_none (e3 _ _ hx) hr0).symm
    have nrp : r ≠ p := (ne_of_none hp3 hr0).symm
    refine ⟨_, rfl, x, C, dx, [], rfl, (upd_ne nrx.symm).trans (e3 _ _ hx), TC.cl, TC.nR, by decide, ?_⟩
    refine ⟨p, .dK [], ?_, trivial, fun od2 => ?_⟩
    · rw [upd_ne npx, upd_ne nrp.symm]
      exact hp3
    refine ⟨_, rfl, p, od2, rfl, .inl ⟨[], upd_same, fun D hD => ⟨fun i m H' => i = 0 ∧ H' = upd (upd (upd (upd H3 r (.lst [.str "a"])) x (.ins C dx (putF "_row" (.ref r) []))) p (.frz od2 (.dK []))) D (.dK []), ⟨0, rfl, rfl⟩, ?_⟩⟩⟩
    rintro i m H' ⟨rfl, rfl⟩
    have nDp : D ≠ p := fun e => by rw [e, upd_same] at hD; cases hD
    have nDx : D ≠ x := fun e => by rw [e, upd_ne npx.symm, upd_same] at hD; cases hD
    refine .inl ⟨⟨(upd_ne nDp.symm).trans upd_same, Nat.le_refl _⟩, (upd_ne nDp.symm).trans upd_same, ?_⟩
    refine ⟨_, rfl, x, C, dx, putF "_row" (.ref r) [], rfl, ?_, TC.cl, TC.nP, (by show 1 < 1000; decide), ?_⟩
    · rw [upd_ne npx.symm, upd_ne nDx.symm, upd_ne npx.symm, upd_same]
    · refine q _ _ (fun b o nb hb => ?_) upd_same
      have h3 := e3 b o hb
      have nbp : b ≠ p := fun e => by rw [e] at hb; exact absurd (e1 _ _ hb) (by rw [hp1]; simp)
      have nbr : b ≠ r := fun e => by rw [e, hr0] at h3; cases h3
      have nbD : b ≠ D := fun e => by rw [e] at h3 nb nbp nbr; rw [upd_ne nbp, upd_ne nb, upd_ne nbr] at hD; rw [hD] at h3; cases h3
      rw [upd_ne nb, upd_ne nbp, upd_ne nbD, upd_ne nbp, upd_ne nb, upd_ne nbr]
      exact h3
end

/-! ### odd values -/
section
variable {P : Program} {w : World} {K : PySem.W.Frag} {mg : Str → Option Value} {base : Heap}
theorem ok_odd {f C f_Strip_init : Addr} {fd fd_Strip_init : FuncData} (F : Fun K "_law_odd" "_law_odd" s_L_odd f fd) (T : Txt K mg)
    {f_L_take : Addr} {fd_L_take : FuncData} (D_L_take : Df K mg "_law_take" f_L_take fd_L_take ["_law_box_here", "_law_many"]) (G_L_take : FnOk P w K mg base CX0 1 f_L_take fd_L_take ["_law_box_here", "_law_many"] spTake)
    (M_Strip : Mk K C f_Strip_init) (mc_Strip : mg "Strip" = some (.ref C)) (b_Strip_init : Binds K fd_Strip_init ["self", "row"] [])
    (G_Strip_init : FnOk P w K mg base CX0 7 f_Strip_init fd_Strip_init ["self", "row"] (fun vs H Q _ => ∃ (x dx l : Addr), vs = [.ref x, .ref l] ∧ H x = some (.ins C dx []) ∧ H l = some (.lst [.str "a"]) ∧
      ∀ H' fs, Kp x H H' → H' x = some (.ins C dx fs) → Q .non H')) :
    FnOk P w K mg base CX0 9 f fd ["_law_box_here"] (spDraw (OO C) 1 fun d => dep d ≤ 1) := by
  refine F.ok sc_L_odd (fun vs H Q E h => ?_) (fun cdv A outer s H vs Q E hr h => ?_)
  · obtain ⟨a, c, G, rfl, _⟩ := h
    rfl
  · obtain ⟨a, c, G, rfl, hb, hc, eG, gA, q⟩ := h
    have S : Sta G H G H a c := .start eG gA hb
    refine ⟨_, (pss_cons (ps_set (i := 1) sc_L_odd.nd rfl (.inl rfl) (pe_lst (pa_cons pe_non (pa_cons pe_bl (pa_cons pe_bl (pa_cons pe_int (pa_cons (pe_un un_neg pe_int) (pa_cons (pe_op op_pow pe_int pe_int) (pa_cons pe_str (pa_cons pe_str (pa_cons pe_str (pa_cons (pe_tup pa_nil) (pa_cons (pe_lst pa_nil) (pa_cons pe_dnewK (pa_cons (pe_tup (pa_cons pe_str pa_nil)) (pa_cons (pe_tup (pa_cons pe_str (pa_cons pe_int pa_nil))) (pa_cons (pe_tup (pa_cons pe_str (pa_cons pe_bl (pa_cons pe_bl pa_nil)))) pa_nil)))))))))))))))))
    (pss_cons (ps_set (i := 1) sc_L_odd.nd rfl (.inl rfl) (pe_op op_cat (pv 1) (pe_lst (pa_cons (pe_lst (pa_cons pe_str (pa_cons pe_bl pa_nil))) (pa_cons (pe_tup (pa_cons pe_str (pa_cons pe_bl pa_nil))) (pa_cons (pe_tup (pa_cons pe_str (pa_cons pe_bl pa_nil))) (pa_cons (pe_tup (pa_cons pe_str (pa_cons pe_bl pa_nil))) (pa_cons (pe_tup (pa_cons pe_bl (pa_cons pe_str pa_nil))) (pa_cons (pe_tup (pa_cons pe_str (pa_cons pe_non pa_nil))) (pa_cons (pe_disp (pps_cons pe_str pe_bl pps_nil) rfl rfl (by simp) (by decide)) pa_nil))))))))))
    (pss_cons (ps_expr (pe_bm PySem.F.plainAttrs_list PySem.F.slot_list_append PySem.F.type_list_append mt_append (pv 1) (pa_cons (pe_make M_Strip G_Strip_init (hr.mono (by first | decide | omega)) rfl mc_Strip b_Strip_init .nil pass0 (pa_cons (pe_lst (pa_cons pe_str pa_nil)) pa_nil)) pa_nil)))
    (pss_one (ps_ret (pe_ix ix_list (pv 1) (pe_call G_L_take (hr.mono (by first | decide | omega)) rfl D_L_take.g D_L_take.k D_L_take.b .nil pass0 (pa_cons (pv 0) (pa_cons pe_int pa_nil))) (fun _ _ => rfl))))))), ?_⟩
    refine ⟨_, rfl, _, _, rfl, rfl, ⟨by decide, by decide, by decide⟩, Nat.zero_le _, fun p1 h1 => ⟨Nat.zero_le _, fun p2 h2 p3 h3 => ⟨(by show 1 ≤ sizeLine; decide), fun p4 h4 => ⟨(by show 2 ≤ sizeLine; decide), fun p5 h5 => ⟨(by show 3 ≤ sizeLine; decide), fun p6 h6 => ?_⟩⟩⟩⟩⟩
    have S1 := S.new h1 (.tup [])
    have S2 := S1.new h2 (.lst [])
    have S3 := S2.new h3 (.dK [])
    have S4 := S3.new h4 (.tup [.str "a"])
    have S5 := S4.new h5 (.tup [.str "a", .int 1])
    have S6 := S5.new h6 (.tup [.str "a", .bl true, .bl true])
    have x5 := S5.enew (o := .tup [.str "a", .bl true, .bl true]) h6
    have x4 := (S4.enew (o := .tup [.str "a", .int 1]) h5).tr x5
    have x3 := (S3.enew (o := .tup [.str "a"]) h4).tr x4
    have x2 := (S2.enew (o := .dK []) h3).tr x3
    have x1 := (S1.enew (o := .lst []) h2).tr x2
    have x0 := (S.enew (o := .tup []) h1).tr x1
    refine ⟨(by show 15 ≤ sizeLine; decide), fun p7 h7 => ?_⟩
    have D1 : DVs (OO C) (upd (upd (upd (upd (upd (upd G p1 (.tup [])) p2 (.lst [])) p3 (.dK [])) p4 (.tup [.str "a"])) p5 (.tup [.str "a", .int 1])) p6 (.tup [.str "a", .bl true, .bl true]))
        [.non, .bl true, .bl false, .int 0, .int (-1), .int (10 ^ Int.toNat 29), .str "", .str "a b", .str "ab1", .ref p1, .ref p2, .ref p3, .ref p4, .ref p5, .ref p6]
        [.non, .bl true, .bl false, .int 0, .int (-1), .int (10 ^ Int.toNat 29), .str "", .str "a b", .str "ab1", .tup [], .lst [], .oth, .tup [.str "a"], .tup [.str "a", .int 1], .tup [.str "a", .bl true, .bl true]] :=
      .cons .non (.cons (.bl _) (.cons (.bl _) (.cons (.int _) (.cons (.int _) (.cons (.int _) (.cons (.str _ (by decide)) (.cons (.str _ (by decide)) (.cons (.str _ (by decide))
        (.cons (.tup (x1 _ _ upd_same) .nil (by decide)) (.cons (.lst (x2 _ _ upd_same) .nil (by decide)) (.cons (.oth (x3 _ _ upd_same) (.inl ⟨_, rfl⟩))
        (.cons (.tup (x4 _ _ upd_same) (.cons (.str _ (by decide)) .nil) (by decide)) (.cons (.tup (x5 _ _ upd_same) (.cons (.str _ (by decide)) (.cons (.int _) .nil)) (by decide))
        (.cons (.tup upd_same (.cons (.str _ (by decide)) (.cons (.bl _) (.cons (.bl _) .nil))) (by decide)) .nil))))))))))))))
    have S7 : Sta G H _ (upd (upd (upd (upd (upd (upd (upd H p1 (.tup [])) p2 (.lst [])) p3 (.dK [])) p4 (.tup [.str "a"])) p5 (.tup [.str "a", .int 1])) p6 (.tup [.str "a", .bl true, .bl true])) p7 (.lst [.non, .bl true, .bl false, .int 0, (fun i => .int (-i)) 1, (fun i j => .int (i ^ Int.toNat j)) 10 29, .str "", .str "a b", .str "ab1", .ref p1, .ref p2, .ref p3, .ref p4, .ref p5, .ref p6])) a c := S6.hid h7 (.lst [.non, .bl true, .bl false, .int 0, .int (-1), .int (10 ^ Int.toNat 29), .str "", .str "a b", .str "ab1", .ref p1, .ref p2, .ref p3, .ref p4, .ref p5, .ref p6])
    have hp7 : (upd (upd (upd (upd (upd (upd (upd H p1 (.tup [])) p2 (.lst [])) p3 (.dK [])) p4 (.tup [.str "a"])) p5 (.tup [.str "a", .int 1])) p6 (.tup [.str "a", .bl true, .bl true])) p7 (.lst [.non, .bl true, .bl false, .int 0, (fun i => .int (-i)) 1, (fun i j => .int (i ^ Int.toNat j)) 10 29, .str "", .str "a b", .str "ab1", .ref p1, .ref p2, .ref p3, .ref p4, .ref p5, .ref p6])) p7 = some (.lst [.non, .bl true, .bl false, .int 0, .int (-1), .int (10 ^ Int.toNat 29), .str "", .str "a b", .str "ab1", .ref p1, .ref p2, .ref p3, .ref p4, .ref p5, .ref p6]) := @upd_same (upd (upd (upd (upd (upd (upd H p1 (.tup [])) p2 (.lst [])) p3 (.dK [])) p4 (.tup [.str "a"])) p5 (.tup [.str "a", .int 1])) p6 (.tup [.str "a", .bl true, .bl true])) p7 (.lst [.non, .bl true, .bl false, .int 0, .int (-1), .int (10 ^ Int.toNat 29), .str "", .str "a b", .str "ab1", .ref p1, .ref p2, .ref p3, .ref p4, .ref p5, .ref p6])
    have g7 := S6.ex.free h7
    generalize hG6 : upd (upd (upd (upd (upd (upd G p1 (.tup [])) p2 (.lst [])) p3 (.dK [])) p4 (.tup [.str "a"])) p5 (.tup [.str "a", .int 1])) p6 (.tup [.str "a", .bl true, .bl true]) = G6 at x0 D1 S7 g7
    generalize hH7 : upd (upd (upd (upd (upd (upd (upd H p1 (.tup [])) p2 (.lst [])) p3 (.dK [])) p4 (.tup [.str "a"])) p5 (.tup [.str "a", .int 1])) p6 (.tup [.str "a", .bl true, .bl true])) p7 (.lst [.non, .bl true, .bl false, .int 0, (fun i => .int (-i)) 1, (fun i j => .int (i ^ Int.toNat j)) 10 29, .str "", .str "a b", .str "ab1", .ref p1, .ref p2, .ref p3, .ref p4, .ref p5, .ref p6]) = H7 at S7 hp7 ⊢
    clear S1 S2 S3 S4 S5 S6 x1 x2 x3 x4 x5
    refine ⟨_, rfl, (by show 2 ≤ sizeLine; decide), fun p8 h8 => ⟨(by show 2 ≤ sizeLine; decide), fun p9 h9 => ⟨(by show 2 ≤ sizeLine; decide), fun p10 h10 => ⟨(by show 2 ≤ sizeLine; decide), fun p11 h11 =>
      ⟨(by show 2 ≤ sizeLine; decide), fun p12 h12 => ⟨(by show 2 ≤ sizeLine; decide), fun p13 h13 p14 h14 => ⟨upd_same, [(Sum.inr "a", .bl true)], rfl, by decide, (by show 7 ≤ sizeLine; decide), fun p15 h15 => ?_⟩⟩⟩⟩⟩⟩⟩
    rw [upd_upd] at h15 ⊢
    have S8 := S7.new h8 (.lst [.str "a", .bl true])
    have S9 := S8.new h9 (.tup [.str "A", .bl true])
    have S10 := S9.new h10 (.tup [.str "", .bl false])
    have S11 := S10.new h11 (.tup [.str "abcde", .bl true])
    have S12 := S11.new h12 (.tup [.bl true, .str "a"])
    have S13 := S12.new h13 (.tup [.str "a", .non])
    have S14 := S13.new h14 (.dK (mergeK [] [(Sum.inr "a", .bl true)]))
    have x13 := S13.enew (o := .dK (mergeK [] [(Sum.inr "a", .bl true)])) h14
    have x12 := (S12.enew (o := .tup [.str "a", .non]) h13).tr x13
    have x11 := (S11.enew (o := .tup [.bl true, .str "a"]) h12).tr x12
    have x10 := (S10.enew (o := .tup [.str "abcde", .bl true]) h11).tr x11
    have x9 := (S9.enew (o := .tup [.str "", .bl false]) h10).tr x10
    have x8 := (S8.enew (o := .tup [.str "A", .bl true]) h9).tr x9
    have x7 := (S7.enew (o := .lst [.str "a", .bl true]) h8).tr x8
    have D2 := (DVs.ex x7 _ _ D1).app (.cons (.lst (x8 _ _ upd_same) (.cons (.str "a" (by decide)) (.cons (.bl true) .nil)) (by decide)) (.cons (.tup (x9 _ _ upd_same) (.cons (.str "A" (by decide)) (.cons (.bl true) .nil)) (by decide))
      (.cons (.tup (x10 _ _ upd_same) (.cons (.str "" (by decide)) (.cons (.bl false) .nil)) (by decide)) (.cons (.tup (x11 _ _ upd_same) (.cons (.str "abcde" (by decide)) (.cons (.bl true) .nil)) (by decide))
      (.cons (.tup (x12 _ _ upd_same) (.cons (.bl true) (.cons (.str "a" (by decide)) .nil)) (by decide)) (.cons (.tup (x13 _ _ upd_same) (.cons (.str "a" (by decide)) (.cons .non .nil)) (by decide))
      (.cons (.oth upd_same (.inl ⟨_, rfl⟩)) .nil)))))))
    have y7 := (Ex.new (o := .lst [.str "a", .bl true]) h8).tr ((Ex.new (o := .tup [.str "A", .bl true]) h9).tr ((Ex.new (o := .tup [.str "", .bl false]) h10).tr ((Ex.new (o := .tup [.str "abcde", .bl true]) h11).tr
      ((Ex.new (o := .tup [.bl true, .str "a"]) h12).tr ((Ex.new (o := .tup [.str "a", .non]) h13).tr (Ex.new (o := .dK (mergeK [] [(Sum.inr "a", .bl true)])) h14))))))
    have S15 := S14.hid h15 (.lst [.ref p8, .ref p9, .ref p10, .ref p11, .ref p12, .ref p13, .ref p14])
    have g15 := S14.ex.free h15
    have gG : Ex G6 _ := x7
    generalize hG14 : upd (upd (upd (upd (upd (upd (upd G6 p8 (.lst [.str "a", .bl true])) p9 (.tup [.str "A", .bl true])) p10 (.tup [.str "", .bl false])) p11 (.tup [.str "abcde", .bl true])) p12 (.tup [.bl true, .str "a"])) p13 (.tup [.str "a", .non])) p14 (.dK (mergeK [] [(Sum.inr "a", .bl true)])) = G14 at S15 D2 g15 gG
    have hp7' := y7 _ _ hp7
    have n157 := ne_of_none hp7' h15
    refine ⟨p7, p15, _, _, rfl, rfl, (upd_ne n157).trans hp7', upd_same, (by show 15 + 7 ≤ sizeLine; decide), fun p16 h16 => ?_⟩
    have S16 := S15.hid h16 (.lst ([.non, .bl true, .bl false, .int 0, .int (-1), .int (10 ^ Int.toNat 29), .str "", .str "a b", .str "ab1", .ref p1, .ref p2, .ref p3, .ref p4, .ref p5, .ref p6] ++ [.ref p8, .ref p9, .ref p10, .ref p11, .ref p12, .ref p13, .ref p14]))
    have g16 := S15.ex.free h16
    have f16 := S15.kp.none S15.bx h16
    have n16a := S15.bx.ne h16
    have hp16 := @upd_same (upd (upd (upd (upd (upd (upd (upd (upd H7 p8 (.lst [.str "a", .bl true])) p9 (.tup [.str "A", .bl true])) p10 (.tup [.str "", .bl false])) p11 (.tup [.str "abcde", .bl true])) p12 (.tup [.bl true, .str "a"])) p13 (.tup [.str "a", .non])) p14 (.dK (mergeK [] [(Sum.inr "a", .bl true)]))) p15 (.lst [.ref p8, .ref p9, .ref p10, .ref p11, .ref p12, .ref p13, .ref p14])) p16
      (.lst ([.non, .bl true, .bl false, .int 0, .int (-1), .int (10 ^ Int.toNat 29), .str "", .str "a b", .str "ab1", .ref p1, .ref p2, .ref p3, .ref p4, .ref p5, .ref p6] ++ [.ref p8, .ref p9, .ref p10, .ref p11, .ref p12, .ref p13, .ref p14]))
    generalize hH16 : upd _ p16 _ = H16 at S16 hp16 ⊢
    clear S8 S9 S10 S11 S12 S13 S14 S15 x7 x8 x9 x10 x11 x12 x13 S7
    refine ⟨_, rfl, .inl ⟨rfl, _, SqL.of hp16⟩, (by show 1 ≤ sizeLine; decide), fun l hl x dx hx hdx nd => ?_⟩
    have S17 := S16.hid hl (.lst [.str "a"])
    have S18 := S17.hid hdx (.own x)
    have hx' : upd (upd H16 l (.lst [.str "a"])) dx (.own x) x = none := (upd_ne nd.symm).trans hx
    have S19 := S18.hid hx' (.ins C dx [])
    have nlx : l ≠ x := ne_of_none upd_same hx
    have n16l := ne_of_none hp16 hl
    have h17 : upd H16 l (.lst [.str "a"]) p16 = some _ := (upd_ne n16l).trans hp16
    have n16x := ne_of_none h17 hx
    have n16d := ne_of_none h17 hdx
    have nld : l ≠ dx := ne_of_none upd_same hdx
    refine ⟨x, dx, l, rfl, upd_same, (upd_ne nlx).trans ((upd_ne nld).trans upd_same), fun H' fs k hx2 => ⟨rfl, ?_⟩⟩
    have nxa := S18.bx.ne hx'
    have gx := S18.ex.free hx'
    have S20 := S19.kpx gx (S18.kp.none S18.bx hx') nxa k
    have S21 := S20.know hx2 nxa (S18.kp.none S18.bx hx') gx
    have e21 : Ex G14 (upd G14 x (.ins C dx fs)) := Ex.new gx
    have h20 : H' p16 = some _ := k _ _ n16x ((upd_ne n16x).trans ((upd_ne n16d).trans h17))
    have D3 := (DVs.ex e21 _ _ D2).app (DVs.cons (.oth (a := x) upd_same (.inr ⟨dx, fs, rfl⟩)) .nil)
    refine ⟨p16, _, _, rfl, rfl, h20, (by show 22 < sizeLine; decide), ?_⟩
    have S22 := S21.put ((upd_ne n16x).trans g16) n16a f16 (.lst ((([.non, .bl true, .bl false, .int 0, .int (-1), .int (10 ^ Int.toNat 29), .str "", .str "a b", .str "ab1", .ref p1, .ref p2, .ref p3, .ref p4, .ref p5, .ref p6] : List V) ++ [.ref p8, .ref p9, .ref p10, .ref p11, .ref p12, .ref p13, .ref p14]) ++ [.ref x]))
    refine ⟨_, rfl, _, rfl, a, c, 23, rfl, S22.bx, by omega, by decide, by decide, fun r H2 k2 b2 r0 r1 => ?_⟩
    have hdep := all_dep (ds := (([.non, .bl true, .bl false, .int 0, .int (-1), .int (10 ^ Int.toNat 29), .str "", .str "a b", .str "ab1", .tup [], .lst [], .oth, .tup [.str "a"], .tup [.str "a", .int 1], .tup [.str "a", .bl true, .bl true]] : List D) ++
      [.lst [.str "a", .bl true], .tup [.str "A", .bl true], .tup [.str "", .bl false], .tup [.str "abcde", .bl true], .tup [.bl true, .str "a"], .tup [.str "a", .non], .oth]) ++ [.oth]) (n := 1) (by decide +kernel)
    obtain ⟨v, e1, d, hv, hdp⟩ := atI_all (xs := (([.non, .bl true, .bl false, .int 0, .int (-1), .int (10 ^ Int.toNat 29), .str "", .str "a b", .str "ab1", .ref p1, .ref p2, .ref p3, .ref p4, .ref p5, .ref p6] : List V) ++ [.ref p8, .ref p9, .ref p10, .ref p11, .ref p12, .ref p13, .ref p14]) ++ [.ref x])
      (fun v => ∃ d, DV (OO C) (upd G14 x (.ins C dx fs)) v d ∧ dep d ≤ 1) r0 (by simp; omega) (fun v hv => by obtain ⟨d, hd, h⟩ := D3.mem v hv; exact ⟨d, h, hdep d hd⟩)
    exact ⟨p16, _, r, v, rfl, rfl, SqL.of (k2 _ _ n16a upd_same), e1, q v d _ _ (S22.draw k2 b2) hv hdp⟩
end

/-! ### rows, some of them wrong -/
section
variable {P : Program} {w : World} {K : PySem.W.Frag} {mg : Str → Option Value} {base : Heap}
/-- between the changes of a row -/
def RowMid (O : HO → Prop) (H G : Hp) (a : Addr) (c : Nat) (at_ way : Int) (k : Nat) : L2.St → Hp → Prop := fun σ H' => ∃ (G' : Hp) (l : Addr) (vs : List V) (ds : List D) (y : Option V),
  σ = [some (.ref a), some (.ref l), y, some (.int at_), some (.int way)] ∧ Sta G H G' H' a c ∧ G' l = none ∧ l ≠ a ∧ H l = none ∧ H' l = some (.lst vs) ∧ DVs O G' vs ds ∧ (∀ d ∈ ds, dep d ≤ 1) ∧ vs.length ≤ k ∧ (way ≠ 0 → at_ < vs.length)
theorem ok_row {f C : Addr} {fd : FuncData} (F : Fun K "_law_row" "_law_row" s_L_row f fd) (T : Txt K mg)
    {f_L_take : Addr} {fd_L_take : FuncData} (D_L_take : Df K mg "_law_take" f_L_take fd_L_take ["_law_box_here", "_law_many"])
    {f_L_odd : Addr} {fd_L_odd : FuncData} (D_L_odd : Df K mg "_law_odd" f_L_odd fd_L_odd ["_law_box_here"])
    {f_L_text : Addr} {fd_L_text : FuncData} (D_L_text : Df K mg "_law_text" f_L_text fd_L_text ["_law_box_here"]) (G_L_take : FnOk P w K mg base CX0 1 f_L_take fd_L_take ["_law_box_here", "_law_many"] spTake)
    (G_L_text : FnOk P w K mg base CX0 2 f_L_text fd_L_text ["_law_box_here"] (spText 10 6)) (G_L_odd : FnOk P w K mg base CX0 9 f_L_odd fd_L_odd ["_law_box_here"] (spDraw (OO C) 1 fun d => dep d ≤ 1)) :
    FnOk P w K mg base CX0 10 f fd ["_law_box_here"] (spDraw (OO C) 1000 fun d => dep d ≤ 2) := by
  refine F.ok sc_L_row (fun vs H Q E h => ?_) (fun cdv A outer s H vs Q E hr h => ?_)
  · obtain ⟨a, c, G, rfl, _⟩ := h
    rfl
  · obtain ⟨a, c, G, rfl, hb, hc, eG, gA, q⟩ := h
    have S : Sta G H G H a c := .start eG gA hb
    refine ⟨_, (pss_cons (ps_set (i := 1) sc_L_row.nd rfl (.inl rfl) (pe_lst pa_nil))
    (pss_cons (ps_for PassesOwn.never rfl (pi_range1 (by rfl) T.z_range (pa_cons (pe_op op_add (pe_op op_mul pe_int (pe_call G_L_take (hr.mono (by first | decide | omega)) rfl D_L_take.g D_L_take.k D_L_take.b .nil pass0 (pa_cons (pv 0) (pa_cons (pe_ix ix_list (pe_lst (pa_cons pe_int (pa_cons pe_int pa_nil))) (pe_call G_L_take (hr.mono (by first | decide | omega)) rfl D_L_take.g D_L_take.k D_L_take.b .nil pass0 (pa_cons (pv 0) (pa_cons pe_int pa_nil))) (fun _ _ => rfl)) pa_nil)))) pe_int) pa_nil)) (pg_name (i := 2) sc_L_row.nd rfl (.inl rfl))
      (pss_one (ps_expr (pe_bm PySem.F.plainAttrs_list PySem.F.slot_list_append PySem.F.type_list_append mt_append (pv 1) (pa_cons (pe_ifExp (pt_cmpR op_eq (pe_op op_mod (pv 2) pe_int) pe_int (nomark _)) (pe_tup (pa_cons (pe_call G_L_text (hr.mono (by first | decide | omega)) rfl D_L_text.g D_L_text.k D_L_text.b .nil pass0 (pa_cons (pv 0) pa_nil)) (pa_cons (pe_cmpR op_eq (pe_call G_L_take (hr.mono (by first | decide | omega)) rfl D_L_take.g D_L_take.k D_L_take.b .nil pass0 (pa_cons (pv 0) (pa_cons pe_int pa_nil))) pe_int (nomark _)) pa_nil))) (pe_call G_L_text (hr.mono (by first | decide | omega)) rfl D_L_text.g D_L_text.k D_L_text.b .nil pass0 (pa_cons (pv 0) pa_nil))) pa_nil)))))
    (pss_cons (ps_par (i := 3) (j := 4) (by rfl) sc_L_row.nd rfl rfl (by decide) rfl rfl (pa_cons (pe_call G_L_take (hr.mono (by first | decide | omega)) rfl D_L_take.g D_L_take.k D_L_take.b .nil pass0 (pa_cons (pv 0) (pa_cons (pe_callB call_len_seq (by rfl) T.z_len (by decide +kernel) (pa_cons (pv 1) pa_nil)) pa_nil))) (pa_cons (pe_call G_L_take (hr.mono (by first | decide | omega)) rfl D_L_take.g D_L_take.k D_L_take.b .nil pass0 (pa_cons (pv 0) (pa_cons pe_int pa_nil))) pa_nil)) (by rfl))
    (C8.pss_cut (ps_if (pt_cmpR op_eq (pv 4) pe_int (nomark _)) (pss_one (ps_set (i := 1) sc_L_row.nd rfl (.inl rfl) (pe_op op_cat (pe_slice sl_list (pv 1) po_none (po_some (pv 3))) (pe_slice sl_list (pv 1) (po_some (pe_op op_add (pv 3) pe_int)) po_none)))) pss_nil)
    (C8.pss_cut (ps_if (pt_cmpR op_eq (pv 4) pe_int (nomark _)) (pss_one (ps_set (i := 1) sc_L_row.nd rfl (.inl rfl) (pe_op op_cat (pe_op op_cat (pe_slice sl_list (pv 1) po_none (po_some (pv 3))) (pe_lst (pa_cons (pe_ix ix_list (pv 1) (pv 3) (fun _ _ => rfl)) pa_nil))) (pe_slice sl_list (pv 1) (po_some (pv 3)) po_none)))) pss_nil)
    (C8.pss_cut (ps_if (pt_cmpR op_eq (pv 4) pe_int (nomark _)) (pss_one (ps_asg (pe_call G_L_odd (hr.mono (by first | decide | omega)) rfl D_L_odd.g D_L_odd.k D_L_odd.b .nil pass0 (pa_cons (pv 0) pa_nil)) (pg_sub (pv 1) (pv 3) set_list))) pss_nil)
    (C8.pss_cut (ps_if (pt_cmpR op_gt (pv 4) pe_int (nomark _)) (pss_one (ps_asg (pe_ix ix_list (pe_lst (pa_cons pe_str (pa_cons (pe_tup (pa_cons pe_str (pa_cons pe_bl pa_nil))) pa_nil))) (pe_callTy call_int1 (by rfl) T.z_int (by decide +kernel) (pa_cons (pe_cmpR op_eq (pe_op op_mod (pv 3) pe_int) pe_int (nomark _)) pa_nil)) (fun _ _ => rfl)) (pg_sub (pv 1) (pv 3) set_list))) pss_nil)
    (pss_one (ps_ret (pe_ifExp (pt_cmpR op_eq (pe_call G_L_take (hr.mono (by first | decide | omega)) rfl D_L_take.g D_L_take.k D_L_take.b .nil pass0 (pa_cons (pv 0) (pa_cons pe_int pa_nil))) pe_int (nomark _)) (pe_callTy call_tuple_of (by rfl) T.z_tuple (by decide +kernel) (pa_cons (pv 1) pa_nil)) (pv 1))))))))))), ?_⟩
    refine ⟨Nat.zero_le _, fun l hl => ?_⟩
    have S1 := S.hid hl (.lst [])
    have nla := S.bx.ne hl
    have hlH : H l = none := hl
    have gl := S.ex.free hl
    -- the number of turns
    refine ⟨_, rfl, (by show 2 ≤ sizeLine; decide), fun p hp => ?_⟩
    have S2 := S1.hid hp (.lst [.int 5, .int 25])
    have npl : l ≠ p := ne_of_none upd_same hp
    refine ⟨_, rfl, a, c, 2, rfl, S2.bx, by omega, by decide, by decide, fun r H2 k2 b2 r0 r1 => ?_⟩
    have S3 := S2.draw k2 b2
    have npa := S1.bx.ne hp
    obtain ⟨v, e1, hv⟩ := atI_all (xs := [V.int 5, V.int 25]) (fun v => ∃ n : Int, v = .int n ∧ 0 < n ∧ n ≤ 25) r0 (by simpa using r1) (by
      intro v hv
      rcases List.mem_cons.mp hv with rfl | hv
      · exact ⟨5, rfl, by decide, by decide⟩
      · rcases List.mem_cons.mp hv with rfl | hv
        · exact ⟨25, rfl, by decide, by decide⟩
        · simp at hv)
    obtain ⟨n, rfl, n0, n1⟩ := hv
    refine ⟨p, _, r, _, rfl, rfl, SqL.of (k2 _ _ npa upd_same), e1, a, c + 1, n, rfl, b2, by omega, n0, by omega, fun r H3 k3 b3 r0 r1 => ?_⟩
    have S4 := S3.draw k3 b3
    have hl3 : H3 l = some (.lst []) := k3 _ _ nla (k2 _ _ nla ((upd_ne npl).trans upd_same))
    refine ⟨_, _, rfl, rfl, .inl ⟨by decide, by decide⟩, _, _, rfl, rfl, 2 * r + 1, rfl, by omega, by omega, ?_⟩
    refine for_range (n := (2 * r + 1).toNat) (fun i σ H' => ∃ (G' : Hp) (vs : List V) (ds : List D) (y : Option V), σ = [some (.ref a), some (.ref l), y, none, none] ∧ Sta G H G' H' a (c + 2 + 11 * i) ∧ G' l = none ∧
        H' l = some (.lst vs) ∧ DVs (OO C) G' vs ds ∧ (∀ d ∈ ds, dep d ≤ 1) ∧ vs.length = i)
      ⟨G, [], [], none, rfl, S4, gl, hl3, .nil, fun d hd => by simp at hd, rfl⟩ ?_ ?_
    · rintro i σ H' hi ⟨G', vs, ds, y, rfl, S', g', h', d', q', hlen⟩
      refine ⟨_, rfl, .inl ⟨rfl, _, SqL.of h'⟩, ?_⟩
      -- the item: a marker at odd places, else a piece
      have app : ∀ (v : V) (d : D) (G2 H2 : Hp), Ex G' G2 → Sta G H G2 H2 a (c + 2 + 11 * i + 11) → G2 l = none → H2 l = some (.lst vs) → DV (OO C) G2 v d → dep d ≤ 1 →
          ∃ (G3 : Hp) (vs3 : List V) (ds3 : List D) (y3 : Option V), [some (V.ref a), some (.ref l), some (.int (0 + (i : Nat))), none, none] = [some (.ref a), some (.ref l), y3, none, none] ∧ Sta G H G3 (upd H2 l (.lst (vs ++ [v]))) a (c + 2 + 11 * (i + 1)) ∧ G3 l = none ∧
            upd H2 l (.lst (vs ++ [v])) l = some (.lst vs3) ∧ DVs (OO C) G3 vs3 ds3 ∧ (∀ d ∈ ds3, dep d ≤ 1) ∧ vs3.length = i + 1 := by
        intro v d G2 H2 e2 s2 g2 h2 dv hdv
        exact ⟨G2, _, _, _, rfl, (s2.put g2 nla hlH _).le (by omega), g2, upd_same, (DVs.ex e2 _ _ d').app (.cons dv .nil), app_mem q' (one_mem hdv), by simp [hlen]⟩
      refine ⟨_, rfl, _, _, rfl, rfl, (by show (0 : Int) < 2; decide), rfl, _, rfl, ?_⟩
      refine ite2 (fun _ => ?_) (fun _ => ?_)
      · refine ⟨_, rfl, a, _, rfl, S'.bx, by omega, fun z H2 k2 b2 hz hok => ?_⟩
        have s2 := S'.draw k2 b2
        refine ⟨_, rfl, a, _, 2, rfl, b2, by omega, by decide, by decide, fun r H3 k3 b3 r0 r1 => ?_⟩
        have s3 := s2.draw k3 b3
        refine ⟨rfl, (by show 2 ≤ sizeLine; decide), fun t ht => ?_⟩
        have h3 := k3 _ _ nla (k2 _ _ nla h')
        have ntl := ne_of_none h3 ht
        have s4 := s3.new ht (.tup [.str z, .bl (decide (V.int r = V.int 0))])
        refine ⟨l, vs, _, rfl, rfl, (upd_ne ntl).trans h3, lt_100 (by omega), ?_⟩
        exact app _ _ _ _ (s3.enew ht) s4 ((upd_ne ntl).trans g') ((upd_ne ntl).trans h3) (.tup upd_same (.cons (.str z hok) (.cons (.bl _) .nil)) (by show 2 ≤ 100000; decide)) (by simp [dep, depAll])
      · refine ⟨_, rfl, a, _, rfl, S'.bx, by omega, fun z H2 k2 b2 hz hok => ?_⟩
        have s2 := S'.draw k2 b2
        have h2 := k2 _ _ nla h'
        refine ⟨l, vs, _, rfl, rfl, h2, lt_100 (by omega), ?_⟩
        exact app _ _ _ _ (Ex.rfl' _) (s2.le (by omega)) g' h2 (.str z hok) (Nat.zero_le _)
    · rintro σ H' ⟨G', vs, ds, y, rfl, S', g', h', d', q', hlen⟩
      refine ⟨_, rfl, _, rfl, l, vs, rfl, .inl (SqL.of h'), a, _, _, rfl, S'.bx, by omega, by omega, by omega, fun at_ H4 k4 b4 at0 at1 => ?_⟩
      have s4 := S'.draw k4 b4
      refine ⟨_, rfl, a, _, 8, rfl, b4, by omega, by decide, by decide, fun way H5 k5 b5 w0 w1 => ⟨_, _, rfl, ?_⟩⟩
      have s5 := (s4.draw k5 b5).le (show _ ≤ c + 900 by omega)
      have h5 := k5 _ _ nla (k4 _ _ nla h')
      clear b4 b5 k4 k5 s4 S' h'
      refine ⟨RowMid (OO C) H G a (c + 900) at_ way 120, ?_, ?_⟩
      · refine ⟨_, rfl, rfl, _, rfl, ?_⟩
        rw [decI]
        refine ite2 (fun hw => ?_) (fun hw => ?_)
        · have hw0 : way = 0 := of_decide_eq_true hw
          refine ⟨_, rfl, _, rfl, at_, rfl, l, vs, rfl, SqL.of h5, fun p1 hp1 => ?_⟩
          have n1 := ne_of_none h5 hp1
          have s6 := s5.hid hp1 (.lst (cutV vs none (some at_)))
          refine ⟨_, rfl, _, rfl, _, _, rfl, rfl, at_ + 1, rfl, l, vs, rfl, SqL.of ((upd_ne n1).trans h5), fun p2 hp2 => ?_⟩
          have n2 := ne_of_none upd_same hp2
          have s7 := s6.hid hp2 (.lst (cutV vs (some (at_ + 1)) none))
          have c1 := cutV_length vs none (some at_)
          have c2 := cutV_length vs (some (at_ + 1)) none
          refine ⟨p1, p2, _, _, rfl, rfl, (upd_ne n2).trans upd_same, upd_same, le_100 (by omega), fun p3 hp3 => ?_⟩
          obtain ⟨es1, D1, m1⟩ := d'.cut none (some at_)
          obtain ⟨es2, D2, m2⟩ := d'.cut (some (at_ + 1)) none
          refine ⟨G', p3, _, _, _, rfl, s7.hid hp3 _, s7.ex.free hp3, s7.bx.ne hp3, s7.kp.none s7.bx hp3, upd_same, D1.app D2, app_mem (fun d h => q' d (m1 d h)) (fun d h => q' d (m2 d h)), ?_, fun h => absurd hw0 h⟩
          rw [List.length_append]
          omega
        · exact ⟨G', l, vs, ds, y, rfl, s5, g', nla, hlH, h5, d', q', by omega, fun _ => by omega⟩
      clear s5 h5 d' q' hlen g' S1 S2 S3 S4 hl3 k2 k3 b2 b3 gl nla hlH hl npl npa hp
      rintro σ' H' ⟨G', l, vs, ds, y, rfl, s5, g', nla, hlH, h5, d', q', hlen, hat⟩
      refine ⟨RowMid (OO C) H G a (c + 900) at_ way 400, ?_, ?_⟩
      · refine ⟨_, rfl, rfl, _, rfl, ?_⟩
        rw [decI]
        refine ite2 (fun hw => ?_) (fun hw => ?_)
        · have hw1 : way = 1 := of_decide_eq_true hw
          have hat1 := hat (by omega)
          refine ⟨_, rfl, _, rfl, at_, rfl, l, vs, rfl, SqL.of h5, fun p1 hp1 => ?_⟩
          have n1 := ne_of_none h5 hp1
          have s6 := s5.hid hp1 (.lst (cutV vs none (some at_)))
          have h6 := (upd_ne (o := .lst (cutV vs none (some at_))) n1).trans h5
          obtain ⟨v, e1, hv⟩ := atI_all (xs := vs) (fun v => ∃ d, DV (OO C) G' v d ∧ dep d ≤ 1) at0 hat1 (fun v hv => by obtain ⟨d, hd, h⟩ := d'.mem v hv; exact ⟨d, h, q' d hd⟩)
          obtain ⟨dv, hv, hdv⟩ := hv
          refine ⟨_, rfl, _, rfl, l, vs, at_, v, rfl, rfl, SqL.of h6, e1, (by show 1 ≤ sizeLine; decide), fun p2 hp2 => ?_⟩
          have n2 := ne_of_none upd_same hp2
          have n2l := ne_of_none h6 hp2
          have s7 := s6.hid hp2 (.lst [v])
          have c1 := cutV_length vs none (some at_)
          have c2 := cutV_length vs (some at_) none
          refine ⟨p1, p2, _, _, rfl, rfl, (upd_ne n2).trans upd_same, upd_same, le_line (by simp; omega), fun p3 hp3 => ?_⟩
          have n3 := ne_of_none ((upd_ne n2l).trans h6) hp3
          have s8 := s7.hid hp3 (.lst (cutV vs none (some at_) ++ [v]))
          refine ⟨_, rfl, _, rfl, at_, rfl, l, vs, rfl, SqL.of ((upd_ne n3).trans ((upd_ne n2l).trans h6)), fun p4 hp4 => ?_⟩
          have n4 := ne_of_none upd_same hp4
          have s9 := s8.hid hp4 (.lst (cutV vs (some at_) none))
          refine ⟨p3, p4, _, _, rfl, rfl, (upd_ne n4).trans upd_same, upd_same, le_line (by simp; omega), fun p5 hp5 => ?_⟩
          obtain ⟨es1, D1, m1⟩ := d'.cut none (some at_)
          obtain ⟨es2, D2, m2⟩ := d'.cut (some at_) none
          refine ⟨G', p5, _, _, _, rfl, s9.hid hp5 _, s9.ex.free hp5, s9.bx.ne hp5, s9.kp.none s9.bx hp5, upd_same, (D1.app (.cons hv .nil)).app D2, app_mem (app_mem (fun d h => q' d (m1 d h)) (one_mem hdv)) (fun d h => q' d (m2 d h)), by simp; omega, fun _ => ?_⟩
          have hc : at_ < ((cutV vs none (some at_) ++ [v] ++ cutV vs (some at_) none).length : Nat) := by
            have : (cutV vs none (some at_)).length + (cutV vs (some at_) none).length = vs.length := cut_both at0 hat1
            simp
            omega
          exact hc
        · exact ⟨G', l, vs, ds, y, rfl, s5, g', nla, hlH, h5, d', q', by omega, hat⟩
      clear s5 h5 d' q' hlen g' hlH nla hat
      rintro σ' H' ⟨G', l, vs, ds, y, rfl, s5, g', nla, hlH, h5, d', q', hlen, hat⟩
      refine ⟨RowMid (OO C) H G a (c + 901) at_ way 400, ?_, ?_⟩
      · refine ⟨_, rfl, rfl, _, rfl, ?_⟩
        rw [decI]
        refine ite2 (fun hw => ?_) (fun hw => ?_)
        · have hw1 : way = 2 := of_decide_eq_true hw
          have hat1 := hat (by omega)
          refine ⟨_, rfl, a, _, G', rfl, s5.bx, by omega, s5.ex, s5.ga, fun v d G2 H2 s2 dv hdv => ?_⟩
          refine ⟨_, rfl, _, rfl, l, vs, at_, at_.toNat, rfl, rfl, s2.kp _ _ nla h5, ?_, ?_⟩
          · unfold ixN
            rw [if_pos at0, if_pos hat1]
          · have hln : H' l ≠ none := by rw [h5]; simp
            refine ⟨G2, l, _, _, y, rfl, (s5.tr s2).put (s2.fr l hln g') nla hlH _, s2.fr l hln g', nla, hlH, upd_same, DVs.set dv at_.toNat (DVs.ex s2.up _ _ d'), set_mem q' hdv, by rw [List.length_set]; omega, fun _ => by rw [List.length_set]; omega⟩
        · exact ⟨G', l, vs, ds, y, rfl, s5.le (by omega), g', nla, hlH, h5, d', q', by omega, hat⟩
      clear s5 h5 d' q' hlen g' hlH nla hat
      rintro σ' H' ⟨G', l, vs, ds, y, rfl, s5, g', nla, hlH, h5, d', q', hlen, hat⟩
      refine ⟨RowMid (OO C) H G a (c + 901) at_ way 400, ?_, ?_⟩
      · refine ⟨_, rfl, _, _, rfl, rfl, _, rfl, ?_⟩
        refine ite2 (fun hw => ?_) (fun hw => ?_)
        · have hw1 : way > 5 := of_decide_eq_true hw
          have hat1 := hat (by omega)
          refine ⟨(by show 2 ≤ sizeLine; decide), fun p1 hp1 => ⟨(by show 2 ≤ sizeLine; decide), fun p2 hp2 => ?_⟩⟩
          have s6 := s5.new hp1 (.tup [.str "p", .bl true])
          have s7 := s6.hid hp2 (.lst [.str "aB", .ref p1])
          have e6 : Ex G' _ := s5.enew (o := .tup [.str "p", .bl true]) hp1
          have nl1 := ne_of_none h5 hp1
          have h6 := (upd_ne (o := .tup [.str "p", .bl true]) nl1).trans h5
          have nl2 := ne_of_none h6 hp2
          have h7 := (upd_ne (o := .lst [.str "aB", .ref p1]) nl2).trans h6
          have gl6 := (upd_ne (o := .tup [.str "p", .bl true]) nl1).trans g'
          refine ⟨_, rfl, _, _, rfl, rfl, (by show (0 : Int) < 2; decide), rfl, .inr ⟨_, rfl, ?_⟩⟩
          have fin : ∀ (v : V) (dv : D), DV (OO C) (upd G' p1 (.tup [.str "p", .bl true])) v dv → dep dv ≤ 1 → RowMid (OO C) H G a (c + 901) at_ way 400 [some (.ref a), some (.ref l), y, some (.int at_), some (.int way)]
              (upd (upd (upd H' p1 (.tup [.str "p", .bl true])) p2 (.lst [.str "aB", .ref p1])) l (.lst (vs.set at_.toNat v))) := by
            intro v dv hv hdv
            exact ⟨_, l, _, _, y, rfl, s7.put gl6 nla hlH _, gl6, nla, hlH, upd_same, DVs.set hv at_.toNat (DVs.ex e6 _ _ d'), set_mem q' hdv, by rw [List.length_set]; omega, fun _ => by rw [List.length_set]; omega⟩
          have hix : ixN vs.length at_ = some at_.toNat := by
            unfold ixN
            rw [if_pos at0, if_pos hat1]
          cases decide (V.int (at_ % 2) = V.int 0) with
          | true => exact ⟨p2, _, 1, _, rfl, rfl, SqL.of upd_same, rfl, _, rfl, _, rfl, l, vs, at_, _, rfl, rfl, h7, hix, fin _ _ (.tup upd_same (.cons (.str "p" (by decide)) (.cons (.bl true) .nil)) (by decide)) (by decide +kernel)⟩
          | false => exact ⟨p2, _, 0, _, rfl, rfl, SqL.of upd_same, rfl, _, rfl, _, rfl, l, vs, at_, _, rfl, rfl, h7, hix, fin _ _ (.str "aB" (by decide)) (by decide +kernel)⟩
        · exact ⟨G', l, vs, ds, y, rfl, s5.le (by omega), g', nla, hlH, h5, d', q', by omega, hat⟩
      clear s5 h5 d' q' hlen g' hlH nla hat
      rintro σ' H' ⟨G', l, vs, ds, y, rfl, s5, g', nla, hlH, h5, d', q', hlen, hat⟩
      refine ⟨_, rfl, a, _, 3, rfl, s5.bx, by omega, by decide, by decide, fun r H2 k2 b2 r0 r1 => ?_⟩
      have s6 := s5.draw k2 b2
      have h6 := k2 _ _ nla h5
      refine ⟨rfl, _, rfl, ?_⟩
      refine ite2 (fun _ => ?_) (fun _ => ?_)
      · refine ⟨_, rfl, l, vs, rfl, .inl ⟨SqL.of h6, fun p hp => ?_⟩⟩
        exact q _ _ _ _ ((s6.new hp _).le (by omega)) (.tup upd_same (DVs.ex (s6.enew hp) _ _ d') (by omega)) (Nat.succ_le_succ (depAll_le q'))
      · refine ⟨_, rfl, ?_⟩
        have s7 := s6.know h6 nla hlH g'
        have e7 : Ex G' (upd G' l (.lst vs)) := Ex.new g'
        exact q _ _ _ _ (s7.le (by omega)) (.lst upd_same (DVs.ex e7 _ _ d') (by omega)) (Nat.succ_le_succ (depAll_le q'))
end

/-! ### the law's own look at a value -/
section
variable {P : Program} {w : World} {K : PySem.W.Frag} {mg : Str → Option Value} {base : Heap} {O : HO → Prop}
/-- a text of these signs alone -/
def isText (s : Str) : D → Bool
  | .str z => z.cps.toList.all fun c => decide (c ∈ s.cps.toList)
  | _ => false
theorem ok_is_text {f : Addr} {fd : FuncData} (F : Fun K "_law_is_text" "_law_is_text" s_L_is_text f fd) (T : Txt K mg) (ho : OthOk K O) :
    FnOk P w K mg base CX0 1 f fd ["_law_thing", "_law_signs"] (fun vs H Q _ => ∃ v d s, vs = [v, .str s] ∧ DV O H v d ∧ ∀ H', Ex H H' → Q (.bl (isText s d)) H') := by
  refine F.ok sc_L_is_text (fun vs H Q E h => ?_) (fun cdv A outer s H vs Q E hr h => ?_)
  · obtain ⟨v, d, s, rfl, _⟩ := h
    rfl
  · obtain ⟨v, d, sg, rfl, hv, q⟩ := h
    obtain ⟨t, ty, k1, _⟩ := hv.ty ho
    refine ⟨_, (pss_one (ps_ret (pe_and (pe_callB call_isi (by rfl) T.z_isinstance (by decide +kernel) (pa_cons (pv 0) (pa_cons (pe_bltn (v := .ty "str") (by rfl) T.z_str (by decide +kernel) rfl) pa_nil))) (pe_one (pe_cmpR (op_eqD hr.units) (pe_lc (own := [("_law_sign", 2)]) (g := gName 2) rfl sc_L_is_text.nd (pi_str (pv 0)) (blkOk_by (N := sc_L_is_text.N') (sc := defScope s_L_is_text) (by decide +kernel)) (fun _ _ _ _ _ => (pg_name (i := 2) sc_L_is_text.nd rfl (by first | exact Or.inl rfl | exact Or.inr rfl))) (fun _ _ _ _ _ => (pts_one (pt_cmpR op_notIn_sign (pv 2) (pv 1) (by rfl)))) (fun _ _ _ _ _ => (pv 2))) (pe_lst pa_nil) (nomark _)))))), ?_⟩
    refine ⟨_, rfl, v, _, t, _, _, rfl, .ty _, ty, k1, _, rfl, ?_⟩
    cases hv with
    | str z hz =>
      refine iteT ⟨_, rfl, z, rfl, fun D hD => lc_txt (fun i H' => Ex H H' ∧ H' D = some (.lst (((z.cps.toList.take i).filter fun c => !decide (c ∈ sg.cps.toList)).map fun c => V.str (one c))))
        ⟨Ex.new hD, upd_same⟩ ?_ ?_⟩
      · rintro i c H1 hc ⟨e1, h1⟩
        have hi := (List.getElem?_eq_some_iff.mp hc).1
        have htk : z.cps.toList.take (i + 1) = z.cps.toList.take i ++ [c] := by
          rw [List.take_add_one, hc]; rfl
        have hlen := okS_len hz
        rw [Gd.len_list] at hlen
        refine ⟨rfl, _, rfl, _, rfl, c, sg, rfl, rfl, _, rfl, ?_⟩
        refine ite2 (fun hn => ⟨_, rfl, _, h1, ?_, Ex.mut e1 hD, ?_⟩) (fun hn => ⟨e1, ?_⟩)
        · have := List.length_filter_le (fun c => !decide (c ∈ sg.cps.toList)) (z.cps.toList.take i)
          rw [List.length_map]
          have h3 : (z.cps.toList.take i).length ≤ 100000 := by rw [List.length_take]; omega
          exact Nat.lt_of_le_of_lt (Nat.le_trans this h3) (by decide)
        · rw [upd_same, htk, List.filter_append, List.map_append]
          simp only [List.filter_cons, hn, if_true]
          rfl
        · rw [h1, htk, List.filter_append, List.map_append]
          have hn' : (!decide (c ∈ sg.cps.toList)) = false := Bool.eq_false_iff.mpr hn
          simp only [List.filter_cons, hn', Bool.false_eq_true, if_false]
          simp
      · rintro H1 ⟨e1, h1⟩
        rw [List.take_length] at h1
        refine ⟨Nat.zero_le _, fun p hp => ?_⟩
        have nDp := ne_of_none h1 hp
        have e2 := Ex.new (o := .lst []) hp
        have hmap : ((z.cps.toList.filter fun c => !decide (c ∈ sg.cps.toList)).map fun c => V.str (one c)) = ((z.cps.toList.filter fun c => !decide (c ∈ sg.cps.toList)).map one).map V.str := by
          rw [List.map_map]; rfl
        rw [hmap] at h1
        refine ⟨_, _, .lst (SqL.of (e2 _ _ h1)) (dp_strs _), .lst (SqL.of upd_same) .nil, shaped_strs ?_, shaped_nil, ?_⟩
        · intro y hy
          obtain ⟨c, hc, rfl⟩ := List.mem_map.mp hy
          exact strOk_one (okS_asc hz c (List.mem_filter.mp hc).1)
        · rw [eqv_nil]
          refine bl_to ?_ (q _ (e1.tr e2))
          show _ = z.cps.toList.all fun c => decide (c ∈ sg.cps.toList)
          generalize z.cps.toList = l
          generalize sg.cps.toList = m
          rw [Bool.eq_iff_iff]
          simp [List.isEmpty_iff, List.filter_eq_nil_iff]
    | _ => exact iteF (q H (Ex.rfl' H))
theorem isText_low (d : D) : (isText "abcdefghijklmnopqrstuvwxyz" d) = (match d with | .str z => z.cps.toList.all lowB | _ => false) := by
  cases d with
  | str z =>
    have h : ∀ c, decide (c ∈ ("abcdefghijklmnopqrstuvwxyz" : Str).cps.toList) = lowB c := by
      intro c
      by_cases hc : c < 128
      · exact (show ∀ c < 128, decide (c ∈ ("abcdefghijklmnopqrstuvwxyz" : Str).cps.toList) = lowB c by decide +kernel) c hc
      · have h1 : lowB c = false := by
          cases h : lowB c with
          | false => rfl
          | true => exact absurd (letB_lt (lowB_let h)) hc
        rw [h1]
        refine decide_eq_false fun hm => hc ?_
        exact (show ∀ c ∈ ("abcdefghijklmnopqrstuvwxyz" : Str).cps.toList, c < 128 by decide +kernel) c hm
    show (z.cps.toList.all fun c => decide (c ∈ ("abcdefghijklmnopqrstuvwxyz" : Str).cps.toList)) = _
    congr 1
    funext c
    exact h c
  | _ => rfl
theorem isText_let (d : D) : (isText (("abcdefghijklmnopqrstuvwxyz" : Str) ++ Txt.upper "abcdefghijklmnopqrstuvwxyz") d) = isPiece d := by
  cases d with
  | str z =>
    have h : ∀ c, decide (c ∈ (("abcdefghijklmnopqrstuvwxyz" : Str) ++ Txt.upper "abcdefghijklmnopqrstuvwxyz").cps.toList) = letB c := by
      intro c
      by_cases hc : c < 128
      · exact (show ∀ c < 128, decide (c ∈ (("abcdefghijklmnopqrstuvwxyz" : Str) ++ Txt.upper "abcdefghijklmnopqrstuvwxyz").cps.toList) = letB c by decide +kernel) c hc
      · have h1 : letB c = false := by
          cases h : letB c with
          | false => rfl
          | true => exact absurd (letB_lt h) hc
        rw [h1]
        refine decide_eq_false fun hm => hc ?_
        exact (show ∀ c ∈ (("abcdefghijklmnopqrstuvwxyz" : Str) ++ Txt.upper "abcdefghijklmnopqrstuvwxyz").cps.toList, c < 128 by decide +kernel) c hm
    show (z.cps.toList.all fun c => decide (c ∈ (("abcdefghijklmnopqrstuvwxyz" : Str) ++ Txt.upper "abcdefghijklmnopqrstuvwxyz").cps.toList)) = z.cps.toList.all letB
    congr 1
    funext c
    exact h c
  | _ => rfl
theorem kinds_step {n k : Nat} {f : Addr} {fd : FuncData} (F : Fun K "_law_kinds" "_law_kinds" s_L_kinds f fd) (T : Txt K mg) (ho : OthOk K O)
    {f_L_is_text : Addr} {fd_L_is_text : FuncData} (D_L_is_text : Df K mg "_law_is_text" f_L_is_text fd_L_is_text ["_law_thing", "_law_signs"])
    {f_L_kinds : Addr} {fd_L_kinds : FuncData} (D_L_kinds : Df K mg "_law_kinds" f_L_kinds fd_L_kinds ["_law_thing"]) (G_L_is_text : FnOk P w K mg base CX0 1 f_L_is_text fd_L_is_text ["_law_thing", "_law_signs"] (fun vs H Q _ => ∃ v d s, vs = [v, .str s] ∧ DV O H v d ∧ ∀ H', Ex H H' → Q (.bl (isText s d)) H'))
    (G_L_kinds : FnOk P w K mg base CX0 (k + 1) f_L_kinds fd_L_kinds ["_law_thing"] (fun vs H Q E => 0 < n ∧ spKinds O (n - 1) vs H Q E)) :
    FnOk P w K mg base CX0 (k + 2) f fd ["_law_thing"] (spKinds O n) := by
  refine F.ok sc_L_kinds (fun vs H Q E h => ?_) (fun cdv A outer s H vs Q E hr h => ?_)
  · obtain ⟨v, d, rfl, _⟩ := h
    rfl
  · obtain ⟨v, d, rfl, hv, hdep, q⟩ := h
    have stg : ∀ {d : D} {s : Str}, isText s d = true → ∃ z, d = .str z := fun {d s} h => by
      cases d with
      | str z => exact ⟨z, rfl⟩
      | _ => cases h
    have nm : ∀ z, isName (.str z) = (isText "abcdefghijklmnopqrstuvwxyz" (.str z) && (decide ((1 : Int) ≤ z.length) && decide ((z.length : Int) ≤ 4))) := fun z => by
      rw [isText_low]
      show nameB z = _
      unfold nameB
      rw [Bool.and_assoc]
      congr 1
      congr 1 <;> exact decide_eq_decide.mpr (by omega)
    have nmF : isText "abcdefghijklmnopqrstuvwxyz" d = false → isName d = false := fun h => by
      cases d with
      | str z => rw [nm, h]; rfl
      | _ => rfl
    by_cases htup : isTup d = true
    · refine ⟨_, (C8.pss_cut (ps_set (i := 1) sc_L_kinds.nd rfl (.inl rfl) pe_str)
    (C8.pss_cut (ps_set (i := 2) sc_L_kinds.nd rfl (.inl rfl) (pe_and (pe_call G_L_is_text (hr.mono (by first | decide | omega)) rfl D_L_is_text.g D_L_is_text.k D_L_is_text.b .nil pass0 (pa_cons (pv 0) (pa_cons (pv 1) pa_nil))) (pe_one (pe_chain op_le op_le pe_int (pe_callB call_len (by rfl) T.z_len (by decide +kernel) (pa_cons (pv 0) pa_nil)) pe_int))))
    (C8.pss_cut (ps_set (i := 3) sc_L_kinds.nd rfl (.inl rfl) (pe_call G_L_is_text (hr.mono (by first | decide | omega)) rfl D_L_is_text.g D_L_is_text.k D_L_is_text.b .nil pass0 (pa_cons (pv 0) (pa_cons (pe_op op_add_str (pv 1) (pe_bm0 PySem.F.plainAttrs_str PySem.F.slot_str_upper PySem.F.type_str_upper mt_upper (pv 1))) pa_nil))))
    (C8.pss_cut (ps_set (i := 4) sc_L_kinds.nd rfl (.inl rfl) (pe_and (pe_callB call_isi (by rfl) T.z_isinstance (by decide +kernel) (pa_cons (pv 0) (pa_cons (pe_bltn (v := .ty "tuple") (by rfl) T.z_tuple (by decide +kernel) rfl) pa_nil))) (pe_and (pe_cmpR op_eq (pe_callB call_len (by rfl) T.z_len (by decide +kernel) (pa_cons (pv 0) pa_nil)) pe_int (nomark _)) (pe_and (pe_callB call_isi (by rfl) T.z_isinstance (by decide +kernel) (pa_cons (pe_ix ix_tup (pv 0) pe_int (fun _ _ => rfl)) (pa_cons (pe_bltn (v := .ty "bool") (by rfl) T.z_bool (by decide +kernel) rfl) pa_nil))) (pe_one (pe_ix ix_list (pe_call G_L_kinds (hr.mono (by first | decide | omega)) rfl D_L_kinds.g D_L_kinds.k D_L_kinds.b .nil pass0 (pa_cons (pe_ix ix_tup (pv 0) pe_int (fun _ _ => rfl)) pa_nil)) pe_int (fun _ _ => rfl)))))))
    (C8.pss_cut (ps_set (i := 5) sc_L_kinds.nd rfl (.inl rfl) (pe_and (pe_callB call_isiT (by rfl) T.z_isinstance (by decide +kernel) (pa_cons (pv 0) (pa_cons (pe_tup (pa_cons (pe_bltn (v := .ty "list") (by rfl) T.z_list (by decide +kernel) rfl) (pa_cons (pe_bltn (v := .ty "tuple") (by rfl) T.z_tuple (by decide +kernel) rfl) pa_nil))) pa_nil))) (pe_one (pe_cmpR op_eq (pe_op op_mod (pe_callB call_len (by rfl) T.z_len (by decide +kernel) (pa_cons (pv 0) pa_nil)) pe_int) pe_int (nomark _)))))
    (C8.pss_cut (ps_if (pt_val (pv 5)) (pss_one (ps_set (i := 5) sc_L_kinds.nd rfl (.inl rfl) (pe_cmpR (op_eqD hr.units) (pe_lc (own := [("_law_k", 6), ("_law_one", 7)]) (g := gTup K 2 (gCons (gName 6) (gCons (gName 7) gNil))) rfl sc_L_kinds.nd (pi_enumT (by rfl) T.z_enumerate (pa_cons (pv 0) pa_nil)) (blkOk_by (N := sc_L_kinds.N') (sc := defScope s_L_kinds) (by decide +kernel)) (fun _ _ _ _ _ => (pg_tup (by rfl) (pgs_cons (pg_name (i := 6) sc_L_kinds.nd rfl (by first | exact Or.inl rfl | exact Or.inr rfl)) (pgs_cons (pg_name (i := 7) sc_L_kinds.nd rfl (by first | exact Or.inl rfl | exact Or.inr rfl)) pgs_nil)))) (fun _ _ _ _ _ => (pts_one (pt_not (pt_val (pe_ix (ix_listK (K := K) rfl) (pe_call G_L_kinds (hr.mono (by first | decide | omega)) rfl D_L_kinds.g D_L_kinds.k D_L_kinds.b .nil pass0 (pa_cons (pv 7) pa_nil)) (pe_op op_add pe_int (pe_op op_mod (pv 6) pe_int)) (fun _ _ => rfl)))))) (fun _ _ _ _ _ => (pv 6))) (pe_lst pa_nil) (nomark _)))) pss_nil)
    (pss_one (ps_ret (pe_lst (pa_cons (pv 2) (pa_cons (pv 3) (pa_cons (pv 4) (pa_cons (pv 5) pa_nil))))))))))))), ?_⟩
      refine ⟨fun σ' H' => σ' = [some v, some (.str "abcdefghijklmnopqrstuvwxyz"), none, none, none, none, none, none] ∧ Ex H H', ⟨rfl, Ex.rfl' H⟩, ?_⟩
      rintro σ' H1 ⟨rfl, e1⟩
      refine ⟨fun σ' H' => σ' = [some v, some (.str "abcdefghijklmnopqrstuvwxyz"), some (.bl (isName d)), none, none, none, none, none] ∧ Ex H H', ?_, ?_⟩
      · refine ⟨_, rfl, _, rfl, v, d, _, rfl, hv.ex e1, fun H2 e2 => ⟨_, rfl, ?_⟩⟩
        cases hx : isText "abcdefghijklmnopqrstuvwxyz" d with
        | false => exact iteF ⟨by rw [nmF hx]; rfl, e1.tr e2⟩
        | true =>
          obtain ⟨z, rfl⟩ := stg hx
          cases hv with
          | str _ hz =>
          refine iteT ⟨_, rfl, _, _, rfl, ⟨le_line (okS_len hz), rfl⟩, _, _, rfl, rfl, _, rfl, ?_⟩
          cases h1 : decide ((1 : Int) ≤ z.length) with
          | false => exact iteF ⟨by rw [nm, hx, h1]; rfl, e1.tr e2⟩
          | true => exact iteT ⟨_, _, rfl, rfl, by rw [nm, hx, h1]; rfl, e1.tr e2⟩
      clear e1 H1
      rintro σ' H1 ⟨rfl, e1⟩
      refine ⟨fun σ' H' => σ' = [some v, some (.str "abcdefghijklmnopqrstuvwxyz"), some (.bl (isName d)), some (.bl (isPiece d)), none, none, none, none] ∧ Ex H H', ?_, ?_⟩
      · refine ⟨_, rfl, _, rfl, _, rfl, tyS, _, rfl, rfl, (by decide +kernel), _, _, rfl, rfl, (by decide +kernel), v, d, _, rfl, hv.ex e1, fun H2 e2 => ⟨by rw [isText_let]; rfl, e1.tr e2⟩⟩
      clear e1 H1
      rintro σ' H1 ⟨rfl, e1⟩
      refine ⟨fun σ' H' => σ' = [some v, some (.str "abcdefghijklmnopqrstuvwxyz"), some (.bl (isName d)), some (.bl (isPiece d)), some (.bl (isMark d)), none, none, none] ∧ Ex H H', ?_, ?_⟩
      · obtain ⟨t, ty, _, _, _, kt, _⟩ := (hv.ex e1).ty ho
        refine ⟨_, rfl, v, _, t, _, _, rfl, .ty _, ty, kt, _, rfl, ?_⟩
        cases hd : d with
        | tup ds =>
          subst hd
          cases hv with
          | @tup a vs _ ha hds hl =>
          refine iteT ⟨_, rfl, _, _, rfl, .inr ⟨vs, SqT.of (e1 _ _ ha), rfl⟩, rfl, _, rfl, ?_⟩
          match vs, ds, hds with
          | [], [], _ => exact iteF ⟨rfl, e1⟩
          | [_], [_], _ => exact iteF ⟨rfl, e1⟩
          | x :: y :: z :: r, dx :: dy :: dz :: dr, _ =>
            have h9 : decide (V.int ((x :: y :: z :: r).length : Nat) = V.int 2) = false := decide_eq_false fun e => by
              have := V.int.inj e
              simp at this
              omega
            rw [h9]
            exact iteF ⟨rfl, e1⟩
          | [x, y], [dx, dy], .cons hx (.cons hy .nil) =>
            obtain ⟨t2, ty2, _, kb, _⟩ := (hy.ex e1).ty ho
            refine iteT ⟨_, rfl, a, _, 1, _, rfl, rfl, SqT.of (e1 _ _ ha), rfl, y, _, t2, _, _, rfl, .ty _, ty2, kb, _, rfl, ?_⟩
            have hm : isMark (.tup [dx, dy]) = (isName dx && isBl dy) := rfl
            have hdx : dep dx ≤ n - 1 ∧ 0 < n := by
              unfold dep depAll at hdep
              omega
            cases hb : isBl dy with
            | false => exact iteF ⟨by rw [hm, hb, Bool.and_false]; rfl, e1⟩
            | true =>
              refine iteT ⟨_, rfl, a, _, 0, _, rfl, rfl, SqT.of (e1 _ _ ha), rfl, hdx.2, x, dx, rfl, hx.ex e1, hdx.1, fun p H2 e2 _ hp => ?_⟩
              exact ⟨p, _, 0, _, rfl, rfl, SqL.of hp, rfl, by rw [hm, hb, Bool.and_true]; rfl, e1.tr e2⟩
        | _ => subst hd; exact iteF ⟨rfl, e1⟩
      clear e1 H1
      rintro σ' H1 ⟨rfl, e1⟩
      refine ⟨fun σ' H' => σ' = [some v, some (.str "abcdefghijklmnopqrstuvwxyz"), some (.bl (isName d)), some (.bl (isPiece d)), some (.bl (isMark d)), some (.bl (oddLen d)), none, none] ∧ Ex H H', ?_, ?_⟩
      · refine ⟨_, rfl, (by show 2 ≤ sizeLine; decide), fun p hp => ?_⟩
        have e2 := e1.tr (Ex.new (o := .tup [.ty "list", .ty "tuple"]) hp)
        obtain ⟨t, ty, _, _, _, kt, kl⟩ := (hv.ex e2).ty ho
        refine ⟨v, p, _, t, _, _, rfl, upd_same, .cons (.ty _) (.cons (.ty _) .nil), ty, kit_two kl kt, _, rfl, ?_⟩
        cases hv with
        | @tup a vs ds ha hds hl =>
          refine iteT ⟨_, rfl, _, _, rfl, .inr ⟨vs, SqT.of (e2 _ _ ha), rfl⟩, _, _, rfl, rfl, (by show (0 : Int) < 2; decide), rfl, ?_, e2⟩
          rw [odd_dec, hds.length]
          rfl
        | @lst a vs ds ha hds hl =>
          refine iteT ⟨_, rfl, _, _, rfl, .inl ⟨vs, SqL.of (e2 _ _ ha), rfl⟩, _, _, rfl, rfl, (by show (0 : Int) < 2; decide), rfl, ?_, e2⟩
          rw [odd_dec, hds.length]
          rfl
        | _ => exact iteF ⟨rfl, e2⟩
      clear e1 H1
      rintro σ' H1 ⟨rfl, e1⟩
      refine ⟨fun σ' H' => σ' = [some v, some (.str "abcdefghijklmnopqrstuvwxyz"), some (.bl (isName d)), some (.bl (isPiece d)), some (.bl (isMark d)), some (.bl (isRow d)), none, none] ∧ Ex H H', ?_, ?_⟩
      · refine ⟨_, rfl, _, rfl, ?_⟩
        cases ho2 : oddLen d with
        | false =>
          refine iteF ⟨?_, e1⟩
          have := isRow_odd ho2
          rw [this]
        | true =>
          refine iteT ?_
          cases hv with
          | @tup a vs ds ha hds hl =>
            have hseq : isRow (.tup ds) = (misfit 0 ds).isNone := isRow_seq (by first | exact .inl rfl | exact .inr rfl) ho2
            have hdp : ∀ x ∈ ds, dep x ≤ n - 1 := by
              have : depAll ds ≤ n - 1 := by
                unfold dep at hdep
                omega
              exact dep_of_all this
            have hn0 : 0 < n := by
              unfold dep at hdep
              omega
            refine ⟨_, rfl, a, vs, rfl, SqT.of (e1 _ _ ha), fun D hD => lc_enumT (K := K) (a := a) (xs := vs) (fun i H' => Ex H H' ∧ ∃ ks : List Int, H' D = some (.lst (ks.map V.int)) ∧ ks.length ≤ i ∧ Bad ds i ks)
              ⟨e1.tr (Ex.new hD), [], upd_same, Nat.le_refl _, .inl ⟨rfl, rfl⟩⟩ (fun i H' _ ⟨e, _⟩ => SqT.of (e _ _ ha)) ?_ ?_⟩
            · rintro i x H2 Tp hx ⟨e2, ks, hks, hkl, hbad⟩ hT
              have hi := (List.getElem?_eq_some_iff.mp hx).1
              obtain ⟨dx, hdx, hvx⟩ := hds.get hx
              have e3 := e2.tr (Ex.new (o := .tup [.int (i : Nat), x]) hT)
              have nDT := ne_of_none hks hT
              refine ⟨Tp, _, rfl, SqT.of upd_same, rfl, _, _, rfl, _, _, rfl, rfl, rfl, ?_⟩
              refine ⟨_, rfl, hn0, x, dx, rfl, hvx.ex e3, hdp _ (List.mem_of_getElem? hdx), fun p H3 e4 _ hp => ?_⟩
              refine ⟨_, rfl, _, _, rfl, rfl, (by show (0 : Int) < 2; decide), _, _, rfl, rfl, p, _, _, _, rfl, rfl, SqL.of hp, kinds_at, _, rfl, ?_⟩
              have hks3 : H3 D = some (.lst (ks.map V.int)) := e4 _ _ ((upd_ne nDT).trans hks)
              have e5 := e3.tr e4
              have hDf : H D = none := e1.free hD
              refine ite2 (fun hf => ?_) (fun hf => ?_)
              · have hf' : ¬ fits i dx = true := by intro h; rw [h] at hf; cases hf
                refine ⟨_, rfl, _, hks3, by rw [List.length_map]; exact Nat.lt_of_le_of_lt (show ks.length ≤ 100000 by omega) (by decide), e5.mut hDf, ks ++ [(i : Int)], by rw [upd_same, List.map_append]; rfl, by simp; omega, hbad.bad hdx hf'⟩
              · have hf' : fits i dx = true := by
                  cases h : fits i dx with
                  | true => rfl
                  | false => rw [h] at hf; exact absurd rfl hf
                exact ⟨e5, ks, hks3, by omega, hbad.good hdx hf'⟩
            · rintro H2 ⟨e2, ks, hks, hkl, hbad⟩
              refine ⟨Nat.zero_le _, fun p hp => ?_⟩
              have e3 := Ex.new (o := .lst []) hp
              refine ⟨_, _, .lst (SqL.of (e3 _ _ hks)) (dp_ints _), .lst (SqL.of upd_same) .nil, shaped_ints _, shaped_nil, ?_, e2.tr e3⟩
              rw [eqv_nil, hseq]
              rw [hds.length] at hbad
              rw [hbad.done]
              rfl
          | _ => first | exact absurd rfl htup | (cases htup) | (cases ho2)
      clear e1 H1
      rintro σ' H1 ⟨rfl, e1⟩
      refine ⟨_, rfl, _, rfl, _, rfl, _, rfl, (by show 4 ≤ sizeLine; decide), fun p hp => ?_⟩
      exact q p _ (e1.tr (Ex.new hp)) (e1.free hp) upd_same
    · refine ⟨_, (C8.pss_cut (ps_set (i := 1) sc_L_kinds.nd rfl (.inl rfl) pe_str)
    (C8.pss_cut (ps_set (i := 2) sc_L_kinds.nd rfl (.inl rfl) (pe_and (pe_call G_L_is_text (hr.mono (by first | decide | omega)) rfl D_L_is_text.g D_L_is_text.k D_L_is_text.b .nil pass0 (pa_cons (pv 0) (pa_cons (pv 1) pa_nil))) (pe_one (pe_chain op_le op_le pe_int (pe_callB call_len (by rfl) T.z_len (by decide +kernel) (pa_cons (pv 0) pa_nil)) pe_int))))
    (C8.pss_cut (ps_set (i := 3) sc_L_kinds.nd rfl (.inl rfl) (pe_call G_L_is_text (hr.mono (by first | decide | omega)) rfl D_L_is_text.g D_L_is_text.k D_L_is_text.b .nil pass0 (pa_cons (pv 0) (pa_cons (pe_op op_add_str (pv 1) (pe_bm0 PySem.F.plainAttrs_str PySem.F.slot_str_upper PySem.F.type_str_upper mt_upper (pv 1))) pa_nil))))
    (C8.pss_cut (ps_set (i := 4) sc_L_kinds.nd rfl (.inl rfl) (pe_and (pe_callB call_isi (by rfl) T.z_isinstance (by decide +kernel) (pa_cons (pv 0) (pa_cons (pe_bltn (v := .ty "tuple") (by rfl) T.z_tuple (by decide +kernel) rfl) pa_nil))) (pe_and (pe_cmpR op_eq (pe_callB call_len (by rfl) T.z_len (by decide +kernel) (pa_cons (pv 0) pa_nil)) pe_int (nomark _)) (pe_and (pe_callB call_isi (by rfl) T.z_isinstance (by decide +kernel) (pa_cons (pe_ix ix_tup (pv 0) pe_int (fun _ _ => rfl)) (pa_cons (pe_bltn (v := .ty "bool") (by rfl) T.z_bool (by decide +kernel) rfl) pa_nil))) (pe_one (pe_ix ix_list (pe_call G_L_kinds (hr.mono (by first | decide | omega)) rfl D_L_kinds.g D_L_kinds.k D_L_kinds.b .nil pass0 (pa_cons (pe_ix ix_tup (pv 0) pe_int (fun _ _ => rfl)) pa_nil)) pe_int (fun _ _ => rfl)))))))
    (C8.pss_cut (ps_set (i := 5) sc_L_kinds.nd rfl (.inl rfl) (pe_and (pe_callB call_isiT (by rfl) T.z_isinstance (by decide +kernel) (pa_cons (pv 0) (pa_cons (pe_tup (pa_cons (pe_bltn (v := .ty "list") (by rfl) T.z_list (by decide +kernel) rfl) (pa_cons (pe_bltn (v := .ty "tuple") (by rfl) T.z_tuple (by decide +kernel) rfl) pa_nil))) pa_nil))) (pe_one (pe_cmpR op_eq (pe_op op_mod (pe_callB call_len (by rfl) T.z_len (by decide +kernel) (pa_cons (pv 0) pa_nil)) pe_int) pe_int (nomark _)))))
    (C8.pss_cut (ps_if (pt_val (pv 5)) (pss_one (ps_set (i := 5) sc_L_kinds.nd rfl (.inl rfl) (pe_cmpR (op_eqD hr.units) (pe_lc (own := [("_law_k", 6), ("_law_one", 7)]) (g := gTup K 2 (gCons (gName 6) (gCons (gName 7) gNil))) rfl sc_L_kinds.nd (pi_enum (by rfl) T.z_enumerate (pa_cons (pv 0) pa_nil)) (blkOk_by (N := sc_L_kinds.N') (sc := defScope s_L_kinds) (by decide +kernel)) (fun _ _ _ _ _ => (pg_tup (by rfl) (pgs_cons (pg_name (i := 6) sc_L_kinds.nd rfl (by first | exact Or.inl rfl | exact Or.inr rfl)) (pgs_cons (pg_name (i := 7) sc_L_kinds.nd rfl (by first | exact Or.inl rfl | exact Or.inr rfl)) pgs_nil)))) (fun _ _ _ _ _ => (pts_one (pt_not (pt_val (pe_ix (ix_listK (K := K) rfl) (pe_call G_L_kinds (hr.mono (by first | decide | omega)) rfl D_L_kinds.g D_L_kinds.k D_L_kinds.b .nil pass0 (pa_cons (pv 7) pa_nil)) (pe_op op_add pe_int (pe_op op_mod (pv 6) pe_int)) (fun _ _ => rfl)))))) (fun _ _ _ _ _ => (pv 6))) (pe_lst pa_nil) (nomark _)))) pss_nil)
    (pss_one (ps_ret (pe_lst (pa_cons (pv 2) (pa_cons (pv 3) (pa_cons (pv 4) (pa_cons (pv 5) pa_nil))))))))))))), ?_⟩
      refine ⟨fun σ' H' => σ' = [some v, some (.str "abcdefghijklmnopqrstuvwxyz"), none, none, none, none, none, none] ∧ Ex H H', ⟨rfl, Ex.rfl' H⟩, ?_⟩
      rintro σ' H1 ⟨rfl, e1⟩
      refine ⟨fun σ' H' => σ' = [some v, some (.str "abcdefghijklmnopqrstuvwxyz"), some (.bl (isName d)), none, none, none, none, none] ∧ Ex H H', ?_, ?_⟩
      · refine ⟨_, rfl, _, rfl, v, d, _, rfl, hv.ex e1, fun H2 e2 => ⟨_, rfl, ?_⟩⟩
        cases hx : isText "abcdefghijklmnopqrstuvwxyz" d with
        | false => exact iteF ⟨by rw [nmF hx]; rfl, e1.tr e2⟩
        | true =>
          obtain ⟨z, rfl⟩ := stg hx
          cases hv with
          | str _ hz =>
          refine iteT ⟨_, rfl, _, _, rfl, ⟨le_line (okS_len hz), rfl⟩, _, _, rfl, rfl, _, rfl, ?_⟩
          cases h1 : decide ((1 : Int) ≤ z.length) with
          | false => exact iteF ⟨by rw [nm, hx, h1]; rfl, e1.tr e2⟩
          | true => exact iteT ⟨_, _, rfl, rfl, by rw [nm, hx, h1]; rfl, e1.tr e2⟩
      clear e1 H1
      rintro σ' H1 ⟨rfl, e1⟩
      refine ⟨fun σ' H' => σ' = [some v, some (.str "abcdefghijklmnopqrstuvwxyz"), some (.bl (isName d)), some (.bl (isPiece d)), none, none, none, none] ∧ Ex H H', ?_, ?_⟩
      · refine ⟨_, rfl, _, rfl, _, rfl, tyS, _, rfl, rfl, (by decide +kernel), _, _, rfl, rfl, (by decide +kernel), v, d, _, rfl, hv.ex e1, fun H2 e2 => ⟨by rw [isText_let]; rfl, e1.tr e2⟩⟩
      clear e1 H1
      rintro σ' H1 ⟨rfl, e1⟩
      refine ⟨fun σ' H' => σ' = [some v, some (.str "abcdefghijklmnopqrstuvwxyz"), some (.bl (isName d)), some (.bl (isPiece d)), some (.bl (isMark d)), none, none, none] ∧ Ex H H', ?_, ?_⟩
      · obtain ⟨t, ty, _, _, _, kt, _⟩ := (hv.ex e1).ty ho
        refine ⟨_, rfl, v, _, t, _, _, rfl, .ty _, ty, kt, _, rfl, ?_⟩
        cases hd : d with
        | tup ds =>
          subst hd
          cases hv with
          | @tup a vs _ ha hds hl =>
          refine iteT ⟨_, rfl, _, _, rfl, .inr ⟨vs, SqT.of (e1 _ _ ha), rfl⟩, rfl, _, rfl, ?_⟩
          match vs, ds, hds with
          | [], [], _ => exact iteF ⟨rfl, e1⟩
          | [_], [_], _ => exact iteF ⟨rfl, e1⟩
          | x :: y :: z :: r, dx :: dy :: dz :: dr, _ =>
            have h9 : decide (V.int ((x :: y :: z :: r).length : Nat) = V.int 2) = false := decide_eq_false fun e => by
              have := V.int.inj e
              simp at this
              omega
            rw [h9]
            exact iteF ⟨rfl, e1⟩
          | [x, y], [dx, dy], .cons hx (.cons hy .nil) =>
            obtain ⟨t2, ty2, _, kb, _⟩ := (hy.ex e1).ty ho
            refine iteT ⟨_, rfl, a, _, 1, _, rfl, rfl, SqT.of (e1 _ _ ha), rfl, y, _, t2, _, _, rfl, .ty _, ty2, kb, _, rfl, ?_⟩
            have hm : isMark (.tup [dx, dy]) = (isName dx && isBl dy) := rfl
            have hdx : dep dx ≤ n - 1 ∧ 0 < n := by
              unfold dep depAll at hdep
              omega
            cases hb : isBl dy with
            | false => exact iteF ⟨by rw [hm, hb, Bool.and_false]; rfl, e1⟩
            | true =>
              refine iteT ⟨_, rfl, a, _, 0, _, rfl, rfl, SqT.of (e1 _ _ ha), rfl, hdx.2, x, dx, rfl, hx.ex e1, hdx.1, fun p H2 e2 _ hp => ?_⟩
              exact ⟨p, _, 0, _, rfl, rfl, SqL.of hp, rfl, by rw [hm, hb, Bool.and_true]; rfl, e1.tr e2⟩
        | _ => subst hd; exact iteF ⟨rfl, e1⟩
      clear e1 H1
      rintro σ' H1 ⟨rfl, e1⟩
      refine ⟨fun σ' H' => σ' = [some v, some (.str "abcdefghijklmnopqrstuvwxyz"), some (.bl (isName d)), some (.bl (isPiece d)), some (.bl (isMark d)), some (.bl (oddLen d)), none, none] ∧ Ex H H', ?_, ?_⟩
      · refine ⟨_, rfl, (by show 2 ≤ sizeLine; decide), fun p hp => ?_⟩
        have e2 := e1.tr (Ex.new (o := .tup [.ty "list", .ty "tuple"]) hp)
        obtain ⟨t, ty, _, _, _, kt, kl⟩ := (hv.ex e2).ty ho
        refine ⟨v, p, _, t, _, _, rfl, upd_same, .cons (.ty _) (.cons (.ty _) .nil), ty, kit_two kl kt, _, rfl, ?_⟩
        cases hv with
        | @tup a vs ds ha hds hl =>
          refine iteT ⟨_, rfl, _, _, rfl, .inr ⟨vs, SqT.of (e2 _ _ ha), rfl⟩, _, _, rfl, rfl, (by show (0 : Int) < 2; decide), rfl, ?_, e2⟩
          rw [odd_dec, hds.length]
          rfl
        | @lst a vs ds ha hds hl =>
          refine iteT ⟨_, rfl, _, _, rfl, .inl ⟨vs, SqL.of (e2 _ _ ha), rfl⟩, _, _, rfl, rfl, (by show (0 : Int) < 2; decide), rfl, ?_, e2⟩
          rw [odd_dec, hds.length]
          rfl
        | _ => exact iteF ⟨rfl, e2⟩
      clear e1 H1
      rintro σ' H1 ⟨rfl, e1⟩
      refine ⟨fun σ' H' => σ' = [some v, some (.str "abcdefghijklmnopqrstuvwxyz"), some (.bl (isName d)), some (.bl (isPiece d)), some (.bl (isMark d)), some (.bl (isRow d)), none, none] ∧ Ex H H', ?_, ?_⟩
      · refine ⟨_, rfl, _, rfl, ?_⟩
        cases ho2 : oddLen d with
        | false =>
          refine iteF ⟨?_, e1⟩
          have := isRow_odd ho2
          rw [this]
        | true =>
          refine iteT ?_
          cases hv with
          | @lst a vs ds ha hds hl =>
            have hseq : isRow (.lst ds) = (misfit 0 ds).isNone := isRow_seq (by first | exact .inl rfl | exact .inr rfl) ho2
            have hdp : ∀ x ∈ ds, dep x ≤ n - 1 := by
              have : depAll ds ≤ n - 1 := by
                unfold dep at hdep
                omega
              exact dep_of_all this
            have hn0 : 0 < n := by
              unfold dep at hdep
              omega
            refine ⟨_, rfl, a, vs, rfl, SqL.of (e1 _ _ ha), fun D hD => lc_enumL (K := K) (a := a) (xs := vs) (fun i H' => Ex H H' ∧ ∃ ks : List Int, H' D = some (.lst (ks.map V.int)) ∧ ks.length ≤ i ∧ Bad ds i ks)
              ⟨e1.tr (Ex.new hD), [], upd_same, Nat.le_refl _, .inl ⟨rfl, rfl⟩⟩ (fun i H' _ ⟨e, _⟩ => SqL.of (e _ _ ha)) ?_ ?_⟩
            · rintro i x H2 Tp hx ⟨e2, ks, hks, hkl, hbad⟩ hT
              have hi := (List.getElem?_eq_some_iff.mp hx).1
              obtain ⟨dx, hdx, hvx⟩ := hds.get hx
              have e3 := e2.tr (Ex.new (o := .tup [.int (i : Nat), x]) hT)
              have nDT := ne_of_none hks hT
              refine ⟨Tp, _, rfl, SqT.of upd_same, rfl, _, _, rfl, _, _, rfl, rfl, rfl, ?_⟩
              refine ⟨_, rfl, hn0, x, dx, rfl, hvx.ex e3, hdp _ (List.mem_of_getElem? hdx), fun p H3 e4 _ hp => ?_⟩
              refine ⟨_, rfl, _, _, rfl, rfl, (by show (0 : Int) < 2; decide), _, _, rfl, rfl, p, _, _, _, rfl, rfl, SqL.of hp, kinds_at, _, rfl, ?_⟩
              have hks3 : H3 D = some (.lst (ks.map V.int)) := e4 _ _ ((upd_ne nDT).trans hks)
              have e5 := e3.tr e4
              have hDf : H D = none := e1.free hD
              refine ite2 (fun hf => ?_) (fun hf => ?_)
              · have hf' : ¬ fits i dx = true := by intro h; rw [h] at hf; cases hf
                refine ⟨_, rfl, _, hks3, by rw [List.length_map]; exact Nat.lt_of_le_of_lt (show ks.length ≤ 100000 by omega) (by decide), e5.mut hDf, ks ++ [(i : Int)], by rw [upd_same, List.map_append]; rfl, by simp; omega, hbad.bad hdx hf'⟩
              · have hf' : fits i dx = true := by
                  cases h : fits i dx with
                  | true => rfl
                  | false => rw [h] at hf; exact absurd rfl hf
                exact ⟨e5, ks, hks3, by omega, hbad.good hdx hf'⟩
            · rintro H2 ⟨e2, ks, hks, hkl, hbad⟩
              refine ⟨Nat.zero_le _, fun p hp => ?_⟩
              have e3 := Ex.new (o := .lst []) hp
              refine ⟨_, _, .lst (SqL.of (e3 _ _ hks)) (dp_ints _), .lst (SqL.of upd_same) .nil, shaped_ints _, shaped_nil, ?_, e2.tr e3⟩
              rw [eqv_nil, hseq]
              rw [hds.length] at hbad
              rw [hbad.done]
              rfl
          | _ => first | exact absurd rfl htup | (cases htup) | (cases ho2)
      clear e1 H1
      rintro σ' H1 ⟨rfl, e1⟩
      refine ⟨_, rfl, _, rfl, _, rfl, _, rfl, (by show 4 ≤ sizeLine; decide), fun p hp => ?_⟩
      exact q p _ (e1.tr (Ex.new hp)) (e1.free hp) upd_same
end

/-! ### the law -/
section
variable {P : Program} {w : World} {K : PySem.W.Frag} {mg : Str → Option Value} {base : Heap}
def spIsInt (O : HO → Prop) : Sp := fun vs H Q _ => ∃ v d lo hi, vs = [v, .int lo, .int hi] ∧ DV O H v d ∧ ∀ H', Ex H H' → Q (.bl (isInt d lo hi)) H'
theorem ok_law {f C : Addr} {fd : FuncData} (F : Fun K "law" "law" s_law f fd) (T : Txt K mg) (ho : OthOk K (OO C))
    {f_L_box : Addr} {fd_L_box : FuncData} (D_L_box : Df K mg "_law_box" f_L_box fd_L_box ["_law_cell_here"])
    {f_L_cell : Addr} {fd_L_cell : FuncData} (D_L_cell : Df K mg "_law_cell" f_L_cell fd_L_cell ["_law_script", "_law_k"])
    {f_L_take : Addr} {fd_L_take : FuncData} (D_L_take : Df K mg "_law_take" f_L_take fd_L_take ["_law_box_here", "_law_many"])
    {f_L_text : Addr} {fd_L_text : FuncData} (D_L_text : Df K mg "_law_text" f_L_text fd_L_text ["_law_box_here"])
    {f_L_odd : Addr} {fd_L_odd : FuncData} (D_L_odd : Df K mg "_law_odd" f_L_odd fd_L_odd ["_law_box_here"])
    {f_L_row : Addr} {fd_L_row : FuncData} (D_L_row : Df K mg "_law_row" f_L_row fd_L_row ["_law_box_here"])
    {f_is_name : Addr} {fd_is_name : FuncData} (D_is_name : Df K mg "is_name" f_is_name fd_is_name ["value"])
    {f_is_piece : Addr} {fd_is_piece : FuncData} (D_is_piece : Df K mg "is_piece" f_is_piece fd_is_piece ["value"])
    {f_is_marker : Addr} {fd_is_marker : FuncData} (D_is_marker : Df K mg "is_marker" f_is_marker fd_is_marker ["value"])
    {f_is_row : Addr} {fd_is_row : FuncData} (D_is_row : Df K mg "is_row" f_is_row fd_is_row ["value"])
    {f_L_kinds : Addr} {fd_L_kinds : FuncData} (D_L_kinds : Df K mg "_law_kinds" f_L_kinds fd_L_kinds ["_law_thing"])
    {f_is_integer : Addr} {fd_is_integer : FuncData} (D_is_integer : Df K mg "is_integer" f_is_integer fd_is_integer ["value", "low", "high"])
    (G_L_cell : FnOk P w K mg base CX0 1 f_L_cell fd_L_cell ["_law_script", "_law_k"] (Gd.spCell K)) (G_L_box : FnOk P w K mg base CX0 1 f_L_box fd_L_box ["_law_cell_here"] spBox)
    (G_L_take : FnOk P w K mg base CX0 1 f_L_take fd_L_take ["_law_box_here", "_law_many"] spTake)
    (G_L_text : FnOk P w K mg base CX0 2 f_L_text fd_L_text ["_law_box_here"] (spText 10 6)) (G_L_odd : FnOk P w K mg base CX0 9 f_L_odd fd_L_odd ["_law_box_here"] (spDraw (OO C) 1 fun d => dep d ≤ 1))
    (G_L_row : FnOk P w K mg base CX0 10 f_L_row fd_L_row ["_law_box_here"] (spDraw (OO C) 1000 fun d => dep d ≤ 2))
    (G_is_name : FnOk P w K mg base CX0 2 f_is_name fd_is_name ["value"] (spB (OO C) isName)) (G_is_piece : FnOk P w K mg base CX0 1 f_is_piece fd_is_piece ["value"] (spB (OO C) isPiece))
    (G_is_marker : FnOk P w K mg base CX0 3 f_is_marker fd_is_marker ["value"] (spB (OO C) isMark)) (G_is_row : FnOk P w K mg base CX0 5 f_is_row fd_is_row ["value"] (spB (OO C) isRow))
    (G_is_integer : FnOk P w K mg base CX0 1 f_is_integer fd_is_integer ["value", "low", "high"] (spIsInt (OO C)))
    (G_L_kinds : FnOk P w K mg base CX0 6 f_L_kinds fd_L_kinds ["_law_thing"] (spKinds (OO C) 2)) :
    FnG P w K mg base CX0 11 f fd ["_law_script"] (spLaw K) := by
  refine okG F sc_law (fun vs H Q E h => ?_) (fun cdv A outer s H vs Q E hgd hr h => ?_)
  · obtain ⟨a, ns, rfl, _⟩ := h
    rfl
  · obtain ⟨sc, ns, rfl, hS, hns, q⟩ := h
    have hrep : (A.deeper (envOfC "law" (defScope s_law) s.heap.objs.size f cdv)).units + 66 < cLine := by
      have := hr.un
      omega
    refine ⟨_, (pss_cons (ps_for PassesOwn.never rfl (pi_range1 (by rfl) T.z_range (pa_cons (pe_callB (call_max2 rfl) (by rfl) T.z_max (by decide +kernel) (pa_cons pe_int (pa_cons (pe_callB (call_min2 rfl) (by rfl) T.z_min (by decide +kernel) (pa_cons pe_int (pa_cons (pe_callB call_len_seq (by rfl) T.z_len (by decide +kernel) (pa_cons (pv 0) pa_nil)) pa_nil))) pa_nil))) pa_nil)) (pg_name (i := 1) sc_law.nd rfl (.inl rfl))
      (pss_cons (ps_set (i := 2) sc_law.nd rfl (.inl rfl) (pe_call G_L_box (hr.mono (by first | decide | omega)) rfl D_L_box.g D_L_box.k D_L_box.b .nil pass0 (pa_cons (pe_call G_L_cell (hr.mono (by first | decide | omega)) rfl D_L_cell.g D_L_cell.k D_L_cell.b .nil pass0 (pa_cons (pv 0) (pa_cons (pv 1) pa_nil))) pa_nil)))
    (pss_cons (ps_set (i := 3) sc_law.nd rfl (.inl rfl) (pe_ix ix_list (pe_lst (pa_cons pe_int (pa_cons pe_int (pa_cons pe_int (pa_cons (pe_op op_pow pe_int pe_int) (pa_cons (pe_un un_neg (pe_op op_pow pe_int pe_int)) pa_nil)))))) (pe_call G_L_take (hr.mono (by first | decide | omega)) rfl D_L_take.g D_L_take.k D_L_take.b .nil pass0 (pa_cons (pv 2) (pa_cons pe_int pa_nil))) (fun _ _ => rfl)))
    (pss_cons (ps_par (i := 4) (j := 5) (by rfl) sc_law.nd rfl rfl (by decide) rfl rfl (pa_cons (pe_op op_sub (pe_op op_add (pv 3) (pe_call G_L_take (hr.mono (by first | decide | omega)) rfl D_L_take.g D_L_take.k D_L_take.b .nil pass0 (pa_cons (pv 2) (pa_cons pe_int pa_nil)))) pe_int) (pa_cons (pe_op op_sub (pe_op op_add (pv 3) (pe_call G_L_take (hr.mono (by first | decide | omega)) rfl D_L_take.g D_L_take.k D_L_take.b .nil pass0 (pa_cons (pv 2) (pa_cons pe_int pa_nil)))) pe_int) pa_nil)) (by rfl))
    (pss_cons (ps_set (i := 6) sc_law.nd rfl (.inl rfl) (pe_lst (pa_cons (pe_call G_L_text (hr.mono (by first | decide | omega)) rfl D_L_text.g D_L_text.k D_L_text.b .nil pass0 (pa_cons (pv 2) pa_nil)) (pa_cons (pe_call G_L_odd (hr.mono (by first | decide | omega)) rfl D_L_odd.g D_L_odd.k D_L_odd.b .nil pass0 (pa_cons (pv 2) pa_nil)) (pa_cons (pe_call G_L_row (hr.mono (by first | decide | omega)) rfl D_L_row.g D_L_row.k D_L_row.b .nil pass0 (pa_cons (pv 2) pa_nil)) (pa_cons (pe_call G_L_row (hr.mono (by first | decide | omega)) rfl D_L_row.g D_L_row.k D_L_row.b .nil pass0 (pa_cons (pv 2) pa_nil)) (pa_cons (pv 4) (pa_cons (pv 5) (pa_cons (pe_op op_add (pv 5) pe_int) (pa_cons (pe_op op_sub (pv 4) pe_int) pa_nil))))))))))
    (pss_cons (ps_expr (pe_bm PySem.F.plainAttrs_list PySem.F.slot_list_append PySem.F.type_list_append mt_append (pv 6) (pa_cons (pe_tup (pa_cons (pe_call G_L_text (hr.mono (by first | decide | omega)) rfl D_L_text.g D_L_text.k D_L_text.b .nil pass0 (pa_cons (pv 2) pa_nil)) (pa_cons (pe_ix ix_list (pe_lst (pa_cons pe_bl (pa_cons pe_bl (pa_cons pe_int (pa_cons pe_non pa_nil))))) (pe_call G_L_take (hr.mono (by first | decide | omega)) rfl D_L_take.g D_L_take.k D_L_take.b .nil pass0 (pa_cons (pv 2) (pa_cons pe_int pa_nil))) (fun _ _ => rfl)) pa_nil))) pa_nil)))
    (pss_cons (ps_set (i := 6) sc_law.nd rfl (.inl rfl) (pe_op op_cat (pv 6) (pe_lst (pa_cons (pe_op op_mul_str (pe_call G_L_text (hr.mono (by first | decide | omega)) rfl D_L_text.g D_L_text.k D_L_text.b .nil pass0 (pa_cons (pv 2) pa_nil)) pe_int) (pa_cons (pe_op op_fdiv (pe_op op_add (pv 4) (pv 5)) pe_int) pa_nil)))))
    (C8.pss_cut (ps_if (pt_cmpR op_eq (pv 1) pe_int (nomark _)) (pss_cons (ps_set (i := 7) sc_law.nd rfl (.inl rfl) (pe_op op_cat (pe_op op_rep (pe_lst (pa_cons pe_str (pa_cons (pe_tup (pa_cons pe_str (pa_cons pe_bl pa_nil))) pa_nil))) (pe_op op_add pe_int (pe_call G_L_take (hr.mono (by first | decide | omega)) rfl D_L_take.g D_L_take.k D_L_take.b .nil pass0 (pa_cons (pv 2) (pa_cons pe_int pa_nil))))) (pe_lst (pa_cons pe_str pa_nil))))
    (pss_one (ps_set (i := 6) sc_law.nd rfl (.inl rfl) (pe_op op_cat (pv 6) (pe_lst (pa_cons (pe_op op_mul_str pe_str pe_int) (pa_cons (pe_op op_add_str (pe_op op_mul_str pe_str pe_int) pe_str) (pa_cons (pv 7) (pa_cons (pe_lst (pa_cons (pe_op op_mul_str pe_str pe_int) pa_nil)) (pa_cons (pe_lst (pa_cons pe_str (pa_cons (pe_tup (pa_cons pe_str (pa_cons pe_bl pa_nil))) (pa_cons (pe_op op_mul_str pe_str pe_int) pa_nil)))) pa_nil)))))))))) pss_nil)
    (pss_one (ps_for PassesOwn.never rfl (pi_list (pv 6)) (pg_name (i := 8) sc_law.nd rfl (.inl rfl))
      (pss_cons (ps_set (i := 9) sc_law.nd rfl (.inl rfl) (pe_lst (pa_cons (pe_call G_is_name (hr.mono (by first | decide | omega)) rfl D_is_name.g D_is_name.k D_is_name.b .nil pass0 (pa_cons (pv 8) pa_nil)) (pa_cons (pe_call G_is_piece (hr.mono (by first | decide | omega)) rfl D_is_piece.g D_is_piece.k D_is_piece.b .nil pass0 (pa_cons (pv 8) pa_nil)) (pa_cons (pe_call G_is_marker (hr.mono (by first | decide | omega)) rfl D_is_marker.g D_is_marker.k D_is_marker.b .nil pass0 (pa_cons (pv 8) pa_nil)) (pa_cons (pe_call G_is_row (hr.mono (by first | decide | omega)) rfl D_is_row.g D_is_row.k D_is_row.b .nil pass0 (pa_cons (pv 8) pa_nil)) pa_nil))))))
    (pss_cons (ps_if (pt_cmpR op_ne (pe_callB (call_reprD hgd hrep) (by rfl) T.z_repr (by decide +kernel) (pa_cons (pv 9) pa_nil)) (pe_callB (call_reprD hgd hrep) (by rfl) T.z_repr (by decide +kernel) (pa_cons (pe_call G_L_kinds (hr.mono (by first | decide | omega)) rfl D_L_kinds.g D_L_kinds.k D_L_kinds.b .nil pass0 (pa_cons (pv 8) pa_nil)) pa_nil)) (nomark _)) (pss_one (ps_ret pe_bl)) pss_nil)
    (C8.pss_cut (ps_set (i := 10) sc_law.nd rfl (.inl rfl) (pe_and (pe_callB call_isi (by rfl) T.z_isinstance (by decide +kernel) (pa_cons (pv 8) (pa_cons (pe_bltn (v := .ty "int") (by rfl) T.z_int (by decide +kernel) rfl) pa_nil))) (pe_and (pe_not (pe_callB call_isi (by rfl) T.z_isinstance (by decide +kernel) (pa_cons (pv 8) (pa_cons (pe_bltn (v := .ty "bool") (by rfl) T.z_bool (by decide +kernel) rfl) pa_nil)))) (pe_one (pe_chain op_le op_le (pv 4) (pv 8) (pv 5))))))
    (pss_one (ps_if (pt_cmpR op_ne (pe_callB (call_reprD hgd hrep) (by rfl) T.z_repr (by decide +kernel) (pa_cons (pe_call G_is_integer (hr.mono (by first | decide | omega)) rfl D_is_integer.g D_is_integer.k D_is_integer.b .nil pass0 (pa_cons (pv 8) (pa_cons (pv 4) (pa_cons (pv 5) pa_nil)))) pa_nil)) (pe_callB (call_reprD hgd hrep) (by rfl) T.z_repr (by decide +kernel) (pa_cons (pv 10) pa_nil)) (nomark _)) (pss_one (ps_ret pe_bl)) pss_nil)))))))))))))))
    (pss_one (ps_ret pe_bl))), ?_⟩
    have hturn := turns_le (n := ((ns.map V.int).length : Nat)) 8 (by omega) (by decide) (by decide)
    refine ⟨_, rfl, sc, _, rfl, .inl hS, _, _, rfl, _, _, rfl, _, rfl, by omega, by omega, ?_⟩
    refine for_range (fun i σ H' => ∃ y1 y2 y3 y4 y5 y6 y7 y8 y9 y10, σ = [some (.ref sc), y1, y2, y3, y4, y5, y6, y7, y8, y9, y10] ∧ Ex H H')
      ⟨none, none, none, none, none, none, none, none, none, none, rfl, Ex.rfl' H⟩ ?_ ?_
    · rintro i σ H0 hi ⟨y1, y2, y3, y4, y5, y6, y7, y8, y9, y10, rfl, e0⟩
      refine ⟨_, rfl, _, rfl, sc, ns, _, rfl, e0.l hS, hns, by omega, by omega, fun ci => ⟨ci, rfl, fun a x y ha hy0 hy1 => ?_⟩⟩
      have S0 : Sta H0 _ H0 (upd H0 a (.lst [.int x, .int y, .int 0])) a 0 := .start (Ex.new ha) ha ⟨x, y, 0, upd_same, hy0, hy1, by decide, by decide⟩
      generalize upd H0 a _ = H1 at S0 ⊢
      -- far
      refine ⟨_, _, rfl, rfl, ⟨by decide, by decide, by decide⟩, _, _, rfl, rfl, ⟨by decide, by decide, by decide⟩, _, rfl, (by show 5 ≤ sizeLine; decide), fun p hp => ?_⟩
      have S1 := S0.hid hp (.lst [.int 0, .int 0, .int 1000, (fun i j => .int (i ^ Int.toNat j)) 10 28, (fun i => .int (-i)) (10 ^ Int.toNat 28)])
      have npa := S0.bx.ne hp
      refine ⟨_, rfl, a, 0, 5, rfl, S1.bx, by decide, by decide, by decide, fun r H2 k2 b2 r0 r1 => ?_⟩
      have S2 := S1.draw k2 b2
      obtain ⟨v, e1, far, rfl⟩ := atI_all (xs := [V.int 0, V.int 0, V.int 1000, V.int (10 ^ Int.toNat 28), V.int (-(10 ^ Int.toNat 28))]) (fun v => ∃ i, v = V.int i) r0 r1 (by
        intro v hv
        simp only [List.mem_cons, List.not_mem_nil, or_false] at hv
        rcases hv with h | h | h | h | h <;> exact ⟨_, h⟩)
      refine ⟨p, _, r, _, rfl, rfl, SqL.of (k2 _ _ npa upd_same), e1, ?_⟩
      clear e1 r0 r1 npa hp S1 b2 k2
      -- low, high
      refine ⟨_, rfl, _, rfl, a, 1, 9, rfl, S2.bx, by decide, by decide, by decide, fun r3 H3 k3 b3 _ _ => ⟨_, _, rfl, rfl, _, _, rfl, rfl, ?_⟩⟩
      have S3 := S2.draw k3 b3
      refine ⟨_, rfl, _, rfl, a, 2, 9, rfl, S3.bx, by decide, by decide, by decide, fun r4 H4 k4 b4 _ _ => ⟨_, _, rfl, rfl, _, _, rfl, rfl, _, _, rfl, ?_⟩⟩
      have S4 := S3.draw k4 b4
      dsimp only
      generalize far + r3 - 4 = low
      generalize far + r4 - 2 = high
      clear S2 S3 k3 b3 k4 b4
      -- the values
      refine ⟨_, rfl, a, 3, rfl, S4.bx, by decide, fun z H5 k5 b5 hz hzok => ?_⟩
      have S5 := S4.draw k5 b5
      refine ⟨_, rfl, a, _, _, rfl, S5.bx, by decide, S5.ex, S5.ga, fun v1 d1 G6 H6 s6 hv1 hd1 => ?_⟩
      have S6 := S5.tr s6
      refine ⟨_, rfl, a, _, _, rfl, S6.bx, by decide, S6.ex, S6.ga, fun v2 d2 G7 H7 s7 hv2 hd2 => ?_⟩
      have S7 := S6.tr s7
      refine ⟨_, rfl, a, _, _, rfl, S7.bx, by decide, S7.ex, S7.ga, fun v3 d3 G8 H8 s8 hv3 hd3 => ?_⟩
      have S8 := S7.tr s8
      refine ⟨_, rfl, _, rfl, _, rfl, _, _, rfl, rfl, _, rfl, _, _, rfl, rfl, (by show 8 ≤ sizeLine; decide), fun p1 hp1 => ?_⟩
      dsimp only
      have D8 : DVs (OO C) G8 [.str z, v1, v2, v3, .int low, .int high, .int (high + 1), .int (low - 1)] [.str z, d1, d2, d3, .int low, .int high, .int (high + 1), .int (low - 1)] :=
        .cons (.str z hzok) (.cons ((hv1.ex s7.up).ex s8.up) (.cons (hv2.ex s8.up) (.cons hv3 (.cons (.int _) (.cons (.int _) (.cons (.int _) (.cons (.int _) .nil)))))))
      have Q8 : ∀ d ∈ ([.str z, d1, d2, d3, .int low, .int high, .int (high + 1), .int (low - 1)] : List D), dep d ≤ 2 :=
        cons_mem (Nat.zero_le _) (cons_mem (by omega) (cons_mem hd2 (cons_mem hd3 (cons_mem (Nat.zero_le _) (cons_mem (Nat.zero_le _) (cons_mem (Nat.zero_le _) (cons_mem (Nat.zero_le _) nil_mem)))))))
      have S9 := S8.hid hp1 (.lst [.str z, v1, v2, v3, .int low, .int high, .int (high + 1), .int (low - 1)])
      have g1 := S8.ex.free hp1
      have f1 := S8.kp.none S8.bx hp1
      have n1 := S8.bx.ne hp1
      have h1 : upd H8 p1 (.lst [.str z, v1, v2, v3, .int low, .int high, .int (high + 1), .int (low - 1)]) p1 = some _ := upd_same
      have l8 : ([.str z, v1, v2, v3, .int low, .int high, .int (high + 1), .int (low - 1)] : List V).length ≤ 8 := Nat.le_refl 8
      generalize ([.str z, v1, v2, v3, .int low, .int high, .int (high + 1), .int (low - 1)] : List V) = vs8 at D8 S9 h1 l8 ⊢
      generalize ([.str z, d1, d2, d3, .int low, .int high, .int (high + 1), .int (low - 1)] : List D) = ds8 at D8 Q8
      clear hv1 hv2 hv3 hd1 hd2 hd3 s6 s7 s8 S4 S5 S6 S7 S8 hp1 hz hzok k5 b5
      -- one more
      refine ⟨_, rfl, .inl ⟨rfl, _, SqL.of h1⟩, _, rfl, a, _, rfl, S9.bx, by decide, fun z H10 k10 b10 hz hzok => ?_⟩
      have S10 := S9.draw k10 b10
      have h10 := k10 _ _ n1 h1
      refine ⟨(by show 4 ≤ sizeLine; decide), fun p2 hp2 => ?_⟩
      have S11 := S10.hid hp2 (.lst [.bl true, .bl false, .int 1, .non])
      have n2 := S10.bx.ne hp2
      have n12 := ne_of_none h10 hp2
      refine ⟨_, rfl, a, _, 4, rfl, S11.bx, by decide, by decide, by decide, fun r H12 k12 b12 r0 r1 => ?_⟩
      have S12 := S11.draw k12 b12
      have h12 := k12 _ _ n1 ((upd_ne n12).trans h10)
      obtain ⟨v, e1, dv, hdv, hdd⟩ := atI_all (xs := [V.bl true, V.bl false, V.int 1, V.non]) (fun v => ∃ d, DV (OO C) G8 v d ∧ dep d ≤ 0) r0 r1 (by
        intro v hv
        simp only [List.mem_cons, List.not_mem_nil, or_false] at hv
        rcases hv with rfl | rfl | rfl | rfl
        · exact ⟨_, .bl _, Nat.zero_le _⟩
        · exact ⟨_, .bl _, Nat.zero_le _⟩
        · exact ⟨_, .int _, Nat.zero_le _⟩
        · exact ⟨_, .non, Nat.zero_le _⟩)
      refine ⟨p2, _, r, _, rfl, rfl, SqL.of (k12 _ _ n2 upd_same), e1, (by show 2 ≤ sizeLine; decide), fun p3 hp3 => ?_⟩
      have n13 := ne_of_none h12 hp3
      have S13 := S12.new hp3 (.tup [.str z, v])
      have e13 := S12.enew (o := .tup [.str z, v]) hp3
      have h13 := (upd_ne (o := .tup [.str z, v]) n13).trans h12
      have g13 := (upd_ne (o := .tup [.str z, v]) n13).trans g1
      have D13 := (DVs.ex e13 _ _ D8).app (.cons (.tup (a := p3) upd_same (.cons (.str z hzok) (.cons (hdv.ex e13) .nil)) (by show 2 ≤ 100000; decide)) .nil)
      have Q13 := app_mem Q8 (one_mem (q := fun d => dep d ≤ 2) (x := .tup [.str z, dv]) (by simp [dep, depAll]; omega))
      refine ⟨p1, _, _, rfl, rfl, h13, lt_100 (by omega), ?_⟩
      have S14 := S13.put g13 n1 f1 (.lst (vs8 ++ [.ref p3]))
      have h14 : upd _ p1 (.lst (vs8 ++ [.ref p3])) p1 = some _ := @upd_same (upd H12 p3 (.tup [.str z, v])) p1 (.lst (vs8 ++ [.ref p3]))
      have l14 : (vs8 ++ [V.ref p3]).length ≤ 9 := by simp; omega
      generalize vs8 ++ [V.ref p3] = vs9 at D13 S14 h14 l14 ⊢
      generalize ds8 ++ [D.tup [.str z, dv]] = ds9 at D13 Q13
      generalize hG9 : upd G8 p3 (.tup [.str z, v]) = G9 at S14 D13 g13
      generalize hH14 : upd (upd H12 p3 (.tup [.str z, v])) p1 (.lst vs9) = H14 at S14 h14 ⊢
      clear hdv hdd hz hzok e1 r0 r1 D8 Q8 S9 S10 S11 S12 S13 h1 h10 h12 h13 e13 n12 n13 n2 hp2 hp3 k10 k12 b10 b12 l8 hG9 hH14
      -- two more
      refine ⟨_, rfl, _, rfl, a, _, rfl, S14.bx, by decide, fun z H15 k15 b15 hz hzok => ?_⟩
      have S15 := S14.draw k15 b15
      have h15 := k15 _ _ n1 h14
      refine ⟨z, 30, rfl, rfl, by decide, (by show z.length * 30 ≤ 16777216; omega), by decide, ?_⟩
      refine ⟨_, rfl, _, rfl, _, _, rfl, rfl, _, _, rfl, rfl, ⟨by decide, by decide⟩, (by show 2 ≤ sizeLine; decide), fun p4 hp4 => ?_⟩
      have S16 := S15.hid hp4 (.lst [.str (mulS z 30), .int ((low + high) / 2)])
      have n14 := ne_of_none h15 hp4
      refine ⟨p1, p4, _, _, rfl, rfl, (upd_ne n14).trans h15, upd_same, le_100 (by simp; omega), fun p5 hp5 => ?_⟩
      have hok30 : okS (mulS z 30) = true := okS_of (by rw [Gd.len_mul]; show 30 * z.length ≤ 100000; omega) (asc_mul (okS_asc hzok))
      have D16 := D13.app (.cons (.str _ hok30) (.cons (.int ((low + high) / 2)) .nil))
      have Q16 := app_mem Q13 (cons_mem (q := fun d => dep d ≤ 2) (x := .str (mulS z 30)) (Nat.zero_le _) (cons_mem (x := .int ((low + high) / 2)) (Nat.zero_le _) nil_mem))
      have S17 := S16.hid hp5 (.lst (vs9 ++ [.str (mulS z 30), .int ((low + high) / 2)]))
      have g5 := S16.ex.free hp5
      have f5 := S16.kp.none S16.bx hp5
      have n5 := S16.bx.ne hp5
      have h17 := @upd_same (upd H15 p4 (.lst [.str (mulS z 30), .int ((low + high) / 2)])) p5 (.lst (vs9 ++ [.str (mulS z 30), .int ((low + high) / 2)]))
      have l17 : (vs9 ++ [V.str (mulS z 30), .int ((low + high) / 2)]).length ≤ 11 := by simp; omega
      generalize hH17 : upd (upd H15 p4 (.lst [.str (mulS z 30), .int ((low + high) / 2)])) p5 (.lst (vs9 ++ [.str (mulS z 30), .int ((low + high) / 2)])) = H17 at S17 h17 ⊢
      generalize vs9 ++ [V.str (mulS z 30), .int ((low + high) / 2)] = vs11 at D16 S17 h17 l17 ⊢
      generalize ds9 ++ [D.str (mulS z 30), .int ((low + high) / 2)] = ds11 at D16 Q16
      clear hok30 hz hzok D13 Q13 S14 S15 S16 h14 h15 n14 hp4 hp5 k15 b15 l14 g1 f1 n1 g13 hH17
      -- the first cell's long values
      refine ⟨fun σ' H' => ∃ (G' : Hp) (p : Addr) (vs : List V) (ds : List D) (y : Option V), σ' = [some (.ref sc), some (.int (0 + (i : Nat))), some (.ref a), some (.int far), some (.int low), some (.int high), some (.ref p), y, y8, y9, y10] ∧
        Sta H0 H1 G' H' a 3000 ∧ H' p = some (.lst vs) ∧ DVs (OO C) G' vs ds ∧ (∀ d ∈ ds, dep d ≤ 2) ∧ vs.length ≤ 20, ?_, ?_⟩
      · refine ⟨_, rfl, rfl, _, rfl, ?_⟩
        refine ite2 (fun _ => ?_) (fun _ => ⟨_, p5, _, _, _, rfl, S17.le (by decide), h17, D16, Q16, by omega⟩)
        refine ⟨(by show 2 ≤ sizeLine; decide), fun t1 ht1 => ⟨(by show 2 ≤ sizeLine; decide), fun t2 ht2 => ?_⟩⟩
        have S18 := S17.new ht1 (.tup [.str "p", .bl true])
        have S19 := S18.hid ht2 (.lst [.str "aB", .ref t1])
        have e18 := S17.enew (o := .tup [.str "p", .bl true]) ht1
        have n51 := ne_of_none h17 ht1
        have h18 := (upd_ne (o := .tup [.str "p", .bl true]) n51).trans h17
        have n52 := ne_of_none h18 ht2
        have h19 := (upd_ne (o := .lst [.str "aB", .ref t1]) n52).trans h18
        have na2 := S18.bx.ne ht2
        refine ⟨_, rfl, a, _, 20, rfl, S19.bx, by decide, by decide, by decide, fun r H20 k20 b20 r0 r1 => ⟨_, _, rfl, rfl, ?_⟩⟩
        have S20 := S19.draw k20 b20
        have h20 := k20 _ _ n5 h19
        have ht20 := k20 _ _ na2 upd_same
        refine ⟨t2, 49 + r, _, rfl, rfl, ht20, by omega, by omega, ?_, fun t3 ht3 => ?_⟩
        · have : (49 + r).toNat ≤ 100 := by omega
          exact le_line (by show 2 * (49 + r).toNat ≤ 100000; omega)
        have S21 := S20.hid ht3 (.lst (List.replicate (49 + r).toNat [.str "aB", .ref t1]).flatten)
        have n53 := ne_of_none h20 ht3
        have h21 := (upd_ne (o := .lst (List.replicate (49 + r).toNat [.str "aB", .ref t1]).flatten) n53).trans h20
        refine ⟨(by show 1 ≤ sizeLine; decide), fun t4 ht4 => ?_⟩
        have S22 := S21.hid ht4 (.lst [.str "a"])
        have n54 := ne_of_none h21 ht4
        have h22 := (upd_ne (o := .lst [.str "a"]) n54).trans h21
        have n34 := ne_of_none upd_same ht4
        have hrl : ((List.replicate (49 + r).toNat [V.str "aB", .ref t1]).flatten).length ≤ 200 := by
          rw [rep_len]
          show (49 + r).toNat * 2 ≤ 200
          omega
        refine ⟨t3, t4, _, _, rfl, rfl, (upd_ne n34).trans upd_same, upd_same, le_line (by simp only [List.length_singleton]; omega), fun t5 ht5 => ?_⟩
        have D1 : DVs (OO C) (upd G9 t1 (.tup [.str "p", .bl true])) [.str "aB", .ref t1] [.str "aB", .tup [.str "p", .bl true]] :=
          .cons (.str "aB" (by decide)) (.cons (.tup (a := t1) upd_same (.cons (.str "p" (by decide)) (.cons (.bl true) .nil)) (by decide)) .nil)
        have D2 := (D1.rep (49 + r).toNat).app (.cons (.str "a" (by decide)) .nil)
        have Q2 := app_mem (rep_mem (q := fun d => dep d ≤ 1) (ds := [.str "aB", .tup [.str "p", .bl true]]) (all_dep (by decide +kernel)) (49 + r).toNat) (one_mem (x := .str "a") (Nat.zero_le _))
        have S23 := S22.new ht5 (.lst ((List.replicate (49 + r).toNat [.str "aB", .ref t1]).flatten ++ [.str "a"]))
        have e23 := S22.enew (o := .lst ((List.replicate (49 + r).toNat [.str "aB", .ref t1]).flatten ++ [.str "a"])) ht5
        have n55 := ne_of_none h22 ht5
        have h23 := (upd_ne (o := .lst ((List.replicate (49 + r).toNat [.str "aB", .ref t1]).flatten ++ [.str "a"])) n55).trans h22
        have V2 : DV (OO C) (upd (upd G9 t1 (.tup [.str "p", .bl true])) t5 (.lst ((List.replicate (49 + r).toNat [.str "aB", .ref t1]).flatten ++ [.str "a"]))) (.ref t5) (.lst ((List.replicate (49 + r).toNat [.str "aB", .tup [.str "p", .bl true]]).flatten ++ [.str "a"])) := .lst (a := t5) upd_same (DVs.ex e23 _ _ D2) (by rw [List.length_append]; simp only [List.length_singleton]; omega)
        have D23 := DVs.ex (e18.tr e23) _ _ D16
        have dep2 : dep (.lst ((List.replicate (49 + r).toNat [D.str "aB", .tup [.str "p", .bl true]]).flatten ++ [.str "a"])) ≤ 2 := Nat.succ_le_succ (depAll_le Q2)
        generalize D.lst ((List.replicate (49 + r).toNat [.str "aB", .tup [.str "p", .bl true]]).flatten ++ [.str "a"]) = dl at V2 dep2
        generalize hG23 : upd (upd G9 t1 (.tup [.str "p", .bl true])) t5 (.lst ((List.replicate (49 + r).toNat [.str "aB", .ref t1]).flatten ++ [.str "a"])) = G23 at V2 S23 D23
        generalize hH23 : upd (upd (upd H20 t3 (.lst (List.replicate (49 + r).toNat [.str "aB", .ref t1]).flatten)) t4 (.lst [.str "a"])) t5 (.lst ((List.replicate (49 + r).toNat [.str "aB", .ref t1]).flatten ++ [.str "a"])) = H23 at S23 h23 ⊢
        clear D1 D2 Q2 S17 S18 S19 S20 S21 S22 h18 h19 h20 h21 h22 ht20 e18 e23 hrl n51 n52 n53 n54 n55 n34 ht1 ht2 ht3 ht4 ht5 na2 k20 b20 r0 r1 hG23 hH23
        refine ⟨_, rfl, "aB", 600, rfl, rfl, by decide, by decide +kernel, by decide, "aB", 600, rfl, rfl, by decide, by decide +kernel, by decide, _, _, rfl, rfl, by decide +kernel, _, rfl, ?_⟩
        refine ⟨"aB", 600, rfl, rfl, by decide, by decide +kernel, by decide, (by show 1 ≤ sizeLine; decide), fun q1 hq1 => ⟨(by show 2 ≤ sizeLine; decide), fun q2 hq2 => ?_⟩⟩
        refine ⟨"c", 1001, rfl, rfl, by decide, by decide +kernel, by decide, (by show 3 ≤ sizeLine; decide), fun q3 hq3 => ⟨(by show 5 ≤ sizeLine; decide), fun q4 hq4 => ?_⟩⟩
        have S24 := S23.new hq1 (.lst [.str (mulS "aB" 600)])
        have S25 := S24.new hq2 (.tup [.str "p", .bl true])
        have S26 := S25.new hq3 (.lst [.str "a", .ref q2, .str (mulS "c" 1001)])
        have e25 := S25.enew (o := .lst [.str "a", .ref q2, .str (mulS "c" 1001)]) hq3
        have e24 := (S24.enew (o := .tup [.str "p", .bl true]) hq2).tr e25
        have e23 := (S23.enew (o := .lst [.str (mulS "aB" 600)]) hq1).tr e24
        have m1 := ne_of_none h23 hq1
        have h24 := (upd_ne (o := .lst [.str (mulS "aB" 600)]) m1).trans h23
        have m2 := ne_of_none h24 hq2
        have h25 := (upd_ne (o := .tup [.str "p", .bl true]) m2).trans h24
        have m3 := ne_of_none h25 hq3
        have h26 := (upd_ne (o := .lst [.str "a", .ref q2, .str (mulS "c" 1001)]) m3).trans h25
        have m4 := ne_of_none h26 hq4
        have S27 := S26.hid hq4 (.lst [.str (mulS "aB" 600), .str (mulS "aB" 600 ++ "-"), .ref t5, .ref q1, .ref q3])
        have okA : okS (mulS "aB" 600) = true := by decide +kernel
        have okB : okS (mulS "aB" 600 ++ "-") = true := by decide +kernel
        have okC : okS (mulS "c" 1001) = true := by decide +kernel
        have D5 := (DVs.ex e23 _ _ D23).app (.cons (.str _ okA) (.cons (.str _ okB) (.cons (V2.ex e23) (.cons (.lst (a := q1) (e24 _ _ upd_same) (.cons (.str _ okA) .nil) (by show 1 ≤ 100000; decide))
          (.cons (.lst (a := q3) upd_same (.cons (.str "a" (by decide)) (.cons (.tup (a := q2) (e25 _ _ upd_same) (.cons (.str "p" (by decide)) (.cons (.bl true) .nil)) (by show 2 ≤ 100000; decide)) (.cons (.str _ okC) .nil))) (by show 3 ≤ 100000; decide)) .nil)))))
        have Q5 := app_mem Q16 (cons_mem (q := fun d => dep d ≤ 2) (x := .str (mulS "aB" 600)) (Nat.zero_le _) (cons_mem (x := .str (mulS "aB" 600 ++ "-")) (Nat.zero_le _) (cons_mem dep2
          (cons_mem (x := .lst [.str (mulS "aB" 600)]) (by simp [dep, depAll]) (cons_mem (x := .lst [.str "a", .tup [.str "p", .bl true], .str (mulS "c" 1001)]) (by simp [dep, depAll]) nil_mem)))))
        refine ⟨p5, q4, _, _, rfl, rfl, (upd_ne m4).trans h26, upd_same, le_100 (by simp; omega), fun q5 hq5 => ?_⟩
        exact ⟨_, q5, _, _, _, rfl, (S27.hid hq5 _).le (by decide), upd_same, D5, Q5, by simp; omega⟩
      · clear S17 h17 D16 Q16 l17 g5 f5 n5
        rintro σ' H2 ⟨G', p, vs, ds, y, rfl, S', h', D', Q', l'⟩
        refine ⟨_, rfl, p, rfl, ⟨_, SqL.of h'⟩, for_list (K := K) (a := p) (xs := vs) (fun _ σ H' => ∃ z7 z8 z9 z10, σ = [some (.ref sc), some (.int (0 + (i : Nat))), some (.ref a), some (.int far), some (.int low), some (.int high), some (.ref p), z7, z8, z9, z10] ∧ Ex H2 H')
          ⟨y, y8, y9, y10, rfl, Ex.rfl' H2⟩ (fun _ σ H' _ ⟨_, _, _, _, _, e⟩ => SqL.of (e _ _ h')) ?_ ?_⟩
        · rintro j v σ H3 hj ⟨z7, z8, z9, z10, rfl, e3⟩
          obtain ⟨d, hd, hv⟩ := D'.get hj
          have hdep := Q' d (List.mem_of_getElem? hd)
          have hv3 := hv.ex (S'.ex.tr e3)
          refine ⟨_, rfl, v, d, rfl, hv3, fun Ha ea => ⟨_, rfl, v, d, rfl, hv3.ex ea, fun Hb eb => ⟨_, rfl, v, d, rfl, hv3.ex (ea.tr eb), fun Hc ec => ⟨_, rfl, v, d, rfl, hv3.ex ((ea.tr eb).tr ec), fun Hd ed => ⟨(by show 4 ≤ sizeLine; decide), fun p1 hp1 => ?_⟩⟩⟩⟩⟩
          have e4 := (((ea.tr eb).tr ec).tr ed).tr (Ex.new (o := .lst [.bl (isName d), .bl (isPiece d), .bl (isMark d), .bl (isRow d)]) hp1)
          generalize hH4 : upd Hd p1 (.lst [.bl (isName d), .bl (isPiece d), .bl (isMark d), .bl (isRow d)]) = H4 at e4 ⊢
          have hp4 : H4 p1 = some (.lst [.bl (isName d), .bl (isPiece d), .bl (isMark d), .bl (isRow d)]) := by rw [← hH4]; exact upd_same
          have b4 := bool4 (isName d) (isPiece d) (isMark d) (isRow d)
          refine ⟨_, rfl, .ref p1, _, rfl, .lst (SqL.of hp4) (.cons (.bl _) (.cons (.bl _) (.cons (.bl _) (.cons (.bl _) .nil)))), b4.1, b4.2.1, b4.2.2.1, b4.2.2.2, ?_⟩
          refine ⟨_, rfl, v, d, rfl, hv3.ex e4, hdep, fun p2 H5 e5 _ hp5 => ?_⟩
          refine ⟨.ref p2, _, rfl, .lst (SqL.of hp5) (.cons (.bl _) (.cons (.bl _) (.cons (.bl _) (.cons (.bl _) .nil)))), b4.1, b4.2.1, b4.2.2.1, b4.2.2.2, rfl, _, rfl, ?_⟩
          rw [ne_self]
          refine iteF ?_
          have e35 := e4.tr e5
          have hv5 := hv3.ex e35
          obtain ⟨t, ty, _, kb, ki, _⟩ := hv5.ty ho
          refine ⟨fun σ' H' => ∃ z7 z9, σ' = [some (.ref sc), some (.int (0 + (i : Nat))), some (.ref a), some (.int far), some (.int low), some (.int high), some (.ref p), z7, some v, z9, some (.bl (isInt d low high))] ∧ H' = H5, ?_, ?_⟩
          · refine ⟨_, rfl, v, _, t, _, _, rfl, .ty _, ty, ki, _, rfl, ?_⟩
            cases hv5 with
            | int n =>
              refine iteT ⟨_, rfl, _, _, t, _, _, rfl, .ty _, ty, kb, _, rfl, _, rfl, iteT ⟨_, rfl, _, rfl, _, _, rfl, rfl, _, rfl, ?_⟩⟩
              cases hl : decide (low ≤ n) with
              | true => exact iteT ⟨_, rfl, _, _, rfl, rfl, _, _, (by show _ = [_, _, _, _, _, _, _, _, _, _, some (V.bl (decide (low ≤ n) && decide (n ≤ high)))]; rw [hl]; rfl), rfl⟩
              | false => exact iteF ⟨_, _, (by show _ = [_, _, _, _, _, _, _, _, _, _, some (V.bl (decide (low ≤ n) && decide (n ≤ high)))]; rw [hl]; rfl), rfl⟩
            | bl b => exact iteT ⟨_, rfl, _, _, t, _, _, rfl, .ty _, ty, kb, _, rfl, _, rfl, iteF ⟨_, _, rfl, rfl⟩⟩
            | _ => exact iteF ⟨_, _, rfl, rfl⟩
          · rintro σ' H6 ⟨z7, z9, rfl, rfl⟩
            refine ⟨_, rfl, _, rfl, _, rfl, v, d, low, high, rfl, hv5, fun H7 e7 => ?_⟩
            have b1 := bool1 (isInt d low high)
            refine ⟨_, _, rfl, .bl _, b1.1, b1.2.1, b1.2.2.1, b1.2.2.2, _, rfl, _, _, rfl, .bl _, b1.1, b1.2.1, b1.2.2.1, b1.2.2.2, rfl, _, rfl, ?_⟩
            rw [ne_self]
            exact iteF ⟨_, _, _, _, rfl, (e3.tr e35).tr e7⟩
        · rintro σ H3 ⟨z7, z8, z9, z10, rfl, e3⟩
          exact ⟨_, _, _, _, _, _, _, _, _, _, rfl, ((e0.tr S'.up).tr S'.ex).tr e3⟩
    · rintro σ H0 ⟨y1, y2, y3, y4, y5, y6, y7, y8, y9, y10, rfl, e0⟩
      exact q _
end

theorem othOk {K : PySem.W.Frag} {C : Addr} (cl : Cls K C) (h1 : PySem.W.findIn K (.ref C) "__class__" = some (some (.builtin "object.__class__"))) (h2 : PySem.W.specialIn K (.builtin "object.__class__") "__get__" = some (some (.builtin "getset_descriptor.__get__")))
    (h3 : PySem.W.takesIn K (.builtin "object.__class__") = some true) (h4 : PySem.W.mroIn K C (.type "object") = some true) (k1 : PySem.W.subIn K (.ref C) (.type "str") = some false) (k2 : PySem.W.subIn K (.ref C) (.type "bool") = some false)
    (k3 : PySem.W.subIn K (.ref C) (.type "int") = some false) (k4 : PySem.W.subIn K (.ref C) (.type "tuple") = some false) (k5 : PySem.W.subIn K (.ref C) (.type "list") = some false) : OthOk K (OO C) := by
  intro H a o ho ha
  rcases ho with ⟨kvs, rfl⟩ | ⟨dx, fs, rfl⟩
  · exact ⟨_, .base (.dK ha), kit5 "dict" false false false false false (by decide +kernel)⟩
  · exact ⟨_, .base (.ins ha cl h1 h2 h3 h4), kit_own (by decide +kernel) k1, kit_own (by decide +kernel) k2, kit_own (by decide +kernel) k3, kit_own (by decide +kernel) k4, kit_own (by decide +kernel) k5⟩
theorem fn_no {P : Program} {w : World} {K : PySem.W.Frag} {mg : Str → Option Value} {base : Heap} {k : Nat} {f : Addr} {fd : FuncData} {ps : List Str} {sp : Sp} (h : ∀ vs H Q E, ¬ sp vs H Q E) : FnOk P w K mg base CX0 k f fd ps sp :=
  ⟨fun vs H Q E hs => absurd hs (h vs H Q E), fun A outer s H args us vs Q E hr he hb hv hs => absurd hs (h vs H Q E)⟩
theorem all_mk {l : PySem.W.OpenLaw} {w : World} {K : PySem.W.Frag} {h : Heap} {mg : Str → Option Value} {fa C_Strip f_is_integer f_is_name f_is_piece f_is_marker f_is_row f_has_row_length f_first_misfit f_check_items f_check_row f_places_by_name f_Strip_init f_L_cell f_L_box f_L_take f_L_text f_L_odd f_L_row f_L_is_text f_L_kinds f_law : Addr} (X : K.In h) (G : h.Ns mainGlobals mg) (hfa : mg "law" = some (.ref fa))
    {od_is_integer an_is_integer od_is_name an_is_name od_is_piece an_is_piece od_is_marker an_is_marker od_is_row an_is_row od_has_row_length an_has_row_length od_first_misfit an_first_misfit od_check_items an_check_items od_check_row an_check_row od_places_by_name an_places_by_name od_Strip_init an_Strip_init od_L_cell an_L_cell od_L_box an_L_box od_L_take an_L_take od_L_text an_L_text od_L_odd an_L_odd od_L_row an_L_row od_L_is_text an_L_is_text od_L_kinds an_L_kinds od_law an_law : Option Addr} {sl_is_integer sl_is_name sl_is_piece sl_is_marker sl_is_row sl_has_row_length sl_first_misfit sl_check_items sl_check_row sl_places_by_name sl_Strip_init sl_L_cell sl_L_box sl_L_take sl_L_text sl_L_odd sl_L_row sl_L_is_text sl_L_kinds sl_law : Array (Option Value)}
    {oc_is_integer kV_is_integer dc_is_integer pm_is_integer cd_is_integer ct_is_integer oc_is_name kV_is_name dc_is_name pm_is_name cd_is_name ct_is_name oc_is_piece kV_is_piece dc_is_piece pm_is_piece cd_is_piece ct_is_piece oc_is_marker kV_is_marker dc_is_marker pm_is_marker cd_is_marker ct_is_marker oc_is_row kV_is_row dc_is_row pm_is_row cd_is_row ct_is_row oc_has_row_length kV_has_row_length dc_has_row_length pm_has_row_length cd_has_row_length ct_has_row_length oc_first_misfit kV_first_misfit dc_first_misfit pm_first_misfit cd_first_misfit ct_first_misfit oc_check_items kV_check_items dc_check_items pm_check_items cd_check_items ct_check_items oc_check_row kV_check_row dc_check_row pm_check_row cd_check_row ct_check_row oc_places_by_name kV_places_by_name dc_places_by_name pm_places_by_name cd_places_by_name ct_places_by_name oc_Strip_init kV_Strip_init dc_Strip_init pm_Strip_init cd_Strip_init ct_Strip_init oc_L_cell kV_L_cell dc_L_cell pm_L_cell cd_L_cell ct_L_cell oc_L_box kV_L_box dc_L_box pm_L_box cd_L_box ct_L_box oc_L_take kV_L_take dc_L_take pm_L_take cd_L_take ct_L_take oc_L_text kV_L_text dc_L_text pm_L_text cd_L_text ct_L_text oc_L_odd kV_L_odd dc_L_odd pm_L_odd cd_L_odd ct_L_odd oc_L_row kV_L_row dc_L_row pm_L_row cd_L_row ct_L_row oc_L_is_text kV_L_is_text dc_L_is_text pm_L_is_text cd_L_is_text ct_L_is_text oc_L_kinds kV_L_kinds dc_L_kinds pm_L_kinds cd_L_kinds ct_L_kinds oc_law kV_law dc_law pm_law cd_law ct_law : Value} {t_MOST_NAMES t_NAME_LETTERS : Tok}
    (a_C_Strip : PySem.W.nsIn K mainGlobals "Strip" = some (some (.ref C_Strip)))
    (pg_Strip : PySem.W.plainGet K C_Strip Str.empty = true)
    (hd_Strip : PySem.W.hasDictIn K C_Strip = true)
    (po_Strip : PySem.W.plainOver K C_Strip = true)
    (sa_Strip : PySem.W.findIn K (.ref C_Strip) "__setattr__" = some (some (.builtin "object.__setattr__")))
    (mk_Strip : PySem.W.makesIn K C_Strip = true)
    (kc_Strip : PySem.W.keepIn K (.ref C_Strip) = true)
    (fc_Strip : PySem.W.findIn K (.ref C_Strip) "__class__" = some (some (.builtin "object.__class__")))
    (sg_Strip : PySem.W.specialIn K (.builtin "object.__class__") "__get__" = some (some (.builtin "getset_descriptor.__get__")))
    (tk_Strip : PySem.W.takesIn K (.builtin "object.__class__") = some true)
    (mr_Strip : PySem.W.mroIn K C_Strip (.type "object") = some true)
    (ks_Strip : PySem.W.subIn K (.ref C_Strip) (.type "str") = some false)
    (kb_Strip : PySem.W.subIn K (.ref C_Strip) (.type "bool") = some false)
    (ki_Strip : PySem.W.subIn K (.ref C_Strip) (.type "int") = some false)
    (kt_Strip : PySem.W.subIn K (.ref C_Strip) (.type "tuple") = some false)
    (kl_Strip : PySem.W.subIn K (.ref C_Strip) (.type "list") = some false)
    (n_Strip_row : PySem.W.findIn K (.ref C_Strip) "_row" = some none)
    (n_Strip_places : PySem.W.findIn K (.ref C_Strip) "_places" = some none)
    (a_is_integer : PySem.W.nsIn K mainGlobals "is_integer" = some (some (.ref f_is_integer)))
    (l_is_integer : K.lookup f_is_integer = some ⟨oc_is_integer, od_is_integer, .func (PySem.W.fnOf "is_integer" "is_integer" (defArgs s_is_integer) (defBody s_is_integer) (defScope s_is_integer) .none kV_is_integer dc_is_integer pm_is_integer an_is_integer cd_is_integer ct_is_integer), sl_is_integer⟩)
    (c_is_integer : PySem.W.codeIn K cd_is_integer "is_integer" = true)
    (k_is_integer : PySem.W.keepIn K (.ref f_is_integer) = true)
    (a_is_name : PySem.W.nsIn K mainGlobals "is_name" = some (some (.ref f_is_name)))
    (l_is_name : K.lookup f_is_name = some ⟨oc_is_name, od_is_name, .func (PySem.W.fnOf "is_name" "is_name" (defArgs s_is_name) (defBody s_is_name) (defScope s_is_name) .none kV_is_name dc_is_name pm_is_name an_is_name cd_is_name ct_is_name), sl_is_name⟩)
    (c_is_name : PySem.W.codeIn K cd_is_name "is_name" = true)
    (k_is_name : PySem.W.keepIn K (.ref f_is_name) = true)
    (a_is_piece : PySem.W.nsIn K mainGlobals "is_piece" = some (some (.ref f_is_piece)))
    (l_is_piece : K.lookup f_is_piece = some ⟨oc_is_piece, od_is_piece, .func (PySem.W.fnOf "is_piece" "is_piece" (defArgs s_is_piece) (defBody s_is_piece) (defScope s_is_piece) .none kV_is_piece dc_is_piece pm_is_piece an_is_piece cd_is_piece ct_is_piece), sl_is_piece⟩)
    (c_is_piece : PySem.W.codeIn K cd_is_piece "is_piece" = true)
    (k_is_piece : PySem.W.keepIn K (.ref f_is_piece) = true)
    (a_is_marker : PySem.W.nsIn K mainGlobals "is_marker" = some (some (.ref f_is_marker)))
    (l_is_marker : K.lookup f_is_marker = some ⟨oc_is_marker, od_is_marker, .func (PySem.W.fnOf "is_marker" "is_marker" (defArgs s_is_marker) (defBody s_is_marker) (defScope s_is_marker) .none kV_is_marker dc_is_marker pm_is_marker an_is_marker cd_is_marker ct_is_marker), sl_is_marker⟩)
    (c_is_marker : PySem.W.codeIn K cd_is_marker "is_marker" = true)
    (k_is_marker : PySem.W.keepIn K (.ref f_is_marker) = true)
    (a_is_row : PySem.W.nsIn K mainGlobals "is_row" = some (some (.ref f_is_row)))
    (l_is_row : K.lookup f_is_row = some ⟨oc_is_row, od_is_row, .func (PySem.W.fnOf "is_row" "is_row" (defArgs s_is_row) (defBody s_is_row) (defScope s_is_row) .none kV_is_row dc_is_row pm_is_row an_is_row cd_is_row ct_is_row), sl_is_row⟩)
    (c_is_row : PySem.W.codeIn K cd_is_row "is_row" = true)
    (k_is_row : PySem.W.keepIn K (.ref f_is_row) = true)
    (a_has_row_length : PySem.W.nsIn K mainGlobals "has_row_length" = some (some (.ref f_has_row_length)))
    (l_has_row_length : K.lookup f_has_row_length = some ⟨oc_has_row_length, od_has_row_length, .func (PySem.W.fnOf "has_row_length" "has_row_length" (defArgs s_has_row_length) (defBody s_has_row_length) (defScope s_has_row_length) .none kV_has_row_length dc_has_row_length pm_has_row_length an_has_row_length cd_has_row_length ct_has_row_length), sl_has_row_length⟩)
    (c_has_row_length : PySem.W.codeIn K cd_has_row_length "has_row_length" = true)
    (k_has_row_length : PySem.W.keepIn K (.ref f_has_row_length) = true)
    (a_first_misfit : PySem.W.nsIn K mainGlobals "first_misfit" = some (some (.ref f_first_misfit)))
    (l_first_misfit : K.lookup f_first_misfit = some ⟨oc_first_misfit, od_first_misfit, .func (PySem.W.fnOf "first_misfit" "first_misfit" (defArgs s_first_misfit) (defBody s_first_misfit) (defScope s_first_misfit) .none kV_first_misfit dc_first_misfit pm_first_misfit an_first_misfit cd_first_misfit ct_first_misfit), sl_first_misfit⟩)
    (c_first_misfit : PySem.W.codeIn K cd_first_misfit "first_misfit" = true)
    (k_first_misfit : PySem.W.keepIn K (.ref f_first_misfit) = true)
    (a_check_items : PySem.W.nsIn K mainGlobals "check_items" = some (some (.ref f_check_items)))
    (l_check_items : K.lookup f_check_items = some ⟨oc_check_items, od_check_items, .func (PySem.W.fnOf "check_items" "check_items" (defArgs s_check_items) (defBody s_check_items) (defScope s_check_items) .none kV_check_items dc_check_items pm_check_items an_check_items cd_check_items ct_check_items), sl_check_items⟩)
    (c_check_items : PySem.W.codeIn K cd_check_items "check_items" = true)
    (k_check_items : PySem.W.keepIn K (.ref f_check_items) = true)
    (a_check_row : PySem.W.nsIn K mainGlobals "check_row" = some (some (.ref f_check_row)))
    (l_check_row : K.lookup f_check_row = some ⟨oc_check_row, od_check_row, .func (PySem.W.fnOf "check_row" "check_row" (defArgs s_check_row) (defBody s_check_row) (defScope s_check_row) .none kV_check_row dc_check_row pm_check_row an_check_row cd_check_row ct_check_row), sl_check_row⟩)
    (c_check_row : PySem.W.codeIn K cd_check_row "check_row" = true)
    (k_check_row : PySem.W.keepIn K (.ref f_check_row) = true)
    (a_places_by_name : PySem.W.nsIn K mainGlobals "places_by_name" = some (some (.ref f_places_by_name)))
    (l_places_by_name : K.lookup f_places_by_name = some ⟨oc_places_by_name, od_places_by_name, .func (PySem.W.fnOf "places_by_name" "places_by_name" (defArgs s_places_by_name) (defBody s_places_by_name) (defScope s_places_by_name) .none kV_places_by_name dc_places_by_name pm_places_by_name an_places_by_name cd_places_by_name ct_places_by_name), sl_places_by_name⟩)
    (c_places_by_name : PySem.W.codeIn K cd_places_by_name "places_by_name" = true)
    (k_places_by_name : PySem.W.keepIn K (.ref f_places_by_name) = true)
    (a_Strip_init : PySem.W.findIn K (.ref C_Strip) "__init__" = some (some (.ref f_Strip_init)))
    (i_Strip_init : PySem.W.isFn K (.ref f_Strip_init) = true)
    (l_Strip_init : K.lookup f_Strip_init = some ⟨oc_Strip_init, od_Strip_init, .func (PySem.W.fnOf "__init__" "Strip.__init__" (defArgs s_Strip_init) (defBody s_Strip_init) (defScope s_Strip_init) .none kV_Strip_init dc_Strip_init pm_Strip_init an_Strip_init cd_Strip_init ct_Strip_init), sl_Strip_init⟩)
    (c_Strip_init : PySem.W.codeIn K cd_Strip_init "Strip.__init__" = true)
    (k_Strip_init : PySem.W.keepIn K (.ref f_Strip_init) = true)
    (a_L_cell : PySem.W.nsIn K mainGlobals "_law_cell" = some (some (.ref f_L_cell)))
    (l_L_cell : K.lookup f_L_cell = some ⟨oc_L_cell, od_L_cell, .func (PySem.W.fnOf "_law_cell" "_law_cell" (defArgs s_L_cell) (defBody s_L_cell) (defScope s_L_cell) .none kV_L_cell dc_L_cell pm_L_cell an_L_cell cd_L_cell ct_L_cell), sl_L_cell⟩)
    (c_L_cell : PySem.W.codeIn K cd_L_cell "_law_cell" = true)
    (k_L_cell : PySem.W.keepIn K (.ref f_L_cell) = true)
    (a_L_box : PySem.W.nsIn K mainGlobals "_law_box" = some (some (.ref f_L_box)))
    (l_L_box : K.lookup f_L_box = some ⟨oc_L_box, od_L_box, .func (PySem.W.fnOf "_law_box" "_law_box" (defArgs s_L_box) (defBody s_L_box) (defScope s_L_box) .none kV_L_box dc_L_box pm_L_box an_L_box cd_L_box ct_L_box), sl_L_box⟩)
    (c_L_box : PySem.W.codeIn K cd_L_box "_law_box" = true)
    (k_L_box : PySem.W.keepIn K (.ref f_L_box) = true)
    (a_L_take : PySem.W.nsIn K mainGlobals "_law_take" = some (some (.ref f_L_take)))
    (l_L_take : K.lookup f_L_take = some ⟨oc_L_take, od_L_take, .func (PySem.W.fnOf "_law_take" "_law_take" (defArgs s_L_take) (defBody s_L_take) (defScope s_L_take) .none kV_L_take dc_L_take pm_L_take an_L_take cd_L_take ct_L_take), sl_L_take⟩)
    (c_L_take : PySem.W.codeIn K cd_L_take "_law_take" = true)
    (k_L_take : PySem.W.keepIn K (.ref f_L_take) = true)
    (a_L_text : PySem.W.nsIn K mainGlobals "_law_text" = some (some (.ref f_L_text)))
    (l_L_text : K.lookup f_L_text = some ⟨oc_L_text, od_L_text, .func (PySem.W.fnOf "_law_text" "_law_text" (defArgs s_L_text) (defBody s_L_text) (defScope s_L_text) .none kV_L_text dc_L_text pm_L_text an_L_text cd_L_text ct_L_text), sl_L_text⟩)
    (c_L_text : PySem.W.codeIn K cd_L_text "_law_text" = true)
    (k_L_text : PySem.W.keepIn K (.ref f_L_text) = true)
    (a_L_odd : PySem.W.nsIn K mainGlobals "_law_odd" = some (some (.ref f_L_odd)))
    (l_L_odd : K.lookup f_L_odd = some ⟨oc_L_odd, od_L_odd, .func (PySem.W.fnOf "_law_odd" "_law_odd" (defArgs s_L_odd) (defBody s_L_odd) (defScope s_L_odd) .none kV_L_odd dc_L_odd pm_L_odd an_L_odd cd_L_odd ct_L_odd), sl_L_odd⟩)
    (c_L_odd : PySem.W.codeIn K cd_L_odd "_law_odd" = true)
    (k_L_odd : PySem.W.keepIn K (.ref f_L_odd) = true)
    (a_L_row : PySem.W.nsIn K mainGlobals "_law_row" = some (some (.ref f_L_row)))
    (l_L_row : K.lookup f_L_row = some ⟨oc_L_row, od_L_row, .func (PySem.W.fnOf "_law_row" "_law_row" (defArgs s_L_row) (defBody s_L_row) (defScope s_L_row) .none kV_L_row dc_L_row pm_L_row an_L_row cd_L_row ct_L_row), sl_L_row⟩)
    (c_L_row : PySem.W.codeIn K cd_L_row "_law_row" = true)
    (k_L_row : PySem.W.keepIn K (.ref f_L_row) = true)
    (a_L_is_text : PySem.W.nsIn K mainGlobals "_law_is_text" = some (some (.ref f_L_is_text)))
    (l_L_is_text : K.lookup f_L_is_text = some ⟨oc_L_is_text, od_L_is_text, .func (PySem.W.fnOf "_law_is_text" "_law_is_text" (defArgs s_L_is_text) (defBody s_L_is_text) (defScope s_L_is_text) .none kV_L_is_text dc_L_is_text pm_L_is_text an_L_is_text cd_L_is_text ct_L_is_text), sl_L_is_text⟩)
    (c_L_is_text : PySem.W.codeIn K cd_L_is_text "_law_is_text" = true)
    (k_L_is_text : PySem.W.keepIn K (.ref f_L_is_text) = true)
    (a_L_kinds : PySem.W.nsIn K mainGlobals "_law_kinds" = some (some (.ref f_L_kinds)))
    (l_L_kinds : K.lookup f_L_kinds = some ⟨oc_L_kinds, od_L_kinds, .func (PySem.W.fnOf "_law_kinds" "_law_kinds" (defArgs s_L_kinds) (defBody s_L_kinds) (defScope s_L_kinds) .none kV_L_kinds dc_L_kinds pm_L_kinds an_L_kinds cd_L_kinds ct_L_kinds), sl_L_kinds⟩)
    (c_L_kinds : PySem.W.codeIn K cd_L_kinds "_law_kinds" = true)
    (k_L_kinds : PySem.W.keepIn K (.ref f_L_kinds) = true)
    (a_law : PySem.W.nsIn K mainGlobals "law" = some (some (.ref f_law)))
    (l_law : K.lookup f_law = some ⟨oc_law, od_law, .func (PySem.W.fnOf "law" "law" (defArgs s_law) (defBody s_law) (defScope s_law) .none kV_law dc_law pm_law an_law cd_law ct_law), sl_law⟩)
    (c_law : PySem.W.codeIn K cd_law "law" = true)
    (k_law : PySem.W.keepIn K (.ref f_law) = true)
    (z_bool : PySem.W.nsIn K mainGlobals "bool" = some none)
    (z_enumerate : PySem.W.nsIn K mainGlobals "enumerate" = some none)
    (z_int : PySem.W.nsIn K mainGlobals "int" = some none)
    (z_isinstance : PySem.W.nsIn K mainGlobals "isinstance" = some none)
    (z_len : PySem.W.nsIn K mainGlobals "len" = some none)
    (z_list : PySem.W.nsIn K mainGlobals "list" = some none)
    (z_max : PySem.W.nsIn K mainGlobals "max" = some none)
    (z_min : PySem.W.nsIn K mainGlobals "min" = some none)
    (z_range : PySem.W.nsIn K mainGlobals "range" = some none)
    (z_repr : PySem.W.nsIn K mainGlobals "repr" = some none)
    (z_str : PySem.W.nsIn K mainGlobals "str" = some none)
    (z_tuple : PySem.W.nsIn K mainGlobals "tuple" = some none)
    (g_MOST_NAMES : PySem.W.nsIn K mainGlobals "MOST_NAMES" = some (some (.int 12 t_MOST_NAMES)))
    (g_NAME_LETTERS : PySem.W.nsIn K mainGlobals "NAME_LETTERS" = some (some (.int 4 t_NAME_LETTERS)))
    : ∃ fd : FuncData, (∀ (s : Shared) (v : Value), BindsTo s fd ⟨[v], []⟩ [("_law_script", v)]) ∧ ∀ base : Heap, K.In base → base.Ns mainGlobals mg → FnG l.prog w K mg base CX0 11 fa fd ["_law_script"] (spLaw K) := by
  have e := hfa.symm.trans (PySem.W.mg_of X G a_law)
  cases e
  have T : Txt K mg := { z_bool := PySem.W.mg_none_of X G z_bool, z_enumerate := PySem.W.mg_none_of X G z_enumerate, z_int := PySem.W.mg_none_of X G z_int, z_isinstance := PySem.W.mg_none_of X G z_isinstance, z_len := PySem.W.mg_none_of X G z_len, z_list := PySem.W.mg_none_of X G z_list, z_max := PySem.W.mg_none_of X G z_max, z_min := PySem.W.mg_none_of X G z_min, z_range := PySem.W.mg_none_of X G z_range, z_repr := PySem.W.mg_none_of X G z_repr, z_str := PySem.W.mg_none_of X G z_str, z_tuple := PySem.W.mg_none_of X G z_tuple, g_MOST_NAMES := ⟨_, PySem.W.mg_of X G g_MOST_NAMES⟩, g_NAME_LETTERS := ⟨_, PySem.W.mg_of X G g_NAME_LETTERS⟩ }
  have F_is_integer := fun_mk (st := s_is_integer) l_is_integer c_is_integer k_is_integer
  have b_is_integer := F_is_integer.binds (ps := ["value", "low", "high"]) fun _ _ _ _ _ _ us hl => match us, hl with | [_, _, _], _ => rfl
  have D_is_integer : Df K mg "is_integer" f_is_integer _ ["value", "low", "high"] := ⟨PySem.W.mg_of X G a_is_integer, k_is_integer, b_is_integer⟩
  have F_is_name := fun_mk (st := s_is_name) l_is_name c_is_name k_is_name
  have b_is_name := F_is_name.binds (ps := ["value"]) fun _ _ _ _ _ _ us hl => match us, hl with | [_], _ => rfl
  have D_is_name : Df K mg "is_name" f_is_name _ ["value"] := ⟨PySem.W.mg_of X G a_is_name, k_is_name, b_is_name⟩
  have F_is_piece := fun_mk (st := s_is_piece) l_is_piece c_is_piece k_is_piece
  have b_is_piece := F_is_piece.binds (ps := ["value"]) fun _ _ _ _ _ _ us hl => match us, hl with | [_], _ => rfl
  have D_is_piece : Df K mg "is_piece" f_is_piece _ ["value"] := ⟨PySem.W.mg_of X G a_is_piece, k_is_piece, b_is_piece⟩
  have F_is_marker := fun_mk (st := s_is_marker) l_is_marker c_is_marker k_is_marker
  have b_is_marker := F_is_marker.binds (ps := ["value"]) fun _ _ _ _ _ _ us hl => match us, hl with | [_], _ => rfl
  have D_is_marker : Df K mg "is_marker" f_is_marker _ ["value"] := ⟨PySem.W.mg_of X G a_is_marker, k_is_marker, b_is_marker⟩
  have F_is_row := fun_mk (st := s_is_row) l_is_row c_is_row k_is_row
  have b_is_row := F_is_row.binds (ps := ["value"]) fun _ _ _ _ _ _ us hl => match us, hl with | [_], _ => rfl
  have D_is_row : Df K mg "is_row" f_is_row _ ["value"] := ⟨PySem.W.mg_of X G a_is_row, k_is_row, b_is_row⟩
  have F_has_row_length := fun_mk (st := s_has_row_length) l_has_row_length c_has_row_length k_has_row_length
  have b_has_row_length := F_has_row_length.binds (ps := ["value"]) fun _ _ _ _ _ _ us hl => match us, hl with | [_], _ => rfl
  have D_has_row_length : Df K mg "has_row_length" f_has_row_length _ ["value"] := ⟨PySem.W.mg_of X G a_has_row_length, k_has_row_length, b_has_row_length⟩
  have F_first_misfit := fun_mk (st := s_first_misfit) l_first_misfit c_first_misfit k_first_misfit
  have b_first_misfit := F_first_misfit.binds (ps := ["items"]) fun _ _ _ _ _ _ us hl => match us, hl with | [_], _ => rfl
  have D_first_misfit : Df K mg "first_misfit" f_first_misfit _ ["items"] := ⟨PySem.W.mg_of X G a_first_misfit, k_first_misfit, b_first_misfit⟩
  have F_check_items := fun_mk (st := s_check_items) l_check_items c_check_items k_check_items
  have b_check_items := F_check_items.binds (ps := ["items"]) fun _ _ _ _ _ _ us hl => match us, hl with | [_], _ => rfl
  have D_check_items : Df K mg "check_items" f_check_items _ ["items"] := ⟨PySem.W.mg_of X G a_check_items, k_check_items, b_check_items⟩
  have F_check_row := fun_mk (st := s_check_row) l_check_row c_check_row k_check_row
  have b_check_row := F_check_row.binds (ps := ["row"]) fun _ _ _ _ _ _ us hl => match us, hl with | [_], _ => rfl
  have D_check_row : Df K mg "check_row" f_check_row _ ["row"] := ⟨PySem.W.mg_of X G a_check_row, k_check_row, b_check_row⟩
  have F_places_by_name := fun_mk (st := s_places_by_name) l_places_by_name c_places_by_name k_places_by_name
  have b_places_by_name := F_places_by_name.binds (ps := ["row"]) fun _ _ _ _ _ _ us hl => match us, hl with | [_], _ => rfl
  have D_places_by_name : Df K mg "places_by_name" f_places_by_name _ ["row"] := ⟨PySem.W.mg_of X G a_places_by_name, k_places_by_name, b_places_by_name⟩
  have F_Strip_init := fun_mk (st := s_Strip_init) l_Strip_init c_Strip_init k_Strip_init
  have b_Strip_init := F_Strip_init.binds (ps := ["self", "row"]) fun _ _ _ _ _ _ us hl => match us, hl with | [_, _], _ => rfl
  have F_L_cell := fun_mk (st := s_L_cell) l_L_cell c_L_cell k_L_cell
  have b_L_cell := F_L_cell.binds (ps := ["_law_script", "_law_k"]) fun _ _ _ _ _ _ us hl => match us, hl with | [_, _], _ => rfl
  have D_L_cell : Df K mg "_law_cell" f_L_cell _ ["_law_script", "_law_k"] := ⟨PySem.W.mg_of X G a_L_cell, k_L_cell, b_L_cell⟩
  have F_L_box := fun_mk (st := s_L_box) l_L_box c_L_box k_L_box
  have b_L_box := F_L_box.binds (ps := ["_law_cell_here"]) fun _ _ _ _ _ _ us hl => match us, hl with | [_], _ => rfl
  have D_L_box : Df K mg "_law_box" f_L_box _ ["_law_cell_here"] := ⟨PySem.W.mg_of X G a_L_box, k_L_box, b_L_box⟩
  have F_L_take := fun_mk (st := s_L_take) l_L_take c_L_take k_L_take
  have b_L_take := F_L_take.binds (ps := ["_law_box_here", "_law_many"]) fun _ _ _ _ _ _ us hl => match us, hl with | [_, _], _ => rfl
  have D_L_take : Df K mg "_law_take" f_L_take _ ["_law_box_here", "_law_many"] := ⟨PySem.W.mg_of X G a_L_take, k_L_take, b_L_take⟩
  have F_L_text := fun_mk (st := s_L_text) l_L_text c_L_text k_L_text
  have b_L_text := F_L_text.binds (ps := ["_law_box_here"]) fun _ _ _ _ _ _ us hl => match us, hl with | [_], _ => rfl
  have D_L_text : Df K mg "_law_text" f_L_text _ ["_law_box_here"] := ⟨PySem.W.mg_of X G a_L_text, k_L_text, b_L_text⟩
  have F_L_odd := fun_mk (st := s_L_odd) l_L_odd c_L_odd k_L_odd
  have b_L_odd := F_L_odd.binds (ps := ["_law_box_here"]) fun _ _ _ _ _ _ us hl => match us, hl with | [_], _ => rfl
  have D_L_odd : Df K mg "_law_odd" f_L_odd _ ["_law_box_here"] := ⟨PySem.W.mg_of X G a_L_odd, k_L_odd, b_L_odd⟩
  have F_L_row := fun_mk (st := s_L_row) l_L_row c_L_row k_L_row
  have b_L_row := F_L_row.binds (ps := ["_law_box_here"]) fun _ _ _ _ _ _ us hl => match us, hl with | [_], _ => rfl
  have D_L_row : Df K mg "_law_row" f_L_row _ ["_law_box_here"] := ⟨PySem.W.mg_of X G a_L_row, k_L_row, b_L_row⟩
  have F_L_is_text := fun_mk (st := s_L_is_text) l_L_is_text c_L_is_text k_L_is_text
  have b_L_is_text := F_L_is_text.binds (ps := ["_law_thing", "_law_signs"]) fun _ _ _ _ _ _ us hl => match us, hl with | [_, _], _ => rfl
  have D_L_is_text : Df K mg "_law_is_text" f_L_is_text _ ["_law_thing", "_law_signs"] := ⟨PySem.W.mg_of X G a_L_is_text, k_L_is_text, b_L_is_text⟩
  have F_L_kinds := fun_mk (st := s_L_kinds) l_L_kinds c_L_kinds k_L_kinds
  have b_L_kinds := F_L_kinds.binds (ps := ["_law_thing"]) fun _ _ _ _ _ _ us hl => match us, hl with | [_], _ => rfl
  have D_L_kinds : Df K mg "_law_kinds" f_L_kinds _ ["_law_thing"] := ⟨PySem.W.mg_of X G a_L_kinds, k_L_kinds, b_L_kinds⟩
  have F_law := fun_mk (st := s_law) l_law c_law k_law
  have M_Strip : Mk K C_Strip f_Strip_init := ⟨mk_Strip, a_Strip_init, i_Strip_init, kc_Strip⟩
  have mc_Strip := PySem.W.mg_of X G a_C_Strip
  have cls_Strip : Cls K C_Strip := ⟨pg_Strip, hd_Strip, po_Strip, sa_Strip⟩
  refine ⟨PySem.W.fnOf "law" "law" (defArgs s_law) (defBody s_law) (defScope s_law) .none kV_law dc_law pm_law an_law cd_law ct_law, fun s v => .of_eq rfl, fun base _ _ => ?_⟩
  have hO := othOk cls_Strip fc_Strip sg_Strip tk_Strip mr_Strip ks_Strip kb_Strip ki_Strip kt_Strip kl_Strip
  have G_cell := ok_cell (P := l.prog) (w := w) (base := base) F_L_cell T
  have G_box := ok_box (P := l.prog) (w := w) (base := base) F_L_box T
  have G_take := ok_take (P := l.prog) (w := w) (base := base) F_L_take T
  have G_text := ok_text (P := l.prog) (w := w) (base := base) F_L_text T (D_L_take := D_L_take) G_take
  have G_is_piece := ok_is_piece (P := l.prog) (w := w) (base := base) F_is_piece T hO
  have G_is_name := ok_is_name (P := l.prog) (w := w) (base := base) F_is_name T hO (D_is_piece := D_is_piece) G_is_piece
  have G_is_marker := ok_is_marker (P := l.prog) (w := w) (base := base) F_is_marker T hO (D_is_name := D_is_name) G_is_name
  have G_hrl := ok_has_row_length (P := l.prog) (w := w) (base := base) F_has_row_length T hO
  have G_is_integer := ok_is_integer (P := l.prog) (w := w) (base := base) F_is_integer T hO
  have G_misfit := ok_first_misfit (P := l.prog) (w := w) (base := base) F_first_misfit T hO (D_is_piece := D_is_piece) (D_is_marker := D_is_marker) G_is_piece G_is_marker
  have G_is_row := ok_is_row (P := l.prog) (w := w) (base := base) F_is_row T hO (D_has_row_length := D_has_row_length) (D_first_misfit := D_first_misfit) G_hrl G_misfit
  have G_check_items := ok_check_items (P := l.prog) (w := w) (base := base) F_check_items T (D_first_misfit := D_first_misfit) G_misfit
  have G_check_row := ok_check_row (P := l.prog) (w := w) (base := base) F_check_row T (D_has_row_length := D_has_row_length) (D_check_items := D_check_items) G_hrl G_check_items
  have G_places := ok_places_by_name (P := l.prog) (w := w) (base := base) F_places_by_name T
  have G_init := ok_strip_init (P := l.prog) (w := w) (base := base) F_Strip_init T ⟨cls_Strip, n_Strip_row, n_Strip_places⟩ (D_check_row := D_check_row) (D_places_by_name := D_places_by_name) G_check_row G_places
  have G_odd := ok_odd (P := l.prog) (w := w) (base := base) F_L_odd T (D_L_take := D_L_take) G_take M_Strip mc_Strip b_Strip_init G_init
  have G_row := ok_row (P := l.prog) (w := w) (base := base) F_L_row T (D_L_take := D_L_take) (D_L_text := D_L_text) (D_L_odd := D_L_odd) G_take G_text G_odd
  have G_is_text := ok_is_text (P := l.prog) (w := w) (base := base) F_L_is_text T hO
  have K0 := kinds_step (n := 0) (k := 0) F_L_kinds T hO (D_L_is_text := D_L_is_text) (D_L_kinds := D_L_kinds) G_is_text (fn_no fun _ _ _ _ h => absurd h.1 (by decide))
  have K1 := kinds_step (n := 1) (k := 1) F_L_kinds T hO (D_L_is_text := D_L_is_text) (D_L_kinds := D_L_kinds) G_is_text (K0.imp fun _ _ _ _ h => h.2)
  have K2 := kinds_step (n := 2) (k := 2) F_L_kinds T hO (D_L_is_text := D_L_is_text) (D_L_kinds := D_L_kinds) G_is_text (K1.imp fun _ _ _ _ h => h.2)
  exact ok_law F_law T hO (D_L_box := D_L_box) (D_L_cell := D_L_cell) (D_L_take := D_L_take) (D_L_text := D_L_text) (D_L_odd := D_L_odd) (D_L_row := D_L_row) (D_is_name := D_is_name) (D_is_piece := D_is_piece) (D_is_marker := D_is_marker) (D_is_row := D_is_row) (D_L_kinds := D_L_kinds) (D_is_integer := D_is_integer) G_cell G_box G_take G_text G_odd G_row G_is_name G_is_piece G_is_marker G_is_row G_is_integer (K2.mono (by decide))
end MS
open PySem PySem.W PyProof.Rows in
set_option maxRecDepth 100000 in
set_option maxHeartbeats 0 in
theorem PySem.Challenge.cw_markersplice_k01_value_kinds_holds : PySem.Challenge.rw_markersplice_k01_value_kinds.Holds := by
  w_on; o_law; k_head; (case hw => w_witness2)
  k_fill
  refine Gd.walkG (l := PySem.Challenge.rw_markersplice_k01_value_kinds) (k := 11) (x := "_law_script") (sp := Gd.spLaw) rfl (by decide) rfl ⟨rfl, by decide, by decide⟩ (fun w h Y => PySem.W.kIn_of Y) ?F (fun K H a ns hl _ hS => ⟨a, ns, rfl, hS, hl, fun _ => rfl⟩)
  case F =>
    intro w mg fa h KX G hmg
    refine' MS.all_mk KX G hmg ?a_C_Strip ?pg_Strip ?hd_Strip ?po_Strip ?sa_Strip ?mk_Strip ?kc_Strip ?fc_Strip ?sg_Strip ?tk_Strip ?mr_Strip ?ks_Strip ?kb_Strip ?ki_Strip ?kt_Strip ?kl_Strip ?n_Strip_row ?n_Strip_places ?a_is_integer ?l_is_integer ?c_is_integer ?k_is_integer ?a_is_name ?l_is_name ?c_is_name ?k_is_name ?a_is_piece ?l_is_piece ?c_is_piece ?k_is_piece ?a_is_marker ?l_is_marker ?c_is_marker ?k_is_marker ?a_is_row ?l_is_row ?c_is_row ?k_is_row ?a_has_row_length ?l_has_row_length ?c_has_row_length ?k_has_row_length ?a_first_misfit ?l_first_misfit ?c_first_misfit ?k_first_misfit ?a_check_items ?l_check_items ?c_check_items ?k_check_items ?a_check_row ?l_check_row ?c_check_row ?k_check_row ?a_places_by_name ?l_places_by_name ?c_places_by_name ?k_places_by_name ?a_Strip_init ?i_Strip_init ?l_Strip_init ?c_Strip_init ?k_Strip_init ?a_L_cell ?l_L_cell ?c_L_cell ?k_L_cell ?a_L_box ?l_L_box ?c_L_box ?k_L_box ?a_L_take ?l_L_take ?c_L_take ?k_L_take ?a_L_text ?l_L_text ?c_L_text ?k_L_text ?a_L_odd ?l_L_odd ?c_L_odd ?k_L_odd ?a_L_row ?l_L_row ?c_L_row ?k_L_row ?a_L_is_text ?l_L_is_text ?c_L_is_text ?k_L_is_text ?a_L_kinds ?l_L_kinds ?c_L_kinds ?k_L_kinds ?a_law ?l_law ?c_law ?k_law ?z_bool ?z_enumerate ?z_int ?z_isinstance ?z_len ?z_list ?z_max ?z_min ?z_range ?z_repr ?z_str ?z_tuple ?g_MOST_NAMES ?g_NAME_LETTERS
    (case a_C_Strip => k_is)
    (case pg_Strip => k_is)
    (case hd_Strip => k_is)
    (case po_Strip => k_is)
    (case sa_Strip => k_is)
    (case mk_Strip => k_is)
    (case kc_Strip => k_is)
    (case fc_Strip => k_is)
    (case sg_Strip => k_is)
    (case tk_Strip => k_is)
    (case mr_Strip => k_is)
    (case ks_Strip => k_is)
    (case kb_Strip => k_is)
    (case ki_Strip => k_is)
    (case kt_Strip => k_is)
    (case kl_Strip => k_is)
    (case n_Strip_row => k_is)
    (case n_Strip_places => k_is)
    (case a_is_integer => k_is)
    (case l_is_integer => k_is)
    (case c_is_integer => k_is)
    (case k_is_integer => k_is)
    (case a_is_name => k_is)
    (case l_is_name => k_is)
    (case c_is_name => k_is)
    (case k_is_name => k_is)
    (case a_is_piece => k_is)
    (case l_is_piece => k_is)
    (case c_is_piece => k_is)
    (case k_is_piece => k_is)
    (case a_is_marker => k_is)
    (case l_is_marker => k_is)
    (case c_is_marker => k_is)
    (case k_is_marker => k_is)
    (case a_is_row => k_is)
    (case l_is_row => k_is)
    (case c_is_row => k_is)
    (case k_is_row => k_is)
    (case a_has_row_length => k_is)
    (case l_has_row_length => k_is)
    (case c_has_row_length => k_is)
    (case k_has_row_length => k_is)
    (case a_first_misfit => k_is)
    (case l_first_misfit => k_is)
    (case c_first_misfit => k_is)
    (case k_first_misfit => k_is)
    (case a_check_items => k_is)
    (case l_check_items => k_is)
    (case c_check_items => k_is)
    (case k_check_items => k_is)
    (case a_check_row => k_is)
    (case l_check_row => k_is)
    (case c_check_row => k_is)
    (case k_check_row => k_is)
    (case a_places_by_name => k_is)
    (case l_places_by_name => k_is)
    (case c_places_by_name => k_is)
    (case k_places_by_name => k_is)
    (case a_Strip_init => k_is)
    (case i_Strip_init => k_is)
    (case l_Strip_init => k_is)
    (case c_Strip_init => k_is)
    (case k_Strip_init => k_is)
    (case a_L_cell => k_is)
    (case l_L_cell => k_is)
    (case c_L_cell => k_is)
    (case k_L_cell => k_is)
    (case a_L_box => k_is)
    (case l_L_box => k_is)
    (case c_L_box => k_is)
    (case k_L_box => k_is)
    (case a_L_take => k_is)
    (case l_L_take => k_is)
    (case c_L_take => k_is)
    (case k_L_take => k_is)
    (case a_L_text => k_is)
    (case l_L_text => k_is)
    (case c_L_text => k_is)
    (case k_L_text => k_is)
    (case a_L_odd => k_is)
    (case l_L_odd => k_is)
    (case c_L_odd => k_is)
    (case k_L_odd => k_is)
    (case a_L_row => k_is)
    (case l_L_row => k_is)
    (case c_L_row => k_is)
    (case k_L_row => k_is)
    (case a_L_is_text => k_is)
    (case l_L_is_text => k_is)
    (case c_L_is_text => k_is)
    (case k_L_is_text => k_is)
    (case a_L_kinds => k_is)
    (case l_L_kinds => k_is)
    (case c_L_kinds => k_is)
    (case k_L_kinds => k_is)
    (case a_law => k_is)
    (case l_law => k_is)
    (case c_law => k_is)
    (case k_law => k_is)
    (case z_bool => k_is)
    (case z_enumerate => k_is)
    (case z_int => k_is)
    (case z_isinstance => k_is)
    (case z_len => k_is)
    (case z_list => k_is)
    (case z_max => k_is)
    (case z_min => k_is)
    (case z_range => k_is)
    (case z_repr => k_is)
    (case z_str => k_is)
    (case z_tuple => k_is)
    (case g_MOST_NAMES => k_is)
    (case g_NAME_LETTERS => k_is)
