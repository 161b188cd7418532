import PyProof.Rows.All
import Wide.All
import OpenK.AllK
import Wide.FinOn
import HandS.ForMost
import HandS.IsInst
import HandS.Style
import HandS.StrMore
import PyProof.ReprRoads
import PyProof.Rows.StrRev
import PyProof.StrOps2
import KE.GoesEnum
import HandS.Conv
import HandS.DictComp
import HandS.Codes
import KE.KDictItemsList
import KE.KDictZip
import KE.KDictPairs
import HandS.SetKeys
import HandS.Sort
import HandS.Walk
import PySem.Challenge.RW_markersplice_k03_removing_markers
set_option Elab.async false
set_option linter.all false
set_option maxRecDepth 100000
set_option maxHeartbeats 4000000
/-! Calls whose promise may lean on this: no repr of the program is under way (the guards are empty). -/
namespace Gd
open PySem PySem.Spec PyProof.Rows L2

/-- a def's promise, shown where no repr runs -/
structure FnG (P : Program) (w : World) (K : PySem.W.Frag) (mg : Str → Option Value) (base : Heap)
    (CX : CXT) (k : Nat) (f : Addr) (fd : FuncData) (ps : List Str) (sp : Sp) : Prop where
  len : ∀ vs H Q E, sp vs H Q E → vs.length = ps.length
  run : ∀ (A : Around) (outer : List Env) (s : Shared) (H : Hp) (args : Args) (us : List Value)
    (vs : List V) (Q : VK) (E : XK), A.guards = some [] → Room k A →
    Env0 P w K mg base A outer s H → BindsTo s fd args (ps.zip us) → Vals vs us → sp vs H Q E →
    codeAny (model P w) A (.call (.ref f) args) (CR CX outer P w H s Q E) s

section
variable {P : Program} {w : World} {K : PySem.W.Frag} {mg : Str → Option Value} {base : Heap}
  {CX : CXT} {k : Nat} {f : Addr} {fd : FuncData} {ps : List Str} {sp : Sp}
theorem FnG.of (F : FnOk P w K mg base CX k f fd ps sp) : FnG P w K mg base CX k f fd ps sp :=
  ⟨F.len, fun A o s H a us vs Q E _ => F.run A o s H a us vs Q E⟩

/-- the def by its body, the guards told -/
theorem fnG_body {name qual : Str} {params : Arguments} {body : List Stmt} {scope : Scope}
    {dV kV doc pm cdv ct oc : Value} {an od : Option Addr} {osl : Array (Option Value)} {N : List Str}
    (lk : K.lookup f = some ⟨oc, od, .func (PySem.W.fnOf name qual params body scope dV kV doc pm an cdv ct), osl⟩)
    (hcd : PySem.W.codeIn K cdv qual = true) (S : FnScope N ps scope)
    (len : ∀ vs H Q E, sp vs H Q E → vs.length = ps.length)
    (hB : ∀ (A : Around) (outer : List Env) (s : Shared) (H : Hp) (vs : List V) (Q : VK) (E : XK),
      A.guards = some [] → Room k (A.deeper (envOfC qual scope s.heap.objs.size f cdv)) → sp vs H Q E →
      ∃ t, PSs (cxOf CX P w K mg base N qual scope f cdv A outer s H E) body t ∧
        t { nx := fun _ H' => Q .non H', rt := Q } (start N vs) H) :
    FnG P w K mg base CX (k + 1) f (PySem.W.fnOf name qual params body scope dV kV doc pm an cdv ct) ps sp where
  len := len
  run A outer s H args us vs Q E hg hr e0 hb r hsp := by
    have KX : K.In s.heap := e0.mod.kin.keeps (fun b o e => (e0.bs b o e).1)
    have lim : s.heap.NoLimit := e0.mod.nolimit.keeps (fun b o e => (e0.bs b o e).1)
    have hk : ∀ y ∈ ps.zip us, scope.names.lookup y.1 = some .local ∨
        (scope.names.lookup y.1 = some .cell ∧
          ((cellsFrom (s.heap.objs.size + 1) scope.names []).lookup y.1).isSome = true) := by
      intro y hy
      obtain ⟨n, v⟩ := y
      cases S.par n (List.of_mem_zip hy).1 with
      | inl q => exact Or.inl q
      | inr q => exact Or.inr ⟨q, PySem.W.cellsFrom_some _ _ _ (Or.inl q)⟩
    apply codeAny_call_function hr.depth (KX _ _ lk) rfl S.co S.gen rfl (PySem.W.codeRec_of KX hcd)
    apply hb
    apply wpAny_newFunctionEnv_cells S.kind hk
    intro env he s1 x
    subst he
    refine ⟨lim.keeps x.toInCall.keep, codeAny_func ?_⟩
    obtain ⟨t, ht, hq⟩ := hB A outer s H vs Q E hg (hr.deeper _) hsp
    have I := inv_start (CX := CX) (E := E) S hr.hd e0 (len _ _ _ _ hsp) r x
    apply wpAny_mono (ht.run [] s1 _ H _ I hq) ?_ (fun e s' hs => hs)
    intro fl s' hs
    match fl, hs with
    | .ret u, ⟨v, σ', H', J, rv, q⟩ => exact ⟨v, H', J.os, J.bare, J.base, J.hok, rv, q⟩
    | .next, ⟨σ', H', J, q⟩ => exact ⟨V.non, H', J.os, J.bare, J.base, J.hok, rfl, q⟩
    | .brk, ⟨_, _, _, q⟩ => exact q.elim
    | .cont, ⟨_, _, _, q⟩ => exact q.elim

theorem okG {x qual : Str} {st : Stmt} {N : List Str} (F : Fun K x qual st f fd) (S : FnScope N ps (defScope st))
    (len : ∀ vs H Q E, sp vs H Q E → vs.length = ps.length)
    (hB : ∀ (cdv : Value) (A : Around) (outer : List Env) (s : Shared) (H : Hp) (vs : List V) (Q : VK) (E : XK),
      A.guards = some [] → Room k (A.deeper (envOfC qual (defScope st) s.heap.objs.size f cdv)) → sp vs H Q E →
      ∃ t, PSs (cxOf CX0 P w K mg base N qual (defScope st) f cdv A outer s H E).nox (defBody st) t ∧
        t { nx := fun _ H' => Q .non H', rt := Q } (start N vs) H) :
    FnG P w K mg base CX0 (k + 1) f fd ps sp := by
  obtain ⟨oc, od, kV, doc, pm, an, cdv, ct, osl, rfl, lk, hcd⟩ := F.ex
  apply fnG_body lk hcd S len
  intro A outer s H vs Q E hg hr hsp
  obtain ⟨t, h, q⟩ := hB cdv A outer s H vs Q E hg hr hsp
  exact ⟨t, h.nox, q⟩
end

section
variable {X : Cx} {CX : CXT} {k : Nat} {f C : Addr} {fd : FuncData} {ps : List Str} {sp : Sp} {dvs : List V}
  {ds : List Value} {E : XK} {x m : Str} {p pos apos : Pos} {e o : Expr} {es : List Expr} {ta : TE} {t : TA}

theorem runG {pins : List (Addr × Obj)} {σ : L2.St} {H : Hp} {s : Shared} {Q : VK} {us : List Value} {vs : List V}
    (F : FnG X.prog X.w X.K X.mg X.base CX k f fd ps sp) (hgd : X.A.guards = some []) (hr : Room k X.A)
    (hb : Binds X.K fd ps ds) (hd : Vals dvs ds) (hx : Passes CX X E) (I : Inv X pins σ H s) (r : Vals vs us)
    (h : sp (vs ++ dvs) H Q E) :
    wpAny (model X.prog X.w) X.A (call (.ref f) us) (EP X pins σ Q) X.xe s := by
  have r2 : Vals (vs ++ dvs) (us ++ ds) := r.append hd
  have hl : (us ++ ds).length = ps.length := r2.length.symm.trans (F.len _ _ _ _ h)
  apply wpAny_call
  refine codeAny_mono (F.run X.A X.stack s H ⟨us, []⟩ _ _ Q E hgd hr I.env0 (hb s us I.kIn hl) r2 h) ?_
  intro r s' hq
  match r, hq with
  | .error e, hq => exact hx pins σ H s e s' I hq
  | .ok (.ret u), hq => exact I.after hq
  | .ok .next, hq => exact hq.elim
  | .ok .brk, hq => exact hq.elim
  | .ok .cont, hq => exact hq.elim

theorem pe_callG (F : FnG X.prog X.w X.K X.mg X.base CX k f fd ps sp) (hgd : X.A.guards = some []) (hr : Room k X.A)
    (hg : Gl X x) (hm : X.mg x = some (.ref f)) (hk : PySem.W.keepIn X.K (.ref f) = true) (hb : Binds X.K fd ps ds)
    (hd : Vals dvs ds) (hx : Passes CX X E) (ha : PA X (e :: es) t)
    (hdb : (x == ("__debug__" : Str)) = false := by decide)
    (he : starEach (e :: es) X.env = (false, eval e X.env) :: starEach es X.env := by rfl)
    (hpl : (backTo pos (starEach es X.env)).any (·.1) = false := by rfl) :
    PE X (.Call (.Name x p) (e :: es) [] pos) (tCall sp dvs E t) where
  run pins s σ H Q I h := by
    apply wpAny_Call_Name_kw
    apply ld_glob I hg hm ?_ hdb
    refine PySem.W.callWith_K (h₀ := X.base) I.ok.mod.kin hk ?_ he hpl
    refine thn (ha.run pos pins s σ H _ I h) ?_
    intro us s1 ⟨vs, H1, I1, r, q⟩
    exact ⟨I1.kIn, runG F hgd hr hb hd hx I1 r q⟩
theorem pe_callG0 (F : FnG X.prog X.w X.K X.mg X.base CX k f fd ps sp) (hgd : X.A.guards = some []) (hr : Room k X.A)
    (hg : Gl X x) (hm : X.mg x = some (.ref f)) (hk : PySem.W.keepIn X.K (.ref f) = true) (hb : Binds X.K fd ps ds)
    (hd : Vals dvs ds) (hx : Passes CX X E) (hdb : (x == ("__debug__" : Str)) = false := by decide) :
    PE X (.Call (.Name x p) [] [] pos) (tCall sp dvs E tNil) where
  run pins s σ H Q I h := by
    apply wpAny_Call_Name_kw
    apply ld_glob I hg hm ?_ hdb
    exact PySem.W.callWith_K0 I.kIn hk (runG (us := []) F hgd hr hb hd hx I .nil h)

/-- repr of plain data -/
def rReprD (K : PySem.W.Frag) : List V → Hp → VK → Prop := fun xs H Q =>
  ∃ v d, xs = [v] ∧ Dp K H v d ∧ d.showable = true ∧ d.hasDict = false ∧ d.depth ≤ 64 ∧ d.shown.length ≤ sizeLine ∧
    Q (.str d.shown) H
theorem call_reprD (hgd : X.A.guards = some []) (hu : X.A.units + 66 < cLine) : CallR X (.builtin "repr") (rReprD X.K) := by
  intro pins s σ H xs us Q I r h
  obtain ⟨v, d, rfl, hD, hs, hn, hdp, hz, q⟩ := h
  obtain ⟨u, rfl, rv⟩ := vals1 r
  cases hD with
  | non =>
    obtain rfl : u = Value.none := rv
    exact PySem.P.repr_of_none ⟨.str _, H, I.tok _, ⟨_, rfl⟩, q⟩
  | bl b =>
    obtain rfl : u = Value.bool b := rv
    refine PySem.P.repr_of_bool ⟨.str _, H, I.tok _, ⟨_, rfl⟩, ?_⟩
    exact q
  | int i =>
    obtain ⟨t, rfl⟩ := rv
    refine PySem.P.repr_of_int ?_ ⟨.str _, H, I.tok _, ⟨_, rfl⟩, q⟩
    simpa [PyData.showable] using hs
  | str x =>
    obtain ⟨t, rfl⟩ := rv
    exact PySem.P.repr_of_str ⟨.str _, H, I.tok _, ⟨_, rfl⟩, q⟩ hz
  | lst hS hA =>
    rename_i a ys ds
    obtain ⟨as, rr⟩ := Dp.reads I _ _ _ (Dp.lst hS hA) rv
    obtain rfl : u = Value.ref a := rv
    refine repr_of_reads' rr hs (fun z => by rw [hn] at z; cases z) hgd (by omega) (fun b o e => e) ?_ hz
    intro h' u tk hk
    exact ⟨.str _, H, I.kept hk, ⟨_, rfl⟩, q⟩
  | tup hS hA =>
    rename_i a ys ds
    obtain ⟨as, rr⟩ := Dp.reads I _ _ _ (Dp.tup hS hA) rv
    obtain rfl : u = Value.ref a := rv
    refine repr_of_reads' rr hs (fun z => by rw [hn] at z; cases z) hgd (by omega) (fun b o e => e) ?_ hz
    intro h' u tk hk
    exact ⟨.str _, H, I.kept hk, ⟨_, rfl⟩, q⟩
end
end Gd
/-! Rules of texts and of backward slices. -/
namespace Gd
open PySem PySem.Spec PyProof.Rows L2

/-- the text backward -/
def revS (x : Str) : Str := ⟨x.cps.toList.reverse.toArray⟩
theorem revS_list (x : Str) : (revS x).cps.toList = x.cps.toList.reverse := by simp [revS]
theorem revS_length (x : Str) : (revS x).length = x.length := by
  show (revS x).cps.size = x.cps.size
  simp [revS]
theorem str_ext {x y : Str} (h : x.cps.toList = y.cps.toList) : x = y := by
  obtain ⟨⟨a⟩⟩ := x
  obtain ⟨⟨b⟩⟩ := y
  simp only at h
  rw [h]
theorem sliceBy_rev (x : Str) (u : Tok) : Txt.sliceBy x none none (-1, u) = revS x := by
  apply str_ext
  rw [step_rev_list, revS_list]
  apply List.ext_getElem
  · simp [Str.length]
  · intro i h1 h2
    have hi : i < x.cps.size := by simpa [Str.length] using h1
    simp only [List.getElem_map, List.getElem_range, List.getElem_reverse, Array.getElem_toList, Array.length_toList]
    have h3 : x.length - 1 - i < x.cps.size := by show x.cps.size - 1 - i < x.cps.size; omega
    rw [Array.getD, dif_pos h3]
    rfl

section
variable {X : Cx}
theorem mt_swapcase : MtR X "str.swapcase" (fun x xs H Q => ∃ a, x = .str a ∧ xs = [] ∧
    (Txt.swapcase a).length ≤ 16777216 ∧ Q (.str (Txt.swapcase a)) H) :=
  mt0 (C := fun a => (Txt.swapcase a).length ≤ 16777216) (g := fun a => .str (Txt.swapcase a)) fun a _ s _ hc h =>
    PySem.SC.swapcase (PyProof.Rows.short24 hc) (h _ (s.toks + 1) ⟨_, rfl⟩)

/-- s * n -/
def mulS (x : Str) (n : Int) : Str := ⟨(List.replicate n.toNat x.cps.toList).flatten.toArray⟩
theorem foldl_cps (l : List (Array Nat)) : ∀ acc : Array Nat, (l.foldl (· ++ ·) acc).toList = acc.toList ++ (l.map (·.toList)).flatten := by
  induction l with
  | nil => intro acc; simp
  | cons a l ih => intro acc; rw [List.foldl_cons, ih]; simp
theorem op_mul_str : OpR X (binaryOp .Mult) (fun x y H Q => ∃ (z : Str) (n : Int), x = .str z ∧ y = .int n ∧
    -(2 ^ 63) ≤ n ∧ z.length * n.toNat ≤ 16777216 ∧ n < 2 ^ 62 ∧ Q (.str (mulS z n)) H) := by
  intro pins s σ H x y v u Q I rx ry h
  obtain ⟨z, n, rfl, rfl, hlo, hz, hhi, q⟩ := h
  obtain ⟨t, rfl⟩ := rx
  obtain ⟨t2, rfl⟩ := ry
  have e1 : ∀ w : Str, w = mulS z n → ∀ k t', EP X pins σ Q (.str w t') { s with toks := k } := by
    intro w hw k t'
    subst hw
    exact ⟨.str _, H, I.tok _, ⟨_, rfl⟩, q⟩
  have hrep : (⟨(List.replicate n.toNat z.cps).foldl (· ++ ·) #[]⟩ : Str) = mulS z n := by
    apply str_ext
    show ((List.replicate n.toNat z.cps).foldl (· ++ ·) #[]).toList = _
    rw [foldl_cps]
    simp [mulS]
  refine PySem.P.mul_str (by
      have a : ¬ n < -(2 ^ 63 : Int) := by omega
      have b : ¬ n ≥ 2 ^ 63 := by omega
      rw [decide_eq_false a, decide_eq_false b]; rfl) (fun h1 _ => ?_) (fun _ _ => PyProof.Rows.short24 hz) ?_
  · intro hbig
    have hn : 0 < n := by omega
    have h2 : (2 ^ 63 - 1 : Int) / n * n ≥ (2 ^ 63 - 1) - (n - 1) := by
      have := Int.emod_add_mul_ediv (2 ^ 63 - 1) n
      have m := Int.emod_lt_of_pos (2 ^ 63 - 1) hn
      rw [Int.mul_comm] at this
      omega
    have h3 : ((z.length : Int)) * n ≤ 16777216 := by
      have h5 : ((z.length * n.toNat : Nat) : Int) ≤ ((16777216 : Nat) : Int) := Int.ofNat_le.mpr hz
      rw [Int.natCast_mul, Int.toNat_of_nonneg (by omega)] at h5
      exact h5
    have h4 : ((2 ^ 63 - 1 : Int) / n) * n ≤ (z.length : Int) * n := Int.mul_le_mul_of_nonneg_right (by omega) (by omega)
    omega
  · by_cases hn : n < 1
    · rw [if_pos hn]
      refine ⟨by decide, e1 _ ?_ _ _⟩
      have h0 : n.toNat = 0 := by omega
      apply str_ext
      simp [mulS, h0, Str.empty]
    · rw [if_neg hn]
      by_cases hw : (n == 1 || z.length == 0) = true
      · rw [if_pos hw]
        have hzz : z = mulS z n := by
          apply str_ext
          rw [Bool.or_eq_true] at hw
          rcases hw with hw | hw
          · have : n = 1 := by simpa using hw
            subst this
            simp [mulS]
          · have : z.cps.toList = [] := by
              have : z.cps.size = 0 := by simpa [Str.length] using hw
              exact List.eq_nil_of_length_eq_zero (by simpa using this)
            simp [mulS, this]
        show EP X pins σ Q (.str z t) s
        have := e1 z hzz s.toks t
        exact this
      · rw [if_neg hw, hrep]
        refine ⟨?_, e1 _ rfl _ _⟩
        show (mulS z n).cps.size ≤ sizeLine
        have : (mulS z n).cps.size = z.length * n.toNat := by
          simp [mulS, Str.length, Nat.mul_comm]
        rw [this, sizeLine_eq]
        exact hz

/-- a step slice by values -/
def SlS (X : Cx) (r : V → Option Int → Option Int → Option Int → Hp → VK → Prop) : Prop :=
  ∀ (pins : List (Addr × Obj)) (s : Shared) (σ : L2.St) (H : Hp) (x : V) (v vl vu vs : Value) (lo hi st : Option Int) (sl : Addr) (Q : VK),
    Inv X pins σ H s → RelV x v → s.heap.IsSliceOf sl vl vu vs → IsPart vl lo → IsPart vu hi → IsPart vs st → r x lo hi st H Q →
    ∃ T id, typeLookup (.type T) "__getitem__" = pure (some (.builtin id)) ∧ s.TypeIs v T ∧
      wpAny (model X.prog X.w) X.A (getItem v (.ref sl)) (EP X pins σ Q) X.xe s
def tSlS (r : V → Option Int → Option Int → Option Int → Hp → VK → Prop) (te : TE) (tl th ts : TO) : TE := fun σ H Q =>
  te σ H fun x H1 => tl σ H1 fun l H2 => th σ H2 fun u H3 => ts σ H3 fun st H4 => r x l u st H4 Q
theorem pe_sliceS {r : V → Option Int → Option Int → Option Int → Hp → VK → Prop} {e : Expr} {lo hi : Option Expr} {st : Expr} {te : TE} {tl th ts : TO} {p2 pos : Pos}
    (hr : SlS X r) (he : PE X e te) (hl : PO X lo tl) (hu : PO X hi th) (hs : PO X (some st) ts)
    (hsub : ∀ v w, subscripted (.Slice lo hi (some st) p2) false v w = operate [v, w] (getItem v w) := by intro _ _; with_unfolding_all rfl) :
    PE X (.Subscript e (.Slice lo hi (some st) p2) pos) (tSlS r te tl th ts) where
  run pins s σ H Q I h := by
    apply Subscript_
    refine thn (he.run pins s σ H _ I h) ?_
    intro v s1 ⟨x, H1, I1, r1, q1⟩
    apply wpAny_Slice
    refine thn (hl.run pins s1 σ H1 _ I1 q1) ?_
    intro vl s2 ⟨l, H2, I2, pl, q2⟩
    refine thn (hu.run pins s2 σ H2 _ I2 q2) ?_
    intro vu s3 ⟨u, H3, I3, pu, q3⟩
    refine thn (hs.run pins s3 σ H3 _ I3 q3) ?_
    intro vs s4 ⟨stp, H4, I4, ps, q4⟩
    have I5 : Inv X pins σ H4 { s4 with heap := s4.heap.push { cls := .type "slice", data := .fields #[vl, vu, vs] } } :=
      I4.kept (t' := s4.toks) (fun b ob q => Heap.get?_push_of_some _ q)
    obtain ⟨T, id, hT, ht, hg⟩ := hr pins _ σ H4 x v vl vu vs l u stp s4.heap.objs.size Q I5 r1 (Heap.IsSliceOf.new ..) pl pu ps q4
    exact tail_any (ops := [v, .ref s4.heap.objs.size]) ht hT hg (hsub _ _)

/-- x[::-1] of a text -/
def rBackS : V → Option Int → Option Int → Option Int → Hp → VK → Prop := fun x lo hi st H Q =>
  ∃ z, x = .str z ∧ lo = none ∧ hi = none ∧ st = some (-1) ∧ z.length ≤ sizeLine ∧ Q (.str (revS z)) H
theorem ss_backS : SlS X rBackS := by
  intro pins s σ H x v vl vu vs lo hi st sl Q I rx hs pl pu ps h
  obtain ⟨z, rfl, rfl, rfl, rfl, hz, q⟩ := h
  obtain ⟨t, rfl⟩ := rx
  cases pl
  cases pu
  cases ps with
  | int i tk =>
  refine ⟨"str", _, F.slot_str_getitem.lookup, typeIs_str _ _ _, ?_⟩
  obtain ⟨os, hos, hcs, hds⟩ := hs
  refine wpAny_getItem_str_slice (l := none) (u := none) (st := some (-1, tk)) ⟨os, hos, hcs, hds⟩ (by rfl) ?_
  have e := sliceBy_rev z tk
  have hl : (revS z).length ≤ sizeLine := by rw [revS_length]; exact hz
  refine post_val_or_str ⟨?_, fun t' c => ?_⟩
  · show (Txt.sliceBy z none none (-1, tk)).length ≤ sizeLine
    rw [e]; exact hl
  · show EP X pins σ Q (.str (Txt.sliceBy z none none (-1, tk)) t') { s with toks := c }
    rw [e]
    exact ⟨.str _, H, I.tok _, ⟨_, rfl⟩, q⟩
end
end Gd
/-! enumerate of a tuple, a tuple backward. -/
namespace Gd
open PySem PySem.Spec PyProof.Rows L2 Builtin

theorem newEnum1 {v : Value} {o : Obj} {H : Heap → Prop} (B : Begins v o H) :
    Meets (Builtin.«enumerate.__new__» ⟨[.type "enumerate", v], []⟩) (fun _ R s => H s.heap ∧
      R (.ok (.ret (.ref (s.heap.push o).objs.size)))
        { s with heap := (s.heap.push o).push { cls := .type "enumerate", data := .fields #[.none, .bool false, .ref s.heap.objs.size, rawInt 0, .none, .none] } }) := by
  apply Meets.of_wp
  intro prog w A R s hs
  obtain ⟨hp, g, d, tk, os⟩ := s
  obtain ⟨h1, h⟩ := hs
  have hsub := sub_enumerate
  have q1 : ∀ {A' : Around} {E : Value → Shared → Prop} {Q : Value → Shared → Prop},
      Q (.ref hp.objs.size) ⟨hp.push o, g, d, tk, os⟩ → wpAny (model prog w) A' (pyIter v) Q E ⟨hp, g, d, tk, os⟩ := by
    intro A' E Q q
    exact B.iter prog w _ _ ⟨hp, g, d, tk, os⟩ _ h1 q
  wp_walk using q1
  refine wpAny_stack_any (fun st => wpAny_pure ?_)
  split
  · rename_i c _ _ _ _ _
    cases (c == Value.type "enumerate")
    · wp_walk using q1
      exact ⟨_, rfl, h⟩
    · wp_walk using q1
      exact ⟨_, rfl, h⟩
  · wp_walk using q1
    exact ⟨_, rfl, h⟩

/-- the tuple at a as it stands, each item in a new pair -/
def IteT (K : PySem.W.Frag) (a : Addr) : It where
  go i H := ∃ (xs : List V) (x : V), SqT K H a xs ∧ xs[i]? = some x
  yld i H v H' := ∃ T x, v = .ref T ∧ H T = none ∧ H' = upd H T (.tup [.int (i : Nat), x]) ∧ ∀ xs, SqT K H a xs → xs[i]? = some x
  stop i H := ∃ xs : List V, SqT K H a xs ∧ xs.length = i

theorem tup_is {h : Heap} {a : Addr} {its : Array Value} (p : IsTup h a its) : h.IsTuple a its := by
  obtain ⟨o, h1, h2, n, h3⟩ := p
  exact ⟨o, h1, h2, n, h3⟩
theorem turn_enumT {P : Program} {w : World} {K : PySem.W.Frag} {elts : List Expr} {kk : Nat} {tpos : Pos} (a e it : Addr) :
    Turn P w K (.Tuple elts kk tpos) (IteT K a) [e, it] e
      (fun i h => (∃ old, IsEnum h e it ((i : Nat) : Int) old) ∧ h.IsTupleIter it a i ∧ e ≠ it) where
  mem := by simp
  obj i h st b hb := by
    obtain ⟨⟨old, he⟩, ⟨o, ho, hc, hd⟩, _⟩ := st
    have hb' : b = e ∨ b = it := by simpa using hb
    rcases hb' with rfl | rfl
    · exact ⟨_, he, fun v q => nomatch q⟩
    · exact ⟨o, ho, fun v q => by rw [hd] at q; cases q⟩
  keep i h h' st k := by
    obtain ⟨⟨old, he⟩, hi, hne⟩ := st
    exact ⟨⟨old, k e (by simp) _ he⟩, hi.at fun o q => k it (by simp) o q, hne⟩
  item := by
    intro X hP hw hK hc i pins s σ H E I hf st hg
    subst hP hw hK
    obtain ⟨⟨old, he⟩, hit, hne⟩ := st
    obtain ⟨xs, x, hq, hx⟩ := hg
    obtain ⟨its, rv, p, hz⟩ := I.tuple hq
    obtain ⟨u, hu, ru⟩ := rv.get hx
    have ht := tup_is p
    have hel : e < s.heap.objs.size := Heap.lt_size he
    have hil : it < s.heap.objs.size := by obtain ⟨_, q, _⟩ := hit; exact Heap.lt_size q
    have hai : a ≠ it := by
      intro z
      obtain ⟨o1, g1, c1, _⟩ := ht
      obtain ⟨o2, g2, c2, _⟩ := hit
      rw [z, g2] at g1
      cases g1
      rw [c2] at c1
      exact absurd c1 (by decide)
    have hae : a ≠ e := by
      intro z
      obtain ⟨o1, g1, c1, _⟩ := ht
      have g2 : s.heap.get? e = some _ := he
      rw [z, g2] at g1
      cases g1
      have c3 : Value.type "enumerate" = Value.type "tuple" := c1
      exact absurd c3 (by decide)
    have hlt : i < its.toArray.size := by
      have := (List.getElem?_eq_some_iff.mp hu).1
      simpa using this
    refine wpAny_pyNext_enum_itemC (Draws.tuple (A := X.A.in1) (I.ok.hd hc) it a hai its.toArray) he ⟨hit, ht⟩ hlt hne (by simp [hne, hae.symm]) ?_
    intro x' h' tk hP ho hs' hT hsz hk
    have hxu : x' = u := by
      have h9 : its[i]? = some x' := by simpa using hP
      rw [hu] at h9
      exact (Option.some.inj h9).symm
    subst hxu
    refine ⟨_, rfl, wpAny_letOwnedTupleGo_enum (s := { s with heap := h', toks := tk + 1 }) ho ?_⟩
    intro h'' he' sb
    have hT2 : h''.get? s.heap.objs.size = some { cls := .type "tuple", data := .seq #[.int i tk, x'] } := (sb.2 _ (Nat.ne_of_gt hel)).trans hT
    have new : ObjOk X.prog X.w (upd H s.heap.objs.size (.tup [.int (i : Nat), x])) h'' s.heap.objs.size (.tup [.int (i : Nat), x]) :=
      ⟨by show 2 ≤ sizeLine; decide, [.int i tk, x'], .cons ⟨_, rfl⟩ (.cons ru .nil), ⟨_, hT2, rfl, _, rfl⟩⟩
    have I1 : Inv X pins σ (upd H s.heap.objs.size (.tup [.int (i : Nat), x])) { s with heap := h'', toks := tk + 1 } := by
      refine I.turnedNew (ch := [e, it]) (fun b o hb q => ?_) hf (Nat.le_refl _) new
      have b1 : b ≠ e := fun z => hb (by simp [z])
      have b2 : b ≠ it := fun z => hb (by simp [z])
      exact (sb.2 b b1).trans (hk b o b1 b2 q)
    refine ⟨.ref s.heap.objs.size, _, I1, rfl, ⟨_, x, rfl, I.hok.fresh (Nat.le_refl _), rfl, fun ys hy => by rw [I.tuple_inj hy hq]; exact hx⟩,
      ⟨⟨x', ?_⟩, ?_, hne⟩, fun b hb => ?_⟩
    · have e1 : ((i + 1 : Nat) : Int) = (i : Int) + 1 := by omega
      rw [e1]
      exact he'
    · exact Heap.IsTupleIter.at hs'.1 fun o q => (sb.2 it (Ne.symm hne)).trans q
    · have hb' : b < s.heap.objs.size := by
        have e' : b = e ∨ b = it := by simpa using hb
        rcases e' with z | z
        · rw [z]; exact hel
        · rw [z]; exact hil
      rw [upd_ne (Nat.ne_of_lt hb')]
      exact (hf b hb).1
  done := by
    intro X hP hw hK hc i pins s σ H E I hf st hg
    subst hP hw hK
    obtain ⟨⟨old, he⟩, hit, hne⟩ := st
    obtain ⟨xs, hq, hx⟩ := hg
    obtain ⟨its, rv, p, hz⟩ := I.tuple hq
    have hl := rv.length
    have ht := tup_is p
    obtain ⟨f0, f1, f2, f3, f4, f5⟩ := hf it (by simp)
    have hlen : i = its.toArray.size := by simp; omega
    have hai : a ≠ it := by
      intro z
      obtain ⟨o1, g1, c1, _⟩ := ht
      obtain ⟨o2, g2, c2, _⟩ := hit
      rw [z, g2] at g1
      cases g1
      rw [c2] at c1
      exact absurd c1 (by decide)
    subst hlen
    refine wpAny_pyNext_enum_endD (Draws.tuple (A := X.A.in1) (I.ok.hd hc) it a hai its.toArray) he ⟨hit, ht⟩ ?_
    intro h' eb
    exact ⟨rfl, I.turned (t' := s.toks) (fun b o hb q => eb b o hb q) f0 f1 f3 f4 f5⟩
  self := by
    intro A i s Q E st h
    obtain ⟨⟨_, he⟩, _⟩ := st
    exact wpAny_pyIter_enum he h

def iEnumT (K : PySem.W.Frag) (ta : TA) : TI := fun σ H R => ta σ H fun vs H1 => ∃ a xs, vs = [.ref a] ∧ SqT K H1 a xs ∧ R (IteT K a) H1
theorem pi_enumT {X : Cx} {e : Expr} {ta : TA} {p pos tpos : Pos} {elts : List Expr} {kk : Nat} (hg : Gl X "enumerate")
    (hm : X.mg "enumerate" = none) (ha : PA X [e] ta) (hs : starEach [e] X.env = [(false, eval e X.env)] := by rfl) :
    PI X (.Tuple elts kk tpos) (.Call (.Name "enumerate" p) [e] [] pos) (iEnumT X.K ta) where
  run pins s σ H R I h := by
    refine Call_ (ld_blt I hg hm boot_enumerate (PyProof.Rows.callWith_type1 (thn (ha.run pos pins s σ H _ I h) ?_) hs rfl))
    intro us s1 ⟨vs, H1, I1, r1, q1⟩
    obtain ⟨a, xs, ex, hq, q⟩ := q1
    subst ex
    cases r1 with
    | cons r rr =>
      cases rr
      cases r
      obtain ⟨its, rv, p', hz⟩ := I1.tuple hq
      have ht := tup_is p'
      refine callType_new F.called_enumerate (by decide) (F.typeCall_enumerate_1 _) (F.newCall_enumerate_1 _) (fun obj => F.args_object_init_2 obj _)
        F.entry_enumerate_new (newEnum1 (begins_tuple a its.toArray)) ⟨ht, ?_⟩
      have hz1 : (s1.heap.push { cls := .type "tuple_iterator", data := .fields #[.ref a, .int 0 0] }).objs.size = s1.heap.objs.size + 1 := Heap.size_push ..
      show _ ∧ _
      rw [hz1]
      have he := Heap.get?_push_size (s1.heap.push { cls := .type "tuple_iterator", data := .fields #[.ref a, .int 0 0] })
        (o := { cls := .type "enumerate", data := .fields #[.none, .bool false, .ref s1.heap.objs.size, rawInt 0, .none, .none] }) rfl
      rw [hz1] at he
      refine ⟨⟨_, he, rfl⟩, ?_⟩
      have hit : ((s1.heap.push { cls := .type "tuple_iterator", data := .fields #[.ref a, .int 0 0] }).push
          { cls := .type "enumerate", data := .fields #[.none, .bool false, .ref s1.heap.objs.size, rawInt 0, .none, .none] }).IsTupleIter s1.heap.objs.size a 0 :=
        ⟨_, Heap.get?_push_of_some _ (Heap.get?_push_size _ rfl), rfl, rfl⟩
      refine wpAny_pyIter_enum he ?_
      have I2 := I1.kept (t' := s1.toks) (h' := (s1.heap.push { cls := .type "tuple_iterator", data := .fields #[.ref a, .int 0 0] }).push
          { cls := .type "enumerate", data := .fields #[.none, .bool false, .ref s1.heap.objs.size, rawInt 0, .none, .none] })
        (fun b o x => Heap.get?_push_of_some _ (Heap.get?_push_of_some _ x))
      refine ⟨s1.heap.objs.size + 1, [s1.heap.objs.size + 1, s1.heap.objs.size], _, _, H1, rfl, I2,
        turn_enumT a (s1.heap.objs.size + 1) s1.heap.objs.size, ⟨⟨.none, he⟩, hit, Nat.succ_ne_self _⟩, fun b hb => ?_, q⟩
      have hle : s1.heap.objs.size ≤ b := by
        have e' : b = s1.heap.objs.size + 1 ∨ b = s1.heap.objs.size := by simpa using hb
        rcases e' with z | z
        · rw [z]; exact Nat.le_succ _
        · rw [z]; exact Nat.le_refl _
      exact I1.fpOk hle (I1.hok.fresh hle)

/-- the walk of enumerate(t), t a tuple: Pv i σ H ahead of turn i -/
theorem for_enumT {K : PySem.W.Frag} {a : Addr} {xs : List V} {g : TG} {tb : TS} {D : Ends} {σ : L2.St} {H : Hp} (Pv : Nat → L2.St → Hp → Prop)
    (h0 : Pv 0 σ H) (hl : ∀ i σ H, i ≤ xs.length → Pv i σ H → SqT K H a xs)
    (hs : ∀ i x σ H T, xs[i]? = some x → Pv i σ H → H T = none →
      g (.ref T) σ (upd H T (.tup [.int (i : Nat), x])) fun σ2 H2 => tb { D with nx := Pv (i + 1), ct := Pv (i + 1), bk := D.nx } σ2 H2)
    (hd : ∀ σ H, Pv xs.length σ H → D.nx σ H) :
    ∃ W : Nat → Nat → L2.St → Hp → Prop, (∃ m, W 0 m σ H) ∧ ∀ i m σ H, W i m σ H →
      ((IteT K a).stop i H ∧ D.nx σ H) ∨ ((IteT K a).go i H ∧ ∃ N : L2.St → Hp → Prop, (∀ σ' H', N σ' H' → ∃ m', m' < m ∧ W (i + 1) m' σ' H') ∧
        ∀ x H', (IteT K a).yld i H x H' → g x σ H' fun σ2 H2 => tb { D with nx := N, ct := N, bk := D.nx } σ2 H2) := by
  refine ⟨fun i m σ H => m = xs.length - i ∧ i ≤ xs.length ∧ Pv i σ H, ⟨xs.length, by simp, Nat.zero_le _, h0⟩, ?_⟩
  intro i m σ H ⟨e, hi, p⟩
  subst e
  have q := hl i σ H hi p
  by_cases hlt : i < xs.length
  · refine Or.inr ⟨⟨xs, xs[i], q, by simp [hlt]⟩, Pv (i + 1), fun σ' H' p' => ⟨xs.length - (i + 1), by omega, rfl, hlt, p'⟩, ?_⟩
    intro x H' ⟨T, y, e1, e2, e3, e4⟩
    subst e1 e3
    exact hs i y σ H T (e4 xs q) p e2
  · have e : i = xs.length := by omega
    subst e
    exact Or.inl ⟨⟨xs, q, rfl⟩, hd σ H p⟩
/-- the walk of enumerate(l), l a list -/
theorem for_enumL {K : PySem.W.Frag} {a : Addr} {xs : List V} {g : TG} {tb : TS} {D : Ends} {σ : L2.St} {H : Hp} (Pv : Nat → L2.St → Hp → Prop)
    (h0 : Pv 0 σ H) (hl : ∀ i σ H, i ≤ xs.length → Pv i σ H → SqL K H a xs)
    (hs : ∀ i x σ H T, xs[i]? = some x → Pv i σ H → H T = none →
      g (.ref T) σ (upd H T (.tup [.int (i : Nat), x])) fun σ2 H2 => tb { D with nx := Pv (i + 1), ct := Pv (i + 1), bk := D.nx } σ2 H2)
    (hd : ∀ σ H, Pv xs.length σ H → D.nx σ H) :
    ∃ W : Nat → Nat → L2.St → Hp → Prop, (∃ m, W 0 m σ H) ∧ ∀ i m σ H, W i m σ H →
      ((Ite K a).stop i H ∧ D.nx σ H) ∨ ((Ite K a).go i H ∧ ∃ N : L2.St → Hp → Prop, (∀ σ' H', N σ' H' → ∃ m', m' < m ∧ W (i + 1) m' σ' H') ∧
        ∀ x H', (Ite K a).yld i H x H' → g x σ H' fun σ2 H2 => tb { D with nx := N, ct := N, bk := D.nx } σ2 H2) := by
  refine ⟨fun i m σ H => m = xs.length - i ∧ i ≤ xs.length ∧ Pv i σ H, ⟨xs.length, by simp, Nat.zero_le _, h0⟩, ?_⟩
  intro i m σ H ⟨e, hi, p⟩
  subst e
  have q := hl i σ H hi p
  by_cases hlt : i < xs.length
  · refine Or.inr ⟨⟨xs, xs[i], q, by simp [hlt]⟩, Pv (i + 1), fun σ' H' p' => ⟨xs.length - (i + 1), by omega, rfl, hlt, p'⟩, ?_⟩
    intro x H' ⟨T, y, e1, e2, e3, e4⟩
    subst e1 e3
    exact hs i y σ H T (e4 xs q) p e2
  · have e : i = xs.length := by omega
    subst e
    exact Or.inl ⟨⟨xs, q, Nat.le_refl _⟩, hd σ H p⟩
end Gd
/-! Slices with a step: tuples and lists. -/
namespace Gd
open PySem PySem.Spec PyProof.Rows L2 Builtin

/-- the places that a tuple's slice with a step takes -/
def stepIx (n : Nat) (lo hi : Option Int) (c : Int) : List Nat :=
  (List.range (Slice.slicePlaces (Slice.sliceAdjust lo hi c n).1 (Slice.sliceAdjust lo hi c n).2 c)).map fun (k : Nat) =>
    ((Slice.sliceAdjust lo hi c n).1 + (k : Int) * c).toNat
section
variable {prog : Program} {w : World} {A : Around} {E : Value → Shared → Prop} {s : Shared}
theorem tup_step {t sl : Addr} {items : Array Value} {vl vu vs : Value} {lo hi : Option Int} {c : Int} {Q : Value → Shared → Prop}
    (ht : IsTup s.heap t items) (hs : s.heap.IsSliceOf sl vl vu vs) (pl : IsPart vl lo) (pu : IsPart vu hi) (ps : IsPart vs (some c))
    (h0 : c ≠ 0) (h1 : c ≠ 1) (hz : ((stepIx items.size lo hi c).filterMap (items[·]?)).length ≤ sizeLine)
    (h : Q (.ref s.heap.objs.size) { s with heap := s.heap.push { cls := .type "tuple", data := .seq ((stepIx items.size lo hi c).filterMap (items[·]?)).toArray } }) :
    wpAny (model prog w) A (getItem (.ref t) (.ref sl)) Q E s := by
  obtain ⟨os, hos, hcs, hds⟩ := id hs
  have hTs : s.TypeIs (.ref sl) "slice" := ⟨os, hos, hcs⟩
  unfold getItem
  try with_reducible refine wpAny_holding ?_
  first | refine wpAny_bind (wpAny_pure ?_) | skip
  refine wpAny_bind (wpAny_sequenceKey ht.typeIs (by decide) ?_)
  refine wpAny_bind (wpAny_callSpecial?_slot (name := Str.ofString "__getitem__") ht.typeIs PyProof.Rows.slot_tuple_getitem
    (wpAny_call_entry PyProof.Rows.slot_tuple_getitem ht.typeIs entry_tuple_getitem ?_ (args_tuple_getitem _ _)))
  show wpAny _ _ (Builtin.Tuple.tupleItemsOf (.ref t) >>= _) _ _ s
  apply wpAny_bind
  apply tupleItemsOf_ ht
  refine wpAny_bind (wpAny_typeOf hTs ?_)
  rw [if_pos (by decide)]
  have app : ∀ {A' : Around} {E' : Value → Shared → Prop} {Q' : Int × Int × Nat → Shared → Prop}, Q' ((Slice.sliceAdjust lo hi c items.size).1, c, Slice.slicePlaces (Slice.sliceAdjust lo hi c items.size).1 (Slice.sliceAdjust lo hi c items.size).2 c) s →
      wpAny (model prog w) A' (Slice.sliceApplied (.ref sl) (pure (items.size : Int))) Q' E' s := by
    intro A' E' Q' q
    unfold Slice.sliceApplied Slice.sliceFields
    refine wpAny_bind (wpAny_bind (wpAny_field hos hds (x := vl) rfl (wpAny_bind (wpAny_field hos hds (x := vu) rfl (wpAny_bind (wpAny_field hos hds (x := vs) rfl (wpAny_pure ?_)))))))
    refine wpAny_bind (HT.slicePart_ ps ?_)
    show wpAny _ _ (if (c == 0) = true then _ else _) _ _ s
    rw [if_neg (by simpa using h0)]
    exact wpAny_bind (HT.slicePart_ pl (wpAny_bind (HT.slicePart_ pu (wpAny_bind (wpAny_pure (wpAny_pure q))))))
  refine wpAny_bind (app ?_)
  have hno : ¬ (((Slice.sliceAdjust lo hi c items.size).1 == 0 && c == 1 && Slice.slicePlaces (Slice.sliceAdjust lo hi c items.size).1 (Slice.sliceAdjust lo hi c items.size).2 c == items.size) = true) := by
    intro q
    rw [Bool.and_eq_true, Bool.and_eq_true] at q
    exact h1 (eq_of_beq q.1.2)
  show wpAny _ _ (if ((Slice.sliceAdjust lo hi c items.size).1 == 0 && c == 1 && Slice.slicePlaces (Slice.sliceAdjust lo hi c items.size).1 (Slice.sliceAdjust lo hi c items.size).2 c == items.size) = true then _ else _) _ _ s
  rw [if_neg hno]
  have ei : ((List.range (Slice.slicePlaces (Slice.sliceAdjust lo hi c items.size).1 (Slice.sliceAdjust lo hi c items.size).2 c)).filterMap fun (k : Nat) => items[((Slice.sliceAdjust lo hi c items.size).1 + (k : Int) * c).toNat]?) =
      (stepIx items.size lo hi c).filterMap (items[·]?) := by
    unfold stepIx
    rw [List.filterMap_map]
    rfl
  rw [ei]
  have hsz : sizeOk (.seq ((stepIx items.size lo hi c).filterMap (items[·]?)).toArray) := by
    show ((stepIx items.size lo hi c).filterMap (items[·]?)).toArray.size ≤ sizeLine
    rw [List.size_toArray]
    exact hz
  exact wpAny_bind (m := Builtin.Tuple.tupleExact _) (wpAny_newObj_type (wpAny_pure ⟨_, rfl, wpAny_pure h⟩) hsz)
end

theorem step_back (n : Nat) : stepIx n none none (-1) = (List.range n).map fun k => n - 1 - k := by
  have e1 : Slice.sliceAdjust none none (-1) (n : Int) = ((n : Int) - 1, -1) := rfl
  have e2 : Slice.slicePlaces ((n : Int) - 1) (-1) (-1) = n := by
    unfold Slice.slicePlaces
    rw [if_neg (by decide)]
    by_cases h : (n : Int) - 1 > -1
    · rw [if_pos h]
      have : ((n : Int) - 1 - -1 - 1) / (- -1) = (n : Int) - 1 := by
        rw [show (- -1 : Int) = 1 by decide, Int.ediv_one]; omega
      rw [this]; omega
    · rw [if_neg h]; omega
  unfold stepIx
  rw [e1]
  simp only []
  rw [e2]
  apply List.map_congr_left
  intro k hk
  have := List.mem_range.mp hk
  omega
theorem fm_some {α β : Type} {f : α → Option β} {g : α → β} : ∀ {l : List α}, (∀ x ∈ l, f x = some (g x)) → l.filterMap f = l.map g
  | [], _ => rfl
  | a :: l, h => by
    rw [List.filterMap_cons, h a (by simp), List.map_cons, fm_some fun x hx => h x (by simp [hx])]
theorem pick_back {α : Type} (xs : List α) : ((List.range xs.length).map fun k => xs.length - 1 - k).filterMap (xs[·]?) = xs.reverse := by
  cases hx : xs with
  | nil => rfl
  | cons x0 r =>
    rw [← hx, List.filterMap_map]
    have e : (List.range xs.length).filterMap ((fun x => xs[x]?) ∘ fun k => xs.length - 1 - k) = (List.range xs.length).map fun k => xs[xs.length - 1 - k]?.getD x0 := by
      apply fm_some
      intro k hk
      have hk' := List.mem_range.mp hk
      simp [show xs.length - 1 - k < xs.length by omega]
    rw [e]
    apply List.ext_getElem
    · simp
    · intro i h1 h2
      have hi : i < xs.length := by simpa using h1
      simp [show xs.length - 1 - i < xs.length by omega]
section
variable {X : Cx}
/-- t[::-1] of a tuple -/
def rBackT (K : PySem.W.Frag) : V → Option Int → Option Int → Option Int → Hp → VK → Prop := fun x lo hi st H Q =>
  ∃ a xs, x = .ref a ∧ SqT K H a xs ∧ lo = none ∧ hi = none ∧ st = some (-1) ∧ ∀ p, H p = none → Q (.ref p) (upd H p (.tup xs.reverse))
theorem ss_backT : SlS X (rBackT X.K) := by
  intro pins s σ H x v vl vu vs lo hi st sl Q I rx hs pl pu ps h
  obtain ⟨a, xs, rfl, hx, rfl, rfl, rfl, q⟩ := h
  cases rx
  obtain ⟨its, r, ht, hz⟩ := I.tuple hx
  have hl := r.length
  have e : (stepIx its.toArray.size none none (-1)).filterMap (its.toArray[·]?) = its.reverse := by
    rw [step_back, List.size_toArray]
    have := pick_back its
    simpa using this
  refine ⟨"tuple", _, PyProof.Rows.slot_tuple_getitem.lookup, ht.typeIs, ?_⟩
  refine tup_step ht hs pl pu ps (by decide) (by decide) (by rw [e, List.length_reverse]; omega) ?_
  rw [e]
  refine ⟨.ref s.heap.objs.size, _, I.laid (t' := s.toks) (o := .tup xs.reverse) (fun b ob q => Heap.get?_push_of_some _ q) (Nat.le_refl _) ?_, rfl, q _ (I.hok.fresh (Nat.le_refl _))⟩
  exact ⟨by rw [List.length_reverse]; exact hz, _, r.reverse, IsTup.new _ _⟩
/-- l[::-1] of a list -/
def rBackL (K : PySem.W.Frag) : V → Option Int → Option Int → Option Int → Hp → VK → Prop := fun x lo hi st H Q =>
  ∃ a xs, x = .ref a ∧ SqL K H a xs ∧ lo = none ∧ hi = none ∧ st = some (-1) ∧ ∀ p, H p = none → Q (.ref p) (upd H p (.lst xs.reverse))
theorem ss_backL : SlS X (rBackL X.K) := by
  intro pins s σ H x v vl vu vs lo hi st sl Q I rx hs pl pu ps h
  obtain ⟨a, xs, rfl, hx, rfl, rfl, rfl, q⟩ := h
  cases rx
  obtain ⟨its, r, ht, hz⟩ := I.list hx
  have hl := r.length
  refine ⟨"list", _, PySem.slot_list_getitem.lookup, ht.isList.typeIs, ?_⟩
  refine wpAny_getItem_list_slice ht.isList hs pl pu ps (by decide) ?_ (by rw [List.size_toArray]; omega)
  rw [PySem.W.krv_pick]
  refine ⟨.ref _, _, I.laid (t' := s.toks) (o := .lst xs.reverse) (fun b ob q => Heap.get?_push_of_some _ q) (Nat.le_refl _) ?_, rfl, q _ (I.hok.fresh (Nat.le_refl _))⟩
  exact ⟨by rw [List.length_reverse]; exact hz, _, 0, r.reverse, Heap.get?_push_size _ rfl⟩
end
end Gd
/-! Words for whole laws: a def's place, growing heaps, the box of draws. -/
namespace Gd
open PySem PySem.Spec PyProof.Rows L2

/-- where a def stands and how its arguments bind -/
structure Df (K : PySem.W.Frag) (mg : Str → Option Value) (x : Str) (f : Addr) (fd : FuncData) (ps : List Str) : Prop where
  g : mg x = some (.ref f)
  k : PySem.W.keepIn K (.ref f) = true
  b : Binds K fd ps []

theorem pe_const {X : Cx} {x : Str} {pos : Pos} {i : Int} (hg : Gl X x) (h : ∃ t, X.mg x = some (.int i t))
    (hd : (x == ("__debug__" : Str)) = false := by decide) : PE X (.Name x pos) (tC (.int i)) := by
  obtain ⟨t, h⟩ := h
  exact pe_glob hg h ⟨_, rfl⟩ hd
theorem pe_constS {X : Cx} {x : Str} {pos : Pos} {i : Str} (hg : Gl X x) (h : ∃ t, X.mg x = some (.str i t))
    (hd : (x == ("__debug__" : Str)) = false := by decide) : PE X (.Name x pos) (tC (.str i)) := by
  obtain ⟨t, h⟩ := h
  exact pe_glob hg h ⟨_, rfl⟩ hd

/-! ### heaps that grow -/
def Ex (H H' : Hp) : Prop := ∀ a o, H a = some o → H' a = some o
theorem Ex.rfl' (H : Hp) : Ex H H := fun _ _ h => h
theorem Ex.tr {H H1 H2 : Hp} (a : Ex H H1) (b : Ex H1 H2) : Ex H H2 := fun x o h => b x o (a x o h)
theorem Ex.new {H : Hp} {p : Addr} {o : HO} (h : H p = none) : Ex H (upd H p o) := fun a u e => by
  rw [upd_ne (ne_of_none e h)]; exact e
/-- a place that G does not know may change -/
theorem Ex.mut {G H : Hp} {p : Addr} {o : HO} (e : Ex G H) (h : G p = none) : Ex G (upd H p o) := fun a u ha => by
  rw [upd_ne (ne_of_none ha h)]; exact e a u ha
theorem Ex.both {G H : Hp} {p : Addr} {o : HO} (e : Ex G H) : Ex (upd G p o) (upd H p o) := fun a u ha => by
  by_cases hp : a = p
  · subst hp
    rw [upd_same] at ha ⊢
    exact ha
  · rw [upd_ne hp] at ha ⊢
    exact e a u ha
theorem Ex.free {G H : Hp} {p : Addr} (e : Ex G H) (h : H p = none) : G p = none := by
  cases q : G p with
  | none => rfl
  | some o => rw [e p o q] at h; cases h
theorem Ex.l {K : PySem.W.Frag} {H H' : Hp} {a : Addr} {xs : List V} (e : Ex H H') (h : SqL K H a xs) : SqL K H' a xs := by
  rcases h with (h | ⟨o, h⟩) | h
  · exact .inl (.inl (e _ _ h))
  · exact .inl (.inr ⟨o, e _ _ h⟩)
  · exact .inr h
theorem Ex.t {K : PySem.W.Frag} {H H' : Hp} {a : Addr} {xs : List V} (e : Ex H H') (h : SqT K H a xs) : SqT K H' a xs := by
  rcases h with (h | ⟨o, h⟩) | h
  · exact .inl (.inl (e _ _ h))
  · exact .inl (.inr ⟨o, e _ _ h⟩)
  · exact .inr h
/-- all but what stands at a is kept -/
def Kp (a : Addr) (H H' : Hp) : Prop := ∀ b o, b ≠ a → H b = some o → H' b = some o
theorem Kp.rfl' (a : Addr) (H : Hp) : Kp a H H := fun _ _ _ h => h
theorem Kp.tr {a : Addr} {H H1 H2 : Hp} (x : Kp a H H1) (y : Kp a H1 H2) : Kp a H H2 := fun b o n h => y b o n (x b o n h)
theorem Kp.at {a : Addr} {H : Hp} {o : HO} : Kp a H (upd H a o) := fun b u n h => by rw [upd_ne n]; exact h
theorem Kp.of {a : Addr} {H H' : Hp} (e : Ex H H') : Kp a H H' := fun b o _ h => e b o h
theorem Kp.mut {a p : Addr} {H H1 : Hp} {o : HO} (e : Kp a H H1) (h : H p = none) : Kp a H (upd H1 p o) := fun b u n hb => by
  rw [upd_ne (ne_of_none hb h)]; exact e b u n hb
theorem Ex.kp {a : Addr} {G H H' : Hp} (e : Ex G H) (g : G a = none) (k : Kp a H H') : Ex G H' := fun b o h =>
  k b o (ne_of_none h g) (e b o h)
theorem Kp.free {a p : Addr} {H H' : Hp} (k : Kp a H H') (n : p ≠ a) (h : H' p = none) : H p = none := by
  cases q : H p with
  | none => rfl
  | some o => rw [k p o n q] at h; cases h

/-! ### the box of draws: three ints -/
def BoxAt (H : Hp) (a : Addr) (c : Nat) : Prop := ∃ x y z : Int, H a = some (.lst [.int x, .int y, .int z]) ∧
  0 ≤ y ∧ y < 2147483629 ∧ 0 ≤ z ∧ z ≤ c
theorem BoxAt.up {H : Hp} {a : Addr} {c d : Nat} (b : BoxAt H a c) (h : c ≤ d) : BoxAt H a d := by
  obtain ⟨x, y, z, e, h1, h2, h3, h4⟩ := b
  exact ⟨x, y, z, e, h1, h2, h3, by omega⟩
theorem BoxAt.some {H : Hp} {a : Addr} {c : Nat} (b : BoxAt H a c) : H a ≠ none := by
  obtain ⟨x, y, z, e, _⟩ := b
  rw [e]; simp
theorem BoxAt.ne {H : Hp} {a p : Addr} {c : Nat} (b : BoxAt H a c) (h : H p = none) : p ≠ a := by
  intro e; subst e; exact b.some h
theorem BoxAt.ne' {H : Hp} {a p : Addr} {c : Nat} (b : BoxAt H a c) (h : H p = none) : a ≠ p := (b.ne h).symm
theorem BoxAt.ex {H H' : Hp} {a : Addr} {c : Nat} (b : BoxAt H a c) (e : Ex H H') : BoxAt H' a c := by
  obtain ⟨x, y, z, h, r⟩ := b
  exact ⟨x, y, z, e _ _ h, r⟩
theorem BoxAt.upd {H : Hp} {a p : Addr} {c : Nat} {o : HO} (b : BoxAt H a c) (h : a ≠ p) : BoxAt (upd H p o) a c := by
  obtain ⟨x, y, z, e, r⟩ := b
  exact ⟨x, y, z, by rw [upd_ne h]; exact e, r⟩

theorem natAbs_small {m k : Int} (h0 : 0 ≤ m) (h1 : m < 2147483647) (h2 : 0 ≤ k) (h3 : k < 1000000000000000000) : (m + k).natAbs < 2 ^ 64 := by omega
theorem BoxAt.drawn {H : Hp} {a : Addr} {c : Nat} {x y z : Int} (y0 : 0 ≤ y) (y1 : y < 2147483629) (z0 : 0 ≤ z) (z1 : z ≤ ((c + 1 : Nat) : Int)) :
    BoxAt (L2.upd H a (.lst [.int x, .int y, .int z])) a (c + 1) := ⟨x, y, z, upd_same, y0, y1, z0, by omega⟩
/-- take(box, n) -/
def spTake : Sp := fun vs H Q _ => ∃ (a : Addr) (c : Nat) (n : Int), vs = [.ref a, .int n] ∧ BoxAt H a c ∧ c < 1000000000 ∧ 0 < n ∧ n < 1000000000 ∧
  ∀ (r : Int) (H' : Hp), Kp a H H' → BoxAt H' a (c + 1) → 0 ≤ r → r < n → Q (.int r) H'
/-- a place that was free behind a kept heap was free before -/
theorem Kp.none {a p : Addr} {c : Nat} {H H' : Hp} (k : Kp a H H') (b : BoxAt H' a c) (h : H' p = none) : H p = none := k.free (b.ne h) h
/-- cell(script, k) -/
def spCell (K : PySem.W.Frag) : Sp := fun vs H Q _ => ∃ (a : Addr) (ns : List Int) (k : Int), vs = [.ref a, .int k] ∧ SqL K H a (ns.map V.int) ∧
  ns.length ≤ 63 ∧ 0 ≤ k ∧ k < 100 ∧ ∀ i, Q (.int i) H
/-- box(i) -/
def spBox : Sp := fun vs H Q _ => ∃ i : Int, vs = [.int i] ∧ ∀ a x y : _, H a = none → 0 ≤ y → y < 2147483629 → Q (.ref a) (upd H a (.lst [.int x, .int y, .int 0]))
end Gd
/-! Letters, pieces, names; plain data over a growing heap. -/
namespace Gd
open PySem PySem.Spec PyProof.Rows L2

def lowB (c : Nat) : Bool := decide (97 ≤ c) && decide (c ≤ 122)
def upB (c : Nat) : Bool := decide (65 ≤ c) && decide (c ≤ 90)
def letB (c : Nat) : Bool := lowB c || upB c
theorem uni_ascii : ∀ c < 128, Unicode.isAlpha c = letB c ∧ Unicode.isLower c = lowB c ∧ Unicode.isUpper c = upB c ∧ Unicode.isTitle c = false := by decide +kernel
theorem letB_lt {c : Nat} (h : letB c = true) : c < 128 := by
  unfold letB lowB upB at h
  simp at h
  omega
theorem lowB_let {c : Nat} (h : lowB c = true) : letB c = true := by unfold letB; rw [h]; rfl
/-- a piece -/
def pieceB (z : Str) : Bool := z.cps.toList.all letB
/-- a name -/
def nameB (z : Str) : Bool := z.cps.toList.all lowB && decide (1 ≤ z.length) && decide (z.length ≤ 4)
theorem all_list {z : Str} {p : Nat → Bool} : z.cps.all p = z.cps.toList.all p := by simp
theorem len_list (z : Str) : z.length = z.cps.toList.length := by simp [Str.length]
/-- what is_piece says of a text -/
theorem piece_of (z : Str) : (decide ((z.length : Int) = 0) || (Txt.isascii z && Txt.isalpha z)) = pieceB z := by
  unfold Txt.isascii Txt.isalpha pieceB
  rw [all_list, all_list, len_list]
  generalize z.cps.toList = l
  cases l with
  | nil => rfl
  | cons c r =>
    have e1 : decide (((c :: r).length : Int) = 0) = false := decide_eq_false (by simp; omega)
    have e2 : decide ((c :: r).length > 0) = true := by simp
    rw [e1, e2, Bool.false_or, Bool.true_and]
    generalize (c :: r) = l
    induction l with
    | nil => rfl
    | cons a l ih =>
      simp only [List.all_cons]
      by_cases ha : a < 128
      · rw [(uni_ascii a ha).1, decide_eq_true ha, Bool.true_and]
        rw [← ih]
        cases letB a <;> simp
      · have e3 : letB a = false := by
          cases h : letB a with
          | false => rfl
          | true => exact absurd (letB_lt h) ha
        rw [decide_eq_false ha, e3]
        simp
/-- what is_name says of a text -/
theorem name_of (z : Str) : (pieceB z && (Txt.islower z && decide ((z.length : Int) ≤ 4))) = nameB z := by
  unfold Txt.islower pieceB nameB
  rw [show z.cps.any Unicode.isLower = z.cps.toList.any Unicode.isLower by simp,
    show (z.cps.any fun c => Unicode.isUpper c || Unicode.isTitle c) = z.cps.toList.any fun c => Unicode.isUpper c || Unicode.isTitle c by simp, len_list]
  generalize z.cps.toList = l
  have e1 : decide ((l.length : Int) ≤ 4) = decide (l.length ≤ 4) := by
    by_cases h : l.length ≤ 4
    · rw [decide_eq_true h, decide_eq_true (by omega)]
    · rw [decide_eq_false h, decide_eq_false (by omega)]
  rw [e1]
  by_cases hp : l.all letB = true
  · rw [hp]
    have h : ∀ c ∈ l, letB c = true := List.all_eq_true.mp hp
    have e2 : l.any Unicode.isLower = l.any lowB := by
      apply Bool.eq_iff_iff.mpr
      simp only [List.any_eq_true]
      constructor
      · rintro ⟨c, hc, q⟩; exact ⟨c, hc, by rw [← (uni_ascii c (letB_lt (h c hc))).2.1]; exact q⟩
      · rintro ⟨c, hc, q⟩; exact ⟨c, hc, by rw [(uni_ascii c (letB_lt (h c hc))).2.1]; exact q⟩
    have e3 : (l.any fun c => Unicode.isUpper c || Unicode.isTitle c) = l.any upB := by
      apply Bool.eq_iff_iff.mpr
      simp only [List.any_eq_true]
      constructor
      · rintro ⟨c, hc, q⟩
        have u := uni_ascii c (letB_lt (h c hc))
        rw [u.2.2.1, u.2.2.2, Bool.or_false] at q
        exact ⟨c, hc, q⟩
      · rintro ⟨c, hc, q⟩
        have u := uni_ascii c (letB_lt (h c hc))
        exact ⟨c, hc, by rw [u.2.2.1, q]; rfl⟩
    have e4 : (l.any lowB && !l.any upB) = (l.all lowB && decide (1 ≤ l.length)) := by
      apply Bool.eq_iff_iff.mpr
      simp only [Bool.and_eq_true, Bool.not_eq_true', List.any_eq_true, List.any_eq_false, List.all_eq_true, decide_eq_true_eq]
      constructor
      · rintro ⟨⟨c, hc, _⟩, q⟩
        refine ⟨fun d hd => ?_, List.length_pos_of_mem hc⟩
        have := h d hd
        unfold letB at this
        rw [Bool.or_eq_true] at this
        rcases this with t | t
        · exact t
        · exact absurd t (q d hd)
      · rintro ⟨q, hl⟩
        obtain ⟨c, hc⟩ := List.exists_mem_of_length_pos hl
        refine ⟨⟨c, hc, q c hc⟩, fun d hd t => ?_⟩
        have := q d hd
        unfold lowB at this
        unfold upB at t
        simp at this t
        omega
    rw [e2, e3, Bool.true_and, e4]
  · have e : l.all letB = false := by simpa using hp
    have e5 : l.all lowB = false := by
      cases q : l.all lowB with
      | false => rfl
      | true =>
        exfalso
        apply hp
        exact List.all_eq_true.mpr fun c hc => lowB_let (List.all_eq_true.mp q c hc)
    rw [e, e5]
    simp

/-- ASCII alone -/
def ascB (z : Str) : Bool := z.cps.toList.all fun c => decide (c < 128)
/-- a text within the limits -/
def okS (z : Str) : Bool := decide (z.length ≤ 100000) && ascB z
theorem okS_len {z : Str} (h : okS z = true) : z.length ≤ 100000 := by
  unfold okS at h
  simp at h
  exact h.1
theorem okS_asc {z : Str} (h : okS z = true) : ∀ c ∈ z.cps.toList, c < 128 := by
  unfold okS ascB at h
  rw [Bool.and_eq_true] at h
  intro c hc
  exact of_decide_eq_true (List.all_eq_true.mp h.2 c hc)
theorem okS_of {z : Str} (h : z.length ≤ 100000) (a : ∀ c ∈ z.cps.toList, c < 128) : okS z = true := by
  unfold okS ascB
  rw [Bool.and_eq_true]
  exact ⟨decide_eq_true h, List.all_eq_true.mpr fun c hc => decide_eq_true (a c hc)⟩

/-! ### plain data -/
inductive D where
  | non | bl (b : Bool) | int (i : Int) | str (z : Str) | lst (xs : List D) | tup (xs : List D) | oth
mutual
/-- v stands for d; O tells which other objects may stand -/
inductive DV (O : HO → Prop) (H : Hp) : V → D → Prop
  | non : DV O H .non .non
  | bl (b : Bool) : DV O H (.bl b) (.bl b)
  | int (i : Int) : DV O H (.int i) (.int i)
  | str (z : Str) (h : okS z = true) : DV O H (.str z) (.str z)
  | lst {a : Addr} {vs : List V} {ds : List D} (h : H a = some (.lst vs)) (r : DVs O H vs ds) (l : vs.length ≤ 100000) : DV O H (.ref a) (.lst ds)
  | tup {a : Addr} {vs : List V} {ds : List D} (h : H a = some (.tup vs)) (r : DVs O H vs ds) (l : vs.length ≤ 100000) : DV O H (.ref a) (.tup ds)
  | oth {a : Addr} {o : HO} (h : H a = some o) (p : O o) : DV O H (.ref a) .oth
inductive DVs (O : HO → Prop) (H : Hp) : List V → List D → Prop
  | nil : DVs O H [] []
  | cons {v : V} {d : D} {vs : List V} {ds : List D} (h : DV O H v d) (r : DVs O H vs ds) : DVs O H (v :: vs) (d :: ds)
end
section
variable {O : HO → Prop} {H H' : Hp}
mutual
theorem DV.ex (e : Ex H H') : ∀ (d : D) (v : V), DV O H v d → DV O H' v d
  | .non, _, .non => .non
  | .bl _, _, .bl b => .bl b
  | .int _, _, .int i => .int i
  | .str _, _, .str z h => .str z h
  | .lst ds, _, .lst h r l => .lst (e _ _ h) (DVs.ex e ds _ r) l
  | .tup ds, _, .tup h r l => .tup (e _ _ h) (DVs.ex e ds _ r) l
  | .oth, _, .oth h p => .oth (e _ _ h) p
theorem DVs.ex (e : Ex H H') : ∀ (ds : List D) (vs : List V), DVs O H vs ds → DVs O H' vs ds
  | [], _, .nil => .nil
  | d :: ds, _, .cons h r => .cons (DV.ex e d _ h) (DVs.ex e ds _ r)
end
theorem DVs.length : ∀ {vs : List V} {ds : List D}, DVs O H vs ds → vs.length = ds.length
  | _, _, .nil => rfl
  | _, _, .cons _ r => by simp [DVs.length r]
theorem DVs.get : ∀ {vs : List V} {ds : List D} {i : Nat} {v : V}, DVs O H vs ds → vs[i]? = some v → ∃ d, ds[i]? = some d ∧ DV O H v d
  | _, _, 0, _, .cons h _, e => by simp at e; subst e; exact ⟨_, rfl, h⟩
  | _, _, i + 1, _, .cons _ r, e => by simpa using DVs.get r (by simpa using e)
theorem DVs.app : ∀ {vs ws : List V} {ds es : List D}, DVs O H vs ds → DVs O H ws es → DVs O H (vs ++ ws) (ds ++ es)
  | _, _, _, _, .nil, s => s
  | _, _, _, _, .cons h r, s => .cons h (DVs.app r s)
theorem DVs.set {v : V} {d : D} (h : DV O H v d) : ∀ {vs : List V} {ds : List D} (i : Nat), DVs O H vs ds → DVs O H (vs.set i v) (ds.set i d)
  | _, _, _, .nil => .nil
  | _, _, 0, .cons _ r => .cons h r
  | _, _, i + 1, .cons g r => .cons g (DVs.set h i r)
theorem DVs.take : ∀ {vs : List V} {ds : List D} (n : Nat), DVs O H vs ds → DVs O H (vs.take n) (ds.take n)
  | _, _, 0, _ => by simp; exact .nil
  | _, _, n + 1, .nil => by simp; exact .nil
  | _, _, n + 1, .cons g r => .cons g (DVs.take n r)
theorem DVs.drop : ∀ {vs : List V} {ds : List D} (n : Nat), DVs O H vs ds → DVs O H (vs.drop n) (ds.drop n)
  | _, _, 0, r => r
  | _, _, n + 1, .nil => by simp; exact .nil
  | _, _, n + 1, .cons _ r => DVs.drop n r
end

def isStr : D → Bool | .str _ => true | _ => false
def isBl : D → Bool | .bl _ => true | _ => false
def isIntB : D → Bool | .int _ => true | .bl _ => true | _ => false
def isTup : D → Bool | .tup _ => true | _ => false
def isLst : D → Bool | .lst _ => true | _ => false
/-- what is asked of other objects: no text, no bool, no int, no tuple, no list -/
def OthOk (K : PySem.W.Frag) (O : HO → Prop) : Prop := ∀ (H : Hp) (a : Addr) (o : HO), O o → H a = some o → ∃ t, TyX K H (.ref a) t ∧
  PySem.W.kitOne K t (.type "str") = some false ∧ PySem.W.kitOne K t (.type "bool") = some false ∧ PySem.W.kitOne K t (.type "int") = some false ∧
  PySem.W.kitOne K t (.type "tuple") = some false ∧ PySem.W.kitOne K t (.type "list") = some false
theorem kit5 {K : PySem.W.Frag} (T : String) (a b c d e : Bool)
    (h : [kitB T "str", kitB T "bool", kitB T "int", kitB T "tuple", kitB T "list"] = [some a, some b, some c, some d, some e]) :
    PySem.W.kitOne K (.type T) (.type "str") = some a ∧ PySem.W.kitOne K (.type T) (.type "bool") = some b ∧ PySem.W.kitOne K (.type T) (.type "int") = some c ∧
    PySem.W.kitOne K (.type T) (.type "tuple") = some d ∧ PySem.W.kitOne K (.type T) (.type "list") = some e := by
  injection h with h1 h
  injection h with h2 h
  injection h with h3 h
  injection h with h4 h
  injection h with h5 h
  exact ⟨kit_ty h1, kit_ty h2, kit_ty h3, kit_ty h4, kit_ty h5⟩
/-- what isinstance says -/
theorem DV.ty {K : PySem.W.Frag} {O : HO → Prop} {H : Hp} (ho : OthOk K O) {v : V} {d : D} (h : DV O H v d) : ∃ t, TyX K H v t ∧
    PySem.W.kitOne K t (.type "str") = some (isStr d) ∧ PySem.W.kitOne K t (.type "bool") = some (isBl d) ∧ PySem.W.kitOne K t (.type "int") = some (isIntB d) ∧
    PySem.W.kitOne K t (.type "tuple") = some (isTup d) ∧ PySem.W.kitOne K t (.type "list") = some (isLst d) := by
  cases h with
  | non => exact ⟨_, .base .non, kit5 "NoneType" false false false false false (by decide +kernel)⟩
  | bl b => exact ⟨_, .base (.bl b), kit5 "bool" false true true false false (by decide +kernel)⟩
  | int i => exact ⟨_, .base (.int i), kit5 "int" false false true false false (by decide +kernel)⟩
  | str z _ => exact ⟨_, .base (.str z), kit5 "str" true false false false false (by decide +kernel)⟩
  | lst h _ _ => exact ⟨_, .base (.lst h), kit5 "list" false false false false true (by decide +kernel)⟩
  | tup h _ _ => exact ⟨_, .base (.tup h), kit5 "tuple" false false false true false (by decide +kernel)⟩
  | oth h p =>
    obtain ⟨t, h1, h2, h3, h4, h5, h6⟩ := ho H _ _ p h
    exact ⟨t, h1, h2, h3, h4, h5, h6⟩
theorem kit_two {K : PySem.W.Frag} {t a b : Value} {x y : Bool} (h1 : PySem.W.kitOne K t a = some x) (h2 : PySem.W.kitOne K t b = some y) :
    PySem.W.kitAny K t [a, b] = some (x || y) := by
  refine kitAny_cons h1 (fun e => ?_) (fun e => by rw [e]; rfl)
  subst e
  refine kitAny_cons h2 (fun e => ?_) (fun e => by rw [e]; rfl)
  subst e
  rfl

/-! ### what the functions of rows say -/
def isName : D → Bool | .str z => nameB z | _ => false
def isPiece : D → Bool | .str z => pieceB z | _ => false
def isMark : D → Bool | .tup [x, y] => isName x && isBl y | _ => false
def isInt (d : D) (lo hi : Int) : Bool := match d with | .int i => decide (lo ≤ i) && decide (i ≤ hi) | _ => false
def fits (i : Nat) (d : D) : Bool := if i % 2 = 0 then isPiece d else isMark d
/-- the first item that can't stand at its place -/
def misfit : Nat → List D → Option Nat
  | _, [] => none
  | i, d :: ds => if fits i d = true then misfit (i + 1) ds else some i
def isRow : D → Bool
  | .lst xs => decide (xs.length % 2 = 1) && (misfit 0 xs).isNone
  | .tup xs => decide (xs.length % 2 = 1) && (misfit 0 xs).isNone
  | _ => false
end Gd
namespace Gd
open PySem PySem.Spec PyProof.Rows L2
theorem le_line {n : Nat} (h : n ≤ 100000) : n ≤ sizeLine := Nat.le_trans h (by decide)
theorem tyS {K : PySem.W.Frag} {z : Str} {H : Hp} : tyV K "str" (.str z) H := rfl
theorem bl_to {Q : VK} {H : Hp} {a b : Bool} (e : a = b) (h : Q (.bl b) H) : Q (.bl a) H := by rw [e]; exact h
theorem dec_int0 (n : Nat) : decide (V.int (n : Int) = V.int 0) = decide ((n : Int) = 0) := by
  by_cases h : (n : Int) = 0
  · rw [h]; rfl
  · rw [decide_eq_false h, decide_eq_false (fun e => h (V.int.inj e))]
end Gd
namespace Gd
open PySem PySem.Spec PyProof.Rows L2
/-- an item at a place in bounds, by what holds of all -/
theorem atI_all {α : Type} {xs : List α} {r : Int} (Pr : α → Prop) (h0 : 0 ≤ r) (h1 : r < xs.length) (h : ∀ v ∈ xs, Pr v) : ∃ v, atI xs r = some v ∧ Pr v := by
  have h2 : r.toNat < xs.length := by omega
  refine ⟨xs[r.toNat], ?_, h _ (List.getElem_mem h2)⟩
  unfold atI ixN
  rw [if_pos h0, if_pos (by simpa using h1)]
  simp [h2]
theorem sub_sl {n m : Nat} (h : n ≤ 100000) (h2 : m ≤ 100000) : n + m ≤ sizeLine := Nat.le_trans (Nat.add_le_add h h2) (by decide)
theorem join_size {ys : List Str} {k : Nat} {a : Str} (h : ∀ y ∈ ys, y.length ≤ k) : (ys.map (·.length)).sum + ys.length * a.length ≤ ys.length * (k + a.length) := by
  induction ys with
  | nil => simp
  | cons y ys ih =>
    have h1 := h y (by simp)
    have h2 := ih fun z hz => h z (by simp [hz])
    simp only [List.map_cons, List.sum_cons, List.length_cons]
    rw [Nat.add_mul, Nat.add_mul, Nat.mul_add] at *
    omega
theorem str_app_list (x y : Str) : (x ++ y).cps.toList = x.cps.toList ++ y.cps.toList := by
  show (x.cps ++ y.cps).toList = _
  simp
theorem sjoin_list : ∀ ys : List Str, (Str.join "" ys).cps.toList = (ys.map (·.cps.toList)).flatten
  | [] => rfl
  | [x] => by simp [Str.join]
  | x :: y :: r => by
    have e : Str.join "" (x :: y :: r) = x ++ ("" : Str) ++ Str.join "" (y :: r) := rfl
    have e2 : ("" : Str).cps.toList = [] := rfl
    rw [e, str_app_list, str_app_list, sjoin_list (y :: r), e2]
    simp
theorem join_empty_list (ys : List Str) : (Txt.join "" ys).cps.toList = (ys.map (·.cps.toList)).flatten := by
  rw [show Txt.join "" ys = Str.join "" ys from PySem.StrLaws.glued_eq_join "" ys]
  exact sjoin_list ys
theorem sum_len : ∀ {ys : List Str} {k : Nat}, (∀ y ∈ ys, y.length ≤ k) → ((ys.map (·.cps.toList)).flatten).length ≤ ys.length * k
  | [], _, _ => by simp
  | y :: ys, k, h => by
    have h1 := h y (by simp)
    have h2 := sum_len (ys := ys) fun z hz => h z (by simp [hz])
    rw [len_list] at h1
    simp only [List.map_cons, List.flatten_cons, List.length_append, List.length_cons, Nat.add_mul]
    omega
theorem join_len {ys : List Str} {k : Nat} (h : ∀ y ∈ ys, y.length ≤ k) : (Txt.join "" ys).length ≤ ys.length * k := by
  rw [len_list, join_empty_list]
  exact sum_len h
theorem join_asc {ys : List Str} (h : ∀ y ∈ ys, ∀ c ∈ y.cps.toList, c < 128) : ∀ c ∈ (Txt.join "" ys).cps.toList, c < 128 := by
  intro c hc
  rw [join_empty_list] at hc
  obtain ⟨l, hl, hc⟩ := List.mem_flatten.mp hc
  obtain ⟨y, hy, rfl⟩ := List.mem_map.mp hl
  exact h y hy c hc
theorem join_fits {ys : List Str} {k n : Nat} (h : ∀ y ∈ ys, y.length ≤ k) (hn : ys.length ≤ n) (hk : n * k ≤ 16777216) :
    (ys.map (·.length)).sum + ys.length * ("" : Str).length ≤ 16777216 := by
  have h1 := join_size (a := "") h
  have h2 : ys.length * (k + ("" : Str).length) ≤ n * k := Nat.mul_le_mul hn (Nat.le_of_eq rfl)
  omega
end Gd
namespace Gd
open PySem PySem.Spec PyProof.Rows L2
/-- a text of such a length -/
def strIn (lo hi : Nat) : V → Bool
  | .str z => decide (lo ≤ z.length) && decide (z.length ≤ hi) && ascB z
  | _ => false
theorem strIn_of {lo hi : Nat} {v : V} (h : strIn lo hi v = true) : ∃ z, v = .str z ∧ lo ≤ z.length ∧ z.length ≤ hi ∧ ∀ c ∈ z.cps.toList, c < 128 := by
  cases v with
  | str z =>
    unfold strIn ascB at h
    rw [Bool.and_eq_true, Bool.and_eq_true] at h
    exact ⟨z, rfl, of_decide_eq_true h.1.1, of_decide_eq_true h.1.2, fun c hc => of_decide_eq_true (List.all_eq_true.mp h.2 c hc)⟩
  | _ => cases h
end Gd
namespace Gd
open PySem PySem.Spec PyProof.Rows L2
/-- a comprehension's turn without a test -/
theorem lcY {σ : L2.St} {H : Hp} {A B : Hp → Prop} (h : A H) : tYes σ H fun b H3 => if b = true then A H3 else B H3 := by
  show if true = true then A H else B H
  exact iteT h
end Gd
/-! Every other item. -/
namespace Gd
open PySem PySem.Spec PyProof.Rows L2 Builtin

def evens {α : Type} : List α → List α
  | [] => []
  | [x] => [x]
  | x :: _ :: r => x :: evens r
def odds {α : Type} : List α → List α
  | [] => []
  | [_] => []
  | _ :: y :: r => y :: odds r
theorem vals_pick {xs : List V} {us : List Value} (r : Vals xs us) : ∀ ix : List Nat, Vals (ix.filterMap (xs[·]?)) (ix.filterMap (us[·]?))
  | [] => .nil
  | i :: ix => by
    have ih := vals_pick r ix
    rw [List.filterMap_cons, List.filterMap_cons]
    cases h : xs[i]? with
    | none => rw [r.none_of h]; exact ih
    | some x =>
      obtain ⟨u, hu, ru⟩ := r.get h
      rw [hu]
      exact .cons ru ih
/-- the places of every other item from j on -/
theorem pick_evens {α : Type} : ∀ (xs : List α) (pre : List α), (List.range ((xs.length + 1) / 2)).filterMap (fun k => (pre ++ xs)[pre.length + k * 2]?) = evens xs
  | [], pre => by simp [evens]
  | [x], pre => by simp [evens]
  | x :: y :: r, pre => by
    have e : ((x :: y :: r).length + 1) / 2 = (r.length + 1) / 2 + 1 := by simp; omega
    rw [e, List.range_succ_eq_map, List.filterMap_cons]
    have e0 : (pre ++ x :: y :: r)[pre.length + 0 * 2]? = some x := by simp
    rw [e0, List.filterMap_map]
    have ih := pick_evens r (pre ++ [x, y])
    show x :: _ = x :: evens r
    rw [← ih]
    congr 1
    apply congrArg (fun f => List.filterMap f (List.range ((r.length + 1) / 2)))
    funext k
    show (pre ++ x :: y :: r)[pre.length + (k + 1) * 2]? = (pre ++ [x, y] ++ r)[(pre ++ [x, y]).length + k * 2]?
    rw [List.append_assoc]
    have : (pre ++ [x, y]).length + k * 2 = pre.length + (k + 1) * 2 := by simp; omega
    rw [this]
    rfl
theorem odds_eq {α : Type} : ∀ xs : List α, odds xs = evens (xs.drop 1)
  | [] => rfl
  | [_] => rfl
  | [_, y] => rfl
  | _ :: y :: z :: r => by
    show y :: odds (z :: r) = evens (y :: z :: r)
    rw [odds_eq (z :: r)]
    rfl
theorem evens_length {α : Type} : ∀ xs : List α, (evens xs).length = (xs.length + 1) / 2
  | [] => by simp [evens]
  | [_] => by simp [evens]
  | _ :: _ :: r => by
    show (evens r).length + 1 = _
    rw [evens_length r]
    simp
    omega
theorem odds_length {α : Type} (xs : List α) : (odds xs).length = xs.length / 2 := by
  rw [odds_eq, evens_length, List.length_drop]
  omega
theorem evens_get {α : Type} : ∀ (xs : List α) (k : Nat), (evens xs)[k]? = xs[2 * k]?
  | [], k => by simp [evens]
  | [x], 0 => rfl
  | [x], k + 1 => by
    show ([] : List α)[k]? = _
    rw [List.getElem?_eq_none (by simp), List.getElem?_eq_none (by simp; omega)]
  | x :: y :: r, 0 => rfl
  | x :: y :: r, k + 1 => by
    show (evens r)[k]? = _
    rw [evens_get r k]
    show r[2 * k]? = (x :: y :: r)[2 * k + 2]?
    rfl
theorem odds_get {α : Type} (xs : List α) (k : Nat) : (odds xs)[k]? = xs[2 * k + 1]? := by
  rw [odds_eq, evens_get, List.getElem?_drop]
  congr 1
  omega
theorem bounds_two (n : Nat) : sliceBounds none none (some 2) n = (0, (n : Int), 2) := rfl
theorem bounds_one (n : Nat) : sliceBounds (some 1) none (some 2) n = (min 1 (n : Int), (n : Int), 2) := by
  unfold sliceBounds
  simp
  omega
theorem range_two (a n : Nat) (h : a ≤ n) : sliceRange (a : Int) (n : Int) 2 = (List.range ((n - a + 1) / 2)).map fun k => a + k * 2 := by
  unfold sliceRange
  have e : (if (2 : Int) > 0 then (if (a : Int) < n then ((n : Int) - a + 2 - 1) / 2 else 0) else (if (a : Int) > n then ((a : Int) - n - 2 - 1) / (-2) else 0)).toNat = (n - a + 1) / 2 := by
    rw [if_pos (by decide)]
    split <;> omega
  show (List.range _).map _ = _
  rw [e]
  apply List.map_congr_left
  intro k _
  omega
theorem pick0 {α : Type} (xs : List α) : (sliceRange (sliceBounds none none (some 2) xs.length).1 (sliceBounds none none (some 2) xs.length).2.1 (sliceBounds none none (some 2) xs.length).2.2).filterMap (xs[·]?) = evens xs := by
  rw [bounds_two]
  have := range_two 0 xs.length (Nat.zero_le _)
  simp only [] at this ⊢
  rw [show ((0 : Nat) : Int) = 0 from rfl] at this
  rw [this, List.filterMap_map]
  have q := pick_evens xs []
  simpa [Function.comp_def] using q
theorem pick1 {α : Type} (xs : List α) : (sliceRange (sliceBounds (some 1) none (some 2) xs.length).1 (sliceBounds (some 1) none (some 2) xs.length).2.1 (sliceBounds (some 1) none (some 2) xs.length).2.2).filterMap (xs[·]?) = odds xs := by
  rw [bounds_one]
  cases xs with
  | nil => rfl
  | cons x r =>
    have e : min 1 ((x :: r).length : Int) = ((1 : Nat) : Int) := by simp; omega
    simp only []
    rw [e, range_two 1 (x :: r).length (by simp), List.filterMap_map, odds_eq]
    have q := pick_evens r [x]
    rw [List.drop_one, List.tail_cons, ← q]
    have : (x :: r).length - 1 + 1 = r.length + 1 := by simp
    rw [this]
    rfl

section
variable {X : Cx}
/-- l[::2] and l[1::2] of a list -/
def rTwoL (K : PySem.W.Frag) : V → Option Int → Option Int → Option Int → Hp → VK → Prop := fun x lo hi st H Q =>
  ∃ a xs, x = .ref a ∧ SqL K H a xs ∧ hi = none ∧ st = some 2 ∧
    ((lo = none ∧ ∀ p, H p = none → Q (.ref p) (upd H p (.lst (evens xs)))) ∨ (lo = some 1 ∧ ∀ p, H p = none → Q (.ref p) (upd H p (.lst (odds xs)))))
theorem ss_twoL : SlS X (rTwoL X.K) := by
  intro pins s σ H x v vl vu vs lo hi st sl Q I rx hs pl pu ps h
  obtain ⟨a, xs, rfl, hx, rfl, rfl, q⟩ := h
  cases rx
  obtain ⟨its, r, ht, hz⟩ := I.list hx
  have hl := r.length
  have hpick : ∀ lo', (slicePick its.toArray lo' none (some 2)) = ((sliceRange (sliceBounds lo' none (some 2) its.length).1 (sliceBounds lo' none (some 2) its.length).2.1 (sliceBounds lo' none (some 2) its.length).2.2).filterMap (its[·]?)).toArray := by
    intro lo'
    unfold slicePick
    simp
  refine ⟨"list", _, PySem.slot_list_getitem.lookup, ht.isList.typeIs, ?_⟩
  refine wpAny_getItem_list_slice ht.isList hs pl pu ps (by decide) ?_ (by rw [List.size_toArray]; omega)
  rw [hpick]
  rcases q with ⟨rfl, q⟩ | ⟨rfl, q⟩
  · refine ⟨.ref _, _, I.laid (t' := s.toks) (o := .lst (evens xs)) (fun b ob q => Heap.get?_push_of_some _ q) (Nat.le_refl _) ?_, rfl, q _ (I.hok.fresh (Nat.le_refl _))⟩
    refine ⟨by rw [evens_length]; omega, _, 0, ?_, Heap.get?_push_size _ rfl⟩
    have := vals_pick r (sliceRange (sliceBounds none none (some 2) its.length).1 (sliceBounds none none (some 2) its.length).2.1 (sliceBounds none none (some 2) its.length).2.2)
    rw [← hl, pick0 xs] at this
    rw [← hl]
    exact this
  · refine ⟨.ref _, _, I.laid (t' := s.toks) (o := .lst (odds xs)) (fun b ob q => Heap.get?_push_of_some _ q) (Nat.le_refl _) ?_, rfl, q _ (I.hok.fresh (Nat.le_refl _))⟩
    refine ⟨by rw [odds_length]; omega, _, 0, ?_, Heap.get?_push_size _ rfl⟩
    have := vals_pick r (sliceRange (sliceBounds (some 1) none (some 2) its.length).1 (sliceBounds (some 1) none (some 2) its.length).2.1 (sliceBounds (some 1) none (some 2) its.length).2.2)
    rw [← hl, pick1 xs] at this
    rw [← hl]
    exact this
end
end Gd
/-! Rules whose reading names the written part by a letter (for a comprehension's element). -/
namespace Gd
open PySem PySem.Spec PyProof.Rows L2
section
variable {X : Cx} {K : PySem.W.Frag}
/-- an expression that is never reached -/
theorem pe_never {e : Expr} : PE X e (fun _ _ _ => False) := ⟨fun _ _ _ _ _ _ h => h.elim⟩
theorem ix_listK (e : X.K = K) : IxR X (rIxL K) := e ▸ ix_list
theorem ix_tupK (e : X.K = K) : IxR X (rIxT K) := e ▸ ix_tup
theorem sl_listK (e : X.K = K) : SlR X (rSlL K) := e ▸ sl_list
theorem op_in_seqK (e : X.K = K) : OpR X (compareOp .In) (rIn K false) := e ▸ op_in_seq
theorem op_notIn_seqK (e : X.K = K) : OpR X (compareOp .NotIn) (rIn K true) := e ▸ op_notIn_seq
theorem op_eqDK (e : X.K = K) (hu : X.A.units + 64 < cLine) : OpR X (compareOp .Eq) (rEqD K) := e ▸ op_eqD hu
theorem op_neDK (e : X.K = K) (hu : X.A.units + 64 < cLine) : OpR X (compareOp .NotEq) (rNeD K) := e ▸ op_neD hu
theorem call_isiK' (e : X.K = K) : CallR X (.builtin "isinstance") (rIsi K) := e ▸ call_isi
theorem call_reprK (e : X.K = K) (hgd : X.A.guards = some []) (hu : X.A.units + 66 < cLine) : CallR X (.builtin "repr") (rReprD K) := e ▸ call_reprD hgd hu
def rLen (K : PySem.W.Frag) : List V → Hp → VK → Prop := fun xs H Q => ∃ p ys, xs = [.ref p] ∧ (SqL K H p ys ∨ SqT K H p ys) ∧ Q (.int (ys.length : Nat)) H
theorem call_lenK (e : X.K = K) : CallR X (.builtin "len") (rLen K) := by subst e; exact call_len_seq
end
end Gd
namespace Gd
open PySem PySem.Spec PyProof.Rows L2
/-- G is what is known for good, H what stands; the box at a is apart; G0, H0 what was so at the start -/
structure Sta (G0 H0 G H : Hp) (a : Addr) (c : Nat) : Prop where
  ex : Ex G H
  ga : G a = none
  bx : BoxAt H a c
  kp : Kp a H0 H
  up : Ex G0 G
  fr : ∀ b, H0 b ≠ none → G0 b = none → G b = none
section
variable {G0 H0 G G' H H' : Hp} {a p : Addr} {c d : Nat} {o : HO}
theorem Sta.start (e : Ex G H) (g : G a = none) (b : BoxAt H a c) : Sta G H G H a c := ⟨e, g, b, Kp.rfl' a H, Ex.rfl' G, fun _ _ h => h⟩
theorem Sta.new (S : Sta G0 H0 G H a c) (hp : H p = none) (o : HO) : Sta G0 H0 (upd G p o) (upd H p o) a c :=
  ⟨S.ex.both, by rw [upd_ne (S.bx.ne hp).symm]; exact S.ga, S.bx.upd (S.bx.ne' hp), S.kp.mut (S.kp.none S.bx hp), S.up.mut (S.up.free (S.ex.free hp)), fun b hb g => by
    rw [upd_ne (fun e => hb (by rw [e]; exact S.kp.none S.bx hp))]
    exact S.fr b hb g⟩
theorem Sta.hid (S : Sta G0 H0 G H a c) (hp : H p = none) (o : HO) : Sta G0 H0 G (upd H p o) a c :=
  ⟨S.ex.mut (S.ex.free hp), S.ga, S.bx.upd (S.bx.ne' hp), S.kp.mut (S.kp.none S.bx hp), S.up, S.fr⟩
theorem Sta.put (S : Sta G0 H0 G H a c) (hg : G p = none) (ha : p ≠ a) (h0 : H0 p = none) (o : HO) : Sta G0 H0 G (upd H p o) a c :=
  ⟨S.ex.mut hg, S.ga, S.bx.upd ha.symm, S.kp.mut h0, S.up, S.fr⟩
theorem Sta.draw (S : Sta G0 H0 G H a c) (k : Kp a H H') (b : BoxAt H' a d) : Sta G0 H0 G H' a d := ⟨S.ex.kp S.ga k, S.ga, b, S.kp.tr k, S.up, S.fr⟩
theorem Sta.grow (S : Sta G0 H0 G H a c) (e : Ex H H') : Sta G0 H0 G H' a c := ⟨S.ex.tr e, S.ga, S.bx.ex e, S.kp.tr (Kp.of e), S.up, S.fr⟩
theorem Sta.enew (S : Sta G0 H0 G H a c) (hp : H p = none) : Ex G (upd G p o) := Ex.new (S.ex.free hp)
theorem Sta.le (S : Sta G0 H0 G H a c) (h : c ≤ d) : Sta G0 H0 G H a d := ⟨S.ex, S.ga, S.bx.up h, S.kp, S.up, S.fr⟩
/-- other parts kept: an instance that G does not know -/
theorem Sta.kpx {x : Addr} (S : Sta G0 H0 G H a c) (hg : G x = none) (h0 : H0 x = none) (hx : x ≠ a) (k : Kp x H H') : Sta G0 H0 G H' a c := by
  refine ⟨S.ex.kp hg k, S.ga, ?_, fun b o nb h => ?_, S.up, S.fr⟩
  · obtain ⟨y, z, w, h, r⟩ := S.bx
    exact ⟨y, z, w, k _ _ hx.symm h, r⟩
  · exact k _ _ (ne_of_none h h0) (S.kp _ _ nb h)
theorem Sta.know (S : Sta G0 H0 G H a c) (h : H p = some o) (np : p ≠ a) (h0 : H0 p = none) (g0 : G p = none) : Sta G0 H0 (upd G p o) H a c := by
  refine ⟨fun b u hb => ?_, by rw [upd_ne np.symm]; exact S.ga, S.bx, S.kp, S.up.mut (S.up.free g0), fun b hb g => ?_⟩
  · by_cases e : b = p
    · subst e
      rw [upd_same] at hb
      rw [h]
      exact hb
    · rw [upd_ne e] at hb
      exact S.ex b u hb
  · rw [upd_ne (fun e => hb (by rw [e]; exact h0))]
    exact S.fr b hb g
theorem Sta.tr (S : Sta G0 H0 G H a c) (T : Sta G H G' H' a d) : Sta G0 H0 G' H' a d :=
  ⟨T.ex, T.ga, T.bx, S.kp.tr T.kp, S.up.tr T.up, fun b hb g => T.fr b (fun e => by
    by_cases hba : b = a
    · subst hba; exact S.bx.some e
    · cases q : H0 b with
      | none => exact hb q
      | some u => rw [S.kp b u hba q] at e; cases e) (S.fr b hb g)⟩
end
end Gd

namespace Gd
open PySem PySem.Spec PyProof.Rows L2
theorem DVs.mem {O : HO → Prop} {H : Hp} : ∀ {vs : List V} {ds : List D}, DVs O H vs ds → ∀ v ∈ vs, ∃ d, d ∈ ds ∧ DV O H v d
  | _, _, .nil, v, h => by simp at h
  | _, _, .cons h r, v, hv => by
    rcases List.mem_cons.mp hv with rfl | hv
    · exact ⟨_, by simp, h⟩
    · obtain ⟨d, h1, h2⟩ := DVs.mem r v hv
      exact ⟨d, by simp [h1], h2⟩
end Gd
namespace Gd
open PySem PySem.Spec PyProof.Rows L2
theorem DVs.cut {O : HO → Prop} {H : Hp} {vs : List V} {ds : List D} (h : DVs O H vs ds) (lo hi : Option Int) : ∃ es, DVs O H (cutV vs lo hi) es ∧ ∀ d ∈ es, d ∈ ds :=
  ⟨_, (h.drop _).take _, fun _ hd => List.mem_of_mem_drop (List.mem_of_mem_take hd)⟩
mutual
/-- how deep it goes -/
def dep : D → Nat
  | .lst xs => depAll xs + 1
  | .tup xs => depAll xs + 1
  | _ => 0
def depAll : List D → Nat
  | [] => 0
  | d :: ds => max (dep d) (depAll ds)
end
theorem depAll_le {n : Nat} : ∀ {ds : List D}, (∀ d ∈ ds, dep d ≤ n) → depAll ds ≤ n
  | [], _ => Nat.zero_le _
  | d :: ds, h => by
    have h1 := h d (by simp)
    have h2 := depAll_le (ds := ds) fun x hx => h x (by simp [hx])
    unfold depAll
    omega
theorem dep_of_all {n : Nat} : ∀ {ds : List D}, depAll ds ≤ n → ∀ d ∈ ds, dep d ≤ n
  | d :: ds, h, x, hx => by
    unfold depAll at h
    rcases List.mem_cons.mp hx with rfl | hx
    · omega
    · exact dep_of_all (ds := ds) (by omega) x hx
theorem all_dep {ds : List D} {n : Nat} (h : (ds.all fun d => decide (dep d ≤ n)) = true) : ∀ d ∈ ds, dep d ≤ n := fun d hd => of_decide_eq_true (List.all_eq_true.mp h d hd)
theorem app_mem {q : D → Prop} {xs ys : List D} (h1 : ∀ d ∈ xs, q d) (h2 : ∀ d ∈ ys, q d) : ∀ d ∈ xs ++ ys, q d := fun d hd => by
  rcases List.mem_append.mp hd with h | h
  · exact h1 d h
  · exact h2 d h
theorem one_mem {q : D → Prop} {x : D} (h : q x) : ∀ d ∈ [x], q d := fun d hd => by
  rcases List.mem_cons.mp hd with rfl | hd
  · exact h
  · simp at hd
theorem set_mem {q : D → Prop} {xs : List D} {i : Nat} {x : D} (h1 : ∀ d ∈ xs, q d) (h2 : q x) : ∀ d ∈ xs.set i x, q d := fun d hd => by
  rcases List.mem_or_eq_of_mem_set hd with h | rfl
  · exact h1 d h
  · exact h2
theorem le_100 {n : Nat} (h : n ≤ 100) : n ≤ sizeLine := Nat.le_trans h (by decide)
theorem lt_100 {n : Nat} (h : n ≤ 100) : n < sizeLine := Nat.lt_of_le_of_lt h (by decide)
end Gd
namespace Gd
open PySem PySem.Spec PyProof.Rows L2
theorem sIx_in {n : Nat} {i : Int} {d : Nat} (h0 : 0 ≤ i) (h1 : i ≤ n) : HT.sIx n d (some i) = i.toNat := by
  show (if i < 0 then (i + (n : Int)).toNat else min i.toNat n) = i.toNat
  rw [if_neg (by omega)]
  omega
theorem cut_both {vs : List V} {i : Int} (h0 : 0 ≤ i) (h1 : i < vs.length) : (cutV vs none (some i)).length + (cutV vs (some i) none).length = vs.length := by
  unfold cutV
  rw [sIx_in h0 (by omega), sIx_in h0 (by omega)]
  have e1 : HT.sIx vs.length 0 none = 0 := rfl
  have e2 : HT.sIx vs.length vs.length none = vs.length := rfl
  rw [e1, e2]
  simp
  omega
end Gd
namespace Gd
open PySem PySem.Spec PyProof.Rows L2
/-- one sign -/
def one (c : Nat) : Str := ⟨#[c]⟩
theorem dp_strs {K : PySem.W.Frag} {H : Hp} : ∀ ys : List Str, DpAll K H (ys.map V.str) (ys.map PyData.str)
  | [] => .nil
  | y :: ys => .cons (.str y) (dp_strs ys)
theorem lay_strs : ∀ ys : List Str, (∀ y ∈ ys, PyData.strOk y = true) → PyData.canLayAll0 (ys.map PyData.str) = true
  | [], _ => by simp [PyData.canLayAll0]
  | y :: ys, h => by
    rw [List.map_cons, PyData.canLayAll0, PyData.canLay0, lay_strs ys fun z hz => h z (by simp [hz])]
    rw [Bool.and_true]
    exact h y (by simp)
end Gd
namespace Gd
open PySem PySem.Spec PyProof.Rows L2
/-- a comprehension over a text's signs -/
theorem lc_txt {z : Str} {g : TG} {tt : TT} {te : TE} {vs : List Nat} {σ : L2.St} {H1 : Hp} {D : Addr} {Qd : Hp → Prop} (Pv : Nat → Hp → Prop)
    (h0 : Pv 0 (upd H1 D (.lst [])))
    (hs : ∀ i c H, z.cps.toList[i]? = some c → Pv i H → g (.str (one c)) (wipe σ vs) H fun σ2 H2 => wipe σ2 vs = wipe σ vs ∧ tt σ2 H2 fun b H3 =>
      if b = true then te σ2 H3 fun y H4 => ∃ acc, H4 D = some (.lst acc) ∧ acc.length < sizeLine ∧ Pv (i + 1) (upd H4 D (.lst (acc ++ [y]))) else Pv (i + 1) H3)
    (hd : ∀ H, Pv z.cps.toList.length H → Qd H) :
    ∃ W : Nat → Nat → Hp → Prop, (∃ m, W 0 m (upd H1 D (.lst []))) ∧ ∀ i m H, W i m H →
      ((Its z).stop i H ∧ Qd H) ∨ ((Its z).go i H ∧ ∃ Nx : Hp → Prop, (∀ H', Nx H' → ∃ m', m' < m ∧ W (i + 1) m' H') ∧
        ∀ x H', (Its z).yld i H x H' → g x (wipe σ vs) H' fun σ2 H2 => wipe σ2 vs = wipe σ vs ∧ tt σ2 H2 fun b H3 =>
          if b = true then te σ2 H3 fun y H4 => ∃ acc, H4 D = some (.lst acc) ∧ acc.length < sizeLine ∧ Nx (upd H4 D (.lst (acc ++ [y]))) else Nx H3) := by
  have hl : z.cps.size = z.cps.toList.length := by simp
  refine ⟨fun i m H => m = z.cps.size - i ∧ i ≤ z.cps.size ∧ Pv i H, ⟨z.cps.size, by simp, Nat.zero_le _, h0⟩, ?_⟩
  intro i m H ⟨e, hi, p⟩
  subst e
  by_cases hlt : i < z.cps.size
  · refine Or.inr ⟨hlt, Pv (i + 1), fun H' p' => ⟨z.cps.size - (i + 1), by omega, rfl, hlt, p'⟩, ?_⟩
    intro x H' ⟨e1, c, e2, e3⟩
    subst e1 e3
    exact hs i c H' (by simpa using e2) p
  · have e : i = z.cps.size := by omega
    subst e
    exact Or.inl ⟨Nat.le_refl _, hd H (by rw [← hl]; exact p)⟩
theorem eqv_nil (ds : List PyData) : PyData.eqv (.list ds) (.list []) = ds.isEmpty := by
  cases ds <;> simp [PyData.eqv, PyData.eqvAll]
theorem shaped_nil : SeqAt.shaped (.list []) = true := by simp [SeqAt.shaped, PyData.canLay0, PyData.canLayAll0, PyData.depth, PyData.depthAll]
theorem depth_strs : ∀ ys : List Str, PyData.depthAll (ys.map PyData.str) = 0
  | [] => by simp [PyData.depthAll]
  | y :: ys => by simp [PyData.depthAll, PyData.depth, depth_strs ys]
theorem shaped_strs {ys : List Str} (h : ∀ y ∈ ys, PyData.strOk y = true) : SeqAt.shaped (.list (ys.map PyData.str)) = true := by
  simp [SeqAt.shaped, PyData.canLay0, PyData.depth, depth_strs, lay_strs ys h]
theorem dp_ints {K : PySem.W.Frag} {H : Hp} : ∀ ys : List Int, DpAll K H (ys.map V.int) (ys.map PyData.int)
  | [] => .nil
  | y :: ys => .cons (.int y) (dp_ints ys)
theorem shaped_ints (ys : List Int) : SeqAt.shaped (.list (ys.map PyData.int)) = true := by
  have h1 : ∀ ys : List Int, PyData.canLayAll0 (ys.map PyData.int) = true := by
    intro ys
    induction ys with
    | nil => simp [PyData.canLayAll0]
    | cons y ys ih => simp [PyData.canLayAll0, PyData.canLay0]; simpa using ih
  have h2 : ∀ ys : List Int, PyData.depthAll (ys.map PyData.int) = 0 := by
    intro ys
    induction ys with
    | nil => simp [PyData.depthAll]
    | cons y ys ih => simp [PyData.depthAll, PyData.depth]; simpa using ih
  simp [SeqAt.shaped, PyData.canLay0, PyData.depth, h1, h2]
theorem strOk_one {c : Nat} (h : c < 128) : PyData.strOk (one c) = true := by
  simp [PyData.strOk, one]
  omega
end Gd
namespace Gd
open PySem PySem.Spec PyProof.Rows L2
/-- comprehensions over enumerate of a list, of a tuple -/
theorem lc_enumL {K : PySem.W.Frag} {a : Addr} {xs : List V} {g : TG} {tt : TT} {te : TE} {vs : List Nat} {σ : L2.St} {H1 : Hp} {D : Addr} {Qd : Hp → Prop} (Pv : Nat → Hp → Prop)
    (h0 : Pv 0 (upd H1 D (.lst []))) (hl : ∀ i H, i ≤ xs.length → Pv i H → SqL K H a xs)
    (hs : ∀ i x H T, xs[i]? = some x → Pv i H → H T = none → g (.ref T) (wipe σ vs) (upd H T (.tup [.int (i : Nat), x])) fun σ2 H2 => wipe σ2 vs = wipe σ vs ∧ tt σ2 H2 fun b H3 =>
      if b = true then te σ2 H3 fun y H4 => ∃ acc, H4 D = some (.lst acc) ∧ acc.length < sizeLine ∧ Pv (i + 1) (upd H4 D (.lst (acc ++ [y]))) else Pv (i + 1) H3)
    (hd : ∀ H, Pv xs.length H → Qd H) :
    ∃ W : Nat → Nat → Hp → Prop, (∃ m, W 0 m (upd H1 D (.lst []))) ∧ ∀ i m H, W i m H →
      ((Ite K a).stop i H ∧ Qd H) ∨ ((Ite K a).go i H ∧ ∃ Nx : Hp → Prop, (∀ H', Nx H' → ∃ m', m' < m ∧ W (i + 1) m' H') ∧
        ∀ x H', (Ite K a).yld i H x H' → g x (wipe σ vs) H' fun σ2 H2 => wipe σ2 vs = wipe σ vs ∧ tt σ2 H2 fun b H3 =>
          if b = true then te σ2 H3 fun y H4 => ∃ acc, H4 D = some (.lst acc) ∧ acc.length < sizeLine ∧ Nx (upd H4 D (.lst (acc ++ [y]))) else Nx H3) := by
  refine ⟨fun i m H => m = xs.length - i ∧ i ≤ xs.length ∧ Pv i H, ⟨xs.length, by simp, Nat.zero_le _, h0⟩, ?_⟩
  intro i m H ⟨e, hi, p⟩
  subst e
  have q := hl i H hi p
  by_cases hlt : i < xs.length
  · refine Or.inr ⟨⟨xs, xs[i], q, by simp [hlt]⟩, Pv (i + 1), fun H' p' => ⟨xs.length - (i + 1), by omega, rfl, hlt, p'⟩, ?_⟩
    intro x H' ⟨T, y, e1, e2, e3, e4⟩
    subst e1 e3
    exact hs i y H T (e4 xs q) p e2
  · have e : i = xs.length := by omega
    subst e
    exact Or.inl ⟨⟨xs, q, Nat.le_refl _⟩, hd H p⟩
theorem lc_enumT {K : PySem.W.Frag} {a : Addr} {xs : List V} {g : TG} {tt : TT} {te : TE} {vs : List Nat} {σ : L2.St} {H1 : Hp} {D : Addr} {Qd : Hp → Prop} (Pv : Nat → Hp → Prop)
    (h0 : Pv 0 (upd H1 D (.lst []))) (hl : ∀ i H, i ≤ xs.length → Pv i H → SqT K H a xs)
    (hs : ∀ i x H T, xs[i]? = some x → Pv i H → H T = none → g (.ref T) (wipe σ vs) (upd H T (.tup [.int (i : Nat), x])) fun σ2 H2 => wipe σ2 vs = wipe σ vs ∧ tt σ2 H2 fun b H3 =>
      if b = true then te σ2 H3 fun y H4 => ∃ acc, H4 D = some (.lst acc) ∧ acc.length < sizeLine ∧ Pv (i + 1) (upd H4 D (.lst (acc ++ [y]))) else Pv (i + 1) H3)
    (hd : ∀ H, Pv xs.length H → Qd H) :
    ∃ W : Nat → Nat → Hp → Prop, (∃ m, W 0 m (upd H1 D (.lst []))) ∧ ∀ i m H, W i m H →
      ((IteT K a).stop i H ∧ Qd H) ∨ ((IteT K a).go i H ∧ ∃ Nx : Hp → Prop, (∀ H', Nx H' → ∃ m', m' < m ∧ W (i + 1) m' H') ∧
        ∀ x H', (IteT K a).yld i H x H' → g x (wipe σ vs) H' fun σ2 H2 => wipe σ2 vs = wipe σ vs ∧ tt σ2 H2 fun b H3 =>
          if b = true then te σ2 H3 fun y H4 => ∃ acc, H4 D = some (.lst acc) ∧ acc.length < sizeLine ∧ Nx (upd H4 D (.lst (acc ++ [y]))) else Nx H3) := by
  refine ⟨fun i m H => m = xs.length - i ∧ i ≤ xs.length ∧ Pv i H, ⟨xs.length, by simp, Nat.zero_le _, h0⟩, ?_⟩
  intro i m H ⟨e, hi, p⟩
  subst e
  have q := hl i H hi p
  by_cases hlt : i < xs.length
  · refine Or.inr ⟨⟨xs, xs[i], q, by simp [hlt]⟩, Pv (i + 1), fun H' p' => ⟨xs.length - (i + 1), by omega, rfl, hlt, p'⟩, ?_⟩
    intro x H' ⟨T, y, e1, e2, e3, e4⟩
    subst e1 e3
    exact hs i y H T (e4 xs q) p e2
  · have e : i = xs.length := by omega
    subst e
    exact Or.inl ⟨⟨xs, q, rfl⟩, hd H p⟩
end Gd
/-! Promises of the rows' functions and of the draws. -/
namespace Gd
open PySem PySem.Spec PyProof.Rows L2
/-- a def of one value that says yes or no -/
def spB (O : HO → Prop) (f : D → Bool) : Sp := fun vs H Q _ => ∃ v d, vs = [v] ∧ DV O H v d ∧ ∀ H', Ex H H' → Q (.bl (f d)) H'
/-- a list or a tuple of an odd length -/
def oddLen : D → Bool
  | .lst xs => decide (xs.length % 2 = 1)
  | .tup xs => decide (xs.length % 2 = 1)
  | _ => false
theorem odd_dec (n : Nat) : decide (V.int ((n : Int) % 2) = V.int 1) = decide (n % 2 = 1) := by
  by_cases h : n % 2 = 1
  · rw [decide_eq_true h]
    have : (n : Int) % 2 = 1 := by omega
    rw [this]
    rfl
  · rw [decide_eq_false h, decide_eq_false (fun e => h (by have := V.int.inj e; omega))]
/-- the first item that can't stand at its place, of a list or a tuple -/
def spMisfit (O : HO → Prop) : Sp := fun vs H Q _ => ∃ v ds, vs = [v] ∧ (DV O H v (.lst ds) ∨ DV O H v (.tup ds)) ∧
  (∀ H', Ex H H' → misfit 0 ds = none → Q .non H') ∧ ∀ H' i, Ex H H' → misfit 0 ds = some i → Q (.int (i : Nat)) H'
theorem misfit_drop {ds : List D} {i : Nat} {d : D} (h : ds[i]? = some d) : ds.drop i = d :: ds.drop (i + 1) := by
  obtain ⟨hi, e⟩ := List.getElem?_eq_some_iff.mp h
  rw [← e, List.drop_eq_getElem_cons hi]
theorem misfit_step {ds : List D} {i : Nat} {d : D} (h1 : ds[i]? = some d) (hm : misfit 0 ds = misfit i (ds.drop i)) :
    (fits i d = true → misfit 0 ds = misfit (i + 1) (ds.drop (i + 1))) ∧ (¬ fits i d = true → misfit 0 ds = some i) := by
  rw [misfit_drop h1, misfit] at hm
  exact ⟨fun hf => by rw [hm, if_pos hf], fun hf => by rw [hm, if_neg hf]⟩
theorem even_dec (n : Nat) : decide (V.int ((n : Int) % 2) = V.int 0) = decide (n % 2 = 0) := by
  by_cases h : n % 2 = 0
  · rw [decide_eq_true h]
    have : (n : Int) % 2 = 0 := by omega
    rw [this]
    rfl
  · rw [decide_eq_false h, decide_eq_false (fun e => h (by have := V.int.inj e; omega))]
/-- a valid row is let through -/
def spPass (O : HO → Prop) : Sp := fun vs H Q _ => ∃ v d, vs = [v] ∧ DV O H v d ∧ isRow d = true ∧ ∀ H', Ex H H' → Q .non H'
theorem isRow_cases {d : D} (h : isRow d = true) : (∃ ds, (d = .lst ds ∨ d = .tup ds) ∧ misfit 0 ds = none) ∧ oddLen d = true := by
  cases d with
  | lst ds =>
    unfold isRow at h
    rw [Bool.and_eq_true] at h
    exact ⟨⟨ds, .inl rfl, by simpa using h.2⟩, h.1⟩
  | tup ds =>
    unfold isRow at h
    rw [Bool.and_eq_true] at h
    exact ⟨⟨ds, .inr rfl, by simpa using h.2⟩, h.1⟩
  | _ => cases h
/-- a def that draws a value of some kind -/
def spDraw (O : HO → Prop) (k : Nat) (R : D → Prop) : Sp := fun vs H Q _ => ∃ (a : Addr) (c : Nat) (G : Hp), vs = [.ref a] ∧ BoxAt H a c ∧ c + k < 1000000000 ∧ Ex G H ∧ G a = none ∧
  ∀ (v : V) (d : D) (G' H' : Hp), Sta G H G' H' a (c + k) → DV O G' v d → R d → Q v H'
/-- a def that draws a text -/
def spText (k m : Nat) : Sp := fun vs H Q _ => ∃ (a : Addr) (c : Nat), vs = [.ref a] ∧ BoxAt H a c ∧ c + k < 1000000000 ∧
  ∀ (z : Str) (H' : Hp), Kp a H H' → BoxAt H' a (c + k) → z.length ≤ m → okS z = true → Q (.str z) H'
theorem decI {i j : Int} : decide (V.int i = V.int j) = decide (i = j) := by
  by_cases h : i = j
  · rw [h]; simp
  · rw [decide_eq_false h, decide_eq_false (fun e => h (V.int.inj e))]
/-- dicts, and strips -/
def OO (C : Addr) : HO → Prop := fun o => (∃ kvs, o = .dK kvs) ∨ ∃ dx fs, o = .ins C dx fs
theorem isRow_odd {d : D} (h : oddLen d = false) : isRow d = false := by
  cases d with
  | tup ds =>
    show (decide (ds.length % 2 = 1) && (misfit 0 ds).isNone) = false
    rw [show decide (ds.length % 2 = 1) = false from h, Bool.false_and]
  | lst ds =>
    show (decide (ds.length % 2 = 1) && (misfit 0 ds).isNone) = false
    rw [show decide (ds.length % 2 = 1) = false from h, Bool.false_and]
  | _ => rfl
theorem isRow_seq {d : D} {ds : List D} (hd : d = .lst ds ∨ d = .tup ds) (h : oddLen d = true) : isRow d = (misfit 0 ds).isNone := by
  rcases hd with rfl | rfl
  · show (decide (ds.length % 2 = 1) && (misfit 0 ds).isNone) = _
    rw [show decide (ds.length % 2 = 1) = true from h, Bool.true_and]
  · show (decide (ds.length % 2 = 1) && (misfit 0 ds).isNone) = _
    rw [show decide (ds.length % 2 = 1) = true from h, Bool.true_and]
/-- the places that do not fit, as they are gathered -/
def Bad (ds : List D) (i : Nat) (ks : List Int) : Prop := (ks = [] ∧ misfit 0 ds = misfit i (ds.drop i)) ∨ (ks ≠ [] ∧ (misfit 0 ds).isSome = true)
theorem Bad.good {ds : List D} {i : Nat} {d : D} {ks : List Int} (h : Bad ds i ks) (hd : ds[i]? = some d) (hf : fits i d = true) : Bad ds (i + 1) ks := by
  rcases h with ⟨h1, h2⟩ | h
  · exact .inl ⟨h1, (misfit_step hd h2).1 hf⟩
  · exact .inr h
theorem Bad.bad {ds : List D} {i : Nat} {d : D} {ks : List Int} {x : Int} (h : Bad ds i ks) (hd : ds[i]? = some d) (hf : ¬ fits i d = true) : Bad ds (i + 1) (ks ++ [x]) := by
  rcases h with ⟨h1, h2⟩ | h
  · exact .inr ⟨by simp, by rw [(misfit_step hd h2).2 hf]; rfl⟩
  · exact .inr ⟨by simp, h.2⟩
theorem Bad.done {ds : List D} {ks : List Int} (h : Bad ds ds.length ks) : (ks.map PyData.int).isEmpty = (misfit 0 ds).isNone := by
  rcases h with ⟨h1, h2⟩ | ⟨h1, h2⟩
  · rw [h1, h2, List.drop_length]
    rfl
  · cases ks with
    | nil => exact absurd rfl h1
    | cons a r =>
      cases hm : misfit 0 ds with
      | none => rw [hm] at h2; cases h2
      | some j => rfl
theorem kinds_at {d : D} {i : Nat} : atI [V.bl (isName d), V.bl (isPiece d), V.bl (isMark d), V.bl (isRow d)] (1 + (i : Int) % 2) = some (V.bl (fits i d)) := by
  by_cases h : i % 2 = 0
  · have e : (1 + (i : Int) % 2) = 1 := by omega
    rw [e]
    unfold fits
    rw [if_pos h]
    rfl
  · have e : (1 + (i : Int) % 2) = 2 := by omega
    rw [e]
    unfold fits
    rw [if_neg h]
    rfl
/-- kinds(thing), as deep as it goes -/
def spKinds (O : HO → Prop) (n : Nat) : Sp := fun vs H Q _ => ∃ v d, vs = [v] ∧ DV O H v d ∧ dep d ≤ n ∧ ∀ p H', Ex H H' → H p = none → H' p = some (.lst [.bl (isName d), .bl (isPiece d), .bl (isMark d), .bl (isRow d)]) → Q (.ref p) H'
end Gd
namespace Gd
open PySem PySem.Spec PyProof.Rows L2
/-- how many turns a law takes -/
theorem turns_le {n : Int} (m : Int) (h0 : 0 ≤ n) (h : 2 ≤ m) (hm : m ≤ 50) : 0 ≤ (if (if n < m then n else m) > 2 then (if n < m then n else m) else 2) ∧ (if (if n < m then n else m) > 2 then (if n < m then n else m) else 2) ≤ 50 := by
  constructor <;> (split <;> split <;> omega)
end Gd
namespace Gd
open PySem PySem.Spec PyProof.Rows L2
theorem asc_mul {z : Str} {n : Int} (h : ∀ c ∈ z.cps.toList, c < 128) : ∀ c ∈ (mulS z n).cps.toList, c < 128 := by
  intro c hc
  have : c ∈ (List.replicate n.toNat z.cps.toList).flatten := by simpa [mulS] using hc
  obtain ⟨l, hl, hc⟩ := List.mem_flatten.mp this
  rw [(List.mem_replicate.mp hl).2] at hc
  exact h c hc
theorem len_mul (z : Str) (n : Int) : (mulS z n).length = n.toNat * z.length := by
  show (mulS z n).cps.size = _
  simp [mulS, Str.length]
theorem DVs.rep {O : HO → Prop} {H : Hp} {vs : List V} {ds : List D} (h : DVs O H vs ds) : ∀ n : Nat, DVs O H (List.replicate n vs).flatten (List.replicate n ds).flatten
  | 0 => .nil
  | n + 1 => by
    rw [List.replicate_succ, List.replicate_succ, List.flatten_cons, List.flatten_cons]
    exact h.app (DVs.rep h n)
theorem rep_mem {q : D → Prop} {ds : List D} (h : ∀ d ∈ ds, q d) (n : Nat) : ∀ d ∈ (List.replicate n ds).flatten, q d := by
  intro d hd
  obtain ⟨l, hl, hc⟩ := List.mem_flatten.mp hd
  rw [(List.mem_replicate.mp hl).2] at hc
  exact h d hc
theorem rep_len {α : Type} (xs : List α) (n : Nat) : ((List.replicate n xs).flatten).length = n * xs.length := by simp
theorem cons_mem {q : D → Prop} {x : D} {xs : List D} (h : q x) (h2 : ∀ d ∈ xs, q d) : ∀ d ∈ x :: xs, q d := fun d hd => by
  rcases List.mem_cons.mp hd with rfl | hd
  · exact h
  · exact h2 d hd
theorem nil_mem {q : D → Prop} : ∀ d ∈ ([] : List D), q d := fun d hd => by simp at hd
end Gd
namespace Gd
open PySem PySem.Spec PyProof.Rows L2
theorem bool4 (a b c e : Bool) : PyData.showable (.list [.bool a, .bool b, .bool c, .bool e]) = true ∧ PyData.hasDict (.list [.bool a, .bool b, .bool c, .bool e]) = false ∧
    PyData.depth (.list [.bool a, .bool b, .bool c, .bool e]) ≤ 64 ∧ (PyData.shown (.list [.bool a, .bool b, .bool c, .bool e])).length ≤ sizeLine := by
  cases a <;> cases b <;> cases c <;> cases e <;> exact ⟨by decide +kernel, by decide +kernel, by decide +kernel, by decide +kernel⟩
theorem bool1 (a : Bool) : PyData.showable (.bool a) = true ∧ PyData.hasDict (.bool a) = false ∧ PyData.depth (.bool a) ≤ 64 ∧ (PyData.shown (.bool a)).length ≤ sizeLine := by
  cases a <;> exact ⟨by decide +kernel, by decide +kernel, by decide +kernel, by decide +kernel⟩
theorem ne_self (z : Str) : (!decide (V.str z = V.str z)) = false := by simp
end Gd
/-! The end of a law whose promise leans on empty guards. -/
namespace Gd
open PySem PySem.Spec PyProof.Rows L2

/-- the one place that the script may take in the abstract heap -/
def onlyAt (a : Addr) (o : Obj) (xs : List V) : Hp := fun b => if b = a then some (.frz o (.lst xs)) else none
theorem onlyAt_same {a : Addr} {o : Obj} {xs : List V} : onlyAt a o xs a = some (.frz o (.lst xs)) := if_pos rfl
theorem onlyAt_ne {a b : Addr} {o : Obj} {xs : List V} (h : b ≠ a) : onlyAt a o xs b = none := if_neg h

section
variable {P : Program} {w : World} {K : PySem.W.Frag} {mg mb : Str → Option Value} {CX : CXT} {k : Nat} {fa a : Addr} {fd : FuncData}
  {x : Str} {sp : Sp} {s₁ : Shared} {vs : List Value} {ns : List Int}

/-- what the end of the call says of the whole heap -/
theorem ended (H : Hp) (only : Only H) (ok : HOk P w H s₁.heap) {r : Result} {s' : Shared}
    (hx : ∀ e s', ¬ CX [] H s₁ (fun _ _ _ => False) e s')
    (h : CR CX [] P w H s₁ (fun v _ => v = V.bl true) (fun _ _ _ => False) r s') :
    r = .ok (.ret (.bool true)) ∧ OldK s₁.heap s'.heap ∧ s'.os = s₁.os ∧ AllBare s'.gens := by
  match r, h with
  | .error e, h => exact absurd h (hx e s')
  | .ok .next, h => exact h.elim
  | .ok .brk, h => exact h.elim
  | .ok .cont, h => exact h.elim
  | .ok (.ret u), ⟨v, H', os, bare, un, ok', rv, hv⟩ =>
    have hv' : v = V.bl true := hv
    subst hv'
    have hu : u = Value.bool true := rv
    subst hu
    refine ⟨rfl, ?_, os, bare⟩
    apply OldK.of_keep
    intro b o hb
    have none_in : b ∉ ([] : List Addr) := by simp
    rcases only b with hn | ⟨ob, ys, hf⟩
    · exact un.keep b o hb hn none_in none_in
    · have e1 := (ok b _ hf).1
      have e2 := (ok' b _ (un.frzs b ob _ hf)).1
      rw [hb] at e1
      cases e1
      exact e2

theorem callG (KX : K.In s₁.heap) (hns : s₁.heap.Ns mainGlobals mg) (hb : s₁.heap.Ns builtinsNs mb) (hbb : ∀ x : Str, x ≠ "__name__" → mb x = bootBuiltins x)
    (hlim : s₁.heap.NoLimit) (hg : s₁.gens = #[]) (ha : s₁.heap.get? a = some { cls := .type "list", data := .seq vs.toArray }) (hi : IntsAre vs ns)
    (hl : ns.length ≤ sizeLine) (hr : Room k callerA)
    (F : ∀ base : Heap, K.In base → base.Ns mainGlobals mg → FnG P w K mg base CX k fa fd [x] sp)
    (hbind : ∀ (s : Shared) (u : Value), BindsTo s fd ⟨[u], []⟩ [(x, u)])
    (hsp : ∀ H : Hp, Only H → SqL K H a (ns.map V.int) → sp [.ref a] H (fun v _ => v = .bl true) fun _ _ _ => False)
    (hCX : ∀ H e s', ¬ CX [] H s₁ (fun _ _ _ => False) e s') :
    codeAny (model P w) callerA (.call (.ref fa) ⟨[.ref a], []⟩)
      (fun r s' => r = .ok (.ret (.bool true)) ∧ OldK s₁.heap s'.heap ∧ s'.os = s₁.os ∧ AllBare s'.gens) s₁ := by
  have rv := vals_ints hi
  have lenV := hi.length
  have go : ∀ H : Hp, Only H → SqL K H a (ns.map V.int) → HOk P w H s₁.heap → (∀ b, H b ≠ none → b = a ∧ K.lookup b = none) →
      codeAny (model P w) callerA (.call (.ref fa) ⟨[.ref a], []⟩)
        (fun r s' => r = .ok (.ret (.bool true)) ∧ OldK s₁.heap s'.heap ∧ s'.os = s₁.os ∧ AllBare s'.gens) s₁ := by
    intro H only sq ok at_a
    have free : ∀ {b : Addr} {o : Obj}, s₁.heap.get? b = some o → (∀ us, o.data ≠ .seq us) → H b = none := by
      intro b o e nd
      cases q : H b with
      | none => rfl
      | some u =>
        obtain ⟨z, _⟩ := at_a b (by rw [q]; exact Option.some_ne_none u)
        rw [z, ha] at e
        cases e
        exact absurd rfl (nd vs.toArray)
    have nsH : ∀ {b : Addr} {m : Str → Option Value}, s₁.heap.Ns b m → (hidT s₁.heap H).Ns b m := by
      intro b m ⟨o, es, ep, e, d, rest⟩
      exact ⟨o, es, ep, hidT_get e (free e fun us h => by rw [d] at h; cases h), d, rest⟩
    have KH : K.In (hidT s₁.heap H) := by
      intro b o e
      refine hidT_get (KX b o e) ?_
      cases q : H b with
      | none => rfl
      | some u =>
        obtain ⟨_, z⟩ := at_a b (by rw [q]; exact Option.some_ne_none u)
        rw [z] at e
        cases e
    obtain ⟨mc, lim1, lim2⟩ := hlim
    have hM : Mod K mg (hidT s₁.heap H) := ⟨KH, nsH hns, ⟨mb, nsH hb, hbb⟩, ⟨mc, nsH lim1, lim2⟩⟩
    have e0 : Env0 P w K mg (hidT s₁.heap H) callerA [] s₁ H := by
      refine ⟨rfl, hM, fun b o e => of_hidT e, Nat.le_of_eq (hidT_size _ _), trivial, ?_, ok, .of_eq hg⟩
      intro b hb
      exact absurd (show b ∈ ([] : List Addr) from hb) (by simp)
    have run := (F _ KH (nsH hns)).run callerA [] s₁ H ⟨[.ref a], []⟩ [.ref a] [.ref a] _ _ rfl hr e0 (hbind s₁ (.ref a)) (.cons rfl .nil) (hsp H only sq)
    exact codeAny_mono run fun r s' h => ended H only ok (hCX H) h
  cases hk : K.lookup a with
  | some o =>
    have e := KX a o hk
    rw [ha] at e
    cases e
    apply go (fun _ => none) (fun _ => Or.inl rfl)
    · exact Or.inr ⟨_, vs.toArray, _, hk, rfl, rfl, rfl, by rw [List.size_toArray, lenV]; exact hl, by simpa using rv⟩
    · intro b u z
      cases (show (none : Option HO) = some u from z)
    · intro b z
      exact absurd rfl z
  | none =>
    apply go (onlyAt a { cls := .type "list", data := .seq vs.toArray } (ns.map V.int))
    · intro b
      by_cases hb : b = a
      · subst hb
        exact Or.inr ⟨_, _, onlyAt_same⟩
      · exact Or.inl (onlyAt_ne hb)
    · exact Or.inl (Or.inr ⟨_, onlyAt_same⟩)
    · intro b u z
      by_cases hb : b = a
      · subst hb
        rw [onlyAt_same] at z
        cases z
        exact ⟨ha, by rw [List.length_map]; exact hl, vs, _, rv, ha⟩
      · rw [onlyAt_ne hb] at z
        cases z
    · intro b z
      by_cases hb : b = a
      · subst hb
        exact ⟨rfl, hk⟩
      · exact absurd (onlyAt_ne hb) z
end

/-- the goal that k_head leaves -/
theorem walkG {l : PySem.W.OpenLaw} {n k : Nat} {q : Program} {loose : List Str} {XP : (Str → Option Value) → Heap → Prop} {YP : World → Heap → Prop}
    {d : DefRec} {K : Params → PySem.W.Frag} {sp : PySem.W.Frag → Sp} {x : Str}
    (hn : l.most = some n) (hn2 : n ≤ sizeLine) (hdf : d.params.defaults = []) (hr : Room k callerA)
    (hY : ∀ (w : World) (h : Heap), YP w h → (K w.params).In h)
    (F : ∀ (w : World) (mg : Str → Option Value) (fa : Addr) (h : Heap), (K w.params).In h → h.Ns mainGlobals mg → mg d.name = some (.ref fa) →
      ∃ fd : FuncData, (∀ (s : Shared) (u : Value), BindsTo s fd ⟨[u], []⟩ [(x, u)]) ∧
        ∀ base : Heap, (K w.params).In base → base.Ns mainGlobals mg → FnG l.prog w (K w.params) mg base CX0 k fa fd [x] (sp (K w.params)))
    (hsp : ∀ (K : PySem.W.Frag) (H : Hp) (a : Addr) (ns : List Int), ns.length ≤ n → Only H → SqL K H a (ns.map V.int) → sp K [.ref a] H (fun v _ => v = .bl true) fun _ _ _ => False) :
    PySem.W.WalkO q loose XP YP l.row.toRowW d [] (fun f vs => PySem.call f vs) := by
  apply Att.attach_call hn hdf
  intro w s₀ s₁ mg mb fa o pm cd doc a vs ns G Y ho hd hcd hmg hobj hints hlen hg
  obtain ⟨fd, hb, hF⟩ := F w mg fa _ (hY w _ Y) G.T.g hmg
  exact callG (hY w _ Y) G.T.g G.T.b G.T.builtins G.T.nolimit hg hobj hints (Nat.le_trans hlen hn2) hr hF hb
    (fun H hO hS => hsp (K w.params) H a ns hlen hO hS) (fun H e s' h => h)
end Gd
namespace Gd
open PySem PySem.Spec PyProof.Rows L2
/-- the law says True of every script of at most 63 ints -/
def spLaw (K : PySem.W.Frag) : Sp := fun vs H Q _ => ∃ (a : Addr) (ns : List Int), vs = [.ref a] ∧ SqL K H a (ns.map V.int) ∧ ns.length ≤ 63 ∧ ∀ H', Q (.bl true) H'
end Gd
namespace Gd
open PySem PySem.Spec PyProof.Rows L2
theorem kit_own {K : PySem.W.Frag} {C : Addr} {T : String} {b : Bool} (hm : PySem.W.kitMeta T = true) (h : PySem.W.subIn K (.ref C) (.type T) = some b) :
    PySem.W.kitOne K (.ref C) (.type T) = some b := by
  unfold PySem.W.kitOne
  rw [if_neg (show ¬ ((Value.ref C == Value.type T) = true) from Bool.false_ne_true)]
  show (if PySem.W.kitMeta T = true then PySem.W.subIn K (.ref C) (.type T) else none) = some b
  rw [if_pos hm]
  exact h
end Gd
/-! Drawn names: n different texts of one to four small letters. -/
namespace Gd
open PySem PySem.Spec PyProof.Rows L2

def abc : Str := "abcdefghijklmnopqrstuvwxyz"
theorem abc_nat : ∀ n < 26, atI abc.cps.toList ((n : Nat) : Int) = some (97 + n) := by decide +kernel
theorem abc_at {i : Int} (h0 : 0 ≤ i) (h1 : i < 26) : atI abc.cps.toList i = some (97 + i.toNat) := by
  have := abc_nat i.toNat (by omega)
  rwa [Int.toNat_of_nonneg h0] at this
theorem one_list (c : Nat) : (one c).cps.toList = [c] := rfl
theorem one_len (c : Nat) : (one c).length = 1 := rfl
theorem one_inj {c d : Nat} (h : one c = one d) : c = d := by
  have : (one c).cps.toList = (one d).cps.toList := by rw [h]
  simpa [one_list] using this
theorem low97 {i : Nat} (h : i < 26) : lowB (97 + i) = true := by unfold lowB; simp; omega
theorem nameB_of {z : Str} (h : ∀ c ∈ z.cps.toList, lowB c = true) (h1 : 1 ≤ z.length) (h2 : z.length ≤ 4) : nameB z = true := by
  unfold nameB
  rw [Bool.and_eq_true, Bool.and_eq_true]
  exact ⟨⟨List.all_eq_true.mpr h, decide_eq_true h1⟩, decide_eq_true h2⟩
theorem nameB_list {z : Str} (h : nameB z = true) : (∀ c ∈ z.cps.toList, lowB c = true) ∧ 1 ≤ z.length ∧ z.length ≤ 4 := by
  unfold nameB at h
  rw [Bool.and_eq_true, Bool.and_eq_true] at h
  exact ⟨List.all_eq_true.mp h.1.1, of_decide_eq_true h.1.2, of_decide_eq_true h.2⟩
theorem nameB_ok {z : Str} (h : nameB z = true) : okS z = true := by
  obtain ⟨h1, _, h2⟩ := nameB_list h
  exact okS_of (by omega) fun c hc => letB_lt (lowB_let (h1 c hc))
/-- n different names -/
structure Nam (n : Nat) (ys : List Str) : Prop where
  len : ys.length = n
  ok : ∀ y ∈ ys, nameB y = true
  nd : ys.Nodup
theorem nam_range {n : Nat} {g : Nat → Str} (ok : ∀ k < n, nameB (g k) = true) (inj : ∀ j k, j < n → k < n → g j = g k → j = k) : Nam n ((List.range n).map g) := by
  refine ⟨by simp, ?_, ?_⟩
  · intro y hy
    obtain ⟨k, hk, rfl⟩ := List.mem_map.mp hy
    exact ok k (List.mem_range.mp hk)
  · unfold List.Nodup
    rw [List.pairwise_map]
    refine List.Pairwise.imp_of_mem ?_ List.nodup_range
    intro j k hj hk hne e
    exact hne (inj j k (List.mem_range.mp hj) (List.mem_range.mp hk) e)
/-- the single letters -/
def sngC (f s k : Nat) : Nat := 97 + (f + s * k) % 26
def steps : List Nat := [1, 3, 5, 7, 9, 11]
theorem sngC_inj {f s j k : Nat} (hs : s ∈ steps) (hj : j < 26) (hk : k < 26) (h : sngC f s j = sngC f s k) : j = k := by
  unfold sngC at h
  unfold steps at hs
  simp only [List.mem_cons, List.not_mem_nil, or_false] at hs
  rcases hs with rfl | rfl | rfl | rfl | rfl | rfl <;> omega
theorem sng_at {f s k : Nat} : atI abc.cps.toList (((f : Int) + (s : Int) * (0 + (k : Nat))) % 26) = some (sngC f s k) := by
  have e : (((f : Int) + (s : Int) * (0 + (k : Nat))) % 26) = (((f + s * k) % 26 : Nat) : Int) := by simp
  rw [e]
  exact abc_nat _ (Nat.mod_lt _ (by decide))
theorem sng_low {f s k : Nat} : lowB (sngC f s k) = true := low97 (Nat.mod_lt _ (by decide))
theorem nam0 {f s n : Nat} (hs : s ∈ steps) (hn : n ≤ 26) : Nam n ((List.range n).map fun k => one (sngC f s k)) :=
  nam_range (fun k _ => nameB_of (fun c hc => by rw [one_list] at hc; simp at hc; rw [hc]; exact sng_low) (Nat.le_refl 1) (by show 1 ≤ 4; decide))
    fun j k hj hk e => sngC_inj hs (by omega) (by omega) (one_inj e)
theorem cut_list (z : Str) (lo hi : Option Int) : (cutS z lo hi).cps.toList = (z.cps.toList.drop (HT.sIx z.length 0 lo)).take (HT.sIx z.length z.length hi - HT.sIx z.length 0 lo) := rfl
theorem cut_mem {z : Str} {lo hi : Option Int} {c : Nat} (h : c ∈ (cutS z lo hi).cps.toList) : c ∈ z.cps.toList := by
  rw [cut_list] at h
  exact List.mem_of_mem_drop (List.mem_of_mem_take h)
theorem cut_len (z : Str) (lo hi : Option Int) : (cutS z lo hi).length = min (HT.sIx z.length z.length hi - HT.sIx z.length 0 lo) (z.length - HT.sIx z.length 0 lo) := by
  rw [len_list, cut_list, List.length_take, List.length_drop, ← len_list]
theorem cutS_le (z : Str) (lo hi : Option Int) : (cutS z lo hi).length ≤ z.length := by
  rw [cut_len]
  omega
theorem cut_head {z : Str} {i : Int} (h0 : 0 ≤ i) (h1 : i ≤ z.length) : (cutS z none (some i)).length = i.toNat := by
  rw [cut_len, sIx_in h0 h1]
  have : HT.sIx z.length 0 none = 0 := rfl
  rw [this]
  omega
theorem cut_tail {z : Str} {i : Int} (h0 : 0 ≤ i) (h1 : i ≤ z.length) : (cutS z (some i) none).length = z.length - i.toNat := by
  rw [cut_len, sIx_in h0 h1]
  have : HT.sIx z.length z.length none = z.length := rfl
  rw [this]
  omega
theorem app_len (x y : Str) : (x ++ y).length = x.length + y.length := by rw [len_list, str_app_list, List.length_append, ← len_list, ← len_list]
/-- three letters before, between, behind -/
theorem nam3 {f s n : Nat} {st : Str} {i : Int} (hs : s ∈ steps) (hn : n ≤ 26) (h3 : st.length = 3) (hl : ∀ c ∈ st.cps.toList, lowB c = true) (i0 : 0 ≤ i) (i1 : i < 3) :
    Nam n ((List.range n).map fun k => cutS st none (some i) ++ one (sngC f s k) ++ cutS st (some i) none) := by
  refine nam_range (fun k _ => nameB_of (fun c hc => ?_) ?_ ?_) fun j k hj hk e => sngC_inj (f := f) hs (by omega) (by omega) ?_
  · rw [str_app_list, str_app_list, List.mem_append, List.mem_append] at hc
    rcases hc with (hc | hc) | hc
    · exact hl c (cut_mem hc)
    · rw [one_list] at hc
      simp at hc
      rw [hc]
      exact sng_low
    · exact hl c (cut_mem hc)
  · rw [app_len, app_len, one_len]
    omega
  · rw [app_len, app_len, one_len, cut_head i0 (by omega), cut_tail i0 (by omega)]
    omega
  · have e2 := congrArg (fun z : Str => z.cps.toList) e
    simp only [str_app_list, one_list] at e2
    have e3 := List.append_cancel_right e2
    have e4 := List.append_cancel_left e3
    simpa using e4
theorem nam1 {f s n : Nat} {st : Str} (hs : s ∈ steps) (hn : n ≤ 26) (h3 : st.length = 3) (hl : ∀ c ∈ st.cps.toList, lowB c = true) :
    Nam n ((List.range n).map fun k : Nat => cutS st none (some (1 + (k : Int) % 3)) ++ one (sngC f s k)) := by
  have len : ∀ k : Nat, (cutS st none (some (1 + (k : Int) % 3)) ++ one (sngC f s k)).length = 2 + k % 3 := by
    intro k
    rw [app_len, one_len, cut_head (by omega) (by omega)]
    omega
  refine nam_range (fun k _ => nameB_of (fun c hc => ?_) ?_ ?_) fun j k hj hk e => sngC_inj (f := f) hs (by omega) (by omega) ?_
  · rw [str_app_list, List.mem_append] at hc
    rcases hc with hc | hc
    · exact hl c (cut_mem hc)
    · rw [one_list] at hc
      simp at hc
      rw [hc]
      exact sng_low
  · rw [len]; omega
  · rw [len]; omega
  · have h1 := len j
    rw [e, len k] at h1
    have h2 : (k : Int) % 3 = (j : Int) % 3 := by omega
    simp only [h2] at e
    have e2 := congrArg (fun z : Str => z.cps.toList) e
    simp only [str_app_list, one_list] at e2
    have e4 := List.append_cancel_left e2
    simpa using e4
theorem mul_list (z : Str) (n : Int) : (mulS z n).cps.toList = (List.replicate n.toNat z.cps.toList).flatten := by simp [mulS]
theorem nam2 {f s n : Nat} (hs : s ∈ steps) (hn : n ≤ 26) :
    Nam n ((List.range n).map fun k : Nat => mulS (one (sngC f s k)) (1 + (k : Int) % 4)) := by
  have lst : ∀ k : Nat, (mulS (one (sngC f s k)) (1 + (k : Int) % 4)).cps.toList = List.replicate (1 + k % 4) (sngC f s k) := by
    intro k
    have e : (1 + (k : Int) % 4).toNat = 1 + k % 4 := by omega
    rw [mul_list, e, one_list]
    generalize 1 + k % 4 = m
    induction m with
    | zero => rfl
    | succ m ih => rw [List.replicate_succ, List.flatten_cons, ih, List.replicate_succ]; rfl
  refine nam_range (fun k _ => nameB_of (fun c hc => ?_) ?_ ?_) fun j k hj hk e => sngC_inj (f := f) hs (by omega) (by omega) ?_
  · rw [lst] at hc
    rw [(List.mem_replicate.mp hc).2]
    exact sng_low
  · rw [len_list, lst, List.length_replicate]; omega
  · rw [len_list, lst, List.length_replicate]; omega
  · have e2 := congrArg (fun z : Str => z.cps.toList) e
    simp only [lst] at e2
    have m1 : sngC f s j ∈ List.replicate (1 + k % 4) (sngC f s k) := by
      rw [← e2]
      exact List.mem_replicate.mpr ⟨by omega, rfl⟩
    exact (List.mem_replicate.mp m1).2
/-- texts of two letters -/
def glue (x y : Str) : List Str := [x, y, x ++ y, y ++ x, x ++ x, y ++ y, x ++ y ++ x, y ++ x ++ y] ++ [x ++ x ++ y, y ++ y ++ x, x ++ y ++ x ++ y, y ++ x ++ y ++ x]
theorem glue_list (a b : Nat) : (glue (one a) (one b)).map (fun z => z.cps.toList) = [[a], [b], [a, b], [b, a], [a, a], [b, b], [a, b, a], [b, a, b], [a, a, b], [b, b, a], [a, b, a, b], [b, a, b, a]] := by
  simp [glue, str_app_list, one_list]
theorem glue_nd {a b : Nat} (h : a ≠ b) : (glue (one a) (one b)).Nodup := by
  have h1 : ((glue (one a) (one b)).map (fun z => z.cps.toList)).Nodup := by
    rw [glue_list]
    have h' := h.symm
    simp [h, h']
  unfold List.Nodup at h1 ⊢
  rw [List.pairwise_map] at h1
  exact h1.imp fun hne e => hne (by rw [e])
theorem glue_ok {a b : Nat} (ha : lowB a = true) (hb : lowB b = true) : ∀ z ∈ glue (one a) (one b), nameB z = true := by
  have h1 : ∀ l ∈ (glue (one a) (one b)).map (fun z => z.cps.toList), (∀ c ∈ l, lowB c = true) ∧ 1 ≤ l.length ∧ l.length ≤ 4 := by
    rw [glue_list]
    simp [ha, hb]
  intro z hz
  have h2 := h1 _ (List.mem_map.mpr ⟨z, hz, rfl⟩)
  exact nameB_of h2.1 (by rw [len_list]; exact h2.2.1) (by rw [len_list]; exact h2.2.2)
theorem glue_len (x y : Str) : (glue x y).length = 12 := rfl
theorem nam4 {f n a b : Nat} (hn : n < 13) (h : a ≠ b) (ha : lowB a = true) (hb : lowB b = true) :
    Nam n ((List.range n).map fun k => (glue (one a) (one b)).getD ((f + 5 * k) % 12) Str.empty) := by
  have hlt : ∀ k, (f + 5 * k) % 12 < (glue (one a) (one b)).length := fun k => by rw [glue_len]; exact Nat.mod_lt _ (by decide)
  refine nam_range (fun k _ => ?_) fun j k hj hk e => ?_
  · apply glue_ok ha hb
    rw [List.getD_eq_getElem?_getD, List.getElem?_eq_getElem (hlt k)]
    exact List.getElem_mem _
  · simp only [List.getD_eq_getElem?_getD, List.getElem?_eq_getElem (hlt j), List.getElem?_eq_getElem (hlt k), Option.getD_some] at e
    have := (List.getElem_inj (glue_nd h)).mp e
    omega
theorem glue_at {f k a b : Nat} : atI ((glue (one a) (one b)).map V.str) (((f : Int) + 5 * (0 + (k : Nat))) % 12) = some (.str ((glue (one a) (one b)).getD ((f + 5 * k) % 12) Str.empty)) := by
  have e : (((f : Int) + 5 * (0 + (k : Nat))) % 12) = (((f + 5 * k) % 12 : Nat) : Int) := by simp
  have hlt : (f + 5 * k) % 12 < (glue (one a) (one b)).length := by rw [glue_len]; exact Nat.mod_lt _ (by decide)
  rw [e]
  unfold atI ixN
  rw [if_pos (by omega), List.length_map, if_pos (by omega)]
  show ((glue (one a) (one b)).map V.str)[((((f + 5 * k) % 12 : Nat) : Int)).toNat]? = _
  rw [Int.toNat_natCast, List.getElem?_map, List.getD_eq_getElem?_getD, List.getElem?_eq_getElem hlt]
  rfl
/-- names(box, n) -/
def spNames : Sp := fun vs H Q _ => ∃ (a : Addr) (c n : Nat), vs = [.ref a, .int (n : Nat)] ∧ BoxAt H a c ∧ c + 20 < 1000000000 ∧ n ≤ 26 ∧
  ∀ (p : Addr) (ys : List Str) (H' : Hp), Kp a H H' → BoxAt H' a (c + 20) → H p = none → p ≠ a → H' p = some (.lst (ys.map V.str)) → Nam n ys → Q (.ref p) H'
end Gd
namespace Gd
open PySem PySem.Spec PyProof.Rows L2
theorem l11 {a b : Nat} : (one a).length + (one b).length ≤ sizeLine := le_line (by rw [one_len, one_len]; decide)
theorem l21 {a b c : Nat} : (one a ++ one b).length + (one c).length ≤ sizeLine := le_line (by rw [app_len, one_len, one_len, one_len]; decide)
theorem l31 {a b c d : Nat} : (one a ++ one b ++ one c).length + (one d).length ≤ sizeLine := le_line (by rw [app_len, app_len, one_len, one_len, one_len, one_len]; decide)
theorem join_one (cs : List Nat) : (Txt.join "" (cs.map one)).cps.toList = cs := by
  rw [join_empty_list, List.map_map]
  induction cs with
  | nil => rfl
  | cons c cs ih =>
    rw [List.map_cons, List.flatten_cons, ih]
    rfl
theorem range_app {α : Type} (h : Nat → α) (i : Nat) : (List.range i).map h ++ [h i] = (List.range (i + 1)).map h := by
  rw [List.range_succ, List.map_append]
  rfl
theorem range_get {α : Type} {h : Nat → α} {n i : Nat} {x : α} (e : ((List.range n).map h)[i]? = some x) : i < n ∧ x = h i := by
  obtain ⟨hi, e2⟩ := List.getElem?_eq_some_iff.mp e
  simp at hi
  simp at e2
  exact ⟨hi, e2.symm⟩
end Gd
/-! Drawn pieces and rows. -/
namespace Gd
open PySem PySem.Spec PyProof.Rows L2
def abC : Str := "abcdefghijklmnopqrstuvwxyzABCDEFGHIJKLMNOPQRSTUVWXYZ"
theorem abC_nat : ∀ n < 52, ((atI abC.cps.toList ((n : Nat) : Int)).map letB) = some true := by decide +kernel
theorem abC_at {i : Int} (h0 : 0 ≤ i) (h1 : i < 52) : ∃ c, atI abC.cps.toList i = some c ∧ letB c = true := by
  have := abC_nat i.toNat (by omega)
  rw [Int.toNat_of_nonneg h0] at this
  cases e : atI abC.cps.toList i with
  | none => rw [e] at this; cases this
  | some c =>
    rw [e] at this
    exact ⟨c, rfl, by simpa using this⟩
/-- a def that draws a piece -/
def spPiece : Sp := fun vs H Q _ => ∃ (a : Addr) (c : Nat), vs = [.ref a] ∧ BoxAt H a c ∧ c + 42 < 1000000000 ∧
  ∀ (z : Str) (H' : Hp), Kp a H H' → BoxAt H' a (c + 42) → z.length ≤ 40 → pieceB z = true → Q (.str z) H'
theorem pieceB_of {z : Str} (h : ∀ c ∈ z.cps.toList, letB c = true) : pieceB z = true := List.all_eq_true.mpr h
theorem pieceB_list {z : Str} (h : pieceB z = true) : ∀ c ∈ z.cps.toList, letB c = true := List.all_eq_true.mp h
theorem pieceB_ok {z : Str} (h : pieceB z = true) (l : z.length ≤ 100000) : okS z = true := okS_of l fun c hc => letB_lt (pieceB_list h c hc)
end Gd
namespace Gd
open PySem PySem.Spec PyProof.Rows L2
theorem misfit_app {d : D} : ∀ {xs : List D} {i : Nat}, misfit i xs = none → fits (i + xs.length) d = true → misfit i (xs ++ [d]) = none
  | [], i, _, h => by
    show (if fits i d = true then misfit (i + 1) [] else some i) = none
    rw [if_pos (by simpa using h)]
    rfl
  | x :: xs, i, h, hd => by
    show (if fits i x = true then misfit (i + 1) (xs ++ [d]) else some i) = none
    have h' : (if fits i x = true then misfit (i + 1) xs else some i) = none := h
    by_cases hx : fits i x = true
    · rw [if_pos hx] at h' ⊢
      exact misfit_app h' (by rw [show i + 1 + xs.length = i + (x :: xs).length by simp; omega]; exact hd)
    · rw [if_neg hx] at h'
      cases h'
theorem fits_even {i : Nat} {z : Str} (h : i % 2 = 0) (hz : pieceB z = true) : fits i (.str z) = true := by
  unfold fits
  rw [if_pos h]
  exact hz
theorem fits_odd {i : Nat} {z : Str} {b : Bool} (h : i % 2 = 1) (hz : nameB z = true) : fits i (.tup [.str z, .bl b]) = true := by
  unfold fits
  rw [if_neg (by omega)]
  show (nameB z && true) = true
  rw [hz]
  rfl
/-- a drawn row: valid, its pieces of at most forty letters -/
structure Good (ds : List D) : Prop where
  fit : misfit 0 ds = none
  sm : ∀ z, D.str z ∈ ds → z.length ≤ 40
/-- a def that draws a row of n markers -/
def spRow (O : HO → Prop) : Sp := fun vs H Q _ => ∃ (a : Addr) (c n : Nat) (G : Hp), vs = [.ref a, .int (n : Nat)] ∧ BoxAt H a c ∧ c + 3000 < 1000000000 ∧ n ≤ 50 ∧ Ex G H ∧ G a = none ∧
  ∀ (v : V) (ds : List D) (G' H' : Hp), Sta G H G' H' a (c + 3000) → DV O G' v (.lst ds) → Good ds → ds.length = 2 * n + 1 → Q v H'
end Gd
/-! Flipping: letters in the other case, backward. -/
namespace Gd
open PySem PySem.Spec PyProof.Rows L2
def swC (c : Nat) : Nat := if upB c = true then c + 32 else if lowB c = true then c - 32 else c
theorem uni_case : ∀ c < 128, Unicode.lowerOf c = [if upB c = true then c + 32 else c] ∧ Unicode.upperOf c = [if lowB c = true then c - 32 else c] := by decide +kernel
theorem swap_at {a : Array Nat} {i c : Nat} (h : a[i]? = some c) (hc : c < 128) :
    (if Unicode.isUpper c = true then Unicode.lowerAt a i else if Unicode.isLower c = true then Unicode.upperOf c else [c]) = [swC c] := by
  obtain ⟨_, h2, h3, _⟩ := uni_ascii c hc
  obtain ⟨u1, u2⟩ := uni_case c hc
  have e : Unicode.lowerAt a i = Unicode.lowerOf c := by
    unfold Unicode.lowerAt
    rw [h]
    have : (c == 931) = false := by simp; omega
    simp [this]
  rw [e, u1, u2, h2, h3]
  unfold swC
  split
  · rfl
  · split <;> rfl
theorem swap_list {z : Str} (h : ∀ c ∈ z.cps.toList, c < 128) : (Txt.swapcase z).cps.toList = z.cps.toList.map swC := by
  have e : Array.mapIdx (fun i c => (if Unicode.isUpper c = true then Unicode.lowerAt z.cps i else if Unicode.isLower c = true then Unicode.upperOf c else [c]).toArray) z.cps = z.cps.map fun c => #[swC c] := by
    apply Array.ext
    · simp
    · intro i h1 h2
      have hi : i < z.cps.size := by simpa using h1
      rw [Array.getElem_mapIdx, Array.getElem_map, swap_at (c := z.cps[i]) (by simp [hi]) (h _ (by simp))]
  show (placed z _).toList = _
  unfold placed
  rw [e]
  simp only [Array.toList_flatten, Array.toList_map, List.map_map]
  generalize z.cps.toList = l
  induction l with
  | nil => rfl
  | cons c l ih =>
    rw [List.map_cons, List.flatten_cons, List.map_cons, ih]
    rfl
/-- a piece flipped -/
def turnS (z : Str) : Str := ⟨(z.cps.toList.reverse.map swC).toArray⟩
theorem turnS_list (z : Str) : (turnS z).cps.toList = z.cps.toList.reverse.map swC := by simp [turnS]
theorem turnS_len (z : Str) : (turnS z).length = z.length := by rw [Gd.len_list, turnS_list, Gd.len_list]; simp
theorem turnS_eq {z : Str} (h : ∀ c ∈ z.cps.toList, c < 128) : Txt.swapcase (revS z) = turnS z := by
  apply str_ext
  rw [swap_list (by rw [revS_list]; intro c hc; exact h c (by simpa using hc)), revS_list, turnS_list]
theorem swC_let {c : Nat} (h : letB c = true) : letB (swC c) = true ∧ swC (swC c) = c := by
  unfold letB at h
  unfold swC letB upB lowB at *
  simp only [Bool.or_eq_true, Bool.and_eq_true, decide_eq_true_eq] at *
  by_cases h1 : 65 ≤ c ∧ c ≤ 90
  · rw [if_pos h1]
    have : ¬ (65 ≤ c + 32 ∧ c + 32 ≤ 90) := by omega
    rw [if_neg this, if_pos (by omega)]
    omega
  · rw [if_neg h1, if_pos (by omega)]
    rw [if_pos (by omega)]
    omega
theorem turnS_piece {z : Str} (h : pieceB z = true) : pieceB (turnS z) = true := by
  apply pieceB_of
  rw [turnS_list]
  intro c hc
  obtain ⟨d, hd, rfl⟩ := List.mem_map.mp hc
  exact (swC_let (pieceB_list h d (by simpa using hd))).1
theorem turnS_two {z : Str} (h : pieceB z = true) : turnS (turnS z) = z := by
  apply str_ext
  rw [turnS_list, turnS_list]
  have : ∀ l : List Nat, (∀ c ∈ l, letB c = true) → (l.reverse.map swC).reverse.map swC = l := by
    intro l hl
    rw [← List.map_reverse, List.reverse_reverse, List.map_map]
    have e : l.map (swC ∘ swC) = l.map id := List.map_congr_left fun c hc => (swC_let (hl c hc)).2
    rw [e, List.map_id]
  exact this _ (pieceB_list h)
theorem turnS_app {x y : Str} : turnS (x ++ y) = turnS y ++ turnS x := by
  apply str_ext
  rw [turnS_list, str_app_list, str_app_list, turnS_list, turnS_list]
  simp
/-- an item flipped -/
def turnD : D → D
  | .str z => .str (turnS z)
  | .tup [x, .bl b] => .tup [x, .bl (!b)]
  | d => d
/-- a row flipped -/
def flipD (ds : List D) : List D := (ds.map turnD).reverse
theorem flipD_len (ds : List D) : (flipD ds).length = ds.length := by simp [flipD]
theorem mark_cases {d : D} (h : isMark d = true) : ∃ z b, d = .tup [.str z, .bl b] ∧ nameB z = true := by
  cases d with
  | tup xs =>
    match xs, h with
    | [x, y], h =>
      have h' : (isName x && isBl y) = true := h
      rw [Bool.and_eq_true] at h'
      cases x with
      | str z =>
        cases y with
        | bl b => exact ⟨z, b, rfl, h'.1⟩
        | _ => cases h'.2
      | _ => cases h'.1
  | _ => cases h
theorem piece_cases {d : D} (h : isPiece d = true) : ∃ z, d = .str z ∧ pieceB z = true := by
  cases d with
  | str z => exact ⟨z, rfl, h⟩
  | _ => cases h
theorem fits_cases {i : Nat} {d : D} (h : fits i d = true) : (i % 2 = 0 ∧ ∃ z, d = .str z ∧ pieceB z = true) ∨ (i % 2 = 1 ∧ ∃ z b, d = .tup [.str z, .bl b] ∧ nameB z = true) := by
  unfold fits at h
  by_cases hi : i % 2 = 0
  · rw [if_pos hi] at h
    exact .inl ⟨hi, piece_cases h⟩
  · rw [if_neg hi] at h
    exact .inr ⟨by omega, mark_cases h⟩
theorem misfit_get {ds : List D} {i : Nat} {k : Nat} (h : misfit k ds = none) {d : D} (e : ds[i]? = some d) : fits (k + i) d = true := by
  induction ds generalizing i k with
  | nil => simp at e
  | cons x xs ih =>
    have h' : (if fits k x = true then misfit (k + 1) xs else some k) = none := h
    by_cases hx : fits k x = true
    · rw [if_pos hx] at h'
      cases i with
      | zero => simp at e; subst e; exact hx
      | succ i =>
        have := ih h' (by simpa using e)
        rwa [show k + 1 + i = k + (i + 1) by omega] at this
    · rw [if_neg hx] at h'
      cases h'
theorem misfit_of {ds : List D} {k : Nat} (h : ∀ i d, ds[i]? = some d → fits (k + i) d = true) : misfit k ds = none := by
  induction ds generalizing k with
  | nil => rfl
  | cons x xs ih =>
    show (if fits k x = true then misfit (k + 1) xs else some k) = none
    rw [if_pos (show fits k x = true from h 0 x rfl)]
    exact ih fun i d e => by
      have := h (i + 1) d (by simpa using e)
      rwa [show k + (i + 1) = k + 1 + i by omega] at this
theorem turnD_fits {i : Nat} {d : D} (h : fits i d = true) : fits i (turnD d) = true := by
  rcases fits_cases h with ⟨hi, z, rfl, hz⟩ | ⟨hi, z, b, rfl, hz⟩
  · exact fits_even hi (turnS_piece hz)
  · exact fits_odd hi hz
theorem turnD_two {i : Nat} {d : D} (h : fits i d = true) : turnD (turnD d) = d := by
  rcases fits_cases h with ⟨hi, z, rfl, hz⟩ | ⟨hi, z, b, rfl, hz⟩
  · show D.str _ = _
    rw [turnS_two hz]
  · show D.tup [.str z, .bl (!!b)] = _
    rw [Bool.not_not]
theorem flipD_get {ds : List D} {i : Nat} {d : D} (e : (flipD ds)[i]? = some d) : i < ds.length ∧ ∃ x, ds[ds.length - 1 - i]? = some x ∧ d = turnD x := by
  unfold flipD at e
  have hi : i < ds.length := by
    obtain ⟨h, _⟩ := List.getElem?_eq_some_iff.mp e
    simpa using h
  rw [List.getElem?_reverse (by simpa using hi), List.length_map, List.getElem?_map] at e
  cases q : ds[ds.length - 1 - i]? with
  | none => rw [q] at e; cases e
  | some x => rw [q] at e; exact ⟨hi, x, rfl, by simpa using e.symm⟩
theorem flipD_good {ds : List D} (h : misfit 0 ds = none) (ho : ds.length % 2 = 1) : misfit 0 (flipD ds) = none := by
  refine misfit_of fun i d e => ?_
  obtain ⟨hi, x, hx, rfl⟩ := flipD_get e
  have h1 := turnD_fits (misfit_get h hx)
  unfold fits at h1 ⊢
  have : (0 + (ds.length - 1 - i)) % 2 = (0 + i) % 2 := by omega
  rw [this] at h1
  exact h1
theorem flipD_two {ds : List D} (h : misfit 0 ds = none) : flipD (flipD ds) = ds := by
  unfold flipD
  rw [List.map_reverse, List.reverse_reverse, List.map_map]
  have : ds.map (turnD ∘ turnD) = ds.map id := by
    apply List.map_congr_left
    intro d hd
    obtain ⟨i, hi⟩ := List.getElem?_of_mem hd
    exact turnD_two (misfit_get h hi)
  rw [this, List.map_id]
/-- flip_piece, flip_marker, flip_row -/
def spFlipP : Sp := fun vs H Q _ => ∃ z, vs = [.str z] ∧ pieceB z = true ∧ z.length ≤ 100000 ∧ ∀ H', Ex H H' → Q (.str (turnS z)) H'
def spFlipM : Sp := fun vs H Q _ => ∃ t z b, vs = [.ref t] ∧ H t = some (.tup [.str z, .bl b]) ∧ nameB z = true ∧ ∀ p G, Ex H G → H p = none → G p = none → Q (.ref p) (upd G p (.tup [.str z, .bl (!b)]))
def spFlipR (O : HO → Prop) : Sp := fun vs H Q _ => ∃ v ds, vs = [v] ∧ (DV O H v (.lst ds) ∨ DV O H v (.tup ds)) ∧ misfit 0 ds = none ∧ ds.length % 2 = 1 ∧
  ∀ l us G' H', Ex H G' → Ex G' H' → G' l = none → H l = none → H' l = some (.lst us) → DVs O G' us (flipD ds) → Q (.ref l) H'
end Gd
namespace Gd
open PySem PySem.Spec PyProof.Rows L2
section
variable {O : HO → Prop} {H : Hp}
theorem DVs.rev : ∀ {vs : List V} {ds : List D}, DVs O H vs ds → DVs O H vs.reverse ds.reverse
  | _, _, .nil => .nil
  | _, _, .cons h r => by
    rw [List.reverse_cons, List.reverse_cons]
    exact (DVs.rev r).app (.cons h .nil)
theorem mark_val {x : V} {z : Str} {b : Bool} (h : DV O H x (.tup [.str z, .bl b])) : ∃ t, x = .ref t ∧ H t = some (.tup [.str z, .bl b]) := by
  cases h with
  | @tup t ws _ ht hd _ =>
    match ws, hd with
    | [_, _], .cons (.str _ _) (.cons (.bl _) .nil) => exact ⟨t, rfl, ht⟩
theorem str_val {x : V} {z : Str} (h : DV O H x (.str z)) : x = .str z ∧ okS z = true := by
  cases h with
  | str _ h => exact ⟨rfl, h⟩
theorem bl_val {x : V} {b : Bool} (h : DV O H x (.bl b)) : x = .bl b := by
  cases h with
  | bl _ => rfl
end
theorem flip_take {ds : List D} {i : Nat} {d : D} (h : ds.reverse[i]? = some d) : (flipD ds).take (i + 1) = (flipD ds).take i ++ [turnD d] := by
  rw [List.take_add_one]
  unfold flipD
  rw [← List.map_reverse, List.getElem?_map, h]
  rfl
theorem rev_fits {ds : List D} {i : Nat} {d : D} (hm : misfit 0 ds = none) (ho : ds.length % 2 = 1) (h : ds.reverse[i]? = some d) : fits i d = true := by
  have hi : i < ds.length := by
    obtain ⟨h, _⟩ := List.getElem?_eq_some_iff.mp h
    simpa using h
  rw [List.getElem?_reverse hi] at h
  have h1 := misfit_get hm h
  unfold fits at h1 ⊢
  have : (0 + (ds.length - 1 - i)) % 2 = i % 2 := by omega
  rw [this] at h1
  exact h1
end Gd
/-! list(zip(s, t)): the walk of a zip into a list. -/
namespace Gd
open PySem PySem.Spec PyProof.Rows L2 Builtin
theorem zipD2_held {prog : Program} {w : World} {A : Around} {E : Value → Shared → Prop} {s : Shared} {z TI TO T i1 i2 : Addr} {f : Bool} {oT : Obj} {fp1 fp2 : List Addr} {n1 n2 i : Nat}
    {P1 P2 : Nat → Value → Prop} {St1 St2 : Nat → Heap → Prop} {Q : Value → Shared → Prop}
    (sep : ZipSep2 z TI TO i1 i2 fp1 fp2) (D1 : Draws prog w A i1 fp1 n1 P1 St1) (D2 : Draws prog w A i2 fp2 n2 P2 St2)
    (hz : IsZipHeld s.heap z TI TO T f) (hT : s.heap.get? T = some oT) (hTI : IsTupOf2 s.heap TI (.ref i1) (.ref i2)) (h1 : St1 i s.heap) (h2 : St2 i s.heap) (l1 : i < n1) (l2 : i < n2)
    (hQ : ∀ x1 x2 h' tk, P1 i x1 → P2 i x2 → IsZipHeld h' z TI TO T true → St1 (i + 1) h' → St2 (i + 1) h' → IsTupOf2 h' s.heap.objs.size x1 x2 → h'.objs.size = s.heap.objs.size + 1 →
      (∀ c o, c ≠ z → c ≠ i1 → c ≠ i2 → s.heap.get? c = some o → h'.get? c = some o) → Q (.ref s.heap.objs.size) { heap := h', gens := s.gens, drawn := s.drawn, toks := tk, os := s.os }) :
    wpAny (model prog w) A (Builtin.«zip.__next__» ⟨[.ref z], []⟩) (fun fin s' => ∃ v, fin = Fin.done (.ret v) ∧ Q v s') E s := by
  have q1 : ∀ {A' : Around} {Q : Bool → Shared → Prop} {E : Value → Shared → Prop}, (∀ h', IsZipHeld h' z TI TO T true → Heap.SameBut z s.heap h' → Q false { heap := h', gens := s.gens, drawn := s.drawn, toks := s.toks, os := s.os }) →
      wpAny (model prog w) A' (Builtin.SmallTypes.ownedTupleIsFree (.ref z)) Q E s := fun q => wpAny_tupleHeld_zip hz hT q
  obtain ⟨hp, g, d, tk, os⟩ := s
  dsimp only at *
  wp_walk using q1
  intro h' hz' sb
  have k' : ∀ b : Addr, b ≠ z → ∀ o : Obj, hp.get? b = some o → h'.get? b = some o := fun b hb o q => (sb.2 b hb).trans q
  have a1 : St1 i h' := D1.frame i _ _ h1 fun b hb o q => k' b (fun e => sep.zf1 (e ▸ hb)) o q
  have a2 : St2 i h' := D2.frame i _ _ h2 fun b hb o q => k' b (fun e => sep.zf2 (e ▸ hb)) o q
  have q2 : ∀ {Q E : Value → Shared → Prop}, (∀ (x : Value) (h'' : Heap) (tk' : Nat), P1 i x → St1 (i + 1) h'' → Heap.SameBut i1 h' h'' → Q x { heap := h'', gens := g, drawn := d, toks := tk', os := os }) →
      wpAny (model prog w) A (SmallTypes.nextOf (.ref i1)) Q E { heap := h', gens := g, drawn := d, toks := tk, os := os } := fun q => D1.item i _ _ _ l1 a1 q
  have q3 : ∀ {Q E : Value → Shared → Prop} {h3 : Heap} {tk3 : Nat}, St2 i h3 → (∀ (x : Value) (h'' : Heap) (tk' : Nat), P2 i x → St2 (i + 1) h'' → Heap.SameBut i2 h3 h'' → Q x { heap := h'', gens := g, drawn := d, toks := tk', os := os }) →
      wpAny (model prog w) A (SmallTypes.nextOf (.ref i2)) Q E { heap := h3, gens := g, drawn := d, toks := tk3, os := os } := fun a q => D2.item i _ _ _ l2 a q
  clear q1
  simp only [Bool.false_eq_true, if_false, ← Array.forIn_toList, List.forIn_cons, List.forIn_nil]
  wp_walk using q2, q3
  intro x1 ha tk1 p1 b1 sb1
  have k1 : ∀ b : Addr, b ≠ i1 → ∀ o : Obj, h'.get? b = some o → ha.get? b = some o := fun b hb o q => (sb1.2 b hb).trans q
  have b2 : St2 i ha := D2.frame i _ _ a2 fun b hb o q => k1 b (fun e => sep.sep1_2 (e ▸ hb)) o q
  have q4 : ∀ {Q E : Value → Shared → Prop}, (∀ (x : Value) (h'' : Heap) (tk' : Nat), P2 i x → St2 (i + 1) h'' → Heap.SameBut i2 ha h'' → Q x { heap := h'', gens := g, drawn := d, toks := tk', os := os }) →
      wpAny (model prog w) A (SmallTypes.nextOf (.ref i2)) Q E { heap := ha, gens := g, drawn := d, toks := tk1, os := os } := fun q => D2.item i _ _ _ l2 b2 q
  wp_walk using q4
  intro x2 hb tk2 p2 c2 sb2
  wp_walk
  refine ⟨_, rfl, ?_⟩
  have k2 : ∀ b : Addr, b ≠ i2 → ∀ o : Obj, ha.get? b = some o → hb.get? b = some o := fun b hb o q => (sb2.2 b hb).trans q
  have kp : ∀ b o, hb.get? b = some o → (hb.push { cls := Value.type "tuple", data := Data.seq #[x1, x2] }).get? b = some o := fun b o q => Heap.get?_push_of_some _ q
  have sz : hb.objs.size = hp.objs.size := by rw [sb2.1, sb1.1, sb.1]
  have hzb : IsZipHeld hb z TI TO T true := k2 z (fun e => sep.zf2 (by rw [e]; exact sep.mem2)) _ (k1 z (fun e => sep.zf1 (by rw [e]; exact sep.mem1)) _ hz')
  have c1 : St1 (i + 1) hb := D1.frame _ _ _ b1 fun b hb' o q => k2 b (fun e => sep.sep2_1 (e ▸ hb')) o q
  have hq' := hQ x1 x2 (hb.push { cls := Value.type "tuple", data := Data.seq #[x1, x2] }) tk2 p1 p2 (kp _ _ hzb)
    (D1.frame _ _ _ c1 fun b _ o q => kp b o q) (D2.frame _ _ _ c2 fun b _ o q => kp b o q)
  rw [← sz] at hq'
  refine hq' (Heap.get?_push_size _ rfl) (Heap.size_push ..) fun c o h1 h2 h3 q => kp _ _ (k2 c h3 _ (k1 c h2 _ (k' c h1 _ q)))
theorem zipD2_held_end {prog : Program} {w : World} {A : Around} {E : Value → Shared → Prop} {s : Shared} {z TI TO T i1 i2 : Addr} {f : Bool} {oT : Obj} {fp1 fp2 : List Addr} {n1 : Nat}
    {P1 : Nat → Value → Prop} {St1 : Nat → Heap → Prop} {Q : Fin → Shared → Prop}
    (sep : ZipSep2 z TI TO i1 i2 fp1 fp2) (D1 : Draws prog w A i1 fp1 n1 P1 St1)
    (hz : IsZipHeld s.heap z TI TO T f) (hT : s.heap.get? T = some oT) (hTI : IsTupOf2 s.heap TI (.ref i1) (.ref i2)) (h1 : St1 n1 s.heap)
    (hE : ∀ (h' : Heap) (e : Addr), (∀ c o, c ≠ z → c ≠ i1 → s.heap.get? c = some o → h'.get? c = some o) → (∃ o, h'.get? e = some o ∧ o.cls = Value.type "StopIteration") → E (.ref e) { heap := h', gens := s.gens, drawn := s.drawn, toks := s.toks, os := s.os }) :
    wpAny (model prog w) A (Builtin.«zip.__next__» ⟨[.ref z], []⟩) Q E s := by
  have q1 : ∀ {A' : Around} {Q : Bool → Shared → Prop} {E : Value → Shared → Prop}, (∀ h', IsZipHeld h' z TI TO T true → Heap.SameBut z s.heap h' → Q false { heap := h', gens := s.gens, drawn := s.drawn, toks := s.toks, os := s.os }) →
      wpAny (model prog w) A' (Builtin.SmallTypes.ownedTupleIsFree (.ref z)) Q E s := fun q => wpAny_tupleHeld_zip hz hT q
  obtain ⟨hp, g, d, tk, os⟩ := s
  dsimp only at *
  wp_walk using q1
  intro h' hz' sb
  have k' : ∀ b : Addr, b ≠ z → ∀ o : Obj, hp.get? b = some o → h'.get? b = some o := fun b hb o q => (sb.2 b hb).trans q
  have a1 : St1 n1 h' := D1.frame _ _ _ h1 fun b hb o q => k' b (fun e => sep.zf1 (e ▸ hb)) o q
  have q2 : ∀ {Q E : Value → Shared → Prop}, (∀ (h'' : Heap) (e : Addr), Heap.ExtBut i1 h' h'' → (∃ o, h''.get? e = some o ∧ o.cls = Value.type "StopIteration") → E (.ref e) { heap := h'', gens := g, drawn := d, toks := tk, os := os }) →
      wpAny (model prog w) A (SmallTypes.nextOf (.ref i1)) Q E { heap := h', gens := g, drawn := d, toks := tk, os := os } := fun q => D1.done _ _ _ a1 q
  simp only [Bool.false_eq_true, if_false, ← Array.forIn_toList, List.forIn_cons, List.forIn_nil]
  wp_walk using q2
  intro h'' e eb he
  exact hE h'' e (fun c o h1 h2 q => eb c o h2 (k' c h1 _ q)) he
end Gd
namespace Gd
open PySem PySem.Spec PyProof.Rows L2 Builtin
theorem zip_pyNext {prog : Program} {w : World} {A : Around} {E : Value → Shared → Prop} {s : Shared} {z : Addr} {o : Obj} {Q : Option Value → Shared → Prop}
    (hz : s.heap.get? z = some o) (hc : o.cls = .type "zip")
    (h : wpAny (model prog w) A.in1 (Builtin.«zip.__next__» ⟨[.ref z], []⟩) (fun fin s' => ∃ v, fin = Fin.done (.ret v) ∧ Q (some v) s')
      (fun e s' => ∃ a o, e = .ref a ∧ s'.heap.get? a = some o ∧ o.cls = .type "StopIteration" ∧ Q none s') s) :
    wpAny (model prog w) A (pyNext (.ref z)) Q E s := by
  unfold pyNext
  have ty : s.TypeIs (.ref z) "zip" := ⟨o, hz, hc⟩
  refine wpAny_bind (wpAny_attempt (wpAny_callSpecial?_slot (T := "zip") (id := "zip.__next__") ty F.slot_zip_next (wpAny_call_entry F.slot_zip_next ty F.entry_zip_next (wpAny_mono h ?_ ?_) (F.args_zip_next_1 _))))
  · rintro fin s' ⟨v, rfl, q⟩
    exact ⟨v, rfl, wpAny_pure q⟩
  · rintro e s' ⟨a, o, rfl, ha, hc, q⟩
    exact wpAny_bind (wpAny_isInstance (T := "StopIteration") ⟨o, ha, hc⟩ rfl (wpAny_pure q))
end Gd
namespace Gd
open PySem PySem.Spec PyProof.Rows L2 Builtin
theorem loop_one {prog : Program} {w : World} {A : Around} {s : Shared} {S z : Addr} {res : Value} {R : Result → Shared → Prop}
    (h : wpAny (model prog w) A.in1 (pyNext (.ref z)) (fun r s' => match r with
      | none => R (.ok (.ret res)) s'
      | some x => ∃ acc c, acc.size ≤ sizeLine ∧ s'.heap.get? S = some { cls := .type "list", data := .seq acc c } ∧ ∀ h', h'.objs.size = s'.heap.objs.size → (∃ c', h'.get? S = some { cls := .type "list", data := .seq (acc.push x) c' }) → (∀ b o, b ≠ S → s'.heap.get? b = some o → h'.get? b = some o) →
          codeAny (model prog w) A (.builtin "list.extend.loop" ⟨[.ref S, .ref z, res], []⟩) R { s' with heap := h' }) (fun e s' => R (.error e) s') s) :
    codeAny (model prog w) A (.builtin "list.extend.loop" ⟨[.ref S, .ref z, res], []⟩) R s := by
  refine codeAny_builtin (b := «list.extend.loop») rfl ?_
  show wpAny (model prog w) A.in1 _ _ _ _
  unfold «list.extend.loop»
  refine wpAny_bind (wpAny_mono h ?_ ?_)
  · intro r s' q
    cases r with
    | none => 
      wp_walk
      exact q
    | some x =>
      obtain ⟨acc, c, hsz, hS, q⟩ := q
      obtain ⟨hp, g, d, tk, os⟩ := s'
      dsimp only at hS q
      have q1 : ∀ {Q : Obj → Shared → Prop} {E : Value → Shared → Prop}, Q { cls := .type "list", data := .seq acc c } { heap := hp, gens := g, drawn := d, toks := tk, os := os } → wpAny (model prog w) A.in1 (load S) Q E { heap := hp, gens := g, drawn := d, toks := tk, os := os } := fun q => wpAny_load hS q
      wp_walk using q1
      have e : (Obj.mapSeq (fun y => y.push x) { cls := Value.type "list", data := Data.seq acc c }).data.pastItsLine = none := by
        show (if (acc.push x).size > sizeLine + 1 then some "sequence:memory" else none) = none
        rw [if_neg (by rw [Array.size_push]; omega)]
      rw [e]
      wp_walk
      refine ⟨by first | decide | (with_unfolding_all rfl) | (simp [Code.quiet]; done), q (hp.update S (Obj.mapSeq fun y => y.push x)) (Heap.size_update _ _ _) ⟨if ((acc.push x).size == acc.size) = true then c else c + 1, Heap.get?_update_self _ hS rfl⟩ (fun b o hb q' => ?_)⟩
      exact (Heap.get?_update_ne _ _ _ _ hb).trans q'
  · intro e s' q
    exact q
end Gd
namespace Gd
open PySem PySem.Spec PyProof.Rows L2 Builtin
/-- how the walk of a zip into a list stands ahead of turn i -/
structure ZS (lo : Nat) (S z TI TO i1 i2 : Addr) (P1 P2 : Nat → Value → Prop) (h0 h : Heap) (i : Nat) (ts : List Addr) : Prop where
  lst : ∃ acc c, h.get? S = some { cls := .type "list", data := .seq acc c } ∧ acc.toList = ts.map Value.ref
  len : ts.length = i
  tup : ∀ j t, ts[j]? = some t → lo ≤ t ∧ t < h.objs.size ∧ ∃ x1 x2, P1 j x1 ∧ P2 j x2 ∧ IsTupOf2 h t x1 x2
  nd : ts.Pairwise (· < ·)
  kp : ∀ b o, b ≠ S → b ≠ z → b ≠ TO → b ≠ i1 → b ≠ i2 → h0.get? b = some o → h.get? b = some o
  le : lo ≤ h.objs.size
structure ZE (lo : Nat) (S z TO i1 i2 : Addr) (P1 P2 : Nat → Value → Prop) (h0 h : Heap) (n : Nat) (ts : List Addr) : Prop where
  lst : ∃ acc c, h.get? S = some { cls := .type "list", data := .seq acc c } ∧ acc.toList = ts.map Value.ref
  len : ts.length = n
  tup : ∀ j t, ts[j]? = some t → lo ≤ t ∧ ∃ x1 x2, P1 j x1 ∧ P2 j x2 ∧ IsTupOf2 h t x1 x2
  nd : ts.Pairwise (· < ·)
  kp : ∀ b o, b ≠ S → b ≠ z → b ≠ TO → b ≠ i1 → b ≠ i2 → h0.get? b = some o → h.get? b = some o
structure ZA (lo : Nat) (S z TI TO i1 i2 : Addr) (fp1 fp2 : List Addr) : Prop where
  hS : S < lo
  hz : z < lo
  hTI : TI < lo
  hTO : TO < lo
  h1 : i1 < lo
  h2 : i2 < lo
  Sz : S ≠ z
  STI : S ≠ TI
  STO : S ≠ TO
  S1 : S ≠ i1
  S2 : S ≠ i2
  f1 : S ∉ fp1
  f2 : S ∉ fp2
section
variable {prog : Program} {w : World} {A : Around} {lo : Nat} {S z TI TO i1 i2 : Addr} {fp1 fp2 : List Addr} {n i : Nat} {P1 P2 : Nat → Value → Prop} {St1 St2 : Nat → Heap → Prop} {h0 h h1 h2 : Heap} {ts : List Addr}
/-- one more tuple, pushed -/
theorem ZS.step (a : ZA lo S z TI TO i1 i2 fp1 fp2) (Z : ZS lo S z TI TO i1 i2 P1 P2 h0 h i ts) {x1 x2 : Value} (p1 : P1 i x1) (p2 : P2 i x2)
    (t1 : IsTupOf2 h1 h.objs.size x1 x2) (sz : h1.objs.size = h.objs.size + 1) (k1 : ∀ c o, c ≠ z → c ≠ TO → c ≠ i1 → c ≠ i2 → h.get? c = some o → h1.get? c = some o)
    {acc : Array Value} {c : Nat} (hac : acc.toList = ts.map Value.ref) (s2 : h2.objs.size = h1.objs.size) (l2 : h2.get? S = some { cls := .type "list", data := .seq (acc.push (.ref h.objs.size)) c })
    (k2 : ∀ b o, b ≠ S → h1.get? b = some o → h2.get? b = some o) : ZS lo S z TI TO i1 i2 P1 P2 h0 h2 (i + 1) (ts ++ [h.objs.size]) := by
  have nlo : ∀ t : Nat, lo ≤ t → t ≠ S ∧ t ≠ z ∧ t ≠ TO ∧ t ≠ i1 ∧ t ≠ i2 := by
    intro t ht
    have := a.hS; have := a.hz; have := a.hTO; have := a.h1; have := a.h2
    exact ⟨Nat.ne_of_gt (Nat.lt_of_lt_of_le a.hS ht), Nat.ne_of_gt (Nat.lt_of_lt_of_le a.hz ht), Nat.ne_of_gt (Nat.lt_of_lt_of_le a.hTO ht), Nat.ne_of_gt (Nat.lt_of_lt_of_le a.h1 ht), Nat.ne_of_gt (Nat.lt_of_lt_of_le a.h2 ht)⟩
  refine ⟨⟨_, _, l2, by rw [Array.toList_push, hac, List.map_append]; rfl⟩, by simp [Z.len], ?_, ?_, ?_, by rw [s2, sz]; exact Nat.le_succ_of_le Z.le⟩
  · intro j t hj
    rw [List.getElem?_append] at hj
    split at hj
    · obtain ⟨g1, g2, y1, y2, e1, e2, e3⟩ := Z.tup j t hj
      obtain ⟨n1, n2, n3, n4, n5⟩ := nlo t g1
      exact ⟨g1, by rw [s2, sz]; exact Nat.lt_succ_of_lt g2, y1, y2, e1, e2, k2 _ _ n1 (k1 _ _ n2 n3 n4 n5 e3)⟩
    · rename_i hlt
      have hji : j - ts.length = 0 := by
        cases q : j - ts.length with
        | zero => rfl
        | succ m => rw [q] at hj; simp at hj
      rw [hji] at hj
      have ht : t = h.objs.size := by simpa using hj.symm
      have hjj : j = i := by have := Z.len; omega
      rw [ht, hjj]
      obtain ⟨n1, _⟩ := nlo h.objs.size Z.le
      exact ⟨Z.le, by rw [s2, sz]; exact Nat.lt_succ_self _, x1, x2, p1, p2, k2 _ _ n1 t1⟩
  · rw [List.pairwise_append]
    refine ⟨Z.nd, List.pairwise_singleton _ _, fun t ht b hb => ?_⟩
    have : b = h.objs.size := by simpa using hb
    rw [this]
    obtain ⟨j, hj⟩ := List.getElem?_of_mem ht
    exact (Z.tup j t hj).2.1
  · intro b o b1 b2 b3 b4 b5 q
    exact k2 _ _ b1 (k1 _ _ b2 b3 b4 b5 (Z.kp b o b1 b2 b3 b4 b5 q))
theorem ZS.size (Z : ZS lo S z TI TO i1 i2 P1 P2 h0 h i ts) {acc : Array Value} (hac : acc.toList = ts.map Value.ref) : acc.size = i := by
  rw [← Array.length_toList, hac, List.length_map, Z.len]
theorem zloop {s : Shared} {res : Value} {R : Result → Shared → Prop} (sep : ZipSep2 z TI TO i1 i2 fp1 fp2) (D1 : Draws prog w A.in1.in1 i1 fp1 n P1 St1) (D2 : Draws prog w A.in1.in1 i2 fp2 n P2 St2)
    (a : ZA lo S z TI TO i1 i2 fp1 fp2) (hn : n ≤ sizeLine)
    (hR : ∀ h' tk ts, ZE lo S z TO i1 i2 P1 P2 h0 h' n ts → R (.ok (.ret res)) { s with heap := h', toks := tk }) :
    ∀ (k i : Nat) (h : Heap) (tk : Nat) (ts : List Addr) (T : Addr) (f : Bool) (oT : Obj), n - i = k → i ≤ n → IsZipHeld h z TI TO T f → h.get? T = some oT → lo ≤ T → IsTupOf2 h TI (.ref i1) (.ref i2) → St1 i h → St2 i h →
      ZS lo S z TI TO i1 i2 P1 P2 h0 h i ts → codeAny (model prog w) A (.builtin "list.extend.loop" ⟨[.ref S, .ref z, res], []⟩) R { s with heap := h, toks := tk } := by
  intro k
  induction k with
  | zero =>
    intro i h tk ts T f oT hk hi hz hT hlT hTI s1 s2 Z
    have e : i = n := by omega
    subst e
    apply loop_one
    refine zip_pyNext hz rfl (zipD2_held_end sep D1 hz hT hTI s1 ?_)
    intro h' e kp ⟨o, ho, hc⟩
    obtain ⟨acc, c, hl, hac⟩ := Z.lst
    refine ⟨e, o, rfl, ho, hc, hR h' tk ts ⟨⟨acc, c, kp _ _ a.Sz a.S1 hl, hac⟩, Z.len, ?_, Z.nd, ?_⟩⟩
    · intro j t hj
      obtain ⟨g1, g2, y1, y2, e1, e2, e3⟩ := Z.tup j t hj
      exact ⟨g1, y1, y2, e1, e2, kp _ _ (Nat.ne_of_gt (Nat.lt_of_lt_of_le a.hz g1)) (Nat.ne_of_gt (Nat.lt_of_lt_of_le a.h1 g1)) e3⟩
    · intro b o b1 b2 b3 b4 b5 q
      exact kp _ _ b2 b4 (Z.kp b o b1 b2 b3 b4 b5 q)
  | succ k ih =>
    intro i h tk ts T f oT hk hi hz hT hlT hTI s1 s2 Z
    apply loop_one
    refine zip_pyNext hz rfl (zipD2_held sep D1 D2 hz hT hTI s1 s2 (by omega) (by omega) ?_)
    intro x1 x2 h1 tk1 p1 p2 hz1 c1 c2 t1 sz k1
    obtain ⟨acc, c, hl, hac⟩ := Z.lst
    refine ⟨acc, c, by rw [Z.size hac]; omega, k1 _ _ a.Sz a.S1 a.S2 hl, fun h2 s2' ⟨c', l2⟩ k2 => ?_⟩
    have Z2 := Z.step a p1 p2 t1 sz (fun c o q1 _ q3 q4 q => k1 c o q1 q3 q4 q) hac s2' l2 k2
    have nT : T ≠ S := Nat.ne_of_gt (Nat.lt_of_lt_of_le a.hS hlT)
    have nTz : T ≠ z := Nat.ne_of_gt (Nat.lt_of_lt_of_le a.hz hlT)
    have nT1 : T ≠ i1 := Nat.ne_of_gt (Nat.lt_of_lt_of_le a.h1 hlT)
    have nT2 : T ≠ i2 := Nat.ne_of_gt (Nat.lt_of_lt_of_le a.h2 hlT)
    exact ih (i + 1) h2 tk1 _ T true oT (by omega) (by omega) (k2 _ _ a.Sz.symm hz1) (k2 _ _ nT (k1 _ _ nTz nT1 nT2 hT)) hlT (k2 _ _ a.STI.symm (k1 _ _ sep.TIz sep.TIi1 sep.TIi2 hTI))
      (D1.frame _ _ _ c1 fun b hb o q => k2 b o (fun e => a.f1 (e ▸ hb)) q) (D2.frame _ _ _ c2 fun b hb o q => k2 b o (fun e => a.f2 (e ▸ hb)) q) Z2
/-- the whole loop, from the zip that is fresh -/
theorem zloop0 {s : Shared} {res : Value} {R : Result → Shared → Prop} (sep : ZipSep2 z TI TO i1 i2 fp1 fp2) (D1 : Draws prog w A.in1.in1 i1 fp1 n P1 St1) (D2 : Draws prog w A.in1.in1 i2 fp2 n P2 St2)
    (a : ZA lo S z TI TO i1 i2 fp1 fp2) (hn : n ≤ sizeLine) (h0n : 0 < n)
    (hR : ∀ h' tk ts, ZE lo S z TO i1 i2 P1 P2 s.heap h' n ts → R (.ok (.ret res)) { s with heap := h', toks := tk })
    {a1 a2 : Value} (hz : IsZip s.heap z TI TO .none) (hTI : IsTupOf2 s.heap TI (.ref i1) (.ref i2)) (hTO : IsTupOf2 s.heap TO a1 a2) (s1 : St1 0 s.heap) (s2 : St2 0 s.heap) (hlo : lo ≤ s.heap.objs.size) {c : Nat}
    (hl : s.heap.get? S = some { cls := .type "list", data := .seq #[] c }) :
    codeAny (model prog w) A (.builtin "list.extend.loop" ⟨[.ref S, .ref z, res], []⟩) R s := by
  apply loop_one
  refine wpAny_pyNext_zipD2_item (A := A.in1) sep D1 D2 hz hTI hTO s1 s2 h0n h0n ?_
  intro x1 x2 h1 tk1 p1 p2 hz1 _ c1 c2 t1 sz k1
  have Z : ZS lo S z TI TO i1 i2 P1 P2 s.heap s.heap 0 [] := ⟨⟨_, _, hl, rfl⟩, rfl, fun j t h => by simp at h, .nil, fun b o _ _ _ _ _ q => q, hlo⟩
  refine ⟨#[], _, Nat.zero_le _, k1 _ _ a.Sz a.STO a.S1 a.S2 hl, fun h2 s2' ⟨c', l2⟩ k2 => ?_⟩
  have Z2 := Z.step a p1 p2 t1 sz k1 rfl s2' l2 k2
  have nT : s.heap.objs.size ≠ S := Nat.ne_of_gt (Nat.lt_of_lt_of_le a.hS hlo)
  exact zloop (h0 := s.heap) (s := s) sep D1 D2 a hn hR (n - 1) 1 h2 tk1 _ s.heap.objs.size false _ (by omega) h0n (k2 _ _ a.Sz.symm hz1) (k2 _ _ nT t1) hlo (k2 _ _ a.STI.symm (k1 _ _ sep.TIz sep.TITO sep.TIi1 sep.TIi2 hTI))
    (D1.frame _ _ _ c1 fun b hb o q => k2 b o (fun e => a.f1 (e ▸ hb)) q) (D2.frame _ _ _ c2 fun b hb o q => k2 b o (fun e => a.f2 (e ▸ hb)) q) Z2
end
end Gd
namespace Gd
open PySem PySem.Spec PyProof.Rows L2 Builtin
theorem len_zip : typeLookup (Value.type "zip") (Str.ofString "__len__") = pure none := by rfl
theorem hint_zip : typeLookup (Value.type "zip") (Str.ofString "__length_hint__") = pure none := by rfl
theorem zip_extend {prog : Program} {w : World} {A : Around} {s : Shared} {S z TI TO : Addr} {f0 res : Value} {E : Value → Shared → Prop} {Q : Fin → Shared → Prop}
    (hz : IsZip s.heap z TI TO f0) (hSz : S ≠ z) (hl : s.heap.get? S = some { cls := .type "list", data := .seq #[] 0 })
    (hQ : ∀ h' c, h'.objs.size = s.heap.objs.size → h'.get? S = some { cls := .type "list", data := .seq #[] c } → (∀ b o, b ≠ S → s.heap.get? b = some o → h'.get? b = some o) →
      Q (Fin.again (.builtin "list.extend.loop" ⟨[.ref S, .ref z, res], []⟩)) { s with heap := h' }) :
    wpAny (model prog w) A (Builtin.List.listExtendWith (.ref S) (.ref z) res) Q E s := by
  have q1 : ∀ {A' : Around} {Q E : Value → Shared → Prop}, Q (.ref z) s → wpAny (model prog w) A' (pyIter (.ref z)) Q E s := fun q => wpAny_pyIter_zip hz q
  obtain ⟨hp, g, d, tk, os⟩ := s
  dsimp only at *
  unfold Builtin.List.listExtendWith
  wp_walk using q1
  have e : List.listSameRef (Value.ref S) (Value.ref z) = false := by
    unfold List.listSameRef
    simp [hSz]
  rw [if_neg (by rw [e]; show ¬ ((false || (Value.type "zip" == Value.type "list") || (Value.type "zip" == Value.type "tuple")) = true); decide)]
  wp_walk using q1
  dsimp only
  rw [len_zip]
  wp_walk
  dsimp only
  rw [hint_zip]
  wp_walk
  have hS1 : (hp.update S (Obj.mapSeq fun x => x.push Value.none)).get? S = some { cls := .type "list", data := .seq #[Value.none] 1 } := Heap.get?_update_self _ hl rfl
  refine hQ _ 2 ?_ (Heap.get?_update_self _ hS1 rfl) fun b o hb q => ?_
  · rw [Heap.size_update, Heap.size_update]
  · exact (Heap.get?_update_ne _ _ _ _ hb).trans ((Heap.get?_update_ne _ _ _ _ hb).trans q)
theorem zip_init {prog : Program} {w : World} {A : Around} {s : Shared} {S z TI TO : Addr} {f0 : Value} {E : Value → Shared → Prop} {Q : Fin → Shared → Prop}
    (hz : IsZip s.heap z TI TO f0) (hSz : S ≠ z) (hl : s.heap.get? S = some { cls := .type "list", data := .seq #[] 0 })
    (hQ : ∀ h' c, h'.objs.size = s.heap.objs.size → h'.get? S = some { cls := .type "list", data := .seq #[] c } → (∀ b o, b ≠ S → s.heap.get? b = some o → h'.get? b = some o) →
      Q (Fin.again (.builtin "list.extend.loop" ⟨[.ref S, .ref z, .none], []⟩)) { s with heap := h' }) :
    wpAny (model prog w) A (Builtin.«list.__init__» ⟨[.ref S, .ref z], []⟩) Q E s := by
  obtain ⟨hp, g, d, tk, os⟩ := s
  dsimp only at *
  have hl2 : (hp.update S (Obj.mapSeq fun _ => #[])).get? S = some { cls := .type "list", data := .seq #[] 0 } := Heap.get?_update_self _ hl rfl
  have hz2 : IsZip (hp.update S (Obj.mapSeq fun _ => #[])) z TI TO f0 := (Heap.get?_update_ne _ _ _ _ hSz.symm).trans hz
  have q1 : ∀ {Q E : _}, (∀ h' c, h'.objs.size = hp.objs.size → h'.get? S = some { cls := .type "list", data := .seq #[] c } → (∀ b o, b ≠ S → hp.get? b = some o → h'.get? b = some o) →
      Q (Fin.again (.builtin "list.extend.loop" ⟨[.ref S, .ref z, .none], []⟩)) { heap := h', gens := g, drawn := d, toks := tk, os := os }) →
      wpAny (model prog w) A (Builtin.List.listExtendWith (.ref S) (.ref z) .none) Q E { heap := hp.update S (Obj.mapSeq fun _ => #[]), gens := g, drawn := d, toks := tk, os := os } := by
    intro Q E q
    refine zip_extend hz2 hSz hl2 fun h' c h1 h2 h3 => q h' c (by rw [h1]; exact Heap.size_update _ _ _) h2 fun b o hb qq => h3 b o hb ((Heap.get?_update_ne _ _ _ _ hb).trans qq)
  unfold Builtin.«list.__init__»
  wp_walk using q1
  exact hQ
end Gd
namespace Gd
open PySem PySem.Spec PyProof.Rows L2 Builtin
theorem sepN (n : Nat) : ZipSep2 (n + 4) (n + 2) (n + 3) n (n + 1) [n] [n + 1] := by
  constructor <;> simp <;> omega
theorem zaN (n : Nat) : ZA (n + 6) (n + 5) (n + 4) (n + 2) (n + 3) n (n + 1) [n] [n + 1] := by
  constructor <;> first | (show (_ : Nat) < _; omega) | (show ¬ (_ : Nat) = _; omega) | (simp; try omega)
theorem list_zip {prog : Program} {w : World} {A : Around} {E : Value → Shared → Prop} {s : Shared} {x y : Str} {tx ty : Tok} {Q : Value → Shared → Prop}
    (hh : A.handled = none) (hxy : x.cps.size = y.cps.size) (hn0 : 0 < x.cps.size) (hn : x.cps.size ≤ sizeLine)
    (hQ : ∀ (h' : Heap) (tk : Nat) (l : Addr) (ts : List Addr) (acc : Array Value) (c : Nat), (∀ b o, s.heap.get? b = some o → h'.get? b = some o) → s.heap.objs.size ≤ l → h'.get? l = some { cls := .type "list", data := .seq acc c } → acc.toList = ts.map Value.ref → ts.length = x.cps.size →
      (∀ (j : Nat) (t : Addr), ts[j]? = some t → l < t ∧ ∃ a b u v, x.cps[j]? = some a ∧ y.cps[j]? = some b ∧ IsTupOf2 h' t (.str ⟨#[a]⟩ u) (.str ⟨#[b]⟩ v)) → ts.Pairwise (· < ·) → Q (.ref l) { s with heap := h', toks := tk }) :
    wpAny (model prog w) A (call (.type "zip") [.str x tx, .str y ty]) (fun v s1 => wpAny (model prog w) A (call (.type "list") [v]) Q E s1) E s := by
  refine zip_begins2 (begins_text x tx) (begins_text y ty) trivial trivial ?_
  intro h1 hz hTI hTO o1 o2 sz k1
  refine callType_codes F.called_list (F.typeCall_list_1 _) F.entry_list_init (code_list_new (Q₁ := fun obj s1 => obj = .ref h1.objs.size ∧ s1 = { s with heap := h1.push { cls := Value.type "list", data := Data.seq #[] } }) _ ⟨rfl, rfl⟩) ?_
  rintro obj s1 ⟨rfl, rfl⟩
  have kp : ∀ b o, h1.get? b = some o → (h1.push { cls := Value.type "list", data := Data.seq #[] }).get? b = some o := fun b o q => Heap.get?_push_of_some _ q
  have hl : (h1.push { cls := Value.type "list", data := Data.seq #[] }).get? h1.objs.size = some { cls := Value.type "list", data := Data.seq #[] } := Heap.get?_push_size _ rfl
  have hsz : h1.objs.size = s.heap.objs.size + 5 := sz
  have a := zaN s.heap.objs.size
  have sep := sepN s.heap.objs.size
  have D1 := Draws.text (prog := prog) (w := w) (A := A.in1.in1.in1) hh s.heap.objs.size x tx
  have D2 := Draws.text (prog := prog) (w := w) (A := A.in1.in1.in1) hh (s.heap.objs.size + 1) y ty
  rw [← hxy] at D2
  rw [← hsz] at a
  refine ⟨⟨_, hl, rfl⟩, F.args_list_init_2 _ _, ?_⟩
  refine zip_init (kp _ _ hz) a.Sz hl ?_
  intro h2 c s2 l2 k2
  have np : (h1.push { cls := Value.type "list", data := Data.seq #[] }).objs.size = s.heap.objs.size + 6 := by rw [Heap.size_push, hsz]
  refine ⟨by first | decide | (with_unfolding_all rfl) | (simp [Code.quiet]; done), ?_⟩
  refine zloop0 (s := { s with heap := h2 }) sep D1 D2 a hn hn0 ?_ (k2 _ _ a.Sz.symm (kp _ _ hz)) (k2 _ _ a.STI.symm (kp _ _ hTI)) (k2 _ _ a.STO.symm (kp _ _ hTO)) ?_ ?_ ?_ l2
  · intro h3 tk ts Z
    obtain ⟨acc, c3, l3, hac⟩ := Z.lst
    refine ⟨rfl, hQ h3 tk _ ts acc c3 ?_ (by rw [hsz]; exact Nat.le_add_right _ _) l3 hac Z.len ?_ Z.nd⟩
    · intro b o q
      have hb : b < s.heap.objs.size := Heap.lt_size q
      have ne : ∀ k : Nat, b ≠ s.heap.objs.size + k := fun k e => by rw [e] at hb; exact absurd hb (Nat.not_lt.mpr (Nat.le_add_right _ _))
      have bS : b ≠ h1.objs.size := by rw [hsz]; exact ne 5
      exact Z.kp b o bS (ne 4) (ne 3) (ne 0) (ne 1) (k2 _ _ bS (kp _ _ (k1 _ _ q)))
    · intro j t hj
      obtain ⟨g1, x1, x2, ⟨ca, u, e1, rfl⟩, ⟨cb, v, e2, rfl⟩, e3⟩ := Z.tup j t hj
      refine ⟨?_, ca, cb, u, v, e1, e2, e3⟩
      rw [hsz]
      exact Nat.lt_of_lt_of_le (Nat.lt_succ_self _) g1
  · exact ⟨_, k2 _ _ a.S1.symm (kp _ _ o1), rfl, rfl⟩
  · exact ⟨_, k2 _ _ a.S2.symm (kp _ _ o2), rfl, rfl⟩
  · rw [s2, np]
    exact Nat.le_refl _
end Gd
/-! Several new objects of one step. -/
namespace Gd
open PySem PySem.Spec PyProof.Rows L2
/-- the heap up to a place -/
def trunc (h : Heap) (m : Nat) : Heap := { h with objs := h.objs.extract 0 m }
theorem trunc_get {h : Heap} {m b : Nat} (hb : b < m) : (trunc h m).get? b = h.get? b := by
  unfold trunc Heap.get?
  dsimp only
  rw [Array.getElem?_extract]
  by_cases q : b < h.objs.size
  · rw [if_pos (by omega)]
    simp
  · rw [if_neg (by omega), Array.getElem?_eq_none (by omega)]
theorem trunc_size {h : Heap} {m : Nat} (hm : m ≤ h.objs.size) : (trunc h m).objs.size = m := by
  unfold trunc
  simp
  omega
theorem trunc_some {h : Heap} {m b : Nat} {o : Obj} (q : (trunc h m).get? b = some o) : h.get? b = some o := by
  have h1 : b < (trunc h m).objs.size := Heap.lt_size q
  have h2 : b < m := by
    unfold trunc at h1
    simp at h1
    omega
  rwa [trunc_get h2] at q
def layAll (H : Hp) (as : List (Addr × HO)) : Hp := as.foldl (fun H p => upd H p.1 p.2) H
theorem lays {X : Cx} {pins : List (Addr × Obj)} {σ : List (Option V)} {h' : Heap} {tk : Nat} : ∀ (as : List (Addr × HO)) (H : Hp) (s : Shared), Inv X pins σ H s → (∀ b u, s.heap.get? b = some u → h'.get? b = some u) →
    as.Pairwise (fun p q => p.1 < q.1) → (∀ p ∈ as, s.heap.objs.size ≤ p.1 ∧ (∃ o, h'.get? p.1 = some o) ∧ ∀ (H' : Hp) (h'' : Heap), h''.get? p.1 = h'.get? p.1 → ObjOk X.prog X.w H' h'' p.1 p.2) →
    Inv X pins σ (layAll H as) { s with heap := h', toks := tk }
  | [], H, s, I, k, _, _ => I.kept k
  | p :: as, H, s, I, k, hp, ha => by
    obtain ⟨h1, ⟨o, h2⟩, h3⟩ := ha p (by simp)
    have hlt : p.1 < h'.objs.size := Heap.lt_size h2
    have hm : (p.1 : Nat) + 1 ≤ h'.objs.size := hlt
    have e := trunc_get (h := h') (m := p.1 + 1) (b := p.1) (Nat.lt_succ_self _)
    have I2 := I.laid (h' := trunc h' (p.1 + 1)) (a := p.1) (o := p.2) (t' := tk) (fun b u q => by
      have hb : b < s.heap.objs.size := Heap.lt_size q
      have hb2 : (b : Nat) < p.1 + 1 := Nat.lt_succ_of_le (Nat.le_trans (Nat.le_of_lt hb) h1)
      rw [trunc_get hb2]
      exact k b u q) h1 (h3 _ _ e)
    rw [List.pairwise_cons] at hp
    refine lays as (upd H p.1 p.2) { s with heap := trunc h' (p.1 + 1), toks := tk } I2 (fun b u q => trunc_some q) hp.2 fun q hq => ?_
    obtain ⟨g1, g2, g3⟩ := ha q (by simp [hq])
    refine ⟨?_, g2, g3⟩
    show (trunc h' (p.1 + 1)).objs.size ≤ q.1
    rw [trunc_size hm]
    exact hp.1 q hq
theorem layAll_get {as : List (Addr × HO)} : ∀ {H : Hp} {a : Addr} {o : HO}, as.Pairwise (fun p q => p.1 < q.1) → (a, o) ∈ as → layAll H as a = some o := by
  induction as with
  | nil => intro H a o _ h; simp at h
  | cons p as ih =>
    intro H a o hp h
    rw [List.pairwise_cons] at hp
    rcases List.mem_cons.mp h with rfl | h
    · have : ∀ (as : List (Addr × HO)) (H : Hp), (∀ q ∈ as, a < q.1) → H a = some o → layAll H as a = some o := by
        intro as
        induction as with
        | nil => intro H _ h; exact h
        | cons q as ih => 
          intro H hq h
          exact ih _ (fun r hr => hq r (by simp [hr])) ((upd_ne (Nat.ne_of_lt (hq q (by simp)))).trans h)
      exact this as _ hp.1 upd_same
    · exact ih hp.2 h
theorem layAll_ex {as : List (Addr × HO)} : ∀ {H : Hp}, as.Pairwise (fun p q => p.1 < q.1) → (∀ p ∈ as, H p.1 = none) → Ex H (layAll H as) := by
  induction as with
  | nil => intro H _ _; exact Ex.rfl' H
  | cons p as ih =>
    intro H hp h
    rw [List.pairwise_cons] at hp
    refine (Ex.new (h p (by simp))).tr (ih hp.2 fun q hq => ?_)
    rw [upd_ne (Nat.ne_of_gt (hp.1 q hq))]
    exact h q (by simp [hq])
end Gd
/-! The rule of list(zip(s, t)), two texts of one length. -/
namespace Gd
open PySem PySem.Spec PyProof.Rows L2 Builtin
def tLZ (ta : TA) : TE := fun σ H Q => ta σ H fun vs H1 => ∃ x y : Str, vs = [.str x, .str y] ∧ x.cps.size = y.cps.size ∧ 0 < x.cps.size ∧ x.cps.size ≤ sizeLine ∧
  ∀ (l : Addr) (ts : List Addr) (H' : Hp), H1 l = none → Ex H1 H' → H' l = some (.lst (ts.map V.ref)) → ts.length = x.cps.size →
    (∀ (j : Nat) (t : Addr), ts[j]? = some t → ∃ a b, x.cps[j]? = some a ∧ y.cps[j]? = some b ∧ H' t = some (.tup [.str (one a), .str (one b)])) → Q (.ref l) H'
theorem pe_listzip {X : Cx} {ea eb : Expr} {ta : TA} {p p2 pos pos2 : Pos} (hh : X.A.handled = none) (hl : Gl X "list") (hml : X.mg "list" = none) (hz : Gl X "zip") (hmz : X.mg "zip" = none) (ha : PA X [ea, eb] ta)
    (hs : starEach [ea, eb] X.env = (false, eval ea X.env) :: starEach [eb] X.env := by rfl) (hpl : (backTo pos2 (starEach [eb] X.env)).any (·.1) = false := by rfl)
    (hs2 : starEach [.Call (.Name "zip" p2) [ea, eb] [] pos2] X.env = [(false, eval (.Call (.Name "zip" p2) [ea, eb] [] pos2) X.env)] := by rfl) :
    PE X (.Call (.Name "list" p) [.Call (.Name "zip" p2) [ea, eb] [] pos2] [] pos) (tLZ ta) where
  run pins s σ H Q I h := by
    refine Call_ (ld_blt I hl hml (u := .type "list") rfl (PyProof.Rows.callWith_type1 ?_ hs2 rfl))
    rw [hs2]
    refine PySem.Calls.spliced_cons ?_
    refine Call_ (ld_blt I hz hmz (u := .type "zip") rfl (PyProof.Rows.callWith_type1 (thn (ha.run pos2 pins s σ H _ I h) ?_) hs hpl))
    intro us s1 ⟨vs, H1, I1, r1, q1⟩
    obtain ⟨x, y, rfl, hxy, h0, hsz, q⟩ := q1
    cases r1 with
    | cons rx rr =>
    cases rr with
    | cons ry rn =>
    cases rn
    obtain ⟨tx, rfl⟩ := rx
    obtain ⟨ty, rfl⟩ := ry
    refine thn (list_zip (Q := EP X pins σ Q) hh hxy h0 hsz ?_) ?_
    · intro h' tk l ts acc c kp hlo hl' hac hlen htup hnd
      have ho : ∀ (j : Nat) (t : Addr) (o : HO), ts[j]? = some t → (List.zipWith (fun a b => HO.tup [.str (one a), .str (one b)]) x.cps.toList y.cps.toList)[j]? = some o → ∃ a b, x.cps[j]? = some a ∧ y.cps[j]? = some b ∧ o = .tup [.str (one a), .str (one b)] ∧
          s1.heap.objs.size ≤ t ∧ l < t ∧ (∃ ob, h'.get? t = some ob) ∧ ∀ (H' : Hp) (h'' : Heap), h''.get? t = h'.get? t → ObjOk X.prog X.w H' h'' t o := by
        intro j t o hj hjo
        obtain ⟨lt, a, b, u, v, e1, e2, e3⟩ := htup j t hj
        rw [List.getElem?_zipWith, Array.getElem?_toList, Array.getElem?_toList, e1, e2] at hjo
        have hjo : some (HO.tup [V.str (one a), .str (one b)]) = some o := hjo
        have hjo := (Option.some.inj hjo).symm
        subst hjo
        refine ⟨a, b, e1, e2, rfl, Nat.le_trans hlo (Nat.le_of_lt lt), lt, ⟨_, e3⟩, fun H' h'' e => ?_⟩
        exact ⟨by show 2 ≤ sizeLine; decide, [_, _], .cons ⟨u, rfl⟩ (.cons ⟨v, rfl⟩ .nil), ⟨_, e.trans e3, rfl, _, rfl⟩⟩
      generalize hob : List.zipWith (fun a b => HO.tup [.str (one a), .str (one b)]) x.cps.toList y.cps.toList = objs at ho
      have hol : objs.length = ts.length := by
        rw [← hob, List.length_zipWith, hlen]
        simp
        omega
      have hm : ∀ (t : Addr) (o : HO), (t, o) ∈ ts.zip objs → ∃ j : Nat, ts[j]? = some t ∧ objs[j]? = some o := by
        intro t o h
        obtain ⟨j, hj⟩ := List.getElem?_of_mem h
        rw [List.getElem?_zip_eq_some] at hj
        exact ⟨j, hj.1, hj.2⟩
      have hlst : ∀ (H' : Hp) (h'' : Heap), h''.get? l = h'.get? l → ObjOk X.prog X.w H' h'' l (.lst (ts.map V.ref)) := by
        intro H' h'' e
        refine ⟨by rw [List.length_map, hlen]; exact hsz, ts.map Value.ref, c, ?_, ?_⟩
        · clear hnd htup ho hm hol hac hlen
          induction ts with
          | nil => exact .nil
          | cons t ts ih => exact .cons rfl ih
        · rw [← hac]
          exact e.trans hl'
      have hpw : ((l, HO.lst (ts.map V.ref)) :: ts.zip objs).Pairwise (fun p q => p.1 < q.1) := by
        rw [List.pairwise_cons]
        refine ⟨fun p hp => ?_, ?_⟩
        · obtain ⟨j, h1, h2⟩ := hm p.1 p.2 hp
          obtain ⟨_, _, _, _, _, _, h3, _⟩ := ho j _ _ h1 h2
          exact h3
        · have e : (ts.zip objs).map Prod.fst = ts := List.map_fst_zip (by omega)
          have := hnd
          rw [← e, List.pairwise_map] at this
          exact this
      have I2 := lays (h' := h') (tk := tk) ((l, HO.lst (ts.map V.ref)) :: ts.zip objs) H1 s1 I1 kp hpw fun p hp => by
        rcases List.mem_cons.mp hp with rfl | hp
        · exact ⟨hlo, ⟨_, hl'⟩, hlst⟩
        · obtain ⟨j, h1, h2⟩ := hm p.1 p.2 hp
          obtain ⟨_, _, _, _, _, h3, _, h4, h5⟩ := ho j _ _ h1 h2
          exact ⟨h3, h4, h5⟩
      refine ⟨.ref l, _, I2, rfl, q l ts _ (I1.hok.fresh hlo) ?_ ?_ hlen fun j t hj => ?_⟩
      · refine layAll_ex hpw fun p hp => ?_
        rcases List.mem_cons.mp hp with rfl | hp
        · exact I1.hok.fresh hlo
        · obtain ⟨j, h1, h2⟩ := hm p.1 p.2 hp
          obtain ⟨_, _, _, _, _, h3, _⟩ := ho j _ _ h1 h2
          exact I1.hok.fresh h3
      · exact layAll_get hpw (by simp)
      · have hjl : j < objs.length := by
          rw [hol]
          exact (List.getElem?_eq_some_iff.mp hj).1
        obtain ⟨a, b, e1, e2, e3, _⟩ := ho j t objs[j] hj (List.getElem?_eq_getElem hjl)
        refine ⟨a, b, e1, e2, layAll_get hpw (List.mem_cons_of_mem _ ?_)⟩
        rw [← e3]
        exact List.mem_of_getElem? (List.getElem?_zip_eq_some.mpr ⟨hj, List.getElem?_eq_getElem hjl⟩)
    · intro v s2 q2
      exact PySem.Calls.spliced_nil q2
end Gd
namespace Gd
open PySem PySem.Spec PyProof.Rows L2
/-- the law's own turn of an item -/
def spTurn (O : HO → Prop) : Sp := fun vs H Q _ => ∃ v d, vs = [v] ∧ DV O H v d ∧
  ((∃ z, d = .str z ∧ pieceB z = true ∧ ∀ H', Ex H H' → Q (.str (turnS z)) H') ∨
   (∃ z b, d = .tup [.str z, .bl b] ∧ ∀ p G, Ex H G → H p = none → G p = none → Q (.ref p) (upd G p (.tup [.str z, .bl (!b)]))))
end Gd
namespace Gd
open PySem PySem.Spec PyProof.Rows L2
/-- a loop over a text's signs -/
theorem for_txt {z : Str} {g : TG} {tb : TS} {D : Ends} {σ : L2.St} {H : Hp} (Pv : Nat → L2.St → Hp → Prop)
    (h0 : Pv 0 σ H)
    (hs : ∀ i c σ H, z.cps.toList[i]? = some c → Pv i σ H → g (.str (one c)) σ H fun σ2 H2 => tb { D with nx := Pv (i + 1), ct := Pv (i + 1), bk := D.nx } σ2 H2)
    (hd : ∀ σ H, Pv z.cps.toList.length σ H → D.nx σ H) :
    ∃ W : Nat → Nat → L2.St → Hp → Prop, (∃ m, W 0 m σ H) ∧ ∀ i m σ H, W i m σ H →
      ((Its z).stop i H ∧ D.nx σ H) ∨ ((Its z).go i H ∧ ∃ N : L2.St → Hp → Prop, (∀ σ' H', N σ' H' → ∃ m', m' < m ∧ W (i + 1) m' σ' H') ∧
        ∀ x H', (Its z).yld i H x H' → g x σ H' fun σ2 H2 => tb { D with nx := N, ct := N, bk := D.nx } σ2 H2) := by
  have hl : z.cps.size = z.cps.toList.length := by simp
  refine ⟨fun i m σ H => m = z.cps.size - i ∧ i ≤ z.cps.size ∧ Pv i σ H, ⟨z.cps.size, by simp, Nat.zero_le _, h0⟩, ?_⟩
  intro i m σ H ⟨e, hi, p⟩
  subst e
  by_cases hlt : i < z.cps.size
  · refine Or.inr ⟨hlt, Pv (i + 1), fun σ' H' p' => ⟨z.cps.size - (i + 1), by omega, rfl, hlt, p'⟩, ?_⟩
    intro x H' ⟨e1, c, e2, e3⟩
    subst e1 e3
    exact hs i c σ H' (by simpa using e2) p
  · have e : i = z.cps.size := by omega
    subst e
    exact Or.inl ⟨Nat.le_refl _, hd σ H (by rw [← hl]; exact p)⟩
/-- the table of a text's signs and another's -/
def ABC : Str := Txt.upper abc
def lzK (x y : Str) : List (Key × V) := List.zipWith (fun a b => (Sum.inr (one a), V.str (one b))) x.cps.toList y.cps.toList
def tbl : List (Key × V) := mergeK [] (lzK abc ABC ++ lzK ABC abc)
theorem tbl_at : ∀ c < 128, letB c = true → valV tbl (Sum.inr (one c)) = some (V.str (one (swC c))) := by decide +kernel
theorem paired_of {α β : Type} {R : α → β → Prop} : ∀ {xs : List α} {ys : List β}, xs.length = ys.length → (∀ (j : Nat) (a : α) (b : β), xs[j]? = some a → ys[j]? = some b → R a b) → Paired R xs ys
  | [], [], _, _ => .nil
  | x :: xs, y :: ys, h, g => .cons (g 0 x y rfl rfl) (paired_of (by simpa using h) fun j a b h1 h2 => g (j + 1) a b (by simpa using h1) (by simpa using h2))
theorem paired_app {α β : Type} {R : α → β → Prop} : ∀ {xs xs2 : List α} {ys ys2 : List β}, Paired R xs ys → Paired R xs2 ys2 → Paired R (xs ++ xs2) (ys ++ ys2)
  | _, _, _, _, .nil, s => s
  | _, _, _, _, .cons h r, s => .cons h (paired_app r s)
theorem lzK_paired {K : PySem.W.Frag} {H H' : Hp} {x y : Str} {ts : List Addr} (e : Ex H' H) (hxy : x.cps.size = y.cps.size) (hl : ts.length = x.cps.size)
    (g : ∀ (j : Nat) (t : Addr), ts[j]? = some t → ∃ a b, x.cps[j]? = some a ∧ y.cps[j]? = some b ∧ H' t = some (.tup [.str (one a), .str (one b)])) :
    Paired (fun p (kv : Key × V) => SqT K H p [kV kv.1, kv.2]) ts (lzK x y) := by
  refine paired_of (by unfold lzK; rw [List.length_zipWith, hl]; simp; omega) fun j t kv h1 h2 => ?_
  obtain ⟨a, b, e1, e2, e3⟩ := g j t h1
  unfold lzK at h2
  rw [List.getElem?_zipWith, Array.getElem?_toList, Array.getElem?_toList, e1, e2] at h2
  have h2 : some ((Sum.inr (one a), V.str (one b)) : Key × V) = some kv := h2
  have := Option.some.inj h2
  subst this
  exact SqT.of (e _ _ e3)
theorem turn_take {z : Str} {i c : Nat} (h : z.cps.toList[i]? = some c) : one (swC c) ++ turnS ⟨(z.cps.toList.take i).toArray⟩ = turnS ⟨(z.cps.toList.take (i + 1)).toArray⟩ := by
  apply str_ext
  rw [str_app_list, turnS_list, turnS_list, one_list, List.take_add_one, h]
  simp
end Gd
/-! Rows as plain data: shown, compared. -/
namespace Gd
open PySem PySem.Spec PyProof.Rows L2
def itemP : D → PyData
  | .str z => .str z
  | .tup [.str z, .bl b] => .tuple [.str z, .bool b]
  | _ => .none
/-- an item of a row, its text of at most L signs -/
def It (L : Nat) (d : D) : Prop := (∃ z, d = .str z ∧ okS z = true ∧ z.length ≤ L) ∨ (∃ z b, d = .tup [.str z, .bl b] ∧ okS z = true ∧ z.length ≤ L)
theorem okS_strOk {z : Str} (h : okS z = true) : PyData.strOk z = true := by
  unfold PyData.strOk
  rw [Array.all_eq_true]
  intro i hi
  have := okS_asc h z.cps[i] (by simp)
  exact decide_eq_true (by omega)
structure RowP (L : Nat) (xs : List PyData) (n : Nat) : Prop where
  sh : PyData.showableAll xs = true
  hd : PyData.hasDictAll xs = false
  dp : PyData.depthAll xs ≤ 1
  cl : PyData.canLayAll0 xs = true
  wt : PyData.weightAll xs ≤ n * (L + 3)
  is : PyData.intsShortAll 13 xs = true
  eq : PyData.eqvAll xs xs = true
theorem rowP {L : Nat} : ∀ {ds : List D}, (∀ d ∈ ds, It L d) → RowP L (ds.map itemP) ds.length
  | [], _ => ⟨by simp [PyData.showableAll], by simp [PyData.hasDictAll], by simp [PyData.depthAll], by simp [PyData.canLayAll0], by simp [PyData.weightAll], by simp [PyData.intsShortAll], by simp [PyData.eqvAll]⟩
  | d :: ds, h => by
    have r := rowP (ds := ds) fun x hx => h x (by simp [hx])
    obtain ⟨r1, r2, r3, r4, r5, r6, r7⟩ := r
    rcases h d (by simp) with ⟨z, rfl, hz, hl⟩ | ⟨z, b, rfl, hz, hl⟩
    · have hs := okS_strOk hz
      have hl' : z.cps.size ≤ L := hl
      refine ⟨?_, ?_, ?_, ?_, ?_, ?_, ?_⟩
      · simp [itemP, PyData.showableAll, PyData.showable, r1]
      · simp [itemP, PyData.hasDictAll, PyData.hasDict, r2]
      · simp [itemP, PyData.depthAll, PyData.depth, r3]
      · simp [itemP, PyData.canLayAll0, PyData.canLay0, r4, hs]
      · simp only [List.map_cons, itemP, PyData.weightAll, PyData.weight, List.length_cons]
        rw [Nat.add_mul]
        omega
      · simp [itemP, PyData.intsShortAll, PyData.intsShort, r6]
      · simp [itemP, PyData.eqvAll, PyData.eqv, r7]
    · have hs := okS_strOk hz
      have hl' : z.cps.size ≤ L := hl
      refine ⟨?_, ?_, ?_, ?_, ?_, ?_, ?_⟩
      · simp [itemP, PyData.showableAll, PyData.showable, r1]
      · simp [itemP, PyData.hasDictAll, PyData.hasDict, r2]
      · simp [itemP, PyData.depthAll, PyData.depth, r3]
      · simp [itemP, PyData.canLayAll0, PyData.canLay0, r4, hs]
      · simp only [List.map_cons, itemP, PyData.weightAll, PyData.weight, List.length_cons]
        rw [Nat.add_mul]
        omega
      · simp [itemP, PyData.intsShortAll, PyData.intsShort, r6]
      · simp [itemP, PyData.eqvAll, PyData.eqv, r7]
theorem row_dp {K : PySem.W.Frag} {O : HO → Prop} {H : Hp} {L : Nat} : ∀ {vs : List V} {ds : List D}, DVs O H vs ds → (∀ d ∈ ds, It L d) → DpAll K H vs (ds.map itemP)
  | [], [], .nil, _ => .nil
  | _ :: _, d :: _, .cons h r, hi => by
    refine .cons ?_ (row_dp r fun x hx => hi x (by simp [hx]))
    rcases hi d (by simp) with ⟨z, rfl, _, _⟩ | ⟨z, b, rfl, _, _⟩
    · obtain ⟨rfl, _⟩ := str_val h
      exact .str z
    · obtain ⟨t, rfl, ht⟩ := mark_val h
      exact .tup (SqT.of ht) (.cons (.str z) (.cons (.bl b) .nil))
section
variable {L n : Nat} {xs : List PyData}
theorem RowP.list (r : RowP L xs n) (h : n * (L + 3) ≤ 2 ^ 20) : PyData.showable (.list xs) = true ∧ PyData.hasDict (.list xs) = false ∧ PyData.depth (.list xs) ≤ 64 ∧ (PyData.shown (.list xs)).length ≤ sizeLine ∧ SeqAt.shaped (.list xs) = true ∧ PyData.eqv (.list xs) (.list xs) = true := by
  have h1 := r.dp
  have h2 := r.wt
  have d1 : PyData.depth (.list xs) ≤ 64 := by simp only [PyData.depth]; omega
  have c1 : PyData.canLay0 (.list xs) = true := by simp only [PyData.canLay0]; exact r.cl
  refine ⟨by simp only [PyData.showable]; exact r.sh, by simp only [PyData.hasDict]; exact r.hd, d1, ?_, ?_, by simp only [PyData.eqv]; exact r.eq⟩
  · refine PyData.shown_fits_of_layable0 (B := 13) (by decide) (by decide) ?_ (by simp only [PyData.intsShort]; exact r.is)
    unfold PyData.layable0
    rw [c1, decide_eq_true d1, decide_eq_true (by simp only [PyData.weight]; omega)]
    rfl
  · unfold SeqAt.shaped
    rw [c1, decide_eq_true d1]
    rfl
end
theorem good_it {ds : List D} (h : Good ds) : ∀ d ∈ ds, It 40 d := by
  intro d hd
  obtain ⟨i, hi⟩ := List.getElem?_of_mem hd
  have hf := misfit_get h.fit hi
  rcases fits_cases hf with ⟨_, z, rfl, hz⟩ | ⟨_, z, b, rfl, hz⟩
  · have hl := h.sm z hd
    exact .inl ⟨z, rfl, pieceB_ok hz (by omega), hl⟩
  · exact .inr ⟨z, b, rfl, nameB_ok hz, by have := (nameB_list hz).2.2; omega⟩
theorem flip_it {L : Nat} {ds : List D} (hm : misfit 0 ds = none) (h : ∀ d ∈ ds, It L d) : ∀ d ∈ flipD ds, It L d := by
  intro d hd
  unfold flipD at hd
  rw [List.mem_reverse, List.mem_map] at hd
  obtain ⟨x, hx, rfl⟩ := hd
  obtain ⟨i, hi⟩ := List.getElem?_of_mem hx
  have hf := misfit_get hm hi
  rcases fits_cases hf with ⟨_, z, rfl, hz⟩ | ⟨_, z, b, rfl, hz⟩
  · rcases h _ hx with ⟨y, e, _, hl⟩ | ⟨y, b, e, _, _⟩
    · cases e
      exact .inl ⟨turnS z, rfl, pieceB_ok (turnS_piece hz) (by rw [turnS_len]; have := okS_len ‹okS z = true›; omega), by rw [turnS_len]; exact hl⟩
    · cases e
  · rcases h _ hx with ⟨y, e, _, hl⟩ | ⟨y, c, e, h1, h2⟩
    · cases e
    · cases e
      exact .inr ⟨z, !b, rfl, h1, h2⟩
/-- the law's word on one row -/
def spRight (O : HO → Prop) : Sp := fun vs H Q _ => ∃ v w ds, vs = [v, w] ∧ DV O H v (.lst ds) ∧ (DV O H w (.lst ds) ∨ DV O H w (.tup ds)) ∧ misfit 0 ds = none ∧ ds.length % 2 = 1 ∧ (∀ d ∈ ds, It 40 d) ∧ ds.length ≤ 100 ∧
  ∀ H', Ex H H' → Q (.bl true) H'
end Gd
/-! Rows put together. -/
namespace Gd
open PySem PySem.Spec PyProof.Rows L2
theorem misfit_shift {ds : List D} {k : Nat} (h : misfit 0 ds = none) (hk : k % 2 = 0) : misfit k ds = none := by
  refine misfit_of fun i d e => ?_
  have h1 := misfit_get h e
  unfold fits at h1 ⊢
  have : (0 + i) % 2 = (k + i) % 2 := by omega
  rw [this] at h1
  exact h1
theorem misfit_two {xs ys : List D} {k : Nat} (h : misfit k xs = none) (h2 : misfit (k + xs.length) ys = none) : misfit k (xs ++ ys) = none := by
  refine misfit_of fun i d e => ?_
  rw [List.getElem?_append] at e
  split at e
  · exact misfit_get h e
  · rename_i hi
    have := misfit_get h2 e
    rwa [show k + xs.length + (i - xs.length) = k + i by omega] at this
theorem flipD_app (xs ys : List D) : flipD (xs ++ ys) = flipD ys ++ flipD xs := by simp [flipD]
theorem abcd_at : ∀ n < 4, nameB (cutS "abcd" none (some (1 + ((n : Nat) : Int)))) = true := by decide +kernel
theorem piece_mul {z : Str} {n : Int} (h : pieceB z = true) : pieceB (mulS z n) = true := by
  refine pieceB_of fun c hc => ?_
  rw [mul_list] at hc
  obtain ⟨l, hl, hc⟩ := List.mem_flatten.mp hc
  rw [(List.mem_replicate.mp hl).2] at hc
  exact pieceB_list h c hc
theorem piece_app {x y : Str} (hx : pieceB x = true) (hy : pieceB y = true) : pieceB (x ++ y) = true := by
  refine pieceB_of fun c hc => ?_
  rw [str_app_list, List.mem_append] at hc
  rcases hc with h | h
  · exact pieceB_list hx c h
  · exact pieceB_list hy c h
theorem str_shaped {z : Str} (h : okS z = true) : SeqAt.shaped (.str z) = true ∧ PyData.eqv (.str z) (.str z) = true := by
  have := okS_strOk h
  constructor
  · simp [SeqAt.shaped, PyData.canLay0, PyData.depth, this]
  · simp [PyData.eqv]
/-- what is known of a drawn row -/
structure RowAt (O : HO → Prop) (G : Hp) (v : V) (o : Addr) (vs : List V) (ds : List D) : Prop where
  v : v = .ref o
  at' : G o = some (.lst vs)
  dv : DVs O G vs ds
  gd : Good ds
  odd : ds.length % 2 = 1
  le : ds.length ≤ 25
theorem rowAt {O : HO → Prop} {G : Hp} {v : V} {ds : List D} {n : Nat} (h : DV O G v (.lst ds)) (g : Good ds) (l : ds.length = 2 * n + 1) (hn : n ≤ 12) : ∃ o vs, RowAt O G v o vs ds := by
  cases h with
  | lst ha hd hl => exact ⟨_, _, rfl, ha, hd, g, by omega, by omega⟩
theorem RowAt.ex {O : HO → Prop} {G G' : Hp} {v : V} {o : Addr} {vs : List V} {ds : List D} (r : RowAt O G v o vs ds) (e : Ex G G') : RowAt O G' v o vs ds :=
  ⟨r.v, e _ _ r.at', DVs.ex e _ _ r.dv, r.gd, r.odd, r.le⟩
theorem RowAt.lst {O : HO → Prop} {G : Hp} {v : V} {o : Addr} {vs : List V} {ds : List D} (r : RowAt O G v o vs ds) : DV O G v (.lst ds) := by
  rw [r.v]
  exact .lst r.at' r.dv (by rw [r.dv.length]; have := r.le; omega)
theorem RowAt.len {O : HO → Prop} {G : Hp} {v : V} {o : Addr} {vs : List V} {ds : List D} (r : RowAt O G v o vs ds) : vs.length ≤ 25 := by rw [r.dv.length]; exact r.le
end Gd
/-! Every other item of a tuple. -/
namespace Gd
open PySem PySem.Spec PyProof.Rows L2 Builtin
theorem places_two (a n : Nat) (h : a ≤ n) : Slice.slicePlaces (a : Int) (n : Int) 2 = (n - a + 1) / 2 := by
  unfold Slice.slicePlaces
  rw [if_pos (by decide)]
  by_cases q : (a : Int) < n
  · rw [if_pos q]
    omega
  · rw [if_neg q]
    omega
theorem step_two (n : Nat) : stepIx n none none 2 = (List.range ((n + 1) / 2)).map fun k => k * 2 := by
  have e1 : Slice.sliceAdjust none none 2 (n : Int) = (((0 : Nat) : Int), (n : Int)) := rfl
  unfold stepIx
  rw [e1]
  simp only []
  rw [places_two 0 n (Nat.zero_le _)]
  apply List.map_congr_left
  intro k _
  omega
theorem step_odd (n : Nat) (h : 1 ≤ n) : stepIx n (some 1) none 2 = (List.range (n / 2)).map fun k => 1 + k * 2 := by
  have e1 : Slice.sliceAdjust (some 1) none 2 (n : Int) = (((1 : Nat) : Int), (n : Int)) := by
    unfold Slice.sliceAdjust
    simp
    omega
  unfold stepIx
  rw [e1]
  simp only []
  rw [places_two 1 n h, show n - 1 + 1 = n by omega]
  apply List.map_congr_left
  intro k _
  omega
theorem pick_two {α : Type} (xs : List α) : ((List.range ((xs.length + 1) / 2)).map fun k => k * 2).filterMap (xs[·]?) = evens xs := by
  rw [List.filterMap_map]
  have q := pick_evens xs []
  simpa [Function.comp_def] using q
theorem pick_odd {α : Type} (x : α) (r : List α) : ((List.range ((x :: r).length / 2)).map fun k => 1 + k * 2).filterMap ((x :: r)[·]?) = odds (x :: r) := by
  rw [List.filterMap_map, odds_eq]
  have q := pick_evens r [x]
  rw [List.drop_one, List.tail_cons, ← q]
  rfl
section
variable {X : Cx}
/-- t[::2] and t[1::2] of a tuple that is not empty -/
def rTwoT (K : PySem.W.Frag) : V → Option Int → Option Int → Option Int → Hp → VK → Prop := fun x lo hi st H Q =>
  ∃ a xs, x = .ref a ∧ SqT K H a xs ∧ 1 ≤ xs.length ∧ hi = none ∧ st = some 2 ∧
    ((lo = none ∧ ∀ p, H p = none → Q (.ref p) (upd H p (.tup (evens xs)))) ∨ (lo = some 1 ∧ ∀ p, H p = none → Q (.ref p) (upd H p (.tup (odds xs)))))
theorem vals_evens : ∀ {xs : List V} {us : List Value}, Vals xs us → Vals (evens xs) (evens us)
  | _, _, .nil => .nil
  | _, _, .cons h .nil => .cons h .nil
  | _, _, .cons h (.cons _ r) => .cons h (vals_evens r)
theorem vals_odds : ∀ {xs : List V} {us : List Value}, Vals xs us → Vals (odds xs) (odds us)
  | _, _, .nil => .nil
  | _, _, .cons _ .nil => .nil
  | _, _, .cons _ (.cons h r) => .cons h (vals_odds r)
theorem ss_twoT : SlS X (rTwoT X.K) := by
  intro pins s σ H x v vl vu vs lo hi st sl Q I rx hs pl pu ps h
  obtain ⟨a, xs, rfl, hx, hlen, rfl, rfl, q⟩ := h
  cases rx
  obtain ⟨its, r, ht, hz⟩ := I.tuple hx
  have hl := r.length
  refine ⟨"tuple", _, PyProof.Rows.slot_tuple_getitem.lookup, ht.typeIs, ?_⟩
  rcases q with ⟨rfl, q⟩ | ⟨rfl, q⟩
  · have e : (stepIx its.toArray.size none none 2).filterMap (its.toArray[·]?) = evens its := by
      rw [List.size_toArray, step_two]
      have := pick_two its
      simpa using this
    refine tup_step ht hs pl pu ps (by decide) (by decide) (by rw [e, evens_length]; omega) ?_
    rw [e]
    refine ⟨.ref s.heap.objs.size, _, I.laid (t' := s.toks) (o := .tup (evens xs)) (fun b ob q => Heap.get?_push_of_some _ q) (Nat.le_refl _) ?_, rfl, q _ (I.hok.fresh (Nat.le_refl _))⟩
    exact ⟨by show (evens xs).length ≤ sizeLine; rw [evens_length]; omega, _, vals_evens r, IsTup.new _ _⟩
  · have e : (stepIx its.toArray.size (some 1) none 2).filterMap (its.toArray[·]?) = odds its := by
      rw [List.size_toArray, step_odd _ (by omega)]
      cases its with
      | nil => exact absurd (show xs.length = 0 from hl) (by omega)
      | cons y ys =>
        have := pick_odd y ys
        simpa using this
    refine tup_step ht hs pl pu ps (by decide) (by decide) (by rw [e, odds_length]; omega) ?_
    rw [e]
    refine ⟨.ref s.heap.objs.size, _, I.laid (t' := s.toks) (o := .tup (odds xs)) (fun b ob q => Heap.get?_push_of_some _ q) (Nat.le_refl _) ?_, rfl, q _ (I.hok.fresh (Nat.le_refl _))⟩
    exact ⟨by show (odds xs).length ≤ sizeLine; rw [odds_length]; omega, _, vals_odds r, IsTup.new _ _⟩
end
end Gd
/-! list(range(a, b)). -/
namespace Gd
open PySem PySem.Spec PyProof.Rows L2 Builtin
theorem fits60 {a : Int} (h0 : -(2 ^ 60) ≤ a) (h1 : a ≤ 2 ^ 60) : Range.rangeFitsLong a = true := by
  unfold Range.rangeFitsLong
  simp
  omega
theorem call_list_rng {X : Cx} (hc : X.calm = true) : CallR X (.type "list") (fun xs H Q => ∃ r lo hi, xs = [.ref r] ∧ H r = some (.rng lo hi) ∧ -(2 ^ 50) ≤ lo ∧ hi ≤ 2 ^ 50 ∧ lo ≤ hi ∧ hi ≤ lo + 100000 ∧
    ∀ p, H p = none → Q (.ref p) (upd H p (.lst ((List.range (hi - lo).toNat).map fun i : Nat => V.int (lo + i))))) := by
  intro pins s σ H xs us Q I rv h
  obtain ⟨r, lo, hi, rfl, hH, h1, h2, h3, h4, q⟩ := h
  obtain ⟨u, rfl, ru⟩ := vals1 rv
  obtain rfl : u = Value.ref r := ru
  obtain ⟨t, u, v, hr⟩ := I.hok _ _ hH
  have hs : Range.rangeSize lo hi 1 = ((hi - lo).toNat : Nat) := by
    unfold Range.rangeSize
    rw [if_pos (by decide)]
    by_cases e : lo < hi
    · rw [if_pos e, Int.ediv_one]
      omega
    · rw [if_neg e]
      omega
  refine call_list_range (n := (hi - lo).toNat) (I.ok.hd hc) hr ?_ hs (by omega) fun h' tk acc c keep hl hit => ?_
  · unfold Range.small
    rw [hs, fits60 (by omega) (by omega), fits60 (by omega) (by omega), fits60 (by omega) (by omega), fits60 (by omega) (by omega), if_pos (by decide), fits60 (by omega) (by omega)]
    simp
  · refine ⟨.ref s.heap.objs.size, _, I.laid (t' := tk) (o := .lst ((List.range (hi - lo).toNat).map fun i : Nat => V.int (lo + i))) keep (Nat.le_refl _) ?_, rfl, q _ (I.hok.fresh (Nat.le_refl _))⟩
    refine ⟨?_, acc.toList, c, ?_, hl⟩
    · rw [List.length_map, List.length_range]
      exact le_line (by omega)
    · obtain ⟨e1, e2⟩ := hit
      refine paired_of (by rw [List.length_map, List.length_range, Array.length_toList, e1]) fun j a b ha hb => ?_
      obtain ⟨hj, rfl⟩ := range_get ha
      obtain ⟨t, e⟩ := e2 j b (by simpa using hb)
      rw [e]
      exact ⟨t, by rw [Int.mul_one]⟩
/-- range(n) -/
theorem cr_range1 {X : Cx} : CallR X (.type "range") (fun vs H Q => ∃ j, vs = [V.int j] ∧ ∀ p, H p = none → Q (.ref p) (upd H p (.rng 0 j))) := by
  intro pins s σ H vs us Q I r h
  obtain ⟨j, rfl, q⟩ := h
  obtain ⟨u, rfl, ru⟩ := vals1 r
  obtain ⟨t, rfl⟩ := ru
  refine PySem.call_range_1 ?_
  refine ⟨.ref s.heap.objs.size, _, I.laid (o := .rng 0 j) (fun b o e => Heap.get?_push_of_some _ e) (Nat.le_refl _) ⟨_, _, _, Heap.get?_push_size _ rfl⟩, rfl, q _ (I.hok.fresh (Nat.le_refl _))⟩
/-- whether a value is this text -/
def isTxt (z : Str) : Value → Bool
  | .str y _ => y == z
  | _ => false
theorem vals_strs : ∀ {zs : List Str} {us : List Value}, Vals (zs.map V.str) us → (∀ y ∈ us, ∃ a t, y = .str a t) ∧ ∀ z : Str, us.countP (isTxt z) = zs.count z
  | [], _, .nil => ⟨fun y h => by simp at h, fun z => rfl⟩
  | a :: zs, _, .cons ⟨t, h⟩ r => by
    obtain ⟨h1, h2⟩ := vals_strs r
    subst h
    refine ⟨fun y hy => ?_, fun z => ?_⟩
    · rcases List.mem_cons.mp hy with rfl | hy
      · exact ⟨a, t, rfl⟩
      · exact h1 y hy
    · rw [List.countP_cons, List.count_cons, h2 z]
      rfl
/-- l.count(s) of a list of texts -/
def rCntS (K : PySem.W.Frag) : V → List V → Hp → VK → Prop := fun x xs H Q => ∃ (p : Addr) (zs : List Str) (z : Str), x = .ref p ∧ xs = [.str z] ∧ SqL K H p (zs.map V.str) ∧ Q (.int ((zs.count z : Nat) : Int)) H
theorem mt_countS {X : Cx} : MtR X "list.count" (rCntS X.K) := by
  intro pins s σ H x xs v us Q I rx rxs h
  obtain ⟨p, zs, z, rfl, rfl, hs, q⟩ := h
  obtain rfl : v = Value.ref p := rx
  obtain ⟨u, rfl, ru⟩ := vals1 rxs
  obtain ⟨t, rfl⟩ := ru
  obtain ⟨its, rv, ⟨w, n, ho, hc, hdn, hd⟩, hz⟩ := I.list hs
  obtain ⟨cls, dd, data, sl⟩ := w
  dsimp only at hc hdn hd
  subst hc hd
  obtain ⟨h1, h2⟩ := vals_strs rv
  refine call_meets F.slot_list_count ⟨_, ho, rfl⟩ F.entry_list_count (F.args_list_count_2 _ _) (SeqAt.list_countAt p its.toArray n dd sl (.str z t) (isTxt z)) ⟨ho, fun y hy => ?_, ?_⟩
  · obtain ⟨a, t', rfl⟩ := h1 y (by simpa using hy)
    exact (PyProof.Rows.eqGives_str a z t' t).at _ _
  · have e : its.toArray.toList.countP (isTxt z) = zs.count z := by simpa using h2 z
    show EP X pins σ Q _ _
    rw [e]
    exact ⟨.int _, H, I.tok _, ⟨_, rfl⟩, q⟩
end Gd
/-! Rows by pieces and markers; markers taken out. -/
namespace Gd
open PySem PySem.Spec PyProof.Rows L2

abbrev Mk := Str × Bool
def mkD (m : Mk) : D := .tup [.str m.1, .bl m.2]
/-- markers with the piece behind each -/
def tlD : List (Mk × Str) → List D
  | [] => []
  | p :: r => mkD p.1 :: .str p.2 :: tlD r
def toD (z : Str) (l : List (Mk × Str)) : List D := .str z :: tlD l
theorem tlD_len : ∀ l : List (Mk × Str), (tlD l).length = 2 * l.length
  | [] => rfl
  | p :: r => by
    have := tlD_len r
    simp only [tlD, List.length_cons, this]
    omega
theorem toD_len (z : Str) (l : List (Mk × Str)) : (toD z l).length = 2 * l.length + 1 := by
  simp only [toD, List.length_cons, tlD_len]
theorem tlD_app : ∀ l r : List (Mk × Str), tlD (l ++ r) = tlD l ++ tlD r
  | [], _ => rfl
  | p :: l, r => by
    rw [List.cons_append]
    show mkD p.1 :: .str p.2 :: tlD (l ++ r) = mkD p.1 :: .str p.2 :: tlD l ++ tlD r
    rw [tlD_app l r]
    rfl
theorem tlD_get : ∀ {l : List (Mk × Str)} {k : Nat} {p : Mk × Str}, l[k]? = some p → (tlD l)[2 * k]? = some (mkD p.1) ∧ (tlD l)[2 * k + 1]? = some (.str p.2)
  | [], k, p, h => by simp at h
  | q :: r, 0, p, h => by
    simp only [List.getElem?_cons_zero, Option.some.injEq] at h
    subst h
    exact ⟨rfl, rfl⟩
  | q :: r, k + 1, p, h => by
    rw [List.getElem?_cons_succ] at h
    obtain ⟨a, b⟩ := tlD_get h
    refine ⟨?_, ?_⟩
    · rw [show 2 * (k + 1) = 2 * k + 1 + 1 by omega]
      exact a
    · rw [show 2 * (k + 1) + 1 = 2 * k + 1 + 1 + 1 by omega]
      exact b
/-- the k-th piece -/
def pcS (z : Str) (l : List (Mk × Str)) : Nat → Str
  | 0 => z
  | k + 1 => ((l[k]?).map (·.2)).getD Str.empty
theorem toD_pc {z : Str} {l : List (Mk × Str)} : ∀ {k : Nat}, k ≤ l.length → (toD z l)[2 * k]? = some (.str (pcS z l k))
  | 0, _ => rfl
  | k + 1, h => by
    have hk : k < l.length := h
    have e : l[k]? = some l[k] := List.getElem?_eq_getElem hk
    rw [show 2 * (k + 1) = 2 * k + 1 + 1 by omega]
    show (tlD l)[2 * k + 1]? = _
    rw [(tlD_get e).2]
    simp [pcS, e]
theorem toD_mk {z : Str} {l : List (Mk × Str)} {k : Nat} {p : Mk × Str} (h : l[k]? = some p) : (toD z l)[2 * k + 1]? = some (mkD p.1) := (tlD_get h).1
theorem pcS_next {z : Str} {l : List (Mk × Str)} {k : Nat} {p : Mk × Str} (h : l[k]? = some p) : pcS z l (k + 1) = p.2 := by simp [pcS, h]
/-- a good row -/
structure OkR (z : Str) (l : List (Mk × Str)) : Prop where
  pz : pieceB z = true
  pl : ∀ p ∈ l, nameB p.1.1 = true ∧ pieceB p.2 = true
theorem toD_of : ∀ (n : Nat) {ds : List D} {k : Nat}, ds.length = 2 * n + 1 → misfit k ds = none → k % 2 = 0 → ∃ z l, ds = toD z l ∧ OkR z l ∧ l.length = n
  | 0, ds, k, hl, hm, hk => by
    match ds, hl with
    | [d], _ =>
      have h0 := misfit_get hm (i := 0) (d := d) rfl
      rcases fits_cases h0 with ⟨_, z, rfl, hz⟩ | ⟨h, _⟩
      · exact ⟨z, [], rfl, ⟨hz, fun _ h => by simp at h⟩, rfl⟩
      · omega
  | n + 1, ds, k, hl, hm, hk => by
    match ds, hl, hm with
    | d :: e :: ds, hl, hm =>
      have h0 := misfit_get hm (i := 0) (d := d) rfl
      have h1 := misfit_get hm (i := 1) (d := e) rfl
      rcases fits_cases h0 with ⟨_, z, rfl, hz⟩ | ⟨h, _⟩
      · rcases fits_cases h1 with ⟨h, _⟩ | ⟨_, y, b, rfl, hy⟩
        · omega
        · have hm2 : misfit (k + 2) ds = none := by
            have e1 : misfit k (.str z :: .tup [.str y, .bl b] :: ds) = if fits k (.str z) = true then (if fits (k + 1) (.tup [.str y, .bl b]) = true then misfit (k + 2) ds else some (k + 1)) else some k := rfl
            rw [e1, if_pos (show fits k (.str z) = true from h0), if_pos h1] at hm
            exact hm
          obtain ⟨y2, l, rfl, o, hll⟩ := toD_of n (ds := ds) (k := k + 2) (by simp at hl; omega) hm2 (by omega)
          refine ⟨z, ((y, b), y2) :: l, rfl, ⟨hz, ?_⟩, by simp [hll]⟩
          intro p hp
          rcases List.mem_cons.mp hp with rfl | hp
          · exact ⟨hy, o.pz⟩
          · exact o.pl p hp
      · omega
theorem OkR.tl {z : Str} {l : List (Mk × Str)} (o : OkR z l) : misfit 1 (tlD l) = none := by
  apply misfit_of
  intro i d hd
  have hi : i < 2 * l.length := by
    have := (List.getElem?_eq_some_iff.mp hd).1
    rw [tlD_len] at this
    exact this
  have hk : i / 2 < l.length := by omega
  have e : l[i / 2]? = some l[i / 2] := List.getElem?_eq_getElem hk
  obtain ⟨a, b⟩ := tlD_get e
  obtain ⟨h1, h2⟩ := o.pl _ (List.getElem_mem hk)
  by_cases h : i % 2 = 0
  · rw [show i = 2 * (i / 2) by omega] at hd
    rw [a] at hd
    cases hd
    exact fits_odd (by omega) h1
  · rw [show i = 2 * (i / 2) + 1 by omega] at hd
    rw [b] at hd
    cases hd
    exact fits_even (by omega) h2
theorem OkR.fit {z : Str} {l : List (Mk × Str)} (o : OkR z l) : misfit 0 (toD z l) = none := by
  unfold toD misfit
  rw [if_pos (fits_even rfl o.pz)]
  exact o.tl
theorem OkR.row {z : Str} {l : List (Mk × Str)} (o : OkR z l) : isRow (.lst (toD z l)) = true ∧ isRow (.tup (toD z l)) = true := by
  have h : (decide ((toD z l).length % 2 = 1) && (misfit 0 (toD z l)).isNone) = true := by
    rw [o.fit, toD_len, decide_eq_true (by omega)]
    rfl
  exact ⟨h, h⟩
theorem odds_toD : ∀ (l : List (Mk × Str)) (d : D), odds (d :: tlD l) = l.map fun p => mkD p.1
  | [], d => rfl
  | p :: r, d => by
    show mkD p.1 :: odds (.str p.2 :: tlD r) = _
    rw [odds_toD r]
    rfl
/-- letters of all pieces -/
def tot (z : Str) (l : List (Mk × Str)) : Nat := z.length + (l.map (·.2.length)).sum
theorem tot_z {z : Str} {l : List (Mk × Str)} : z.length ≤ tot z l := Nat.le_add_right _ _
theorem tot_p {z : Str} : ∀ {l : List (Mk × Str)} {p : Mk × Str}, p ∈ l → p.2.length ≤ tot z l := by
  intro l p h
  have : p.2.length ≤ (l.map (·.2.length)).sum := by
    induction l with
    | nil => simp at h
    | cons q r ih =>
      rw [List.map_cons, List.sum_cons]
      rcases List.mem_cons.mp h with rfl | h
      · omega
      · have := ih h
        omega
  unfold tot
  omega
theorem OkR.it {z : Str} {l : List (Mk × Str)} {L : Nat} (o : OkR z l) (h : tot z l ≤ L) (hL : 4 ≤ L) (hL2 : L ≤ 100000) : ∀ d ∈ toD z l, It L d := by
  have aux : ∀ (l : List (Mk × Str)), (∀ p ∈ l, nameB p.1.1 = true ∧ pieceB p.2 = true ∧ p.2.length ≤ L) → ∀ d ∈ tlD l, It L d := by
    intro l
    induction l with
    | nil => intro _ d hd; simp [tlD] at hd
    | cons p r ih =>
      intro hp d hd
      obtain ⟨h1, h2, h3⟩ := hp p (by simp)
      rcases List.mem_cons.mp hd with rfl | hd
      · exact .inr ⟨p.1.1, p.1.2, rfl, nameB_ok h1, by have := (nameB_list h1).2.2; omega⟩
      · rcases List.mem_cons.mp hd with rfl | hd
        · exact .inl ⟨_, rfl, pieceB_ok h2 (by omega), h3⟩
        · exact ih (fun q hq => hp q (by simp [hq])) d hd
  intro d hd
  rcases List.mem_cons.mp hd with rfl | hd
  · have := @tot_z z l
    exact .inl ⟨_, rfl, pieceB_ok o.pz (by omega), by omega⟩
  · exact aux l (fun p hp => ⟨(o.pl p hp).1, (o.pl p hp).2, Nat.le_trans (tot_p hp) h⟩) d hd

/-! ### markers taken out -/
def mrg (g : Nat → Bool) : Nat → Str → List (Mk × Str) → Str × List (Mk × Str)
  | _, z, [] => (z, [])
  | i, z, (m, y) :: r => if g i = true then mrg g (i + 1) (z ++ y) r else (z, (m, (mrg g (i + 1) y r).1) :: (mrg g (i + 1) y r).2)
theorem app_assoc (x y z : Str) : x ++ y ++ z = x ++ (y ++ z) := by
  apply str_ext
  simp [str_app_list]
theorem mrg_acc (g : Nat → Bool) : ∀ (l : List (Mk × Str)) (i : Nat) (a b : Str), mrg g i (a ++ b) l = (a ++ (mrg g i b l).1, (mrg g i b l).2)
  | [], i, a, b => rfl
  | (m, y) :: r, i, a, b => by
    unfold mrg
    by_cases h : g i = true
    · rw [if_pos h, if_pos h, app_assoc]
      exact mrg_acc g r (i + 1) a (b ++ y)
    · rw [if_neg h, if_neg h]
theorem mrg_ok (g : Nat → Bool) : ∀ (l : List (Mk × Str)) (i : Nat) (z : Str), OkR z l → OkR (mrg g i z l).1 (mrg g i z l).2
  | [], _, _, o => o
  | (m, y) :: r, i, z, o => by
    obtain ⟨h1, h2⟩ := o.pl (m, y) (by simp)
    have hr : ∀ p ∈ r, nameB p.1.1 = true ∧ pieceB p.2 = true := fun p hp => o.pl p (by simp [hp])
    unfold mrg
    by_cases h : g i = true
    · rw [if_pos h]
      exact mrg_ok g r (i + 1) (z ++ y) ⟨piece_app o.pz h2, hr⟩
    · rw [if_neg h]
      have k := mrg_ok g r (i + 1) y ⟨h2, hr⟩
      refine ⟨o.pz, fun p hp => ?_⟩
      rcases List.mem_cons.mp hp with rfl | hp
      · exact ⟨h1, k.pz⟩
      · exact k.pl p hp
theorem mrg_tot (g : Nat → Bool) : ∀ (l : List (Mk × Str)) (i : Nat) (z : Str), tot (mrg g i z l).1 (mrg g i z l).2 = tot z l
  | [], _, _ => rfl
  | (m, y) :: r, i, z => by
    unfold mrg
    by_cases h : g i = true
    · rw [if_pos h, mrg_tot g r (i + 1) (z ++ y)]
      unfold tot
      rw [app_len, List.map_cons, List.sum_cons]
      show _ + _ + _ = _ + (y.length + _)
      omega
    · rw [if_neg h]
      have := mrg_tot g r (i + 1) y
      unfold tot at this ⊢
      rw [List.map_cons, List.sum_cons, List.map_cons, List.sum_cons]
      show _ + (Str.length _ + _) = _ + (Str.length _ + _)
      simp only at this ⊢
      omega
theorem mrg_len (g : Nat → Bool) : ∀ (l : List (Mk × Str)) (i : Nat) (z : Str), (mrg g i z l).2.length ≤ l.length
  | [], _, _ => Nat.le_refl _
  | (m, y) :: r, i, z => by
    unfold mrg
    by_cases h : g i = true
    · rw [if_pos h]
      have := mrg_len g r (i + 1) (z ++ y)
      simp only [List.length_cons]
      omega
    · rw [if_neg h]
      have := mrg_len g r (i + 1) y
      simp only [List.length_cons]
      omega
/-- which markers stay -/
theorem mrg_marks (g : Nat → Bool) : ∀ (l : List (Mk × Str)) (i : Nat) (z : Str), ((mrg g i z l).2.map (·.1)) = ((List.range l.length).filter fun k => !g (i + k)).filterMap fun k => (l[k]?).map (·.1)
  | [], _, _ => rfl
  | (m, y) :: r, i, z => by
    have e : List.range ((m, y) :: r).length = 0 :: (List.range r.length).map Nat.succ := by
      rw [List.length_cons, List.range_succ_eq_map]
    have f : (((List.range r.length).map Nat.succ).filter fun k => !g (i + k)).filterMap (fun k => (((m, y) :: r)[k]?).map (·.1)) = ((List.range r.length).filter fun k => !g (i + 1 + k)).filterMap fun k => (r[k]?).map (·.1) := by
      rw [List.filter_map, List.filterMap_map]
      have : ((fun k => !g (i + k)) ∘ Nat.succ) = fun k => !g (i + 1 + k) := by
        funext k
        show (!g (i + (k + 1))) = _
        rw [show i + (k + 1) = i + 1 + k by omega]
      rw [this]
      rfl
    rw [e]
    unfold mrg
    by_cases h : g i = true
    · rw [if_pos h, mrg_marks g r (i + 1) (z ++ y), List.filter_cons_of_neg (by simp [h]), f]
    · rw [if_neg h, List.filter_cons_of_pos (by simp [h]), List.filterMap_cons]
      simp only [List.getElem?_cons_zero, Option.map_some, List.map_cons]
      rw [mrg_marks g r (i + 1) y, f]
theorem mrg_none (g : Nat → Bool) : ∀ (l : List (Mk × Str)) (i : Nat) (z : Str), (∀ k, i ≤ k → k < i + l.length → g k = false) → mrg g i z l = (z, l)
  | [], _, _, _ => rfl
  | (m, y) :: r, i, z, h => by
    unfold mrg
    have h0 := h i (Nat.le_refl _) (by simp)
    rw [if_neg (by rw [h0]; decide), mrg_none g r (i + 1) y fun k a b => h k (by omega) (by simp; omega)]
theorem mrg_congr {g g' : Nat → Bool} : ∀ (l : List (Mk × Str)) (i : Nat) (z : Str), (∀ k, i ≤ k → k < i + l.length → g k = g' k) → mrg g i z l = mrg g' i z l
  | [], _, _, _ => rfl
  | (m, y) :: r, i, z, h => by
    unfold mrg
    have h0 := h i (Nat.le_refl _) (by simp)
    have h1 : ∀ k, i + 1 ≤ k → k < i + 1 + r.length → g k = g' k := fun k a b => h k (by omega) (by simp; omega)
    rw [h0, mrg_congr r (i + 1) (z ++ y) h1, mrg_congr r (i + 1) y h1]
end Gd
/-! Which markers of a row can't be used. -/
namespace Gd
open PySem PySem.Spec PyProof.Rows L2

/-- the numbers below i at which x stands -/
def occ (nm : List Str) (x : Str) (i : Nat) : List Nat := (List.range i).filter fun k => decide (nm[k]? = some x)
theorem occ_next (nm : List Str) (x : Str) (i : Nat) : occ nm x (i + 1) = occ nm x i ++ if nm[i]? = some x then [i] else [] := by
  unfold occ
  rw [List.range_succ, List.filter_append]
  congr 1
  by_cases h : nm[i]? = some x
  · rw [if_pos h, List.filter_cons_of_pos (by simp [h])]; rfl
  · rw [if_neg h, List.filter_cons_of_neg (by simp [h])]; rfl
theorem take_count {nm : List Str} {x : Str} {i : Nat} : (nm.take (i + 1)).count x = (nm.take i).count x + if nm[i]? = some x then 1 else 0 := by
  rw [List.take_add_one, List.count_append]
  congr 1
  cases h : nm[i]? with
  | none => simp
  | some y =>
    by_cases e : y = x
    · subst e; simp
    · rw [if_neg (by simpa using e)]
      simp [e]
theorem occ_len (nm : List Str) (x : Str) : ∀ i, (occ nm x i).length = (nm.take i).count x
  | 0 => by simp [occ]
  | i + 1 => by
    rw [occ_next, List.length_append, occ_len nm x i, take_count]
    by_cases h : nm[i]? = some x
    · rw [if_pos h, if_pos h]; rfl
    · rw [if_neg h, if_neg h]; rfl
theorem occ_mem {nm : List Str} {x : Str} {i k : Nat} : k ∈ occ nm x i ↔ k < i ∧ nm[k]? = some x := by
  unfold occ
  simp
theorem occ_drop {nm : List Str} {x : Str} : ∀ {i k : Nat}, k ∈ (occ nm x i).drop 2 ↔ k < i ∧ nm[k]? = some x ∧ 2 ≤ (occ nm x k).length
  | 0, k => by simp [occ]
  | i + 1, k => by
    rw [occ_next, List.drop_append, List.mem_append, occ_drop (i := i)]
    by_cases h : nm[i]? = some x
    · rw [if_pos h]
      constructor
      · rintro (⟨a, b, c⟩ | h2)
        · exact ⟨by omega, b, c⟩
        · have e : 2 ≤ (occ nm x i).length := by
            by_cases q : 2 ≤ (occ nm x i).length
            · exact q
            · exfalso
              have : [i].drop (2 - (occ nm x i).length) = [] := by
                apply List.drop_of_length_le
                simp
                omega
              rw [this] at h2
              simp at h2
          rw [show 2 - (occ nm x i).length = 0 by omega] at h2
          have : k = i := by simpa using h2
          subst this
          exact ⟨by omega, h, e⟩
      · rintro ⟨a, b, c⟩
        by_cases e : k = i
        · subst e
          right
          rw [show 2 - (occ nm x k).length = 0 by omega]
          simp
        · exact .inl ⟨by omega, b, c⟩
    · rw [if_neg h]
      constructor
      · rintro (⟨a, b, c⟩ | h2)
        · exact ⟨by omega, b, c⟩
        · simp at h2
      · rintro ⟨a, b, c⟩
        refine .inl ⟨?_, b, c⟩
        by_cases e : k = i
        · subst e; exact absurd b h
        · omega
/-- what clean_row takes out -/
def cleanG (nm : List Str) (k : Nat) : Bool := match nm[k]? with
  | some x => decide (1 < (nm.take k).count x) || decide (nm.count x = 1)
  | none => false
theorem cleanG_some {nm : List Str} {k : Nat} {x : Str} (h : nm[k]? = some x) : cleanG nm k = (decide (1 < (nm.take k).count x) || decide (nm.count x = 1)) := by
  unfold cleanG
  rw [h]
def sel (ns : List Nat) : List Nat := if ns.length = 1 then ns else ns.drop 2
theorem sel_mem {nm : List Str} {x : Str} {k : Nat} : k ∈ sel (occ nm x nm.length) ↔ k < nm.length ∧ nm[k]? = some x ∧ cleanG nm k = true := by
  have hl := occ_len nm x nm.length
  rw [List.take_length] at hl
  unfold sel
  by_cases h : (occ nm x nm.length).length = 1
  · rw [if_pos h, occ_mem]
    constructor
    · rintro ⟨a, b⟩
      refine ⟨a, b, ?_⟩
      rw [cleanG_some b, decide_eq_true (show nm.count x = 1 by omega), Bool.or_true]
    · rintro ⟨a, b, _⟩
      exact ⟨a, b⟩
  · rw [if_neg h, occ_drop]
    constructor
    · rintro ⟨a, b, c⟩
      rw [occ_len] at c
      refine ⟨a, b, ?_⟩
      rw [cleanG_some b, decide_eq_true (show 1 < (nm.take k).count x by omega), Bool.true_or]
    · rintro ⟨a, b, c⟩
      refine ⟨a, b, ?_⟩
      rw [cleanG_some b, decide_eq_false (show ¬ nm.count x = 1 by omega), Bool.or_false] at c
      have := of_decide_eq_true c
      rw [occ_len]
      omega
/-- the names of the markers that stay, of the first i -/
def keptN (nm : List Str) (i : Nat) : List Str := ((List.range i).filter fun k => !cleanG nm k).filterMap (nm[·]?)
theorem keptN_next (nm : List Str) (i : Nat) : keptN nm (i + 1) = keptN nm i ++ if cleanG nm i = true then [] else (nm[i]?).toList := by
  unfold keptN
  rw [List.range_succ, List.filter_append, List.filterMap_append]
  congr 1
  by_cases h : cleanG nm i = true
  · rw [if_pos h, List.filter_cons_of_neg (by simp [h])]; rfl
  · rw [if_neg h, List.filter_cons_of_pos (by simp [h])]
    show List.filterMap (fun k => nm[k]?) (i :: []) = _
    rw [List.filterMap_cons]
    cases nm[i]? <;> rfl
theorem keptN_count {nm : List Str} {x : Str} : ∀ {i : Nat}, i ≤ nm.length → (keptN nm i).count x = if nm.count x = 1 then 0 else min 2 ((nm.take i).count x)
  | 0, _ => by simp [keptN]
  | i + 1, hi => by
    rw [keptN_next, List.count_append, keptN_count (i := i) (by omega), take_count]
    obtain ⟨y, hy⟩ : ∃ y, nm[i]? = some y := ⟨_, List.getElem?_eq_getElem (show i < nm.length by omega)⟩
    rw [cleanG_some hy, hy]
    by_cases e : y = x
    · subst e
      rw [if_pos rfl]
      by_cases h1 : nm.count y = 1
      · rw [if_pos h1, decide_eq_true h1, Bool.or_true, if_pos rfl, if_pos h1]
        rfl
      · rw [if_neg h1, decide_eq_false h1, Bool.or_false, if_neg h1]
        by_cases h2 : 1 < (nm.take i).count y
        · rw [decide_eq_true h2, if_pos rfl]
          simp
          omega
        · rw [decide_eq_false h2, if_neg (by decide)]
          simp
          omega
    · rw [if_neg (show ¬ some y = some x by simpa using e)]
      have z : ∀ b : Bool, (if b = true then [] else (some y).toList).count x = 0 := by
        intro b
        cases b
        · simp [e]
        · rfl
      rw [z]
      simp
theorem keptN_clean (nm : List Str) (k : Nat) : cleanG (keptN nm nm.length) k = false := by
  generalize hm : keptN nm nm.length = nm'
  cases h : nm'[k]? with
  | none => unfold cleanG; rw [h]
  | some x =>
    rw [cleanG_some h]
    have hc : nm'.count x = if nm.count x = 1 then 0 else min 2 (nm.count x) := by
      rw [← hm, keptN_count (Nat.le_refl _), List.take_length]
    have h1 : (nm'.take k).count x + 1 ≤ nm'.count x := by
      have e := take_count (nm := nm') (x := x) (i := k)
      rw [if_pos h] at e
      rw [← e]
      exact List.Sublist.count_le _ (List.take_sublist _ _)
    have h2 : nm'.count x ≤ 2 ∧ nm'.count x ≠ 1 := by
      rw [hc]
      by_cases q : nm.count x = 1
      · rw [if_pos q]; omega
      · rw [if_neg q]; omega
    rw [decide_eq_false (by omega), decide_eq_false h2.2]
    rfl
def nmOf (l : List (Mk × Str)) : List Str := l.map (·.1.1)
/-- a cleaned row is clean -/
theorem clean_two (z : Str) (l : List (Mk × Str)) : mrg (cleanG (nmOf (mrg (cleanG (nmOf l)) 0 z l).2)) 0 (mrg (cleanG (nmOf l)) 0 z l).1 (mrg (cleanG (nmOf l)) 0 z l).2 = mrg (cleanG (nmOf l)) 0 z l := by
  have e : nmOf (mrg (cleanG (nmOf l)) 0 z l).2 = keptN (nmOf l) (nmOf l).length := by
    have h := mrg_marks (cleanG (nmOf l)) l 0 z
    have h2 := congrArg (List.map (·.1)) h
    rw [List.map_map] at h2
    have e3 : nmOf (mrg (cleanG (nmOf l)) 0 z l).2 = _ := h2
    rw [e3]
    unfold keptN
    rw [List.map_filterMap]
    have e1 : (nmOf l).length = l.length := by simp [nmOf]
    rw [e1]
    have e2 : (fun k => !cleanG (nmOf l) (0 + k)) = fun k => !cleanG (nmOf l) k := by
      funext k
      rw [Nat.zero_add]
    rw [e2]
    congr 1
    funext k
    simp [nmOf, List.getElem?_map, Option.map_map]
    rfl
  rw [e]
  apply mrg_none
  intro k _ _
  exact keptN_clean _ _
end Gd
/-! The numbers of the markers by their names, as a dict of lists. -/
namespace Gd
open PySem PySem.Spec PyProof.Rows L2

theorem cutV_from (xs : List V) (k : Nat) : cutV xs (some (k : Int)) none = xs.drop k := by
  unfold cutV
  rw [HT.sIx_nat, HT.sIx_none]
  by_cases h : k ≤ xs.length
  · rw [Nat.min_eq_left h]
    apply List.take_of_length_le
    simp
  · rw [Nat.min_eq_right (by omega), List.drop_length, List.drop_of_length_le (by omega)]
    simp
theorem cutV_to (xs : List V) (k : Nat) : cutV xs none (some (k : Int)) = xs.take k := by
  unfold cutV
  rw [HT.sIx_nat, HT.sIx_none, List.drop_zero, Nat.sub_zero]
  by_cases h : k ≤ xs.length
  · rw [Nat.min_eq_left h]
  · rw [Nat.min_eq_right (by omega), List.take_length, List.take_of_length_le (by omega)]
def intsV (ns : List Nat) : List V := ns.map fun (n : Nat) => V.int (n : Int)
structure Plc (G : Hp) (p : Addr) (H : Hp) (nm : List Str) (i : Nat) (kvs : List (Key × V)) : Prop where
  nd : (kvs.map (·.1)).Nodup
  at_ : ∀ k v, (k, v) ∈ kvs → ∃ (x : Str) (a : Addr), k = Sum.inr x ∧ v = .ref a ∧ G a = none ∧ a ≠ p ∧ H a = some (.lst (intsV (occ nm x i))) ∧ x ∈ nm.take i
  all : ∀ x ∈ nm.take i, ∃ v, ((Sum.inr x : Key), v) ∈ kvs
  inj : ∀ k k' v, (k, v) ∈ kvs → (k', v) ∈ kvs → k = k'
  len : kvs.length ≤ i
theorem Plc.nil {G H : Hp} {p : Addr} {nm : List Str} : Plc G p H nm 0 [] :=
  ⟨.nil, fun _ _ h => by simp at h, fun _ h => by simp at h, fun _ _ _ h => by simp at h, Nat.le_refl _⟩
theorem Plc.kp {G H H' : Hp} {p : Addr} {nm : List Str} {i : Nat} {kvs : List (Key × V)} (P : Plc G p H nm i kvs) (k : Kp p H H') : Plc G p H' nm i kvs :=
  ⟨P.nd, fun q v h => by
    obtain ⟨x, a, h1, h2, h3, h4, h5, h6⟩ := P.at_ q v h
    exact ⟨x, a, h1, h2, h3, h4, k _ _ h4 h5, h6⟩, P.all, P.inj, P.len⟩
theorem valV_mem {kvs : List (Key × V)} {k : Key} {v : V} (h : valV kvs k = some v) : (k, v) ∈ kvs := by
  unfold valV at h
  obtain ⟨⟨k', v'⟩, hf, rfl⟩ := Option.map_eq_some_iff.mp h
  have h1 := List.mem_of_find?_eq_some hf
  have h2 : k' = k := by simpa using List.find?_some hf
  subst h2
  exact h1
theorem valV_no {kvs : List (Key × V)} {k : Key} (h : valV kvs k = none) : ∀ kv ∈ kvs, kv.1 ≠ k := by
  unfold valV at h
  rw [Option.map_eq_none_iff, List.find?_eq_none] at h
  intro kv hkv e
  exact h kv hkv (by simp [e])
theorem valV_in : ∀ {kvs : List (Key × V)} {k : Key} {v : V}, (kvs.map (·.1)).Nodup → (k, v) ∈ kvs → valV kvs k = some v
  | [], _, _, _, h => by simp at h
  | (k', v') :: r, k, v, nd, h => by
    rw [List.map_cons, List.nodup_cons] at nd
    rcases List.mem_cons.mp h with e | h
    · cases e
      exact valV_pos rfl
    · have : ¬ k' = k := fun e => nd.1 (by rw [List.mem_map]; exact ⟨_, h, e.symm⟩)
      rw [valV_neg this]
      exact valV_in nd.2 h
theorem put_new {kvs : List (Key × V)} {k : Key} {z : V} (h : valV kvs k = none) : putK kvs k z = kvs ++ [(k, z)] := by
  unfold putK
  rw [if_neg]
  rw [List.any_eq_true]
  rintro ⟨kv, hkv, e⟩
  exact valV_no h kv hkv (of_decide_eq_true e)
theorem occ_not {nm : List Str} {x y : Str} {i : Nat} (h : nm[i]? = some x) (e : y ≠ x) : occ nm y (i + 1) = occ nm y i := by
  rw [occ_next, if_neg]
  · simp
  · rw [h]; intro q; cases q; exact e rfl
theorem occ_yes {nm : List Str} {x : Str} {i : Nat} (h : nm[i]? = some x) : occ nm x (i + 1) = occ nm x i ++ [i] := by
  rw [occ_next, if_pos h]
theorem take_mem {nm : List Str} {x y : Str} {i : Nat} (h : nm[i]? = some x) : y ∈ nm.take (i + 1) ↔ y ∈ nm.take i ∨ y = x := by
  rw [List.take_add_one, h]
  simp
theorem Plc.old {G H : Hp} {p a : Addr} {nm : List Str} {i : Nat} {kvs : List (Key × V)} {x : Str} (P : Plc G p H nm i kvs) (h : ((Sum.inr x : Key), V.ref a) ∈ kvs) (hx : nm[i]? = some x) :
    Plc G p (upd H a (.lst (intsV (occ nm x i) ++ [V.int (i : Nat)]))) nm (i + 1) kvs := by
  refine ⟨P.nd, fun k v hk => ?_, fun y hy => ?_, P.inj, by have := P.len; omega⟩
  · obtain ⟨y, b, rfl, rfl, h3, h4, h5, h6⟩ := P.at_ k v hk
    refine ⟨y, b, rfl, rfl, h3, h4, ?_, (take_mem hx).mpr (.inl h6)⟩
    by_cases e : y = x
    · subst e
      have hb : b = a := by
        have h1 := valV_in P.nd hk
        have h2 := valV_in P.nd h
        rw [h1] at h2
        cases h2
        rfl
      subst hb
      rw [upd_same, occ_yes hx]
      simp [intsV]
    · have hb : b ≠ a := by
        rintro rfl
        have := P.inj _ _ _ hk h
        cases this
        exact e rfl
      rw [upd_ne hb, occ_not hx e]
      exact h5
  · rcases (take_mem hx).mp hy with hy | rfl
    · exact P.all y hy
    · exact ⟨_, h⟩
theorem Plc.new {G H : Hp} {p a : Addr} {nm : List Str} {i : Nat} {kvs : List (Key × V)} {x : Str} (P : Plc G p H nm i kvs) (hx : nm[i]? = some x) (hn : valV kvs (Sum.inr x) = none)
    (ga : G a = none) (ha : a ≠ p) (hf : H a = none) (H' : Hp) (k : Kp p H H') : Plc G p (upd H' a (.lst [V.int (i : Nat)])) nm (i + 1) (kvs ++ [(Sum.inr x, .ref a)]) := by
  have no := valV_no hn
  have oc : occ nm x i = [] := by
    have hx' : x ∉ nm.take i := fun h => by
      obtain ⟨v, hv⟩ := P.all x h
      exact no _ hv rfl
    have := occ_len nm x i
    rw [List.count_eq_zero.mpr hx'] at this
    exact List.eq_nil_of_length_eq_zero this
  have na : ∀ k, (k, V.ref a) ∉ kvs := fun k hk => by
    obtain ⟨y, b, _, e, _, _, h5, _⟩ := P.at_ _ _ hk
    cases e
    rw [hf] at h5
    cases h5
  refine ⟨?_, fun k v hk => ?_, fun y hy => ?_, fun k k' v h h' => ?_, by have := P.len; simp; omega⟩
  · rw [List.map_append, List.nodup_append]
    refine ⟨P.nd, by simp, ?_⟩
    intro k hk k' hk' e
    obtain ⟨kv, hkv, rfl⟩ := List.mem_map.mp hk
    have : k' = Sum.inr x := by simpa using hk'
    subst this
    exact no kv hkv e
  · rcases List.mem_append.mp hk with hk | hk
    · obtain ⟨y, b, rfl, rfl, h3, h4, h5, h6⟩ := P.at_ k v hk
      have e : y ≠ x := fun e => no _ hk (by rw [e])
      have hb : b ≠ a := fun q => na _ (q ▸ hk)
      refine ⟨y, b, rfl, rfl, h3, h4, ?_, (take_mem hx).mpr (.inl h6)⟩
      rw [upd_ne hb, occ_not hx e]
      exact k _ _ h4 h5
    · have e : (k, v) = (Sum.inr x, V.ref a) := by simpa using hk
      cases e
      refine ⟨x, a, rfl, rfl, ga, ha, ?_, (take_mem hx).mpr (.inr rfl)⟩
      rw [upd_same, occ_yes hx, oc]
      rfl
  · rcases (take_mem hx).mp hy with hy | rfl
    · obtain ⟨v, hv⟩ := P.all y hy
      exact ⟨v, by simp [hv]⟩
    · exact ⟨_, by simp; exact .inr rfl⟩
  · rcases List.mem_append.mp h with h | h
    · rcases List.mem_append.mp h' with h' | h'
      · exact P.inj _ _ _ h h'
      · have e : (k', v) = (Sum.inr x, V.ref a) := by simpa using h'
        cases e
        exact absurd h (na _)
    · have e : (k, v) = (Sum.inr x, V.ref a) := by simpa using h
      cases e
      rcases List.mem_append.mp h' with h' | h'
      · exact absurd h' (na _)
      · have e : (k', V.ref a) = (Sum.inr x, V.ref a) := by simpa using h'
        cases e
        rfl
/-- what is taken out for the first j keys -/
def selK (nm : List Str) (k : Key) : List Nat := match k with
  | .inr x => sel (occ nm x nm.length)
  | .inl _ => []
def sels (nm : List Str) (kvs : List (Key × V)) (j : Nat) : List Nat := ((kvs.take j).map fun kv => selK nm kv.1).flatten
theorem sels_next {nm : List Str} {kvs : List (Key × V)} {j : Nat} {k : Key} {v : V} (h : kvs[j]? = some (k, v)) : sels nm kvs (j + 1) = sels nm kvs j ++ selK nm k := by
  unfold sels
  rw [List.take_add_one, h]
  simp
theorem sel_len {nm : List Str} {k : Key} : (selK nm k).length ≤ nm.length := by
  cases k with
  | inl _ => exact Nat.zero_le _
  | inr x =>
    have h1 : (occ nm x nm.length).length ≤ nm.length := by
      rw [occ_len]
      exact Nat.le_trans List.count_le_length (List.length_take_le _ _)
    show (sel _).length ≤ _
    unfold sel
    by_cases e : (occ nm x nm.length).length = 1
    · rw [if_pos e]; exact h1
    · rw [if_neg e, List.length_drop]; omega
theorem sels_len {nm : List Str} {kvs : List (Key × V)} : ∀ j, (sels nm kvs j).length ≤ j * nm.length
  | 0 => by simp [sels]
  | j + 1 => by
    cases h : kvs[j]? with
    | none =>
      have e : sels nm kvs (j + 1) = sels nm kvs j := by
        unfold sels
        rw [List.take_add_one, h]
        simp
      rw [e]
      have := sels_len (nm := nm) (kvs := kvs) j
      rw [Nat.add_mul]
      omega
    | some kv =>
      obtain ⟨k, v⟩ := kv
      rw [sels_next h, List.length_append]
      have := sels_len (nm := nm) (kvs := kvs) j
      have := @sel_len nm k
      rw [Nat.add_mul]
      omega
theorem Plc.sels {G H : Hp} {p : Addr} {nm : List Str} {kvs : List (Key × V)} (P : Plc G p H nm nm.length kvs) (k : Nat) : k ∈ sels nm kvs kvs.length ↔ (k < nm.length ∧ cleanG nm k = true) := by
  unfold Gd.sels
  rw [List.take_length, List.mem_flatten]
  constructor
  · rintro ⟨ns, h1, h2⟩
    obtain ⟨⟨q, v⟩, hkv, rfl⟩ := List.mem_map.mp h1
    obtain ⟨x, a, rfl, _⟩ := P.at_ q v hkv
    obtain ⟨a, _, c⟩ := sel_mem.mp h2
    exact ⟨a, c⟩
  · rintro ⟨a, c⟩
    obtain ⟨x, hx⟩ : ∃ x, nm[k]? = some x := ⟨_, List.getElem?_eq_getElem a⟩
    obtain ⟨v, hv⟩ := P.all x (by rw [List.take_length]; exact List.mem_of_getElem? hx)
    exact ⟨_, List.mem_map.mpr ⟨_, hv, rfl⟩, sel_mem.mpr ⟨a, hx, c⟩⟩
end Gd
namespace MS
open PySem PySem.Spec PyProof.Rows L2 Gd
def top (i : Nat) : Stmt := PySem.Challenge.pw_markersplice_k03_removing_markers.main.body.getD i (.Pass ⟨0, 0, 0, 0⟩)
abbrev s_is_integer : Stmt := top 8
abbrev s_is_name : Stmt := top 9
abbrev s_is_piece : Stmt := top 10
abbrev s_is_marker : Stmt := top 11
abbrev s_has_row_length : Stmt := top 12
abbrev s_first_misfit : Stmt := top 13
abbrev s_check_items : Stmt := top 14
abbrev s_check_row : Stmt := top 15
abbrev s_places_by_name : Stmt := top 16
abbrev s_without_markers : Stmt := top 17
abbrev s_clean_row : Stmt := top 18
abbrev s_are_marker_numbers : Stmt := top 19
abbrev s_merged : Stmt := top 20
abbrev s_L_cell : Stmt := top 22
abbrev s_L_box : Stmt := top 23
abbrev s_L_take : Stmt := top 24
abbrev s_L_names : Stmt := top 25
abbrev s_L_piece : Stmt := top 26
abbrev s_L_row : Stmt := top 27
abbrev s_L_left : Stmt := top 28
abbrev s_L_wrong_marks : Stmt := top 29
abbrev s_L_numbers : Stmt := top 30
abbrev s_law : Stmt := top 31
abbrev sc_is_integer.N' : List Str := ["value", "low", "high"]
theorem sc_is_integer : FnScope sc_is_integer.N' ["value", "low", "high"] (defScope s_is_integer) :=
  ⟨rfl, rfl, rfl, by decide +kernel, rfl, by decide +kernel, by decide +kernel⟩
abbrev sc_is_name.N' : List Str := ["value"]
theorem sc_is_name : FnScope sc_is_name.N' ["value"] (defScope s_is_name) :=
  ⟨rfl, rfl, rfl, by decide +kernel, rfl, by decide +kernel, by decide +kernel⟩
abbrev sc_is_piece.N' : List Str := ["value"]
theorem sc_is_piece : FnScope sc_is_piece.N' ["value"] (defScope s_is_piece) :=
  ⟨rfl, rfl, rfl, by decide +kernel, rfl, by decide +kernel, by decide +kernel⟩
abbrev sc_is_marker.N' : List Str := ["value"]
theorem sc_is_marker : FnScope sc_is_marker.N' ["value"] (defScope s_is_marker) :=
  ⟨rfl, rfl, rfl, by decide +kernel, rfl, by decide +kernel, by decide +kernel⟩
abbrev sc_has_row_length.N' : List Str := ["value"]
theorem sc_has_row_length : FnScope sc_has_row_length.N' ["value"] (defScope s_has_row_length) :=
  ⟨rfl, rfl, rfl, by decide +kernel, rfl, by decide +kernel, by decide +kernel⟩
abbrev sc_first_misfit.N' : List Str := ["items", "index", "item", "fits"]
theorem sc_first_misfit : FnScope sc_first_misfit.N' ["items"] (defScope s_first_misfit) :=
  ⟨rfl, rfl, rfl, by decide +kernel, rfl, by decide +kernel, by decide +kernel⟩
abbrev sc_check_items.N' : List Str := ["items", "index"]
theorem sc_check_items : FnScope sc_check_items.N' ["items"] (defScope s_check_items) :=
  ⟨rfl, rfl, rfl, by decide +kernel, rfl, by decide +kernel, by decide +kernel⟩
abbrev sc_check_row.N' : List Str := ["row"]
theorem sc_check_row : FnScope sc_check_row.N' ["row"] (defScope s_check_row) :=
  ⟨rfl, rfl, rfl, by decide +kernel, rfl, by decide +kernel, by decide +kernel⟩
abbrev sc_places_by_name.N' : List Str := ["row", "places", "number", "name", "_"]
theorem sc_places_by_name : FnScope sc_places_by_name.N' ["row"] (defScope s_places_by_name) :=
  ⟨rfl, rfl, rfl, by decide +kernel, rfl, by decide +kernel, by decide +kernel⟩
abbrev sc_without_markers.N' : List Str := ["row", "numbers", "kept", "number"]
theorem sc_without_markers : FnScope sc_without_markers.N' ["row", "numbers"] (defScope s_without_markers) :=
  ⟨rfl, rfl, rfl, by decide +kernel, rfl, by decide +kernel, by decide +kernel⟩
abbrev sc_clean_row.N' : List Str := ["row", "places", "unusable", "name", "numbers"]
theorem sc_clean_row : FnScope sc_clean_row.N' ["row"] (defScope s_clean_row) :=
  ⟨rfl, rfl, rfl, by decide +kernel, rfl, by decide +kernel, by decide +kernel⟩
abbrev sc_are_marker_numbers.N' : List Str := ["value", "total", "number"]
theorem sc_are_marker_numbers : FnScope sc_are_marker_numbers.N' ["value", "total"] (defScope s_are_marker_numbers) :=
  ⟨rfl, rfl, rfl, by decide +kernel, rfl, by decide +kernel, by decide +kernel⟩
abbrev sc_merged.N' : List Str := ["row", "kept", "merged", "neighbors", "number", "keep"]
theorem sc_merged : FnScope sc_merged.N' ["row", "kept"] (defScope s_merged) :=
  ⟨rfl, rfl, rfl, by decide +kernel, rfl, by decide +kernel, by decide +kernel⟩
abbrev sc_L_cell.N' : List Str := ["_law_script", "_law_k"]
theorem sc_L_cell : FnScope sc_L_cell.N' ["_law_script", "_law_k"] (defScope s_L_cell) :=
  ⟨rfl, rfl, rfl, by decide +kernel, rfl, by decide +kernel, by decide +kernel⟩
abbrev sc_L_box.N' : List Str := ["_law_cell_here"]
theorem sc_L_box : FnScope sc_L_box.N' ["_law_cell_here"] (defScope s_L_box) :=
  ⟨rfl, rfl, rfl, by decide +kernel, rfl, by decide +kernel, by decide +kernel⟩
abbrev sc_L_take.N' : List Str := ["_law_box_here", "_law_many", "_law_digit", "_law_mixed"]
theorem sc_L_take : FnScope sc_L_take.N' ["_law_box_here", "_law_many"] (defScope s_L_take) :=
  ⟨rfl, rfl, rfl, by decide +kernel, rfl, by decide +kernel, by decide +kernel⟩
abbrev sc_L_names.N' : List Str := ["_law_box_here", "_law_many", "_law_letters", "_law_first", "_law_step", "_law_way", "_law_singles", "_law_stem", "_law_at", "_law_one", "_law_two", "_law_glued", "_law_k"]
theorem sc_L_names : FnScope sc_L_names.N' ["_law_box_here", "_law_many"] (defScope s_L_names) :=
  ⟨rfl, rfl, rfl, by decide +kernel, rfl, by decide +kernel, by decide +kernel⟩
abbrev sc_L_piece.N' : List Str := ["_law_box_here", "_law_letters", "_law_long", "_law_k"]
theorem sc_L_piece : FnScope sc_L_piece.N' ["_law_box_here"] (defScope s_L_piece) :=
  ⟨rfl, rfl, rfl, by decide +kernel, rfl, by decide +kernel, by decide +kernel⟩
abbrev sc_L_row.N' : List Str := ["_law_box_here", "_law_names_here", "_law_found", "_law_k"]
theorem sc_L_row : FnScope sc_L_row.N' ["_law_box_here"] (defScope s_L_row) :=
  ⟨rfl, rfl, rfl, by decide +kernel, rfl, by decide +kernel, by decide +kernel⟩
abbrev sc_L_left.N' : List Str := ["_law_row_here", "_law_gone", "_law_found", "_law_number", "_law_at", "_law_both"]
theorem sc_L_left : FnScope sc_L_left.N' ["_law_row_here", "_law_gone"] (defScope s_L_left) :=
  ⟨rfl, rfl, rfl, by decide +kernel, rfl, by decide +kernel, by decide +kernel⟩
abbrev sc_L_wrong_marks.N' : List Str := ["_law_row_here", "_law_names_here", "_law_found", "_law_number", "_law_name", "_law_ahead", "_law_mark"]
theorem sc_L_wrong_marks : FnScope sc_L_wrong_marks.N' ["_law_row_here"] (defScope s_L_wrong_marks) :=
  ⟨rfl, rfl, rfl, by decide +kernel, rfl, by decide +kernel, by decide +kernel⟩
abbrev sc_L_numbers.N' : List Str := ["_law_box_here", "_law_many", "_law_way", "_law_k"]
theorem sc_L_numbers : FnScope sc_L_numbers.N' ["_law_box_here", "_law_many"] (defScope s_L_numbers) :=
  ⟨rfl, rfl, rfl, by decide +kernel, rfl, by decide +kernel, by decide +kernel⟩
abbrev sc_law.N' : List Str := ["_law_script", "_law_k", "_law_box_here", "_law_row_here", "_law_handed", "_law_clean", "_law_turn", "_law_marks", "_law_some", "_law_found"]
theorem sc_law : FnScope sc_law.N' ["_law_script"] (defScope s_law) :=
  ⟨rfl, rfl, rfl, by decide +kernel, rfl, by decide +kernel, by decide +kernel⟩
structure Txt (K : PySem.W.Frag) (mg : Str → Option Value) : Prop where
  z_all : mg "all" = none
  z_bool : mg "bool" = none
  z_enumerate : mg "enumerate" = none
  z_int : mg "int" = none
  z_isinstance : mg "isinstance" = none
  z_len : mg "len" = none
  z_list : mg "list" = none
  z_max : mg "max" = none
  z_min : mg "min" = none
  z_range : mg "range" = none
  z_repr : mg "repr" = none
  z_str : mg "str" = none
  z_tuple : mg "tuple" = none
  g_NAME_LETTERS : ∃ t, mg "NAME_LETTERS" = some (.int 4 t)
section
variable {P : Program} {w : World} {K : PySem.W.Frag} {mg : Str → Option Value} {base : Heap}
theorem ok_cell {f : Addr} {fd : FuncData} (F : Fun K "_law_cell" "_law_cell" s_L_cell f fd) (T : Txt K mg) :
    FnOk P w K mg base CX0 1 f fd ["_law_script", "_law_k"] (Gd.spCell K) := by
  refine F.ok sc_L_cell (fun vs H Q E h => ?_) (fun cdv A outer s H vs Q E hr h => ?_)
  · obtain ⟨a, ns, k, rfl, _⟩ := h
    rfl
  · obtain ⟨a, ns, k, rfl, hS, hl, h0, h1, q⟩ := h
    refine ⟨_, (pss_cons (ps_if (pt_cmpR op_lt (pv 1) (pe_callB call_len_seq (by rfl) T.z_len (by decide +kernel) (pa_cons (pv 0) pa_nil)) (nomark _)) (pss_one (ps_ret (pe_ix ix_list (pv 0) (pv 1) (fun _ _ => rfl)))) pss_nil)
    (pss_one (ps_ret (pe_op op_add (pe_op op_mul pe_int (pv 1)) pe_int)))), ?_⟩
    refine ⟨_, rfl, _, rfl, a, _, rfl, .inl hS, _, _, rfl, rfl, _, rfl, ?_⟩
    refine ite2 (fun hlt => ?_) (fun _ => ?_)
    · have hk : k < (ns.length : Int) := by simpa [List.length_map] using of_decide_eq_true hlt
      have hk2 : k.toNat < ns.length := by omega
      refine ⟨_, rfl, _, rfl, a, _, k, V.int ns[k.toNat], rfl, rfl, hS, ?_, q _⟩
      unfold atI ixN
      rw [if_pos h0, List.length_map, if_pos hk]
      simp [hk2]
    · exact ⟨_, rfl, _, _, rfl, rfl, .inl ⟨by decide, by decide⟩, _, _, rfl, rfl, q _⟩
theorem ok_box {f : Addr} {fd : FuncData} (F : Fun K "_law_box" "_law_box" s_L_box f fd) (T : Txt K mg) :
    FnOk P w K mg base CX0 1 f fd ["_law_cell_here"] spBox := by
  refine F.ok sc_L_box (fun vs H Q E h => ?_) (fun cdv A outer s H vs Q E hr h => ?_)
  · obtain ⟨i, rfl, _⟩ := h
    rfl
  · obtain ⟨i, rfl, q⟩ := h
    refine ⟨_, (pss_one (ps_ret (pe_lst (pa_cons (pe_callB (call_max2 rfl) (by rfl) T.z_max (by decide +kernel) (pa_cons pe_int (pa_cons (pe_op op_sub (pv 0) (pe_op op_pow pe_int pe_int)) pa_nil))) (pa_cons (pe_op op_mod (pv 0) pe_int) (pa_cons pe_int pa_nil)))))), ?_⟩
    refine ⟨_, rfl, _, _, rfl, rfl, ⟨by decide, by decide, by decide⟩, _, _, rfl, rfl, _, _, rfl, ?_⟩
    refine ⟨_, rfl, _, _, rfl, rfl, (by decide : (0 : Int) < 2147483629), ?_⟩
    refine ⟨by show 3 ≤ sizeLine; decide, fun p hp => q p _ _ hp ?_ ?_⟩
    · exact Int.emod_nonneg _ (by decide)
    · exact Int.emod_lt_of_pos _ (by decide)
theorem ok_take {f : Addr} {fd : FuncData} (F : Fun K "_law_take" "_law_take" s_L_take f fd) (T : Txt K mg) :
    FnOk P w K mg base CX0 1 f fd ["_law_box_here", "_law_many"] spTake := by
  refine F.ok sc_L_take (fun vs H Q E h => ?_) (fun cdv A outer s H vs Q E hr h => ?_)
  · obtain ⟨a, c, n, rfl, _⟩ := h
    rfl
  · obtain ⟨a, c, n, rfl, ⟨x, y, z, hb, y0, y1, z0, z1⟩, hc, n0, n1, q⟩ := h
    refine ⟨_, (pss_cons (ps_if (pt_cmpR op_gt (pe_ix ix_list (pv 0) pe_int (fun _ _ => rfl)) pe_int (nomark _)) (pss_cons (ps_set (i := 2) sc_L_take.nd rfl (.inl rfl) (pe_op op_mod (pe_ix ix_list (pv 0) pe_int (fun _ _ => rfl)) (pv 1)))
    (pss_cons (ps_asg (pe_op op_fdiv (pe_ix ix_list (pv 0) pe_int (fun _ _ => rfl)) (pv 1)) (pg_sub (pv 0) pe_int set_list))
    (pss_one (ps_ret (pv 2))))) pss_nil)
    (pss_cons (ps_asg (pe_op op_add (pe_ix ix_list (pv 0) pe_int (fun _ _ => rfl)) pe_int) (pg_sub (pv 0) pe_int set_list))
    (pss_cons (ps_set (i := 3) sc_L_take.nd rfl (.inl rfl) (pe_op op_mod (pe_op op_pow (pe_op op_add (pe_op op_add (pe_ix ix_list (pv 0) pe_int (fun _ _ => rfl)) (pe_op op_mul pe_int (pe_ix ix_list (pv 0) pe_int (fun _ _ => rfl)))) pe_int) pe_int) pe_int))
    (pss_cons (ps_set (i := 3) sc_L_take.nd rfl (.inl rfl) (pe_op op_mod (pe_op op_pow (pe_op op_add (pv 3) (pe_op op_mul pe_int (pe_ix ix_list (pv 0) pe_int (fun _ _ => rfl)))) pe_int) pe_int))
    (pss_one (ps_ret (pe_op op_mod (pe_op op_fdiv (pv 3) pe_int) (pv 1)))))))), ?_⟩
    refine ⟨_, rfl, a, _, 0, _, rfl, rfl, SqL.of hb, rfl, _, _, rfl, rfl, _, rfl, ?_⟩
    refine ite2 (fun hx => ?_) (fun hx => ?_)
    · refine ⟨_, rfl, a, _, 0, _, rfl, rfl, SqL.of hb, rfl, _, rfl, _, _, rfl, rfl, n0, ?_⟩
      refine ⟨_, rfl, a, _, 0, _, rfl, rfl, SqL.of hb, rfl, _, rfl, _, _, rfl, rfl, ⟨n0, by omega⟩, ?_⟩
      refine ⟨_, rfl, a, _, 0, 0, rfl, rfl, hb, rfl, ?_⟩
      exact ⟨_, rfl, q _ _ Kp.at (BoxAt.drawn y0 y1 z0 (by omega)) (Int.emod_nonneg _ (by omega)) (Int.emod_lt_of_pos _ n0)⟩
    · refine ⟨_, rfl, a, _, 2, _, rfl, rfl, SqL.of hb, rfl, _, _, rfl, rfl, _, rfl, a, _, 2, 2, rfl, rfl, hb, rfl, ?_⟩
      have hb2 : upd H a (.lst [.int x, .int y, .int (z + 1)]) a = some (.lst [.int x, .int y, .int (z + 1)]) := upd_same
      refine ⟨_, rfl, a, _, 1, _, rfl, rfl, SqL.of hb2, rfl, _, rfl, a, _, 2, _, rfl, rfl, SqL.of hb2, rfl, _, _, rfl, rfl, .inl ⟨by decide, by decide⟩, _, _, rfl, rfl, _, _, rfl, rfl, ?_⟩
      refine ⟨_, _, rfl, rfl, ⟨by decide, by decide, by omega⟩, _, _, rfl, rfl, (show (0 : Int) < 2147483647 by decide), ?_⟩
      refine ⟨_, rfl, _, rfl, a, _, 2, _, rfl, rfl, SqL.of hb2, rfl, _, _, rfl, rfl, .inl ⟨by decide, by decide⟩, _, _, rfl, rfl, ?_⟩
      refine ⟨_, _, rfl, rfl, ⟨by decide, by decide, ?_⟩, _, _, rfl, rfl, (show (0 : Int) < 2147483587 by decide), ?_⟩
      · refine natAbs_small ?_ ?_ ?_ ?_
        · exact Int.emod_nonneg _ (by decide)
        · exact Int.emod_lt_of_pos _ (by decide)
        · omega
        · omega
      · refine ⟨_, rfl, _, _, rfl, rfl, ⟨by decide, by decide⟩, _, rfl, _, _, rfl, rfl, n0, ?_⟩
        exact q _ _ Kp.at (BoxAt.drawn y0 y1 (by omega) (by omega)) (Int.emod_nonneg _ (by omega)) (Int.emod_lt_of_pos _ n0)
end

section
variable {P : Program} {w : World} {K : PySem.W.Frag} {mg : Str → Option Value} {base : Heap}
theorem ok_names {f : Addr} {fd : FuncData} (F : Fun K "_law_names" "_law_names" s_L_names f fd) (T : Txt K mg)
    {f_L_take : Addr} {fd_L_take : FuncData} (D_L_take : Df K mg "_law_take" f_L_take fd_L_take ["_law_box_here", "_law_many"]) (G_L_take : FnOk P w K mg base CX0 1 f_L_take fd_L_take ["_law_box_here", "_law_many"] spTake) :
    FnOk P w K mg base CX0 2 f fd ["_law_box_here", "_law_many"] spNames := by
  refine F.ok sc_L_names (fun vs H Q E h => ?_) (fun cdv A outer s H vs Q E hr h => ?_)
  · obtain ⟨a, c, n, rfl, _⟩ := h
    rfl
  · obtain ⟨a, c, n, rfl, hb, hc, hn, q⟩ := h
    have fin : ∀ (D : Addr) (g : Nat → Str) (H' : Hp), H D = none → D ≠ a → H' D = some (.lst ((List.range n).map fun k => V.str (g k))) → Kp a H H' → BoxAt H' a (c + 7) → Nam n ((List.range n).map g) → Q (.ref D) H' :=
      fun D g H' h1 h2 h3 k b N => q D _ H' k (b.up (by omega)) h1 h2 (by rw [h3, List.map_map]; rfl) N
    refine ⟨_, (pss_cons (ps_set (i := 2) sc_L_names.nd rfl (.inr rfl) pe_str)
    (pss_cons (ps_asg (pe_tup (pa_cons (pe_call G_L_take (hr.mono (by first | decide | omega)) rfl D_L_take.g D_L_take.k D_L_take.b .nil pass0 (pa_cons (pv 0) (pa_cons pe_int pa_nil))) (pa_cons (pe_ix ix_list (pe_lst (pa_cons pe_int (pa_cons pe_int (pa_cons pe_int (pa_cons pe_int (pa_cons pe_int (pa_cons pe_int pa_nil))))))) (pe_call G_L_take (hr.mono (by first | decide | omega)) rfl D_L_take.g D_L_take.k D_L_take.b .nil pass0 (pa_cons (pv 0) (pa_cons pe_int pa_nil))) (fun _ _ => rfl)) (pa_cons (pe_call G_L_take (hr.mono (by first | decide | omega)) rfl D_L_take.g D_L_take.k D_L_take.b .nil pass0 (pa_cons (pv 0) (pa_cons pe_int pa_nil))) pa_nil)))) (pg_tup (by rfl) (pgs_cons (pg_name (i := 3) sc_L_names.nd rfl (.inr rfl)) (pgs_cons (pg_name (i := 4) sc_L_names.nd rfl (.inr rfl)) (pgs_cons (pg_name (i := 5) sc_L_names.nd rfl (.inl rfl)) pgs_nil)))))
    (pss_cons (ps_setLc (i := 6) (own := [("_law_k", 12)]) (g := gName 12) (tt := tYes) rfl sc_L_names.nd rfl rfl (sw_true rfl rfl rfl (by decide +kernel)) (pi_range1 (by rfl) T.z_range (pa_cons (pv 1) pa_nil)) (blkOk_by (N := sc_L_names.N') (sc := defScope s_L_names) (by decide +kernel)) (fun _ _ _ _ _ => (pg_name (i := 12) sc_L_names.nd rfl (by first | exact Or.inl rfl | exact Or.inr rfl))) (fun _ _ _ _ _ => pts_nil) (fun _ _ _ _ _ => (pe_ix ix_str (pv 2) (pe_op op_mod (pe_op op_add (pv 3) (pe_op op_mul (pv 4) (pv 12))) pe_int) (fun _ _ => rfl))))
    (pss_cons (ps_set (i := 7) sc_L_names.nd rfl (.inr rfl) (pe_bm PySem.F.plainAttrs_str PySem.F.slot_str_join PySem.F.type_str_join mt_join pe_str (pa_cons (pe_lc (own := [("_law_k", 12)]) (g := gName 12) (tt := tYes) rfl sc_L_names.nd (pi_range1 (by rfl) T.z_range (pa_cons pe_int pa_nil)) (blkOk_by (N := sc_L_names.N') (sc := defScope s_L_names) (by decide +kernel)) (fun _ _ _ _ _ => (pg_name (i := 12) sc_L_names.nd rfl (by first | exact Or.inl rfl | exact Or.inr rfl))) (fun _ _ _ _ _ => pts_nil) (fun _ _ _ _ _ => (pe_ix ix_str (pv 2) (pe_call G_L_take (hr.mono (by first | decide | omega)) rfl D_L_take.g D_L_take.k D_L_take.b .nil pass0 (pa_cons (pv 0) (pa_cons pe_int pa_nil))) (fun _ _ => rfl)))) pa_nil)))
    (pss_cons (ps_if (pt_cmpR op_eq (pv 5) pe_int (nomark _)) (pss_cons (ps_set (i := 8) sc_L_names.nd rfl (.inr rfl) (pe_call G_L_take (hr.mono (by first | decide | omega)) rfl D_L_take.g D_L_take.k D_L_take.b .nil pass0 (pa_cons (pv 0) (pa_cons pe_int pa_nil))))
    (pss_one (ps_ret (pe_lc (own := [("_law_one", 9)]) (g := gName 9) (tt := tYes) rfl sc_L_names.nd (pi_list (pv 6)) (blkOk_by (N := sc_L_names.N') (sc := defScope s_L_names) (by decide +kernel)) (fun _ _ _ _ _ => (pg_name (i := 9) sc_L_names.nd rfl (by first | exact Or.inl rfl | exact Or.inr rfl))) (fun _ _ _ _ _ => pts_nil) (fun _ _ _ _ _ => (pe_op op_add_str (pe_op op_add_str (pe_slice sl_str (pv 7) po_none (po_some (pv 8))) (pv 9)) (pe_slice sl_str (pv 7) (po_some (pv 8)) po_none))))))) pss_nil)
    (pss_cons (ps_if (PW.pt (pw_and (pt_cmpR op_eq (pv 5) pe_int (nomark _)) (pw_and1 (pt_cmpR op_lt (pv 1) pe_int (nomark _))))) (pss_cons (ps_par (i := 9) (j := 10) (by rfl) sc_L_names.nd rfl rfl (by decide) rfl rfl (pa_cons (pe_ix ix_str (pv 2) (pv 3) (fun _ _ => rfl)) (pa_cons (pe_ix ix_str (pv 2) (pe_op op_mod (pe_op op_add (pv 3) pe_int) pe_int) (fun _ _ => rfl)) pa_nil)) (by rfl))
    (pss_cons (ps_set (i := 11) sc_L_names.nd rfl (.inr rfl) (pe_lst (pa_cons (pv 9) (pa_cons (pv 10) (pa_cons (pe_op op_add_str (pv 9) (pv 10)) (pa_cons (pe_op op_add_str (pv 10) (pv 9)) (pa_cons (pe_op op_add_str (pv 9) (pv 9)) (pa_cons (pe_op op_add_str (pv 10) (pv 10)) (pa_cons (pe_op op_add_str (pe_op op_add_str (pv 9) (pv 10)) (pv 9)) (pa_cons (pe_op op_add_str (pe_op op_add_str (pv 10) (pv 9)) (pv 10)) pa_nil))))))))))
    (pss_cons (ps_set (i := 11) sc_L_names.nd rfl (.inr rfl) (pe_op op_cat (pv 11) (pe_lst (pa_cons (pe_op op_add_str (pe_op op_add_str (pv 9) (pv 9)) (pv 10)) (pa_cons (pe_op op_add_str (pe_op op_add_str (pv 10) (pv 10)) (pv 9)) (pa_cons (pe_op op_add_str (pe_op op_add_str (pe_op op_add_str (pv 9) (pv 10)) (pv 9)) (pv 10)) (pa_cons (pe_op op_add_str (pe_op op_add_str (pe_op op_add_str (pv 10) (pv 9)) (pv 10)) (pv 9)) pa_nil)))))))
    (pss_one (ps_ret (pe_lc (own := [("_law_k", 12)]) (g := gName 12) (tt := tYes) rfl sc_L_names.nd (pi_range1 (by rfl) T.z_range (pa_cons (pv 1) pa_nil)) (blkOk_by (N := sc_L_names.N') (sc := defScope s_L_names) (by decide +kernel)) (fun _ _ _ _ _ => (pg_name (i := 12) sc_L_names.nd rfl (by first | exact Or.inl rfl | exact Or.inr rfl))) (fun _ _ _ _ _ => pts_nil) (fun _ _ _ _ _ => (pe_ix (ix_listK (K := K) rfl) (pv 11) (pe_op op_mod (pe_op op_add (pv 3) (pe_op op_mul pe_int (pv 12))) pe_int) (fun _ _ => rfl))))))))) pss_nil)
    (pss_cons (ps_if (pt_cmpR op_eq (pv 5) pe_int (nomark _)) (pss_one (ps_ret (pv 6))) pss_nil)
    (pss_cons (ps_if (pt_cmpR op_eq (pv 5) pe_int (nomark _)) (pss_one (ps_ret (pe_lc (own := [("_law_k", 12), ("_law_one", 9)]) (g := gTup K 2 (gCons (gName 12) (gCons (gName 9) gNil))) (tt := tYes) rfl sc_L_names.nd (pi_enum (by rfl) T.z_enumerate (pa_cons (pv 6) pa_nil)) (blkOk_by (N := sc_L_names.N') (sc := defScope s_L_names) (by decide +kernel)) (fun _ _ _ _ _ => (pg_tup (by rfl) (pgs_cons (pg_name (i := 12) sc_L_names.nd rfl (by first | exact Or.inl rfl | exact Or.inr rfl)) (pgs_cons (pg_name (i := 9) sc_L_names.nd rfl (by first | exact Or.inl rfl | exact Or.inr rfl)) pgs_nil)))) (fun _ _ _ _ _ => pts_nil) (fun _ _ _ _ _ => (pe_op op_add_str (pe_slice sl_str (pv 7) po_none (po_some (pe_op op_add pe_int (pe_op op_mod (pv 12) pe_int)))) (pv 9)))))) pss_nil)
    (pss_one (ps_ret (pe_lc (own := [("_law_k", 12), ("_law_one", 9)]) (g := gTup K 2 (gCons (gName 12) (gCons (gName 9) gNil))) (tt := tYes) rfl sc_L_names.nd (pi_enum (by rfl) T.z_enumerate (pa_cons (pv 6) pa_nil)) (blkOk_by (N := sc_L_names.N') (sc := defScope s_L_names) (by decide +kernel)) (fun _ _ _ _ _ => (pg_tup (by rfl) (pgs_cons (pg_name (i := 12) sc_L_names.nd rfl (by first | exact Or.inl rfl | exact Or.inr rfl)) (pgs_cons (pg_name (i := 9) sc_L_names.nd rfl (by first | exact Or.inl rfl | exact Or.inr rfl)) pgs_nil)))) (fun _ _ _ _ _ => pts_nil) (fun _ _ _ _ _ => (pe_op op_mul_str (pv 9) (pe_op op_add pe_int (pe_op op_mod (pv 12) pe_int))))))))))))))), ?_⟩
    refine ⟨_, rfl, a, c, 26, rfl, hb, by omega, by decide, by decide, fun r1 H1 k1 b1 r10 r11 => ?_⟩
    refine ⟨(by show 6 ≤ sizeLine; decide), fun p hp => ?_⟩
    have np := b1.ne hp
    refine ⟨_, rfl, a, c + 1, 6, rfl, b1.upd np.symm, by omega, by decide, by decide, fun r2 H2 k2 b2 r20 r21 => ?_⟩
    obtain ⟨v, e1, s, rfl, hs⟩ := atI_all (xs := [V.int 1, V.int 3, V.int 5, V.int 7, V.int 9, V.int 11]) (fun v => ∃ s : Nat, v = .int (s : Nat) ∧ s ∈ steps) r20 (by simpa using r21) (by
      intro v hv
      simp only [List.mem_cons, List.not_mem_nil, or_false] at hv
      rcases hv with rfl | rfl | rfl | rfl | rfl | rfl
      · exact ⟨1, rfl, by decide⟩
      · exact ⟨3, rfl, by decide⟩
      · exact ⟨5, rfl, by decide⟩
      · exact ⟨7, rfl, by decide⟩
      · exact ⟨9, rfl, by decide⟩
      · exact ⟨11, rfl, by decide⟩)
    refine ⟨p, _, r2, _, rfl, rfl, SqL.of (k2 _ _ np upd_same), e1, ?_⟩
    have k12 := (k1.mut (o := .lst [V.int 1, V.int 3, V.int 5, V.int 7, V.int 9, V.int 11]) (k1.none b1 hp)).tr k2
    refine ⟨_, rfl, a, c + 2, 5, rfl, b2, by omega, by decide, by decide, fun way H3 k3 b3 w0 w1 => ?_⟩
    have k13 := k12.tr k3
    refine ⟨(by show 3 ≤ sizeLine; decide), fun t ht => ?_⟩
    have nt := b3.ne ht
    have b4 := b3.upd (o := .tup [V.int r1, V.int (s : Nat), V.int way]) nt.symm
    have k14 := k13.mut (o := .tup [V.int r1, V.int (s : Nat), V.int way]) (k13.none b3 ht)
    refine ⟨t, _, rfl, SqT.of upd_same, rfl, _, _, rfl, _, _, rfl, _, _, rfl, rfl, ?_⟩
    obtain ⟨fi, rfl⟩ := Int.eq_ofNat_of_zero_le r10
    generalize upd H3 t _ = H4 at b4 k14 ⊢
    clear b3 nt ht k13 k3 k12 e1 k2 b2 k1 b1 np hp t p
    -- the single letters
    refine ⟨_, rfl, (n : Nat), rfl, by omega, by omega, fun L hL => lc_range (n := n) (fun i H' => H' L = some (.lst ((List.range i).map fun k => V.str (one (sngC fi s k)))) ∧ Kp a H H' ∧ BoxAt H' a (c + 3))
      ⟨upd_same, k14.mut (k14.none b4 hL), b4.upd (b4.ne' hL)⟩ ?_ ?_⟩
    · rintro i H5 hi ⟨h5, k5, b5⟩
      refine ⟨rfl, lcY ⟨_, rfl, _, rfl, _, rfl, _, rfl, _, _, rfl, rfl, .inl ⟨by omega, ?_⟩, _, _, rfl, rfl, _, _, rfl, rfl, (by show (0 : Int) < 26; decide), _, _, _, rfl, rfl, (by show 26 ≤ sizeLine; decide), sng_at, ?_⟩⟩
      · have : s ≤ 11 := by
          unfold steps at hs
          simp at hs
          omega
        omega
      · refine ⟨_, h5, by rw [List.length_map, List.length_range]; exact lt_100 (by omega), ?_, k5.mut (k14.none b4 hL), b5.upd (b4.ne' hL)⟩
        rw [upd_same]
        exact congrArg (fun l => some (HO.lst l)) (range_app _ i)
    rintro H5 ⟨h5, k5, b5⟩
    have nL := b4.ne hL
    have hLH : H L = none := k14.none b4 hL
    clear k14 b4 hL H4
    -- the stem
    refine ⟨tyS, 3, rfl, by decide, by decide, fun D hD => lc_range (n := 3) (fun i H' => ∃ cs : List Nat, H' D = some (.lst (cs.map fun c => V.str (one c))) ∧ cs.length = i ∧ (∀ c ∈ cs, lowB c = true) ∧
        H' L = some (.lst ((List.range n).map fun k => V.str (one (sngC fi s k)))) ∧ Kp a H H' ∧ BoxAt H' a (c + 3 + i)) ?_ ?_ ?_⟩
    · have nDL := ne_of_none h5 hD
      exact ⟨[], upd_same, rfl, fun x hx => by simp at hx, (upd_ne nDL).trans h5, k5.mut (k5.none b5 hD), b5.upd (b5.ne' hD)⟩
    · rintro i H6 hi ⟨cs, h6, hl, hall, hL6, k6, b6⟩
      have nDL := ne_of_none h5 hD
      have nD := b5.ne hD
      refine ⟨rfl, lcY ⟨_, rfl, _, rfl, a, _, 26, rfl, b6, by omega, by decide, by decide, fun r H7 k7 b7 z0 z1 => ?_⟩⟩
      refine ⟨_, _, _, rfl, rfl, (by show 26 ≤ sizeLine; decide), abc_at z0 z1, _, k7 _ _ nD h6, by rw [List.length_map]; exact lt_100 (by omega), cs ++ [97 + r.toNat], ?_, by simp [hl], ?_, ?_, ?_, ?_⟩
      · rw [upd_same, List.map_append]
        rfl
      · intro x hx
        rcases List.mem_append.mp hx with h | h
        · exact hall x h
        · have : x = 97 + r.toNat := by simpa using h
          rw [this]
          exact low97 (by omega)
      · exact (upd_ne nDL).trans (k7 _ _ nL hL6)
      · exact (k6.tr k7).mut (k5.none b5 hD)
      · exact (b7.up (by omega)).upd nD.symm
    rintro H6 ⟨cs, h6, hl, hall, hL6, k6, b6⟩
    refine ⟨_, D, cs.map one, rfl, rfl, .inl (SqL.of (by rw [List.map_map]; exact h6)), join_fits (k := 1) (n := 3) (fun y hy => by obtain ⟨x, _, rfl⟩ := List.mem_map.mp hy; exact Nat.le_refl 1) (by rw [List.length_map]; omega) (by decide), ?_⟩
    have st3 : (Txt.join "" (cs.map one)).length = 3 := by rw [Gd.len_list, Gd.join_one, hl]
    have stl : ∀ x ∈ (Txt.join "" (cs.map one)).cps.toList, lowB x = true := by rw [Gd.join_one]; exact hall
    generalize Txt.join "" (cs.map one) = st at st3 stl ⊢
    clear h6 hl hall cs h5 k5 b5 hD D H5
    -- the ways
    refine ⟨_, rfl, rfl, _, rfl, ?_⟩
    rw [decI]
    refine ite2 (fun hw => ?_) (fun hw3 => ?_)
    · refine ⟨_, rfl, a, _, 3, rfl, b6, by omega, by decide, by decide, fun at_ H7 k7 b7 a0 a1 => ?_⟩
      have hL7 := k7 _ _ nL hL6
      refine ⟨_, rfl, L, rfl, ⟨_, SqL.of hL7⟩, fun D hD => lc_list (xs := (List.range n).map fun k => V.str (one (sngC fi s k))) (fun i H' => H' D = some (.lst ((List.range i).map fun k => V.str (cutS st none (some at_) ++ one (sngC fi s k) ++ cutS st (some at_) none))) ∧
          H' L = some (.lst ((List.range n).map fun k => V.str (one (sngC fi s k)))) ∧ Kp a H H' ∧ BoxAt H' a (c + 7)) ?_ ?_ ?_ ?_⟩
      · have nDL := ne_of_none hL7 hD
        exact ⟨upd_same, (upd_ne nDL).trans hL7, (k6.tr k7).mut ((k6.tr k7).none b7 hD), (b7.up (by omega)).upd (b7.ne' hD)⟩
      · rintro i H8 _ ⟨_, h, _⟩
        exact SqL.of h
      · rintro i x H8 hx ⟨h8, hL8, k8, b8⟩
        obtain ⟨hi, rfl⟩ := range_get hx
        have nDL := ne_of_none hL7 hD
        have c1 := cutS_le st none (some at_)
        have c2 := cutS_le st (some at_) none
        refine ⟨rfl, lcY ⟨_, rfl, _, rfl, at_, rfl, st, rfl, le_line (by omega), _, rfl, _, _, rfl, rfl, le_line (by rw [one_len]; omega), _, rfl, _, rfl, at_, rfl, st, rfl, le_line (by omega), _, _, rfl, rfl, le_line (by rw [app_len, one_len]; omega), ?_⟩⟩
        refine ⟨_, h8, by rw [List.length_map, List.length_range]; exact lt_100 (by omega), ?_, (upd_ne nDL).trans hL8, k8.mut ((k6.tr k7).none b7 hD), b8.upd (b7.ne' hD)⟩
        rw [upd_same]
        exact congrArg (fun l => some (HO.lst l)) (range_app _ i)
      · rintro H8 ⟨h8, hL8, k8, b8⟩
        rw [List.length_map, List.length_range] at h8
        exact fin D _ H8 ((k6.tr k7).none b7 hD) (b7.ne hD) h8 k8 b8 (nam3 hs hn st3 stl a0 a1)
    refine ⟨_, rfl, rfl, _, rfl, ?_⟩
    rw [decI]
    refine ite2 (fun hw => ⟨_, rfl, _, _, rfl, rfl, _, rfl, ite2 (fun h13 => ?_) (fun _ => ?_)⟩) (fun _ => ?_)
    · have hn13 : n < 13 := by have := of_decide_eq_true h13; omega
      refine ⟨_, rfl, _, rfl, _, _, _, rfl, rfl, (by show 26 ≤ sizeLine; decide), abc_at r10 r11, _, rfl, _, rfl, _, _, rfl, rfl, _, _, rfl, rfl, (by show (0 : Int) < 26; decide), _, _, _, rfl, rfl, (by show 26 ≤ sizeLine; decide), abc_at (Int.emod_nonneg _ (by decide)) (Int.emod_lt_of_pos _ (by decide)), _, _, rfl, ?_⟩
      have hab : 97 + ((fi : Nat) : Int).toNat ≠ 97 + ((((fi : Nat) : Int) + 7) % 26).toNat := by omega
      have hA : lowB (97 + ((fi : Nat) : Int).toNat) = true := low97 (by omega)
      have hB : lowB (97 + ((((fi : Nat) : Int) + 7) % 26).toNat) = true := low97 (by omega)
      generalize 97 + ((fi : Nat) : Int).toNat = ca at hab hA ⊢
      generalize 97 + ((((fi : Nat) : Int) + 7) % 26).toNat = cb at hab hB ⊢
      refine ⟨_, rfl, _, rfl, _, rfl, _, rfl, _, _, rfl, rfl, l11, _, rfl, _, rfl, _, _, rfl, rfl, l11, _, rfl, _, rfl, _, _, rfl, rfl, l11, _, rfl, _, rfl, _, _, rfl, rfl, l11,
        _, rfl, _, rfl, _, _, rfl, rfl, l11, _, rfl, _, _, rfl, rfl, l21, _, rfl, _, rfl, _, _, rfl, rfl, l11, _, rfl, _, _, rfl, rfl, l21, (by show 8 ≤ sizeLine; decide), fun p1 hp1 => ?_⟩
      generalize hG7 : upd H6 p1 _ = G7
      have k7 : Kp a H G7 := by rw [← hG7]; exact k6.mut (k6.none b6 hp1)
      have b7 : BoxAt G7 a (c + 6) := by rw [← hG7]; exact b6.upd (b6.ne' hp1)
      have h1 : G7 p1 = some (.lst [.str (one ca), .str (one cb), .str (one ca ++ one cb), .str (one cb ++ one ca), .str (one ca ++ one ca), .str (one cb ++ one cb), .str (one ca ++ one cb ++ one ca), .str (one cb ++ one ca ++ one cb)]) := by rw [← hG7]; exact upd_same
      clear hG7
      refine ⟨_, rfl, _, rfl, _, rfl, _, _, rfl, rfl, l11, _, rfl, _, _, rfl, rfl, l21, _, rfl, _, rfl, _, _, rfl, rfl, l11, _, rfl, _, _, rfl, rfl, l21,
        _, rfl, _, rfl, _, _, rfl, rfl, l11, _, rfl, _, _, rfl, rfl, l21, _, rfl, _, _, rfl, rfl, l31, _, rfl, _, rfl, _, _, rfl, rfl, l11, _, rfl, _, _, rfl, rfl, l21, _, rfl, _, _, rfl, rfl, l31,
        (by show 4 ≤ sizeLine; decide), fun p2 hp2 => ?_⟩
      generalize hG8 : upd G7 p2 _ = G8
      have k8 : Kp a H G8 := by rw [← hG8]; exact k7.mut (k7.none b7 hp2)
      have b8 : BoxAt G8 a (c + 6) := by rw [← hG8]; exact b7.upd (b7.ne' hp2)
      have n2 := ne_of_none h1 hp2
      refine ⟨p1, p2, _, _, rfl, rfl, by rw [← hG8]; exact (upd_ne n2).trans h1, by rw [← hG8]; exact upd_same, (by show 12 ≤ sizeLine; decide), fun p3 hp3 => ?_⟩
      generalize hG9 : upd G8 p3 _ = G9
      have h3 : G9 p3 = some (.lst ((glue (one ca) (one cb)).map V.str)) := by rw [← hG9]; exact upd_same
      have k9 : Kp a H G9 := by rw [← hG9]; exact k8.mut (k8.none b8 hp3)
      have b9 : BoxAt G9 a (c + 6) := by rw [← hG9]; exact b8.upd (b8.ne' hp3)
      clear hG9 hG8 k8 b8 n2 hp3 hp2 h1 k7 b7
      refine ⟨_, rfl, (n : Nat), rfl, by omega, by omega, fun D hD => lc_range (n := n) (fun i H' => H' D = some (.lst ((List.range i).map fun k => V.str ((glue (one ca) (one cb)).getD ((fi + 5 * k) % 12) Str.empty))) ∧
          H' p3 = some (.lst ((glue (one ca) (one cb)).map V.str)) ∧ Kp a H H' ∧ BoxAt H' a (c + 7)) ?_ ?_ ?_⟩
      · exact ⟨upd_same, (upd_ne (ne_of_none h3 hD)).trans h3, k9.mut (k9.none b9 hD), (b9.up (by omega)).upd (b9.ne' hD)⟩
      · rintro i H8 hi ⟨h8, hp8, k8', b8'⟩
        refine ⟨rfl, lcY ⟨_, rfl, _, rfl, _, rfl, _, _, rfl, rfl, .inl ⟨by decide, by decide⟩, _, _, rfl, rfl, _, _, rfl, rfl, (by show (0 : Int) < 12; decide), p3, _, _, _, rfl, rfl, SqL.of hp8, glue_at, ?_⟩⟩
        refine ⟨_, h8, by rw [List.length_map, List.length_range]; exact lt_100 (by omega), ?_, (upd_ne (ne_of_none h3 hD)).trans hp8, k8'.mut (k9.none b9 hD), b8'.upd (b9.ne' hD)⟩
        rw [upd_same]
        exact congrArg (fun l => some (HO.lst l)) (range_app _ i)
      · rintro H8 ⟨h8, _, k8', b8'⟩
        exact fin D _ H8 (k9.none b9 hD) (b9.ne hD) h8 k8' b8' (nam4 hn13 hab hA hB)
    all_goals
      refine ⟨_, rfl, rfl, _, rfl, ?_⟩
      rw [decI]
      refine ite2 (fun _ => ⟨_, rfl, fin L _ H6 hLH nL hL6 k6 (b6.up (by omega)) (nam0 hs hn)⟩) (fun _ => ?_)
      refine ⟨_, rfl, rfl, _, rfl, ?_⟩
      rw [decI]
      refine ite2 (fun _ => ?_) (fun _ => ?_)
      · refine ⟨_, rfl, L, _, rfl, SqL.of hL6, fun D hD => lc_enumL (xs := (List.range n).map fun k => V.str (one (sngC fi s k))) (fun i H' => H' D = some (.lst ((List.range i).map fun k : Nat => V.str (cutS st none (some (1 + (k : Int) % 3)) ++ one (sngC fi s k)))) ∧
            H' L = some (.lst ((List.range n).map fun k => V.str (one (sngC fi s k)))) ∧ Kp a H H' ∧ BoxAt H' a (c + 7)) ?_ ?_ ?_ ?_⟩
        · have nDL := ne_of_none hL6 hD
          exact ⟨upd_same, (upd_ne nDL).trans hL6, k6.mut (k6.none b6 hD), (b6.up (by omega)).upd (b6.ne' hD)⟩
        · rintro i H8 _ ⟨_, h, _⟩
          exact SqL.of h
        · rintro i x H8 T hx ⟨h8, hL8, k8, b8⟩ hT
          obtain ⟨hi, rfl⟩ := range_get hx
          have nDL := ne_of_none hL6 hD
          have c1 := cutS_le st none (some (1 + (i : Int) % 3))
          have b9 := b8.upd (o := .tup [V.int (i : Nat), V.str (one (sngC fi s i))]) (b8.ne' hT)
          have k9 := k8.mut (o := .tup [V.int (i : Nat), V.str (one (sngC fi s i))]) (k8.none b8 hT)
          refine ⟨T, _, rfl, SqT.of upd_same, rfl, _, _, rfl, _, _, rfl, rfl, rfl, lcY ⟨_, rfl, _, rfl, _, _, rfl, rfl, (by show (0 : Int) < 3; decide), _, _, rfl, rfl, _, rfl, st, rfl, le_line (by omega), _, rfl, _, _, rfl, rfl, le_line (by rw [one_len]; omega), ?_⟩⟩
          refine ⟨_, (upd_ne (ne_of_none h8 hT)).trans h8, by rw [List.length_map, List.length_range]; exact lt_100 (by omega), ?_, (upd_ne nDL).trans ((upd_ne (ne_of_none hL8 hT)).trans hL8), k9.mut (k6.none b6 hD), b9.upd (b6.ne' hD)⟩
          rw [upd_same]
          exact congrArg (fun l => some (HO.lst l)) (range_app _ i)
        · rintro H8 ⟨h8, hL8, k8, b8⟩
          rw [List.length_map, List.length_range] at h8
          exact fin D _ H8 (k6.none b6 hD) (b6.ne hD) h8 k8 b8 (nam1 hs hn st3 stl)
      · refine ⟨_, rfl, L, _, rfl, SqL.of hL6, fun D hD => lc_enumL (xs := (List.range n).map fun k => V.str (one (sngC fi s k))) (fun i H' => H' D = some (.lst ((List.range i).map fun k : Nat => V.str (mulS (one (sngC fi s k)) (1 + (k : Int) % 4)))) ∧
            H' L = some (.lst ((List.range n).map fun k => V.str (one (sngC fi s k)))) ∧ Kp a H H' ∧ BoxAt H' a (c + 7)) ?_ ?_ ?_ ?_⟩
        · have nDL := ne_of_none hL6 hD
          exact ⟨upd_same, (upd_ne nDL).trans hL6, k6.mut (k6.none b6 hD), (b6.up (by omega)).upd (b6.ne' hD)⟩
        · rintro i H8 _ ⟨_, h, _⟩
          exact SqL.of h
        · rintro i x H8 T hx ⟨h8, hL8, k8, b8⟩ hT
          obtain ⟨hi, rfl⟩ := range_get hx
          have nDL := ne_of_none hL6 hD
          have b9 := b8.upd (o := .tup [V.int (i : Nat), V.str (one (sngC fi s i))]) (b8.ne' hT)
          have k9 := k8.mut (o := .tup [V.int (i : Nat), V.str (one (sngC fi s i))]) (k8.none b8 hT)
          refine ⟨T, _, rfl, SqT.of upd_same, rfl, _, _, rfl, _, _, rfl, rfl, rfl, lcY ⟨_, rfl, _, rfl, _, _, rfl, rfl, (by show (0 : Int) < 4; decide), _, _, rfl, rfl, _, _, rfl, rfl, by omega, (by rw [one_len]; omega), by omega, ?_⟩⟩
          refine ⟨_, (upd_ne (ne_of_none h8 hT)).trans h8, by rw [List.length_map, List.length_range]; exact lt_100 (by omega), ?_, (upd_ne nDL).trans ((upd_ne (ne_of_none hL8 hT)).trans hL8), k9.mut (k6.none b6 hD), b9.upd (b6.ne' hD)⟩
          rw [upd_same]
          exact congrArg (fun l => some (HO.lst l)) (range_app _ i)
        · rintro H8 ⟨h8, hL8, k8, b8⟩
          rw [List.length_map, List.length_range] at h8
          exact fin D _ H8 (k6.none b6 hD) (b6.ne hD) h8 k8 b8 (nam2 hs hn)
end

section
variable {P : Program} {w : World} {K : PySem.W.Frag} {mg : Str → Option Value} {base : Heap}
theorem ok_piece {f : Addr} {fd : FuncData} (F : Fun K "_law_piece" "_law_piece" s_L_piece f fd) (T : Txt K mg)
    {f_L_take : Addr} {fd_L_take : FuncData} (D_L_take : Df K mg "_law_take" f_L_take fd_L_take ["_law_box_here", "_law_many"]) (G_L_take : FnOk P w K mg base CX0 1 f_L_take fd_L_take ["_law_box_here", "_law_many"] spTake) :
    FnOk P w K mg base CX0 2 f fd ["_law_box_here"] spPiece := by
  refine F.ok sc_L_piece (fun vs H Q E h => ?_) (fun cdv A outer s H vs Q E hr h => ?_)
  · obtain ⟨a, c, rfl, _⟩ := h
    rfl
  · obtain ⟨a, c, rfl, hb, hc, q⟩ := h
    refine ⟨_, (pss_cons (ps_set (i := 1) sc_L_piece.nd rfl (.inr rfl) pe_str)
    (C8.pss_cut (ps_set (i := 2) sc_L_piece.nd rfl (.inl rfl) (pe_ifExp (pt_cmpR op_eq (pe_call G_L_take (hr.mono (by first | decide | omega)) rfl D_L_take.g D_L_take.k D_L_take.b .nil pass0 (pa_cons (pv 0) (pa_cons pe_int pa_nil))) pe_int (nomark _)) (pe_ix ix_list (pe_lst (pa_cons pe_int (pa_cons pe_int (pa_cons pe_int (pa_cons pe_int (pa_cons pe_int pa_nil)))))) (pe_call G_L_take (hr.mono (by first | decide | omega)) rfl D_L_take.g D_L_take.k D_L_take.b .nil pass0 (pa_cons (pv 0) (pa_cons pe_int pa_nil))) (fun _ _ => rfl)) (pe_call G_L_take (hr.mono (by first | decide | omega)) rfl D_L_take.g D_L_take.k D_L_take.b .nil pass0 (pa_cons (pv 0) (pa_cons pe_int pa_nil)))))
    (pss_one (ps_ret (pe_bm PySem.F.plainAttrs_str PySem.F.slot_str_join PySem.F.type_str_join mt_join pe_str (pa_cons (pe_lc (own := [("_law_k", 3)]) (g := gName 3) (tt := tYes) rfl sc_L_piece.nd (pi_range1 (by rfl) T.z_range (pa_cons (pv 2) pa_nil)) (blkOk_by (N := sc_L_piece.N') (sc := defScope s_L_piece) (by decide +kernel)) (fun _ _ _ _ _ => (pg_name (i := 3) sc_L_piece.nd rfl (by first | exact Or.inl rfl | exact Or.inr rfl))) (fun _ _ _ _ _ => pts_nil) (fun _ _ _ _ _ => (pe_ix ix_str (pv 1) (pe_call G_L_take (hr.mono (by first | decide | omega)) rfl D_L_take.g D_L_take.k D_L_take.b .nil pass0 (pa_cons (pv 0) (pa_cons pe_int pa_nil))) (fun _ _ => rfl)))) pa_nil)))))), ?_⟩
    refine ⟨fun σ H' => ∃ (n : Int), σ = [some (.ref a), some (.str abC), some (.int n), none] ∧ 0 ≤ n ∧ n ≤ 40 ∧ Kp a H H' ∧ BoxAt H' a (c + 2), ?_, ?_⟩
    · refine ⟨_, rfl, a, c, 3, rfl, hb, by omega, by decide, by decide, fun r H1 k1 b1 r0 r1 => ?_⟩
      refine ⟨rfl, _, rfl, ?_⟩
      refine ite2 (fun _ => ?_) (fun _ => ?_)
      · refine ⟨(by show 5 ≤ sizeLine; decide), fun p hp => ?_⟩
        have np := b1.ne hp
        refine ⟨_, rfl, a, c + 1, 5, rfl, b1.upd np.symm, by omega, by decide, by decide, fun r2 H2 k2 b2 r20 r21 => ?_⟩
        obtain ⟨v, e1, n, rfl, n0, n1⟩ := atI_all (xs := [V.int 0, V.int 1, V.int 2, V.int 6, V.int 40]) (fun v => ∃ n : Int, v = .int n ∧ 0 ≤ n ∧ n ≤ 40) r20 (by simpa using r21) (by
          intro v hv
          simp only [List.mem_cons, List.not_mem_nil, or_false] at hv
          rcases hv with rfl | rfl | rfl | rfl | rfl <;> exact ⟨_, rfl, by decide, by decide⟩)
        refine ⟨p, _, r2, _, rfl, rfl, SqL.of (k2 _ _ np upd_same), e1, ?_⟩
        exact ⟨n, rfl, n0, n1, (k1.mut (k1.none b1 hp)).tr k2, b2⟩
      · refine ⟨_, rfl, a, c + 1, 4, rfl, b1, by omega, by decide, by decide, fun r2 H2 k2 b2 r20 r21 => ?_⟩
        exact ⟨r2, rfl, r20, by omega, k1.tr k2, b2⟩
    · rintro σ H1 ⟨n, rfl, n0, n1, k1, b1⟩
      refine ⟨tyS, _, rfl, n, rfl, by omega, by omega, fun D hD => lc_range (n := n.toNat) (fun i H' => ∃ cs : List Nat, H' D = some (.lst (cs.map fun c => V.str (one c))) ∧ cs.length = i ∧ (∀ c ∈ cs, letB c = true) ∧ Kp a H H' ∧ BoxAt H' a (c + 2 + i)) ?_ ?_ ?_⟩
      · exact ⟨[], upd_same, rfl, fun x hx => by simp at hx, k1.mut (k1.none b1 hD), b1.upd (b1.ne' hD)⟩
      · rintro i H6 hi ⟨cs, h6, hl, hall, k6, b6⟩
        have nD := b1.ne hD
        refine ⟨rfl, lcY ⟨_, rfl, _, rfl, a, _, 52, rfl, b6, by omega, by decide, by decide, fun r H7 k7 b7 z0 z1 => ?_⟩⟩
        obtain ⟨ch, e2, hch⟩ := abC_at z0 z1
        refine ⟨_, _, _, rfl, rfl, (by show 52 ≤ sizeLine; decide), e2, _, k7 _ _ nD h6, by rw [List.length_map]; exact lt_100 (by omega), cs ++ [ch], ?_, by simp [hl], ?_, ?_, ?_⟩
        · rw [upd_same, List.map_append]
          rfl
        · intro x hx
          rcases List.mem_append.mp hx with h | h
          · exact hall x h
          · have : x = ch := by simpa using h
            rw [this]
            exact hch
        · exact (k6.tr k7).mut (k1.none b1 hD)
        · exact (b7.up (by omega)).upd nD.symm
      rintro H6 ⟨cs, h6, hl, hall, k6, b6⟩
      refine ⟨_, D, cs.map one, rfl, rfl, .inl (SqL.of (by rw [List.map_map]; exact h6)), join_fits (k := 1) (n := 40) (fun y hy => by obtain ⟨x, _, rfl⟩ := List.mem_map.mp hy; exact Nat.le_refl 1) (by rw [List.length_map]; omega) (by decide), ?_⟩
      exact q _ _ k6 (b6.up (by omega)) (by rw [Gd.len_list, Gd.join_one]; omega) (pieceB_of (by rw [Gd.join_one]; exact hall))
end

/-- a def that draws a row of some markers -/
def spRow1 (O : HO → Prop) : Sp := fun vs H Q _ => ∃ (a : Addr) (c : Nat) (G : Hp), vs = [.ref a] ∧ BoxAt H a c ∧ c + 3000 < 1000000000 ∧ Ex G H ∧ G a = none ∧
  ∀ (v : V) (ds : List D) (n : Nat) (G' H' : Hp), Sta G H G' H' a (c + 3000) → DV O G' v (.lst ds) → Good ds → ds.length = 2 * n + 1 → n ≤ 49 → Q v H'
section
variable {P : Program} {w : World} {K : PySem.W.Frag} {mg : Str → Option Value} {base : Heap} {O : HO → Prop}
theorem ok_row {f : Addr} {fd : FuncData} (F : Fun K "_law_row" "_law_row" s_L_row f fd) (T : Txt K mg)
    {f_L_names : Addr} {fd_L_names : FuncData} (D_L_names : Df K mg "_law_names" f_L_names fd_L_names ["_law_box_here", "_law_many"])
    {f_L_piece : Addr} {fd_L_piece : FuncData} (D_L_piece : Df K mg "_law_piece" f_L_piece fd_L_piece ["_law_box_here"])
    {f_L_take : Addr} {fd_L_take : FuncData} (D_L_take : Df K mg "_law_take" f_L_take fd_L_take ["_law_box_here", "_law_many"]) (G_L_take : FnOk P w K mg base CX0 1 f_L_take fd_L_take ["_law_box_here", "_law_many"] spTake)
    (G_L_names : FnOk P w K mg base CX0 2 f_L_names fd_L_names ["_law_box_here", "_law_many"] spNames) (G_L_piece : FnOk P w K mg base CX0 2 f_L_piece fd_L_piece ["_law_box_here"] spPiece) :
    FnOk P w K mg base CX0 3 f fd ["_law_box_here"] (spRow1 O) := by
  refine F.ok sc_L_row (fun vs H Q E h => ?_) (fun cdv A outer s H vs Q E hr h => ?_)
  · obtain ⟨a, c, G, rfl, _⟩ := h
    rfl
  · obtain ⟨a, c, G, rfl, hb, hc, eG, gA, q⟩ := h
    have S : Sta G H G H a c := .start eG gA hb
    refine ⟨_, (pss_cons (ps_set (i := 1) sc_L_row.nd rfl (.inl rfl) (pe_call G_L_names (hr.mono (by first | decide | omega)) rfl D_L_names.g D_L_names.k D_L_names.b .nil pass0 (pa_cons (pv 0) (pa_cons (pe_op op_add pe_int (pe_call G_L_take (hr.mono (by first | decide | omega)) rfl D_L_take.g D_L_take.k D_L_take.b .nil pass0 (pa_cons (pv 0) (pa_cons pe_int pa_nil)))) pa_nil))))
    (pss_cons (ps_set (i := 2) sc_L_row.nd rfl (.inl rfl) (pe_lst (pa_cons (pe_call G_L_piece (hr.mono (by first | decide | omega)) rfl D_L_piece.g D_L_piece.k D_L_piece.b .nil pass0 (pa_cons (pv 0) pa_nil)) pa_nil)))
    (pss_cons (ps_for PassesOwn.never rfl (pi_range1 (by rfl) T.z_range (pa_cons (pe_call G_L_take (hr.mono (by first | decide | omega)) rfl D_L_take.g D_L_take.k D_L_take.b .nil pass0 (pa_cons (pv 0) (pa_cons (pe_ix ix_list (pe_lst (pa_cons pe_int (pa_cons pe_int pa_nil))) (pe_call G_L_take (hr.mono (by first | decide | omega)) rfl D_L_take.g D_L_take.k D_L_take.b .nil pass0 (pa_cons (pv 0) (pa_cons pe_int pa_nil))) (fun _ _ => rfl)) pa_nil))) pa_nil)) (pg_name (i := 3) sc_L_row.nd rfl (.inl rfl))
      (pss_cons (ps_expr (pe_bm PySem.F.plainAttrs_list PySem.F.slot_list_append PySem.F.type_list_append mt_append (pv 2) (pa_cons (pe_tup (pa_cons (pe_ix ix_list (pv 1) (pe_call G_L_take (hr.mono (by first | decide | omega)) rfl D_L_take.g D_L_take.k D_L_take.b .nil pass0 (pa_cons (pv 0) (pa_cons (pe_callB call_len_seq (by rfl) T.z_len (by decide +kernel) (pa_cons (pv 1) pa_nil)) pa_nil))) (fun _ _ => rfl)) (pa_cons (pe_cmpR op_eq (pe_call G_L_take (hr.mono (by first | decide | omega)) rfl D_L_take.g D_L_take.k D_L_take.b .nil pass0 (pa_cons (pv 0) (pa_cons pe_int pa_nil))) pe_int (nomark _)) pa_nil))) pa_nil)))
    (pss_one (ps_expr (pe_bm PySem.F.plainAttrs_list PySem.F.slot_list_append PySem.F.type_list_append mt_append (pv 2) (pa_cons (pe_call G_L_piece (hr.mono (by first | decide | omega)) rfl D_L_piece.g D_L_piece.k D_L_piece.b .nil pass0 (pa_cons (pv 0) pa_nil)) pa_nil))))))
    (pss_one (ps_ret (pv 2)))))), ?_⟩
    refine ⟨_, rfl, _, rfl, a, c, 14, rfl, hb, by omega, by decide, by decide, fun r0 H0 k0 b0 r00 r01 => ?_⟩
    obtain ⟨m, rfl⟩ := Int.eq_ofNat_of_zero_le r00
    have S0 := S.draw k0 b0
    refine ⟨_, _, rfl, rfl, a, _, 1 + m, rfl, b0, by omega, by omega, fun p ys H1 k1 b1 hp np h1 N => ?_⟩
    have S1 := S0.draw k1 b1
    refine ⟨_, rfl, a, _, rfl, b1, by omega, fun z H2 k2 b2 hz hpz => ⟨(by show 1 ≤ sizeLine; decide), fun l hl => ?_⟩⟩
    have S2 := S1.draw k2 b2
    have hp2 := k2 _ _ np h1
    have npl := ne_of_none hp2 hl
    have nla := b2.ne hl
    have hlH : H l = none := S2.kp.none b2 hl
    have gl : G l = none := S2.ex.free hl
    have S3 := S2.hid hl (.lst [.str z])
    have h3 : upd H2 l (.lst [.str z]) l = some (.lst [.str z]) := upd_same
    have hp3 := (upd_ne (o := .lst [.str z]) npl).trans hp2
    generalize upd H2 l (.lst [.str z]) = H3 at S3 h3 hp3 ⊢
    refine ⟨_, rfl, (by show 2 ≤ sizeLine; decide), fun pp hpp => ?_⟩
    have npp := ne_of_none h3 hpp
    have nppp := ne_of_none hp3 hpp
    have nap : pp ≠ a := S3.bx.ne hpp
    have S4 := S3.hid hpp (.lst [V.int 21, V.int 50])
    have h4 := (upd_ne (o := .lst [V.int 21, V.int 50]) npp).trans h3
    have hp4 := (upd_ne (o := .lst [V.int 21, V.int 50]) nppp).trans hp3
    have hq4 : upd H3 pp (.lst [V.int 21, V.int 50]) pp = some (.lst [V.int 21, V.int 50]) := upd_same
    generalize upd H3 pp (.lst [V.int 21, V.int 50]) = H4 at S4 h4 hp4 hq4 ⊢
    refine ⟨_, rfl, a, _, 2, rfl, S4.bx, by omega, by decide, by decide, fun r5 H5 k5 b5 r50 r51 => ?_⟩
    have S5 := S4.draw k5 b5
    have h5 := k5 _ _ nla h4
    have hp5 := k5 _ _ np hp4
    obtain ⟨v, e1, t, rfl, ht⟩ := atI_all (xs := [V.int 21, V.int 50]) (fun v => ∃ t : Nat, v = .int (t : Nat) ∧ 0 < t ∧ t ≤ 50) r50 (by simpa using r51) (by
      intro v hv
      simp only [List.mem_cons, List.not_mem_nil, or_false] at hv
      rcases hv with rfl | rfl
      · exact ⟨21, rfl, by decide⟩
      · exact ⟨50, rfl, by decide⟩)
    refine ⟨pp, _, r5, _, rfl, rfl, SqL.of (k5 _ _ nap hq4), e1, a, _, (t : Nat), rfl, b5, by omega, by omega, by omega, fun r6 H6 k6 b6 r60 r61 => ?_⟩
    have S6 := S5.draw k6 b6
    have h6 := k6 _ _ nla h5
    have hp6 := k6 _ _ np hp5
    obtain ⟨n, rfl⟩ := Int.eq_ofNat_of_zero_le r60
    clear k6 b6 h5 hp5 S5 k5 b5 hq4 h4 hp4 S4 h3 hp3 S3 e1
    refine ⟨(n : Nat), rfl, by omega, by omega, ?_⟩
    refine for_range (n := n) (fun i σ H' => ∃ (G' : Hp) (vs : List V) (ds : List D) (y : Option V), σ = [some (.ref a), some (.ref p), some (.ref l), y] ∧ Sta G H G' H' a (c + 70 + 44 * i) ∧ G' l = none ∧
        H' l = some (.lst vs) ∧ H' p = some (.lst (ys.map V.str)) ∧ DVs O G' vs ds ∧ Good ds ∧ ds.length = 2 * i + 1)
      ⟨G, _, [.str z], none, rfl, S6.le (by omega), gl, h6, hp6, .cons (.str z (pieceB_ok hpz (by omega))) .nil, ⟨?_, ?_⟩, rfl⟩ ?_ ?_
    · exact misfit_app (xs := []) rfl (fits_even rfl hpz)
    · intro y hy
      have : y = z := by simpa using hy
      rw [this]
      exact hz
    · rintro i σ H' hi ⟨G', vs, ds, y, rfl, S', g', h', hp', d', gd, hlen⟩
      have hlv : vs.length = 2 * i + 1 := by rw [d'.length]; exact hlen
      refine ⟨_, rfl, .inl ⟨rfl, _, SqL.of h'⟩, _, rfl, _, rfl, _, rfl, p, _, rfl, .inl (SqL.of hp'), a, _, ((ys.map V.str).length : Nat), rfl, S'.bx, by omega, ?_, ?_, fun r H3 k3 b3 r0 r1 => ?_⟩
      · rw [List.length_map, N.len]; omega
      · rw [List.length_map, N.len]; omega
      have S4 := S'.draw k3 b3
      obtain ⟨v, e1, w, rfl, hw⟩ := atI_all (xs := ys.map V.str) (fun v => ∃ w, v = .str w ∧ nameB w = true) r0 (by exact_mod_cast r1) (by
        intro v hv
        obtain ⟨w, hw, rfl⟩ := List.mem_map.mp hv
        exact ⟨w, rfl, N.ok w hw⟩)
      refine ⟨p, _, r, _, rfl, rfl, SqL.of (k3 _ _ np hp'), e1, _, rfl, a, _, 2, rfl, b3, by omega, by decide, by decide, fun r2 H4 k4 b4 _ _ => ⟨rfl, (by show 2 ≤ sizeLine; decide), fun t ht => ?_⟩⟩
      have S5 := S4.draw k4 b4
      have h5 := k4 _ _ nla (k3 _ _ nla h')
      have hp5 := k4 _ _ np (k3 _ _ np hp')
      have ntl := ne_of_none h5 ht
      have ntp := ne_of_none hp5 ht
      have S6 := S5.new ht (.tup [.str w, .bl (decide (V.int r2 = V.int 0))])
      have e6 : Ex G' _ := S5.enew (o := .tup [.str w, .bl (decide (V.int r2 = V.int 0))]) ht
      have h6 := (upd_ne (o := .tup [.str w, .bl (decide (V.int r2 = V.int 0))]) ntl).trans h5
      have hp6 := (upd_ne (o := .tup [.str w, .bl (decide (V.int r2 = V.int 0))]) ntp).trans hp5
      have g6 := (upd_ne (o := .tup [.str w, .bl (decide (V.int r2 = V.int 0))]) ntl).trans g'
      have dt : DV O (upd G' t (.tup [.str w, .bl (decide (V.int r2 = V.int 0))])) (.ref t) (.tup [.str w, .bl (decide (V.int r2 = V.int 0))]) := .tup upd_same (.cons (.str w (nameB_ok hw)) (.cons (.bl _) .nil)) (by show 2 ≤ 100000; decide)
      generalize decide (V.int r2 = V.int 0) = bb at S6 e6 h6 hp6 g6 dt ⊢
      refine ⟨l, vs, _, rfl, rfl, h6, Nat.lt_of_le_of_lt (show _ ≤ 200 by omega) (by decide), ?_⟩
      have S7 := S6.put g6 nla hlH (.lst (vs ++ [.ref t]))
      have h7 : upd (upd H4 t (.tup [.str w, .bl bb])) l (.lst (vs ++ [.ref t])) l = some (.lst (vs ++ [.ref t])) := upd_same
      have hp7 := (upd_ne (o := .lst (vs ++ [.ref t])) npl).trans hp6
      have d7 := (DVs.ex e6 _ _ d').app (.cons dt .nil)
      generalize upd (upd H4 t (.tup [.str w, .bl bb])) l (.lst (vs ++ [.ref t])) = H7 at S7 h7 hp7 ⊢
      refine ⟨_, rfl, .inl ⟨rfl, _, SqL.of h7⟩, _, rfl, a, _, rfl, S7.bx, by omega, fun z2 H8 k8 b8 hz2 hpz2 => ?_⟩
      have S8 := S7.draw k8 b8
      have h8 := k8 _ _ nla h7
      have hp8 := k8 _ _ np hp7
      refine ⟨l, _, _, rfl, rfl, h8, Nat.lt_of_le_of_lt (show _ ≤ 200 by simp; omega) (by decide), ?_⟩
      have m1 : misfit 0 (ds ++ [D.tup [.str w, .bl bb]]) = none := misfit_app gd.fit (fits_odd (by omega) hw)
      refine ⟨_, _, _, _, rfl, (S8.put g6 nla hlH _).le (by omega), g6, upd_same, (upd_ne npl).trans hp8, d7.app (.cons (.str z2 (pieceB_ok hpz2 (by omega))) .nil), ⟨?_, ?_⟩, by simp; omega⟩
      · exact misfit_app m1 (fits_even (by simp; omega) hpz2)
      · intro y hy
        simp only [List.mem_append, List.mem_singleton, D.str.injEq] at hy
        rcases hy with (h | h) | h
        · exact gd.sm y h
        · cases h
        · rw [h]; exact hz2
    · rintro σ H' ⟨G', vs, ds, y, rfl, S', g', h', hp', d', gd, hlen⟩
      refine ⟨_, rfl, ?_⟩
      have s7 := S'.know h' nla hlH g'
      have e7 : Ex G' (upd G' l (.lst vs)) := Ex.new g'
      exact q _ _ n _ _ (s7.le (by omega)) (.lst upd_same (DVs.ex e7 _ _ d') (by rw [d'.length]; omega)) gd hlen (by omega)
end

/-! ### the program's rows -/
section
variable {P : Program} {w : World} {K : PySem.W.Frag} {mg : Str → Option Value} {base : Heap} {O : HO → Prop}
theorem ok_is_piece {f : Addr} {fd : FuncData} (F : Fun K "is_piece" "is_piece" s_is_piece f fd) (T : Txt K mg) (ho : OthOk K O) :
    FnOk P w K mg base CX0 1 f fd ["value"] (spB O isPiece) := by
  refine F.ok sc_is_piece (fun vs H Q E h => ?_) (fun cdv A outer s H vs Q E hr h => ?_)
  · obtain ⟨v, d, rfl, _⟩ := h
    rfl
  · obtain ⟨v, d, rfl, hv, q⟩ := h
    obtain ⟨t, ty, k1, _⟩ := hv.ty ho
    refine ⟨_, (pss_cons (ps_if (pt_not (pt_val (pe_callB call_isi (by rfl) T.z_isinstance (by decide +kernel) (pa_cons (pv 0) (pa_cons (pe_bltn (v := .ty "str") (by rfl) T.z_str (by decide +kernel) rfl) pa_nil))))) (pss_one (ps_ret pe_bl)) pss_nil)
    (pss_one (ps_ret (pe_or (pe_cmpR op_eq (pe_callB call_len_str (by rfl) T.z_len (by decide +kernel) (pa_cons (pv 0) pa_nil)) pe_int (nomark _)) (pe_one (pe_and (pe_bm0 PySem.F.plainAttrs_str PySem.F.slot_str_isascii PySem.F.type_str_isascii mt_isascii (pv 0)) (pe_one (pe_bm0 PySem.F.plainAttrs_str PySem.F.slot_str_isalpha PySem.F.type_str_isalpha mt_isalpha (pv 0))))))))), ?_⟩
    refine ⟨_, rfl, v, _, t, _, _, rfl, .ty _, ty, k1, _, rfl, ?_⟩
    cases hv with
    | str z hz =>
      refine iteF ⟨_, rfl, _, rfl, le_line (okS_len hz), rfl, _, rfl, ?_⟩
      have e := piece_of z
      rw [← dec_int0] at e
      refine ite2 (fun h0 => ?_) (fun h0 => ⟨_, rfl, tyS, z, rfl, rfl, trivial, _, rfl, ite2 (fun h1 => ⟨_, rfl, tyS, z, rfl, rfl, trivial, ?_⟩) (fun h1 => ?_)⟩)
      · rw [h0, Bool.true_or] at e
        exact bl_to e (q H (Ex.rfl' H))
      · rw [Bool.eq_false_iff.mpr h0, h1, Bool.false_or, Bool.true_and] at e
        exact bl_to e (q H (Ex.rfl' H))
      · rw [Bool.eq_false_iff.mpr h0, Bool.eq_false_iff.mpr h1, Bool.false_or, Bool.false_and] at e
        exact bl_to e (q H (Ex.rfl' H))
    | _ => exact iteT (q H (Ex.rfl' H))
theorem ok_is_name {f : Addr} {fd : FuncData} (F : Fun K "is_name" "is_name" s_is_name f fd) (T : Txt K mg) (ho : OthOk K O)
    {f_is_piece : Addr} {fd_is_piece : FuncData} (D_is_piece : Df K mg "is_piece" f_is_piece fd_is_piece ["value"]) (G_is_piece : FnOk P w K mg base CX0 1 f_is_piece fd_is_piece ["value"] (spB O isPiece)) :
    FnOk P w K mg base CX0 2 f fd ["value"] (spB O isName) := by
  refine F.ok sc_is_name (fun vs H Q E h => ?_) (fun cdv A outer s H vs Q E hr h => ?_)
  · obtain ⟨v, d, rfl, _⟩ := h
    rfl
  · obtain ⟨v, d, rfl, hv, q⟩ := h
    refine ⟨_, (pss_one (ps_ret (pe_and (pe_call G_is_piece (hr.mono (by first | decide | omega)) rfl D_is_piece.g D_is_piece.k D_is_piece.b .nil pass0 (pa_cons (pv 0) pa_nil)) (pe_and (pe_bm0 PySem.F.plainAttrs_str PySem.F.slot_str_islower PySem.F.type_str_islower mt_islower (pv 0)) (pe_one (pe_cmpR op_le (pe_callB call_len_str (by rfl) T.z_len (by decide +kernel) (pa_cons (pv 0) pa_nil)) (pe_const rfl T.g_NAME_LETTERS) (nomark _))))))), ?_⟩
    refine ⟨_, rfl, v, d, rfl, hv, fun H1 e1 => ⟨_, rfl, ?_⟩⟩
    have hv1 := hv.ex e1
    cases hv with
    | str z hz =>
      have e := name_of z
      refine ite2 (fun h0 => ⟨_, rfl, tyS, z, rfl, rfl, trivial, _, rfl, ite2 (fun h1 => ?_) (fun h1 => ?_)⟩) (fun h0 => ?_)
      · refine ⟨_, rfl, _, rfl, le_line (okS_len hz), _, _, rfl, rfl, ?_⟩
        have h0' : pieceB z = true := h0
        rw [h0', h1, Bool.true_and, Bool.true_and] at e
        exact bl_to e (q H1 e1)
      · have h0' : pieceB z = true := h0
        rw [h0', Bool.eq_false_iff.mpr h1, Bool.true_and, Bool.false_and] at e
        exact bl_to e (q H1 e1)
      · have h0' : pieceB z = false := Bool.eq_false_iff.mpr h0
        rw [h0', Bool.false_and] at e
        exact bl_to e (q H1 e1)
    | _ => exact iteF (q H1 e1)
theorem ok_is_marker {f : Addr} {fd : FuncData} (F : Fun K "is_marker" "is_marker" s_is_marker f fd) (T : Txt K mg) (ho : OthOk K O)
    {f_is_name : Addr} {fd_is_name : FuncData} (D_is_name : Df K mg "is_name" f_is_name fd_is_name ["value"]) (G_is_name : FnOk P w K mg base CX0 2 f_is_name fd_is_name ["value"] (spB O isName)) :
    FnOk P w K mg base CX0 3 f fd ["value"] (spB O isMark) := by
  refine F.ok sc_is_marker (fun vs H Q E h => ?_) (fun cdv A outer s H vs Q E hr h => ?_)
  · obtain ⟨v, d, rfl, _⟩ := h
    rfl
  · obtain ⟨v, d, rfl, hv, q⟩ := h
    obtain ⟨t, ty, _, _, _, k1, _⟩ := hv.ty ho
    refine ⟨_, (pss_cons (ps_if (PW.pt (pw_or (pt_not (pt_val (pe_callB call_isi (by rfl) T.z_isinstance (by decide +kernel) (pa_cons (pv 0) (pa_cons (pe_bltn (v := .ty "tuple") (by rfl) T.z_tuple (by decide +kernel) rfl) pa_nil))))) (pw_or1 (pt_cmpR op_ne (pe_callB call_len (by rfl) T.z_len (by decide +kernel) (pa_cons (pv 0) pa_nil)) pe_int (nomark _))))) (pss_one (ps_ret pe_bl)) pss_nil)
    (pss_one (ps_ret (pe_and (pe_call G_is_name (hr.mono (by first | decide | omega)) rfl D_is_name.g D_is_name.k D_is_name.b .nil pass0 (pa_cons (pe_ix ix_tup (pv 0) pe_int (fun _ _ => rfl)) pa_nil)) (pe_one (pe_callB call_isi (by rfl) T.z_isinstance (by decide +kernel) (pa_cons (pe_ix ix_tup (pv 0) pe_int (fun _ _ => rfl)) (pa_cons (pe_bltn (v := .ty "bool") (by rfl) T.z_bool (by decide +kernel) rfl) pa_nil)))))))), ?_⟩
    refine ⟨_, rfl, v, _, t, _, _, rfl, .ty _, ty, k1, _, rfl, ?_⟩
    cases hv with
    | @tup a vs ds ha hd hl =>
      refine iteF ⟨_, rfl, _, _, rfl, .inr ⟨vs, SqT.of ha, rfl⟩, rfl, _, rfl, ?_⟩
      have hlen := hd.length
      refine ite2 (fun h0 => ?_) (fun h0 => ?_)
      · have hn : ¬ ds.length = 2 := by
          intro h2
          rw [← hlen] at h2
          rw [h2] at h0
          exact absurd h0 (by decide)
        refine bl_to (b := isMark (.tup ds)) ?_ (q H (Ex.rfl' H))
        match ds, hn with
        | [], _ => rfl
        | [_], _ => rfl
        | [_, _], h => exact absurd rfl h
        | _ :: _ :: _ :: _, _ => rfl
      · have h2 : vs.length = 2 := by
          by_cases h : vs.length = 2
          · exact h
          · exfalso
            apply h0
            have : ¬ (V.int (vs.length : Int) = V.int 2) := fun e => h (by have := V.int.inj e; omega)
            rw [decide_eq_false this]
            rfl
        match vs, ds, hd, h2 with
        | [x, y], _, @DVs.cons _ _ _ dx _ _ hx (@DVs.cons _ _ _ dy _ _ hy .nil), _ =>
          obtain ⟨ty2, k2, _, kb, _⟩ := hy.ty ho
          refine ⟨_, rfl, a, _, 0, _, rfl, rfl, SqT.of ha, rfl, x, dx, rfl, hx, fun H1 e1 => ⟨_, rfl, ?_⟩⟩
          obtain ⟨ty3, k3, _, kb3, _⟩ := (hy.ex e1).ty ho
          refine ite2 (fun h5 => ⟨_, rfl, a, _, 1, _, rfl, rfl, SqT.of (e1 _ _ ha), rfl, y, _, ty3, _, _, rfl, .ty _, k3, kb3, ?_⟩) (fun h5 => ?_)
          · refine bl_to (b := isName dx && isBl dy) ?_ (q H1 e1)
            have h6 : isName dx = true := h5
            rw [h6, Bool.true_and]
          · refine bl_to (b := isName dx && isBl dy) ?_ (q H1 e1)
            have h6 : isName dx = false := Bool.eq_false_iff.mpr h5
            rw [h6, Bool.false_and]
    | _ => exact iteT (q H (Ex.rfl' H))
theorem ok_has_row_length {f : Addr} {fd : FuncData} (F : Fun K "has_row_length" "has_row_length" s_has_row_length f fd) (T : Txt K mg) (ho : OthOk K O) :
    FnOk P w K mg base CX0 1 f fd ["value"] (spB O oddLen) := by
  refine F.ok sc_has_row_length (fun vs H Q E h => ?_) (fun cdv A outer s H vs Q E hr h => ?_)
  · obtain ⟨v, d, rfl, _⟩ := h
    rfl
  · obtain ⟨v, d, rfl, hv, q⟩ := h
    refine ⟨_, (pss_one (ps_ret (pe_and (pe_callB call_isiT (by rfl) T.z_isinstance (by decide +kernel) (pa_cons (pv 0) (pa_cons (pe_tup (pa_cons (pe_bltn (v := .ty "list") (by rfl) T.z_list (by decide +kernel) rfl) (pa_cons (pe_bltn (v := .ty "tuple") (by rfl) T.z_tuple (by decide +kernel) rfl) pa_nil))) pa_nil))) (pe_one (pe_cmpR op_eq (pe_op op_mod (pe_callB call_len (by rfl) T.z_len (by decide +kernel) (pa_cons (pv 0) pa_nil)) pe_int) pe_int (nomark _)))))), ?_⟩
    refine ⟨_, rfl, by show 2 ≤ sizeLine; decide, fun p hp => ?_⟩
    have e1 : Ex H (upd H p (.tup [.ty "list", .ty "tuple"])) := Ex.new hp
    obtain ⟨t, ty, _, _, _, k1, k2⟩ := (hv.ex e1).ty ho
    refine ⟨v, p, _, t, _, _, rfl, upd_same, .cons (.ty _) (.cons (.ty _) .nil), ty, kit_two k2 k1, _, rfl, ?_⟩
    cases hv with
    | @tup a vs ds ha hd hl =>
      refine iteT ⟨_, rfl, _, _, rfl, .inr ⟨vs, SqT.of (e1 _ _ ha), rfl⟩, _, _, rfl, rfl, (by show (0 : Int) < 2; decide), rfl, ?_⟩
      refine bl_to ?_ (q _ e1)
      rw [odd_dec, hd.length]
      rfl
    | @lst a vs ds ha hd hl =>
      refine iteT ⟨_, rfl, _, _, rfl, .inl ⟨vs, SqL.of (e1 _ _ ha), rfl⟩, _, _, rfl, rfl, (by show (0 : Int) < 2; decide), rfl, ?_⟩
      refine bl_to ?_ (q _ e1)
      rw [odd_dec, hd.length]
      rfl
    | _ => exact iteF (q _ e1)
theorem ok_is_integer {f : Addr} {fd : FuncData} (F : Fun K "is_integer" "is_integer" s_is_integer f fd) (T : Txt K mg) (ho : OthOk K O) :
    FnOk P w K mg base CX0 1 f fd ["value", "low", "high"] (fun vs H Q _ => ∃ v d lo hi, vs = [v, .int lo, .int hi] ∧ DV O H v d ∧ ∀ H', Ex H H' → Q (.bl (isInt d lo hi)) H') := by
  refine F.ok sc_is_integer (fun vs H Q E h => ?_) (fun cdv A outer s H vs Q E hr h => ?_)
  · obtain ⟨v, d, lo, hi, rfl, _⟩ := h
    rfl
  · obtain ⟨v, d, lo, hi, rfl, hv, q⟩ := h
    obtain ⟨t, ty, _, k1, k2, _⟩ := hv.ty ho
    refine ⟨_, (pss_cons (ps_if (PW.pt (pw_or (pt_val (pe_callB call_isi (by rfl) T.z_isinstance (by decide +kernel) (pa_cons (pv 0) (pa_cons (pe_bltn (v := .ty "bool") (by rfl) T.z_bool (by decide +kernel) rfl) pa_nil)))) (pw_or1 (pt_not (pt_val (pe_callB call_isi (by rfl) T.z_isinstance (by decide +kernel) (pa_cons (pv 0) (pa_cons (pe_bltn (v := .ty "int") (by rfl) T.z_int (by decide +kernel) rfl) pa_nil)))))))) (pss_one (ps_ret pe_bl)) pss_nil)
    (pss_one (ps_ret (pe_chain op_le op_le (pv 1) (pv 0) (pv 2))))), ?_⟩
    refine ⟨_, rfl, v, _, t, _, _, rfl, .ty _, ty, k1, _, rfl, ?_⟩
    cases hv with
    | bl b => exact iteT (iteT (q H (Ex.rfl' H)))
    | int i =>
      refine iteF ⟨_, rfl, _, _, t, _, _, rfl, .ty _, ty, k2, _, rfl, ?_⟩
      refine iteF ⟨_, rfl, _, rfl, _, _, rfl, rfl, _, rfl, ?_⟩
      refine ite2 (fun h1 => ⟨_, rfl, _, _, rfl, rfl, ?_⟩) (fun h1 => ?_)
      · refine bl_to (b := isInt (.int i) lo hi) ?_ (q H (Ex.rfl' H))
        show _ = (decide (lo ≤ i) && decide (i ≤ hi))
        rw [h1, Bool.true_and]
      · refine bl_to (b := isInt (.int i) lo hi) ?_ (q H (Ex.rfl' H))
        show _ = (decide (lo ≤ i) && decide (i ≤ hi))
        rw [Bool.eq_false_iff.mpr h1, Bool.false_and]
    | _ => exact iteF ⟨_, rfl, _, _, t, _, _, rfl, .ty _, ty, k2, _, rfl, iteT (q H (Ex.rfl' H))⟩
theorem ok_first_misfit {f : Addr} {fd : FuncData} (F : Fun K "first_misfit" "first_misfit" s_first_misfit f fd) (T : Txt K mg) (ho : OthOk K O)
    {f_is_piece : Addr} {fd_is_piece : FuncData} (D_is_piece : Df K mg "is_piece" f_is_piece fd_is_piece ["value"])
    {f_is_marker : Addr} {fd_is_marker : FuncData} (D_is_marker : Df K mg "is_marker" f_is_marker fd_is_marker ["value"]) (G_is_piece : FnOk P w K mg base CX0 1 f_is_piece fd_is_piece ["value"] (spB O isPiece)) (G_is_marker : FnOk P w K mg base CX0 3 f_is_marker fd_is_marker ["value"] (spB O isMark)) :
    FnOk P w K mg base CX0 4 f fd ["items"] (spMisfit O) := by
  refine F.ok sc_first_misfit (fun vs H Q E h => ?_) (fun cdv A outer s H vs Q E hr h => ?_)
  · obtain ⟨v, ds, rfl, _⟩ := h
    rfl
  · obtain ⟨v, ds, rfl, hv, q1, q2⟩ := h
    rcases hv with hv | hv
    · cases hv with
      | @lst a vs _ ha hd hl =>
      refine ⟨_, (pss_cons (ps_for PassesOwn.never rfl (pi_enum (by rfl) T.z_enumerate (pa_cons (pv 0) pa_nil)) (pg_tup (by rfl) (pgs_cons (pg_name (i := 1) sc_first_misfit.nd rfl (.inl rfl)) (pgs_cons (pg_name (i := 2) sc_first_misfit.nd rfl (.inl rfl)) pgs_nil)))
      (pss_cons (ps_set (i := 3) sc_first_misfit.nd rfl (.inl rfl) (pe_ifExp (pt_cmpR op_eq (pe_op op_mod (pv 1) pe_int) pe_int (nomark _)) (pe_call G_is_piece (hr.mono (by first | decide | omega)) rfl D_is_piece.g D_is_piece.k D_is_piece.b .nil pass0 (pa_cons (pv 2) pa_nil)) (pe_call G_is_marker (hr.mono (by first | decide | omega)) rfl D_is_marker.g D_is_marker.k D_is_marker.b .nil pass0 (pa_cons (pv 2) pa_nil))))
    (pss_one (ps_if (pt_not (pt_val (pv 3))) (pss_one (ps_ret (pv 1))) pss_nil))))
    (pss_one (ps_ret pe_non))), ?_⟩
      refine ⟨_, rfl, a, vs, rfl, SqL.of ha, ?_⟩
      refine for_enumL (K := K) (a := a) (xs := vs) (fun i σ H' => ∃ y1 y2 y3, σ = [some (.ref a), y1, y2, y3] ∧ Ex H H' ∧ misfit 0 ds = misfit i (ds.drop i))
        ⟨none, none, none, rfl, Ex.rfl' H, rfl⟩ (fun i σ H' _ ⟨_, _, _, _, e, _⟩ => SqL.of (e _ _ ha)) ?_ ?_
      · rintro i x σ H1 Tp hx ⟨y1, y2, y3, rfl, e1, hm⟩ hT
        have e2 := e1.tr (Ex.new (o := .tup [.int (i : Nat), x]) hT)
        obtain ⟨d, h1, h2⟩ := hd.get hx
        have hm2 := misfit_step h1 hm
        have hxd := h2.ex e2
        refine ⟨Tp, _, rfl, SqT.of upd_same, rfl, _, _, rfl, _, _, rfl, rfl, ?_⟩
        refine ⟨_, rfl, _, _, rfl, rfl, (by show (0 : Int) < 2; decide), rfl, _, rfl, ?_⟩
        rw [even_dec]
        refine ite2 (fun h0 => ?_) (fun h0 => ?_)
        · have h0' : i % 2 = 0 := of_decide_eq_true h0
          have hf : fits i d = isPiece d := by unfold fits; rw [if_pos h0']
          rw [hf] at hm2
          refine ⟨_, rfl, x, d, rfl, hxd, fun H3 e3 => ⟨_, rfl, _, rfl, ?_⟩⟩
          cases hq : isPiece d with
          | true => exact iteF ⟨_, _, _, rfl, e2.tr e3, hm2.1 hq⟩
          | false => exact iteT ⟨_, rfl, q2 _ _ (e2.tr e3) (hm2.2 (by rw [hq]; decide))⟩
        · have h0' : ¬ i % 2 = 0 := fun e => h0 (decide_eq_true e)
          have hf : fits i d = isMark d := by unfold fits; rw [if_neg h0']
          rw [hf] at hm2
          refine ⟨_, rfl, x, d, rfl, hxd, fun H3 e3 => ⟨_, rfl, _, rfl, ?_⟩⟩
          cases hq : isMark d with
          | true => exact iteF ⟨_, _, _, rfl, e2.tr e3, hm2.1 hq⟩
          | false => exact iteT ⟨_, rfl, q2 _ _ (e2.tr e3) (hm2.2 (by rw [hq]; decide))⟩
      · rintro σ H1 ⟨y1, y2, y3, rfl, e1, hm⟩
        refine q1 _ e1 ?_
        rw [hm, hd.length, List.drop_length]
        rfl
    · cases hv with
      | @tup a vs _ ha hd hl =>
      refine ⟨_, (pss_cons (ps_for PassesOwn.never rfl (pi_enumT (by rfl) T.z_enumerate (pa_cons (pv 0) pa_nil)) (pg_tup (by rfl) (pgs_cons (pg_name (i := 1) sc_first_misfit.nd rfl (.inl rfl)) (pgs_cons (pg_name (i := 2) sc_first_misfit.nd rfl (.inl rfl)) pgs_nil)))
      (pss_cons (ps_set (i := 3) sc_first_misfit.nd rfl (.inl rfl) (pe_ifExp (pt_cmpR op_eq (pe_op op_mod (pv 1) pe_int) pe_int (nomark _)) (pe_call G_is_piece (hr.mono (by first | decide | omega)) rfl D_is_piece.g D_is_piece.k D_is_piece.b .nil pass0 (pa_cons (pv 2) pa_nil)) (pe_call G_is_marker (hr.mono (by first | decide | omega)) rfl D_is_marker.g D_is_marker.k D_is_marker.b .nil pass0 (pa_cons (pv 2) pa_nil))))
    (pss_one (ps_if (pt_not (pt_val (pv 3))) (pss_one (ps_ret (pv 1))) pss_nil))))
    (pss_one (ps_ret pe_non))), ?_⟩
      refine ⟨_, rfl, a, vs, rfl, SqT.of ha, ?_⟩
      refine for_enumT (K := K) (a := a) (xs := vs) (fun i σ H' => ∃ y1 y2 y3, σ = [some (.ref a), y1, y2, y3] ∧ Ex H H' ∧ misfit 0 ds = misfit i (ds.drop i))
        ⟨none, none, none, rfl, Ex.rfl' H, rfl⟩ (fun i σ H' _ ⟨_, _, _, _, e, _⟩ => SqT.of (e _ _ ha)) ?_ ?_
      · rintro i x σ H1 Tp hx ⟨y1, y2, y3, rfl, e1, hm⟩ hT
        have e2 := e1.tr (Ex.new (o := .tup [.int (i : Nat), x]) hT)
        obtain ⟨d, h1, h2⟩ := hd.get hx
        have hm2 := misfit_step h1 hm
        have hxd := h2.ex e2
        refine ⟨Tp, _, rfl, SqT.of upd_same, rfl, _, _, rfl, _, _, rfl, rfl, ?_⟩
        refine ⟨_, rfl, _, _, rfl, rfl, (by show (0 : Int) < 2; decide), rfl, _, rfl, ?_⟩
        rw [even_dec]
        refine ite2 (fun h0 => ?_) (fun h0 => ?_)
        · have h0' : i % 2 = 0 := of_decide_eq_true h0
          have hf : fits i d = isPiece d := by unfold fits; rw [if_pos h0']
          rw [hf] at hm2
          refine ⟨_, rfl, x, d, rfl, hxd, fun H3 e3 => ⟨_, rfl, _, rfl, ?_⟩⟩
          cases hq : isPiece d with
          | true => exact iteF ⟨_, _, _, rfl, e2.tr e3, hm2.1 hq⟩
          | false => exact iteT ⟨_, rfl, q2 _ _ (e2.tr e3) (hm2.2 (by rw [hq]; decide))⟩
        · have h0' : ¬ i % 2 = 0 := fun e => h0 (decide_eq_true e)
          have hf : fits i d = isMark d := by unfold fits; rw [if_neg h0']
          rw [hf] at hm2
          refine ⟨_, rfl, x, d, rfl, hxd, fun H3 e3 => ⟨_, rfl, _, rfl, ?_⟩⟩
          cases hq : isMark d with
          | true => exact iteF ⟨_, _, _, rfl, e2.tr e3, hm2.1 hq⟩
          | false => exact iteT ⟨_, rfl, q2 _ _ (e2.tr e3) (hm2.2 (by rw [hq]; decide))⟩
      · rintro σ H1 ⟨y1, y2, y3, rfl, e1, hm⟩
        refine q1 _ e1 ?_
        rw [hm, hd.length, List.drop_length]
        rfl
end

/-! ### valid rows pass the checks -/
section
variable {P : Program} {w : World} {K : PySem.W.Frag} {mg : Str → Option Value} {base : Heap} {O : HO → Prop}
theorem ok_check_items {f : Addr} {fd : FuncData} (F : Fun K "check_items" "check_items" s_check_items f fd) (T : Txt K mg)
    {f_first_misfit : Addr} {fd_first_misfit : FuncData} (D_first_misfit : Df K mg "first_misfit" f_first_misfit fd_first_misfit ["items"]) (G_first_misfit : FnOk P w K mg base CX0 4 f_first_misfit fd_first_misfit ["items"] (spMisfit O)) :
    FnOk P w K mg base CX0 5 f fd ["items"] (spPass O) := by
  refine F.ok sc_check_items (fun vs H Q E h => ?_) (fun cdv A outer s H vs Q E hr h => ?_)
  · obtain ⟨v, d, rfl, _⟩ := h
    rfl
  · obtain ⟨v, d, rfl, hv, hr1, q⟩ := h
    obtain ⟨⟨ds, hd, hm⟩, _⟩ := isRow_cases hr1
    refine ⟨_, (pss_cons (ps_set (i := 1) sc_check_items.nd rfl (.inl rfl) (pe_call G_first_misfit (hr.mono (by first | decide | omega)) rfl D_first_misfit.g D_first_misfit.k D_first_misfit.b .nil pass0 (pa_cons (pv 0) pa_nil)))
    (pss_cons (ps_if (pt_cmp (pc_isN (pv 1))) (pss_one ps_retN) pss_nil)
    (pss_cons (ps_if (pt_cmpR op_eq (pe_op op_mod (pv 1) pe_int) pe_int (nomark _)) (pss_one ps_never) pss_nil)
    (pss_one ps_never)))), ?_⟩
    refine ⟨_, rfl, v, ds, rfl, ?_, fun H1 e1 _ => ?_, fun H1 i e1 h => ?_⟩
    · rcases hd with rfl | rfl
      · exact .inl hv
      · exact .inr hv
    · exact ⟨_, rfl, _, rfl, iteT (q _ e1)⟩
    · rw [hm] at h
      cases h
theorem ok_check_row {f : Addr} {fd : FuncData} (F : Fun K "check_row" "check_row" s_check_row f fd) (T : Txt K mg)
    {f_check_items : Addr} {fd_check_items : FuncData} (D_check_items : Df K mg "check_items" f_check_items fd_check_items ["items"])
    {f_has_row_length : Addr} {fd_has_row_length : FuncData} (D_has_row_length : Df K mg "has_row_length" f_has_row_length fd_has_row_length ["value"]) (G_has_row_length : FnOk P w K mg base CX0 1 f_has_row_length fd_has_row_length ["value"] (spB O oddLen)) (G_check_items : FnOk P w K mg base CX0 5 f_check_items fd_check_items ["items"] (spPass O)) :
    FnOk P w K mg base CX0 6 f fd ["row"] (spPass O) := by
  refine F.ok sc_check_row (fun vs H Q E h => ?_) (fun cdv A outer s H vs Q E hr h => ?_)
  · obtain ⟨v, d, rfl, _⟩ := h
    rfl
  · obtain ⟨v, d, rfl, hv, hr1, q⟩ := h
    obtain ⟨_, ho⟩ := isRow_cases hr1
    refine ⟨_, (pss_cons (ps_if (pt_not (pt_val (pe_call G_has_row_length (hr.mono (by first | decide | omega)) rfl D_has_row_length.g D_has_row_length.k D_has_row_length.b .nil pass0 (pa_cons (pv 0) pa_nil)))) (pss_one ps_never) pss_nil)
    (pss_one (ps_expr (pe_call G_check_items (hr.mono (by first | decide | omega)) rfl D_check_items.g D_check_items.k D_check_items.b .nil pass0 (pa_cons (pv 0) pa_nil))))), ?_⟩
    refine ⟨_, rfl, v, d, rfl, hv, fun H1 e1 => ⟨_, rfl, ?_⟩⟩
    rw [ho]
    exact iteF ⟨_, rfl, v, d, rfl, hv.ex e1, hr1, fun H2 e2 => q _ (e1.tr e2)⟩
end

/-! ### markers taken out of a row -/
def numsB (d : D) (t : Int) : Bool := match d with
  | .lst ds => ds.all fun x => isInt x 0 (t - 1)
  | .tup ds => ds.all fun x => isInt x 0 (t - 1)
  | _ => false
def spNumsB (O : HO → Prop) : Sp := fun vs H Q _ => ∃ v d t, vs = [v, .int t] ∧ DV O H v d ∧ ∀ H', Ex H H' → Q (.bl (numsB d t)) H'
/-- a new list of values that stood before -/
def NewL (O : HO → Prop) (G H : Hp) (ds : List D) (Q : VK) : Prop := ∀ p vs H', Ex H H' → H p = none → H' p = some (.lst vs) → DVs O G vs ds → Q (.ref p) H'
theorem isInt_int {d : D} {lo hi : Int} (h : isInt d lo hi = true) : ∃ i, d = .int i ∧ lo ≤ i ∧ i ≤ hi := by
  cases d with
  | int i =>
    have h' : (decide (lo ≤ i) && decide (i ≤ hi)) = true := h
    rw [Bool.and_eq_true] at h'
    exact ⟨i, rfl, of_decide_eq_true h'.1, of_decide_eq_true h'.2⟩
  | _ => cases h
section
variable {P : Program} {w : World} {K : PySem.W.Frag} {mg : Str → Option Value} {base : Heap} {O : HO → Prop}
theorem ok_are_marker_numbers {f : Addr} {fd : FuncData} (F : Fun K "_are_marker_numbers" "_are_marker_numbers" s_are_marker_numbers f fd) (T : Txt K mg) (ho : OthOk K O) {f_is_integer : Addr} {fd_is_integer : FuncData} (D_is_integer : Df K mg "is_integer" f_is_integer fd_is_integer ["value", "low", "high"])
    (G_is_integer : FnOk P w K mg base CX0 1 f_is_integer fd_is_integer ["value", "low", "high"] (fun vs H Q _ => ∃ v d lo hi, vs = [v, .int lo, .int hi] ∧ DV O H v d ∧ ∀ H', Ex H H' → Q (.bl (isInt d lo hi)) H')) :
    FnOk P w K mg base CX0 2 f fd ["value", "total"] (spNumsB O) := by
  refine F.ok sc_are_marker_numbers (fun vs H Q E h => ?_) (fun cdv A outer s H vs Q E hr h => ?_)
  · obtain ⟨v, d, t, rfl, _⟩ := h
    rfl
  · obtain ⟨v, d, t, rfl, hv, q⟩ := h
    have hu : (A.deeper (envOfC "_are_marker_numbers" (defScope s_are_marker_numbers) s.heap.objs.size f cdv)).units + 1 < cLine := by
      have := hr.un
      omega
    have hv0 := hv
    have tup2 : Paired ClsV [V.ty "list", V.ty "tuple"] [Value.type "list", Value.type "tuple"] := .cons (.ty _) (.cons (.ty _) .nil)
    cases hv with
    | @lst a vs ds ha hd hl =>
      refine ⟨_, (pss_cons (ps_if (pt_not (pt_val (pe_callB call_isiT (by rfl) T.z_isinstance (by decide +kernel) (pa_cons (pv 0) (pa_cons (pe_tup (pa_cons (pe_bltn (v := .ty "list") (by rfl) T.z_list (by decide +kernel) rfl) (pa_cons (pe_bltn (v := .ty "tuple") (by rfl) T.z_tuple (by decide +kernel) rfl) pa_nil))) pa_nil))))) (pss_one (ps_ret pe_bl)) pss_nil)
    (pss_one (ps_ret (pe_callB (cr_all rfl) (by rfl) T.z_all (by decide +kernel) (pa_cons (pe_lc (own := [("number", 2)]) (g := gName 2) (tt := tYes) rfl sc_are_marker_numbers.nd (pi_list (pv 0)) (blkOk_by (N := sc_are_marker_numbers.N') (sc := defScope s_are_marker_numbers) (by decide +kernel)) (fun _ _ _ _ _ => (pg_name (i := 2) sc_are_marker_numbers.nd rfl (by first | exact Or.inl rfl | exact Or.inr rfl))) (fun _ _ _ _ _ => pts_nil) (fun _ _ _ _ _ => (pe_call G_is_integer (hr.mono (by first | decide | omega)) rfl D_is_integer.g D_is_integer.k D_is_integer.b .nil pass0 (pa_cons (pv 2) (pa_cons pe_int (pa_cons (pe_op op_sub (pv 1) pe_int) pa_nil)))))) pa_nil))))), ?_⟩
      refine ⟨_, rfl, by show 2 ≤ sizeLine; decide, fun p hp => ?_⟩
      have e1 : Ex H (upd H p (.tup [.ty "list", .ty "tuple"])) := Ex.new hp
      obtain ⟨ty, k0, _, _, _, k1, k2⟩ := ((DV.lst ha hd hl).ex e1 (O := O)).ty ho
      refine ⟨_, p, _, ty, _, _, rfl, upd_same, tup2, k0, kit_two k2 k1, _, rfl, iteF ?_⟩
      generalize upd H p (.tup [.ty "list", .ty "tuple"]) = H1 at e1 ⊢
      refine ⟨_, rfl, a, rfl, ⟨_, SqL.of (e1 _ _ ha)⟩, fun D hD => lc_list (xs := vs) (fun i H' => Ex H1 H' ∧ H' D = some (.lst (((ds.take i).map fun x => isInt x 0 (t - 1)).map V.bl)))
        ⟨Ex.new hD, upd_same⟩ (fun i H' _ ⟨x1, _⟩ => SqL.of ((e1.tr x1) _ _ ha)) ?_ ?_⟩
      · rintro i x H2 hx ⟨e2, hD2⟩
        obtain ⟨d, hdi, hxd⟩ := hd.get hx
        have hi : i < vs.length := (List.getElem?_eq_some_iff.mp hx).1
        refine ⟨rfl, lcY ⟨_, rfl, _, rfl, _, _, rfl, rfl, x, d, 0, t - 1, rfl, hxd.ex (e1.tr e2), fun H3 e3 => ⟨_, e3 _ _ hD2, Nat.lt_of_le_of_lt (show _ ≤ 100000 by simp; omega) (by decide), (e2.tr e3).mut hD, ?_⟩⟩⟩
        rw [upd_same, List.take_add_one, hdi]
        simp
      · rintro H2 ⟨e2, hD2⟩
        rw [hd.length, List.take_length] at hD2
        refine ⟨D, _, rfl, SqL.of hD2, ?_⟩
        refine bl_to ?_ (q H2 (e1.tr e2))
        simp [numsB, List.all_map]
    | @tup a vs ds ha hd hl =>
      refine ⟨_, (pss_cons (ps_if (pt_not (pt_val (pe_callB call_isiT (by rfl) T.z_isinstance (by decide +kernel) (pa_cons (pv 0) (pa_cons (pe_tup (pa_cons (pe_bltn (v := .ty "list") (by rfl) T.z_list (by decide +kernel) rfl) (pa_cons (pe_bltn (v := .ty "tuple") (by rfl) T.z_tuple (by decide +kernel) rfl) pa_nil))) pa_nil))))) (pss_one (ps_ret pe_bl)) pss_nil)
    (pss_one (ps_ret (pe_callB (cr_all rfl) (by rfl) T.z_all (by decide +kernel) (pa_cons (pe_lc (own := [("number", 2)]) (g := gName 2) (tt := tYes) rfl sc_are_marker_numbers.nd (pi_tup (pv 0)) (blkOk_by (N := sc_are_marker_numbers.N') (sc := defScope s_are_marker_numbers) (by decide +kernel)) (fun _ _ _ _ _ => (pg_name (i := 2) sc_are_marker_numbers.nd rfl (by first | exact Or.inl rfl | exact Or.inr rfl))) (fun _ _ _ _ _ => pts_nil) (fun _ _ _ _ _ => (pe_call G_is_integer (hr.mono (by first | decide | omega)) rfl D_is_integer.g D_is_integer.k D_is_integer.b .nil pass0 (pa_cons (pv 2) (pa_cons pe_int (pa_cons (pe_op op_sub (pv 1) pe_int) pa_nil)))))) pa_nil))))), ?_⟩
      refine ⟨_, rfl, by show 2 ≤ sizeLine; decide, fun p hp => ?_⟩
      have e1 : Ex H (upd H p (.tup [.ty "list", .ty "tuple"])) := Ex.new hp
      obtain ⟨ty, k0, _, _, _, k1, k2⟩ := ((DV.tup ha hd hl).ex e1 (O := O)).ty ho
      refine ⟨_, p, _, ty, _, _, rfl, upd_same, tup2, k0, kit_two k2 k1, _, rfl, iteF ?_⟩
      generalize upd H p (.tup [.ty "list", .ty "tuple"]) = H1 at e1 ⊢
      refine ⟨_, rfl, a, rfl, ⟨_, SqT.of (e1 _ _ ha)⟩, fun D hD => lc_tup (xs := vs) (fun i H' => Ex H1 H' ∧ H' D = some (.lst (((ds.take i).map fun x => isInt x 0 (t - 1)).map V.bl)))
        ⟨Ex.new hD, upd_same⟩ (fun i H' _ ⟨x1, _⟩ => SqT.of ((e1.tr x1) _ _ ha)) ?_ ?_⟩
      · rintro i x H2 hx ⟨e2, hD2⟩
        obtain ⟨d, hdi, hxd⟩ := hd.get hx
        have hi : i < vs.length := (List.getElem?_eq_some_iff.mp hx).1
        refine ⟨rfl, lcY ⟨_, rfl, _, rfl, _, _, rfl, rfl, x, d, 0, t - 1, rfl, hxd.ex (e1.tr e2), fun H3 e3 => ⟨_, e3 _ _ hD2, Nat.lt_of_le_of_lt (show _ ≤ 100000 by simp; omega) (by decide), (e2.tr e3).mut hD, ?_⟩⟩⟩
        rw [upd_same, List.take_add_one, hdi]
        simp
      · rintro H2 ⟨e2, hD2⟩
        rw [hd.length, List.take_length] at hD2
        refine ⟨D, _, rfl, SqL.of hD2, ?_⟩
        refine bl_to ?_ (q H2 (e1.tr e2))
        simp [numsB, List.all_map]
    | _ =>
      refine ⟨_, (pss_cons (ps_if (pt_not (pt_val (pe_callB call_isiT (by rfl) T.z_isinstance (by decide +kernel) (pa_cons (pv 0) (pa_cons (pe_tup (pa_cons (pe_bltn (v := .ty "list") (by rfl) T.z_list (by decide +kernel) rfl) (pa_cons (pe_bltn (v := .ty "tuple") (by rfl) T.z_tuple (by decide +kernel) rfl) pa_nil))) pa_nil))))) (pss_one (ps_ret pe_bl)) pss_nil)
    (pss_one (ps_ret (pe_callB (cr_all rfl) (by rfl) T.z_all (by decide +kernel) (pa_cons (pe_lc (own := [("number", 2)]) (g := gName 2) (tt := tYes) rfl sc_are_marker_numbers.nd (pi_list (pv 0)) (blkOk_by (N := sc_are_marker_numbers.N') (sc := defScope s_are_marker_numbers) (by decide +kernel)) (fun _ _ _ _ _ => (pg_name (i := 2) sc_are_marker_numbers.nd rfl (by first | exact Or.inl rfl | exact Or.inr rfl))) (fun _ _ _ _ _ => pts_nil) (fun _ _ _ _ _ => (pe_call G_is_integer (hr.mono (by first | decide | omega)) rfl D_is_integer.g D_is_integer.k D_is_integer.b .nil pass0 (pa_cons (pv 2) (pa_cons pe_int (pa_cons (pe_op op_sub (pv 1) pe_int) pa_nil)))))) pa_nil))))), ?_⟩
      refine ⟨_, rfl, by show 2 ≤ sizeLine; decide, fun p hp => ?_⟩
      have e1 : Ex H (upd H p (.tup [.ty "list", .ty "tuple"])) := Ex.new hp
      obtain ⟨ty, k0, _, _, _, k1, k2⟩ := (hv0.ex e1).ty ho
      refine ⟨_, p, _, ty, _, _, rfl, upd_same, tup2, k0, kit_two k2 k1, _, rfl, iteT (q _ e1)⟩
theorem pcS_ok {z : Str} {l : List (Mk × Str)} (o : OkR z l) {k : Nat} (hk : k ≤ l.length) : pieceB (pcS z l k) = true := by
  cases k with
  | zero => exact o.pz
  | succ k =>
    have e : l[k]? = some l[k] := List.getElem?_eq_getElem hk
    rw [pcS_next e]
    exact (o.pl _ (List.getElem_mem hk)).2
/-- the promise of _merged -/
def spMerged (O : HO → Prop) : Sp := fun vs H Q _ => ∃ v b z l g G, vs = [v, .ref b] ∧ Ex G H ∧ (DV O G v (.lst (toD z l)) ∨ DV O G v (.tup (toD z l))) ∧ OkR z l ∧ tot z l ≤ 50000 ∧ l.length ≤ 60 ∧
  H b = some (.lst ((List.range l.length).map fun k => V.bl (!g k))) ∧ NewL O G H (toD (mrg g 0 z l).1 (mrg g 0 z l).2) Q
theorem drop_get {α : Type} {l : List α} {i : Nat} {p : α} (h : l[i]? = some p) : l.drop i = p :: l.drop (i + 1) := by
  obtain ⟨hi, rfl⟩ := List.getElem?_eq_some_iff.mp h
  exact List.drop_eq_getElem_cons hi
theorem join_snoc (ys : List Str) (y : Str) : Txt.join "" (ys ++ [y]) = Txt.join "" ys ++ y := by
  apply str_ext
  rw [join_empty_list, str_app_list, join_empty_list]
  simp
theorem join_nil : Txt.join "" ([] : List Str) = Str.empty := rfl
theorem join_sum (ys : List Str) : (Txt.join "" ys).length = (ys.map (·.length)).sum := by
  rw [Gd.len_list, join_empty_list, List.length_flatten, List.map_map]
  congr 1
theorem lt_200 {n : Nat} (h : n ≤ 200) : n < sizeLine := Nat.lt_of_le_of_lt h (by decide)
theorem join_single (y : Str) : Txt.join "" [y] = y := by
  apply str_ext
  rw [join_empty_list]
  simp
theorem tot_sum {z : Str} {l : List (Mk × Str)} {ns : List Str} (h : tot (Txt.join "" ns) l ≤ 50000) : (ns.map (·.length)).sum + ns.length * ("" : Str).length ≤ 16777216 := by
  rw [← join_sum]
  have := @tot_z (Txt.join "" ns) l
  have e : ("" : Str).length = 0 := rfl
  rw [e]
  omega
theorem mrg_bound (g : Nat → Bool) : ∀ (l : List (Mk × Str)) (i : Nat) (z : Str), tot (mrg g i z l).1 (mrg g i z l).2 = tot z l := fun l i z => mrg_tot g l i z
theorem mrg_no {g : Nat → Bool} {i : Nat} {z : Str} {p : Mk × Str} {r : List (Mk × Str)} (h : g i = false) : mrg g i z (p :: r) = (z, (p.1, (mrg g (i + 1) p.2 r).1) :: (mrg g (i + 1) p.2 r).2) := by
  obtain ⟨m, y⟩ := p
  have e : mrg g i z ((m, y) :: r) = if g i = true then mrg g (i + 1) (z ++ y) r else (z, (m, (mrg g (i + 1) y r).1) :: (mrg g (i + 1) y r).2) := rfl
  rw [e, if_neg (by rw [h]; decide)]
theorem mrg_yes {g : Nat → Bool} {i : Nat} {z : Str} {p : Mk × Str} {r : List (Mk × Str)} (h : g i = true) : mrg g i z (p :: r) = mrg g (i + 1) (z ++ p.2) r := by
  obtain ⟨m, y⟩ := p
  have e : mrg g i z ((m, y) :: r) = if g i = true then mrg g (i + 1) (z ++ y) r else (z, (m, (mrg g (i + 1) y r).1) :: (mrg g (i + 1) y r).2) := rfl
  rw [e, if_pos h]
theorem ok_merged {f : Addr} {fd : FuncData} (F : Fun K "_merged" "_merged" s_merged f fd) (T : Txt K mg)   :
    FnOk P w K mg base CX0 1 f fd ["row", "kept"] (spMerged O) := by
  refine F.ok sc_merged (fun vs H Q E h => ?_) (fun cdv A outer s H vs Q E hr h => ?_)
  · obtain ⟨v, b, z, l, g, G, rfl, _⟩ := h
    rfl
  · obtain ⟨v, b, z, l, g, G, rfl, eG, hv, ok, ht, hl, hb, q⟩ := h
    have kl : ((List.range l.length).map fun k => V.bl (!g k)).length = l.length := by simp
    rcases hv with hv | hv
    · obtain ⟨a, rv, rfl, ha, hd, hrl⟩ : ∃ (a : Addr) (vs : List V), v = .ref a ∧ G a = some (.lst vs) ∧ DVs O G vs (toD z l) ∧ vs.length ≤ 100000 := by
        cases hv with
        | lst ha hd hl => exact ⟨_, _, rfl, ha, hd, hl⟩
      have rlen : rv.length = 2 * l.length + 1 := by rw [hd.length, toD_len]
      have at_ : ∀ (k : Nat) (d : D), (toD z l)[k]? = some d → ∃ x, atI rv (k : Int) = some x ∧ rv[k]? = some x ∧ DV O G x d := by
        intro k d hk
        have h1 : k < rv.length := by
          have := (List.getElem?_eq_some_iff.mp hk).1
          rw [hd.length]; exact this
        have e : rv[k]? = some rv[k] := List.getElem?_eq_getElem h1
        obtain ⟨d', hd', hx⟩ := hd.get e
        rw [hk] at hd'
        cases hd'
        refine ⟨_, ?_, e, hx⟩
        unfold atI ixN
        rw [if_pos (by omega), if_pos (by omega)]
        simp [e]
      refine ⟨_, (pss_cons (ps_set (i := 2) sc_merged.nd rfl (.inl rfl) (pe_lst pa_nil))
    (pss_cons (ps_set (i := 3) sc_merged.nd rfl (.inl rfl) (pe_lst (pa_cons (pe_ix ix_list (pv 0) pe_int (fun _ _ => rfl)) pa_nil)))
    (pss_cons (ps_for PassesOwn.never rfl (pi_enum (by rfl) T.z_enumerate (pa_cons (pv 1) pa_nil)) (pg_tup (by rfl) (pgs_cons (pg_name (i := 4) sc_merged.nd rfl (.inl rfl)) (pgs_cons (pg_name (i := 5) sc_merged.nd rfl (.inl rfl)) pgs_nil)))
      (pss_cons (ps_if (pt_val (pv 5)) (pss_cons (ps_expr (pe_bm PySem.F.plainAttrs_list PySem.F.slot_list_append PySem.F.type_list_append mt_append (pv 2) (pa_cons (pe_bm PySem.F.plainAttrs_str PySem.F.slot_str_join PySem.F.type_str_join mt_join pe_str (pa_cons (pv 3) pa_nil)) pa_nil)))
    (pss_cons (ps_expr (pe_bm PySem.F.plainAttrs_list PySem.F.slot_list_append PySem.F.type_list_append mt_append (pv 2) (pa_cons (pe_ix ix_list (pv 0) (pe_op op_add (pe_op op_mul pe_int (pv 4)) pe_int) (fun _ _ => rfl)) pa_nil)))
    (pss_one (ps_set (i := 3) sc_merged.nd rfl (.inl rfl) (pe_lst pa_nil))))) pss_nil)
    (pss_one (ps_expr (pe_bm PySem.F.plainAttrs_list PySem.F.slot_list_append PySem.F.type_list_append mt_append (pv 3) (pa_cons (pe_ix ix_list (pv 0) (pe_op op_add (pe_op op_mul pe_int (pv 4)) pe_int) (fun _ _ => rfl)) pa_nil))))))
    (pss_cons (ps_expr (pe_bm PySem.F.plainAttrs_list PySem.F.slot_list_append PySem.F.type_list_append mt_append (pv 2) (pa_cons (pe_bm PySem.F.plainAttrs_str PySem.F.slot_str_join PySem.F.type_str_join mt_join pe_str (pa_cons (pv 3) pa_nil)) pa_nil)))
    (pss_one (ps_ret (pv 2))))))), ?_⟩
      refine ⟨(by show 0 ≤ sizeLine; decide), fun m hm => ?_⟩
      obtain ⟨x0, e0, _, hx0⟩ := at_ 0 _ rfl
      obtain ⟨rfl, _⟩ := str_val hx0
      have E1 : Ex H (upd H m (.lst [])) := Ex.new hm
      refine ⟨_, rfl, a, rv, 0, _, rfl, rfl, SqL.of ((eG.tr E1) _ _ ha), e0, (by show 1 ≤ sizeLine; decide), fun nb hnb => ?_⟩
      have nmn : m ≠ nb := ne_of_none upd_same hnb
      have E2 : Ex H (upd (upd H m (.lst [])) nb (.lst [.str z])) := E1.tr (Ex.new hnb)
      have hmm : upd (upd H m (.lst [])) nb (.lst [.str z]) m = some (.lst []) := (upd_ne nmn).trans upd_same
      have hnn : upd (upd H m (.lst [])) nb (.lst [.str z]) nb = some (.lst [V.str z]) := upd_same
      have nH : H nb = none := E1.free hnb
      have mH : H m = none := hm
      generalize upd (upd H m (.lst [])) nb (.lst [.str z]) = H2 at E2 hmm hnn ⊢
      clear hm hnb E1
      refine ⟨_, rfl, b, _, rfl, SqL.of (E2 _ _ hb), ?_⟩
      refine for_enumL (K := K) (a := b) (xs := (List.range l.length).map fun k => V.bl (!g k)) (fun i σ H' => ∃ (nb : Addr) (y1 y2 : Option V) (ms : List V) (es : List D) (ns : List Str), σ = [some (.ref a), some (.ref b), some (.ref m), some (.ref nb), y1, y2] ∧ Ex H H' ∧
          H nb = none ∧ m ≠ nb ∧ H' m = some (.lst ms) ∧ H' nb = some (.lst (ns.map V.str)) ∧ DVs O G ms es ∧ ms.length ≤ 2 * i ∧ ns.length ≤ i + 1 ∧ (∀ y ∈ ns, pieceB y = true) ∧ OkR (Txt.join "" ns) (l.drop i) ∧
          tot (Txt.join "" ns) (l.drop i) ≤ 50000 ∧ toD (mrg g 0 z l).1 (mrg g 0 z l).2 = es ++ toD (mrg g i (Txt.join "" ns) (l.drop i)).1 (mrg g i (Txt.join "" ns) (l.drop i)).2)
        ⟨nb, none, none, [], [], [z], rfl, E2, nH, nmn, hmm, hnn, .nil, by simp, by simp, ?_, ?_, ?_, ?_⟩ (fun i σ H' _ ⟨_, _, _, _, _, _, _, e, _⟩ => SqL.of (e _ _ hb)) ?_ ?_
      · intro y hy
        have : y = z := by simpa using hy
        rw [this]; exact ok.pz
      · rw [join_single]; exact ok
      · rw [join_single]; exact ht
      · rw [join_single]; rfl
      · rintro i x σ H3 Tp hx ⟨nb, y1, y2, ms, es, ns, rfl, e3, fH, fm, hm3, hn3, dm, lm, ln, okn, oki, toti, eq⟩ hT
        obtain ⟨hi, rfl⟩ := range_get hx
        obtain ⟨p, hp⟩ : ∃ p, l[i]? = some p := ⟨_, List.getElem?_eq_getElem hi⟩
        have edrop := drop_get hp
        have ntm := ne_of_none hm3 hT
        have ntn := ne_of_none hn3 hT
        have e4 : Ex H (upd H3 Tp (.tup [.int (i : Nat), .bl (!g i)])) := e3.tr (Ex.new hT)
        have hm4 := (upd_ne (o := .tup [V.int (i : Nat), .bl (!g i)]) ntm).trans hm3
        have hn4 := (upd_ne (o := .tup [V.int (i : Nat), .bl (!g i)]) ntn).trans hn3
        have hT4 : upd H3 Tp (.tup [.int (i : Nat), .bl (!g i)]) Tp = some (.tup [.int (i : Nat), .bl (!g i)]) := upd_same
        generalize upd H3 Tp (.tup [.int (i : Nat), .bl (!g i)]) = H4 at e4 hm4 hn4 hT4 ⊢
        obtain ⟨xm, em, _, dxm⟩ := at_ (2 * i + 1) _ (toD_mk hp)
        obtain ⟨xp, ep, _, dxp⟩ := at_ (2 * i + 2) _ (by have := toD_pc (z := z) (l := l) (k := i + 1) hi; rw [pcS_next hp] at this; exact this)
        obtain ⟨rfl, okp⟩ := str_val dxp
        have hpok := oki.pl p (by rw [edrop]; simp)
        rw [edrop] at eq toti oki
        have em' : atI rv (2 * (i : Int) + 1) = some xm := by rw [← em]; congr 1
        have ep' : atI rv (2 * (i : Int) + 2) = some (.str p.2) := by rw [← ep]; congr 1
        have lmv : ms.length ≤ 120 := by omega
        refine ⟨Tp, _, rfl, SqT.of hT4, rfl, _, _, rfl, _, _, rfl, rfl, _, rfl, _, rfl, ?_⟩
        cases hg : g i with
        | false =>
          refine iteT ?_
          refine ⟨_, rfl, .inl ⟨rfl, _, SqL.of hm4⟩, tyS, _, rfl, _, nb, ns, rfl, rfl, .inl (SqL.of hn4), tot_sum (z := z) toti, m, ms, _, rfl, rfl, hm4, lt_200 (by omega), ?_⟩
          have e5 : Ex H (upd H4 m (.lst (ms ++ [V.str (Txt.join "" ns)]))) := e4.mut mH
          have hm5 : upd H4 m (.lst (ms ++ [V.str (Txt.join "" ns)])) m = some (.lst (ms ++ [V.str (Txt.join "" ns)])) := upd_same
          generalize upd H4 m (.lst (ms ++ [V.str (Txt.join "" ns)])) = H5 at e5 hm5 ⊢
          refine ⟨_, rfl, .inl ⟨rfl, _, SqL.of hm5⟩, _, rfl, _, rfl, _, _, rfl, rfl, .inl ⟨by decide, by decide⟩, _, _, rfl, rfl, a, rv, _, _, rfl, rfl, SqL.of ((eG.tr e5) _ _ ha), em', m, _, _, rfl, rfl, hm5, lt_200 (by simp; omega), ?_⟩
          have e6 : Ex H (upd H5 m (.lst (ms ++ [V.str (Txt.join "" ns)] ++ [xm]))) := e5.mut mH
          have hm6 : upd H5 m (.lst (ms ++ [V.str (Txt.join "" ns)] ++ [xm])) m = some (.lst (ms ++ [V.str (Txt.join "" ns)] ++ [xm])) := upd_same
          generalize upd H5 m (.lst (ms ++ [V.str (Txt.join "" ns)] ++ [xm])) = H6 at e6 hm6 ⊢
          refine ⟨(by show 0 ≤ sizeLine; decide), fun nb2 hnb2 => ?_⟩
          have e7 : Ex H (upd H6 nb2 (.lst [])) := e6.tr (Ex.new hnb2)
          have nm2 : m ≠ nb2 := ne_of_none hm6 hnb2
          have fH2 : H nb2 = none := e6.free hnb2
          have hm7 := (upd_ne (o := .lst []) nm2).trans hm6
          have hn7 : upd H6 nb2 (.lst []) nb2 = some (.lst []) := upd_same
          generalize upd H6 nb2 (.lst []) = H7 at e7 hm7 hn7 ⊢
          refine ⟨_, rfl, .inl ⟨rfl, _, SqL.of hn7⟩, _, rfl, _, rfl, _, _, rfl, rfl, .inl ⟨by decide, by decide⟩, _, _, rfl, rfl, a, rv, _, _, rfl, rfl, SqL.of ((eG.tr e7) _ _ ha), ep', nb2, _, _, rfl, rfl, hn7, lt_200 (by simp), ?_⟩
          refine ⟨nb2, _, _, ms ++ [V.str (Txt.join "" ns)] ++ [xm], es ++ [.str (Txt.join "" ns)] ++ [mkD p.1], [p.2], rfl, e7.mut fH2, fH2, nm2, (upd_ne nm2).trans hm7, upd_same, (dm.app (.cons (.str _ (pieceB_ok oki.pz (by have := @tot_z (Txt.join "" ns) (p :: l.drop (i + 1)); omega))) .nil)).app (.cons dxm .nil), by simp; omega, by simp, ?_, ?_, ?_, ?_⟩
          · intro y hy
            have : y = p.2 := by simpa using hy
            rw [this]; exact hpok.2
          · rw [join_single]; exact ⟨hpok.2, fun q hq => oki.pl q (by simp [hq])⟩
          · rw [join_single]
            have := toti
            unfold tot at this ⊢
            rw [List.map_cons, List.sum_cons] at this
            omega
          · rw [join_single, eq]
            rw [mrg_no hg]
            simp [toD, tlD]
        | true =>
          refine iteF ?_
          refine ⟨_, rfl, .inl ⟨rfl, _, SqL.of hn4⟩, _, rfl, _, rfl, _, _, rfl, rfl, .inl ⟨by decide, by decide⟩, _, _, rfl, rfl, a, rv, _, _, rfl, rfl, SqL.of ((eG.tr e4) _ _ ha), ep', nb, _, _, rfl, rfl, hn4, lt_200 (by simp; omega), ?_⟩
          refine ⟨nb, _, _, ms, es, ns ++ [p.2], rfl, e4.mut fH, fH, fm, (upd_ne fm).trans hm4, by rw [upd_same]; simp, dm, by omega, by simp; omega, ?_, ?_, ?_, ?_⟩
          · intro y hy
            rcases List.mem_append.mp hy with hy | hy
            · exact okn y hy
            · have : y = p.2 := by simpa using hy
              rw [this]; exact hpok.2
          · rw [join_snoc]; exact ⟨piece_app oki.pz hpok.2, fun q hq => oki.pl q (by simp [hq])⟩
          · rw [join_snoc]
            have := toti
            unfold tot at this ⊢
            rw [List.map_cons, List.sum_cons] at this
            rw [app_len]
            omega
          · rw [join_snoc, eq]
            rw [mrg_yes hg]
      · rintro σ H3 ⟨nb, y1, y2, ms, es, ns, rfl, e3, fH, fm, hm3, hn3, dm, lm, ln, okn, oki, toti, eq⟩
        rw [kl] at lm ln toti oki eq
        rw [List.drop_length] at toti oki eq
        refine ⟨_, rfl, .inl ⟨rfl, _, SqL.of hm3⟩, tyS, _, rfl, _, nb, ns, rfl, rfl, .inl (SqL.of hn3), tot_sum (z := z) toti, m, ms, _, rfl, rfl, hm3, lt_200 (by omega), ?_⟩
        refine ⟨_, rfl, ?_⟩
        refine q m _ _ (e3.mut mH) mH upd_same ?_
        rw [eq]
        exact dm.app (.cons (.str _ (pieceB_ok oki.pz (by have := @tot_z (Txt.join "" ns) []; omega))) .nil)
    · obtain ⟨a, rv, rfl, ha, hd, hrl⟩ : ∃ (a : Addr) (vs : List V), v = .ref a ∧ G a = some (.tup vs) ∧ DVs O G vs (toD z l) ∧ vs.length ≤ 100000 := by
        cases hv with
        | tup ha hd hl => exact ⟨_, _, rfl, ha, hd, hl⟩
      have rlen : rv.length = 2 * l.length + 1 := by rw [hd.length, toD_len]
      have at_ : ∀ (k : Nat) (d : D), (toD z l)[k]? = some d → ∃ x, atI rv (k : Int) = some x ∧ rv[k]? = some x ∧ DV O G x d := by
        intro k d hk
        have h1 : k < rv.length := by
          have := (List.getElem?_eq_some_iff.mp hk).1
          rw [hd.length]; exact this
        have e : rv[k]? = some rv[k] := List.getElem?_eq_getElem h1
        obtain ⟨d', hd', hx⟩ := hd.get e
        rw [hk] at hd'
        cases hd'
        refine ⟨_, ?_, e, hx⟩
        unfold atI ixN
        rw [if_pos (by omega), if_pos (by omega)]
        simp [e]
      refine ⟨_, (pss_cons (ps_set (i := 2) sc_merged.nd rfl (.inl rfl) (pe_lst pa_nil))
    (pss_cons (ps_set (i := 3) sc_merged.nd rfl (.inl rfl) (pe_lst (pa_cons (pe_ix ix_tup (pv 0) pe_int (fun _ _ => rfl)) pa_nil)))
    (pss_cons (ps_for PassesOwn.never rfl (pi_enum (by rfl) T.z_enumerate (pa_cons (pv 1) pa_nil)) (pg_tup (by rfl) (pgs_cons (pg_name (i := 4) sc_merged.nd rfl (.inl rfl)) (pgs_cons (pg_name (i := 5) sc_merged.nd rfl (.inl rfl)) pgs_nil)))
      (pss_cons (ps_if (pt_val (pv 5)) (pss_cons (ps_expr (pe_bm PySem.F.plainAttrs_list PySem.F.slot_list_append PySem.F.type_list_append mt_append (pv 2) (pa_cons (pe_bm PySem.F.plainAttrs_str PySem.F.slot_str_join PySem.F.type_str_join mt_join pe_str (pa_cons (pv 3) pa_nil)) pa_nil)))
    (pss_cons (ps_expr (pe_bm PySem.F.plainAttrs_list PySem.F.slot_list_append PySem.F.type_list_append mt_append (pv 2) (pa_cons (pe_ix ix_tup (pv 0) (pe_op op_add (pe_op op_mul pe_int (pv 4)) pe_int) (fun _ _ => rfl)) pa_nil)))
    (pss_one (ps_set (i := 3) sc_merged.nd rfl (.inl rfl) (pe_lst pa_nil))))) pss_nil)
    (pss_one (ps_expr (pe_bm PySem.F.plainAttrs_list PySem.F.slot_list_append PySem.F.type_list_append mt_append (pv 3) (pa_cons (pe_ix ix_tup (pv 0) (pe_op op_add (pe_op op_mul pe_int (pv 4)) pe_int) (fun _ _ => rfl)) pa_nil))))))
    (pss_cons (ps_expr (pe_bm PySem.F.plainAttrs_list PySem.F.slot_list_append PySem.F.type_list_append mt_append (pv 2) (pa_cons (pe_bm PySem.F.plainAttrs_str PySem.F.slot_str_join PySem.F.type_str_join mt_join pe_str (pa_cons (pv 3) pa_nil)) pa_nil)))
    (pss_one (ps_ret (pv 2))))))), ?_⟩
      refine ⟨(by show 0 ≤ sizeLine; decide), fun m hm => ?_⟩
      obtain ⟨x0, e0, _, hx0⟩ := at_ 0 _ rfl
      obtain ⟨rfl, _⟩ := str_val hx0
      have E1 : Ex H (upd H m (.lst [])) := Ex.new hm
      refine ⟨_, rfl, a, rv, 0, _, rfl, rfl, SqT.of ((eG.tr E1) _ _ ha), e0, (by show 1 ≤ sizeLine; decide), fun nb hnb => ?_⟩
      have nmn : m ≠ nb := ne_of_none upd_same hnb
      have E2 : Ex H (upd (upd H m (.lst [])) nb (.lst [.str z])) := E1.tr (Ex.new hnb)
      have hmm : upd (upd H m (.lst [])) nb (.lst [.str z]) m = some (.lst []) := (upd_ne nmn).trans upd_same
      have hnn : upd (upd H m (.lst [])) nb (.lst [.str z]) nb = some (.lst [V.str z]) := upd_same
      have nH : H nb = none := E1.free hnb
      have mH : H m = none := hm
      generalize upd (upd H m (.lst [])) nb (.lst [.str z]) = H2 at E2 hmm hnn ⊢
      clear hm hnb E1
      refine ⟨_, rfl, b, _, rfl, SqL.of (E2 _ _ hb), ?_⟩
      refine for_enumL (K := K) (a := b) (xs := (List.range l.length).map fun k => V.bl (!g k)) (fun i σ H' => ∃ (nb : Addr) (y1 y2 : Option V) (ms : List V) (es : List D) (ns : List Str), σ = [some (.ref a), some (.ref b), some (.ref m), some (.ref nb), y1, y2] ∧ Ex H H' ∧
          H nb = none ∧ m ≠ nb ∧ H' m = some (.lst ms) ∧ H' nb = some (.lst (ns.map V.str)) ∧ DVs O G ms es ∧ ms.length ≤ 2 * i ∧ ns.length ≤ i + 1 ∧ (∀ y ∈ ns, pieceB y = true) ∧ OkR (Txt.join "" ns) (l.drop i) ∧
          tot (Txt.join "" ns) (l.drop i) ≤ 50000 ∧ toD (mrg g 0 z l).1 (mrg g 0 z l).2 = es ++ toD (mrg g i (Txt.join "" ns) (l.drop i)).1 (mrg g i (Txt.join "" ns) (l.drop i)).2)
        ⟨nb, none, none, [], [], [z], rfl, E2, nH, nmn, hmm, hnn, .nil, by simp, by simp, ?_, ?_, ?_, ?_⟩ (fun i σ H' _ ⟨_, _, _, _, _, _, _, e, _⟩ => SqL.of (e _ _ hb)) ?_ ?_
      · intro y hy
        have : y = z := by simpa using hy
        rw [this]; exact ok.pz
      · rw [join_single]; exact ok
      · rw [join_single]; exact ht
      · rw [join_single]; rfl
      · rintro i x σ H3 Tp hx ⟨nb, y1, y2, ms, es, ns, rfl, e3, fH, fm, hm3, hn3, dm, lm, ln, okn, oki, toti, eq⟩ hT
        obtain ⟨hi, rfl⟩ := range_get hx
        obtain ⟨p, hp⟩ : ∃ p, l[i]? = some p := ⟨_, List.getElem?_eq_getElem hi⟩
        have edrop := drop_get hp
        have ntm := ne_of_none hm3 hT
        have ntn := ne_of_none hn3 hT
        have e4 : Ex H (upd H3 Tp (.tup [.int (i : Nat), .bl (!g i)])) := e3.tr (Ex.new hT)
        have hm4 := (upd_ne (o := .tup [V.int (i : Nat), .bl (!g i)]) ntm).trans hm3
        have hn4 := (upd_ne (o := .tup [V.int (i : Nat), .bl (!g i)]) ntn).trans hn3
        have hT4 : upd H3 Tp (.tup [.int (i : Nat), .bl (!g i)]) Tp = some (.tup [.int (i : Nat), .bl (!g i)]) := upd_same
        generalize upd H3 Tp (.tup [.int (i : Nat), .bl (!g i)]) = H4 at e4 hm4 hn4 hT4 ⊢
        obtain ⟨xm, em, _, dxm⟩ := at_ (2 * i + 1) _ (toD_mk hp)
        obtain ⟨xp, ep, _, dxp⟩ := at_ (2 * i + 2) _ (by have := toD_pc (z := z) (l := l) (k := i + 1) hi; rw [pcS_next hp] at this; exact this)
        obtain ⟨rfl, okp⟩ := str_val dxp
        have hpok := oki.pl p (by rw [edrop]; simp)
        rw [edrop] at eq toti oki
        have em' : atI rv (2 * (i : Int) + 1) = some xm := by rw [← em]; congr 1
        have ep' : atI rv (2 * (i : Int) + 2) = some (.str p.2) := by rw [← ep]; congr 1
        have lmv : ms.length ≤ 120 := by omega
        refine ⟨Tp, _, rfl, SqT.of hT4, rfl, _, _, rfl, _, _, rfl, rfl, _, rfl, _, rfl, ?_⟩
        cases hg : g i with
        | false =>
          refine iteT ?_
          refine ⟨_, rfl, .inl ⟨rfl, _, SqL.of hm4⟩, tyS, _, rfl, _, nb, ns, rfl, rfl, .inl (SqL.of hn4), tot_sum (z := z) toti, m, ms, _, rfl, rfl, hm4, lt_200 (by omega), ?_⟩
          have e5 : Ex H (upd H4 m (.lst (ms ++ [V.str (Txt.join "" ns)]))) := e4.mut mH
          have hm5 : upd H4 m (.lst (ms ++ [V.str (Txt.join "" ns)])) m = some (.lst (ms ++ [V.str (Txt.join "" ns)])) := upd_same
          generalize upd H4 m (.lst (ms ++ [V.str (Txt.join "" ns)])) = H5 at e5 hm5 ⊢
          refine ⟨_, rfl, .inl ⟨rfl, _, SqL.of hm5⟩, _, rfl, _, rfl, _, _, rfl, rfl, .inl ⟨by decide, by decide⟩, _, _, rfl, rfl, a, rv, _, _, rfl, rfl, SqT.of ((eG.tr e5) _ _ ha), em', m, _, _, rfl, rfl, hm5, lt_200 (by simp; omega), ?_⟩
          have e6 : Ex H (upd H5 m (.lst (ms ++ [V.str (Txt.join "" ns)] ++ [xm]))) := e5.mut mH
          have hm6 : upd H5 m (.lst (ms ++ [V.str (Txt.join "" ns)] ++ [xm])) m = some (.lst (ms ++ [V.str (Txt.join "" ns)] ++ [xm])) := upd_same
          generalize upd H5 m (.lst (ms ++ [V.str (Txt.join "" ns)] ++ [xm])) = H6 at e6 hm6 ⊢
          refine ⟨(by show 0 ≤ sizeLine; decide), fun nb2 hnb2 => ?_⟩
          have e7 : Ex H (upd H6 nb2 (.lst [])) := e6.tr (Ex.new hnb2)
          have nm2 : m ≠ nb2 := ne_of_none hm6 hnb2
          have fH2 : H nb2 = none := e6.free hnb2
          have hm7 := (upd_ne (o := .lst []) nm2).trans hm6
          have hn7 : upd H6 nb2 (.lst []) nb2 = some (.lst []) := upd_same
          generalize upd H6 nb2 (.lst []) = H7 at e7 hm7 hn7 ⊢
          refine ⟨_, rfl, .inl ⟨rfl, _, SqL.of hn7⟩, _, rfl, _, rfl, _, _, rfl, rfl, .inl ⟨by decide, by decide⟩, _, _, rfl, rfl, a, rv, _, _, rfl, rfl, SqT.of ((eG.tr e7) _ _ ha), ep', nb2, _, _, rfl, rfl, hn7, lt_200 (by simp), ?_⟩
          refine ⟨nb2, _, _, ms ++ [V.str (Txt.join "" ns)] ++ [xm], es ++ [.str (Txt.join "" ns)] ++ [mkD p.1], [p.2], rfl, e7.mut fH2, fH2, nm2, (upd_ne nm2).trans hm7, upd_same, (dm.app (.cons (.str _ (pieceB_ok oki.pz (by have := @tot_z (Txt.join "" ns) (p :: l.drop (i + 1)); omega))) .nil)).app (.cons dxm .nil), by simp; omega, by simp, ?_, ?_, ?_, ?_⟩
          · intro y hy
            have : y = p.2 := by simpa using hy
            rw [this]; exact hpok.2
          · rw [join_single]; exact ⟨hpok.2, fun q hq => oki.pl q (by simp [hq])⟩
          · rw [join_single]
            have := toti
            unfold tot at this ⊢
            rw [List.map_cons, List.sum_cons] at this
            omega
          · rw [join_single, eq]
            rw [mrg_no hg]
            simp [toD, tlD]
        | true =>
          refine iteF ?_
          refine ⟨_, rfl, .inl ⟨rfl, _, SqL.of hn4⟩, _, rfl, _, rfl, _, _, rfl, rfl, .inl ⟨by decide, by decide⟩, _, _, rfl, rfl, a, rv, _, _, rfl, rfl, SqT.of ((eG.tr e4) _ _ ha), ep', nb, _, _, rfl, rfl, hn4, lt_200 (by simp; omega), ?_⟩
          refine ⟨nb, _, _, ms, es, ns ++ [p.2], rfl, e4.mut fH, fH, fm, (upd_ne fm).trans hm4, by rw [upd_same]; simp, dm, by omega, by simp; omega, ?_, ?_, ?_, ?_⟩
          · intro y hy
            rcases List.mem_append.mp hy with hy | hy
            · exact okn y hy
            · have : y = p.2 := by simpa using hy
              rw [this]; exact hpok.2
          · rw [join_snoc]; exact ⟨piece_app oki.pz hpok.2, fun q hq => oki.pl q (by simp [hq])⟩
          · rw [join_snoc]
            have := toti
            unfold tot at this ⊢
            rw [List.map_cons, List.sum_cons] at this
            rw [app_len]
            omega
          · rw [join_snoc, eq]
            rw [mrg_yes hg]
      · rintro σ H3 ⟨nb, y1, y2, ms, es, ns, rfl, e3, fH, fm, hm3, hn3, dm, lm, ln, okn, oki, toti, eq⟩
        rw [kl] at lm ln toti oki eq
        rw [List.drop_length] at toti oki eq
        refine ⟨_, rfl, .inl ⟨rfl, _, SqL.of hm3⟩, tyS, _, rfl, _, nb, ns, rfl, rfl, .inl (SqL.of hn3), tot_sum (z := z) toti, m, ms, _, rfl, rfl, hm3, lt_200 (by omega), ?_⟩
        refine ⟨_, rfl, ?_⟩
        refine q m _ _ (e3.mut mH) mH upd_same ?_
        rw [eq]
        exact dm.app (.cons (.str _ (pieceB_ok oki.pz (by have := @tot_z (Txt.join "" ns) []; omega))) .nil)

theorem ints_dvs {O : HO → Prop} {H : Hp} (ks : List Nat) : DVs O H (ks.map fun (k : Nat) => V.int (k : Int)) (ks.map fun (k : Nat) => D.int (k : Int)) := by
  induction ks with
  | nil => exact .nil
  | cons k r ih => exact .cons (.int _) ih
theorem set_range {n j : Nat} {f f' : Nat → V} (h : ∀ k, k < n → k ≠ j → f k = f' k) (hj : f' j = v) (hn : j < n) : ((List.range n).map f).set j v = (List.range n).map f' := by
  apply List.ext_getElem
  · simp
  · intro i h1 h2
    have hi : i < n := by simpa using h2
    rw [List.getElem_set]
    by_cases e : j = i
    · subst e
      rw [if_pos rfl]
      simp [hj]
    · rw [if_neg e]
      simp
      exact h i hi (fun q => e q.symm)
/-- the promise of without_markers, all being well -/
def spWithout (O : HO → Prop) : Sp := fun vs H Q _ => ∃ (v : V) (b : Addr) (z : Str) (l : List (Mk × Str)) (ks : List Nat) (G : Hp), vs = [v, .ref b] ∧ Ex G H ∧ (DV O G v (.lst (toD z l)) ∨ DV O G v (.tup (toD z l))) ∧ OkR z l ∧ tot z l ≤ 50000 ∧ l.length ≤ 60 ∧
  (H b = some (.lst (ks.map fun (k : Nat) => V.int (k : Int))) ∨ H b = some (.tup (ks.map fun (k : Nat) => V.int (k : Int)))) ∧ ks.length ≤ 4000 ∧ (∀ k ∈ ks, k < l.length) ∧
  NewL O G H (toD (mrg (fun k => decide (k ∈ ks)) 0 z l).1 (mrg (fun k => decide (k ∈ ks)) 0 z l).2) Q
theorem ok_without {f : Addr} {fd : FuncData} (F : Fun K "without_markers" "without_markers" s_without_markers f fd) (T : Txt K mg) {f_check_row : Addr} {fd_check_row : FuncData} (D_check_row : Df K mg "check_row" f_check_row fd_check_row ["row"])
    {f_merged : Addr} {fd_merged : FuncData} (D_merged : Df K mg "_merged" f_merged fd_merged ["row", "kept"])
    {f_are_marker_numbers : Addr} {fd_are_marker_numbers : FuncData} (D_are_marker_numbers : Df K mg "_are_marker_numbers" f_are_marker_numbers fd_are_marker_numbers ["value", "total"])
    (G_check_row : FnOk P w K mg base CX0 6 f_check_row fd_check_row ["row"] (spPass O)) (G_are_marker_numbers : FnOk P w K mg base CX0 2 f_are_marker_numbers fd_are_marker_numbers ["value", "total"] (spNumsB O)) (G_merged : FnOk P w K mg base CX0 1 f_merged fd_merged ["row", "kept"] (spMerged O)) :
    FnOk P w K mg base CX0 7 f fd ["row", "numbers"] (spWithout O) := by
  refine F.ok sc_without_markers (fun vs H Q E h => ?_) (fun cdv A outer s H vs Q E hr h => ?_)
  · obtain ⟨v, b, z, l, ks, G, rfl, _⟩ := h
    rfl
  · obtain ⟨v, b, z, l, ks, G, rfl, eG, hv, ok, ht, hl, hb, hks, hk, q⟩ := h
    have hvH : DV O H v (.lst (toD z l)) ∨ DV O H v (.tup (toD z l)) := hv.imp (·.ex eG) (·.ex eG)
    obtain ⟨d, hd, hrow⟩ : ∃ d, DV O H v d ∧ isRow d = true := by
      rcases hvH with h | h
      · exact ⟨_, h, ok.row.1⟩
      · exact ⟨_, h, ok.row.2⟩
    obtain ⟨a, rv, rfl, hsq, hrl⟩ : ∃ (a : Addr) (rv : List V), v = .ref a ∧ (∀ H', Ex H H' → SqL K H' a rv ∨ SqT K H' a rv) ∧ rv.length = 2 * l.length + 1 := by
      rcases hvH with h | h
      · cases h with
        | lst ha hd _ => exact ⟨_, _, rfl, fun H' e => .inl (SqL.of (e _ _ ha)), by rw [hd.length, toD_len]⟩
      · cases h with
        | tup ha hd _ => exact ⟨_, _, rfl, fun H' e => .inr (SqT.of (e _ _ ha)), by rw [hd.length, toD_len]⟩
    have half : ((rv.length : Nat) : Int) / 2 = ((l.length : Nat) : Int) := by
      rw [hrl]
      omega
    have nb : ∀ {ds : List D}, ds = (ks.map fun (k : Nat) => D.int (k : Int)) → ds.all (fun x => isInt x 0 ((l.length : Nat) - 1)) = true := by
      rintro _ rfl
      rw [List.all_eq_true]
      intro x hx
      obtain ⟨k, hk', rfl⟩ := List.mem_map.mp hx
      have := hk k hk'
      show (decide ((0 : Int) ≤ (k : Int)) && decide ((k : Int) ≤ ((l.length : Nat) : Int) - 1)) = true
      rw [decide_eq_true (by omega), decide_eq_true (by omega)]
      rfl
    rcases hb with hb | hb
    · have dvb : ∀ H', Ex H H' → DV O H' (.ref b) (.lst (ks.map fun (k : Nat) => D.int (k : Int))) := fun H' e => .lst (e _ _ hb) (ints_dvs ks) (by simp; omega)
      refine ⟨_, (pss_cons (ps_expr (pe_call G_check_row (hr.mono (by first | decide | omega)) rfl D_check_row.g D_check_row.k D_check_row.b .nil pass0 (pa_cons (pv 0) pa_nil)))
    (pss_cons (ps_if (pt_not (pt_val (pe_call G_are_marker_numbers (hr.mono (by first | decide | omega)) rfl D_are_marker_numbers.g D_are_marker_numbers.k D_are_marker_numbers.b .nil pass0 (pa_cons (pv 1) (pa_cons (pe_op op_fdiv (pe_callB call_len_seq (by rfl) T.z_len (by decide +kernel) (pa_cons (pv 0) pa_nil)) pe_int) pa_nil))))) (pss_one ps_never) pss_nil)
    (pss_cons (ps_set (i := 2) sc_without_markers.nd rfl (.inl rfl) (pe_op op_rep (pe_lst (pa_cons pe_bl pa_nil)) (pe_op op_fdiv (pe_callB call_len_seq (by rfl) T.z_len (by decide +kernel) (pa_cons (pv 0) pa_nil)) pe_int)))
    (pss_cons (ps_for PassesOwn.never rfl (pi_list (pv 1)) (pg_name (i := 3) sc_without_markers.nd rfl (.inl rfl))
      (pss_one (ps_asg pe_bl (pg_sub (pv 2) (pv 3) set_list))))
    (pss_one (ps_ret (pe_call G_merged (hr.mono (by first | decide | omega)) rfl D_merged.g D_merged.k D_merged.b .nil pass0 (pa_cons (pv 0) (pa_cons (pv 2) pa_nil))))))))), ?_⟩
      refine ⟨_, rfl, _, d, rfl, hd, hrow, fun H1 e1 => ?_⟩
      refine ⟨_, rfl, _, rfl, a, rv, rfl, hsq _ e1, _, _, rfl, rfl, ⟨by decide, by decide⟩, _, _, _, rfl, dvb _ e1, fun H2 e2 => ⟨_, rfl, ?_⟩⟩
      rw [half]
      rw [show numsB (.lst (ks.map fun (k : Nat) => D.int (k : Int))) ((l.length : Nat) : Int) = true from nb rfl]
      refine iteF ?_
      have e12 := e1.tr e2
      refine ⟨(by show 1 ≤ sizeLine; decide), fun p0 hp0 => ?_⟩
      have e3 : Ex H (upd H2 p0 (.lst [.bl true])) := e12.tr (Ex.new hp0)
      have h3 : upd H2 p0 (.lst [.bl true]) p0 = some (.lst [V.bl true]) := upd_same
      generalize upd H2 p0 (.lst [.bl true]) = H3 at e3 h3 ⊢
      refine ⟨_, rfl, a, rv, rfl, hsq _ e3, _, _, rfl, rfl, ⟨by decide, by decide⟩, ?_⟩
      dsimp only
      rw [half]
      refine ⟨p0, _, _, rfl, rfl, h3, by omega, by omega, by simp; exact le_100 (by omega), fun kp hkp => ?_⟩
      have fk : H kp = none := e3.free hkp
      have e4 : Ex H (upd H3 kp (.lst (List.replicate ((l.length : Nat) : Int).toNat [V.bl true]).flatten)) := e3.tr (Ex.new hkp)
      have h4 : upd H3 kp (.lst (List.replicate ((l.length : Nat) : Int).toNat [V.bl true]).flatten) kp = some (.lst ((List.range l.length).map fun k => V.bl (!decide (k ∈ ks.take 0)))) := by
        rw [upd_same]
        congr 2
        rw [Int.toNat_natCast, List.flatten_replicate_singleton]
        apply List.ext_getElem
        · simp
        · intro i h1 h2
          simp
      generalize upd H3 kp (.lst (List.replicate ((l.length : Nat) : Int).toNat [V.bl true]).flatten) = H4 at e4 h4 ⊢
      refine ⟨_, rfl, b, rfl, ⟨_, SqL.of (e4 _ _ hb)⟩, ?_⟩
      refine for_list (K := K) (a := b) (xs := ks.map fun (k : Nat) => V.int (k : Int)) (fun i σ H' => ∃ y1, σ = [some (.ref a), some (.ref b), some (.ref kp), y1] ∧ Ex H H' ∧ H' kp = some (.lst ((List.range l.length).map fun k => V.bl (!decide (k ∈ ks.take i)))))
        ⟨none, rfl, e4, h4⟩ (fun i σ H' _ ⟨_, _, e, _⟩ => SqL.of (e _ _ hb)) ?_ ?_
      · rintro i x σ H5 hx ⟨y1, rfl, e5, h5⟩
        rw [List.getElem?_map] at hx
        obtain ⟨k, hki, rfl⟩ := Option.map_eq_some_iff.mp hx
        have kn := hk k (List.mem_of_getElem? hki)
        refine ⟨_, rfl, _, rfl, kp, _, _, k, rfl, rfl, h5, ?_, ⟨_, rfl, e5.mut fk, ?_⟩⟩
        · unfold ixN
          rw [if_pos (by omega), if_pos (by simp; omega), Int.toNat_natCast]
        · rw [upd_same, set_range (f' := fun j => V.bl (!decide (j ∈ ks.take (i + 1))))]
          · intro j _ hj
            rw [List.take_add_one, hki]
            simp [hj]
          · rw [List.take_add_one, hki]
            simp
          · exact kn
      · rintro σ H5 ⟨y1, rfl, e5, h5⟩
        rw [show (ks.map fun (k : Nat) => V.int (k : Int)).length = ks.length by simp, List.take_length] at h5
        refine ⟨_, rfl, _, rfl, .ref a, kp, z, l, _, G, rfl, eG.tr e5, hv, ok, ht, hl, h5, fun p vs H6 e6 hp h6 hdv => ?_⟩
        exact q p vs H6 (e5.tr e6) (e5.free hp) h6 hdv
    · have dvb : ∀ H', Ex H H' → DV O H' (.ref b) (.tup (ks.map fun (k : Nat) => D.int (k : Int))) := fun H' e => .tup (e _ _ hb) (ints_dvs ks) (by simp; omega)
      refine ⟨_, (pss_cons (ps_expr (pe_call G_check_row (hr.mono (by first | decide | omega)) rfl D_check_row.g D_check_row.k D_check_row.b .nil pass0 (pa_cons (pv 0) pa_nil)))
    (pss_cons (ps_if (pt_not (pt_val (pe_call G_are_marker_numbers (hr.mono (by first | decide | omega)) rfl D_are_marker_numbers.g D_are_marker_numbers.k D_are_marker_numbers.b .nil pass0 (pa_cons (pv 1) (pa_cons (pe_op op_fdiv (pe_callB call_len_seq (by rfl) T.z_len (by decide +kernel) (pa_cons (pv 0) pa_nil)) pe_int) pa_nil))))) (pss_one ps_never) pss_nil)
    (pss_cons (ps_set (i := 2) sc_without_markers.nd rfl (.inl rfl) (pe_op op_rep (pe_lst (pa_cons pe_bl pa_nil)) (pe_op op_fdiv (pe_callB call_len_seq (by rfl) T.z_len (by decide +kernel) (pa_cons (pv 0) pa_nil)) pe_int)))
    (pss_cons (ps_for PassesOwn.never rfl (pi_tup (pv 1)) (pg_name (i := 3) sc_without_markers.nd rfl (.inl rfl))
      (pss_one (ps_asg pe_bl (pg_sub (pv 2) (pv 3) set_list))))
    (pss_one (ps_ret (pe_call G_merged (hr.mono (by first | decide | omega)) rfl D_merged.g D_merged.k D_merged.b .nil pass0 (pa_cons (pv 0) (pa_cons (pv 2) pa_nil))))))))), ?_⟩
      refine ⟨_, rfl, _, d, rfl, hd, hrow, fun H1 e1 => ?_⟩
      refine ⟨_, rfl, _, rfl, a, rv, rfl, hsq _ e1, _, _, rfl, rfl, ⟨by decide, by decide⟩, _, _, _, rfl, dvb _ e1, fun H2 e2 => ⟨_, rfl, ?_⟩⟩
      rw [half]
      rw [show numsB (.tup (ks.map fun (k : Nat) => D.int (k : Int))) ((l.length : Nat) : Int) = true from nb rfl]
      refine iteF ?_
      have e12 := e1.tr e2
      refine ⟨(by show 1 ≤ sizeLine; decide), fun p0 hp0 => ?_⟩
      have e3 : Ex H (upd H2 p0 (.lst [.bl true])) := e12.tr (Ex.new hp0)
      have h3 : upd H2 p0 (.lst [.bl true]) p0 = some (.lst [V.bl true]) := upd_same
      generalize upd H2 p0 (.lst [.bl true]) = H3 at e3 h3 ⊢
      refine ⟨_, rfl, a, rv, rfl, hsq _ e3, _, _, rfl, rfl, ⟨by decide, by decide⟩, ?_⟩
      dsimp only
      rw [half]
      refine ⟨p0, _, _, rfl, rfl, h3, by omega, by omega, by simp; exact le_100 (by omega), fun kp hkp => ?_⟩
      have fk : H kp = none := e3.free hkp
      have e4 : Ex H (upd H3 kp (.lst (List.replicate ((l.length : Nat) : Int).toNat [V.bl true]).flatten)) := e3.tr (Ex.new hkp)
      have h4 : upd H3 kp (.lst (List.replicate ((l.length : Nat) : Int).toNat [V.bl true]).flatten) kp = some (.lst ((List.range l.length).map fun k => V.bl (!decide (k ∈ ks.take 0)))) := by
        rw [upd_same]
        congr 2
        rw [Int.toNat_natCast, List.flatten_replicate_singleton]
        apply List.ext_getElem
        · simp
        · intro i h1 h2
          simp
      generalize upd H3 kp (.lst (List.replicate ((l.length : Nat) : Int).toNat [V.bl true]).flatten) = H4 at e4 h4 ⊢
      refine ⟨_, rfl, b, rfl, ⟨_, SqT.of (e4 _ _ hb)⟩, ?_⟩
      refine for_tup (K := K) (a := b) (xs := ks.map fun (k : Nat) => V.int (k : Int)) (fun i σ H' => ∃ y1, σ = [some (.ref a), some (.ref b), some (.ref kp), y1] ∧ Ex H H' ∧ H' kp = some (.lst ((List.range l.length).map fun k => V.bl (!decide (k ∈ ks.take i)))))
        ⟨none, rfl, e4, h4⟩ (fun i σ H' _ ⟨_, _, e, _⟩ => SqT.of (e _ _ hb)) ?_ ?_
      · rintro i x σ H5 hx ⟨y1, rfl, e5, h5⟩
        rw [List.getElem?_map] at hx
        obtain ⟨k, hki, rfl⟩ := Option.map_eq_some_iff.mp hx
        have kn := hk k (List.mem_of_getElem? hki)
        refine ⟨_, rfl, _, rfl, kp, _, _, k, rfl, rfl, h5, ?_, ⟨_, rfl, e5.mut fk, ?_⟩⟩
        · unfold ixN
          rw [if_pos (by omega), if_pos (by simp; omega), Int.toNat_natCast]
        · rw [upd_same, set_range (f' := fun j => V.bl (!decide (j ∈ ks.take (i + 1))))]
          · intro j _ hj
            rw [List.take_add_one, hki]
            simp [hj]
          · rw [List.take_add_one, hki]
            simp
          · exact kn
      · rintro σ H5 ⟨y1, rfl, e5, h5⟩
        rw [show (ks.map fun (k : Nat) => V.int (k : Int)).length = ks.length by simp, List.take_length] at h5
        refine ⟨_, rfl, _, rfl, .ref a, kp, z, l, _, G, rfl, eG.tr e5, hv, ok, ht, hl, h5, fun p vs H6 e6 hp h6 hdv => ?_⟩
        exact q p vs H6 (e5.tr e6) (e5.free hp) h6 hdv
end

/-- the promise of places_by_name -/
def spPlaces (O : HO → Prop) : Sp := fun vs H Q _ => ∃ (v : V) (z : Str) (l : List (Mk × Str)), vs = [v] ∧ (DV O H v (.lst (toD z l)) ∨ DV O H v (.tup (toD z l))) ∧ l.length ≤ 60 ∧
  ∀ (p : Addr) (kvs : List (Key × V)) (H' : Hp), Ex H H' → H p = none → H' p = some (.dK kvs) → Plc H p H' (nmOf l) (nmOf l).length kvs → Q (.ref p) H'
theorem dvs_odds {O : HO → Prop} {H : Hp} : ∀ {vs : List V} {ds : List D}, DVs O H vs ds → DVs O H (odds vs) (odds ds)
  | [], [], .nil => .nil
  | [_], [_], .cons _ .nil => .nil
  | _ :: _ :: _, _ :: _ :: _, .cons _ (.cons h r) => .cons h (dvs_odds r)
/-- the promise of clean_row -/
def spClean (O : HO → Prop) : Sp := fun vs H Q _ => ∃ (v : V) (z : Str) (l : List (Mk × Str)) (G : Hp), vs = [v] ∧ Ex G H ∧ (DV O G v (.lst (toD z l)) ∨ DV O G v (.tup (toD z l))) ∧ OkR z l ∧ tot z l ≤ 50000 ∧ l.length ≤ 60 ∧
  NewL O G H (toD (mrg (cleanG (nmOf l)) 0 z l).1 (mrg (cleanG (nmOf l)) 0 z l).2) Q
section
variable {P : Program} {w : World} {K : PySem.W.Frag} {mg : Str → Option Value} {base : Heap} {O : HO → Prop}
theorem ok_places {f : Addr} {fd : FuncData} (F : Fun K "places_by_name" "places_by_name" s_places_by_name f fd) (T : Txt K mg) :
    FnOk P w K mg base CX0 1 f fd ["row"] (spPlaces O) := by
  refine F.ok sc_places_by_name (fun vs H Q E h => ?_) (fun cdv A outer s H vs Q E hr h => ?_)
  · obtain ⟨v, z, l, rfl, _⟩ := h
    rfl
  · obtain ⟨v, z, l, rfl, hv, hl, q⟩ := h
    rcases hv with hv | hv
    · cases hv with
      | @lst a rv _ ha hd hrl =>
      have rlen : rv.length = 2 * l.length + 1 := by rw [hd.length, toD_len]
      have hl1 : 1 ≤ rv.length := by omega
      have hdo : DVs O H (odds rv) (l.map fun p => mkD p.1) := by
        have := dvs_odds hd
        rwa [show Gd.odds (toD z l) = l.map fun p => mkD p.1 from odds_toD l _] at this
      refine ⟨_, (pss_cons (ps_set (i := 1) sc_places_by_name.nd rfl (.inl rfl) pe_dnewK)
    (pss_cons (ps_for PassesOwn.never rfl (pi_enum (by rfl) T.z_enumerate (pa_cons (pe_sliceS ss_twoL (pv 0) (po_some pe_int) po_none (po_some pe_int)) pa_nil)) (pg_tup (by rfl) (pgs_cons (pg_name (i := 2) sc_places_by_name.nd rfl (.inl rfl)) (pgs_cons (pg_tup (by rfl) (pgs_cons (pg_name (i := 3) sc_places_by_name.nd rfl (.inl rfl)) (pgs_cons (pg_name (i := 4) sc_places_by_name.nd rfl (.inl rfl)) pgs_nil))) pgs_nil)))
      (pss_one (ps_expr (pe_bm PySem.F.plainAttrs_list PySem.F.slot_list_append PySem.F.type_list_append mt_append (pe_dsetd (pv 1) (pv 3) (pe_lst pa_nil) ⟨by rfl, by rfl, by rfl, by rfl⟩) (pa_cons (pv 2) pa_nil)))))
    (pss_one (ps_ret (pv 1))))), ?_⟩
      refine fun p hp => ?_
      have e1 : Ex H (upd H p (.dK [])) := Ex.new hp
      have h1 : upd H p (.dK []) p = some (.dK []) := upd_same
      generalize upd H p (.dK []) = H1 at e1 h1 ⊢
      refine ⟨_, rfl, _, rfl, _, rfl, a, rv, rfl, SqL.of (e1 _ _ ha), rfl, rfl, .inr ⟨rfl, fun o ho => ?_⟩⟩
      have e2 : Ex H (upd H1 o (.lst (odds rv))) := e1.tr (Ex.new ho)
      have npo : p ≠ o := ne_of_none h1 ho
      have h2 : upd H1 o (.lst (odds rv)) p = some (.dK []) := (upd_ne npo).trans h1
      have ho2 : upd H1 o (.lst (odds rv)) o = some (.lst (odds rv)) := upd_same
      have fo : H o = none := e1.free ho
      generalize upd H1 o (.lst (odds rv)) = H2 at e2 h2 ho2 ⊢
      clear ho h1 e1
      have ol : (odds rv).length = l.length := by rw [hdo.length, List.length_map]
      refine ⟨o, odds rv, rfl, SqL.of ho2, ?_⟩
      refine for_enumL (K := K) (a := o) (xs := odds rv) (fun i σ H' => ∃ y2 y3 y4 kvs, σ = [some (.ref a), some (.ref p), y2, y3, y4] ∧ Ex H H' ∧ H' o = some (.lst (odds rv)) ∧ H' p = some (.dK kvs) ∧ Plc H p H' (nmOf l) i kvs ∧ ∀ k, (k, V.ref o) ∉ kvs)
        ⟨none, none, none, [], rfl, e2, ho2, h2, .nil, fun _ h => by simp at h⟩ (fun i σ H' _ ⟨_, _, _, _, _, _, e, _⟩ => SqL.of e) ?_ ?_
      · rintro i x σ H3 Tp hx ⟨y2, y3, y4, kvs, rfl, e3, ho3, h3, P3, no⟩ hT
        obtain ⟨d, hdi, hxd⟩ := hdo.get hx
        rw [List.getElem?_map] at hdi
        obtain ⟨pr, hpr, rfl⟩ := Option.map_eq_some_iff.mp hdi
        have hnm : (nmOf l)[i]? = some pr.1.1 := by rw [nmOf, List.getElem?_map, hpr]; rfl
        have hi : i < l.length := (List.getElem?_eq_some_iff.mp hpr).1
        obtain ⟨t, rfl, ht⟩ := mark_val hxd
        have ntp := ne_of_none h3 hT
        have nto := ne_of_none ho3 hT
        have e4 : Ex H (upd H3 Tp (.tup [.int (i : Nat), .ref t])) := e3.tr (Ex.new hT)
        have P4 : Plc H p (upd H3 Tp (.tup [.int (i : Nat), .ref t])) (nmOf l) i kvs := P3.kp (Kp.of (Ex.new hT))
        have h4 := (upd_ne (o := .tup [V.int (i : Nat), .ref t]) ntp).trans h3
        have ho4 := (upd_ne (o := .tup [V.int (i : Nat), .ref t]) nto).trans ho3
        have hT4 : upd H3 Tp (.tup [.int (i : Nat), .ref t]) Tp = some (.tup [.int (i : Nat), .ref t]) := upd_same
        generalize upd H3 Tp (.tup [.int (i : Nat), .ref t]) = H4 at e4 P4 h4 ho4 hT4 ⊢
        refine ⟨Tp, _, rfl, SqT.of hT4, rfl, _, _, rfl, _, _, rfl, ⟨t, _, rfl, SqT.of (e4 _ _ ht), rfl, _, _, rfl, _, _, rfl, rfl, rfl, ?_⟩⟩
        refine ⟨_, rfl, p, rfl, .inl ⟨kvs, .inl h4⟩, _, rfl, (by show 0 ≤ sizeLine; decide), fun zz hzz => ?_⟩
        have npz := ne_of_none h4 hzz
        have noz := ne_of_none ho4 hzz
        have e5 : Ex H (upd H4 zz (.lst [])) := e4.tr (Ex.new hzz)
        have P5 : Plc H p (upd H4 zz (.lst [])) (nmOf l) i kvs := P4.kp (Kp.of (Ex.new hzz))
        have h5 := (upd_ne (o := .lst []) npz).trans h4
        have ho5 := (upd_ne (o := .lst []) noz).trans ho4
        have hz5 : upd H4 zz (.lst []) zz = some (.lst []) := upd_same
        have fz : H zz = none := e4.free hzz
        refine ⟨kvs, Sum.inr pr.1.1, h5, rfl, Nat.lt_of_le_of_lt (show kvs.length ≤ 100 by have := P4.len; omega) (by decide), fun v hv' => ?_, fun hv' => ?_⟩
        · have hm := valV_mem hv'
          obtain ⟨x, b, ex, rfl, gb, nbp, hb5, hx5⟩ := P5.at_ _ _ hm
          cases ex
          generalize upd H4 zz (.lst []) = H5 at e5 P5 h5 ho5 hb5 ⊢
          have nbo : b ≠ o := fun e => no _ (e ▸ hm)
          have lb : (intsV (occ (nmOf l) pr.1.1 i)).length ≤ 200 := by
            have := occ_len (nmOf l) pr.1.1 i
            have h3 := List.count_le_length (a := pr.1.1) (l := (nmOf l).take i)
            rw [List.length_take] at h3
            simp only [intsV, List.length_map]
            omega
          refine ⟨.inl ⟨rfl, _, SqL.of hb5⟩, _, rfl, b, _, _, rfl, rfl, hb5, lt_200 lb, ?_⟩
          exact ⟨_, _, _, kvs, rfl, e5.mut gb, (upd_ne nbo.symm).trans ho5, (upd_ne nbp.symm).trans h5, P5.old hm hnm, no⟩
        · rw [put_new hv']
          have e6 : Ex H (upd (upd H4 zz (.lst [])) p (.dK (kvs ++ [(Sum.inr pr.1.1, .ref zz)]))) := e5.mut hp
          have hz6 := (upd_ne (o := .dK (kvs ++ [(Sum.inr pr.1.1, V.ref zz)])) npz.symm).trans hz5
          have npo' : o ≠ p := npo.symm
          have ho6 := (upd_ne (o := .dK (kvs ++ [(Sum.inr pr.1.1, V.ref zz)])) npo').trans ho5
          have h6 : upd (upd H4 zz (.lst [])) p (.dK (kvs ++ [(Sum.inr pr.1.1, .ref zz)])) p = some (.dK (kvs ++ [(Sum.inr pr.1.1, .ref zz)])) := upd_same
          have k6 : Kp p H4 (upd (upd H4 zz (.lst [])) p (.dK (kvs ++ [(Sum.inr pr.1.1, .ref zz)]))) := (Kp.of (Ex.new hzz)).tr Kp.at
          have P6 := P4.new hnm hv' fz npz.symm hzz _ k6
          generalize upd (upd H4 zz (.lst [])) p (.dK (kvs ++ [(Sum.inr pr.1.1, .ref zz)])) = H6 at e6 hz6 ho6 h6 P6 ⊢
          refine ⟨.inl ⟨rfl, _, SqL.of hz6⟩, _, rfl, zz, _, _, rfl, rfl, hz6, lt_200 (by simp), ?_⟩
          refine ⟨_, _, _, kvs ++ [(Sum.inr pr.1.1, .ref zz)], rfl, e6.mut fz, (upd_ne noz).trans ho6, (upd_ne npz).trans h6, by rw [List.nil_append]; exact P6, fun k hk => ?_⟩
          rcases List.mem_append.mp hk with hk | hk
          · exact no k hk
          · have e : (k, V.ref o) = (Sum.inr pr.1.1, V.ref zz) := by simpa using hk
            cases e
            exact noz rfl
      · rintro σ H3 ⟨y2, y3, y4, kvs, rfl, e3, ho3, h3, P3, no⟩
        rw [ol] at P3
        exact ⟨_, rfl, q p kvs H3 e3 hp h3 (by rw [show (nmOf l).length = l.length by simp [nmOf]]; exact P3)⟩
    · cases hv with
      | @tup a rv _ ha hd hrl =>
      have rlen : rv.length = 2 * l.length + 1 := by rw [hd.length, toD_len]
      have hl1 : 1 ≤ rv.length := by omega
      have hdo : DVs O H (odds rv) (l.map fun p => mkD p.1) := by
        have := dvs_odds hd
        rwa [show Gd.odds (toD z l) = l.map fun p => mkD p.1 from odds_toD l _] at this
      refine ⟨_, (pss_cons (ps_set (i := 1) sc_places_by_name.nd rfl (.inl rfl) pe_dnewK)
    (pss_cons (ps_for PassesOwn.never rfl (pi_enumT (by rfl) T.z_enumerate (pa_cons (pe_sliceS ss_twoT (pv 0) (po_some pe_int) po_none (po_some pe_int)) pa_nil)) (pg_tup (by rfl) (pgs_cons (pg_name (i := 2) sc_places_by_name.nd rfl (.inl rfl)) (pgs_cons (pg_tup (by rfl) (pgs_cons (pg_name (i := 3) sc_places_by_name.nd rfl (.inl rfl)) (pgs_cons (pg_name (i := 4) sc_places_by_name.nd rfl (.inl rfl)) pgs_nil))) pgs_nil)))
      (pss_one (ps_expr (pe_bm PySem.F.plainAttrs_list PySem.F.slot_list_append PySem.F.type_list_append mt_append (pe_dsetd (pv 1) (pv 3) (pe_lst pa_nil) ⟨by rfl, by rfl, by rfl, by rfl⟩) (pa_cons (pv 2) pa_nil)))))
    (pss_one (ps_ret (pv 1))))), ?_⟩
      refine fun p hp => ?_
      have e1 : Ex H (upd H p (.dK [])) := Ex.new hp
      have h1 : upd H p (.dK []) p = some (.dK []) := upd_same
      generalize upd H p (.dK []) = H1 at e1 h1 ⊢
      refine ⟨_, rfl, _, rfl, _, rfl, a, rv, rfl, SqT.of (e1 _ _ ha), hl1, rfl, rfl, .inr ⟨rfl, fun o ho => ?_⟩⟩
      have e2 : Ex H (upd H1 o (.tup (odds rv))) := e1.tr (Ex.new ho)
      have npo : p ≠ o := ne_of_none h1 ho
      have h2 : upd H1 o (.tup (odds rv)) p = some (.dK []) := (upd_ne npo).trans h1
      have ho2 : upd H1 o (.tup (odds rv)) o = some (.tup (odds rv)) := upd_same
      have fo : H o = none := e1.free ho
      generalize upd H1 o (.tup (odds rv)) = H2 at e2 h2 ho2 ⊢
      clear ho h1 e1
      have ol : (odds rv).length = l.length := by rw [hdo.length, List.length_map]
      refine ⟨o, odds rv, rfl, SqT.of ho2, ?_⟩
      refine for_enumT (K := K) (a := o) (xs := odds rv) (fun i σ H' => ∃ y2 y3 y4 kvs, σ = [some (.ref a), some (.ref p), y2, y3, y4] ∧ Ex H H' ∧ H' o = some (.tup (odds rv)) ∧ H' p = some (.dK kvs) ∧ Plc H p H' (nmOf l) i kvs ∧ ∀ k, (k, V.ref o) ∉ kvs)
        ⟨none, none, none, [], rfl, e2, ho2, h2, .nil, fun _ h => by simp at h⟩ (fun i σ H' _ ⟨_, _, _, _, _, _, e, _⟩ => SqT.of e) ?_ ?_
      · rintro i x σ H3 Tp hx ⟨y2, y3, y4, kvs, rfl, e3, ho3, h3, P3, no⟩ hT
        obtain ⟨d, hdi, hxd⟩ := hdo.get hx
        rw [List.getElem?_map] at hdi
        obtain ⟨pr, hpr, rfl⟩ := Option.map_eq_some_iff.mp hdi
        have hnm : (nmOf l)[i]? = some pr.1.1 := by rw [nmOf, List.getElem?_map, hpr]; rfl
        have hi : i < l.length := (List.getElem?_eq_some_iff.mp hpr).1
        obtain ⟨t, rfl, ht⟩ := mark_val hxd
        have ntp := ne_of_none h3 hT
        have nto := ne_of_none ho3 hT
        have e4 : Ex H (upd H3 Tp (.tup [.int (i : Nat), .ref t])) := e3.tr (Ex.new hT)
        have P4 : Plc H p (upd H3 Tp (.tup [.int (i : Nat), .ref t])) (nmOf l) i kvs := P3.kp (Kp.of (Ex.new hT))
        have h4 := (upd_ne (o := .tup [V.int (i : Nat), .ref t]) ntp).trans h3
        have ho4 := (upd_ne (o := .tup [V.int (i : Nat), .ref t]) nto).trans ho3
        have hT4 : upd H3 Tp (.tup [.int (i : Nat), .ref t]) Tp = some (.tup [.int (i : Nat), .ref t]) := upd_same
        generalize upd H3 Tp (.tup [.int (i : Nat), .ref t]) = H4 at e4 P4 h4 ho4 hT4 ⊢
        refine ⟨Tp, _, rfl, SqT.of hT4, rfl, _, _, rfl, _, _, rfl, ⟨t, _, rfl, SqT.of (e4 _ _ ht), rfl, _, _, rfl, _, _, rfl, rfl, rfl, ?_⟩⟩
        refine ⟨_, rfl, p, rfl, .inl ⟨kvs, .inl h4⟩, _, rfl, (by show 0 ≤ sizeLine; decide), fun zz hzz => ?_⟩
        have npz := ne_of_none h4 hzz
        have noz := ne_of_none ho4 hzz
        have e5 : Ex H (upd H4 zz (.lst [])) := e4.tr (Ex.new hzz)
        have P5 : Plc H p (upd H4 zz (.lst [])) (nmOf l) i kvs := P4.kp (Kp.of (Ex.new hzz))
        have h5 := (upd_ne (o := .lst []) npz).trans h4
        have ho5 := (upd_ne (o := .lst []) noz).trans ho4
        have hz5 : upd H4 zz (.lst []) zz = some (.lst []) := upd_same
        have fz : H zz = none := e4.free hzz
        refine ⟨kvs, Sum.inr pr.1.1, h5, rfl, Nat.lt_of_le_of_lt (show kvs.length ≤ 100 by have := P4.len; omega) (by decide), fun v hv' => ?_, fun hv' => ?_⟩
        · have hm := valV_mem hv'
          obtain ⟨x, b, ex, rfl, gb, nbp, hb5, hx5⟩ := P5.at_ _ _ hm
          cases ex
          generalize upd H4 zz (.lst []) = H5 at e5 P5 h5 ho5 hb5 ⊢
          have nbo : b ≠ o := fun e => no _ (e ▸ hm)
          have lb : (intsV (occ (nmOf l) pr.1.1 i)).length ≤ 200 := by
            have := occ_len (nmOf l) pr.1.1 i
            have h3 := List.count_le_length (a := pr.1.1) (l := (nmOf l).take i)
            rw [List.length_take] at h3
            simp only [intsV, List.length_map]
            omega
          refine ⟨.inl ⟨rfl, _, SqL.of hb5⟩, _, rfl, b, _, _, rfl, rfl, hb5, lt_200 lb, ?_⟩
          exact ⟨_, _, _, kvs, rfl, e5.mut gb, (upd_ne nbo.symm).trans ho5, (upd_ne nbp.symm).trans h5, P5.old hm hnm, no⟩
        · rw [put_new hv']
          have e6 : Ex H (upd (upd H4 zz (.lst [])) p (.dK (kvs ++ [(Sum.inr pr.1.1, .ref zz)]))) := e5.mut hp
          have hz6 := (upd_ne (o := .dK (kvs ++ [(Sum.inr pr.1.1, V.ref zz)])) npz.symm).trans hz5
          have npo' : o ≠ p := npo.symm
          have ho6 := (upd_ne (o := .dK (kvs ++ [(Sum.inr pr.1.1, V.ref zz)])) npo').trans ho5
          have h6 : upd (upd H4 zz (.lst [])) p (.dK (kvs ++ [(Sum.inr pr.1.1, .ref zz)])) p = some (.dK (kvs ++ [(Sum.inr pr.1.1, .ref zz)])) := upd_same
          have k6 : Kp p H4 (upd (upd H4 zz (.lst [])) p (.dK (kvs ++ [(Sum.inr pr.1.1, .ref zz)]))) := (Kp.of (Ex.new hzz)).tr Kp.at
          have P6 := P4.new hnm hv' fz npz.symm hzz _ k6
          generalize upd (upd H4 zz (.lst [])) p (.dK (kvs ++ [(Sum.inr pr.1.1, .ref zz)])) = H6 at e6 hz6 ho6 h6 P6 ⊢
          refine ⟨.inl ⟨rfl, _, SqL.of hz6⟩, _, rfl, zz, _, _, rfl, rfl, hz6, lt_200 (by simp), ?_⟩
          refine ⟨_, _, _, kvs ++ [(Sum.inr pr.1.1, .ref zz)], rfl, e6.mut fz, (upd_ne noz).trans ho6, (upd_ne npz).trans h6, by rw [List.nil_append]; exact P6, fun k hk => ?_⟩
          rcases List.mem_append.mp hk with hk | hk
          · exact no k hk
          · have e : (k, V.ref o) = (Sum.inr pr.1.1, V.ref zz) := by simpa using hk
            cases e
            exact noz rfl
      · rintro σ H3 ⟨y2, y3, y4, kvs, rfl, e3, ho3, h3, P3, no⟩
        rw [ol] at P3
        exact ⟨_, rfl, q p kvs H3 e3 hp h3 (by rw [show (nmOf l).length = l.length by simp [nmOf]]; exact P3)⟩
theorem ok_clean {f : Addr} {fd : FuncData} (F : Fun K "clean_row" "clean_row" s_clean_row f fd) (T : Txt K mg) {f_check_row : Addr} {fd_check_row : FuncData} (D_check_row : Df K mg "check_row" f_check_row fd_check_row ["row"])
    {f_places_by_name : Addr} {fd_places_by_name : FuncData} (D_places_by_name : Df K mg "places_by_name" f_places_by_name fd_places_by_name ["row"])
    {f_without_markers : Addr} {fd_without_markers : FuncData} (D_without_markers : Df K mg "without_markers" f_without_markers fd_without_markers ["row", "numbers"])
    (G_check_row : FnOk P w K mg base CX0 6 f_check_row fd_check_row ["row"] (spPass O)) (G_places_by_name : FnOk P w K mg base CX0 1 f_places_by_name fd_places_by_name ["row"] (spPlaces O)) (G_without_markers : FnOk P w K mg base CX0 7 f_without_markers fd_without_markers ["row", "numbers"] (spWithout O)) :
    FnOk P w K mg base CX0 8 f fd ["row"] (spClean O) := by
  refine F.ok sc_clean_row (fun vs H Q E h => ?_) (fun cdv A outer s H vs Q E hr h => ?_)
  · obtain ⟨v, z, l, G, rfl, _⟩ := h
    rfl
  · obtain ⟨v, z, l, G, rfl, eG, hv, ok, ht, hl, q⟩ := h
    have hu : (A.deeper (envOfC "clean_row" (defScope s_clean_row) s.heap.objs.size f cdv)).units + 1 < cLine := by
      have := hr.un
      omega
    have hvH : ∀ H', Ex H H' → DV O H' v (.lst (toD z l)) ∨ DV O H' v (.tup (toD z l)) := fun H' e => hv.imp (·.ex (eG.tr e)) (·.ex (eG.tr e))
    obtain ⟨d, hd, hrow⟩ : ∃ d, DV O H v d ∧ isRow d = true := by
      rcases hvH H (Ex.rfl' H) with h | h
      · exact ⟨_, h, ok.row.1⟩
      · exact ⟨_, h, ok.row.2⟩
    refine ⟨_, (pss_cons (ps_expr (pe_call G_check_row (hr.mono (by first | decide | omega)) rfl D_check_row.g D_check_row.k D_check_row.b .nil pass0 (pa_cons (pv 0) pa_nil)))
    (pss_cons (ps_set (i := 1) sc_clean_row.nd rfl (.inl rfl) (pe_call G_places_by_name (hr.mono (by first | decide | omega)) rfl D_places_by_name.g D_places_by_name.k D_places_by_name.b .nil pass0 (pa_cons (pv 0) pa_nil)))
    (pss_cons (ps_set (i := 2) sc_clean_row.nd rfl (.inl rfl) (pe_lst pa_nil))
    (pss_cons (ps_lock (ps_for PassesOwn.never rfl (pi_keys (pv 1)) (pg_name (i := 3) sc_clean_row.nd rfl (.inl rfl))
      (pss_cons (ps_set (i := 4) sc_clean_row.nd rfl (.inl rfl) (pe_dget hu (pv 1) (pv 3) (fun _ _ => rfl)))
    (pss_one (ps_expr (pe_bm PySem.F.plainAttrs_list PySem.F.slot_list_extend PySem.F.type_list_extend mt_extend (pv 2) (pa_cons (pe_ifExp (pt_cmpR op_eq (pe_callB call_len_seq (by rfl) T.z_len (by decide +kernel) (pa_cons (pv 4) pa_nil)) pe_int (nomark _)) (pv 4) (pe_slice sl_list (pv 4) (po_some pe_int) po_none)) pa_nil)))))))
    (pss_one (ps_ret (pe_call G_without_markers (hr.mono (by first | decide | omega)) rfl D_without_markers.g D_without_markers.k D_without_markers.b .nil pass0 (pa_cons (pv 0) (pa_cons (pv 2) pa_nil))))))))), ?_⟩
    refine ⟨_, rfl, v, d, rfl, hd, hrow, fun H1 e1 => ?_⟩
    refine ⟨_, rfl, v, z, l, rfl, hvH _ e1, hl, fun p kvs H2 e2 hp h2 P2 => ?_⟩
    have nl : (nmOf l).length = l.length := by simp [nmOf]
    refine ⟨(by show 0 ≤ sizeLine; decide), fun u hu2 => ?_⟩
    have npu := ne_of_none h2 hu2
    have P3 := P2.kp (Kp.of (Ex.new (o := .lst []) hu2))
    have e3 : Ex H1 (upd H2 u (.lst [])) := e2.tr (Ex.new hu2)
    have h3 := (upd_ne (o := .lst []) npu).trans h2
    have hu3 : upd H2 u (.lst []) u = some (.lst []) := upd_same
    have fu : H1 u = none := e2.free hu2
    have nau : ∀ k, (k, V.ref u) ∉ kvs := fun k hk => by
      obtain ⟨_, b, _, e, _, _, hb, _⟩ := P2.at_ _ _ hk
      cases e
      rw [hu2] at hb
      cases hb
    generalize upd H2 u (.lst []) = H3 at P3 e3 h3 hu3 ⊢
    clear P2 e2 h2 hu2
    refine ⟨p, _, h3, trivial, fun od => ?_⟩
    have e4 : Ex H1 (upd H3 p (.frz od (.dK kvs))) := e3.mut hp
    have P4 : Plc H1 p (upd H3 p (.frz od (.dK kvs))) (nmOf l) (nmOf l).length kvs := P3.kp Kp.at
    have h4 : upd H3 p (.frz od (.dK kvs)) p = some (.frz od (.dK kvs)) := upd_same
    have hu4 := (upd_ne (o := .frz od (.dK kvs)) npu.symm).trans hu3
    generalize upd H3 p (.frz od (.dK kvs)) = H4 at e4 P4 h4 hu4 ⊢
    refine ⟨_, rfl, p, od, rfl, .inl ⟨kvs, h4, ?_⟩⟩
    refine for_it (walk_keys (o := od) (d := p) (kvs := kvs)) (fun i σ H' => ∃ y3 y4, σ = [some v, some (.ref p), some (.ref u), y3, y4] ∧ Ex H1 H' ∧ H' p = some (.frz od (.dK kvs)) ∧ Plc H1 p H' (nmOf l) (nmOf l).length kvs ∧ H' u = some (.lst (intsV (sels (nmOf l) kvs i))))
      ⟨none, none, rfl, e4, h4, P4, hu4⟩ (fun i σ H' _ ⟨_, _, _, _, h, _⟩ => h) ?_ ?_
    · rintro i x σ H5o H5 hi ⟨y3, y4, rfl, e5, h5, P5, hu5⟩ ⟨rfl, k, w', hk, rfl⟩
      have hm := List.mem_of_getElem? hk
      obtain ⟨x, b, rfl, rfl, gb, nbp, hb, hx⟩ := P5.at_ _ _ hm
      have nbu : b ≠ u := fun e => nau _ (e ▸ hm)
      have kl := P5.len
      have ol : (occ (nmOf l) x (nmOf l).length).length ≤ 60 := by
        rw [occ_len]
        have := List.count_le_length (a := x) (l := (nmOf l).take (nmOf l).length)
        rw [List.take_length] at this ⊢
        omega
      have sl := sels_len (nm := nmOf l) (kvs := kvs) i
      have slen : (sels (nmOf l) kvs i).length ≤ 4000 := by
        have : i * (nmOf l).length ≤ 60 * 60 := Nat.mul_le_mul (by omega) (by omega)
        omega
      refine ⟨_, rfl, _, rfl, p, _, rfl, .inl ⟨kvs, Sum.inr x, .inr ⟨od, h5⟩, rfl, (valV_in P5.nd hm).symm⟩, ?_⟩
      refine ⟨_, rfl, .inl ⟨rfl, _, SqL.of hu5⟩, _, rfl, b, _, rfl, .inl (SqL.of hb), rfl, _, rfl, ?_⟩
      have il : (intsV (occ (nmOf l) x (nmOf l).length)).length = (occ (nmOf l) x (nmOf l).length).length := by simp [intsV]
      have hnx : sels (nmOf l) kvs (i + 1) = sels (nmOf l) kvs i ++ sel (occ (nmOf l) x (nmOf l).length) := sels_next hk
      rw [show decide (V.int ((intsV (occ (nmOf l) x (nmOf l).length)).length : Nat) = V.int 1) = decide ((occ (nmOf l) x (nmOf l).length).length = 1) by rw [il, decI]; exact decide_eq_decide.mpr (by omega)]
      refine ite2 (fun h1 => ?_) (fun h1 => ?_)
      · have h1' := of_decide_eq_true h1
        refine ⟨_, rfl, u, b, _, _, rfl, rfl, hu5, hb, ?_, ⟨_, _, rfl, e5.mut fu, (upd_ne npu).trans h5, ?_, ?_⟩⟩
        · rw [il]
          simp only [intsV, List.length_map]
          exact le_line (by omega)
        · refine ⟨P5.nd, fun k v hkv => ?_, P5.all, P5.inj, P5.len⟩
          obtain ⟨y, c, ey, rfl, h6, h7, h8, h9⟩ := P5.at_ k v hkv
          exact ⟨y, c, ey, rfl, h6, h7, (upd_ne fun e => nau _ (e ▸ hkv)).trans h8, h9⟩
        · rw [upd_same, hnx]
          unfold sel
          rw [if_pos h1']
          simp [intsV]
      · have h1' : ¬ (occ (nmOf l) x (nmOf l).length).length = 1 := fun e => h1 (decide_eq_true e)
        refine ⟨_, rfl, _, rfl, b, _, rfl, SqL.of hb, fun c hc => ?_⟩
        have cut : cutV (intsV (occ (nmOf l) x (nmOf l).length)) (some 2) none = intsV ((occ (nmOf l) x (nmOf l).length).drop 2) := by
          rw [show (2 : Int) = ((2 : Nat) : Int) from rfl, cutV_from]
          simp [intsV]
        rw [cut]
        have e6 : Ex H1 (upd H5 c (.lst (intsV ((occ (nmOf l) x (nmOf l).length).drop 2)))) := e5.tr (Ex.new hc)
        have P6 := P5.kp (Kp.of (Ex.new (o := .lst (intsV ((occ (nmOf l) x (nmOf l).length).drop 2))) hc))
        have npc := ne_of_none h5 hc
        have nuc := ne_of_none hu5 hc
        have h6 := (upd_ne (o := .lst (intsV ((occ (nmOf l) x (nmOf l).length).drop 2))) npc).trans h5
        have hu6 := (upd_ne (o := .lst (intsV ((occ (nmOf l) x (nmOf l).length).drop 2))) nuc).trans hu5
        refine ⟨u, c, _, _, rfl, rfl, hu6, upd_same, ?_, ⟨_, _, rfl, e6.mut fu, (upd_ne npu).trans h6, ?_, ?_⟩⟩
        · simp only [intsV, List.length_map, List.length_drop]
          exact le_line (by omega)
        · refine ⟨P6.nd, fun k v hkv => ?_, P6.all, P6.inj, P6.len⟩
          obtain ⟨y, c, ey, rfl, h6, h7, h8, h9⟩ := P6.at_ k v hkv
          exact ⟨y, c, ey, rfl, h6, h7, (upd_ne fun e => nau _ (e ▸ hkv)).trans h8, h9⟩
        · rw [upd_same, hnx]
          unfold sel
          rw [if_neg h1']
          simp [intsV]
    · rintro σ H5 ⟨y3, y4, rfl, e5, h5, P5, hu5⟩
      refine ⟨h5, ?_⟩
      have kl := P5.len
      have sl := sels_len (nm := nmOf l) (kvs := kvs) kvs.length
      have slen : (sels (nmOf l) kvs kvs.length).length ≤ 4000 := by
        have : kvs.length * (nmOf l).length ≤ 60 * 60 := Nat.mul_le_mul (by omega) (by omega)
        omega
      have e6 : Ex H1 (upd H5 p (.dK kvs)) := e5.mut hp
      have hu6 := (upd_ne (o := .dK kvs) npu.symm).trans hu5
      generalize upd H5 p (.dK kvs) = H6 at e6 hu6 ⊢
      refine ⟨_, rfl, _, rfl, v, u, z, l, sels (nmOf l) kvs kvs.length, G, rfl, (eG.tr e1).tr e6, hv, ok, ht, hl, .inl hu6, slen, fun k hk => ?_, ?_⟩
      · have := ((P5.sels k).mp hk).1
        omega
      · rw [mrg_congr (g' := cleanG (nmOf l)) l 0 z]
        · exact fun p' vs H7 e7 hp' h7 dv => q p' vs H7 ((e1.tr e6).tr e7) ((e1.tr e6).free hp') h7 dv
        · intro k _ hk
          by_cases hc : cleanG (nmOf l) k = true
          · rw [hc]
            exact decide_eq_true ((P5.sels k).mpr ⟨by omega, hc⟩)
          · rw [Bool.eq_false_iff.mpr hc]
            exact decide_eq_false fun h => hc ((P5.sels k).mp h).2
end

/-- the promise of _law_left -/
def spLeft (O : HO → Prop) : Sp := fun vs H Q _ => ∃ (v : V) (b : Addr) (z : Str) (l : List (Mk × Str)) (ks : List Nat) (G : Hp), vs = [v, .ref b] ∧ Ex G H ∧ DV O G v (.lst (toD z l)) ∧ OkR z l ∧ tot z l ≤ 50000 ∧ l.length ≤ 60 ∧
  H b = some (.lst (intsV ks)) ∧
  NewL O G H (toD (mrg (fun k => decide (k ∈ ks)) 0 z l).1 (mrg (fun k => decide (k ∈ ks)) 0 z l).2) Q
/-- the row with markers from k on taken out -/
def leftAt (g : Nat → Bool) (z : Str) (l : List (Mk × Str)) (k : Nat) : List D := (toD z l).take (2 * k) ++ toD (mrg g k (pcS z l k) (l.drop k)).1 (mrg g k (pcS z l k) (l.drop k)).2
theorem leftAt_top (g : Nat → Bool) (z : Str) (l : List (Mk × Str)) : leftAt g z l l.length = toD z l := by
  unfold leftAt
  rw [List.drop_length]
  show (toD z l).take (2 * l.length) ++ [D.str (pcS z l l.length)] = _
  have e := toD_pc (z := z) (l := l) (Nat.le_refl l.length)
  have h2 : (toD z l).take (2 * l.length + 1) = toD z l := List.take_of_length_le (by rw [toD_len]; exact Nat.le_refl _)
  rw [List.take_add_one, e] at h2
  exact h2
theorem leftAt_zero (g : Nat → Bool) (z : Str) (l : List (Mk × Str)) : leftAt g z l 0 = toD (mrg g 0 z l).1 (mrg g 0 z l).2 := by
  unfold leftAt
  simp [pcS]
theorem toD_take {z : Str} {l : List (Mk × Str)} {k : Nat} {p : Mk × Str} (h : l[k]? = some p) : (toD z l).take (2 * (k + 1)) = (toD z l).take (2 * k) ++ [.str (pcS z l k), mkD p.1] := by
  have hk := (List.getElem?_eq_some_iff.mp h).1
  rw [show 2 * (k + 1) = 2 * k + 1 + 1 by omega, List.take_add_one, List.take_add_one, toD_pc (by omega), toD_mk h]
  simp
theorem leftAt_keep {g : Nat → Bool} {z : Str} {l : List (Mk × Str)} {k : Nat} {p : Mk × Str} (h : l[k]? = some p) (hg : g k = false) : leftAt g z l k = leftAt g z l (k + 1) := by
  unfold leftAt
  rw [toD_take h, pcS_next h, drop_get h, mrg_no hg]
  simp [toD, tlD]
theorem leftAt_gone {g : Nat → Bool} {z : Str} {l : List (Mk × Str)} {k : Nat} {p : Mk × Str} (h : l[k]? = some p) (hg : g k = true) :
    ∃ (A : Str) (B : List (Mk × Str)), leftAt g z l (k + 1) = (toD z l).take (2 * k) ++ ([.str (pcS z l k), mkD p.1] ++ (.str A :: tlD B)) ∧ leftAt g z l k = (toD z l).take (2 * k) ++ (.str (pcS z l k ++ A) :: tlD B) ∧ tot A B ≤ tot z l ∧ OkR A B ∨ ¬ OkR z l := by
  by_cases o : OkR z l
  · refine ⟨(mrg g (k + 1) p.2 (l.drop (k + 1))).1, (mrg g (k + 1) p.2 (l.drop (k + 1))).2, .inl ⟨?_, ?_, ?_, ?_⟩⟩
    · unfold leftAt
      rw [toD_take h, pcS_next h, List.append_assoc]
      rfl
    · unfold leftAt
      rw [drop_get h, mrg_yes hg, mrg_acc]
      rfl
    · rw [mrg_tot]
      have e := drop_get h
      have : tot z l = z.length + ((l.take k).map (·.2.length)).sum + (p.2.length + ((l.drop (k + 1)).map (·.2.length)).sum) := by
        unfold tot
        conv => lhs; rw [← List.take_append_drop k l, e]
        rw [List.map_append, List.sum_append, List.map_cons, List.sum_cons]
        omega
      unfold tot at this ⊢
      omega
    · apply mrg_ok
      exact ⟨(o.pl p (List.mem_of_getElem? h)).2, fun q hq => o.pl q (List.mem_of_mem_drop hq)⟩
  · exact ⟨Str.empty, [], .inr o⟩
theorem leftAt_len {g : Nat → Bool} {z : Str} {l : List (Mk × Str)} {k : Nat} (hk : k ≤ l.length) : (leftAt g z l k).length ≤ 2 * l.length + 1 := by
  unfold leftAt
  have h1 := mrg_len g (l.drop k) k (pcS z l k)
  rw [List.length_drop] at h1
  rw [List.length_append, List.length_take, toD_len, toD_len]
  omega
theorem dvs_split {O : HO → Prop} {H : Hp} : ∀ {d1 d2 : List D} {vs : List V}, DVs O H vs (d1 ++ d2) → ∃ v1 v2, vs = v1 ++ v2 ∧ DVs O H v1 d1 ∧ DVs O H v2 d2
  | [], d2, vs, h => ⟨[], vs, rfl, .nil, h⟩
  | d :: r, d2, _, .cons (v := v) h t => by
    obtain ⟨v1, v2, rfl, h1, h2⟩ := dvs_split t
    exact ⟨v :: v1, v2, rfl, .cons h h1, h2⟩
theorem in_ints {k : Nat} {ks : List Nat} : inV (.int (k : Int)) (intsV ks) = decide (k ∈ ks) := by
  unfold inV intsV
  rw [List.any_map]
  induction ks with
  | nil => rfl
  | cons j r ih =>
    rw [List.any_cons, ih]
    have e : ((fun y => eqV y (V.int (k : Int))) ∘ fun (n : Nat) => V.int (n : Int)) j = decide (k = j) := by
      show decide _ = _
      by_cases h : k = j
      · subst h; simp
      · simp [h]
        omega
    rw [e]
    by_cases h : k = j
    · subst h; simp
    · simp [h]
theorem flat_ints {ks : List Nat} : (intsV ks).all flatV = true := by
  unfold intsV
  rw [List.all_map, List.all_eq_true]
  intro _ _
  rfl
section
variable {P : Program} {w : World} {K : PySem.W.Frag} {mg : Str → Option Value} {base : Heap} {O : HO → Prop}
theorem ok_left {f : Addr} {fd : FuncData} (F : Fun K "_law_left" "_law_left" s_L_left f fd) (T : Txt K mg) :
    FnOk P w K mg base CX0 1 f fd ["_law_row_here", "_law_gone"] (spLeft O) := by
  refine F.ok sc_L_left (fun vs H Q E h => ?_) (fun cdv A outer s H vs Q E hr h => ?_)
  · obtain ⟨v, b, z, l, ks, G, rfl, _⟩ := h
    rfl
  · obtain ⟨v, b, z, l, ks, G, rfl, eG, hv, ok, ht, hl, hb, q⟩ := h
    cases hv with
    | @lst a rv _ ha hd hrl =>
    have rlen : rv.length = 2 * l.length + 1 := by rw [hd.length, toD_len]
    refine ⟨_, (pss_cons (ps_set (i := 2) sc_L_left.nd rfl (.inl rfl) (pe_callTy call_list_of (by rfl) T.z_list (by decide +kernel) (pa_cons (pv 0) pa_nil)))
    (pss_cons (ps_for PassesOwn.never rfl (pi_range3 (by rfl) T.z_range (pa_cons (pe_op op_sub (pe_op op_fdiv (pe_callB call_len_seq (by rfl) T.z_len (by decide +kernel) (pa_cons (pv 0) pa_nil)) pe_int) pe_int) (pa_cons (pe_un un_neg pe_int) (pa_cons (pe_un un_neg pe_int) pa_nil)))) (pg_name (i := 3) sc_L_left.nd rfl (.inl rfl))
      (pss_one (ps_if (pt_cmpR op_in_seq (pv 3) (pv 1) (by rfl)) (pss_cons (ps_set (i := 4) sc_L_left.nd rfl (.inl rfl) (pe_op op_add (pe_op op_mul pe_int (pv 3)) pe_int))
    (pss_cons (ps_set (i := 5) sc_L_left.nd rfl (.inl rfl) (pe_op op_add_str (pe_ix ix_list (pv 2) (pe_op op_sub (pv 4) pe_int) (fun _ _ => rfl)) (pe_ix ix_list (pv 2) (pe_op op_add (pv 4) pe_int) (fun _ _ => rfl))))
    (pss_one (ps_set (i := 2) sc_L_left.nd rfl (.inl rfl) (pe_op op_cat (pe_op op_cat (pe_slice sl_list (pv 2) po_none (po_some (pe_op op_sub (pv 4) pe_int))) (pe_lst (pa_cons (pv 5) pa_nil))) (pe_slice sl_list (pv 2) (po_some (pe_op op_add (pv 4) pe_int)) po_none)))))) pss_nil)))
    (pss_one (ps_ret (pv 2))))), ?_⟩
    refine ⟨_, rfl, a, rv, rfl, .inl (SqL.of (eG _ _ ha)), fun u hu => ?_⟩
    have e1 : Ex H (upd H u (.lst rv)) := Ex.new hu
    have h1 : upd H u (.lst rv) u = some (.lst rv) := upd_same
    generalize upd H u (.lst rv) = H1 at e1 h1 ⊢
    refine ⟨_, rfl, a, rv, rfl, .inl (SqL.of (e1 _ _ (eG _ _ ha))), _, _, rfl, rfl, ⟨by decide, by decide⟩, _, _, rfl, rfl, ?_⟩
    have half : ((rv.length : Nat) : Int) / 2 = ((l.length : Nat) : Int) := by
      rw [rlen]
      omega
    refine ⟨_, rfl, _, rfl, _, _, _, l.length, rfl, ?_, ?_⟩
    · rw [half]
      have := RgC.neg (i := ((l.length : Nat) : Int) - 1) (j := -1) (by omega) (by omega) (by decide) (by decide)
      rwa [show (((l.length : Nat) : Int) - 1 - -1).toNat = l.length by omega] at this
    rw [half]
    refine for_it (walk_rangeC (lo := ((l.length : Nat) : Int) - 1) (c := -1) (n := l.length)) (fun i σ H' => ∃ y3 y4 y5 u vs, σ = [some (.ref a), some (.ref b), some (.ref u), y3, y4, y5] ∧ Ex H H' ∧ H u = none ∧ H' u = some (.lst vs) ∧ DVs O G vs (leftAt (fun k => decide (k ∈ ks)) z l (l.length - i)))
      ⟨none, none, none, u, rv, rfl, e1, hu, h1, by rw [Nat.sub_zero, leftAt_top]; exact hd⟩ (fun _ _ _ _ _ => trivial) ?_ ?_
    · rintro i x σ H2o H2 hi ⟨y3, y4, y5, u, vs, rfl, e2, fu, h2, dv⟩ ⟨rfl, hx⟩
      obtain ⟨k, hk⟩ : ∃ k, l.length - i = k + 1 := ⟨l.length - i - 1, by omega⟩
      have hk' : l.length - (i + 1) = k := by omega
      rw [hk] at dv
      rw [hk']
      have hx : x = V.int ((k : Nat) : Int) := by
        rw [hx]
        show V.int _ = _
        congr 1
        omega
      subst hx
      obtain ⟨p, hp⟩ : ∃ p, l[k]? = some p := ⟨_, List.getElem?_eq_getElem (show k < l.length by omega)⟩
      refine ⟨_, rfl, _, rfl, b, _, rfl, .inl (SqL.of (e2 _ _ hb)), rfl, flat_ints, _, rfl, ?_⟩
      rw [show (if false = true then !inV (V.int (k : Nat)) (intsV ks) else inV (V.int (k : Nat)) (intsV ks)) = decide (k ∈ ks) from in_ints]
      refine ite2 (fun hg => ?_) (fun hg => ?_)
      · rcases leftAt_gone (g := fun k => decide (k ∈ ks)) (z := z) hp hg with ⟨A, B, ⟨q1, q2, q3, q4⟩ | no⟩
        · rw [q1] at dv
          rw [q2]
          obtain ⟨v1, v2, rfl, d1, d2⟩ := dvs_split dv
          have l1 : v1.length = 2 * k := by
            rw [d1.length, List.length_take, toD_len]
            omega
          cases d2 with
          | @cons x1 _ w1 _ hx1 d2 =>
          cases d2 with
          | @cons x2 _ w2 _ hx2 d2 =>
          cases d2 with
          | @cons x3 _ w3 _ hx3 d2 =>
          obtain ⟨rfl, k1⟩ := str_val hx1
          obtain ⟨rfl, k3⟩ := str_val hx3
          have l2 : (v1 ++ (V.str (pcS z l k) :: x2 :: V.str A :: w3)).length ≤ 2 * l.length + 1 := by
            have h7 := dv.length
            have h8 := leftAt_len (g := fun k => decide (k ∈ ks)) (z := z) (l := l) (k := k + 1) (by omega)
            rw [q1] at h8
            rw [← h7] at h8
            exact h8
          have l3 : w3.length ≤ 2 * l.length := by
            simp at l2
            omega
          have at1 : atI (v1 ++ (V.str (pcS z l k) :: x2 :: V.str A :: w3)) (2 * (k : Int) + 1 - 1) = some (.str (pcS z l k)) := by
            unfold atI ixN
            rw [if_pos (by omega), if_pos (by simp; omega), show (2 * (k : Int) + 1 - 1).toNat = v1.length + 0 by omega]
            simp
          have at2 : atI (v1 ++ (V.str (pcS z l k) :: x2 :: V.str A :: w3)) (2 * (k : Int) + 1 + 1) = some (.str A) := by
            unfold atI ixN
            rw [if_pos (by omega), if_pos (by simp; omega), show (2 * (k : Int) + 1 + 1).toNat = v1.length + 2 by omega]
            simp
          have vl : (v1 ++ (V.str (pcS z l k) :: x2 :: V.str A :: w3)).length ≤ 130 := by
            omega
          have okA := @tot_z A B
          have okP : (pcS z l k).length ≤ 50000 := by
            have : (pcS z l k).length ≤ tot z l := by
              cases k with
              | zero => exact tot_z
              | succ j =>
                have e : l[j]? = some l[j] := List.getElem?_eq_getElem (show j < l.length by omega)
                rw [pcS_next e]
                exact tot_p (List.getElem_mem _)
            omega
          refine ⟨_, rfl, _, _, rfl, rfl, .inl ⟨by decide, by decide⟩, _, _, rfl, rfl, ?_⟩
          refine ⟨_, rfl, _, rfl, _, _, rfl, rfl, u, _, _, _, rfl, rfl, SqL.of h2, at1, _, rfl, _, rfl, _, _, rfl, rfl, u, _, _, _, rfl, rfl, SqL.of h2, at2, _, _, rfl, rfl, sub_sl (by omega) (by omega), ?_⟩
          generalize hvs : v1 ++ (V.str (pcS z l k) :: x2 :: V.str A :: w3) = vs at h2 vl at1 at2 dv
          refine ⟨_, rfl, _, rfl, _, _, rfl, rfl, _, rfl, u, _, rfl, SqL.of h2, fun p1 hp1 => ?_⟩
          have c1 : cutV vs none (some (2 * (k : Int) + 1 - 1)) = v1 := by
            rw [show 2 * (k : Int) + 1 - 1 = ((2 * k : Nat) : Int) by omega, cutV_to, ← hvs, ← l1, List.take_left]
          have c2 : cutV vs (some (2 * (k : Int) + 1 + 2)) none = w3 := by
            rw [show 2 * (k : Int) + 1 + 2 = ((2 * k + 3 : Nat) : Int) by omega, cutV_from, ← hvs, ← l1, ← List.drop_drop, List.drop_left]
            rfl
          rw [c1]
          have e3 : Ex H (upd H2 p1 (.lst v1)) := e2.tr (Ex.new hp1)
          have nu1 := ne_of_none h2 hp1
          have h3 := (upd_ne (o := .lst v1) nu1).trans h2
          have g1 : upd H2 p1 (.lst v1) p1 = some (.lst v1) := upd_same
          generalize upd H2 p1 (.lst v1) = H3 at e3 h3 g1 ⊢
          refine ⟨_, rfl, (by show 1 ≤ sizeLine; decide), fun p2 hp2 => ?_⟩
          have e4 : Ex H (upd H3 p2 (.lst [V.str (pcS z l k ++ A)])) := e3.tr (Ex.new hp2)
          have h4 := (upd_ne (o := .lst [V.str (pcS z l k ++ A)]) (ne_of_none h3 hp2)).trans h3
          have g2 := (upd_ne (o := .lst [V.str (pcS z l k ++ A)]) (ne_of_none g1 hp2)).trans g1
          have g3 : upd H3 p2 (.lst [V.str (pcS z l k ++ A)]) p2 = some (.lst [V.str (pcS z l k ++ A)]) := upd_same
          generalize upd H3 p2 (.lst [V.str (pcS z l k ++ A)]) = H4 at e4 h4 g2 g3 ⊢
          refine ⟨p1, p2, _, _, rfl, rfl, g2, g3, le_line (by simp; omega), fun p3 hp3 => ?_⟩
          have e5 : Ex H (upd H4 p3 (.lst (v1 ++ [V.str (pcS z l k ++ A)]))) := e4.tr (Ex.new hp3)
          have h5 := (upd_ne (o := .lst (v1 ++ [V.str (pcS z l k ++ A)])) (ne_of_none h4 hp3)).trans h4
          have g5 : upd H4 p3 (.lst (v1 ++ [V.str (pcS z l k ++ A)])) p3 = some (.lst (v1 ++ [V.str (pcS z l k ++ A)])) := upd_same
          generalize upd H4 p3 (.lst (v1 ++ [V.str (pcS z l k ++ A)])) = H5 at e5 h5 g5 ⊢
          refine ⟨_, rfl, _, rfl, _, _, rfl, rfl, _, rfl, u, _, rfl, SqL.of h5, fun p4 hp4 => ?_⟩
          rw [c2]
          have e6 : Ex H (upd H5 p4 (.lst w3)) := e5.tr (Ex.new hp4)
          have g6 := (upd_ne (o := .lst w3) (ne_of_none g5 hp4)).trans g5
          have g7 : upd H5 p4 (.lst w3) p4 = some (.lst w3) := upd_same
          generalize upd H5 p4 (.lst w3) = H6 at e6 g6 g7 ⊢
          refine ⟨p3, p4, _, _, rfl, rfl, g6, g7, le_line (by simp; omega), fun p5 hp5 => ?_⟩
          refine ⟨_, _, _, p5, _, rfl, e6.tr (Ex.new hp5), e6.free hp5, upd_same, ?_⟩
          rw [List.append_assoc]
          refine d1.app (.cons (.str _ (pieceB_ok (piece_app (pcS_ok ok (by omega)) q4.pz) (by rw [app_len]; omega))) d2)
        · exact absurd ok no
      · rw [leftAt_keep hp (by simpa using hg)]
        exact ⟨_, _, _, u, vs, rfl, e2, fu, h2, dv⟩
    · rintro σ H2 ⟨y3, y4, y5, u, vs, rfl, e2, fu, h2, dv⟩
      rw [Nat.sub_self, leftAt_zero] at dv
      exact ⟨_, rfl, q u vs H2 e2 fu h2 dv⟩
end

/-- the promise of _law_wrong_marks -/
def spWrong (O : HO → Prop) : Sp := fun vs H Q _ => ∃ (v : V) (z : Str) (l : List (Mk × Str)) (G : Hp), vs = [v] ∧ Ex G H ∧ DV O G v (.lst (toD z l)) ∧ l.length ≤ 60 ∧
  ∀ (p : Addr) (ks : List Nat) (H' : Hp), Ex H H' → H p = none → H' p = some (.lst (intsV ks)) → (∀ k, k ∈ ks ↔ k < l.length ∧ cleanG (nmOf l) k = true) → Q (.ref p) H'
section
variable {P : Program} {w : World} {K : PySem.W.Frag} {mg : Str → Option Value} {base : Heap} {O : HO → Prop}
theorem ok_wrong {f : Addr} {fd : FuncData} (F : Fun K "_law_wrong_marks" "_law_wrong_marks" s_L_wrong_marks f fd) (T : Txt K mg) :
    FnOk P w K mg base CX0 1 f fd ["_law_row_here"] (spWrong O) := by
  refine F.ok sc_L_wrong_marks (fun vs H Q E h => ?_) (fun cdv A outer s H vs Q E hr h => ?_)
  · obtain ⟨v, z, l, G, rfl, _⟩ := h
    rfl
  · obtain ⟨v, z, l, G, rfl, eG, hv, hl, q⟩ := h
    cases hv with
    | @lst a rv _ ha hd hrl =>
    have hdo : DVs O G (odds rv) (l.map fun p => mkD p.1) := by
      have := dvs_odds hd
      rwa [show Gd.odds (toD z l) = l.map fun p => mkD p.1 from odds_toD l _] at this
    have ol : (odds rv).length = l.length := by rw [hdo.length, List.length_map]
    have nl : (nmOf l).length = l.length := by simp [nmOf]
    refine ⟨_, (pss_cons (ps_setLc (i := 1) (own := [("_law_mark", 6)]) (g := gName 6) (tt := tYes) rfl sc_L_wrong_marks.nd rfl rfl (sw_true rfl rfl rfl (by decide +kernel)) (pi_list (pe_sliceS ss_twoL (pv 0) (po_some pe_int) po_none (po_some pe_int))) (blkOk_by (N := sc_L_wrong_marks.N') (sc := defScope s_L_wrong_marks) (by decide +kernel)) (fun _ _ _ _ _ => (pg_name (i := 6) sc_L_wrong_marks.nd rfl (by first | exact Or.inl rfl | exact Or.inr rfl))) (fun _ _ _ _ _ => pts_nil) (fun _ _ _ _ _ => (pe_ix (ix_tupK (K := K) rfl) (pv 6) pe_int (fun _ _ => rfl))))
    (pss_cons (ps_set (i := 2) sc_L_wrong_marks.nd rfl (.inl rfl) (pe_lst pa_nil))
    (pss_cons (ps_for PassesOwn.never rfl (pi_enum (by rfl) T.z_enumerate (pa_cons (pv 1) pa_nil)) (pg_tup (by rfl) (pgs_cons (pg_name (i := 3) sc_L_wrong_marks.nd rfl (.inl rfl)) (pgs_cons (pg_name (i := 4) sc_L_wrong_marks.nd rfl (.inl rfl)) pgs_nil)))
      (pss_cons (ps_set (i := 5) sc_L_wrong_marks.nd rfl (.inl rfl) (pe_bm PySem.F.plainAttrs_list PySem.F.slot_list_count PySem.F.type_list_count mt_countS (pe_slice sl_list (pv 1) po_none (po_some (pv 3))) (pa_cons (pv 4) pa_nil)))
    (pss_one (ps_if (PW.pt (pw_or (pt_cmpR op_gt (pv 5) pe_int (nomark _)) (pw_or1 (pt_cmpR op_eq (pe_bm PySem.F.plainAttrs_list PySem.F.slot_list_count PySem.F.type_list_count mt_countS (pv 1) (pa_cons (pv 4) pa_nil)) pe_int (nomark _))))) (pss_one (ps_expr (pe_bm PySem.F.plainAttrs_list PySem.F.slot_list_append PySem.F.type_list_append mt_append (pv 2) (pa_cons (pv 3) pa_nil)))) pss_nil))))
    (pss_one (ps_ret (pv 2)))))), ?_⟩
    refine ⟨_, rfl, _, rfl, _, rfl, a, rv, rfl, SqL.of (eG _ _ ha), rfl, rfl, .inr ⟨rfl, fun o ho => ?_⟩⟩
    have e1 : Ex H (upd H o (.lst (odds rv))) := Ex.new ho
    have h1 : upd H o (.lst (odds rv)) o = some (.lst (odds rv)) := upd_same
    generalize upd H o (.lst (odds rv)) = H1 at e1 h1 ⊢
    refine ⟨o, rfl, ⟨_, SqL.of h1⟩, fun D hD => lc_list (xs := odds rv) (fun i H' => Ex H1 H' ∧ H' D = some (.lst (((nmOf l).take i).map V.str)))
        ⟨Ex.new hD, upd_same⟩ (fun i H' _ ⟨x1, _⟩ => SqL.of (x1 _ _ h1)) ?_ ?_⟩
    · rintro i x H2 hx ⟨e2, h2⟩
      obtain ⟨d, hdi, hxd⟩ := hdo.get hx
      rw [List.getElem?_map] at hdi
      obtain ⟨pr, hpr, rfl⟩ := Option.map_eq_some_iff.mp hdi
      have hi : i < l.length := (List.getElem?_eq_some_iff.mp hpr).1
      obtain ⟨t, rfl, ht⟩ := mark_val hxd
      refine ⟨rfl, lcY ⟨_, rfl, t, _, 0, _, rfl, rfl, SqT.of ((eG.tr (e1.tr e2)) _ _ ht), rfl, _, h2, lt_200 (by simp; omega), e2.mut hD, ?_⟩⟩
      rw [upd_same, List.take_add_one, nmOf, List.getElem?_map, hpr]
      simp
    rintro H2 ⟨e2, h2⟩
    rw [ol, ← nl, List.take_length] at h2
    have fD : H D = none := e1.free hD
    have e3 := e1.tr e2
    clear e2 e1 h1 hD
    refine ⟨(by show 0 ≤ sizeLine; decide), fun u hu => ?_⟩
    have nDu := ne_of_none h2 hu
    have e4 : Ex H (upd H2 u (.lst [])) := e3.tr (Ex.new hu)
    have fu := e3.free hu
    have h4 := (upd_ne (o := .lst []) nDu).trans h2
    have u4 : upd H2 u (.lst []) u = some (.lst []) := upd_same
    generalize upd H2 u (.lst []) = H4 at e4 h4 u4 ⊢
    refine ⟨_, rfl, D, _, rfl, SqL.of h4, ?_⟩
    refine for_enumL (K := K) (a := D) (xs := (nmOf l).map V.str) (fun i σ H' => ∃ y3 y4 y5, σ = [some (.ref a), some (.ref D), some (.ref u), y3, y4, y5, none] ∧ Ex H H' ∧ H' D = some (.lst ((nmOf l).map V.str)) ∧ H' u = some (.lst (intsV ((List.range i).filter (cleanG (nmOf l))))))
      ⟨none, none, none, rfl, e4, h4, u4⟩ (fun i σ H' _ ⟨_, _, _, _, _, h, _⟩ => SqL.of h) ?_ ?_
    · rintro i x σ H5 Tp hx ⟨y3, y4, y5, rfl, e5, h5, u5⟩ hT
      rw [List.getElem?_map] at hx
      obtain ⟨nm, hnm, rfl⟩ := Option.map_eq_some_iff.mp hx
      have hi : i < (nmOf l).length := (List.getElem?_eq_some_iff.mp hnm).1
      have e6 : Ex H (upd H5 Tp (.tup [.int (i : Nat), .str nm])) := e5.tr (Ex.new hT)
      have h6 := (upd_ne (o := .tup [.int (i : Nat), .str nm]) (ne_of_none h5 hT)).trans h5
      have u6 := (upd_ne (o := .tup [.int (i : Nat), .str nm]) (ne_of_none u5 hT)).trans u5
      have t6 : upd H5 Tp (.tup [.int (i : Nat), .str nm]) Tp = some (.tup [.int (i : Nat), .str nm]) := upd_same
      generalize upd H5 Tp (.tup [.int (i : Nat), .str nm]) = H6 at e6 h6 u6 t6 ⊢
      refine ⟨Tp, _, rfl, SqT.of t6, rfl, _, _, rfl, _, _, rfl, rfl, ?_⟩
      refine ⟨_, rfl, _, rfl, _, rfl, D, _, rfl, SqL.of h6, fun c hc => ?_⟩
      rw [cutV_to, ← List.map_take]
      have e7 : Ex H (upd H6 c (.lst (((nmOf l).take i).map V.str))) := e6.tr (Ex.new hc)
      have h7 := (upd_ne (o := .lst (((nmOf l).take i).map V.str)) (ne_of_none h6 hc)).trans h6
      have u7 := (upd_ne (o := .lst (((nmOf l).take i).map V.str)) (ne_of_none u6 hc)).trans u6
      have c7 : upd H6 c (.lst (((nmOf l).take i).map V.str)) c = some (.lst (((nmOf l).take i).map V.str)) := upd_same
      generalize upd H6 c (.lst (((nmOf l).take i).map V.str)) = H7 at e7 h7 u7 c7 ⊢
      have fl : ((List.range i).filter (cleanG (nmOf l))).length ≤ i := by
        have := List.length_filter_le (cleanG (nmOf l)) (List.range i)
        simpa using this
      have app : Ex H (upd H7 u (.lst (intsV ((List.range i).filter (cleanG (nmOf l))) ++ [V.int (i : Nat)]))) := e7.mut fu
      refine ⟨.inl ⟨rfl, _, SqL.of c7⟩, _, rfl, c, _, nm, rfl, rfl, SqL.of c7, _, rfl, _, _, rfl, rfl, _, rfl, ?_⟩
      have cg := cleanG_some hnm
      have fin : ∀ b : Bool, cleanG (nmOf l) i = b → intsV ((List.range (i + 1)).filter (cleanG (nmOf l))) = intsV ((List.range i).filter (cleanG (nmOf l))) ++ if b = true then [V.int (i : Nat)] else [] := by
        intro b hb
        rw [List.range_succ, List.filter_append]
        cases b with
        | true => rw [List.filter_cons_of_pos hb]; simp [intsV]
        | false => rw [List.filter_cons_of_neg (by rw [hb]; decide)]; simp [intsV]
      refine ite2 (fun h1 => ?_) (fun h1 => ?_)
      · have h1' := of_decide_eq_true h1
        have hc : cleanG (nmOf l) i = true := by rw [cg, decide_eq_true (show 1 < ((nmOf l).take i).count nm by omega), Bool.true_or]
        refine ⟨_, rfl, .inl ⟨rfl, _, SqL.of u7⟩, _, rfl, u, _, _, rfl, rfl, u7, lt_200 (by simp only [intsV, List.length_map]; omega), ?_⟩
        refine ⟨_, _, _, rfl, app, (upd_ne nDu).trans h7, ?_⟩
        rw [upd_same, fin _ hc]
        rfl
      · have h1' : ¬ (((((nmOf l).take i).count nm : Nat) : Int) > 1) := fun e => h1 (decide_eq_true e)
        refine ⟨_, rfl, .inl ⟨rfl, _, SqL.of h7⟩, _, rfl, D, _, nm, rfl, rfl, SqL.of h7, rfl, _, rfl, ?_⟩
        rw [decI]
        refine ite2 (fun h2 => ?_) (fun h2 => ?_)
        · have h2' := of_decide_eq_true h2
          have hc : cleanG (nmOf l) i = true := by rw [cg, decide_eq_true (show (nmOf l).count nm = 1 by omega), Bool.or_true]
          refine ⟨_, rfl, .inl ⟨rfl, _, SqL.of u7⟩, _, rfl, u, _, _, rfl, rfl, u7, lt_200 (by simp only [intsV, List.length_map]; omega), ?_⟩
          refine ⟨_, _, _, rfl, app, (upd_ne nDu).trans h7, ?_⟩
          rw [upd_same, fin _ hc]
          rfl
        · have h2' : ¬ (((nmOf l).count nm : Nat) : Int) = 1 := fun e => h2 (decide_eq_true e)
          have hc : cleanG (nmOf l) i = false := by rw [cg, decide_eq_false (show ¬ 1 < ((nmOf l).take i).count nm by omega), decide_eq_false (show ¬ (nmOf l).count nm = 1 by omega)]; rfl
          refine ⟨_, _, _, rfl, e7, h7, ?_⟩
          rw [u7, fin _ hc]
          simp
    · rintro σ H5 ⟨y3, y4, y5, rfl, e5, h5, u5⟩
      refine ⟨_, rfl, q u _ H5 e5 fu u5 fun k => ?_⟩
      rw [List.length_map]
      simp [nl]
end

/-- the promise of _law_numbers -/
def spNumbers : Sp := fun vs H Q _ => ∃ (a : Addr) (c n : Nat), vs = [.ref a, .int (n : Nat)] ∧ BoxAt H a c ∧ c + 20 < 1000000000 ∧ n ≤ 60 ∧
  ∀ (p : Addr) (ks : List Nat) (H' : Hp), Kp a H H' → BoxAt H' a (c + 20) → H p = none → p ≠ a → H' p = some (.lst (intsV ks)) → (∀ k ∈ ks, k < n) → ks.length ≤ 100 → Q (.ref p) H'
section
variable {P : Program} {w : World} {K : PySem.W.Frag} {mg : Str → Option Value} {base : Heap} {O : HO → Prop}
theorem ok_numbers {f : Addr} {fd : FuncData} (F : Fun K "_law_numbers" "_law_numbers" s_L_numbers f fd) (T : Txt K mg) {f_L_take : Addr} {fd_L_take : FuncData} (D_L_take : Df K mg "_law_take" f_L_take fd_L_take ["_law_box_here", "_law_many"])
    (G_L_take : FnOk P w K mg base CX0 1 f_L_take fd_L_take ["_law_box_here", "_law_many"] spTake) :
    FnOk P w K mg base CX0 2 f fd ["_law_box_here", "_law_many"] spNumbers := by
  refine F.ok sc_L_numbers (fun vs H Q E h => ?_) (fun cdv A outer s H vs Q E hr h => ?_)
  · obtain ⟨a, c, n, rfl, _⟩ := h
    rfl
  · obtain ⟨a, c, n, rfl, hb, hc, hn, q⟩ := h
    refine ⟨_, (pss_cons (ps_if (pt_cmpR op_eq (pv 1) pe_int (nomark _)) (pss_one (ps_ret (pe_lst pa_nil))) pss_nil)
    (pss_cons (ps_set (i := 2) sc_L_numbers.nd rfl (.inl rfl) (pe_call G_L_take (hr.mono (by first | decide | omega)) rfl D_L_take.g D_L_take.k D_L_take.b .nil pass0 (pa_cons (pv 0) (pa_cons pe_int pa_nil))))
    (pss_cons (ps_if (pt_cmpR op_eq (pv 2) pe_int (nomark _)) (pss_one (ps_ret (pe_sliceS ss_backL (pe_callTy (call_list_rng rfl) (by rfl) T.z_list (by decide +kernel) (pa_cons (pe_callTy cr_range1 (by rfl) T.z_range (by decide +kernel) (pa_cons (pv 1) pa_nil)) pa_nil)) po_none po_none (po_some (pe_un un_neg pe_int))))) pss_nil)
    (pss_one (ps_ret (pe_lc (own := [("_law_k", 3)]) (g := gName 3) (tt := tYes) rfl sc_L_numbers.nd (pi_range1 (by rfl) T.z_range (pa_cons (pe_op op_mul (pe_call G_L_take (hr.mono (by first | decide | omega)) rfl D_L_take.g D_L_take.k D_L_take.b .nil pass0 (pa_cons (pv 0) (pa_cons pe_int pa_nil))) (pe_callTy call_int1 (by rfl) T.z_int (by decide +kernel) (pa_cons (pe_cmpR op_gt (pv 2) pe_int (nomark _)) pa_nil))) pa_nil)) (blkOk_by (N := sc_L_numbers.N') (sc := defScope s_L_numbers) (by decide +kernel)) (fun _ _ _ _ _ => (pg_name (i := 3) sc_L_numbers.nd rfl (by first | exact Or.inl rfl | exact Or.inr rfl))) (fun _ _ _ _ _ => pts_nil) (fun _ _ _ _ _ => (pe_call G_L_take (hr.mono (by first | decide | omega)) rfl D_L_take.g D_L_take.k D_L_take.b .nil pass0 (pa_cons (pv 0) (pa_cons (pv 1) pa_nil)))))))))), ?_⟩
    refine ⟨_, rfl, rfl, _, rfl, ?_⟩
    rw [decI]
    refine ite2 (fun h0 => ?_) (fun h0 => ?_)
    · refine ⟨(by show 0 ≤ sizeLine; decide), fun p hp => ?_⟩
      exact q p [] _ (Kp.of (Ex.new hp)) ((hb.upd (hb.ne' hp)).up (by omega)) hp (hb.ne hp) upd_same (fun _ h => by simp at h) (by simp)
    · have h0' : ¬ ((n : Nat) : Int) = 0 := fun e => h0 (decide_eq_true e)
      refine ⟨_, rfl, a, c, 6, rfl, hb, by omega, by decide, by decide, fun way H1 k1 b1 w0 w1 => ?_⟩
      refine ⟨_, rfl, rfl, _, rfl, ?_⟩
      rw [decI]
      refine ite2 (fun hw => ?_) (fun hw => ?_)
      · refine ⟨_, rfl, _, rfl, fun r hr => ?_⟩
        refine ⟨r, 0, _, rfl, upd_same, by decide, by omega, by omega, by omega, fun p hp => ?_⟩
        have k2 : Kp a H (upd H1 r (.rng 0 (n : Nat))) := k1.mut (k1.none b1 hr)
        have b2 := b1.upd (o := .rng 0 (n : Nat)) (b1.ne' hr)
        generalize upd H1 r (.rng 0 (n : Nat)) = H2 at hp k2 b2 ⊢
        have e : ((List.range (((n : Nat) : Int) - 0).toNat).map fun i : Nat => V.int (0 + (i : Int))) = intsV (List.range n) := by
          rw [show (((n : Nat) : Int) - 0).toNat = n by omega]
          unfold intsV
          apply List.map_congr_left
          intro i _
          congr 1
          omega
        rw [e]
        have k3 : Kp a H (upd H2 p (.lst (intsV (List.range n)))) := k2.mut (k2.none b2 hp)
        have b3 := b2.upd (o := .lst (intsV (List.range n))) (b2.ne' hp)
        have h3 : upd H2 p (.lst (intsV (List.range n))) p = some (.lst (intsV (List.range n))) := upd_same
        generalize upd H2 p (.lst (intsV (List.range n))) = H3 at k3 b3 h3 ⊢
        refine ⟨_, rfl, _, rfl, p, _, rfl, SqL.of h3, rfl, rfl, rfl, fun u hu => ?_⟩
        refine q u (List.range n).reverse _ (k3.mut (k3.none b3 hu)) ((b3.upd (b3.ne' hu)).up (by omega)) (k3.none b3 hu) (b3.ne hu) ?_ (fun k hk => by simpa using hk) (by simp; omega)
        rw [upd_same]
        simp [intsV, List.map_reverse]
      · refine ⟨_, rfl, a, _, 8, rfl, b1, by omega, by decide, by decide, fun t H2 k2 b2 t0 t1 => ?_⟩
        refine ⟨_, rfl, _, _, rfl, rfl, .inr ⟨_, rfl, ?_⟩⟩
        generalize decide (way > 1) = bb
        obtain ⟨m, hm, hm7⟩ : ∃ m : Nat, t * (if bb = true then 1 else 0) = (m : Int) ∧ m ≤ 7 := by
          cases bb
          · exact ⟨0, by simp, by decide⟩
          · exact ⟨t.toNat, by simp; omega, by omega⟩
        refine ⟨_, _, rfl, rfl, .inr ⟨by cases bb <;> decide, by cases bb <;> decide⟩, (m : Nat), (by show [V.int (t * (if bb = true then 1 else 0))] = _; rw [hm]), by omega, by omega, fun L hL => ?_⟩
        have k3 := k1.tr k2
        refine lc_range (n := m) (fun i H' => ∃ ks : List Nat, H' L = some (.lst (intsV ks)) ∧ ks.length = i ∧ (∀ k ∈ ks, k < n) ∧ Kp a H H' ∧ BoxAt H' a (c + 2 + i)) ?_ ?_ ?_
        · exact ⟨[], upd_same, rfl, fun _ h => by simp at h, k3.mut (k3.none b2 hL), b2.upd (b2.ne' hL)⟩
        · rintro i H4 hi ⟨ks, h4, hl, hk, k4, b4⟩
          refine ⟨rfl, lcY ⟨_, rfl, _, rfl, a, _, (n : Nat), rfl, b4, by omega, by omega, by omega, fun r H5 k5 b5 r0 r1 => ?_⟩⟩
          obtain ⟨r, rfl⟩ := Int.eq_ofNat_of_zero_le r0
          have nLa := b2.ne hL
          refine ⟨_, k5 _ _ nLa h4, lt_200 (by simp [intsV]; omega), ks ++ [r], ?_, by simp [hl], fun k hk' => ?_, (k4.tr k5).mut (k3.none b2 hL), (b5.upd nLa.symm).up (by omega)⟩
          · rw [upd_same]
            simp [intsV]
          · rcases List.mem_append.mp hk' with h | h
            · exact hk k h
            · have : k = r := by simpa using h
              omega
        · rintro H4 ⟨ks, h4, hl, hk, k4, b4⟩
          exact q L ks H4 k4 (b4.up (by omega)) (k3.none b2 hL) (b2.ne hL) h4 hk (by omega)
end

theorem eqv_ints (ks : List Nat) : PyData.eqv (.list (ks.map fun (k : Nat) => PyData.int (k : Int))) (.list (ks.map fun (k : Nat) => PyData.int (k : Int))) = true := by
  simp only [PyData.eqv]
  induction ks with
  | nil => simp [PyData.eqvAll]
  | cons y ys ih => simp [PyData.eqvAll, PyData.eqv, ih]
theorem dp_nats {K : PySem.W.Frag} {H : Hp} (ks : List Nat) : DpAll K H (intsV ks) (ks.map fun (k : Nat) => PyData.int (k : Int)) := by
  have := dp_ints (K := K) (H := H) (ks.map fun (k : Nat) => (k : Int))
  rw [List.map_map, List.map_map] at this
  exact this
theorem shaped_nats (ks : List Nat) : SeqAt.shaped (.list (ks.map fun (k : Nat) => PyData.int (k : Int))) = true := by
  have := shaped_ints (ks.map fun (k : Nat) => (k : Int))
  rw [List.map_map] at this
  exact this
theorem tot_le {z : Str} {l : List (Mk × Str)} (h : ∀ y, D.str y ∈ toD z l → y.length ≤ 40) : tot z l ≤ 40 * (l.length + 1) := by
  have aux : ∀ l : List (Mk × Str), (∀ p ∈ l, p.2.length ≤ 40) → (l.map (·.2.length)).sum ≤ 40 * l.length := by
    intro l
    induction l with
    | nil => intro _; simp
    | cons p r ih =>
      intro hp
      rw [List.map_cons, List.sum_cons, List.length_cons]
      have h1 := hp p (by simp)
      have h2 := ih fun q hq => hp q (by simp [hq])
      omega
  have h1 := h z (by simp [toD])
  have h2 := aux l fun p hp => by
    obtain ⟨k, hk, rfl⟩ := List.getElem_of_mem hp
    apply h
    have e := toD_pc (z := z) (l := l) (k := k + 1) hk
    rw [pcS_next (List.getElem?_eq_getElem hk)] at e
    exact List.mem_of_getElem? e
  unfold tot
  omega
section
variable {P : Program} {w : World} {K : PySem.W.Frag} {mg : Str → Option Value} {base : Heap} {O : HO → Prop}
theorem ok_law {f : Addr} {fd : FuncData} (F : Fun K "law" "law" s_law f fd) (T : Txt K mg) (ho : OthOk K O)
    {f_L_box : Addr} {fd_L_box : FuncData} (D_L_box : Df K mg "_law_box" f_L_box fd_L_box ["_law_cell_here"])
    {f_L_row : Addr} {fd_L_row : FuncData} (D_L_row : Df K mg "_law_row" f_L_row fd_L_row ["_law_box_here"])
    {f_L_left : Addr} {fd_L_left : FuncData} (D_L_left : Df K mg "_law_left" f_L_left fd_L_left ["_law_row_here", "_law_gone"])
    {f_L_cell : Addr} {fd_L_cell : FuncData} (D_L_cell : Df K mg "_law_cell" f_L_cell fd_L_cell ["_law_script", "_law_k"])
    {f_L_take : Addr} {fd_L_take : FuncData} (D_L_take : Df K mg "_law_take" f_L_take fd_L_take ["_law_box_here", "_law_many"])
    {f_L_wrong_marks : Addr} {fd_L_wrong_marks : FuncData} (D_L_wrong_marks : Df K mg "_law_wrong_marks" f_L_wrong_marks fd_L_wrong_marks ["_law_row_here"])
    {f_L_numbers : Addr} {fd_L_numbers : FuncData} (D_L_numbers : Df K mg "_law_numbers" f_L_numbers fd_L_numbers ["_law_box_here", "_law_many"])
    {f_without_markers : Addr} {fd_without_markers : FuncData} (D_without_markers : Df K mg "without_markers" f_without_markers fd_without_markers ["row", "numbers"])
    {f_clean_row : Addr} {fd_clean_row : FuncData} (D_clean_row : Df K mg "clean_row" f_clean_row fd_clean_row ["row"])
    (G_L_cell : FnOk P w K mg base CX0 1 f_L_cell fd_L_cell ["_law_script", "_law_k"] (Gd.spCell K)) (G_L_box : FnOk P w K mg base CX0 1 f_L_box fd_L_box ["_law_cell_here"] spBox)
    (G_L_take : FnOk P w K mg base CX0 1 f_L_take fd_L_take ["_law_box_here", "_law_many"] spTake)
    (G_L_row : FnOk P w K mg base CX0 3 f_L_row fd_L_row ["_law_box_here"] (spRow1 O))
    (G_L_left : FnOk P w K mg base CX0 1 f_L_left fd_L_left ["_law_row_here", "_law_gone"] (spLeft O))
    (G_L_wrong_marks : FnOk P w K mg base CX0 1 f_L_wrong_marks fd_L_wrong_marks ["_law_row_here"] (spWrong O))
    (G_L_numbers : FnOk P w K mg base CX0 2 f_L_numbers fd_L_numbers ["_law_box_here", "_law_many"] spNumbers)
    (G_without_markers : FnOk P w K mg base CX0 7 f_without_markers fd_without_markers ["row", "numbers"] (spWithout O)) (G_clean_row : FnOk P w K mg base CX0 8 f_clean_row fd_clean_row ["row"] (spClean O)) :
    FnG P w K mg base CX0 9 f fd ["_law_script"] (spLaw K) := by
  refine okG F sc_law (fun vs H Q E h => ?_) (fun cdv A outer s H vs Q E hgd hr h => ?_)
  · obtain ⟨a, ns, rfl, _⟩ := h
    rfl
  · obtain ⟨sc, ns, rfl, hS, hns, q⟩ := h
    have hrep : (A.deeper (envOfC "law" (defScope s_law) s.heap.objs.size f cdv)).units + 66 < cLine := by
      have := hr.un
      omega
    refine ⟨_, (pss_cons (ps_for PassesOwn.never rfl (pi_range1 (by rfl) T.z_range (pa_cons (pe_callB (call_max2 rfl) (by rfl) T.z_max (by decide +kernel) (pa_cons pe_int (pa_cons (pe_callB (call_min2 rfl) (by rfl) T.z_min (by decide +kernel) (pa_cons pe_int (pa_cons (pe_callB call_len_seq (by rfl) T.z_len (by decide +kernel) (pa_cons (pv 0) pa_nil)) pa_nil))) pa_nil))) pa_nil)) (pg_name (i := 1) sc_law.nd rfl (.inl rfl))
      (pss_cons (ps_set (i := 2) sc_law.nd rfl (.inl rfl) (pe_call G_L_box (hr.mono (by first | decide | omega)) rfl D_L_box.g D_L_box.k D_L_box.b .nil pass0 (pa_cons (pe_call G_L_cell (hr.mono (by first | decide | omega)) rfl D_L_cell.g D_L_cell.k D_L_cell.b .nil pass0 (pa_cons (pv 0) (pa_cons (pv 1) pa_nil))) pa_nil)))
    (pss_cons (ps_set (i := 3) sc_law.nd rfl (.inl rfl) (pe_call G_L_row (hr.mono (by first | decide | omega)) rfl D_L_row.g D_L_row.k D_L_row.b .nil pass0 (pa_cons (pv 2) pa_nil)))
    (pss_cons (ps_set (i := 4) sc_law.nd rfl (.inl rfl) (pe_ix ix_list (pe_lst (pa_cons (pe_callTy call_list_of (by rfl) T.z_list (by decide +kernel) (pa_cons (pv 3) pa_nil)) (pa_cons (pe_callTy call_tuple_of (by rfl) T.z_tuple (by decide +kernel) (pa_cons (pv 3) pa_nil)) pa_nil))) (pe_call G_L_take (hr.mono (by first | decide | omega)) rfl D_L_take.g D_L_take.k D_L_take.b .nil pass0 (pa_cons (pv 2) (pa_cons pe_int pa_nil))) (fun _ _ => rfl)))
    (pss_cons (ps_set (i := 5) sc_law.nd rfl (.inl rfl) (pe_call G_L_left (hr.mono (by first | decide | omega)) rfl D_L_left.g D_L_left.k D_L_left.b .nil pass0 (pa_cons (pv 3) (pa_cons (pe_call G_L_wrong_marks (hr.mono (by first | decide | omega)) rfl D_L_wrong_marks.g D_L_wrong_marks.k D_L_wrong_marks.b .nil pass0 (pa_cons (pv 3) pa_nil)) pa_nil))))
    (pss_one (ps_for PassesOwn.never rfl (pi_range1 (by rfl) T.z_range (pa_cons pe_int pa_nil)) (pg_name (i := 6) sc_law.nd rfl (.inl rfl))
      (pss_cons (ps_set (i := 7) sc_law.nd rfl (.inl rfl) (pe_call G_L_numbers (hr.mono (by first | decide | omega)) rfl D_L_numbers.g D_L_numbers.k D_L_numbers.b .nil pass0 (pa_cons (pv 2) (pa_cons (pe_op op_fdiv (pe_callB call_len_seq (by rfl) T.z_len (by decide +kernel) (pa_cons (pv 3) pa_nil)) pe_int) pa_nil))))
    (pss_cons (ps_set (i := 8) sc_law.nd rfl (.inl rfl) (pe_ix ix_list (pe_lst (pa_cons (pe_callTy call_list_of (by rfl) T.z_list (by decide +kernel) (pa_cons (pv 7) pa_nil)) (pa_cons (pe_callTy call_tuple_of (by rfl) T.z_tuple (by decide +kernel) (pa_cons (pv 7) pa_nil)) pa_nil))) (pe_call G_L_take (hr.mono (by first | decide | omega)) rfl D_L_take.g D_L_take.k D_L_take.b .nil pass0 (pa_cons (pv 2) (pa_cons pe_int pa_nil))) (fun _ _ => rfl)))
    (pss_cons (ps_set (i := 9) sc_law.nd rfl (.inl rfl) (pe_call G_without_markers (hr.mono (by first | decide | omega)) rfl D_without_markers.g D_without_markers.k D_without_markers.b .nil pass0 (pa_cons (pv 4) (pa_cons (pv 8) pa_nil))))
    (pss_cons (ps_if (PW.pt (pw_or (pt_cmpR op_ne (pe_callB (call_reprD hgd hrep) (by rfl) T.z_repr (by decide +kernel) (pa_cons (pv 9) pa_nil)) (pe_callB (call_reprD hgd hrep) (by rfl) T.z_repr (by decide +kernel) (pa_cons (pe_call G_L_left (hr.mono (by first | decide | omega)) rfl D_L_left.g D_L_left.k D_L_left.b .nil pass0 (pa_cons (pv 3) (pa_cons (pv 7) pa_nil))) pa_nil)) (nomark _)) (pw_or (pt_cmpR (op_neD hr.units) (pe_callTy call_list_of (by rfl) T.z_list (by decide +kernel) (pa_cons (pv 4) pa_nil)) (pv 3) (nomark _)) (pw_or1 (pt_cmpR (op_neD hr.units) (pe_callTy call_list_of (by rfl) T.z_list (by decide +kernel) (pa_cons (pv 8) pa_nil)) (pv 7) (nomark _)))))) (pss_one (ps_ret pe_bl)) pss_nil)
    (pss_cons (ps_expr (pe_bm PySem.F.plainAttrs_list PySem.F.slot_list_append PySem.F.type_list_append mt_append (pv 9) (pa_cons pe_str pa_nil)))
    (pss_cons (ps_set (i := 9) sc_law.nd rfl (.inl rfl) (pe_call G_clean_row (hr.mono (by first | decide | omega)) rfl D_clean_row.g D_clean_row.k D_clean_row.b .nil pass0 (pa_cons (pv 4) pa_nil)))
    (pss_cons (ps_if (PW.pt (pw_or (pt_cmpR op_ne (pe_callB (call_reprD hgd hrep) (by rfl) T.z_repr (by decide +kernel) (pa_cons (pv 9) pa_nil)) (pe_callB (call_reprD hgd hrep) (by rfl) T.z_repr (by decide +kernel) (pa_cons (pv 5) pa_nil)) (nomark _)) (pw_or (pt_cmpR op_ne (pe_callB (call_reprD hgd hrep) (by rfl) T.z_repr (by decide +kernel) (pa_cons (pe_call G_clean_row (hr.mono (by first | decide | omega)) rfl D_clean_row.g D_clean_row.k D_clean_row.b .nil pass0 (pa_cons (pv 9) pa_nil)) pa_nil)) (pe_callB (call_reprD hgd hrep) (by rfl) T.z_repr (by decide +kernel) (pa_cons (pv 5) pa_nil)) (nomark _)) (pw_or1 (pt_cmpR (op_neD hr.units) (pe_callTy call_list_of (by rfl) T.z_list (by decide +kernel) (pa_cons (pv 4) pa_nil)) (pv 3) (nomark _)))))) (pss_one (ps_ret pe_bl)) pss_nil)
    (pss_one (ps_expr (pe_bm0 PySem.F.plainAttrs_list PySem.F.slot_list_clear PySem.F.type_list_clear mt_clear (pv 9))))))))))))))))))
    (pss_one (ps_ret pe_bl))), ?_⟩
    have hturn := turns_le (n := ((ns.map V.int).length : Nat)) 8 (by omega) (by decide) (by decide)
    refine ⟨_, rfl, sc, _, rfl, .inl hS, _, _, rfl, _, _, rfl, _, rfl, by omega, by omega, ?_⟩
    refine for_range (fun i σ H' => ∃ y1 y2 y3 y4 y5 y6 y7 y8 y9, σ = [some (.ref sc), y1, y2, y3, y4, y5, y6, y7, y8, y9] ∧ Ex H H')
      ⟨none, none, none, none, none, none, none, none, none, rfl, Ex.rfl' H⟩ ?_ (fun σ H' _ => q _)
    · rintro i σ H0 hi ⟨y1, y2, y3, y4, y5, y6, y7, y8, y9, rfl, e0⟩
      refine ⟨_, rfl, _, rfl, sc, ns, _, rfl, e0.l hS, hns, by omega, by omega, fun ci => ⟨ci, rfl, fun a x y ha hy0 hy1 => ?_⟩⟩
      have S0 : Sta H0 _ H0 (upd H0 a (.lst [.int x, .int y, .int 0])) a 0 := .start (Ex.new ha) ha ⟨x, y, 0, upd_same, hy0, hy1, by decide, by decide⟩
      generalize upd H0 a _ = H1 at S0 ⊢
      -- the row
      refine ⟨_, rfl, a, 0, H0, rfl, S0.bx, by decide, S0.ex, S0.ga, fun v ds n G1 H2 s2 hv gd l1 hn => ?_⟩
      have S2 := S0.tr s2
      obtain ⟨z, l, rfl, ok, hll⟩ := toD_of n l1 gd.fit rfl
      have tt : tot z l ≤ 2000 := by
        have := tot_le gd.sm
        omega
      have it := ok.it (L := 2500) (by omega) (by decide) (by decide)
      cases hv with
      | @lst r rv _ hr1 hrd hrl =>
      have rlen : rv.length = 2 * l.length + 1 := by rw [hrd.length, toD_len]
      have half : ((rv.length : Nat) : Int) / 2 = ((l.length : Nat) : Int) := by
        rw [rlen]
        omega
      have hr1' := S2.ex _ _ hr1
      -- the row as it is handed
      refine ⟨_, rfl, r, rv, rfl, .inl (SqL.of hr1'), fun hl1 hhl => ?_⟩
      have S3 := S2.new hhl (.lst rv)
      have x3 : Ex G1 (upd G1 hl1 (.lst rv)) := S2.enew hhl
      have k3 : upd G1 hl1 (.lst rv) hl1 = some (.lst rv) := upd_same
      generalize upd G1 hl1 (.lst rv) = G3 at S3 x3 k3
      generalize upd H2 hl1 (.lst rv) = H3 at S3 ⊢
      refine ⟨_, rfl, r, rv, rfl, .inl ⟨SqL.of (S3.ex _ _ (x3 _ _ hr1)), fun ht1 hht => ?_⟩⟩
      have S4 := S3.new hht (.tup rv)
      have x4 : Ex G3 (upd G3 ht1 (.tup rv)) := S3.enew hht
      have k4 : upd G3 ht1 (.tup rv) ht1 = some (.tup rv) := upd_same
      generalize upd G3 ht1 (.tup rv) = G4 at S4 x4 k4
      generalize upd H3 ht1 (.tup rv) = H4 at S4 ⊢
      refine ⟨(by show 2 ≤ sizeLine; decide), fun pp hpp => ?_⟩
      have npa := S4.bx.ne hpp
      have S5 := S4.hid hpp (.lst [.ref hl1, .ref ht1])
      have h5 : upd H4 pp (.lst [.ref hl1, .ref ht1]) pp = some (.lst [.ref hl1, .ref ht1]) := upd_same
      generalize upd H4 pp (.lst [.ref hl1, .ref ht1]) = H5 at S5 h5 ⊢
      refine ⟨_, rfl, a, _, 2, rfl, S5.bx, by decide, by decide, by decide, fun t H6 k6 b6 t0 t1 => ?_⟩
      have S6 := S5.draw k6 b6
      obtain ⟨hv, e1, hh, rfl, hhd⟩ := atI_all (xs := [V.ref hl1, V.ref ht1]) (fun v => ∃ o, v = .ref o ∧ (G4 o = some (.lst rv) ∨ G4 o = some (.tup rv))) t0 (by simpa using t1) (by
        intro v hv
        simp only [List.mem_cons, List.not_mem_nil, or_false] at hv
        rcases hv with rfl | rfl
        · exact ⟨hl1, rfl, .inl (x4 _ _ k3)⟩
        · exact ⟨ht1, rfl, .inr k4⟩)
      refine ⟨pp, _, t, _, rfl, rfl, SqL.of (k6 _ _ npa h5), e1, ?_⟩
      have r4 := x4 _ _ (x3 _ _ hr1)
      have d4 := DVs.ex (x3.tr x4) _ _ hrd
      clear h5 npa hpp k4 x4 hht k3 x3 hhl S5 S4 S3 S2 s2 k6 b6 e1 hr1' hr1 hrd S0
      -- the clean row
      refine ⟨_, rfl, _, rfl, .ref r, z, l, G4, rfl, S6.ex, .lst r4 d4 hrl, by omega, fun p ks H7 e7 hp h7 hks => ?_⟩
      have S7 := S6.grow e7
      refine ⟨.ref r, p, z, l, ks, G4, rfl, S7.ex, .lst r4 d4 hrl, ok, by omega, by omega, h7, fun cl cv H8 e8 hcl h8 cd => ?_⟩
      rw [mrg_congr (g' := cleanG (nmOf l)) l 0 z (fun k _ hk => by
        have hk' : k < l.length := by omega
        by_cases hc : cleanG (nmOf l) k = true
        · rw [hc]
          exact decide_eq_true ((hks k).mpr ⟨hk', hc⟩)
        · rw [Bool.eq_false_iff.mpr hc]
          exact decide_eq_false fun h => hc ((hks k).mp h).2)] at cd
      have okc := mrg_ok (cleanG (nmOf l)) l 0 z ok
      have totc := mrg_tot (cleanG (nmOf l)) l 0 z
      have lenc := mrg_len (cleanG (nmOf l)) l 0 z
      have two := clean_two z l
      generalize hcz : (mrg (cleanG (nmOf l)) 0 z l).1 = cz at cd okc totc two
      generalize hcll : (mrg (cleanG (nmOf l)) 0 z l).2 = cL at cd okc totc lenc two
      have itc := okc.it (L := 2500) (by omega) (by decide) (by decide)
      have S8 := (S7.grow e8).know h8 (S7.bx.ne hcl) (S7.kp.none S7.bx hcl) (S7.ex.free hcl)
      have x8 : Ex G4 (upd G4 cl (.lst cv)) := Ex.new (S7.ex.free hcl)
      have c8 : upd G4 cl (.lst cv) cl = some (.lst cv) := upd_same
      have cd8 := DVs.ex x8 _ _ cd
      have r8 := x8 _ _ r4
      have d8 := DVs.ex x8 _ _ d4
      have hh8 := hhd.imp (x8 _ _) (x8 _ _)
      generalize upd G4 cl (.lst cv) = G8 at S8 x8 c8 cd8 r8 d8 hh8
      clear hhd d4 r4 cd h8 hcl e8 S7 hks h7 hp e7 S6 x8
      have hdv : DV O G8 (.ref hh) (.lst (toD z l)) ∨ DV O G8 (.ref hh) (.tup (toD z l)) := hh8.imp (fun h => .lst h d8 hrl) (fun h => .tup h d8 hrl)
      obtain ⟨p1, p2, p3, p4, p5, p6⟩ := (rowP it).list (by rw [toD_len]; omega)
      obtain ⟨c1, c2, c3, c4, c5, c6⟩ := (rowP itc).list (by rw [toD_len]; omega)
      refine ⟨3, rfl, by decide, by decide, ?_⟩
      refine for_range (n := 3) (fun j σ H' => ∃ z6 z7 z8 z9, σ = [some (.ref sc), some (.int (0 + (i : Nat))), some (.ref a), some (.ref r), some (.ref hh), some (.ref cl), z6, z7, z8, z9] ∧ Sta H0 H1 G8 H' a (4000 + 30 * j))
        ⟨_, _, _, _, rfl, S8.le (by omega)⟩ ?_ ?_
      · rintro j σ H9 hj ⟨z6, z7, z8, z9, rfl, S9⟩
        refine ⟨_, rfl, _, rfl, r, rv, rfl, .inl (SqL.of (S9.ex _ _ r8)), _, _, rfl, rfl, ⟨by decide, by decide⟩, a, _, l.length, (by show [V.ref a, V.int (((rv.length : Nat) : Int) / 2)] = _; rw [half]), S9.bx, by omega, by omega, fun mp ks H10 k10 b10 hmp nmp h10 hks hkl => ?_⟩
        have fmp := S9.kp.none S9.bx hmp
        have gmp := S9.ex.free hmp
        have S10 := (S9.draw k10 b10).know h10 nmp fmp gmp
        have x10 : Ex G8 (upd G8 mp (.lst (intsV ks))) := Ex.new gmp
        have m10 : upd G8 mp (.lst (intsV ks)) mp = some (.lst (intsV ks)) := upd_same
        generalize upd G8 mp (.lst (intsV ks)) = G10 at S10 x10 m10
        -- the numbers as they are handed
        refine ⟨_, rfl, mp, _, rfl, .inl (SqL.of h10), fun ml hml => ?_⟩
        have S11 := S10.new hml (.lst (intsV ks))
        have x11 : Ex G10 (upd G10 ml (.lst (intsV ks))) := S10.enew hml
        have m11 : upd G10 ml (.lst (intsV ks)) ml = some (.lst (intsV ks)) := upd_same
        generalize upd G10 ml (.lst (intsV ks)) = G11 at S11 x11 m11
        generalize upd H10 ml (.lst (intsV ks)) = H11 at S11 ⊢
        refine ⟨_, rfl, mp, _, rfl, .inl ⟨SqL.of (S11.ex _ _ (x11 _ _ m10)), fun mt hmt => ?_⟩⟩
        have S12 := S11.new hmt (.tup (intsV ks))
        have x12 : Ex G11 (upd G11 mt (.tup (intsV ks))) := S11.enew hmt
        have m12 : upd G11 mt (.tup (intsV ks)) mt = some (.tup (intsV ks)) := upd_same
        generalize upd G11 mt (.tup (intsV ks)) = G12 at S12 x12 m12
        generalize upd H11 mt (.tup (intsV ks)) = H12 at S12 ⊢
        refine ⟨(by show 2 ≤ sizeLine; decide), fun pp hpp => ?_⟩
        have npa := S12.bx.ne hpp
        have S13 := S12.hid hpp (.lst [.ref ml, .ref mt])
        have h13 : upd H12 pp (.lst [.ref ml, .ref mt]) pp = some (.lst [.ref ml, .ref mt]) := upd_same
        generalize upd H12 pp (.lst [.ref ml, .ref mt]) = H13 at S13 h13 ⊢
        refine ⟨_, rfl, a, _, 2, rfl, S13.bx, by omega, by decide, by decide, fun t H14 k14 b14 t0 t1 => ?_⟩
        have S14 := S13.draw k14 b14
        obtain ⟨sv, e2, ss, rfl, hss⟩ := atI_all (xs := [V.ref ml, V.ref mt]) (fun v => ∃ o, v = .ref o ∧ (G12 o = some (.lst (intsV ks)) ∨ G12 o = some (.tup (intsV ks)))) t0 (by simpa using t1) (by
          intro v hv
          simp only [List.mem_cons, List.not_mem_nil, or_false] at hv
          rcases hv with rfl | rfl
          · exact ⟨ml, rfl, .inl (x12 _ _ m11)⟩
          · exact ⟨mt, rfl, .inr m12⟩)
        refine ⟨pp, _, t, _, rfl, rfl, SqL.of (k14 _ _ npa h13), e2, ?_⟩
        have x812 : Ex G8 G12 := (x10.tr x11).tr x12
        have hss := hss.imp (S14.ex _ _) (S14.ex _ _)
        have m14 := S14.ex _ _ (x12 _ _ (x11 _ _ m10))
        have S14 : Sta H0 H1 G8 H14 a (4000 + 30 * (j + 1)) := (⟨x812.tr S14.ex, S9.ga, S14.bx, S14.kp, S9.up, S9.fr⟩ : Sta H0 H1 G8 H14 a _).le (by omega)
        have r14 := S14.ex _ _ r8
        have d14 := DVs.ex S14.ex _ _ d8
        have cc14 := S14.ex _ _ c8
        have cd14 := DVs.ex S14.ex _ _ cd8
        have hh14 := hh8.imp (S14.ex _ _) (S14.ex _ _)
        have hdv14 : DV O H14 (.ref hh) (.lst (toD z l)) ∨ DV O H14 (.ref hh) (.tup (toD z l)) := hdv.imp (·.ex S14.ex) (·.ex S14.ex)
        clear e2 h13 npa hpp m12 x12 hmt S13 S12 m11 x11 hml S11 m10 x10 S10 k14 b14 x812 gmp fmp h10 nmp hmp k10 b10
        -- without the markers
        refine ⟨_, rfl, _, rfl, .ref hh, ss, z, l, ks, H14, rfl, Ex.rfl' H14, hdv14, ok, by omega, by omega, hss, by omega, hks, fun fp fv H15 e15 hfp h15 fd => ?_⟩
        have okf := mrg_ok (fun k => decide (k ∈ ks)) l 0 z ok
        have totf := mrg_tot (fun k => decide (k ∈ ks)) l 0 z
        have lenf := mrg_len (fun k => decide (k ∈ ks)) l 0 z
        generalize hfz : (mrg (fun k => decide (k ∈ ks)) 0 z l).1 = fz at fd okf totf
        generalize hfl : (mrg (fun k => decide (k ∈ ks)) 0 z l).2 = fL at fd okf totf lenf
        have itf := okf.it (L := 2500) (by omega) (by decide) (by decide)
        obtain ⟨f1, f2, f3, f4, f5, f6⟩ := (rowP itf).list (by rw [toD_len]; omega)
        refine ⟨_, rfl, .ref fp, _, rfl, .lst (SqL.of h15) (row_dp (DVs.ex e15 _ _ fd) itf), f1, f2, f3, f4, ?_⟩
        refine ⟨_, rfl, _, rfl, .ref r, mp, z, l, ks, H14, rfl, e15, .lst r14 d14 hrl, ok, by omega, by omega, e15 _ _ m14, fun lp lv H16 e16 hlp h16 ld => ?_⟩
        rw [hfz, hfl] at ld
        have e16' := e15.tr e16
        refine ⟨.ref lp, _, rfl, .lst (SqL.of h16) (row_dp (DVs.ex e16' _ _ ld) itf), f1, f2, f3, f4, rfl, _, rfl, ?_⟩
        rw [Gd.ne_self]
        refine iteF ⟨_, rfl, hh, rv, rfl, (hh14.imp (fun h => SqL.of (e16' _ _ h)) fun h => SqT.of (e16' _ _ h)), fun l5 hl5 => ?_⟩
        have e17 : Ex H14 (upd H16 l5 (.lst rv)) := e16'.tr (Ex.new hl5)
        have f15 := e16 _ _ h15
        have f17 := (upd_ne (o := .lst rv) (ne_of_none f15 hl5)).trans f15
        have h17 : upd H16 l5 (.lst rv) l5 = some (.lst rv) := upd_same
        generalize upd H16 l5 (.lst rv) = H17 at e17 f17 h17 ⊢
        have ffp : H14 fp = none := hfp
        clear hl5 h16 hlp e16' e16 h15 hfp e15
        refine ⟨_, rfl, .list ((toD z l).map itemP), .list ((toD z l).map itemP), .lst (SqL.of h17) (row_dp (DVs.ex e17 _ _ d14) it), .lst (SqL.of (e17 _ _ r14)) (row_dp (DVs.ex e17 _ _ d14) it), p5, p5, _, rfl, ?_⟩
        rw [p6]
        refine iteF ⟨_, rfl, ss, intsV ks, rfl, (hss.imp (fun h => SqL.of (e17 _ _ h)) fun h => SqT.of (e17 _ _ h)), fun l6 hl6 => ?_⟩
        have e18 : Ex H14 (upd H17 l6 (.lst (intsV ks))) := e17.tr (Ex.new hl6)
        have f18 := (upd_ne (o := .lst (intsV ks)) (ne_of_none f17 hl6)).trans f17
        have h18 : upd H17 l6 (.lst (intsV ks)) l6 = some (.lst (intsV ks)) := upd_same
        generalize upd H17 l6 (.lst (intsV ks)) = H18 at e18 f18 h18 ⊢
        clear hl6 h17 f17 e17
        refine ⟨_, rfl, .list (ks.map fun (k : Nat) => PyData.int (k : Int)), .list (ks.map fun (k : Nat) => PyData.int (k : Int)), .lst (SqL.of h18) (dp_nats ks), .lst (SqL.of (e18 _ _ m14)) (dp_nats ks), shaped_nats ks, shaped_nats ks, _, rfl, ?_⟩
        rw [eqv_ints]
        refine iteF ?_
        -- the result may be changed
        have fvl : fv.length ≤ 150 := by rw [fd.length, toD_len]; omega
        refine ⟨_, rfl, .inl ⟨rfl, _, SqL.of f18⟩, fp, fv, _, rfl, rfl, f18, lt_200 (by omega), ?_⟩
        have e19 : Ex H14 (upd H18 fp (.lst (fv ++ [V.str "more"]))) := e18.mut ffp
        generalize upd H18 fp (.lst (fv ++ [V.str "more"])) = H19 at e19 ⊢
        clear f18 h18 e18 fvl ffp fd ld
        -- cleaned
        refine ⟨_, rfl, .ref hh, z, l, H14, rfl, e19, hdv14, ok, by omega, by omega, fun gp gv H20 e20 hgp h20 gd2 => ?_⟩
        rw [hcz, hcll] at gd2
        have fgp := e19.free hgp
        have e20' := e19.tr e20
        refine ⟨_, rfl, .ref gp, _, rfl, .lst (SqL.of h20) (row_dp (DVs.ex e20' _ _ gd2) itc), c1, c2, c3, c4, _, rfl, .ref cl, _, rfl, .lst (SqL.of (e20' _ _ cc14)) (row_dp (DVs.ex e20' _ _ cd14) itc), c1, c2, c3, c4, rfl, _, rfl, ?_⟩
        rw [Gd.ne_self]
        have gdx := DVs.ex e20' _ _ gd2
        have gvl : gv.length ≤ 150 := by rw [gd2.length, toD_len]; omega
        refine iteF ⟨_, rfl, .ref gp, cz, cL, H20, rfl, Ex.rfl' H20, .inl (.lst h20 gdx (by omega)), okc, by omega, by omega, fun kp kv H21 e21 hkp h21 kd => ?_⟩
        rw [two, hcz, hcll] at kd
        have e21' := e20'.tr e21
        refine ⟨.ref kp, _, rfl, .lst (SqL.of h21) (row_dp (DVs.ex e21 _ _ kd) itc), c1, c2, c3, c4, _, rfl, .ref cl, _, rfl, .lst (SqL.of (e21' _ _ cc14)) (row_dp (DVs.ex e21' _ _ cd14) itc), c1, c2, c3, c4, rfl, _, rfl, ?_⟩
        rw [Gd.ne_self]
        refine iteF ⟨_, rfl, hh, rv, rfl, (hh14.imp (fun h => SqL.of (e21' _ _ h)) fun h => SqT.of (e21' _ _ h)), fun l7 hl7 => ?_⟩
        have e22 : Ex H14 (upd H21 l7 (.lst rv)) := e21'.tr (Ex.new hl7)
        have g21 := e21 _ _ h20
        have g22 := (upd_ne (o := .lst rv) (ne_of_none g21 hl7)).trans g21
        have h22 : upd H21 l7 (.lst rv) l7 = some (.lst rv) := upd_same
        generalize upd H21 l7 (.lst rv) = H22 at e22 g22 h22 ⊢
        refine ⟨_, rfl, .list ((toD z l).map itemP), .list ((toD z l).map itemP), .lst (SqL.of h22) (row_dp (DVs.ex e22 _ _ d14) it), .lst (SqL.of (e22 _ _ r14)) (row_dp (DVs.ex e22 _ _ d14) it), p5, p5, _, rfl, ?_⟩
        rw [p6]
        refine iteF ⟨_, rfl, .inl ⟨rfl, _, SqL.of g22⟩, gp, gv, rfl, rfl, g22, ?_⟩
        exact ⟨_, _, _, _, rfl, S14.grow (e22.mut fgp)⟩
      · rintro σ H9 ⟨z6, z7, z8, z9, rfl, S9⟩
        exact ⟨_, _, _, _, _, _, _, _, _, rfl, e0.tr (S9.up.tr S9.ex)⟩
end

theorem othNo {K : PySem.W.Frag} : OthOk K (fun _ => False) := fun _ _ _ h => h.elim
theorem all_mk {l : PySem.W.OpenLaw} {w : World} {K : PySem.W.Frag} {h : Heap} {mg : Str → Option Value} {fa f_is_integer f_is_name f_is_piece f_is_marker f_has_row_length f_first_misfit f_check_items f_check_row f_places_by_name f_without_markers f_clean_row f_are_marker_numbers f_merged f_L_cell f_L_box f_L_take f_L_names f_L_piece f_L_row f_L_left f_L_wrong_marks f_L_numbers f_law : Addr} (X : K.In h) (G : h.Ns mainGlobals mg) (hfa : mg "law" = some (.ref fa))
    {od_is_integer an_is_integer od_is_name an_is_name od_is_piece an_is_piece od_is_marker an_is_marker od_has_row_length an_has_row_length od_first_misfit an_first_misfit od_check_items an_check_items od_check_row an_check_row od_places_by_name an_places_by_name od_without_markers an_without_markers od_clean_row an_clean_row od_are_marker_numbers an_are_marker_numbers od_merged an_merged od_L_cell an_L_cell od_L_box an_L_box od_L_take an_L_take od_L_names an_L_names od_L_piece an_L_piece od_L_row an_L_row od_L_left an_L_left od_L_wrong_marks an_L_wrong_marks od_L_numbers an_L_numbers od_law an_law : Option Addr} {sl_is_integer sl_is_name sl_is_piece sl_is_marker sl_has_row_length sl_first_misfit sl_check_items sl_check_row sl_places_by_name sl_without_markers sl_clean_row sl_are_marker_numbers sl_merged sl_L_cell sl_L_box sl_L_take sl_L_names sl_L_piece sl_L_row sl_L_left sl_L_wrong_marks sl_L_numbers sl_law : Array (Option Value)}
    {oc_is_integer kV_is_integer dc_is_integer pm_is_integer cd_is_integer ct_is_integer oc_is_name kV_is_name dc_is_name pm_is_name cd_is_name ct_is_name oc_is_piece kV_is_piece dc_is_piece pm_is_piece cd_is_piece ct_is_piece oc_is_marker kV_is_marker dc_is_marker pm_is_marker cd_is_marker ct_is_marker oc_has_row_length kV_has_row_length dc_has_row_length pm_has_row_length cd_has_row_length ct_has_row_length oc_first_misfit kV_first_misfit dc_first_misfit pm_first_misfit cd_first_misfit ct_first_misfit oc_check_items kV_check_items dc_check_items pm_check_items cd_check_items ct_check_items oc_check_row kV_check_row dc_check_row pm_check_row cd_check_row ct_check_row oc_places_by_name kV_places_by_name dc_places_by_name pm_places_by_name cd_places_by_name ct_places_by_name oc_without_markers kV_without_markers dc_without_markers pm_without_markers cd_without_markers ct_without_markers oc_clean_row kV_clean_row dc_clean_row pm_clean_row cd_clean_row ct_clean_row oc_are_marker_numbers kV_are_marker_numbers dc_are_marker_numbers pm_are_marker_numbers cd_are_marker_numbers ct_are_marker_numbers oc_merged kV_merged dc_merged pm_merged cd_merged ct_merged oc_L_cell kV_L_cell dc_L_cell pm_L_cell cd_L_cell ct_L_cell oc_L_box kV_L_box dc_L_box pm_L_box cd_L_box ct_L_box oc_L_take kV_L_take dc_L_take pm_L_take cd_L_take ct_L_take oc_L_names kV_L_names dc_L_names pm_L_names cd_L_names ct_L_names oc_L_piece kV_L_piece dc_L_piece pm_L_piece cd_L_piece ct_L_piece oc_L_row kV_L_row dc_L_row pm_L_row cd_L_row ct_L_row oc_L_left kV_L_left dc_L_left pm_L_left cd_L_left ct_L_left oc_L_wrong_marks kV_L_wrong_marks dc_L_wrong_marks pm_L_wrong_marks cd_L_wrong_marks ct_L_wrong_marks oc_L_numbers kV_L_numbers dc_L_numbers pm_L_numbers cd_L_numbers ct_L_numbers oc_law kV_law dc_law pm_law cd_law ct_law : Value} {t_NAME_LETTERS : Tok}
    (a_is_integer : PySem.W.nsIn K mainGlobals "is_integer" = some (some (.ref f_is_integer)))
    (l_is_integer : K.lookup f_is_integer = some ⟨oc_is_integer, od_is_integer, .func (PySem.W.fnOf "is_integer" "is_integer" (defArgs s_is_integer) (defBody s_is_integer) (defScope s_is_integer) .none kV_is_integer dc_is_integer pm_is_integer an_is_integer cd_is_integer ct_is_integer), sl_is_integer⟩)
    (c_is_integer : PySem.W.codeIn K cd_is_integer "is_integer" = true)
    (k_is_integer : PySem.W.keepIn K (.ref f_is_integer) = true)
    (a_is_name : PySem.W.nsIn K mainGlobals "is_name" = some (some (.ref f_is_name)))
    (l_is_name : K.lookup f_is_name = some ⟨oc_is_name, od_is_name, .func (PySem.W.fnOf "is_name" "is_name" (defArgs s_is_name) (defBody s_is_name) (defScope s_is_name) .none kV_is_name dc_is_name pm_is_name an_is_name cd_is_name ct_is_name), sl_is_name⟩)
    (c_is_name : PySem.W.codeIn K cd_is_name "is_name" = true)
    (k_is_name : PySem.W.keepIn K (.ref f_is_name) = true)
    (a_is_piece : PySem.W.nsIn K mainGlobals "is_piece" = some (some (.ref f_is_piece)))
    (l_is_piece : K.lookup f_is_piece = some ⟨oc_is_piece, od_is_piece, .func (PySem.W.fnOf "is_piece" "is_piece" (defArgs s_is_piece) (defBody s_is_piece) (defScope s_is_piece) .none kV_is_piece dc_is_piece pm_is_piece an_is_piece cd_is_piece ct_is_piece), sl_is_piece⟩)
    (c_is_piece : PySem.W.codeIn K cd_is_piece "is_piece" = true)
    (k_is_piece : PySem.W.keepIn K (.ref f_is_piece) = true)
    (a_is_marker : PySem.W.nsIn K mainGlobals "is_marker" = some (some (.ref f_is_marker)))
    (l_is_marker : K.lookup f_is_marker = some ⟨oc_is_marker, od_is_marker, .func (PySem.W.fnOf "is_marker" "is_marker" (defArgs s_is_marker) (defBody s_is_marker) (defScope s_is_marker) .none kV_is_marker dc_is_marker pm_is_marker an_is_marker cd_is_marker ct_is_marker), sl_is_marker⟩)
    (c_is_marker : PySem.W.codeIn K cd_is_marker "is_marker" = true)
    (k_is_marker : PySem.W.keepIn K (.ref f_is_marker) = true)
    (a_has_row_length : PySem.W.nsIn K mainGlobals "has_row_length" = some (some (.ref f_has_row_length)))
    (l_has_row_length : K.lookup f_has_row_length = some ⟨oc_has_row_length, od_has_row_length, .func (PySem.W.fnOf "has_row_length" "has_row_length" (defArgs s_has_row_length) (defBody s_has_row_length) (defScope s_has_row_length) .none kV_has_row_length dc_has_row_length pm_has_row_length an_has_row_length cd_has_row_length ct_has_row_length), sl_has_row_length⟩)
    (c_has_row_length : PySem.W.codeIn K cd_has_row_length "has_row_length" = true)
    (k_has_row_length : PySem.W.keepIn K (.ref f_has_row_length) = true)
    (a_first_misfit : PySem.W.nsIn K mainGlobals "first_misfit" = some (some (.ref f_first_misfit)))
    (l_first_misfit : K.lookup f_first_misfit = some ⟨oc_first_misfit, od_first_misfit, .func (PySem.W.fnOf "first_misfit" "first_misfit" (defArgs s_first_misfit) (defBody s_first_misfit) (defScope s_first_misfit) .none kV_first_misfit dc_first_misfit pm_first_misfit an_first_misfit cd_first_misfit ct_first_misfit), sl_first_misfit⟩)
    (c_first_misfit : PySem.W.codeIn K cd_first_misfit "first_misfit" = true)
    (k_first_misfit : PySem.W.keepIn K (.ref f_first_misfit) = true)
    (a_check_items : PySem.W.nsIn K mainGlobals "check_items" = some (some (.ref f_check_items)))
    (l_check_items : K.lookup f_check_items = some ⟨oc_check_items, od_check_items, .func (PySem.W.fnOf "check_items" "check_items" (defArgs s_check_items) (defBody s_check_items) (defScope s_check_items) .none kV_check_items dc_check_items pm_check_items an_check_items cd_check_items ct_check_items), sl_check_items⟩)
    (c_check_items : PySem.W.codeIn K cd_check_items "check_items" = true)
    (k_check_items : PySem.W.keepIn K (.ref f_check_items) = true)
    (a_check_row : PySem.W.nsIn K mainGlobals "check_row" = some (some (.ref f_check_row)))
    (l_check_row : K.lookup f_check_row = some ⟨oc_check_row, od_check_row, .func (PySem.W.fnOf "check_row" "check_row" (defArgs s_check_row) (defBody s_check_row) (defScope s_check_row) .none kV_check_row dc_check_row pm_check_row an_check_row cd_check_row ct_check_row), sl_check_row⟩)
    (c_check_row : PySem.W.codeIn K cd_check_row "check_row" = true)
    (k_check_row : PySem.W.keepIn K (.ref f_check_row) = true)
    (a_places_by_name : PySem.W.nsIn K mainGlobals "places_by_name" = some (some (.ref f_places_by_name)))
    (l_places_by_name : K.lookup f_places_by_name = some ⟨oc_places_by_name, od_places_by_name, .func (PySem.W.fnOf "places_by_name" "places_by_name" (defArgs s_places_by_name) (defBody s_places_by_name) (defScope s_places_by_name) .none kV_places_by_name dc_places_by_name pm_places_by_name an_places_by_name cd_places_by_name ct_places_by_name), sl_places_by_name⟩)
    (c_places_by_name : PySem.W.codeIn K cd_places_by_name "places_by_name" = true)
    (k_places_by_name : PySem.W.keepIn K (.ref f_places_by_name) = true)
    (a_without_markers : PySem.W.nsIn K mainGlobals "without_markers" = some (some (.ref f_without_markers)))
    (l_without_markers : K.lookup f_without_markers = some ⟨oc_without_markers, od_without_markers, .func (PySem.W.fnOf "without_markers" "without_markers" (defArgs s_without_markers) (defBody s_without_markers) (defScope s_without_markers) .none kV_without_markers dc_without_markers pm_without_markers an_without_markers cd_without_markers ct_without_markers), sl_without_markers⟩)
    (c_without_markers : PySem.W.codeIn K cd_without_markers "without_markers" = true)
    (k_without_markers : PySem.W.keepIn K (.ref f_without_markers) = true)
    (a_clean_row : PySem.W.nsIn K mainGlobals "clean_row" = some (some (.ref f_clean_row)))
    (l_clean_row : K.lookup f_clean_row = some ⟨oc_clean_row, od_clean_row, .func (PySem.W.fnOf "clean_row" "clean_row" (defArgs s_clean_row) (defBody s_clean_row) (defScope s_clean_row) .none kV_clean_row dc_clean_row pm_clean_row an_clean_row cd_clean_row ct_clean_row), sl_clean_row⟩)
    (c_clean_row : PySem.W.codeIn K cd_clean_row "clean_row" = true)
    (k_clean_row : PySem.W.keepIn K (.ref f_clean_row) = true)
    (a_are_marker_numbers : PySem.W.nsIn K mainGlobals "_are_marker_numbers" = some (some (.ref f_are_marker_numbers)))
    (l_are_marker_numbers : K.lookup f_are_marker_numbers = some ⟨oc_are_marker_numbers, od_are_marker_numbers, .func (PySem.W.fnOf "_are_marker_numbers" "_are_marker_numbers" (defArgs s_are_marker_numbers) (defBody s_are_marker_numbers) (defScope s_are_marker_numbers) .none kV_are_marker_numbers dc_are_marker_numbers pm_are_marker_numbers an_are_marker_numbers cd_are_marker_numbers ct_are_marker_numbers), sl_are_marker_numbers⟩)
    (c_are_marker_numbers : PySem.W.codeIn K cd_are_marker_numbers "_are_marker_numbers" = true)
    (k_are_marker_numbers : PySem.W.keepIn K (.ref f_are_marker_numbers) = true)
    (a_merged : PySem.W.nsIn K mainGlobals "_merged" = some (some (.ref f_merged)))
    (l_merged : K.lookup f_merged = some ⟨oc_merged, od_merged, .func (PySem.W.fnOf "_merged" "_merged" (defArgs s_merged) (defBody s_merged) (defScope s_merged) .none kV_merged dc_merged pm_merged an_merged cd_merged ct_merged), sl_merged⟩)
    (c_merged : PySem.W.codeIn K cd_merged "_merged" = true)
    (k_merged : PySem.W.keepIn K (.ref f_merged) = true)
    (a_L_cell : PySem.W.nsIn K mainGlobals "_law_cell" = some (some (.ref f_L_cell)))
    (l_L_cell : K.lookup f_L_cell = some ⟨oc_L_cell, od_L_cell, .func (PySem.W.fnOf "_law_cell" "_law_cell" (defArgs s_L_cell) (defBody s_L_cell) (defScope s_L_cell) .none kV_L_cell dc_L_cell pm_L_cell an_L_cell cd_L_cell ct_L_cell), sl_L_cell⟩)
    (c_L_cell : PySem.W.codeIn K cd_L_cell "_law_cell" = true)
    (k_L_cell : PySem.W.keepIn K (.ref f_L_cell) = true)
    (a_L_box : PySem.W.nsIn K mainGlobals "_law_box" = some (some (.ref f_L_box)))
    (l_L_box : K.lookup f_L_box = some ⟨oc_L_box, od_L_box, .func (PySem.W.fnOf "_law_box" "_law_box" (defArgs s_L_box) (defBody s_L_box) (defScope s_L_box) .none kV_L_box dc_L_box pm_L_box an_L_box cd_L_box ct_L_box), sl_L_box⟩)
    (c_L_box : PySem.W.codeIn K cd_L_box "_law_box" = true)
    (k_L_box : PySem.W.keepIn K (.ref f_L_box) = true)
    (a_L_take : PySem.W.nsIn K mainGlobals "_law_take" = some (some (.ref f_L_take)))
    (l_L_take : K.lookup f_L_take = some ⟨oc_L_take, od_L_take, .func (PySem.W.fnOf "_law_take" "_law_take" (defArgs s_L_take) (defBody s_L_take) (defScope s_L_take) .none kV_L_take dc_L_take pm_L_take an_L_take cd_L_take ct_L_take), sl_L_take⟩)
    (c_L_take : PySem.W.codeIn K cd_L_take "_law_take" = true)
    (k_L_take : PySem.W.keepIn K (.ref f_L_take) = true)
    (a_L_names : PySem.W.nsIn K mainGlobals "_law_names" = some (some (.ref f_L_names)))
    (l_L_names : K.lookup f_L_names = some ⟨oc_L_names, od_L_names, .func (PySem.W.fnOf "_law_names" "_law_names" (defArgs s_L_names) (defBody s_L_names) (defScope s_L_names) .none kV_L_names dc_L_names pm_L_names an_L_names cd_L_names ct_L_names), sl_L_names⟩)
    (c_L_names : PySem.W.codeIn K cd_L_names "_law_names" = true)
    (k_L_names : PySem.W.keepIn K (.ref f_L_names) = true)
    (a_L_piece : PySem.W.nsIn K mainGlobals "_law_piece" = some (some (.ref f_L_piece)))
    (l_L_piece : K.lookup f_L_piece = some ⟨oc_L_piece, od_L_piece, .func (PySem.W.fnOf "_law_piece" "_law_piece" (defArgs s_L_piece) (defBody s_L_piece) (defScope s_L_piece) .none kV_L_piece dc_L_piece pm_L_piece an_L_piece cd_L_piece ct_L_piece), sl_L_piece⟩)
    (c_L_piece : PySem.W.codeIn K cd_L_piece "_law_piece" = true)
    (k_L_piece : PySem.W.keepIn K (.ref f_L_piece) = true)
    (a_L_row : PySem.W.nsIn K mainGlobals "_law_row" = some (some (.ref f_L_row)))
    (l_L_row : K.lookup f_L_row = some ⟨oc_L_row, od_L_row, .func (PySem.W.fnOf "_law_row" "_law_row" (defArgs s_L_row) (defBody s_L_row) (defScope s_L_row) .none kV_L_row dc_L_row pm_L_row an_L_row cd_L_row ct_L_row), sl_L_row⟩)
    (c_L_row : PySem.W.codeIn K cd_L_row "_law_row" = true)
    (k_L_row : PySem.W.keepIn K (.ref f_L_row) = true)
    (a_L_left : PySem.W.nsIn K mainGlobals "_law_left" = some (some (.ref f_L_left)))
    (l_L_left : K.lookup f_L_left = some ⟨oc_L_left, od_L_left, .func (PySem.W.fnOf "_law_left" "_law_left" (defArgs s_L_left) (defBody s_L_left) (defScope s_L_left) .none kV_L_left dc_L_left pm_L_left an_L_left cd_L_left ct_L_left), sl_L_left⟩)
    (c_L_left : PySem.W.codeIn K cd_L_left "_law_left" = true)
    (k_L_left : PySem.W.keepIn K (.ref f_L_left) = true)
    (a_L_wrong_marks : PySem.W.nsIn K mainGlobals "_law_wrong_marks" = some (some (.ref f_L_wrong_marks)))
    (l_L_wrong_marks : K.lookup f_L_wrong_marks = some ⟨oc_L_wrong_marks, od_L_wrong_marks, .func (PySem.W.fnOf "_law_wrong_marks" "_law_wrong_marks" (defArgs s_L_wrong_marks) (defBody s_L_wrong_marks) (defScope s_L_wrong_marks) .none kV_L_wrong_marks dc_L_wrong_marks pm_L_wrong_marks an_L_wrong_marks cd_L_wrong_marks ct_L_wrong_marks), sl_L_wrong_marks⟩)
    (c_L_wrong_marks : PySem.W.codeIn K cd_L_wrong_marks "_law_wrong_marks" = true)
    (k_L_wrong_marks : PySem.W.keepIn K (.ref f_L_wrong_marks) = true)
    (a_L_numbers : PySem.W.nsIn K mainGlobals "_law_numbers" = some (some (.ref f_L_numbers)))
    (l_L_numbers : K.lookup f_L_numbers = some ⟨oc_L_numbers, od_L_numbers, .func (PySem.W.fnOf "_law_numbers" "_law_numbers" (defArgs s_L_numbers) (defBody s_L_numbers) (defScope s_L_numbers) .none kV_L_numbers dc_L_numbers pm_L_numbers an_L_numbers cd_L_numbers ct_L_numbers), sl_L_numbers⟩)
    (c_L_numbers : PySem.W.codeIn K cd_L_numbers "_law_numbers" = true)
    (k_L_numbers : PySem.W.keepIn K (.ref f_L_numbers) = true)
    (a_law : PySem.W.nsIn K mainGlobals "law" = some (some (.ref f_law)))
    (l_law : K.lookup f_law = some ⟨oc_law, od_law, .func (PySem.W.fnOf "law" "law" (defArgs s_law) (defBody s_law) (defScope s_law) .none kV_law dc_law pm_law an_law cd_law ct_law), sl_law⟩)
    (c_law : PySem.W.codeIn K cd_law "law" = true)
    (k_law : PySem.W.keepIn K (.ref f_law) = true)
    (z_all : PySem.W.nsIn K mainGlobals "all" = some none)
    (z_bool : PySem.W.nsIn K mainGlobals "bool" = some none)
    (z_enumerate : PySem.W.nsIn K mainGlobals "enumerate" = some none)
    (z_int : PySem.W.nsIn K mainGlobals "int" = some none)
    (z_isinstance : PySem.W.nsIn K mainGlobals "isinstance" = some none)
    (z_len : PySem.W.nsIn K mainGlobals "len" = some none)
    (z_list : PySem.W.nsIn K mainGlobals "list" = some none)
    (z_max : PySem.W.nsIn K mainGlobals "max" = some none)
    (z_min : PySem.W.nsIn K mainGlobals "min" = some none)
    (z_range : PySem.W.nsIn K mainGlobals "range" = some none)
    (z_repr : PySem.W.nsIn K mainGlobals "repr" = some none)
    (z_str : PySem.W.nsIn K mainGlobals "str" = some none)
    (z_tuple : PySem.W.nsIn K mainGlobals "tuple" = some none)
    (g_NAME_LETTERS : PySem.W.nsIn K mainGlobals "NAME_LETTERS" = some (some (.int 4 t_NAME_LETTERS)))
    : ∃ fd : FuncData, (∀ (s : Shared) (v : Value), BindsTo s fd ⟨[v], []⟩ [("_law_script", v)]) ∧ ∀ base : Heap, K.In base → base.Ns mainGlobals mg → FnG l.prog w K mg base CX0 9 fa fd ["_law_script"] (spLaw K) := by
  have e := hfa.symm.trans (PySem.W.mg_of X G a_law)
  cases e
  have T : Txt K mg := { z_all := PySem.W.mg_none_of X G z_all, z_bool := PySem.W.mg_none_of X G z_bool, z_enumerate := PySem.W.mg_none_of X G z_enumerate, z_int := PySem.W.mg_none_of X G z_int, z_isinstance := PySem.W.mg_none_of X G z_isinstance, z_len := PySem.W.mg_none_of X G z_len, z_list := PySem.W.mg_none_of X G z_list, z_max := PySem.W.mg_none_of X G z_max, z_min := PySem.W.mg_none_of X G z_min, z_range := PySem.W.mg_none_of X G z_range, z_repr := PySem.W.mg_none_of X G z_repr, z_str := PySem.W.mg_none_of X G z_str, z_tuple := PySem.W.mg_none_of X G z_tuple, g_NAME_LETTERS := ⟨_, PySem.W.mg_of X G g_NAME_LETTERS⟩ }
  have F_is_integer := fun_mk (st := s_is_integer) l_is_integer c_is_integer k_is_integer
  have b_is_integer := F_is_integer.binds (ps := ["value", "low", "high"]) fun _ _ _ _ _ _ us hl => match us, hl with | [_, _, _], _ => rfl
  have D_is_integer : Df K mg "is_integer" f_is_integer _ ["value", "low", "high"] := ⟨PySem.W.mg_of X G a_is_integer, k_is_integer, b_is_integer⟩
  have F_is_name := fun_mk (st := s_is_name) l_is_name c_is_name k_is_name
  have b_is_name := F_is_name.binds (ps := ["value"]) fun _ _ _ _ _ _ us hl => match us, hl with | [_], _ => rfl
  have D_is_name : Df K mg "is_name" f_is_name _ ["value"] := ⟨PySem.W.mg_of X G a_is_name, k_is_name, b_is_name⟩
  have F_is_piece := fun_mk (st := s_is_piece) l_is_piece c_is_piece k_is_piece
  have b_is_piece := F_is_piece.binds (ps := ["value"]) fun _ _ _ _ _ _ us hl => match us, hl with | [_], _ => rfl
  have D_is_piece : Df K mg "is_piece" f_is_piece _ ["value"] := ⟨PySem.W.mg_of X G a_is_piece, k_is_piece, b_is_piece⟩
  have F_is_marker := fun_mk (st := s_is_marker) l_is_marker c_is_marker k_is_marker
  have b_is_marker := F_is_marker.binds (ps := ["value"]) fun _ _ _ _ _ _ us hl => match us, hl with | [_], _ => rfl
  have D_is_marker : Df K mg "is_marker" f_is_marker _ ["value"] := ⟨PySem.W.mg_of X G a_is_marker, k_is_marker, b_is_marker⟩
  have F_has_row_length := fun_mk (st := s_has_row_length) l_has_row_length c_has_row_length k_has_row_length
  have b_has_row_length := F_has_row_length.binds (ps := ["value"]) fun _ _ _ _ _ _ us hl => match us, hl with | [_], _ => rfl
  have D_has_row_length : Df K mg "has_row_length" f_has_row_length _ ["value"] := ⟨PySem.W.mg_of X G a_has_row_length, k_has_row_length, b_has_row_length⟩
  have F_first_misfit := fun_mk (st := s_first_misfit) l_first_misfit c_first_misfit k_first_misfit
  have b_first_misfit := F_first_misfit.binds (ps := ["items"]) fun _ _ _ _ _ _ us hl => match us, hl with | [_], _ => rfl
  have D_first_misfit : Df K mg "first_misfit" f_first_misfit _ ["items"] := ⟨PySem.W.mg_of X G a_first_misfit, k_first_misfit, b_first_misfit⟩
  have F_check_items := fun_mk (st := s_check_items) l_check_items c_check_items k_check_items
  have b_check_items := F_check_items.binds (ps := ["items"]) fun _ _ _ _ _ _ us hl => match us, hl with | [_], _ => rfl
  have D_check_items : Df K mg "check_items" f_check_items _ ["items"] := ⟨PySem.W.mg_of X G a_check_items, k_check_items, b_check_items⟩
  have F_check_row := fun_mk (st := s_check_row) l_check_row c_check_row k_check_row
  have b_check_row := F_check_row.binds (ps := ["row"]) fun _ _ _ _ _ _ us hl => match us, hl with | [_], _ => rfl
  have D_check_row : Df K mg "check_row" f_check_row _ ["row"] := ⟨PySem.W.mg_of X G a_check_row, k_check_row, b_check_row⟩
  have F_places_by_name := fun_mk (st := s_places_by_name) l_places_by_name c_places_by_name k_places_by_name
  have b_places_by_name := F_places_by_name.binds (ps := ["row"]) fun _ _ _ _ _ _ us hl => match us, hl with | [_], _ => rfl
  have D_places_by_name : Df K mg "places_by_name" f_places_by_name _ ["row"] := ⟨PySem.W.mg_of X G a_places_by_name, k_places_by_name, b_places_by_name⟩
  have F_without_markers := fun_mk (st := s_without_markers) l_without_markers c_without_markers k_without_markers
  have b_without_markers := F_without_markers.binds (ps := ["row", "numbers"]) fun _ _ _ _ _ _ us hl => match us, hl with | [_, _], _ => rfl
  have D_without_markers : Df K mg "without_markers" f_without_markers _ ["row", "numbers"] := ⟨PySem.W.mg_of X G a_without_markers, k_without_markers, b_without_markers⟩
  have F_clean_row := fun_mk (st := s_clean_row) l_clean_row c_clean_row k_clean_row
  have b_clean_row := F_clean_row.binds (ps := ["row"]) fun _ _ _ _ _ _ us hl => match us, hl with | [_], _ => rfl
  have D_clean_row : Df K mg "clean_row" f_clean_row _ ["row"] := ⟨PySem.W.mg_of X G a_clean_row, k_clean_row, b_clean_row⟩
  have F_are_marker_numbers := fun_mk (st := s_are_marker_numbers) l_are_marker_numbers c_are_marker_numbers k_are_marker_numbers
  have b_are_marker_numbers := F_are_marker_numbers.binds (ps := ["value", "total"]) fun _ _ _ _ _ _ us hl => match us, hl with | [_, _], _ => rfl
  have D_are_marker_numbers : Df K mg "_are_marker_numbers" f_are_marker_numbers _ ["value", "total"] := ⟨PySem.W.mg_of X G a_are_marker_numbers, k_are_marker_numbers, b_are_marker_numbers⟩
  have F_merged := fun_mk (st := s_merged) l_merged c_merged k_merged
  have b_merged := F_merged.binds (ps := ["row", "kept"]) fun _ _ _ _ _ _ us hl => match us, hl with | [_, _], _ => rfl
  have D_merged : Df K mg "_merged" f_merged _ ["row", "kept"] := ⟨PySem.W.mg_of X G a_merged, k_merged, b_merged⟩
  have F_L_cell := fun_mk (st := s_L_cell) l_L_cell c_L_cell k_L_cell
  have b_L_cell := F_L_cell.binds (ps := ["_law_script", "_law_k"]) fun _ _ _ _ _ _ us hl => match us, hl with | [_, _], _ => rfl
  have D_L_cell : Df K mg "_law_cell" f_L_cell _ ["_law_script", "_law_k"] := ⟨PySem.W.mg_of X G a_L_cell, k_L_cell, b_L_cell⟩
  have F_L_box := fun_mk (st := s_L_box) l_L_box c_L_box k_L_box
  have b_L_box := F_L_box.binds (ps := ["_law_cell_here"]) fun _ _ _ _ _ _ us hl => match us, hl with | [_], _ => rfl
  have D_L_box : Df K mg "_law_box" f_L_box _ ["_law_cell_here"] := ⟨PySem.W.mg_of X G a_L_box, k_L_box, b_L_box⟩
  have F_L_take := fun_mk (st := s_L_take) l_L_take c_L_take k_L_take
  have b_L_take := F_L_take.binds (ps := ["_law_box_here", "_law_many"]) fun _ _ _ _ _ _ us hl => match us, hl with | [_, _], _ => rfl
  have D_L_take : Df K mg "_law_take" f_L_take _ ["_law_box_here", "_law_many"] := ⟨PySem.W.mg_of X G a_L_take, k_L_take, b_L_take⟩
  have F_L_names := fun_mk (st := s_L_names) l_L_names c_L_names k_L_names
  have b_L_names := F_L_names.binds (ps := ["_law_box_here", "_law_many"]) fun _ _ _ _ _ _ us hl => match us, hl with | [_, _], _ => rfl
  have D_L_names : Df K mg "_law_names" f_L_names _ ["_law_box_here", "_law_many"] := ⟨PySem.W.mg_of X G a_L_names, k_L_names, b_L_names⟩
  have F_L_piece := fun_mk (st := s_L_piece) l_L_piece c_L_piece k_L_piece
  have b_L_piece := F_L_piece.binds (ps := ["_law_box_here"]) fun _ _ _ _ _ _ us hl => match us, hl with | [_], _ => rfl
  have D_L_piece : Df K mg "_law_piece" f_L_piece _ ["_law_box_here"] := ⟨PySem.W.mg_of X G a_L_piece, k_L_piece, b_L_piece⟩
  have F_L_row := fun_mk (st := s_L_row) l_L_row c_L_row k_L_row
  have b_L_row := F_L_row.binds (ps := ["_law_box_here"]) fun _ _ _ _ _ _ us hl => match us, hl with | [_], _ => rfl
  have D_L_row : Df K mg "_law_row" f_L_row _ ["_law_box_here"] := ⟨PySem.W.mg_of X G a_L_row, k_L_row, b_L_row⟩
  have F_L_left := fun_mk (st := s_L_left) l_L_left c_L_left k_L_left
  have b_L_left := F_L_left.binds (ps := ["_law_row_here", "_law_gone"]) fun _ _ _ _ _ _ us hl => match us, hl with | [_, _], _ => rfl
  have D_L_left : Df K mg "_law_left" f_L_left _ ["_law_row_here", "_law_gone"] := ⟨PySem.W.mg_of X G a_L_left, k_L_left, b_L_left⟩
  have F_L_wrong_marks := fun_mk (st := s_L_wrong_marks) l_L_wrong_marks c_L_wrong_marks k_L_wrong_marks
  have b_L_wrong_marks := F_L_wrong_marks.binds (ps := ["_law_row_here"]) fun _ _ _ _ _ _ us hl => match us, hl with | [_], _ => rfl
  have D_L_wrong_marks : Df K mg "_law_wrong_marks" f_L_wrong_marks _ ["_law_row_here"] := ⟨PySem.W.mg_of X G a_L_wrong_marks, k_L_wrong_marks, b_L_wrong_marks⟩
  have F_L_numbers := fun_mk (st := s_L_numbers) l_L_numbers c_L_numbers k_L_numbers
  have b_L_numbers := F_L_numbers.binds (ps := ["_law_box_here", "_law_many"]) fun _ _ _ _ _ _ us hl => match us, hl with | [_, _], _ => rfl
  have D_L_numbers : Df K mg "_law_numbers" f_L_numbers _ ["_law_box_here", "_law_many"] := ⟨PySem.W.mg_of X G a_L_numbers, k_L_numbers, b_L_numbers⟩
  have F_law := fun_mk (st := s_law) l_law c_law k_law
  refine ⟨PySem.W.fnOf "law" "law" (defArgs s_law) (defBody s_law) (defScope s_law) .none kV_law dc_law pm_law an_law cd_law ct_law, fun s v => .of_eq rfl, fun base _ _ => ?_⟩
  have hO := othNo (K := K)
  have G_cell := ok_cell (P := l.prog) (w := w) (base := base) F_L_cell T
  have G_box := ok_box (P := l.prog) (w := w) (base := base) F_L_box T
  have G_take := ok_take (P := l.prog) (w := w) (base := base) F_L_take T
  have G_names := ok_names (P := l.prog) (w := w) (base := base) F_L_names T (D_L_take := D_L_take) G_take
  have G_piece := ok_piece (P := l.prog) (w := w) (base := base) F_L_piece T (D_L_take := D_L_take) G_take
  have G_row := ok_row (P := l.prog) (w := w) (base := base) (O := fun _ => False) F_L_row T (D_L_names := D_L_names) (D_L_piece := D_L_piece) (D_L_take := D_L_take) G_take G_names G_piece
  have G_is_integer := ok_is_integer (P := l.prog) (w := w) (base := base) F_is_integer T hO
  have G_is_piece := ok_is_piece (P := l.prog) (w := w) (base := base) F_is_piece T hO
  have G_is_name := ok_is_name (P := l.prog) (w := w) (base := base) F_is_name T hO (D_is_piece := D_is_piece) G_is_piece
  have G_is_marker := ok_is_marker (P := l.prog) (w := w) (base := base) F_is_marker T hO (D_is_name := D_is_name) G_is_name
  have G_hrl := ok_has_row_length (P := l.prog) (w := w) (base := base) F_has_row_length T hO
  have G_misfit := ok_first_misfit (P := l.prog) (w := w) (base := base) F_first_misfit T hO (D_is_piece := D_is_piece) (D_is_marker := D_is_marker) G_is_piece G_is_marker
  have G_check_items := ok_check_items (P := l.prog) (w := w) (base := base) F_check_items T (D_first_misfit := D_first_misfit) G_misfit
  have G_check_row := ok_check_row (P := l.prog) (w := w) (base := base) F_check_row T (D_has_row_length := D_has_row_length) (D_check_items := D_check_items) G_hrl G_check_items
  have G_nums := ok_are_marker_numbers (P := l.prog) (w := w) (base := base) F_are_marker_numbers T hO (D_is_integer := D_is_integer) G_is_integer
  have G_merged := ok_merged (P := l.prog) (w := w) (base := base) (O := fun _ => False) F_merged T
  have G_without := ok_without (P := l.prog) (w := w) (base := base) F_without_markers T (D_check_row := D_check_row) (D_are_marker_numbers := D_are_marker_numbers) (D_merged := D_merged) G_check_row G_nums G_merged
  have G_places := ok_places (P := l.prog) (w := w) (base := base) (O := fun _ => False) F_places_by_name T
  have G_clean := ok_clean (P := l.prog) (w := w) (base := base) F_clean_row T (D_check_row := D_check_row) (D_places_by_name := D_places_by_name) (D_without_markers := D_without_markers) G_check_row G_places G_without
  have G_left := ok_left (P := l.prog) (w := w) (base := base) (O := fun _ => False) F_L_left T
  have G_wrong := ok_wrong (P := l.prog) (w := w) (base := base) (O := fun _ => False) F_L_wrong_marks T
  have G_numbers := ok_numbers (P := l.prog) (w := w) (base := base) F_L_numbers T (D_L_take := D_L_take) G_take
  exact ok_law F_law T hO (D_L_box := D_L_box) (D_L_cell := D_L_cell) (D_L_row := D_L_row) (D_L_take := D_L_take) (D_L_left := D_L_left) (D_L_wrong_marks := D_L_wrong_marks) (D_L_numbers := D_L_numbers) (D_without_markers := D_without_markers) (D_clean_row := D_clean_row) G_cell G_box G_take G_row G_left G_wrong G_numbers G_without G_clean
end MS
open PySem PySem.W PyProof.Rows in
set_option maxRecDepth 100000 in
set_option maxHeartbeats 0 in
theorem PySem.Challenge.cw_markersplice_k03_removing_markers_holds : PySem.Challenge.rw_markersplice_k03_removing_markers.Holds := by
  w_on; o_law; k_head; (case hw => w_witness2)
  k_fill
  refine Gd.walkG (l := PySem.Challenge.rw_markersplice_k03_removing_markers) (k := 9) (x := "_law_script") (sp := Gd.spLaw) rfl (by decide) rfl ⟨rfl, by decide, by decide⟩ (fun w h Y => PySem.W.kIn_of Y) ?F (fun K H a ns hl _ hS => ⟨a, ns, rfl, hS, hl, fun _ => rfl⟩)
  case F =>
    intro w mg fa h KX G hmg
    refine' MS.all_mk KX G hmg ?a_is_integer ?l_is_integer ?c_is_integer ?k_is_integer ?a_is_name ?l_is_name ?c_is_name ?k_is_name ?a_is_piece ?l_is_piece ?c_is_piece ?k_is_piece ?a_is_marker ?l_is_marker ?c_is_marker ?k_is_marker ?a_has_row_length ?l_has_row_length ?c_has_row_length ?k_has_row_length ?a_first_misfit ?l_first_misfit ?c_first_misfit ?k_first_misfit ?a_check_items ?l_check_items ?c_check_items ?k_check_items ?a_check_row ?l_check_row ?c_check_row ?k_check_row ?a_places_by_name ?l_places_by_name ?c_places_by_name ?k_places_by_name ?a_without_markers ?l_without_markers ?c_without_markers ?k_without_markers ?a_clean_row ?l_clean_row ?c_clean_row ?k_clean_row ?a_are_marker_numbers ?l_are_marker_numbers ?c_are_marker_numbers ?k_are_marker_numbers ?a_merged ?l_merged ?c_merged ?k_merged ?a_L_cell ?l_L_cell ?c_L_cell ?k_L_cell ?a_L_box ?l_L_box ?c_L_box ?k_L_box ?a_L_take ?l_L_take ?c_L_take ?k_L_take ?a_L_names ?l_L_names ?c_L_names ?k_L_names ?a_L_piece ?l_L_piece ?c_L_piece ?k_L_piece ?a_L_row ?l_L_row ?c_L_row ?k_L_row ?a_L_left ?l_L_left ?c_L_left ?k_L_left ?a_L_wrong_marks ?l_L_wrong_marks ?c_L_wrong_marks ?k_L_wrong_marks ?a_L_numbers ?l_L_numbers ?c_L_numbers ?k_L_numbers ?a_law ?l_law ?c_law ?k_law ?z_all ?z_bool ?z_enumerate ?z_int ?z_isinstance ?z_len ?z_list ?z_max ?z_min ?z_range ?z_repr ?z_str ?z_tuple ?g_NAME_LETTERS
    (case a_is_integer => k_is)
    (case l_is_integer => k_is)
    (case c_is_integer => k_is)
    (case k_is_integer => k_is)
    (case a_is_name => k_is)
    (case l_is_name => k_is)
    (case c_is_name => k_is)
    (case k_is_name => k_is)
    (case a_is_piece => k_is)
    (case l_is_piece => k_is)
    (case c_is_piece => k_is)
    (case k_is_piece => k_is)
    (case a_is_marker => k_is)
    (case l_is_marker => k_is)
    (case c_is_marker => k_is)
    (case k_is_marker => k_is)
    (case a_has_row_length => k_is)
    (case l_has_row_length => k_is)
    (case c_has_row_length => k_is)
    (case k_has_row_length => k_is)
    (case a_first_misfit => k_is)
    (case l_first_misfit => k_is)
    (case c_first_misfit => k_is)
    (case k_first_misfit => k_is)
    (case a_check_items => k_is)
    (case l_check_items => k_is)
    (case c_check_items => k_is)
    (case k_check_items => k_is)
    (case a_check_row => k_is)
    (case l_check_row => k_is)
    (case c_check_row => k_is)
    (case k_check_row => k_is)
    (case a_places_by_name => k_is)
    (case l_places_by_name => k_is)
    (case c_places_by_name => k_is)
    (case k_places_by_name => k_is)
    (case a_without_markers => k_is)
    (case l_without_markers => k_is)
    (case c_without_markers => k_is)
    (case k_without_markers => k_is)
    (case a_clean_row => k_is)
    (case l_clean_row => k_is)
    (case c_clean_row => k_is)
    (case k_clean_row => k_is)
    (case a_are_marker_numbers => k_is)
    (case l_are_marker_numbers => k_is)
    (case c_are_marker_numbers => k_is)
    (case k_are_marker_numbers => k_is)
    (case a_merged => k_is)
    (case l_merged => k_is)
    (case c_merged => k_is)
    (case k_merged => k_is)
    (case a_L_cell => k_is)
    (case l_L_cell => k_is)
    (case c_L_cell => k_is)
    (case k_L_cell => k_is)
    (case a_L_box => k_is)
    (case l_L_box => k_is)
    (case c_L_box => k_is)
    (case k_L_box => k_is)
    (case a_L_take => k_is)
    (case l_L_take => k_is)
    (case c_L_take => k_is)
    (case k_L_take => k_is)
    (case a_L_names => k_is)
    (case l_L_names => k_is)
    (case c_L_names => k_is)
    (case k_L_names => k_is)
    (case a_L_piece => k_is)
    (case l_L_piece => k_is)
    (case c_L_piece => k_is)
    (case k_L_piece => k_is)
    (case a_L_row => k_is)
    (case l_L_row => k_is)
    (case c_L_row => k_is)
    (case k_L_row => k_is)
    (case a_L_left => k_is)
    (case l_L_left => k_is)
    (case c_L_left => k_is)
    (case k_L_left => k_is)
    (case a_L_wrong_marks => k_is)
    (case l_L_wrong_marks => k_is)
    (case c_L_wrong_marks => k_is)
    (case k_L_wrong_marks => k_is)
    (case a_L_numbers => k_is)
    (case l_L_numbers => k_is)
    (case c_L_numbers => k_is)
    (case k_L_numbers => k_is)
    (case a_law => k_is)
    (case l_law => k_is)
    (case c_law => k_is)
    (case k_law => k_is)
    (case z_all => k_is)
    (case z_bool => k_is)
    (case z_enumerate => k_is)
    (case z_int => k_is)
    (case z_isinstance => k_is)
    (case z_len => k_is)
    (case z_list => k_is)
    (case z_max => k_is)
    (case z_min => k_is)
    (case z_range => k_is)
    (case z_repr => k_is)
    (case z_str => k_is)
    (case z_tuple => k_is)
    (case g_NAME_LETTERS => k_is)
