import PyProof.Rows.All
import Wide.All
import OpenK.AllK
import Wide.FinOn
import HandS.ForMost
import HandS.IsInst
import HandS.Style
import HandS.StrMore
import PyProof.ReprRoads
import PyProof.Rows.StrRev
import PyProof.StrOps2
import KE.GoesEnum
import HandS.Conv
import HandS.DictComp
import HandS.Codes
import KE.KDictItemsList
import KE.KDictZip
import KE.KDictPairs
import HandS.SetKeys
import HandS.Sort
import HandS.Walk
import HandS.OwnEq
import HandS.FStr
import KE.KCallOwn
import HandS.TryOnly
import PySem.Challenge.RW_markersplice_k06_strip_accessors
set_option Elab.async false
set_option linter.all false
set_option maxRecDepth 100000
set_option maxHeartbeats 4000000
/-! Calls whose promise may lean on this: no repr of the program is under way (the guards are empty). -/
namespace Gd
open PySem PySem.Spec PyProof.Rows L2

/-- a def's promise, shown where no repr runs -/
structure FnG (P : Program) (w : World) (K : PySem.W.Frag) (mg : Str → Option Value) (base : Heap)
    (CX : CXT) (k : Nat) (f : Addr) (fd : FuncData) (ps : List Str) (sp : Sp) : Prop where
  len : ∀ vs H Q E, sp vs H Q E → vs.length = ps.length
  run : ∀ (A : Around) (outer : List Env) (s : Shared) (H : Hp) (args : Args) (us : List Value)
    (vs : List V) (Q : VK) (E : XK), A.guards = some [] → Room k A →
    Env0 P w K mg base A outer s H → BindsTo s fd args (ps.zip us) → Vals vs us → sp vs H Q E →
    codeAny (model P w) A (.call (.ref f) args) (CR CX outer P w H s Q E) s

section
variable {P : Program} {w : World} {K : PySem.W.Frag} {mg : Str → Option Value} {base : Heap}
  {CX : CXT} {k : Nat} {f : Addr} {fd : FuncData} {ps : List Str} {sp : Sp}
theorem FnG.of (F : FnOk P w K mg base CX k f fd ps sp) : FnG P w K mg base CX k f fd ps sp :=
  ⟨F.len, fun A o s H a us vs Q E _ => F.run A o s H a us vs Q E⟩

/-- the def by its body, the guards told -/
theorem fnG_body {name qual : Str} {params : Arguments} {body : List Stmt} {scope : Scope}
    {dV kV doc pm cdv ct oc : Value} {an od : Option Addr} {osl : Array (Option Value)} {N : List Str}
    (lk : K.lookup f = some ⟨oc, od, .func (PySem.W.fnOf name qual params body scope dV kV doc pm an cdv ct), osl⟩)
    (hcd : PySem.W.codeIn K cdv qual = true) (S : FnScope N ps scope)
    (len : ∀ vs H Q E, sp vs H Q E → vs.length = ps.length)
    (hB : ∀ (A : Around) (outer : List Env) (s : Shared) (H : Hp) (vs : List V) (Q : VK) (E : XK),
      A.guards = some [] → Room k (A.deeper (envOfC qual scope s.heap.objs.size f cdv)) → sp vs H Q E →
      ∃ t, PSs (cxOf CX P w K mg base N qual scope f cdv A outer s H E) body t ∧
        t { nx := fun _ H' => Q .non H', rt := Q } (start N vs) H) :
    FnG P w K mg base CX (k + 1) f (PySem.W.fnOf name qual params body scope dV kV doc pm an cdv ct) ps sp where
  len := len
  run A outer s H args us vs Q E hg hr e0 hb r hsp := by
    have KX : K.In s.heap := e0.mod.kin.keeps (fun b o e => (e0.bs b o e).1)
    have lim : s.heap.NoLimit := e0.mod.nolimit.keeps (fun b o e => (e0.bs b o e).1)
    have hk : ∀ y ∈ ps.zip us, scope.names.lookup y.1 = some .local ∨
        (scope.names.lookup y.1 = some .cell ∧
          ((cellsFrom (s.heap.objs.size + 1) scope.names []).lookup y.1).isSome = true) := by
      intro y hy
      obtain ⟨n, v⟩ := y
      cases S.par n (List.of_mem_zip hy).1 with
      | inl q => exact Or.inl q
      | inr q => exact Or.inr ⟨q, PySem.W.cellsFrom_some _ _ _ (Or.inl q)⟩
    apply codeAny_call_function hr.depth (KX _ _ lk) rfl S.co S.gen rfl (PySem.W.codeRec_of KX hcd)
    apply hb
    apply wpAny_newFunctionEnv_cells S.kind hk
    intro env he s1 x
    subst he
    refine ⟨lim.keeps x.toInCall.keep, codeAny_func ?_⟩
    obtain ⟨t, ht, hq⟩ := hB A outer s H vs Q E hg (hr.deeper _) hsp
    have I := inv_start (CX := CX) (E := E) S hr.hd e0 (len _ _ _ _ hsp) r x
    apply wpAny_mono (ht.run [] s1 _ H _ I hq) ?_ (fun e s' hs => hs)
    intro fl s' hs
    match fl, hs with
    | .ret u, ⟨v, σ', H', J, rv, q⟩ => exact ⟨v, H', J.os, J.bare, J.base, J.hok, rv, q⟩
    | .next, ⟨σ', H', J, q⟩ => exact ⟨V.non, H', J.os, J.bare, J.base, J.hok, rfl, q⟩
    | .brk, ⟨_, _, _, q⟩ => exact q.elim
    | .cont, ⟨_, _, _, q⟩ => exact q.elim

theorem okG {x qual : Str} {st : Stmt} {N : List Str} (F : Fun K x qual st f fd) (S : FnScope N ps (defScope st))
    (len : ∀ vs H Q E, sp vs H Q E → vs.length = ps.length)
    (hB : ∀ (cdv : Value) (A : Around) (outer : List Env) (s : Shared) (H : Hp) (vs : List V) (Q : VK) (E : XK),
      A.guards = some [] → Room k (A.deeper (envOfC qual (defScope st) s.heap.objs.size f cdv)) → sp vs H Q E →
      ∃ t, PSs (cxOf CX0 P w K mg base N qual (defScope st) f cdv A outer s H E).nox (defBody st) t ∧
        t { nx := fun _ H' => Q .non H', rt := Q } (start N vs) H) :
    FnG P w K mg base CX0 (k + 1) f fd ps sp := by
  obtain ⟨oc, od, kV, doc, pm, an, cdv, ct, osl, rfl, lk, hcd⟩ := F.ex
  apply fnG_body lk hcd S len
  intro A outer s H vs Q E hg hr hsp
  obtain ⟨t, h, q⟩ := hB cdv A outer s H vs Q E hg hr hsp
  exact ⟨t, h.nox, q⟩
end

section
variable {X : Cx} {CX : CXT} {k : Nat} {f C : Addr} {fd : FuncData} {ps : List Str} {sp : Sp} {dvs : List V}
  {ds : List Value} {E : XK} {x m : Str} {p pos apos : Pos} {e o : Expr} {es : List Expr} {ta : TE} {t : TA}

theorem runG {pins : List (Addr × Obj)} {σ : L2.St} {H : Hp} {s : Shared} {Q : VK} {us : List Value} {vs : List V}
    (F : FnG X.prog X.w X.K X.mg X.base CX k f fd ps sp) (hgd : X.A.guards = some []) (hr : Room k X.A)
    (hb : Binds X.K fd ps ds) (hd : Vals dvs ds) (hx : Passes CX X E) (I : Inv X pins σ H s) (r : Vals vs us)
    (h : sp (vs ++ dvs) H Q E) :
    wpAny (model X.prog X.w) X.A (call (.ref f) us) (EP X pins σ Q) X.xe s := by
  have r2 : Vals (vs ++ dvs) (us ++ ds) := r.append hd
  have hl : (us ++ ds).length = ps.length := r2.length.symm.trans (F.len _ _ _ _ h)
  apply wpAny_call
  refine codeAny_mono (F.run X.A X.stack s H ⟨us, []⟩ _ _ Q E hgd hr I.env0 (hb s us I.kIn hl) r2 h) ?_
  intro r s' hq
  match r, hq with
  | .error e, hq => exact hx pins σ H s e s' I hq
  | .ok (.ret u), hq => exact I.after hq
  | .ok .next, hq => exact hq.elim
  | .ok .brk, hq => exact hq.elim
  | .ok .cont, hq => exact hq.elim

theorem pe_callG (F : FnG X.prog X.w X.K X.mg X.base CX k f fd ps sp) (hgd : X.A.guards = some []) (hr : Room k X.A)
    (hg : Gl X x) (hm : X.mg x = some (.ref f)) (hk : PySem.W.keepIn X.K (.ref f) = true) (hb : Binds X.K fd ps ds)
    (hd : Vals dvs ds) (hx : Passes CX X E) (ha : PA X (e :: es) t)
    (hdb : (x == ("__debug__" : Str)) = false := by decide)
    (he : starEach (e :: es) X.env = (false, eval e X.env) :: starEach es X.env := by rfl)
    (hpl : (backTo pos (starEach es X.env)).any (·.1) = false := by rfl) :
    PE X (.Call (.Name x p) (e :: es) [] pos) (tCall sp dvs E t) where
  run pins s σ H Q I h := by
    apply wpAny_Call_Name_kw
    apply ld_glob I hg hm ?_ hdb
    refine PySem.W.callWith_K (h₀ := X.base) I.ok.mod.kin hk ?_ he hpl
    refine thn (ha.run pos pins s σ H _ I h) ?_
    intro us s1 ⟨vs, H1, I1, r, q⟩
    exact ⟨I1.kIn, runG F hgd hr hb hd hx I1 r q⟩
theorem pe_callG0 (F : FnG X.prog X.w X.K X.mg X.base CX k f fd ps sp) (hgd : X.A.guards = some []) (hr : Room k X.A)
    (hg : Gl X x) (hm : X.mg x = some (.ref f)) (hk : PySem.W.keepIn X.K (.ref f) = true) (hb : Binds X.K fd ps ds)
    (hd : Vals dvs ds) (hx : Passes CX X E) (hdb : (x == ("__debug__" : Str)) = false := by decide) :
    PE X (.Call (.Name x p) [] [] pos) (tCall sp dvs E tNil) where
  run pins s σ H Q I h := by
    apply wpAny_Call_Name_kw
    apply ld_glob I hg hm ?_ hdb
    exact PySem.W.callWith_K0 I.kIn hk (runG (us := []) F hgd hr hb hd hx I .nil h)

/-- repr of plain data -/
def rReprD (K : PySem.W.Frag) : List V → Hp → VK → Prop := fun xs H Q =>
  ∃ v d, xs = [v] ∧ Dp K H v d ∧ d.showable = true ∧ d.hasDict = false ∧ d.depth ≤ 64 ∧ d.shown.length ≤ sizeLine ∧
    Q (.str d.shown) H
theorem call_reprD (hgd : X.A.guards = some []) (hu : X.A.units + 66 < cLine) : CallR X (.builtin "repr") (rReprD X.K) := by
  intro pins s σ H xs us Q I r h
  obtain ⟨v, d, rfl, hD, hs, hn, hdp, hz, q⟩ := h
  obtain ⟨u, rfl, rv⟩ := vals1 r
  cases hD with
  | non =>
    obtain rfl : u = Value.none := rv
    exact PySem.P.repr_of_none ⟨.str _, H, I.tok _, ⟨_, rfl⟩, q⟩
  | bl b =>
    obtain rfl : u = Value.bool b := rv
    refine PySem.P.repr_of_bool ⟨.str _, H, I.tok _, ⟨_, rfl⟩, ?_⟩
    exact q
  | int i =>
    obtain ⟨t, rfl⟩ := rv
    refine PySem.P.repr_of_int ?_ ⟨.str _, H, I.tok _, ⟨_, rfl⟩, q⟩
    simpa [PyData.showable] using hs
  | str x =>
    obtain ⟨t, rfl⟩ := rv
    exact PySem.P.repr_of_str ⟨.str _, H, I.tok _, ⟨_, rfl⟩, q⟩ hz
  | lst hS hA =>
    rename_i a ys ds
    obtain ⟨as, rr⟩ := Dp.reads I _ _ _ (Dp.lst hS hA) rv
    obtain rfl : u = Value.ref a := rv
    refine repr_of_reads' rr hs (fun z => by rw [hn] at z; cases z) hgd (by omega) (fun b o e => e) ?_ hz
    intro h' u tk hk
    exact ⟨.str _, H, I.kept hk, ⟨_, rfl⟩, q⟩
  | tup hS hA =>
    rename_i a ys ds
    obtain ⟨as, rr⟩ := Dp.reads I _ _ _ (Dp.tup hS hA) rv
    obtain rfl : u = Value.ref a := rv
    refine repr_of_reads' rr hs (fun z => by rw [hn] at z; cases z) hgd (by omega) (fun b o e => e) ?_ hz
    intro h' u tk hk
    exact ⟨.str _, H, I.kept hk, ⟨_, rfl⟩, q⟩
end
end Gd
/-! Rules of texts and of backward slices. -/
namespace Gd
open PySem PySem.Spec PyProof.Rows L2

/-- the text backward -/
def revS (x : Str) : Str := ⟨x.cps.toList.reverse.toArray⟩
theorem revS_list (x : Str) : (revS x).cps.toList = x.cps.toList.reverse := by simp [revS]
theorem revS_length (x : Str) : (revS x).length = x.length := by
  show (revS x).cps.size = x.cps.size
  simp [revS]
theorem str_ext {x y : Str} (h : x.cps.toList = y.cps.toList) : x = y := by
  obtain ⟨⟨a⟩⟩ := x
  obtain ⟨⟨b⟩⟩ := y
  simp only at h
  rw [h]
theorem sliceBy_rev (x : Str) (u : Tok) : Txt.sliceBy x none none (-1, u) = revS x := by
  apply str_ext
  rw [step_rev_list, revS_list]
  apply List.ext_getElem
  · simp [Str.length]
  · intro i h1 h2
    have hi : i < x.cps.size := by simpa [Str.length] using h1
    simp only [List.getElem_map, List.getElem_range, List.getElem_reverse, Array.getElem_toList, Array.length_toList]
    have h3 : x.length - 1 - i < x.cps.size := by show x.cps.size - 1 - i < x.cps.size; omega
    rw [Array.getD, dif_pos h3]
    rfl

section
variable {X : Cx}
theorem mt_swapcase : MtR X "str.swapcase" (fun x xs H Q => ∃ a, x = .str a ∧ xs = [] ∧
    (Txt.swapcase a).length ≤ 16777216 ∧ Q (.str (Txt.swapcase a)) H) :=
  mt0 (C := fun a => (Txt.swapcase a).length ≤ 16777216) (g := fun a => .str (Txt.swapcase a)) fun a _ s _ hc h =>
    PySem.SC.swapcase (PyProof.Rows.short24 hc) (h _ (s.toks + 1) ⟨_, rfl⟩)

/-- s * n -/
def mulS (x : Str) (n : Int) : Str := ⟨(List.replicate n.toNat x.cps.toList).flatten.toArray⟩
theorem foldl_cps (l : List (Array Nat)) : ∀ acc : Array Nat, (l.foldl (· ++ ·) acc).toList = acc.toList ++ (l.map (·.toList)).flatten := by
  induction l with
  | nil => intro acc; simp
  | cons a l ih => intro acc; rw [List.foldl_cons, ih]; simp
theorem op_mul_str : OpR X (binaryOp .Mult) (fun x y H Q => ∃ (z : Str) (n : Int), x = .str z ∧ y = .int n ∧
    -(2 ^ 63) ≤ n ∧ z.length * n.toNat ≤ 16777216 ∧ n < 2 ^ 62 ∧ Q (.str (mulS z n)) H) := by
  intro pins s σ H x y v u Q I rx ry h
  obtain ⟨z, n, rfl, rfl, hlo, hz, hhi, q⟩ := h
  obtain ⟨t, rfl⟩ := rx
  obtain ⟨t2, rfl⟩ := ry
  have e1 : ∀ w : Str, w = mulS z n → ∀ k t', EP X pins σ Q (.str w t') { s with toks := k } := by
    intro w hw k t'
    subst hw
    exact ⟨.str _, H, I.tok _, ⟨_, rfl⟩, q⟩
  have hrep : (⟨(List.replicate n.toNat z.cps).foldl (· ++ ·) #[]⟩ : Str) = mulS z n := by
    apply str_ext
    show ((List.replicate n.toNat z.cps).foldl (· ++ ·) #[]).toList = _
    rw [foldl_cps]
    simp [mulS]
  refine PySem.P.mul_str (by
      have a : ¬ n < -(2 ^ 63 : Int) := by omega
      have b : ¬ n ≥ 2 ^ 63 := by omega
      rw [decide_eq_false a, decide_eq_false b]; rfl) (fun h1 _ => ?_) (fun _ _ => PyProof.Rows.short24 hz) ?_
  · intro hbig
    have hn : 0 < n := by omega
    have h2 : (2 ^ 63 - 1 : Int) / n * n ≥ (2 ^ 63 - 1) - (n - 1) := by
      have := Int.emod_add_mul_ediv (2 ^ 63 - 1) n
      have m := Int.emod_lt_of_pos (2 ^ 63 - 1) hn
      rw [Int.mul_comm] at this
      omega
    have h3 : ((z.length : Int)) * n ≤ 16777216 := by
      have h5 : ((z.length * n.toNat : Nat) : Int) ≤ ((16777216 : Nat) : Int) := Int.ofNat_le.mpr hz
      rw [Int.natCast_mul, Int.toNat_of_nonneg (by omega)] at h5
      exact h5
    have h4 : ((2 ^ 63 - 1 : Int) / n) * n ≤ (z.length : Int) * n := Int.mul_le_mul_of_nonneg_right (by omega) (by omega)
    omega
  · by_cases hn : n < 1
    · rw [if_pos hn]
      refine ⟨by decide, e1 _ ?_ _ _⟩
      have h0 : n.toNat = 0 := by omega
      apply str_ext
      simp [mulS, h0, Str.empty]
    · rw [if_neg hn]
      by_cases hw : (n == 1 || z.length == 0) = true
      · rw [if_pos hw]
        have hzz : z = mulS z n := by
          apply str_ext
          rw [Bool.or_eq_true] at hw
          rcases hw with hw | hw
          · have : n = 1 := by simpa using hw
            subst this
            simp [mulS]
          · have : z.cps.toList = [] := by
              have : z.cps.size = 0 := by simpa [Str.length] using hw
              exact List.eq_nil_of_length_eq_zero (by simpa using this)
            simp [mulS, this]
        show EP X pins σ Q (.str z t) s
        have := e1 z hzz s.toks t
        exact this
      · rw [if_neg hw, hrep]
        refine ⟨?_, e1 _ rfl _ _⟩
        show (mulS z n).cps.size ≤ sizeLine
        have : (mulS z n).cps.size = z.length * n.toNat := by
          simp [mulS, Str.length, Nat.mul_comm]
        rw [this, sizeLine_eq]
        exact hz

/-- a step slice by values -/
def SlS (X : Cx) (r : V → Option Int → Option Int → Option Int → Hp → VK → Prop) : Prop :=
  ∀ (pins : List (Addr × Obj)) (s : Shared) (σ : L2.St) (H : Hp) (x : V) (v vl vu vs : Value) (lo hi st : Option Int) (sl : Addr) (Q : VK),
    Inv X pins σ H s → RelV x v → s.heap.IsSliceOf sl vl vu vs → IsPart vl lo → IsPart vu hi → IsPart vs st → r x lo hi st H Q →
    ∃ T id, typeLookup (.type T) "__getitem__" = pure (some (.builtin id)) ∧ s.TypeIs v T ∧
      wpAny (model X.prog X.w) X.A (getItem v (.ref sl)) (EP X pins σ Q) X.xe s
def tSlS (r : V → Option Int → Option Int → Option Int → Hp → VK → Prop) (te : TE) (tl th ts : TO) : TE := fun σ H Q =>
  te σ H fun x H1 => tl σ H1 fun l H2 => th σ H2 fun u H3 => ts σ H3 fun st H4 => r x l u st H4 Q
theorem pe_sliceS {r : V → Option Int → Option Int → Option Int → Hp → VK → Prop} {e : Expr} {lo hi : Option Expr} {st : Expr} {te : TE} {tl th ts : TO} {p2 pos : Pos}
    (hr : SlS X r) (he : PE X e te) (hl : PO X lo tl) (hu : PO X hi th) (hs : PO X (some st) ts)
    (hsub : ∀ v w, subscripted (.Slice lo hi (some st) p2) false v w = operate [v, w] (getItem v w) := by intro _ _; with_unfolding_all rfl) :
    PE X (.Subscript e (.Slice lo hi (some st) p2) pos) (tSlS r te tl th ts) where
  run pins s σ H Q I h := by
    apply Subscript_
    refine thn (he.run pins s σ H _ I h) ?_
    intro v s1 ⟨x, H1, I1, r1, q1⟩
    apply wpAny_Slice
    refine thn (hl.run pins s1 σ H1 _ I1 q1) ?_
    intro vl s2 ⟨l, H2, I2, pl, q2⟩
    refine thn (hu.run pins s2 σ H2 _ I2 q2) ?_
    intro vu s3 ⟨u, H3, I3, pu, q3⟩
    refine thn (hs.run pins s3 σ H3 _ I3 q3) ?_
    intro vs s4 ⟨stp, H4, I4, ps, q4⟩
    have I5 : Inv X pins σ H4 { s4 with heap := s4.heap.push { cls := .type "slice", data := .fields #[vl, vu, vs] } } :=
      I4.kept (t' := s4.toks) (fun b ob q => Heap.get?_push_of_some _ q)
    obtain ⟨T, id, hT, ht, hg⟩ := hr pins _ σ H4 x v vl vu vs l u stp s4.heap.objs.size Q I5 r1 (Heap.IsSliceOf.new ..) pl pu ps q4
    exact tail_any (ops := [v, .ref s4.heap.objs.size]) ht hT hg (hsub _ _)

/-- x[::-1] of a text -/
def rBackS : V → Option Int → Option Int → Option Int → Hp → VK → Prop := fun x lo hi st H Q =>
  ∃ z, x = .str z ∧ lo = none ∧ hi = none ∧ st = some (-1) ∧ z.length ≤ sizeLine ∧ Q (.str (revS z)) H
theorem ss_backS : SlS X rBackS := by
  intro pins s σ H x v vl vu vs lo hi st sl Q I rx hs pl pu ps h
  obtain ⟨z, rfl, rfl, rfl, rfl, hz, q⟩ := h
  obtain ⟨t, rfl⟩ := rx
  cases pl
  cases pu
  cases ps with
  | int i tk =>
  refine ⟨"str", _, F.slot_str_getitem.lookup, typeIs_str _ _ _, ?_⟩
  obtain ⟨os, hos, hcs, hds⟩ := hs
  refine wpAny_getItem_str_slice (l := none) (u := none) (st := some (-1, tk)) ⟨os, hos, hcs, hds⟩ (by rfl) ?_
  have e := sliceBy_rev z tk
  have hl : (revS z).length ≤ sizeLine := by rw [revS_length]; exact hz
  refine post_val_or_str ⟨?_, fun t' c => ?_⟩
  · show (Txt.sliceBy z none none (-1, tk)).length ≤ sizeLine
    rw [e]; exact hl
  · show EP X pins σ Q (.str (Txt.sliceBy z none none (-1, tk)) t') { s with toks := c }
    rw [e]
    exact ⟨.str _, H, I.tok _, ⟨_, rfl⟩, q⟩
end
end Gd
/-! enumerate of a tuple, a tuple backward. -/
namespace Gd
open PySem PySem.Spec PyProof.Rows L2 Builtin

theorem newEnum1 {v : Value} {o : Obj} {H : Heap → Prop} (B : Begins v o H) :
    Meets (Builtin.«enumerate.__new__» ⟨[.type "enumerate", v], []⟩) (fun _ R s => H s.heap ∧
      R (.ok (.ret (.ref (s.heap.push o).objs.size)))
        { s with heap := (s.heap.push o).push { cls := .type "enumerate", data := .fields #[.none, .bool false, .ref s.heap.objs.size, rawInt 0, .none, .none] } }) := by
  apply Meets.of_wp
  intro prog w A R s hs
  obtain ⟨hp, g, d, tk, os⟩ := s
  obtain ⟨h1, h⟩ := hs
  have hsub := sub_enumerate
  have q1 : ∀ {A' : Around} {E : Value → Shared → Prop} {Q : Value → Shared → Prop},
      Q (.ref hp.objs.size) ⟨hp.push o, g, d, tk, os⟩ → wpAny (model prog w) A' (pyIter v) Q E ⟨hp, g, d, tk, os⟩ := by
    intro A' E Q q
    exact B.iter prog w _ _ ⟨hp, g, d, tk, os⟩ _ h1 q
  wp_walk using q1
  refine wpAny_stack_any (fun st => wpAny_pure ?_)
  split
  · rename_i c _ _ _ _ _
    cases (c == Value.type "enumerate")
    · wp_walk using q1
      exact ⟨_, rfl, h⟩
    · wp_walk using q1
      exact ⟨_, rfl, h⟩
  · wp_walk using q1
    exact ⟨_, rfl, h⟩

/-- the tuple at a as it stands, each item in a new pair -/
def IteT (K : PySem.W.Frag) (a : Addr) : It where
  go i H := ∃ (xs : List V) (x : V), SqT K H a xs ∧ xs[i]? = some x
  yld i H v H' := ∃ T x, v = .ref T ∧ H T = none ∧ H' = upd H T (.tup [.int (i : Nat), x]) ∧ ∀ xs, SqT K H a xs → xs[i]? = some x
  stop i H := ∃ xs : List V, SqT K H a xs ∧ xs.length = i

theorem tup_is {h : Heap} {a : Addr} {its : Array Value} (p : IsTup h a its) : h.IsTuple a its := by
  obtain ⟨o, h1, h2, n, h3⟩ := p
  exact ⟨o, h1, h2, n, h3⟩
theorem turn_enumT {P : Program} {w : World} {K : PySem.W.Frag} {elts : List Expr} {kk : Nat} {tpos : Pos} (a e it : Addr) :
    Turn P w K (.Tuple elts kk tpos) (IteT K a) [e, it] e
      (fun i h => (∃ old, IsEnum h e it ((i : Nat) : Int) old) ∧ h.IsTupleIter it a i ∧ e ≠ it) where
  mem := by simp
  obj i h st b hb := by
    obtain ⟨⟨old, he⟩, ⟨o, ho, hc, hd⟩, _⟩ := st
    have hb' : b = e ∨ b = it := by simpa using hb
    rcases hb' with rfl | rfl
    · exact ⟨_, he, fun v q => nomatch q⟩
    · exact ⟨o, ho, fun v q => by rw [hd] at q; cases q⟩
  keep i h h' st k := by
    obtain ⟨⟨old, he⟩, hi, hne⟩ := st
    exact ⟨⟨old, k e (by simp) _ he⟩, hi.at fun o q => k it (by simp) o q, hne⟩
  item := by
    intro X hP hw hK hc i pins s σ H E I hf st hg
    subst hP hw hK
    obtain ⟨⟨old, he⟩, hit, hne⟩ := st
    obtain ⟨xs, x, hq, hx⟩ := hg
    obtain ⟨its, rv, p, hz⟩ := I.tuple hq
    obtain ⟨u, hu, ru⟩ := rv.get hx
    have ht := tup_is p
    have hel : e < s.heap.objs.size := Heap.lt_size he
    have hil : it < s.heap.objs.size := by obtain ⟨_, q, _⟩ := hit; exact Heap.lt_size q
    have hai : a ≠ it := by
      intro z
      obtain ⟨o1, g1, c1, _⟩ := ht
      obtain ⟨o2, g2, c2, _⟩ := hit
      rw [z, g2] at g1
      cases g1
      rw [c2] at c1
      exact absurd c1 (by decide)
    have hae : a ≠ e := by
      intro z
      obtain ⟨o1, g1, c1, _⟩ := ht
      have g2 : s.heap.get? e = some _ := he
      rw [z, g2] at g1
      cases g1
      have c3 : Value.type "enumerate" = Value.type "tuple" := c1
      exact absurd c3 (by decide)
    have hlt : i < its.toArray.size := by
      have := (List.getElem?_eq_some_iff.mp hu).1
      simpa using this
    refine wpAny_pyNext_enum_itemC (Draws.tuple (A := X.A.in1) (I.ok.hd hc) it a hai its.toArray) he ⟨hit, ht⟩ hlt hne (by simp [hne, hae.symm]) ?_
    intro x' h' tk hP ho hs' hT hsz hk
    have hxu : x' = u := by
      have h9 : its[i]? = some x' := by simpa using hP
      rw [hu] at h9
      exact (Option.some.inj h9).symm
    subst hxu
    refine ⟨_, rfl, wpAny_letOwnedTupleGo_enum (s := { s with heap := h', toks := tk + 1 }) ho ?_⟩
    intro h'' he' sb
    have hT2 : h''.get? s.heap.objs.size = some { cls := .type "tuple", data := .seq #[.int i tk, x'] } := (sb.2 _ (Nat.ne_of_gt hel)).trans hT
    have new : ObjOk X.prog X.w (upd H s.heap.objs.size (.tup [.int (i : Nat), x])) h'' s.heap.objs.size (.tup [.int (i : Nat), x]) :=
      ⟨by show 2 ≤ sizeLine; decide, [.int i tk, x'], .cons ⟨_, rfl⟩ (.cons ru .nil), ⟨_, hT2, rfl, _, rfl⟩⟩
    have I1 : Inv X pins σ (upd H s.heap.objs.size (.tup [.int (i : Nat), x])) { s with heap := h'', toks := tk + 1 } := by
      refine I.turnedNew (ch := [e, it]) (fun b o hb q => ?_) hf (Nat.le_refl _) new
      have b1 : b ≠ e := fun z => hb (by simp [z])
      have b2 : b ≠ it := fun z => hb (by simp [z])
      exact (sb.2 b b1).trans (hk b o b1 b2 q)
    refine ⟨.ref s.heap.objs.size, _, I1, rfl, ⟨_, x, rfl, I.hok.fresh (Nat.le_refl _), rfl, fun ys hy => by rw [I.tuple_inj hy hq]; exact hx⟩,
      ⟨⟨x', ?_⟩, ?_, hne⟩, fun b hb => ?_⟩
    · have e1 : ((i + 1 : Nat) : Int) = (i : Int) + 1 := by omega
      rw [e1]
      exact he'
    · exact Heap.IsTupleIter.at hs'.1 fun o q => (sb.2 it (Ne.symm hne)).trans q
    · have hb' : b < s.heap.objs.size := by
        have e' : b = e ∨ b = it := by simpa using hb
        rcases e' with z | z
        · rw [z]; exact hel
        · rw [z]; exact hil
      rw [upd_ne (Nat.ne_of_lt hb')]
      exact (hf b hb).1
  done := by
    intro X hP hw hK hc i pins s σ H E I hf st hg
    subst hP hw hK
    obtain ⟨⟨old, he⟩, hit, hne⟩ := st
    obtain ⟨xs, hq, hx⟩ := hg
    obtain ⟨its, rv, p, hz⟩ := I.tuple hq
    have hl := rv.length
    have ht := tup_is p
    obtain ⟨f0, f1, f2, f3, f4, f5⟩ := hf it (by simp)
    have hlen : i = its.toArray.size := by simp; omega
    have hai : a ≠ it := by
      intro z
      obtain ⟨o1, g1, c1, _⟩ := ht
      obtain ⟨o2, g2, c2, _⟩ := hit
      rw [z, g2] at g1
      cases g1
      rw [c2] at c1
      exact absurd c1 (by decide)
    subst hlen
    refine wpAny_pyNext_enum_endD (Draws.tuple (A := X.A.in1) (I.ok.hd hc) it a hai its.toArray) he ⟨hit, ht⟩ ?_
    intro h' eb
    exact ⟨rfl, I.turned (t' := s.toks) (fun b o hb q => eb b o hb q) f0 f1 f3 f4 f5⟩
  self := by
    intro A i s Q E st h
    obtain ⟨⟨_, he⟩, _⟩ := st
    exact wpAny_pyIter_enum he h

def iEnumT (K : PySem.W.Frag) (ta : TA) : TI := fun σ H R => ta σ H fun vs H1 => ∃ a xs, vs = [.ref a] ∧ SqT K H1 a xs ∧ R (IteT K a) H1
theorem pi_enumT {X : Cx} {e : Expr} {ta : TA} {p pos tpos : Pos} {elts : List Expr} {kk : Nat} (hg : Gl X "enumerate")
    (hm : X.mg "enumerate" = none) (ha : PA X [e] ta) (hs : starEach [e] X.env = [(false, eval e X.env)] := by rfl) :
    PI X (.Tuple elts kk tpos) (.Call (.Name "enumerate" p) [e] [] pos) (iEnumT X.K ta) where
  run pins s σ H R I h := by
    refine Call_ (ld_blt I hg hm boot_enumerate (PyProof.Rows.callWith_type1 (thn (ha.run pos pins s σ H _ I h) ?_) hs rfl))
    intro us s1 ⟨vs, H1, I1, r1, q1⟩
    obtain ⟨a, xs, ex, hq, q⟩ := q1
    subst ex
    cases r1 with
    | cons r rr =>
      cases rr
      cases r
      obtain ⟨its, rv, p', hz⟩ := I1.tuple hq
      have ht := tup_is p'
      refine callType_new F.called_enumerate (by decide) (F.typeCall_enumerate_1 _) (F.newCall_enumerate_1 _) (fun obj => F.args_object_init_2 obj _)
        F.entry_enumerate_new (newEnum1 (begins_tuple a its.toArray)) ⟨ht, ?_⟩
      have hz1 : (s1.heap.push { cls := .type "tuple_iterator", data := .fields #[.ref a, .int 0 0] }).objs.size = s1.heap.objs.size + 1 := Heap.size_push ..
      show _ ∧ _
      rw [hz1]
      have he := Heap.get?_push_size (s1.heap.push { cls := .type "tuple_iterator", data := .fields #[.ref a, .int 0 0] })
        (o := { cls := .type "enumerate", data := .fields #[.none, .bool false, .ref s1.heap.objs.size, rawInt 0, .none, .none] }) rfl
      rw [hz1] at he
      refine ⟨⟨_, he, rfl⟩, ?_⟩
      have hit : ((s1.heap.push { cls := .type "tuple_iterator", data := .fields #[.ref a, .int 0 0] }).push
          { cls := .type "enumerate", data := .fields #[.none, .bool false, .ref s1.heap.objs.size, rawInt 0, .none, .none] }).IsTupleIter s1.heap.objs.size a 0 :=
        ⟨_, Heap.get?_push_of_some _ (Heap.get?_push_size _ rfl), rfl, rfl⟩
      refine wpAny_pyIter_enum he ?_
      have I2 := I1.kept (t' := s1.toks) (h' := (s1.heap.push { cls := .type "tuple_iterator", data := .fields #[.ref a, .int 0 0] }).push
          { cls := .type "enumerate", data := .fields #[.none, .bool false, .ref s1.heap.objs.size, rawInt 0, .none, .none] })
        (fun b o x => Heap.get?_push_of_some _ (Heap.get?_push_of_some _ x))
      refine ⟨s1.heap.objs.size + 1, [s1.heap.objs.size + 1, s1.heap.objs.size], _, _, H1, rfl, I2,
        turn_enumT a (s1.heap.objs.size + 1) s1.heap.objs.size, ⟨⟨.none, he⟩, hit, Nat.succ_ne_self _⟩, fun b hb => ?_, q⟩
      have hle : s1.heap.objs.size ≤ b := by
        have e' : b = s1.heap.objs.size + 1 ∨ b = s1.heap.objs.size := by simpa using hb
        rcases e' with z | z
        · rw [z]; exact Nat.le_succ _
        · rw [z]; exact Nat.le_refl _
      exact I1.fpOk hle (I1.hok.fresh hle)

/-- the walk of enumerate(t), t a tuple: Pv i σ H ahead of turn i -/
theorem for_enumT {K : PySem.W.Frag} {a : Addr} {xs : List V} {g : TG} {tb : TS} {D : Ends} {σ : L2.St} {H : Hp} (Pv : Nat → L2.St → Hp → Prop)
    (h0 : Pv 0 σ H) (hl : ∀ i σ H, i ≤ xs.length → Pv i σ H → SqT K H a xs)
    (hs : ∀ i x σ H T, xs[i]? = some x → Pv i σ H → H T = none →
      g (.ref T) σ (upd H T (.tup [.int (i : Nat), x])) fun σ2 H2 => tb { D with nx := Pv (i + 1), ct := Pv (i + 1), bk := D.nx } σ2 H2)
    (hd : ∀ σ H, Pv xs.length σ H → D.nx σ H) :
    ∃ W : Nat → Nat → L2.St → Hp → Prop, (∃ m, W 0 m σ H) ∧ ∀ i m σ H, W i m σ H →
      ((IteT K a).stop i H ∧ D.nx σ H) ∨ ((IteT K a).go i H ∧ ∃ N : L2.St → Hp → Prop, (∀ σ' H', N σ' H' → ∃ m', m' < m ∧ W (i + 1) m' σ' H') ∧
        ∀ x H', (IteT K a).yld i H x H' → g x σ H' fun σ2 H2 => tb { D with nx := N, ct := N, bk := D.nx } σ2 H2) := by
  refine ⟨fun i m σ H => m = xs.length - i ∧ i ≤ xs.length ∧ Pv i σ H, ⟨xs.length, by simp, Nat.zero_le _, h0⟩, ?_⟩
  intro i m σ H ⟨e, hi, p⟩
  subst e
  have q := hl i σ H hi p
  by_cases hlt : i < xs.length
  · refine Or.inr ⟨⟨xs, xs[i], q, by simp [hlt]⟩, Pv (i + 1), fun σ' H' p' => ⟨xs.length - (i + 1), by omega, rfl, hlt, p'⟩, ?_⟩
    intro x H' ⟨T, y, e1, e2, e3, e4⟩
    subst e1 e3
    exact hs i y σ H T (e4 xs q) p e2
  · have e : i = xs.length := by omega
    subst e
    exact Or.inl ⟨⟨xs, q, rfl⟩, hd σ H p⟩
/-- the walk of enumerate(l), l a list -/
theorem for_enumL {K : PySem.W.Frag} {a : Addr} {xs : List V} {g : TG} {tb : TS} {D : Ends} {σ : L2.St} {H : Hp} (Pv : Nat → L2.St → Hp → Prop)
    (h0 : Pv 0 σ H) (hl : ∀ i σ H, i ≤ xs.length → Pv i σ H → SqL K H a xs)
    (hs : ∀ i x σ H T, xs[i]? = some x → Pv i σ H → H T = none →
      g (.ref T) σ (upd H T (.tup [.int (i : Nat), x])) fun σ2 H2 => tb { D with nx := Pv (i + 1), ct := Pv (i + 1), bk := D.nx } σ2 H2)
    (hd : ∀ σ H, Pv xs.length σ H → D.nx σ H) :
    ∃ W : Nat → Nat → L2.St → Hp → Prop, (∃ m, W 0 m σ H) ∧ ∀ i m σ H, W i m σ H →
      ((Ite K a).stop i H ∧ D.nx σ H) ∨ ((Ite K a).go i H ∧ ∃ N : L2.St → Hp → Prop, (∀ σ' H', N σ' H' → ∃ m', m' < m ∧ W (i + 1) m' σ' H') ∧
        ∀ x H', (Ite K a).yld i H x H' → g x σ H' fun σ2 H2 => tb { D with nx := N, ct := N, bk := D.nx } σ2 H2) := by
  refine ⟨fun i m σ H => m = xs.length - i ∧ i ≤ xs.length ∧ Pv i σ H, ⟨xs.length, by simp, Nat.zero_le _, h0⟩, ?_⟩
  intro i m σ H ⟨e, hi, p⟩
  subst e
  have q := hl i σ H hi p
  by_cases hlt : i < xs.length
  · refine Or.inr ⟨⟨xs, xs[i], q, by simp [hlt]⟩, Pv (i + 1), fun σ' H' p' => ⟨xs.length - (i + 1), by omega, rfl, hlt, p'⟩, ?_⟩
    intro x H' ⟨T, y, e1, e2, e3, e4⟩
    subst e1 e3
    exact hs i y σ H T (e4 xs q) p e2
  · have e : i = xs.length := by omega
    subst e
    exact Or.inl ⟨⟨xs, q, Nat.le_refl _⟩, hd σ H p⟩
end Gd
/-! Slices with a step: tuples and lists. -/
namespace Gd
open PySem PySem.Spec PyProof.Rows L2 Builtin

/-- the places that a tuple's slice with a step takes -/
def stepIx (n : Nat) (lo hi : Option Int) (c : Int) : List Nat :=
  (List.range (Slice.slicePlaces (Slice.sliceAdjust lo hi c n).1 (Slice.sliceAdjust lo hi c n).2 c)).map fun (k : Nat) =>
    ((Slice.sliceAdjust lo hi c n).1 + (k : Int) * c).toNat
section
variable {prog : Program} {w : World} {A : Around} {E : Value → Shared → Prop} {s : Shared}
theorem tup_step {t sl : Addr} {items : Array Value} {vl vu vs : Value} {lo hi : Option Int} {c : Int} {Q : Value → Shared → Prop}
    (ht : IsTup s.heap t items) (hs : s.heap.IsSliceOf sl vl vu vs) (pl : IsPart vl lo) (pu : IsPart vu hi) (ps : IsPart vs (some c))
    (h0 : c ≠ 0) (h1 : c ≠ 1) (hz : ((stepIx items.size lo hi c).filterMap (items[·]?)).length ≤ sizeLine)
    (h : Q (.ref s.heap.objs.size) { s with heap := s.heap.push { cls := .type "tuple", data := .seq ((stepIx items.size lo hi c).filterMap (items[·]?)).toArray } }) :
    wpAny (model prog w) A (getItem (.ref t) (.ref sl)) Q E s := by
  obtain ⟨os, hos, hcs, hds⟩ := id hs
  have hTs : s.TypeIs (.ref sl) "slice" := ⟨os, hos, hcs⟩
  unfold getItem
  try with_reducible refine wpAny_holding ?_
  first | refine wpAny_bind (wpAny_pure ?_) | skip
  refine wpAny_bind (wpAny_sequenceKey ht.typeIs (by decide) ?_)
  refine wpAny_bind (wpAny_callSpecial?_slot (name := Str.ofString "__getitem__") ht.typeIs PyProof.Rows.slot_tuple_getitem
    (wpAny_call_entry PyProof.Rows.slot_tuple_getitem ht.typeIs entry_tuple_getitem ?_ (args_tuple_getitem _ _)))
  show wpAny _ _ (Builtin.Tuple.tupleItemsOf (.ref t) >>= _) _ _ s
  apply wpAny_bind
  apply tupleItemsOf_ ht
  refine wpAny_bind (wpAny_typeOf hTs ?_)
  rw [if_pos (by decide)]
  have app : ∀ {A' : Around} {E' : Value → Shared → Prop} {Q' : Int × Int × Nat → Shared → Prop}, Q' ((Slice.sliceAdjust lo hi c items.size).1, c, Slice.slicePlaces (Slice.sliceAdjust lo hi c items.size).1 (Slice.sliceAdjust lo hi c items.size).2 c) s →
      wpAny (model prog w) A' (Slice.sliceApplied (.ref sl) (pure (items.size : Int))) Q' E' s := by
    intro A' E' Q' q
    unfold Slice.sliceApplied Slice.sliceFields
    refine wpAny_bind (wpAny_bind (wpAny_field hos hds (x := vl) rfl (wpAny_bind (wpAny_field hos hds (x := vu) rfl (wpAny_bind (wpAny_field hos hds (x := vs) rfl (wpAny_pure ?_)))))))
    refine wpAny_bind (HT.slicePart_ ps ?_)
    show wpAny _ _ (if (c == 0) = true then _ else _) _ _ s
    rw [if_neg (by simpa using h0)]
    exact wpAny_bind (HT.slicePart_ pl (wpAny_bind (HT.slicePart_ pu (wpAny_bind (wpAny_pure (wpAny_pure q))))))
  refine wpAny_bind (app ?_)
  have hno : ¬ (((Slice.sliceAdjust lo hi c items.size).1 == 0 && c == 1 && Slice.slicePlaces (Slice.sliceAdjust lo hi c items.size).1 (Slice.sliceAdjust lo hi c items.size).2 c == items.size) = true) := by
    intro q
    rw [Bool.and_eq_true, Bool.and_eq_true] at q
    exact h1 (eq_of_beq q.1.2)
  show wpAny _ _ (if ((Slice.sliceAdjust lo hi c items.size).1 == 0 && c == 1 && Slice.slicePlaces (Slice.sliceAdjust lo hi c items.size).1 (Slice.sliceAdjust lo hi c items.size).2 c == items.size) = true then _ else _) _ _ s
  rw [if_neg hno]
  have ei : ((List.range (Slice.slicePlaces (Slice.sliceAdjust lo hi c items.size).1 (Slice.sliceAdjust lo hi c items.size).2 c)).filterMap fun (k : Nat) => items[((Slice.sliceAdjust lo hi c items.size).1 + (k : Int) * c).toNat]?) =
      (stepIx items.size lo hi c).filterMap (items[·]?) := by
    unfold stepIx
    rw [List.filterMap_map]
    rfl
  rw [ei]
  have hsz : sizeOk (.seq ((stepIx items.size lo hi c).filterMap (items[·]?)).toArray) := by
    show ((stepIx items.size lo hi c).filterMap (items[·]?)).toArray.size ≤ sizeLine
    rw [List.size_toArray]
    exact hz
  exact wpAny_bind (m := Builtin.Tuple.tupleExact _) (wpAny_newObj_type (wpAny_pure ⟨_, rfl, wpAny_pure h⟩) hsz)
end

theorem step_back (n : Nat) : stepIx n none none (-1) = (List.range n).map fun k => n - 1 - k := by
  have e1 : Slice.sliceAdjust none none (-1) (n : Int) = ((n : Int) - 1, -1) := rfl
  have e2 : Slice.slicePlaces ((n : Int) - 1) (-1) (-1) = n := by
    unfold Slice.slicePlaces
    rw [if_neg (by decide)]
    by_cases h : (n : Int) - 1 > -1
    · rw [if_pos h]
      have : ((n : Int) - 1 - -1 - 1) / (- -1) = (n : Int) - 1 := by
        rw [show (- -1 : Int) = 1 by decide, Int.ediv_one]; omega
      rw [this]; omega
    · rw [if_neg h]; omega
  unfold stepIx
  rw [e1]
  simp only []
  rw [e2]
  apply List.map_congr_left
  intro k hk
  have := List.mem_range.mp hk
  omega
theorem fm_some {α β : Type} {f : α → Option β} {g : α → β} : ∀ {l : List α}, (∀ x ∈ l, f x = some (g x)) → l.filterMap f = l.map g
  | [], _ => rfl
  | a :: l, h => by
    rw [List.filterMap_cons, h a (by simp), List.map_cons, fm_some fun x hx => h x (by simp [hx])]
theorem pick_back {α : Type} (xs : List α) : ((List.range xs.length).map fun k => xs.length - 1 - k).filterMap (xs[·]?) = xs.reverse := by
  cases hx : xs with
  | nil => rfl
  | cons x0 r =>
    rw [← hx, List.filterMap_map]
    have e : (List.range xs.length).filterMap ((fun x => xs[x]?) ∘ fun k => xs.length - 1 - k) = (List.range xs.length).map fun k => xs[xs.length - 1 - k]?.getD x0 := by
      apply fm_some
      intro k hk
      have hk' := List.mem_range.mp hk
      simp [show xs.length - 1 - k < xs.length by omega]
    rw [e]
    apply List.ext_getElem
    · simp
    · intro i h1 h2
      have hi : i < xs.length := by simpa using h1
      simp [show xs.length - 1 - i < xs.length by omega]
section
variable {X : Cx}
/-- t[::-1] of a tuple -/
def rBackT (K : PySem.W.Frag) : V → Option Int → Option Int → Option Int → Hp → VK → Prop := fun x lo hi st H Q =>
  ∃ a xs, x = .ref a ∧ SqT K H a xs ∧ lo = none ∧ hi = none ∧ st = some (-1) ∧ ∀ p, H p = none → Q (.ref p) (upd H p (.tup xs.reverse))
theorem ss_backT : SlS X (rBackT X.K) := by
  intro pins s σ H x v vl vu vs lo hi st sl Q I rx hs pl pu ps h
  obtain ⟨a, xs, rfl, hx, rfl, rfl, rfl, q⟩ := h
  cases rx
  obtain ⟨its, r, ht, hz⟩ := I.tuple hx
  have hl := r.length
  have e : (stepIx its.toArray.size none none (-1)).filterMap (its.toArray[·]?) = its.reverse := by
    rw [step_back, List.size_toArray]
    have := pick_back its
    simpa using this
  refine ⟨"tuple", _, PyProof.Rows.slot_tuple_getitem.lookup, ht.typeIs, ?_⟩
  refine tup_step ht hs pl pu ps (by decide) (by decide) (by rw [e, List.length_reverse]; omega) ?_
  rw [e]
  refine ⟨.ref s.heap.objs.size, _, I.laid (t' := s.toks) (o := .tup xs.reverse) (fun b ob q => Heap.get?_push_of_some _ q) (Nat.le_refl _) ?_, rfl, q _ (I.hok.fresh (Nat.le_refl _))⟩
  exact ⟨by rw [List.length_reverse]; exact hz, _, r.reverse, IsTup.new _ _⟩
/-- l[::-1] of a list -/
def rBackL (K : PySem.W.Frag) : V → Option Int → Option Int → Option Int → Hp → VK → Prop := fun x lo hi st H Q =>
  ∃ a xs, x = .ref a ∧ SqL K H a xs ∧ lo = none ∧ hi = none ∧ st = some (-1) ∧ ∀ p, H p = none → Q (.ref p) (upd H p (.lst xs.reverse))
theorem ss_backL : SlS X (rBackL X.K) := by
  intro pins s σ H x v vl vu vs lo hi st sl Q I rx hs pl pu ps h
  obtain ⟨a, xs, rfl, hx, rfl, rfl, rfl, q⟩ := h
  cases rx
  obtain ⟨its, r, ht, hz⟩ := I.list hx
  have hl := r.length
  refine ⟨"list", _, PySem.slot_list_getitem.lookup, ht.isList.typeIs, ?_⟩
  refine wpAny_getItem_list_slice ht.isList hs pl pu ps (by decide) ?_ (by rw [List.size_toArray]; omega)
  rw [PySem.W.krv_pick]
  refine ⟨.ref _, _, I.laid (t' := s.toks) (o := .lst xs.reverse) (fun b ob q => Heap.get?_push_of_some _ q) (Nat.le_refl _) ?_, rfl, q _ (I.hok.fresh (Nat.le_refl _))⟩
  exact ⟨by rw [List.length_reverse]; exact hz, _, 0, r.reverse, Heap.get?_push_size _ rfl⟩
end
end Gd
/-! Words for whole laws: a def's place, growing heaps, the box of draws. -/
namespace Gd
open PySem PySem.Spec PyProof.Rows L2

/-- where a def stands and how its arguments bind -/
structure Df (K : PySem.W.Frag) (mg : Str → Option Value) (x : Str) (f : Addr) (fd : FuncData) (ps : List Str) : Prop where
  g : mg x = some (.ref f)
  k : PySem.W.keepIn K (.ref f) = true
  b : Binds K fd ps []

theorem pe_const {X : Cx} {x : Str} {pos : Pos} {i : Int} (hg : Gl X x) (h : ∃ t, X.mg x = some (.int i t))
    (hd : (x == ("__debug__" : Str)) = false := by decide) : PE X (.Name x pos) (tC (.int i)) := by
  obtain ⟨t, h⟩ := h
  exact pe_glob hg h ⟨_, rfl⟩ hd
theorem pe_constS {X : Cx} {x : Str} {pos : Pos} {i : Str} (hg : Gl X x) (h : ∃ t, X.mg x = some (.str i t))
    (hd : (x == ("__debug__" : Str)) = false := by decide) : PE X (.Name x pos) (tC (.str i)) := by
  obtain ⟨t, h⟩ := h
  exact pe_glob hg h ⟨_, rfl⟩ hd

/-! ### heaps that grow -/
def Ex (H H' : Hp) : Prop := ∀ a o, H a = some o → H' a = some o
theorem Ex.rfl' (H : Hp) : Ex H H := fun _ _ h => h
theorem Ex.tr {H H1 H2 : Hp} (a : Ex H H1) (b : Ex H1 H2) : Ex H H2 := fun x o h => b x o (a x o h)
theorem Ex.new {H : Hp} {p : Addr} {o : HO} (h : H p = none) : Ex H (upd H p o) := fun a u e => by
  rw [upd_ne (ne_of_none e h)]; exact e
/-- a place that G does not know may change -/
theorem Ex.mut {G H : Hp} {p : Addr} {o : HO} (e : Ex G H) (h : G p = none) : Ex G (upd H p o) := fun a u ha => by
  rw [upd_ne (ne_of_none ha h)]; exact e a u ha
theorem Ex.both {G H : Hp} {p : Addr} {o : HO} (e : Ex G H) : Ex (upd G p o) (upd H p o) := fun a u ha => by
  by_cases hp : a = p
  · subst hp
    rw [upd_same] at ha ⊢
    exact ha
  · rw [upd_ne hp] at ha ⊢
    exact e a u ha
theorem Ex.free {G H : Hp} {p : Addr} (e : Ex G H) (h : H p = none) : G p = none := by
  cases q : G p with
  | none => rfl
  | some o => rw [e p o q] at h; cases h
theorem Ex.l {K : PySem.W.Frag} {H H' : Hp} {a : Addr} {xs : List V} (e : Ex H H') (h : SqL K H a xs) : SqL K H' a xs := by
  rcases h with (h | ⟨o, h⟩) | h
  · exact .inl (.inl (e _ _ h))
  · exact .inl (.inr ⟨o, e _ _ h⟩)
  · exact .inr h
theorem Ex.t {K : PySem.W.Frag} {H H' : Hp} {a : Addr} {xs : List V} (e : Ex H H') (h : SqT K H a xs) : SqT K H' a xs := by
  rcases h with (h | ⟨o, h⟩) | h
  · exact .inl (.inl (e _ _ h))
  · exact .inl (.inr ⟨o, e _ _ h⟩)
  · exact .inr h
/-- all but what stands at a is kept -/
def Kp (a : Addr) (H H' : Hp) : Prop := ∀ b o, b ≠ a → H b = some o → H' b = some o
theorem Kp.rfl' (a : Addr) (H : Hp) : Kp a H H := fun _ _ _ h => h
theorem Kp.tr {a : Addr} {H H1 H2 : Hp} (x : Kp a H H1) (y : Kp a H1 H2) : Kp a H H2 := fun b o n h => y b o n (x b o n h)
theorem Kp.at {a : Addr} {H : Hp} {o : HO} : Kp a H (upd H a o) := fun b u n h => by rw [upd_ne n]; exact h
theorem Kp.of {a : Addr} {H H' : Hp} (e : Ex H H') : Kp a H H' := fun b o _ h => e b o h
theorem Kp.mut {a p : Addr} {H H1 : Hp} {o : HO} (e : Kp a H H1) (h : H p = none) : Kp a H (upd H1 p o) := fun b u n hb => by
  rw [upd_ne (ne_of_none hb h)]; exact e b u n hb
theorem Ex.kp {a : Addr} {G H H' : Hp} (e : Ex G H) (g : G a = none) (k : Kp a H H') : Ex G H' := fun b o h =>
  k b o (ne_of_none h g) (e b o h)
theorem Kp.free {a p : Addr} {H H' : Hp} (k : Kp a H H') (n : p ≠ a) (h : H' p = none) : H p = none := by
  cases q : H p with
  | none => rfl
  | some o => rw [k p o n q] at h; cases h

/-! ### the box of draws: three ints -/
def BoxAt (H : Hp) (a : Addr) (c : Nat) : Prop := ∃ x y z : Int, H a = some (.lst [.int x, .int y, .int z]) ∧
  0 ≤ y ∧ y < 2147483629 ∧ 0 ≤ z ∧ z ≤ c
theorem BoxAt.up {H : Hp} {a : Addr} {c d : Nat} (b : BoxAt H a c) (h : c ≤ d) : BoxAt H a d := by
  obtain ⟨x, y, z, e, h1, h2, h3, h4⟩ := b
  exact ⟨x, y, z, e, h1, h2, h3, by omega⟩
theorem BoxAt.some {H : Hp} {a : Addr} {c : Nat} (b : BoxAt H a c) : H a ≠ none := by
  obtain ⟨x, y, z, e, _⟩ := b
  rw [e]; simp
theorem BoxAt.ne {H : Hp} {a p : Addr} {c : Nat} (b : BoxAt H a c) (h : H p = none) : p ≠ a := by
  intro e; subst e; exact b.some h
theorem BoxAt.ne' {H : Hp} {a p : Addr} {c : Nat} (b : BoxAt H a c) (h : H p = none) : a ≠ p := (b.ne h).symm
theorem BoxAt.ex {H H' : Hp} {a : Addr} {c : Nat} (b : BoxAt H a c) (e : Ex H H') : BoxAt H' a c := by
  obtain ⟨x, y, z, h, r⟩ := b
  exact ⟨x, y, z, e _ _ h, r⟩
theorem BoxAt.upd {H : Hp} {a p : Addr} {c : Nat} {o : HO} (b : BoxAt H a c) (h : a ≠ p) : BoxAt (upd H p o) a c := by
  obtain ⟨x, y, z, e, r⟩ := b
  exact ⟨x, y, z, by rw [upd_ne h]; exact e, r⟩

theorem natAbs_small {m k : Int} (h0 : 0 ≤ m) (h1 : m < 2147483647) (h2 : 0 ≤ k) (h3 : k < 1000000000000000000) : (m + k).natAbs < 2 ^ 64 := by omega
theorem BoxAt.drawn {H : Hp} {a : Addr} {c : Nat} {x y z : Int} (y0 : 0 ≤ y) (y1 : y < 2147483629) (z0 : 0 ≤ z) (z1 : z ≤ ((c + 1 : Nat) : Int)) :
    BoxAt (L2.upd H a (.lst [.int x, .int y, .int z])) a (c + 1) := ⟨x, y, z, upd_same, y0, y1, z0, by omega⟩
/-- take(box, n) -/
def spTake : Sp := fun vs H Q _ => ∃ (a : Addr) (c : Nat) (n : Int), vs = [.ref a, .int n] ∧ BoxAt H a c ∧ c < 1000000000 ∧ 0 < n ∧ n < 1000000000 ∧
  ∀ (r : Int) (H' : Hp), Kp a H H' → BoxAt H' a (c + 1) → 0 ≤ r → r < n → Q (.int r) H'
/-- a place that was free behind a kept heap was free before -/
theorem Kp.none {a p : Addr} {c : Nat} {H H' : Hp} (k : Kp a H H') (b : BoxAt H' a c) (h : H' p = none) : H p = none := k.free (b.ne h) h
/-- cell(script, k) -/
def spCell (K : PySem.W.Frag) : Sp := fun vs H Q _ => ∃ (a : Addr) (ns : List Int) (k : Int), vs = [.ref a, .int k] ∧ SqL K H a (ns.map V.int) ∧
  ns.length ≤ 63 ∧ 0 ≤ k ∧ k < 100 ∧ ∀ i, Q (.int i) H
/-- box(i) -/
def spBox : Sp := fun vs H Q _ => ∃ i : Int, vs = [.int i] ∧ ∀ a x y : _, H a = none → 0 ≤ y → y < 2147483629 → Q (.ref a) (upd H a (.lst [.int x, .int y, .int 0]))
end Gd
/-! Letters, pieces, names; plain data over a growing heap. -/
namespace Gd
open PySem PySem.Spec PyProof.Rows L2

def lowB (c : Nat) : Bool := decide (97 ≤ c) && decide (c ≤ 122)
def upB (c : Nat) : Bool := decide (65 ≤ c) && decide (c ≤ 90)
def letB (c : Nat) : Bool := lowB c || upB c
theorem uni_ascii : ∀ c < 128, Unicode.isAlpha c = letB c ∧ Unicode.isLower c = lowB c ∧ Unicode.isUpper c = upB c ∧ Unicode.isTitle c = false := by decide +kernel
theorem letB_lt {c : Nat} (h : letB c = true) : c < 128 := by
  unfold letB lowB upB at h
  simp at h
  omega
theorem lowB_let {c : Nat} (h : lowB c = true) : letB c = true := by unfold letB; rw [h]; rfl
/-- a piece -/
def pieceB (z : Str) : Bool := z.cps.toList.all letB
/-- a name -/
def nameB (z : Str) : Bool := z.cps.toList.all lowB && decide (1 ≤ z.length) && decide (z.length ≤ 4)
theorem all_list {z : Str} {p : Nat → Bool} : z.cps.all p = z.cps.toList.all p := by simp
theorem len_list (z : Str) : z.length = z.cps.toList.length := by simp [Str.length]
/-- what is_piece says of a text -/
theorem piece_of (z : Str) : (decide ((z.length : Int) = 0) || (Txt.isascii z && Txt.isalpha z)) = pieceB z := by
  unfold Txt.isascii Txt.isalpha pieceB
  rw [all_list, all_list, len_list]
  generalize z.cps.toList = l
  cases l with
  | nil => rfl
  | cons c r =>
    have e1 : decide (((c :: r).length : Int) = 0) = false := decide_eq_false (by simp; omega)
    have e2 : decide ((c :: r).length > 0) = true := by simp
    rw [e1, e2, Bool.false_or, Bool.true_and]
    generalize (c :: r) = l
    induction l with
    | nil => rfl
    | cons a l ih =>
      simp only [List.all_cons]
      by_cases ha : a < 128
      · rw [(uni_ascii a ha).1, decide_eq_true ha, Bool.true_and]
        rw [← ih]
        cases letB a <;> simp
      · have e3 : letB a = false := by
          cases h : letB a with
          | false => rfl
          | true => exact absurd (letB_lt h) ha
        rw [decide_eq_false ha, e3]
        simp
/-- what is_name says of a text -/
theorem name_of (z : Str) : (pieceB z && (Txt.islower z && decide ((z.length : Int) ≤ 4))) = nameB z := by
  unfold Txt.islower pieceB nameB
  rw [show z.cps.any Unicode.isLower = z.cps.toList.any Unicode.isLower by simp,
    show (z.cps.any fun c => Unicode.isUpper c || Unicode.isTitle c) = z.cps.toList.any fun c => Unicode.isUpper c || Unicode.isTitle c by simp, len_list]
  generalize z.cps.toList = l
  have e1 : decide ((l.length : Int) ≤ 4) = decide (l.length ≤ 4) := by
    by_cases h : l.length ≤ 4
    · rw [decide_eq_true h, decide_eq_true (by omega)]
    · rw [decide_eq_false h, decide_eq_false (by omega)]
  rw [e1]
  by_cases hp : l.all letB = true
  · rw [hp]
    have h : ∀ c ∈ l, letB c = true := List.all_eq_true.mp hp
    have e2 : l.any Unicode.isLower = l.any lowB := by
      apply Bool.eq_iff_iff.mpr
      simp only [List.any_eq_true]
      constructor
      · rintro ⟨c, hc, q⟩; exact ⟨c, hc, by rw [← (uni_ascii c (letB_lt (h c hc))).2.1]; exact q⟩
      · rintro ⟨c, hc, q⟩; exact ⟨c, hc, by rw [(uni_ascii c (letB_lt (h c hc))).2.1]; exact q⟩
    have e3 : (l.any fun c => Unicode.isUpper c || Unicode.isTitle c) = l.any upB := by
      apply Bool.eq_iff_iff.mpr
      simp only [List.any_eq_true]
      constructor
      · rintro ⟨c, hc, q⟩
        have u := uni_ascii c (letB_lt (h c hc))
        rw [u.2.2.1, u.2.2.2, Bool.or_false] at q
        exact ⟨c, hc, q⟩
      · rintro ⟨c, hc, q⟩
        have u := uni_ascii c (letB_lt (h c hc))
        exact ⟨c, hc, by rw [u.2.2.1, q]; rfl⟩
    have e4 : (l.any lowB && !l.any upB) = (l.all lowB && decide (1 ≤ l.length)) := by
      apply Bool.eq_iff_iff.mpr
      simp only [Bool.and_eq_true, Bool.not_eq_true', List.any_eq_true, List.any_eq_false, List.all_eq_true, decide_eq_true_eq]
      constructor
      · rintro ⟨⟨c, hc, _⟩, q⟩
        refine ⟨fun d hd => ?_, List.length_pos_of_mem hc⟩
        have := h d hd
        unfold letB at this
        rw [Bool.or_eq_true] at this
        rcases this with t | t
        · exact t
        · exact absurd t (q d hd)
      · rintro ⟨q, hl⟩
        obtain ⟨c, hc⟩ := List.exists_mem_of_length_pos hl
        refine ⟨⟨c, hc, q c hc⟩, fun d hd t => ?_⟩
        have := q d hd
        unfold lowB at this
        unfold upB at t
        simp at this t
        omega
    rw [e2, e3, Bool.true_and, e4]
  · have e : l.all letB = false := by simpa using hp
    have e5 : l.all lowB = false := by
      cases q : l.all lowB with
      | false => rfl
      | true =>
        exfalso
        apply hp
        exact List.all_eq_true.mpr fun c hc => lowB_let (List.all_eq_true.mp q c hc)
    rw [e, e5]
    simp

/-- ASCII alone -/
def ascB (z : Str) : Bool := z.cps.toList.all fun c => decide (c < 128)
/-- a text within the limits -/
def okS (z : Str) : Bool := decide (z.length ≤ 100000) && ascB z
theorem okS_len {z : Str} (h : okS z = true) : z.length ≤ 100000 := by
  unfold okS at h
  simp at h
  exact h.1
theorem okS_asc {z : Str} (h : okS z = true) : ∀ c ∈ z.cps.toList, c < 128 := by
  unfold okS ascB at h
  rw [Bool.and_eq_true] at h
  intro c hc
  exact of_decide_eq_true (List.all_eq_true.mp h.2 c hc)
theorem okS_of {z : Str} (h : z.length ≤ 100000) (a : ∀ c ∈ z.cps.toList, c < 128) : okS z = true := by
  unfold okS ascB
  rw [Bool.and_eq_true]
  exact ⟨decide_eq_true h, List.all_eq_true.mpr fun c hc => decide_eq_true (a c hc)⟩

/-! ### plain data -/
inductive D where
  | non | bl (b : Bool) | int (i : Int) | str (z : Str) | lst (xs : List D) | tup (xs : List D) | oth
mutual
/-- v stands for d; O tells which other objects may stand -/
inductive DV (O : HO → Prop) (H : Hp) : V → D → Prop
  | non : DV O H .non .non
  | bl (b : Bool) : DV O H (.bl b) (.bl b)
  | int (i : Int) : DV O H (.int i) (.int i)
  | str (z : Str) (h : okS z = true) : DV O H (.str z) (.str z)
  | lst {a : Addr} {vs : List V} {ds : List D} (h : H a = some (.lst vs)) (r : DVs O H vs ds) (l : vs.length ≤ 100000) : DV O H (.ref a) (.lst ds)
  | tup {a : Addr} {vs : List V} {ds : List D} (h : H a = some (.tup vs)) (r : DVs O H vs ds) (l : vs.length ≤ 100000) : DV O H (.ref a) (.tup ds)
  | oth {a : Addr} {o : HO} (h : H a = some o) (p : O o) : DV O H (.ref a) .oth
inductive DVs (O : HO → Prop) (H : Hp) : List V → List D → Prop
  | nil : DVs O H [] []
  | cons {v : V} {d : D} {vs : List V} {ds : List D} (h : DV O H v d) (r : DVs O H vs ds) : DVs O H (v :: vs) (d :: ds)
end
section
variable {O : HO → Prop} {H H' : Hp}
mutual
theorem DV.ex (e : Ex H H') : ∀ (d : D) (v : V), DV O H v d → DV O H' v d
  | .non, _, .non => .non
  | .bl _, _, .bl b => .bl b
  | .int _, _, .int i => .int i
  | .str _, _, .str z h => .str z h
  | .lst ds, _, .lst h r l => .lst (e _ _ h) (DVs.ex e ds _ r) l
  | .tup ds, _, .tup h r l => .tup (e _ _ h) (DVs.ex e ds _ r) l
  | .oth, _, .oth h p => .oth (e _ _ h) p
theorem DVs.ex (e : Ex H H') : ∀ (ds : List D) (vs : List V), DVs O H vs ds → DVs O H' vs ds
  | [], _, .nil => .nil
  | d :: ds, _, .cons h r => .cons (DV.ex e d _ h) (DVs.ex e ds _ r)
end
theorem DVs.length : ∀ {vs : List V} {ds : List D}, DVs O H vs ds → vs.length = ds.length
  | _, _, .nil => rfl
  | _, _, .cons _ r => by simp [DVs.length r]
theorem DVs.get : ∀ {vs : List V} {ds : List D} {i : Nat} {v : V}, DVs O H vs ds → vs[i]? = some v → ∃ d, ds[i]? = some d ∧ DV O H v d
  | _, _, 0, _, .cons h _, e => by simp at e; subst e; exact ⟨_, rfl, h⟩
  | _, _, i + 1, _, .cons _ r, e => by simpa using DVs.get r (by simpa using e)
theorem DVs.app : ∀ {vs ws : List V} {ds es : List D}, DVs O H vs ds → DVs O H ws es → DVs O H (vs ++ ws) (ds ++ es)
  | _, _, _, _, .nil, s => s
  | _, _, _, _, .cons h r, s => .cons h (DVs.app r s)
theorem DVs.set {v : V} {d : D} (h : DV O H v d) : ∀ {vs : List V} {ds : List D} (i : Nat), DVs O H vs ds → DVs O H (vs.set i v) (ds.set i d)
  | _, _, _, .nil => .nil
  | _, _, 0, .cons _ r => .cons h r
  | _, _, i + 1, .cons g r => .cons g (DVs.set h i r)
theorem DVs.take : ∀ {vs : List V} {ds : List D} (n : Nat), DVs O H vs ds → DVs O H (vs.take n) (ds.take n)
  | _, _, 0, _ => by simp; exact .nil
  | _, _, n + 1, .nil => by simp; exact .nil
  | _, _, n + 1, .cons g r => .cons g (DVs.take n r)
theorem DVs.drop : ∀ {vs : List V} {ds : List D} (n : Nat), DVs O H vs ds → DVs O H (vs.drop n) (ds.drop n)
  | _, _, 0, r => r
  | _, _, n + 1, .nil => by simp; exact .nil
  | _, _, n + 1, .cons _ r => DVs.drop n r
end

def isStr : D → Bool | .str _ => true | _ => false
def isBl : D → Bool | .bl _ => true | _ => false
def isIntB : D → Bool | .int _ => true | .bl _ => true | _ => false
def isTup : D → Bool | .tup _ => true | _ => false
def isLst : D → Bool | .lst _ => true | _ => false
/-- what is asked of other objects: no text, no bool, no int, no tuple, no list -/
def OthOk (K : PySem.W.Frag) (O : HO → Prop) : Prop := ∀ (H : Hp) (a : Addr) (o : HO), O o → H a = some o → ∃ t, TyX K H (.ref a) t ∧
  PySem.W.kitOne K t (.type "str") = some false ∧ PySem.W.kitOne K t (.type "bool") = some false ∧ PySem.W.kitOne K t (.type "int") = some false ∧
  PySem.W.kitOne K t (.type "tuple") = some false ∧ PySem.W.kitOne K t (.type "list") = some false
theorem kit5 {K : PySem.W.Frag} (T : String) (a b c d e : Bool)
    (h : [kitB T "str", kitB T "bool", kitB T "int", kitB T "tuple", kitB T "list"] = [some a, some b, some c, some d, some e]) :
    PySem.W.kitOne K (.type T) (.type "str") = some a ∧ PySem.W.kitOne K (.type T) (.type "bool") = some b ∧ PySem.W.kitOne K (.type T) (.type "int") = some c ∧
    PySem.W.kitOne K (.type T) (.type "tuple") = some d ∧ PySem.W.kitOne K (.type T) (.type "list") = some e := by
  injection h with h1 h
  injection h with h2 h
  injection h with h3 h
  injection h with h4 h
  injection h with h5 h
  exact ⟨kit_ty h1, kit_ty h2, kit_ty h3, kit_ty h4, kit_ty h5⟩
/-- what isinstance says -/
theorem DV.ty {K : PySem.W.Frag} {O : HO → Prop} {H : Hp} (ho : OthOk K O) {v : V} {d : D} (h : DV O H v d) : ∃ t, TyX K H v t ∧
    PySem.W.kitOne K t (.type "str") = some (isStr d) ∧ PySem.W.kitOne K t (.type "bool") = some (isBl d) ∧ PySem.W.kitOne K t (.type "int") = some (isIntB d) ∧
    PySem.W.kitOne K t (.type "tuple") = some (isTup d) ∧ PySem.W.kitOne K t (.type "list") = some (isLst d) := by
  cases h with
  | non => exact ⟨_, .base .non, kit5 "NoneType" false false false false false (by decide +kernel)⟩
  | bl b => exact ⟨_, .base (.bl b), kit5 "bool" false true true false false (by decide +kernel)⟩
  | int i => exact ⟨_, .base (.int i), kit5 "int" false false true false false (by decide +kernel)⟩
  | str z _ => exact ⟨_, .base (.str z), kit5 "str" true false false false false (by decide +kernel)⟩
  | lst h _ _ => exact ⟨_, .base (.lst h), kit5 "list" false false false false true (by decide +kernel)⟩
  | tup h _ _ => exact ⟨_, .base (.tup h), kit5 "tuple" false false false true false (by decide +kernel)⟩
  | oth h p =>
    obtain ⟨t, h1, h2, h3, h4, h5, h6⟩ := ho H _ _ p h
    exact ⟨t, h1, h2, h3, h4, h5, h6⟩
theorem kit_two {K : PySem.W.Frag} {t a b : Value} {x y : Bool} (h1 : PySem.W.kitOne K t a = some x) (h2 : PySem.W.kitOne K t b = some y) :
    PySem.W.kitAny K t [a, b] = some (x || y) := by
  refine kitAny_cons h1 (fun e => ?_) (fun e => by rw [e]; rfl)
  subst e
  refine kitAny_cons h2 (fun e => ?_) (fun e => by rw [e]; rfl)
  subst e
  rfl

/-! ### what the functions of rows say -/
def isName : D → Bool | .str z => nameB z | _ => false
def isPiece : D → Bool | .str z => pieceB z | _ => false
def isMark : D → Bool | .tup [x, y] => isName x && isBl y | _ => false
def isInt (d : D) (lo hi : Int) : Bool := match d with | .int i => decide (lo ≤ i) && decide (i ≤ hi) | _ => false
def fits (i : Nat) (d : D) : Bool := if i % 2 = 0 then isPiece d else isMark d
/-- the first item that can't stand at its place -/
def misfit : Nat → List D → Option Nat
  | _, [] => none
  | i, d :: ds => if fits i d = true then misfit (i + 1) ds else some i
def isRow : D → Bool
  | .lst xs => decide (xs.length % 2 = 1) && (misfit 0 xs).isNone
  | .tup xs => decide (xs.length % 2 = 1) && (misfit 0 xs).isNone
  | _ => false
end Gd
namespace Gd
open PySem PySem.Spec PyProof.Rows L2
theorem le_line {n : Nat} (h : n ≤ 100000) : n ≤ sizeLine := Nat.le_trans h (by decide)
theorem tyS {K : PySem.W.Frag} {z : Str} {H : Hp} : tyV K "str" (.str z) H := rfl
theorem bl_to {Q : VK} {H : Hp} {a b : Bool} (e : a = b) (h : Q (.bl b) H) : Q (.bl a) H := by rw [e]; exact h
theorem dec_int0 (n : Nat) : decide (V.int (n : Int) = V.int 0) = decide ((n : Int) = 0) := by
  by_cases h : (n : Int) = 0
  · rw [h]; rfl
  · rw [decide_eq_false h, decide_eq_false (fun e => h (V.int.inj e))]
end Gd
namespace Gd
open PySem PySem.Spec PyProof.Rows L2
/-- an item at a place in bounds, by what holds of all -/
theorem atI_all {α : Type} {xs : List α} {r : Int} (Pr : α → Prop) (h0 : 0 ≤ r) (h1 : r < xs.length) (h : ∀ v ∈ xs, Pr v) : ∃ v, atI xs r = some v ∧ Pr v := by
  have h2 : r.toNat < xs.length := by omega
  refine ⟨xs[r.toNat], ?_, h _ (List.getElem_mem h2)⟩
  unfold atI ixN
  rw [if_pos h0, if_pos (by simpa using h1)]
  simp [h2]
theorem sub_sl {n m : Nat} (h : n ≤ 100000) (h2 : m ≤ 100000) : n + m ≤ sizeLine := Nat.le_trans (Nat.add_le_add h h2) (by decide)
theorem join_size {ys : List Str} {k : Nat} {a : Str} (h : ∀ y ∈ ys, y.length ≤ k) : (ys.map (·.length)).sum + ys.length * a.length ≤ ys.length * (k + a.length) := by
  induction ys with
  | nil => simp
  | cons y ys ih =>
    have h1 := h y (by simp)
    have h2 := ih fun z hz => h z (by simp [hz])
    simp only [List.map_cons, List.sum_cons, List.length_cons]
    rw [Nat.add_mul, Nat.add_mul, Nat.mul_add] at *
    omega
theorem str_app_list (x y : Str) : (x ++ y).cps.toList = x.cps.toList ++ y.cps.toList := by
  show (x.cps ++ y.cps).toList = _
  simp
theorem sjoin_list : ∀ ys : List Str, (Str.join "" ys).cps.toList = (ys.map (·.cps.toList)).flatten
  | [] => rfl
  | [x] => by simp [Str.join]
  | x :: y :: r => by
    have e : Str.join "" (x :: y :: r) = x ++ ("" : Str) ++ Str.join "" (y :: r) := rfl
    have e2 : ("" : Str).cps.toList = [] := rfl
    rw [e, str_app_list, str_app_list, sjoin_list (y :: r), e2]
    simp
theorem join_empty_list (ys : List Str) : (Txt.join "" ys).cps.toList = (ys.map (·.cps.toList)).flatten := by
  rw [show Txt.join "" ys = Str.join "" ys from PySem.StrLaws.glued_eq_join "" ys]
  exact sjoin_list ys
theorem sum_len : ∀ {ys : List Str} {k : Nat}, (∀ y ∈ ys, y.length ≤ k) → ((ys.map (·.cps.toList)).flatten).length ≤ ys.length * k
  | [], _, _ => by simp
  | y :: ys, k, h => by
    have h1 := h y (by simp)
    have h2 := sum_len (ys := ys) fun z hz => h z (by simp [hz])
    rw [len_list] at h1
    simp only [List.map_cons, List.flatten_cons, List.length_append, List.length_cons, Nat.add_mul]
    omega
theorem join_len {ys : List Str} {k : Nat} (h : ∀ y ∈ ys, y.length ≤ k) : (Txt.join "" ys).length ≤ ys.length * k := by
  rw [len_list, join_empty_list]
  exact sum_len h
theorem join_asc {ys : List Str} (h : ∀ y ∈ ys, ∀ c ∈ y.cps.toList, c < 128) : ∀ c ∈ (Txt.join "" ys).cps.toList, c < 128 := by
  intro c hc
  rw [join_empty_list] at hc
  obtain ⟨l, hl, hc⟩ := List.mem_flatten.mp hc
  obtain ⟨y, hy, rfl⟩ := List.mem_map.mp hl
  exact h y hy c hc
theorem join_fits {ys : List Str} {k n : Nat} (h : ∀ y ∈ ys, y.length ≤ k) (hn : ys.length ≤ n) (hk : n * k ≤ 16777216) :
    (ys.map (·.length)).sum + ys.length * ("" : Str).length ≤ 16777216 := by
  have h1 := join_size (a := "") h
  have h2 : ys.length * (k + ("" : Str).length) ≤ n * k := Nat.mul_le_mul hn (Nat.le_of_eq rfl)
  omega
end Gd
namespace Gd
open PySem PySem.Spec PyProof.Rows L2
/-- a text of such a length -/
def strIn (lo hi : Nat) : V → Bool
  | .str z => decide (lo ≤ z.length) && decide (z.length ≤ hi) && ascB z
  | _ => false
theorem strIn_of {lo hi : Nat} {v : V} (h : strIn lo hi v = true) : ∃ z, v = .str z ∧ lo ≤ z.length ∧ z.length ≤ hi ∧ ∀ c ∈ z.cps.toList, c < 128 := by
  cases v with
  | str z =>
    unfold strIn ascB at h
    rw [Bool.and_eq_true, Bool.and_eq_true] at h
    exact ⟨z, rfl, of_decide_eq_true h.1.1, of_decide_eq_true h.1.2, fun c hc => of_decide_eq_true (List.all_eq_true.mp h.2 c hc)⟩
  | _ => cases h
end Gd
namespace Gd
open PySem PySem.Spec PyProof.Rows L2
/-- a comprehension's turn without a test -/
theorem lcY {σ : L2.St} {H : Hp} {A B : Hp → Prop} (h : A H) : tYes σ H fun b H3 => if b = true then A H3 else B H3 := by
  show if true = true then A H else B H
  exact iteT h
end Gd
/-! Every other item. -/
namespace Gd
open PySem PySem.Spec PyProof.Rows L2 Builtin

def evens {α : Type} : List α → List α
  | [] => []
  | [x] => [x]
  | x :: _ :: r => x :: evens r
def odds {α : Type} : List α → List α
  | [] => []
  | [_] => []
  | _ :: y :: r => y :: odds r
theorem vals_pick {xs : List V} {us : List Value} (r : Vals xs us) : ∀ ix : List Nat, Vals (ix.filterMap (xs[·]?)) (ix.filterMap (us[·]?))
  | [] => .nil
  | i :: ix => by
    have ih := vals_pick r ix
    rw [List.filterMap_cons, List.filterMap_cons]
    cases h : xs[i]? with
    | none => rw [r.none_of h]; exact ih
    | some x =>
      obtain ⟨u, hu, ru⟩ := r.get h
      rw [hu]
      exact .cons ru ih
/-- the places of every other item from j on -/
theorem pick_evens {α : Type} : ∀ (xs : List α) (pre : List α), (List.range ((xs.length + 1) / 2)).filterMap (fun k => (pre ++ xs)[pre.length + k * 2]?) = evens xs
  | [], pre => by simp [evens]
  | [x], pre => by simp [evens]
  | x :: y :: r, pre => by
    have e : ((x :: y :: r).length + 1) / 2 = (r.length + 1) / 2 + 1 := by simp; omega
    rw [e, List.range_succ_eq_map, List.filterMap_cons]
    have e0 : (pre ++ x :: y :: r)[pre.length + 0 * 2]? = some x := by simp
    rw [e0, List.filterMap_map]
    have ih := pick_evens r (pre ++ [x, y])
    show x :: _ = x :: evens r
    rw [← ih]
    congr 1
    apply congrArg (fun f => List.filterMap f (List.range ((r.length + 1) / 2)))
    funext k
    show (pre ++ x :: y :: r)[pre.length + (k + 1) * 2]? = (pre ++ [x, y] ++ r)[(pre ++ [x, y]).length + k * 2]?
    rw [List.append_assoc]
    have : (pre ++ [x, y]).length + k * 2 = pre.length + (k + 1) * 2 := by simp; omega
    rw [this]
    rfl
theorem odds_eq {α : Type} : ∀ xs : List α, odds xs = evens (xs.drop 1)
  | [] => rfl
  | [_] => rfl
  | [_, y] => rfl
  | _ :: y :: z :: r => by
    show y :: odds (z :: r) = evens (y :: z :: r)
    rw [odds_eq (z :: r)]
    rfl
theorem evens_length {α : Type} : ∀ xs : List α, (evens xs).length = (xs.length + 1) / 2
  | [] => by simp [evens]
  | [_] => by simp [evens]
  | _ :: _ :: r => by
    show (evens r).length + 1 = _
    rw [evens_length r]
    simp
    omega
theorem odds_length {α : Type} (xs : List α) : (odds xs).length = xs.length / 2 := by
  rw [odds_eq, evens_length, List.length_drop]
  omega
theorem evens_get {α : Type} : ∀ (xs : List α) (k : Nat), (evens xs)[k]? = xs[2 * k]?
  | [], k => by simp [evens]
  | [x], 0 => rfl
  | [x], k + 1 => by
    show ([] : List α)[k]? = _
    rw [List.getElem?_eq_none (by simp), List.getElem?_eq_none (by simp; omega)]
  | x :: y :: r, 0 => rfl
  | x :: y :: r, k + 1 => by
    show (evens r)[k]? = _
    rw [evens_get r k]
    show r[2 * k]? = (x :: y :: r)[2 * k + 2]?
    rfl
theorem odds_get {α : Type} (xs : List α) (k : Nat) : (odds xs)[k]? = xs[2 * k + 1]? := by
  rw [odds_eq, evens_get, List.getElem?_drop]
  congr 1
  omega
theorem bounds_two (n : Nat) : sliceBounds none none (some 2) n = (0, (n : Int), 2) := rfl
theorem bounds_one (n : Nat) : sliceBounds (some 1) none (some 2) n = (min 1 (n : Int), (n : Int), 2) := by
  unfold sliceBounds
  simp
  omega
theorem range_two (a n : Nat) (h : a ≤ n) : sliceRange (a : Int) (n : Int) 2 = (List.range ((n - a + 1) / 2)).map fun k => a + k * 2 := by
  unfold sliceRange
  have e : (if (2 : Int) > 0 then (if (a : Int) < n then ((n : Int) - a + 2 - 1) / 2 else 0) else (if (a : Int) > n then ((a : Int) - n - 2 - 1) / (-2) else 0)).toNat = (n - a + 1) / 2 := by
    rw [if_pos (by decide)]
    split <;> omega
  show (List.range _).map _ = _
  rw [e]
  apply List.map_congr_left
  intro k _
  omega
theorem pick0 {α : Type} (xs : List α) : (sliceRange (sliceBounds none none (some 2) xs.length).1 (sliceBounds none none (some 2) xs.length).2.1 (sliceBounds none none (some 2) xs.length).2.2).filterMap (xs[·]?) = evens xs := by
  rw [bounds_two]
  have := range_two 0 xs.length (Nat.zero_le _)
  simp only [] at this ⊢
  rw [show ((0 : Nat) : Int) = 0 from rfl] at this
  rw [this, List.filterMap_map]
  have q := pick_evens xs []
  simpa [Function.comp_def] using q
theorem pick1 {α : Type} (xs : List α) : (sliceRange (sliceBounds (some 1) none (some 2) xs.length).1 (sliceBounds (some 1) none (some 2) xs.length).2.1 (sliceBounds (some 1) none (some 2) xs.length).2.2).filterMap (xs[·]?) = odds xs := by
  rw [bounds_one]
  cases xs with
  | nil => rfl
  | cons x r =>
    have e : min 1 ((x :: r).length : Int) = ((1 : Nat) : Int) := by simp; omega
    simp only []
    rw [e, range_two 1 (x :: r).length (by simp), List.filterMap_map, odds_eq]
    have q := pick_evens r [x]
    rw [List.drop_one, List.tail_cons, ← q]
    have : (x :: r).length - 1 + 1 = r.length + 1 := by simp
    rw [this]
    rfl

section
variable {X : Cx}
/-- l[::2] and l[1::2] of a list -/
def rTwoL (K : PySem.W.Frag) : V → Option Int → Option Int → Option Int → Hp → VK → Prop := fun x lo hi st H Q =>
  ∃ a xs, x = .ref a ∧ SqL K H a xs ∧ hi = none ∧ st = some 2 ∧
    ((lo = none ∧ ∀ p, H p = none → Q (.ref p) (upd H p (.lst (evens xs)))) ∨ (lo = some 1 ∧ ∀ p, H p = none → Q (.ref p) (upd H p (.lst (odds xs)))))
theorem ss_twoL : SlS X (rTwoL X.K) := by
  intro pins s σ H x v vl vu vs lo hi st sl Q I rx hs pl pu ps h
  obtain ⟨a, xs, rfl, hx, rfl, rfl, q⟩ := h
  cases rx
  obtain ⟨its, r, ht, hz⟩ := I.list hx
  have hl := r.length
  have hpick : ∀ lo', (slicePick its.toArray lo' none (some 2)) = ((sliceRange (sliceBounds lo' none (some 2) its.length).1 (sliceBounds lo' none (some 2) its.length).2.1 (sliceBounds lo' none (some 2) its.length).2.2).filterMap (its[·]?)).toArray := by
    intro lo'
    unfold slicePick
    simp
  refine ⟨"list", _, PySem.slot_list_getitem.lookup, ht.isList.typeIs, ?_⟩
  refine wpAny_getItem_list_slice ht.isList hs pl pu ps (by decide) ?_ (by rw [List.size_toArray]; omega)
  rw [hpick]
  rcases q with ⟨rfl, q⟩ | ⟨rfl, q⟩
  · refine ⟨.ref _, _, I.laid (t' := s.toks) (o := .lst (evens xs)) (fun b ob q => Heap.get?_push_of_some _ q) (Nat.le_refl _) ?_, rfl, q _ (I.hok.fresh (Nat.le_refl _))⟩
    refine ⟨by rw [evens_length]; omega, _, 0, ?_, Heap.get?_push_size _ rfl⟩
    have := vals_pick r (sliceRange (sliceBounds none none (some 2) its.length).1 (sliceBounds none none (some 2) its.length).2.1 (sliceBounds none none (some 2) its.length).2.2)
    rw [← hl, pick0 xs] at this
    rw [← hl]
    exact this
  · refine ⟨.ref _, _, I.laid (t' := s.toks) (o := .lst (odds xs)) (fun b ob q => Heap.get?_push_of_some _ q) (Nat.le_refl _) ?_, rfl, q _ (I.hok.fresh (Nat.le_refl _))⟩
    refine ⟨by rw [odds_length]; omega, _, 0, ?_, Heap.get?_push_size _ rfl⟩
    have := vals_pick r (sliceRange (sliceBounds (some 1) none (some 2) its.length).1 (sliceBounds (some 1) none (some 2) its.length).2.1 (sliceBounds (some 1) none (some 2) its.length).2.2)
    rw [← hl, pick1 xs] at this
    rw [← hl]
    exact this
end
end Gd
/-! Rules whose reading names the written part by a letter (for a comprehension's element). -/
namespace Gd
open PySem PySem.Spec PyProof.Rows L2
section
variable {X : Cx} {K : PySem.W.Frag}
/-- an expression that is never reached -/
theorem pe_never {e : Expr} : PE X e (fun _ _ _ => False) := ⟨fun _ _ _ _ _ _ h => h.elim⟩
theorem ix_listK (e : X.K = K) : IxR X (rIxL K) := e ▸ ix_list
theorem ix_tupK (e : X.K = K) : IxR X (rIxT K) := e ▸ ix_tup
theorem sl_listK (e : X.K = K) : SlR X (rSlL K) := e ▸ sl_list
theorem op_in_seqK (e : X.K = K) : OpR X (compareOp .In) (rIn K false) := e ▸ op_in_seq
theorem op_notIn_seqK (e : X.K = K) : OpR X (compareOp .NotIn) (rIn K true) := e ▸ op_notIn_seq
theorem op_eqDK (e : X.K = K) (hu : X.A.units + 64 < cLine) : OpR X (compareOp .Eq) (rEqD K) := e ▸ op_eqD hu
theorem op_neDK (e : X.K = K) (hu : X.A.units + 64 < cLine) : OpR X (compareOp .NotEq) (rNeD K) := e ▸ op_neD hu
theorem call_isiK' (e : X.K = K) : CallR X (.builtin "isinstance") (rIsi K) := e ▸ call_isi
theorem call_reprK (e : X.K = K) (hgd : X.A.guards = some []) (hu : X.A.units + 66 < cLine) : CallR X (.builtin "repr") (rReprD K) := e ▸ call_reprD hgd hu
def rLen (K : PySem.W.Frag) : List V → Hp → VK → Prop := fun xs H Q => ∃ p ys, xs = [.ref p] ∧ (SqL K H p ys ∨ SqT K H p ys) ∧ Q (.int (ys.length : Nat)) H
theorem call_lenK (e : X.K = K) : CallR X (.builtin "len") (rLen K) := by subst e; exact call_len_seq
end
end Gd
namespace Gd
open PySem PySem.Spec PyProof.Rows L2
/-- G is what is known for good, H what stands; the box at a is apart; G0, H0 what was so at the start -/
structure Sta (G0 H0 G H : Hp) (a : Addr) (c : Nat) : Prop where
  ex : Ex G H
  ga : G a = none
  bx : BoxAt H a c
  kp : Kp a H0 H
  up : Ex G0 G
  fr : ∀ b, H0 b ≠ none → G0 b = none → G b = none
section
variable {G0 H0 G G' H H' : Hp} {a p : Addr} {c d : Nat} {o : HO}
theorem Sta.start (e : Ex G H) (g : G a = none) (b : BoxAt H a c) : Sta G H G H a c := ⟨e, g, b, Kp.rfl' a H, Ex.rfl' G, fun _ _ h => h⟩
theorem Sta.new (S : Sta G0 H0 G H a c) (hp : H p = none) (o : HO) : Sta G0 H0 (upd G p o) (upd H p o) a c :=
  ⟨S.ex.both, by rw [upd_ne (S.bx.ne hp).symm]; exact S.ga, S.bx.upd (S.bx.ne' hp), S.kp.mut (S.kp.none S.bx hp), S.up.mut (S.up.free (S.ex.free hp)), fun b hb g => by
    rw [upd_ne (fun e => hb (by rw [e]; exact S.kp.none S.bx hp))]
    exact S.fr b hb g⟩
theorem Sta.hid (S : Sta G0 H0 G H a c) (hp : H p = none) (o : HO) : Sta G0 H0 G (upd H p o) a c :=
  ⟨S.ex.mut (S.ex.free hp), S.ga, S.bx.upd (S.bx.ne' hp), S.kp.mut (S.kp.none S.bx hp), S.up, S.fr⟩
theorem Sta.put (S : Sta G0 H0 G H a c) (hg : G p = none) (ha : p ≠ a) (h0 : H0 p = none) (o : HO) : Sta G0 H0 G (upd H p o) a c :=
  ⟨S.ex.mut hg, S.ga, S.bx.upd ha.symm, S.kp.mut h0, S.up, S.fr⟩
theorem Sta.draw (S : Sta G0 H0 G H a c) (k : Kp a H H') (b : BoxAt H' a d) : Sta G0 H0 G H' a d := ⟨S.ex.kp S.ga k, S.ga, b, S.kp.tr k, S.up, S.fr⟩
theorem Sta.grow (S : Sta G0 H0 G H a c) (e : Ex H H') : Sta G0 H0 G H' a c := ⟨S.ex.tr e, S.ga, S.bx.ex e, S.kp.tr (Kp.of e), S.up, S.fr⟩
theorem Sta.enew (S : Sta G0 H0 G H a c) (hp : H p = none) : Ex G (upd G p o) := Ex.new (S.ex.free hp)
theorem Sta.le (S : Sta G0 H0 G H a c) (h : c ≤ d) : Sta G0 H0 G H a d := ⟨S.ex, S.ga, S.bx.up h, S.kp, S.up, S.fr⟩
/-- other parts kept: an instance that G does not know -/
theorem Sta.kpx {x : Addr} (S : Sta G0 H0 G H a c) (hg : G x = none) (h0 : H0 x = none) (hx : x ≠ a) (k : Kp x H H') : Sta G0 H0 G H' a c := by
  refine ⟨S.ex.kp hg k, S.ga, ?_, fun b o nb h => ?_, S.up, S.fr⟩
  · obtain ⟨y, z, w, h, r⟩ := S.bx
    exact ⟨y, z, w, k _ _ hx.symm h, r⟩
  · exact k _ _ (ne_of_none h h0) (S.kp _ _ nb h)
theorem Sta.know (S : Sta G0 H0 G H a c) (h : H p = some o) (np : p ≠ a) (h0 : H0 p = none) (g0 : G p = none) : Sta G0 H0 (upd G p o) H a c := by
  refine ⟨fun b u hb => ?_, by rw [upd_ne np.symm]; exact S.ga, S.bx, S.kp, S.up.mut (S.up.free g0), fun b hb g => ?_⟩
  · by_cases e : b = p
    · subst e
      rw [upd_same] at hb
      rw [h]
      exact hb
    · rw [upd_ne e] at hb
      exact S.ex b u hb
  · rw [upd_ne (fun e => hb (by rw [e]; exact h0))]
    exact S.fr b hb g
theorem Sta.tr (S : Sta G0 H0 G H a c) (T : Sta G H G' H' a d) : Sta G0 H0 G' H' a d :=
  ⟨T.ex, T.ga, T.bx, S.kp.tr T.kp, S.up.tr T.up, fun b hb g => T.fr b (fun e => by
    by_cases hba : b = a
    · subst hba; exact S.bx.some e
    · cases q : H0 b with
      | none => exact hb q
      | some u => rw [S.kp b u hba q] at e; cases e) (S.fr b hb g)⟩
end
end Gd

namespace Gd
open PySem PySem.Spec PyProof.Rows L2
theorem DVs.mem {O : HO → Prop} {H : Hp} : ∀ {vs : List V} {ds : List D}, DVs O H vs ds → ∀ v ∈ vs, ∃ d, d ∈ ds ∧ DV O H v d
  | _, _, .nil, v, h => by simp at h
  | _, _, .cons h r, v, hv => by
    rcases List.mem_cons.mp hv with rfl | hv
    · exact ⟨_, by simp, h⟩
    · obtain ⟨d, h1, h2⟩ := DVs.mem r v hv
      exact ⟨d, by simp [h1], h2⟩
end Gd
namespace Gd
open PySem PySem.Spec PyProof.Rows L2
theorem DVs.cut {O : HO → Prop} {H : Hp} {vs : List V} {ds : List D} (h : DVs O H vs ds) (lo hi : Option Int) : ∃ es, DVs O H (cutV vs lo hi) es ∧ ∀ d ∈ es, d ∈ ds :=
  ⟨_, (h.drop _).take _, fun _ hd => List.mem_of_mem_drop (List.mem_of_mem_take hd)⟩
mutual
/-- how deep it goes -/
def dep : D → Nat
  | .lst xs => depAll xs + 1
  | .tup xs => depAll xs + 1
  | _ => 0
def depAll : List D → Nat
  | [] => 0
  | d :: ds => max (dep d) (depAll ds)
end
theorem depAll_le {n : Nat} : ∀ {ds : List D}, (∀ d ∈ ds, dep d ≤ n) → depAll ds ≤ n
  | [], _ => Nat.zero_le _
  | d :: ds, h => by
    have h1 := h d (by simp)
    have h2 := depAll_le (ds := ds) fun x hx => h x (by simp [hx])
    unfold depAll
    omega
theorem dep_of_all {n : Nat} : ∀ {ds : List D}, depAll ds ≤ n → ∀ d ∈ ds, dep d ≤ n
  | d :: ds, h, x, hx => by
    unfold depAll at h
    rcases List.mem_cons.mp hx with rfl | hx
    · omega
    · exact dep_of_all (ds := ds) (by omega) x hx
theorem all_dep {ds : List D} {n : Nat} (h : (ds.all fun d => decide (dep d ≤ n)) = true) : ∀ d ∈ ds, dep d ≤ n := fun d hd => of_decide_eq_true (List.all_eq_true.mp h d hd)
theorem app_mem {q : D → Prop} {xs ys : List D} (h1 : ∀ d ∈ xs, q d) (h2 : ∀ d ∈ ys, q d) : ∀ d ∈ xs ++ ys, q d := fun d hd => by
  rcases List.mem_append.mp hd with h | h
  · exact h1 d h
  · exact h2 d h
theorem one_mem {q : D → Prop} {x : D} (h : q x) : ∀ d ∈ [x], q d := fun d hd => by
  rcases List.mem_cons.mp hd with rfl | hd
  · exact h
  · simp at hd
theorem set_mem {q : D → Prop} {xs : List D} {i : Nat} {x : D} (h1 : ∀ d ∈ xs, q d) (h2 : q x) : ∀ d ∈ xs.set i x, q d := fun d hd => by
  rcases List.mem_or_eq_of_mem_set hd with h | rfl
  · exact h1 d h
  · exact h2
theorem le_100 {n : Nat} (h : n ≤ 100) : n ≤ sizeLine := Nat.le_trans h (by decide)
theorem lt_100 {n : Nat} (h : n ≤ 100) : n < sizeLine := Nat.lt_of_le_of_lt h (by decide)
end Gd
namespace Gd
open PySem PySem.Spec PyProof.Rows L2
theorem sIx_in {n : Nat} {i : Int} {d : Nat} (h0 : 0 ≤ i) (h1 : i ≤ n) : HT.sIx n d (some i) = i.toNat := by
  show (if i < 0 then (i + (n : Int)).toNat else min i.toNat n) = i.toNat
  rw [if_neg (by omega)]
  omega
theorem cut_both {vs : List V} {i : Int} (h0 : 0 ≤ i) (h1 : i < vs.length) : (cutV vs none (some i)).length + (cutV vs (some i) none).length = vs.length := by
  unfold cutV
  rw [sIx_in h0 (by omega), sIx_in h0 (by omega)]
  have e1 : HT.sIx vs.length 0 none = 0 := rfl
  have e2 : HT.sIx vs.length vs.length none = vs.length := rfl
  rw [e1, e2]
  simp
  omega
end Gd
namespace Gd
open PySem PySem.Spec PyProof.Rows L2
/-- one sign -/
def one (c : Nat) : Str := ⟨#[c]⟩
theorem dp_strs {K : PySem.W.Frag} {H : Hp} : ∀ ys : List Str, DpAll K H (ys.map V.str) (ys.map PyData.str)
  | [] => .nil
  | y :: ys => .cons (.str y) (dp_strs ys)
theorem lay_strs : ∀ ys : List Str, (∀ y ∈ ys, PyData.strOk y = true) → PyData.canLayAll0 (ys.map PyData.str) = true
  | [], _ => by simp [PyData.canLayAll0]
  | y :: ys, h => by
    rw [List.map_cons, PyData.canLayAll0, PyData.canLay0, lay_strs ys fun z hz => h z (by simp [hz])]
    rw [Bool.and_true]
    exact h y (by simp)
end Gd
namespace Gd
open PySem PySem.Spec PyProof.Rows L2
/-- a comprehension over a text's signs -/
theorem lc_txt {z : Str} {g : TG} {tt : TT} {te : TE} {vs : List Nat} {σ : L2.St} {H1 : Hp} {D : Addr} {Qd : Hp → Prop} (Pv : Nat → Hp → Prop)
    (h0 : Pv 0 (upd H1 D (.lst [])))
    (hs : ∀ i c H, z.cps.toList[i]? = some c → Pv i H → g (.str (one c)) (wipe σ vs) H fun σ2 H2 => wipe σ2 vs = wipe σ vs ∧ tt σ2 H2 fun b H3 =>
      if b = true then te σ2 H3 fun y H4 => ∃ acc, H4 D = some (.lst acc) ∧ acc.length < sizeLine ∧ Pv (i + 1) (upd H4 D (.lst (acc ++ [y]))) else Pv (i + 1) H3)
    (hd : ∀ H, Pv z.cps.toList.length H → Qd H) :
    ∃ W : Nat → Nat → Hp → Prop, (∃ m, W 0 m (upd H1 D (.lst []))) ∧ ∀ i m H, W i m H →
      ((Its z).stop i H ∧ Qd H) ∨ ((Its z).go i H ∧ ∃ Nx : Hp → Prop, (∀ H', Nx H' → ∃ m', m' < m ∧ W (i + 1) m' H') ∧
        ∀ x H', (Its z).yld i H x H' → g x (wipe σ vs) H' fun σ2 H2 => wipe σ2 vs = wipe σ vs ∧ tt σ2 H2 fun b H3 =>
          if b = true then te σ2 H3 fun y H4 => ∃ acc, H4 D = some (.lst acc) ∧ acc.length < sizeLine ∧ Nx (upd H4 D (.lst (acc ++ [y]))) else Nx H3) := by
  have hl : z.cps.size = z.cps.toList.length := by simp
  refine ⟨fun i m H => m = z.cps.size - i ∧ i ≤ z.cps.size ∧ Pv i H, ⟨z.cps.size, by simp, Nat.zero_le _, h0⟩, ?_⟩
  intro i m H ⟨e, hi, p⟩
  subst e
  by_cases hlt : i < z.cps.size
  · refine Or.inr ⟨hlt, Pv (i + 1), fun H' p' => ⟨z.cps.size - (i + 1), by omega, rfl, hlt, p'⟩, ?_⟩
    intro x H' ⟨e1, c, e2, e3⟩
    subst e1 e3
    exact hs i c H' (by simpa using e2) p
  · have e : i = z.cps.size := by omega
    subst e
    exact Or.inl ⟨Nat.le_refl _, hd H (by rw [← hl]; exact p)⟩
theorem eqv_nil (ds : List PyData) : PyData.eqv (.list ds) (.list []) = ds.isEmpty := by
  cases ds <;> simp [PyData.eqv, PyData.eqvAll]
theorem shaped_nil : SeqAt.shaped (.list []) = true := by simp [SeqAt.shaped, PyData.canLay0, PyData.canLayAll0, PyData.depth, PyData.depthAll]
theorem depth_strs : ∀ ys : List Str, PyData.depthAll (ys.map PyData.str) = 0
  | [] => by simp [PyData.depthAll]
  | y :: ys => by simp [PyData.depthAll, PyData.depth, depth_strs ys]
theorem shaped_strs {ys : List Str} (h : ∀ y ∈ ys, PyData.strOk y = true) : SeqAt.shaped (.list (ys.map PyData.str)) = true := by
  simp [SeqAt.shaped, PyData.canLay0, PyData.depth, depth_strs, lay_strs ys h]
theorem dp_ints {K : PySem.W.Frag} {H : Hp} : ∀ ys : List Int, DpAll K H (ys.map V.int) (ys.map PyData.int)
  | [] => .nil
  | y :: ys => .cons (.int y) (dp_ints ys)
theorem shaped_ints (ys : List Int) : SeqAt.shaped (.list (ys.map PyData.int)) = true := by
  have h1 : ∀ ys : List Int, PyData.canLayAll0 (ys.map PyData.int) = true := by
    intro ys
    induction ys with
    | nil => simp [PyData.canLayAll0]
    | cons y ys ih => simp [PyData.canLayAll0, PyData.canLay0]; simpa using ih
  have h2 : ∀ ys : List Int, PyData.depthAll (ys.map PyData.int) = 0 := by
    intro ys
    induction ys with
    | nil => simp [PyData.depthAll]
    | cons y ys ih => simp [PyData.depthAll, PyData.depth]; simpa using ih
  simp [SeqAt.shaped, PyData.canLay0, PyData.depth, h1, h2]
theorem strOk_one {c : Nat} (h : c < 128) : PyData.strOk (one c) = true := by
  simp [PyData.strOk, one]
  omega
end Gd
namespace Gd
open PySem PySem.Spec PyProof.Rows L2
/-- comprehensions over enumerate of a list, of a tuple -/
theorem lc_enumL {K : PySem.W.Frag} {a : Addr} {xs : List V} {g : TG} {tt : TT} {te : TE} {vs : List Nat} {σ : L2.St} {H1 : Hp} {D : Addr} {Qd : Hp → Prop} (Pv : Nat → Hp → Prop)
    (h0 : Pv 0 (upd H1 D (.lst []))) (hl : ∀ i H, i ≤ xs.length → Pv i H → SqL K H a xs)
    (hs : ∀ i x H T, xs[i]? = some x → Pv i H → H T = none → g (.ref T) (wipe σ vs) (upd H T (.tup [.int (i : Nat), x])) fun σ2 H2 => wipe σ2 vs = wipe σ vs ∧ tt σ2 H2 fun b H3 =>
      if b = true then te σ2 H3 fun y H4 => ∃ acc, H4 D = some (.lst acc) ∧ acc.length < sizeLine ∧ Pv (i + 1) (upd H4 D (.lst (acc ++ [y]))) else Pv (i + 1) H3)
    (hd : ∀ H, Pv xs.length H → Qd H) :
    ∃ W : Nat → Nat → Hp → Prop, (∃ m, W 0 m (upd H1 D (.lst []))) ∧ ∀ i m H, W i m H →
      ((Ite K a).stop i H ∧ Qd H) ∨ ((Ite K a).go i H ∧ ∃ Nx : Hp → Prop, (∀ H', Nx H' → ∃ m', m' < m ∧ W (i + 1) m' H') ∧
        ∀ x H', (Ite K a).yld i H x H' → g x (wipe σ vs) H' fun σ2 H2 => wipe σ2 vs = wipe σ vs ∧ tt σ2 H2 fun b H3 =>
          if b = true then te σ2 H3 fun y H4 => ∃ acc, H4 D = some (.lst acc) ∧ acc.length < sizeLine ∧ Nx (upd H4 D (.lst (acc ++ [y]))) else Nx H3) := by
  refine ⟨fun i m H => m = xs.length - i ∧ i ≤ xs.length ∧ Pv i H, ⟨xs.length, by simp, Nat.zero_le _, h0⟩, ?_⟩
  intro i m H ⟨e, hi, p⟩
  subst e
  have q := hl i H hi p
  by_cases hlt : i < xs.length
  · refine Or.inr ⟨⟨xs, xs[i], q, by simp [hlt]⟩, Pv (i + 1), fun H' p' => ⟨xs.length - (i + 1), by omega, rfl, hlt, p'⟩, ?_⟩
    intro x H' ⟨T, y, e1, e2, e3, e4⟩
    subst e1 e3
    exact hs i y H T (e4 xs q) p e2
  · have e : i = xs.length := by omega
    subst e
    exact Or.inl ⟨⟨xs, q, Nat.le_refl _⟩, hd H p⟩
theorem lc_enumT {K : PySem.W.Frag} {a : Addr} {xs : List V} {g : TG} {tt : TT} {te : TE} {vs : List Nat} {σ : L2.St} {H1 : Hp} {D : Addr} {Qd : Hp → Prop} (Pv : Nat → Hp → Prop)
    (h0 : Pv 0 (upd H1 D (.lst []))) (hl : ∀ i H, i ≤ xs.length → Pv i H → SqT K H a xs)
    (hs : ∀ i x H T, xs[i]? = some x → Pv i H → H T = none → g (.ref T) (wipe σ vs) (upd H T (.tup [.int (i : Nat), x])) fun σ2 H2 => wipe σ2 vs = wipe σ vs ∧ tt σ2 H2 fun b H3 =>
      if b = true then te σ2 H3 fun y H4 => ∃ acc, H4 D = some (.lst acc) ∧ acc.length < sizeLine ∧ Pv (i + 1) (upd H4 D (.lst (acc ++ [y]))) else Pv (i + 1) H3)
    (hd : ∀ H, Pv xs.length H → Qd H) :
    ∃ W : Nat → Nat → Hp → Prop, (∃ m, W 0 m (upd H1 D (.lst []))) ∧ ∀ i m H, W i m H →
      ((IteT K a).stop i H ∧ Qd H) ∨ ((IteT K a).go i H ∧ ∃ Nx : Hp → Prop, (∀ H', Nx H' → ∃ m', m' < m ∧ W (i + 1) m' H') ∧
        ∀ x H', (IteT K a).yld i H x H' → g x (wipe σ vs) H' fun σ2 H2 => wipe σ2 vs = wipe σ vs ∧ tt σ2 H2 fun b H3 =>
          if b = true then te σ2 H3 fun y H4 => ∃ acc, H4 D = some (.lst acc) ∧ acc.length < sizeLine ∧ Nx (upd H4 D (.lst (acc ++ [y]))) else Nx H3) := by
  refine ⟨fun i m H => m = xs.length - i ∧ i ≤ xs.length ∧ Pv i H, ⟨xs.length, by simp, Nat.zero_le _, h0⟩, ?_⟩
  intro i m H ⟨e, hi, p⟩
  subst e
  have q := hl i H hi p
  by_cases hlt : i < xs.length
  · refine Or.inr ⟨⟨xs, xs[i], q, by simp [hlt]⟩, Pv (i + 1), fun H' p' => ⟨xs.length - (i + 1), by omega, rfl, hlt, p'⟩, ?_⟩
    intro x H' ⟨T, y, e1, e2, e3, e4⟩
    subst e1 e3
    exact hs i y H T (e4 xs q) p e2
  · have e : i = xs.length := by omega
    subst e
    exact Or.inl ⟨⟨xs, q, rfl⟩, hd H p⟩
end Gd
/-! Promises of the rows' functions and of the draws. -/
namespace Gd
open PySem PySem.Spec PyProof.Rows L2
/-- a def of one value that says yes or no -/
def spB (O : HO → Prop) (f : D → Bool) : Sp := fun vs H Q _ => ∃ v d, vs = [v] ∧ DV O H v d ∧ ∀ H', Ex H H' → Q (.bl (f d)) H'
/-- a list or a tuple of an odd length -/
def oddLen : D → Bool
  | .lst xs => decide (xs.length % 2 = 1)
  | .tup xs => decide (xs.length % 2 = 1)
  | _ => false
theorem odd_dec (n : Nat) : decide (V.int ((n : Int) % 2) = V.int 1) = decide (n % 2 = 1) := by
  by_cases h : n % 2 = 1
  · rw [decide_eq_true h]
    have : (n : Int) % 2 = 1 := by omega
    rw [this]
    rfl
  · rw [decide_eq_false h, decide_eq_false (fun e => h (by have := V.int.inj e; omega))]
/-- the first item that can't stand at its place, of a list or a tuple -/
def spMisfit (O : HO → Prop) : Sp := fun vs H Q _ => ∃ v ds, vs = [v] ∧ (DV O H v (.lst ds) ∨ DV O H v (.tup ds)) ∧
  (∀ H', Ex H H' → misfit 0 ds = none → Q .non H') ∧ ∀ H' i, Ex H H' → misfit 0 ds = some i → Q (.int (i : Nat)) H'
theorem misfit_drop {ds : List D} {i : Nat} {d : D} (h : ds[i]? = some d) : ds.drop i = d :: ds.drop (i + 1) := by
  obtain ⟨hi, e⟩ := List.getElem?_eq_some_iff.mp h
  rw [← e, List.drop_eq_getElem_cons hi]
theorem misfit_step {ds : List D} {i : Nat} {d : D} (h1 : ds[i]? = some d) (hm : misfit 0 ds = misfit i (ds.drop i)) :
    (fits i d = true → misfit 0 ds = misfit (i + 1) (ds.drop (i + 1))) ∧ (¬ fits i d = true → misfit 0 ds = some i) := by
  rw [misfit_drop h1, misfit] at hm
  exact ⟨fun hf => by rw [hm, if_pos hf], fun hf => by rw [hm, if_neg hf]⟩
theorem even_dec (n : Nat) : decide (V.int ((n : Int) % 2) = V.int 0) = decide (n % 2 = 0) := by
  by_cases h : n % 2 = 0
  · rw [decide_eq_true h]
    have : (n : Int) % 2 = 0 := by omega
    rw [this]
    rfl
  · rw [decide_eq_false h, decide_eq_false (fun e => h (by have := V.int.inj e; omega))]
/-- a valid row is let through -/
def spPass (O : HO → Prop) : Sp := fun vs H Q _ => ∃ v d, vs = [v] ∧ DV O H v d ∧ isRow d = true ∧ ∀ H', Ex H H' → Q .non H'
theorem isRow_cases {d : D} (h : isRow d = true) : (∃ ds, (d = .lst ds ∨ d = .tup ds) ∧ misfit 0 ds = none) ∧ oddLen d = true := by
  cases d with
  | lst ds =>
    unfold isRow at h
    rw [Bool.and_eq_true] at h
    exact ⟨⟨ds, .inl rfl, by simpa using h.2⟩, h.1⟩
  | tup ds =>
    unfold isRow at h
    rw [Bool.and_eq_true] at h
    exact ⟨⟨ds, .inr rfl, by simpa using h.2⟩, h.1⟩
  | _ => cases h
/-- a def that draws a value of some kind -/
def spDraw (O : HO → Prop) (k : Nat) (R : D → Prop) : Sp := fun vs H Q _ => ∃ (a : Addr) (c : Nat) (G : Hp), vs = [.ref a] ∧ BoxAt H a c ∧ c + k < 1000000000 ∧ Ex G H ∧ G a = none ∧
  ∀ (v : V) (d : D) (G' H' : Hp), Sta G H G' H' a (c + k) → DV O G' v d → R d → Q v H'
/-- a def that draws a text -/
def spText (k m : Nat) : Sp := fun vs H Q _ => ∃ (a : Addr) (c : Nat), vs = [.ref a] ∧ BoxAt H a c ∧ c + k < 1000000000 ∧
  ∀ (z : Str) (H' : Hp), Kp a H H' → BoxAt H' a (c + k) → z.length ≤ m → okS z = true → Q (.str z) H'
theorem decI {i j : Int} : decide (V.int i = V.int j) = decide (i = j) := by
  by_cases h : i = j
  · rw [h]; simp
  · rw [decide_eq_false h, decide_eq_false (fun e => h (V.int.inj e))]
/-- dicts, and strips -/
def OO (C : Addr) : HO → Prop := fun o => (∃ kvs, o = .dK kvs) ∨ ∃ dx fs, o = .ins C dx fs
theorem isRow_odd {d : D} (h : oddLen d = false) : isRow d = false := by
  cases d with
  | tup ds =>
    show (decide (ds.length % 2 = 1) && (misfit 0 ds).isNone) = false
    rw [show decide (ds.length % 2 = 1) = false from h, Bool.false_and]
  | lst ds =>
    show (decide (ds.length % 2 = 1) && (misfit 0 ds).isNone) = false
    rw [show decide (ds.length % 2 = 1) = false from h, Bool.false_and]
  | _ => rfl
theorem isRow_seq {d : D} {ds : List D} (hd : d = .lst ds ∨ d = .tup ds) (h : oddLen d = true) : isRow d = (misfit 0 ds).isNone := by
  rcases hd with rfl | rfl
  · show (decide (ds.length % 2 = 1) && (misfit 0 ds).isNone) = _
    rw [show decide (ds.length % 2 = 1) = true from h, Bool.true_and]
  · show (decide (ds.length % 2 = 1) && (misfit 0 ds).isNone) = _
    rw [show decide (ds.length % 2 = 1) = true from h, Bool.true_and]
/-- the places that do not fit, as they are gathered -/
def Bad (ds : List D) (i : Nat) (ks : List Int) : Prop := (ks = [] ∧ misfit 0 ds = misfit i (ds.drop i)) ∨ (ks ≠ [] ∧ (misfit 0 ds).isSome = true)
theorem Bad.good {ds : List D} {i : Nat} {d : D} {ks : List Int} (h : Bad ds i ks) (hd : ds[i]? = some d) (hf : fits i d = true) : Bad ds (i + 1) ks := by
  rcases h with ⟨h1, h2⟩ | h
  · exact .inl ⟨h1, (misfit_step hd h2).1 hf⟩
  · exact .inr h
theorem Bad.bad {ds : List D} {i : Nat} {d : D} {ks : List Int} {x : Int} (h : Bad ds i ks) (hd : ds[i]? = some d) (hf : ¬ fits i d = true) : Bad ds (i + 1) (ks ++ [x]) := by
  rcases h with ⟨h1, h2⟩ | h
  · exact .inr ⟨by simp, by rw [(misfit_step hd h2).2 hf]; rfl⟩
  · exact .inr ⟨by simp, h.2⟩
theorem Bad.done {ds : List D} {ks : List Int} (h : Bad ds ds.length ks) : (ks.map PyData.int).isEmpty = (misfit 0 ds).isNone := by
  rcases h with ⟨h1, h2⟩ | ⟨h1, h2⟩
  · rw [h1, h2, List.drop_length]
    rfl
  · cases ks with
    | nil => exact absurd rfl h1
    | cons a r =>
      cases hm : misfit 0 ds with
      | none => rw [hm] at h2; cases h2
      | some j => rfl
theorem kinds_at {d : D} {i : Nat} : atI [V.bl (isName d), V.bl (isPiece d), V.bl (isMark d), V.bl (isRow d)] (1 + (i : Int) % 2) = some (V.bl (fits i d)) := by
  by_cases h : i % 2 = 0
  · have e : (1 + (i : Int) % 2) = 1 := by omega
    rw [e]
    unfold fits
    rw [if_pos h]
    rfl
  · have e : (1 + (i : Int) % 2) = 2 := by omega
    rw [e]
    unfold fits
    rw [if_neg h]
    rfl
/-- kinds(thing), as deep as it goes -/
def spKinds (O : HO → Prop) (n : Nat) : Sp := fun vs H Q _ => ∃ v d, vs = [v] ∧ DV O H v d ∧ dep d ≤ n ∧ ∀ p H', Ex H H' → H p = none → H' p = some (.lst [.bl (isName d), .bl (isPiece d), .bl (isMark d), .bl (isRow d)]) → Q (.ref p) H'
end Gd
namespace Gd
open PySem PySem.Spec PyProof.Rows L2
/-- how many turns a law takes -/
theorem turns_le {n : Int} (m : Int) (h0 : 0 ≤ n) (h : 2 ≤ m) (hm : m ≤ 50) : 0 ≤ (if (if n < m then n else m) > 2 then (if n < m then n else m) else 2) ∧ (if (if n < m then n else m) > 2 then (if n < m then n else m) else 2) ≤ 50 := by
  constructor <;> (split <;> split <;> omega)
end Gd
namespace Gd
open PySem PySem.Spec PyProof.Rows L2
theorem asc_mul {z : Str} {n : Int} (h : ∀ c ∈ z.cps.toList, c < 128) : ∀ c ∈ (mulS z n).cps.toList, c < 128 := by
  intro c hc
  have : c ∈ (List.replicate n.toNat z.cps.toList).flatten := by simpa [mulS] using hc
  obtain ⟨l, hl, hc⟩ := List.mem_flatten.mp this
  rw [(List.mem_replicate.mp hl).2] at hc
  exact h c hc
theorem len_mul (z : Str) (n : Int) : (mulS z n).length = n.toNat * z.length := by
  show (mulS z n).cps.size = _
  simp [mulS, Str.length]
theorem DVs.rep {O : HO → Prop} {H : Hp} {vs : List V} {ds : List D} (h : DVs O H vs ds) : ∀ n : Nat, DVs O H (List.replicate n vs).flatten (List.replicate n ds).flatten
  | 0 => .nil
  | n + 1 => by
    rw [List.replicate_succ, List.replicate_succ, List.flatten_cons, List.flatten_cons]
    exact h.app (DVs.rep h n)
theorem rep_mem {q : D → Prop} {ds : List D} (h : ∀ d ∈ ds, q d) (n : Nat) : ∀ d ∈ (List.replicate n ds).flatten, q d := by
  intro d hd
  obtain ⟨l, hl, hc⟩ := List.mem_flatten.mp hd
  rw [(List.mem_replicate.mp hl).2] at hc
  exact h d hc
theorem rep_len {α : Type} (xs : List α) (n : Nat) : ((List.replicate n xs).flatten).length = n * xs.length := by simp
theorem cons_mem {q : D → Prop} {x : D} {xs : List D} (h : q x) (h2 : ∀ d ∈ xs, q d) : ∀ d ∈ x :: xs, q d := fun d hd => by
  rcases List.mem_cons.mp hd with rfl | hd
  · exact h
  · exact h2 d hd
theorem nil_mem {q : D → Prop} : ∀ d ∈ ([] : List D), q d := fun d hd => by simp at hd
end Gd
namespace Gd
open PySem PySem.Spec PyProof.Rows L2
theorem bool4 (a b c e : Bool) : PyData.showable (.list [.bool a, .bool b, .bool c, .bool e]) = true ∧ PyData.hasDict (.list [.bool a, .bool b, .bool c, .bool e]) = false ∧
    PyData.depth (.list [.bool a, .bool b, .bool c, .bool e]) ≤ 64 ∧ (PyData.shown (.list [.bool a, .bool b, .bool c, .bool e])).length ≤ sizeLine := by
  cases a <;> cases b <;> cases c <;> cases e <;> exact ⟨by decide +kernel, by decide +kernel, by decide +kernel, by decide +kernel⟩
theorem bool1 (a : Bool) : PyData.showable (.bool a) = true ∧ PyData.hasDict (.bool a) = false ∧ PyData.depth (.bool a) ≤ 64 ∧ (PyData.shown (.bool a)).length ≤ sizeLine := by
  cases a <;> exact ⟨by decide +kernel, by decide +kernel, by decide +kernel, by decide +kernel⟩
theorem ne_self (z : Str) : (!decide (V.str z = V.str z)) = false := by simp
end Gd
/-! The end of a law whose promise leans on empty guards. -/
namespace Gd
open PySem PySem.Spec PyProof.Rows L2

/-- the one place that the script may take in the abstract heap -/
def onlyAt (a : Addr) (o : Obj) (xs : List V) : Hp := fun b => if b = a then some (.frz o (.lst xs)) else none
theorem onlyAt_same {a : Addr} {o : Obj} {xs : List V} : onlyAt a o xs a = some (.frz o (.lst xs)) := if_pos rfl
theorem onlyAt_ne {a b : Addr} {o : Obj} {xs : List V} (h : b ≠ a) : onlyAt a o xs b = none := if_neg h

section
variable {P : Program} {w : World} {K : PySem.W.Frag} {mg mb : Str → Option Value} {CX : CXT} {k : Nat} {fa a : Addr} {fd : FuncData}
  {x : Str} {sp : Sp} {s₁ : Shared} {vs : List Value} {ns : List Int}

/-- what the end of the call says of the whole heap -/
theorem ended (H : Hp) (only : Only H) (ok : HOk P w H s₁.heap) {r : Result} {s' : Shared}
    (hx : ∀ e s', ¬ CX [] H s₁ (fun _ _ _ => False) e s')
    (h : CR CX [] P w H s₁ (fun v _ => v = V.bl true) (fun _ _ _ => False) r s') :
    r = .ok (.ret (.bool true)) ∧ OldK s₁.heap s'.heap ∧ s'.os = s₁.os ∧ AllBare s'.gens := by
  match r, h with
  | .error e, h => exact absurd h (hx e s')
  | .ok .next, h => exact h.elim
  | .ok .brk, h => exact h.elim
  | .ok .cont, h => exact h.elim
  | .ok (.ret u), ⟨v, H', os, bare, un, ok', rv, hv⟩ =>
    have hv' : v = V.bl true := hv
    subst hv'
    have hu : u = Value.bool true := rv
    subst hu
    refine ⟨rfl, ?_, os, bare⟩
    apply OldK.of_keep
    intro b o hb
    have none_in : b ∉ ([] : List Addr) := by simp
    rcases only b with hn | ⟨ob, ys, hf⟩
    · exact un.keep b o hb hn none_in none_in
    · have e1 := (ok b _ hf).1
      have e2 := (ok' b _ (un.frzs b ob _ hf)).1
      rw [hb] at e1
      cases e1
      exact e2

theorem callG (KX : K.In s₁.heap) (hns : s₁.heap.Ns mainGlobals mg) (hb : s₁.heap.Ns builtinsNs mb) (hbb : ∀ x : Str, x ≠ "__name__" → mb x = bootBuiltins x)
    (hlim : s₁.heap.NoLimit) (hg : s₁.gens = #[]) (ha : s₁.heap.get? a = some { cls := .type "list", data := .seq vs.toArray }) (hi : IntsAre vs ns)
    (hl : ns.length ≤ sizeLine) (hr : Room k callerA)
    (F : ∀ base : Heap, K.In base → base.Ns mainGlobals mg → FnG P w K mg base CX k fa fd [x] sp)
    (hbind : ∀ (s : Shared) (u : Value), BindsTo s fd ⟨[u], []⟩ [(x, u)])
    (hsp : ∀ H : Hp, Only H → SqL K H a (ns.map V.int) → sp [.ref a] H (fun v _ => v = .bl true) fun _ _ _ => False)
    (hCX : ∀ H e s', ¬ CX [] H s₁ (fun _ _ _ => False) e s') :
    codeAny (model P w) callerA (.call (.ref fa) ⟨[.ref a], []⟩)
      (fun r s' => r = .ok (.ret (.bool true)) ∧ OldK s₁.heap s'.heap ∧ s'.os = s₁.os ∧ AllBare s'.gens) s₁ := by
  have rv := vals_ints hi
  have lenV := hi.length
  have go : ∀ H : Hp, Only H → SqL K H a (ns.map V.int) → HOk P w H s₁.heap → (∀ b, H b ≠ none → b = a ∧ K.lookup b = none) →
      codeAny (model P w) callerA (.call (.ref fa) ⟨[.ref a], []⟩)
        (fun r s' => r = .ok (.ret (.bool true)) ∧ OldK s₁.heap s'.heap ∧ s'.os = s₁.os ∧ AllBare s'.gens) s₁ := by
    intro H only sq ok at_a
    have free : ∀ {b : Addr} {o : Obj}, s₁.heap.get? b = some o → (∀ us, o.data ≠ .seq us) → H b = none := by
      intro b o e nd
      cases q : H b with
      | none => rfl
      | some u =>
        obtain ⟨z, _⟩ := at_a b (by rw [q]; exact Option.some_ne_none u)
        rw [z, ha] at e
        cases e
        exact absurd rfl (nd vs.toArray)
    have nsH : ∀ {b : Addr} {m : Str → Option Value}, s₁.heap.Ns b m → (hidT s₁.heap H).Ns b m := by
      intro b m ⟨o, es, ep, e, d, rest⟩
      exact ⟨o, es, ep, hidT_get e (free e fun us h => by rw [d] at h; cases h), d, rest⟩
    have KH : K.In (hidT s₁.heap H) := by
      intro b o e
      refine hidT_get (KX b o e) ?_
      cases q : H b with
      | none => rfl
      | some u =>
        obtain ⟨_, z⟩ := at_a b (by rw [q]; exact Option.some_ne_none u)
        rw [z] at e
        cases e
    obtain ⟨mc, lim1, lim2⟩ := hlim
    have hM : Mod K mg (hidT s₁.heap H) := ⟨KH, nsH hns, ⟨mb, nsH hb, hbb⟩, ⟨mc, nsH lim1, lim2⟩⟩
    have e0 : Env0 P w K mg (hidT s₁.heap H) callerA [] s₁ H := by
      refine ⟨rfl, hM, fun b o e => of_hidT e, Nat.le_of_eq (hidT_size _ _), trivial, ?_, ok, .of_eq hg⟩
      intro b hb
      exact absurd (show b ∈ ([] : List Addr) from hb) (by simp)
    have run := (F _ KH (nsH hns)).run callerA [] s₁ H ⟨[.ref a], []⟩ [.ref a] [.ref a] _ _ rfl hr e0 (hbind s₁ (.ref a)) (.cons rfl .nil) (hsp H only sq)
    exact codeAny_mono run fun r s' h => ended H only ok (hCX H) h
  cases hk : K.lookup a with
  | some o =>
    have e := KX a o hk
    rw [ha] at e
    cases e
    apply go (fun _ => none) (fun _ => Or.inl rfl)
    · exact Or.inr ⟨_, vs.toArray, _, hk, rfl, rfl, rfl, by rw [List.size_toArray, lenV]; exact hl, by simpa using rv⟩
    · intro b u z
      cases (show (none : Option HO) = some u from z)
    · intro b z
      exact absurd rfl z
  | none =>
    apply go (onlyAt a { cls := .type "list", data := .seq vs.toArray } (ns.map V.int))
    · intro b
      by_cases hb : b = a
      · subst hb
        exact Or.inr ⟨_, _, onlyAt_same⟩
      · exact Or.inl (onlyAt_ne hb)
    · exact Or.inl (Or.inr ⟨_, onlyAt_same⟩)
    · intro b u z
      by_cases hb : b = a
      · subst hb
        rw [onlyAt_same] at z
        cases z
        exact ⟨ha, by rw [List.length_map]; exact hl, vs, _, rv, ha⟩
      · rw [onlyAt_ne hb] at z
        cases z
    · intro b z
      by_cases hb : b = a
      · subst hb
        exact ⟨rfl, hk⟩
      · exact absurd (onlyAt_ne hb) z
end

/-- the goal that k_head leaves -/
theorem walkG {l : PySem.W.OpenLaw} {n k : Nat} {q : Program} {loose : List Str} {XP : (Str → Option Value) → Heap → Prop} {YP : World → Heap → Prop}
    {d : DefRec} {K : Params → PySem.W.Frag} {sp : PySem.W.Frag → Sp} {x : Str}
    (hn : l.most = some n) (hn2 : n ≤ sizeLine) (hdf : d.params.defaults = []) (hr : Room k callerA)
    (hY : ∀ (w : World) (h : Heap), YP w h → (K w.params).In h)
    (F : ∀ (w : World) (mg : Str → Option Value) (fa : Addr) (h : Heap), (K w.params).In h → h.Ns mainGlobals mg → mg d.name = some (.ref fa) →
      ∃ fd : FuncData, (∀ (s : Shared) (u : Value), BindsTo s fd ⟨[u], []⟩ [(x, u)]) ∧
        ∀ base : Heap, (K w.params).In base → base.Ns mainGlobals mg → FnG l.prog w (K w.params) mg base CX0 k fa fd [x] (sp (K w.params)))
    (hsp : ∀ (K : PySem.W.Frag) (H : Hp) (a : Addr) (ns : List Int), ns.length ≤ n → Only H → SqL K H a (ns.map V.int) → sp K [.ref a] H (fun v _ => v = .bl true) fun _ _ _ => False) :
    PySem.W.WalkO q loose XP YP l.row.toRowW d [] (fun f vs => PySem.call f vs) := by
  apply Att.attach_call hn hdf
  intro w s₀ s₁ mg mb fa o pm cd doc a vs ns G Y ho hd hcd hmg hobj hints hlen hg
  obtain ⟨fd, hb, hF⟩ := F w mg fa _ (hY w _ Y) G.T.g hmg
  exact callG (hY w _ Y) G.T.g G.T.b G.T.builtins G.T.nolimit hg hobj hints (Nat.le_trans hlen hn2) hr hF hb
    (fun H hO hS => hsp (K w.params) H a ns hlen hO hS) (fun H e s' h => h)
end Gd
namespace Gd
open PySem PySem.Spec PyProof.Rows L2
/-- the law says True of every script of at most 63 ints -/
def spLaw (K : PySem.W.Frag) : Sp := fun vs H Q _ => ∃ (a : Addr) (ns : List Int), vs = [.ref a] ∧ SqL K H a (ns.map V.int) ∧ ns.length ≤ 63 ∧ ∀ H', Q (.bl true) H'
end Gd
namespace Gd
open PySem PySem.Spec PyProof.Rows L2
theorem kit_own {K : PySem.W.Frag} {C : Addr} {T : String} {b : Bool} (hm : PySem.W.kitMeta T = true) (h : PySem.W.subIn K (.ref C) (.type T) = some b) :
    PySem.W.kitOne K (.ref C) (.type T) = some b := by
  unfold PySem.W.kitOne
  rw [if_neg (show ¬ ((Value.ref C == Value.type T) = true) from Bool.false_ne_true)]
  show (if PySem.W.kitMeta T = true then PySem.W.subIn K (.ref C) (.type T) else none) = some b
  rw [if_pos hm]
  exact h
end Gd
/-! Drawn names: n different texts of one to four small letters. -/
namespace Gd
open PySem PySem.Spec PyProof.Rows L2

def abc : Str := "abcdefghijklmnopqrstuvwxyz"
theorem abc_nat : ∀ n < 26, atI abc.cps.toList ((n : Nat) : Int) = some (97 + n) := by decide +kernel
theorem abc_at {i : Int} (h0 : 0 ≤ i) (h1 : i < 26) : atI abc.cps.toList i = some (97 + i.toNat) := by
  have := abc_nat i.toNat (by omega)
  rwa [Int.toNat_of_nonneg h0] at this
theorem one_list (c : Nat) : (one c).cps.toList = [c] := rfl
theorem one_len (c : Nat) : (one c).length = 1 := rfl
theorem one_inj {c d : Nat} (h : one c = one d) : c = d := by
  have : (one c).cps.toList = (one d).cps.toList := by rw [h]
  simpa [one_list] using this
theorem low97 {i : Nat} (h : i < 26) : lowB (97 + i) = true := by unfold lowB; simp; omega
theorem nameB_of {z : Str} (h : ∀ c ∈ z.cps.toList, lowB c = true) (h1 : 1 ≤ z.length) (h2 : z.length ≤ 4) : nameB z = true := by
  unfold nameB
  rw [Bool.and_eq_true, Bool.and_eq_true]
  exact ⟨⟨List.all_eq_true.mpr h, decide_eq_true h1⟩, decide_eq_true h2⟩
theorem nameB_list {z : Str} (h : nameB z = true) : (∀ c ∈ z.cps.toList, lowB c = true) ∧ 1 ≤ z.length ∧ z.length ≤ 4 := by
  unfold nameB at h
  rw [Bool.and_eq_true, Bool.and_eq_true] at h
  exact ⟨List.all_eq_true.mp h.1.1, of_decide_eq_true h.1.2, of_decide_eq_true h.2⟩
theorem nameB_ok {z : Str} (h : nameB z = true) : okS z = true := by
  obtain ⟨h1, _, h2⟩ := nameB_list h
  exact okS_of (by omega) fun c hc => letB_lt (lowB_let (h1 c hc))
/-- n different names -/
structure Nam (n : Nat) (ys : List Str) : Prop where
  len : ys.length = n
  ok : ∀ y ∈ ys, nameB y = true
  nd : ys.Nodup
theorem nam_range {n : Nat} {g : Nat → Str} (ok : ∀ k < n, nameB (g k) = true) (inj : ∀ j k, j < n → k < n → g j = g k → j = k) : Nam n ((List.range n).map g) := by
  refine ⟨by simp, ?_, ?_⟩
  · intro y hy
    obtain ⟨k, hk, rfl⟩ := List.mem_map.mp hy
    exact ok k (List.mem_range.mp hk)
  · unfold List.Nodup
    rw [List.pairwise_map]
    refine List.Pairwise.imp_of_mem ?_ List.nodup_range
    intro j k hj hk hne e
    exact hne (inj j k (List.mem_range.mp hj) (List.mem_range.mp hk) e)
/-- the single letters -/
def sngC (f s k : Nat) : Nat := 97 + (f + s * k) % 26
def steps : List Nat := [1, 3, 5, 7, 9, 11]
theorem sngC_inj {f s j k : Nat} (hs : s ∈ steps) (hj : j < 26) (hk : k < 26) (h : sngC f s j = sngC f s k) : j = k := by
  unfold sngC at h
  unfold steps at hs
  simp only [List.mem_cons, List.not_mem_nil, or_false] at hs
  rcases hs with rfl | rfl | rfl | rfl | rfl | rfl <;> omega
theorem sng_at {f s k : Nat} : atI abc.cps.toList (((f : Int) + (s : Int) * (0 + (k : Nat))) % 26) = some (sngC f s k) := by
  have e : (((f : Int) + (s : Int) * (0 + (k : Nat))) % 26) = (((f + s * k) % 26 : Nat) : Int) := by simp
  rw [e]
  exact abc_nat _ (Nat.mod_lt _ (by decide))
theorem sng_low {f s k : Nat} : lowB (sngC f s k) = true := low97 (Nat.mod_lt _ (by decide))
theorem nam0 {f s n : Nat} (hs : s ∈ steps) (hn : n ≤ 26) : Nam n ((List.range n).map fun k => one (sngC f s k)) :=
  nam_range (fun k _ => nameB_of (fun c hc => by rw [one_list] at hc; simp at hc; rw [hc]; exact sng_low) (Nat.le_refl 1) (by show 1 ≤ 4; decide))
    fun j k hj hk e => sngC_inj hs (by omega) (by omega) (one_inj e)
theorem cut_list (z : Str) (lo hi : Option Int) : (cutS z lo hi).cps.toList = (z.cps.toList.drop (HT.sIx z.length 0 lo)).take (HT.sIx z.length z.length hi - HT.sIx z.length 0 lo) := rfl
theorem cut_mem {z : Str} {lo hi : Option Int} {c : Nat} (h : c ∈ (cutS z lo hi).cps.toList) : c ∈ z.cps.toList := by
  rw [cut_list] at h
  exact List.mem_of_mem_drop (List.mem_of_mem_take h)
theorem cut_len (z : Str) (lo hi : Option Int) : (cutS z lo hi).length = min (HT.sIx z.length z.length hi - HT.sIx z.length 0 lo) (z.length - HT.sIx z.length 0 lo) := by
  rw [len_list, cut_list, List.length_take, List.length_drop, ← len_list]
theorem cutS_le (z : Str) (lo hi : Option Int) : (cutS z lo hi).length ≤ z.length := by
  rw [cut_len]
  omega
theorem cut_head {z : Str} {i : Int} (h0 : 0 ≤ i) (h1 : i ≤ z.length) : (cutS z none (some i)).length = i.toNat := by
  rw [cut_len, sIx_in h0 h1]
  have : HT.sIx z.length 0 none = 0 := rfl
  rw [this]
  omega
theorem cut_tail {z : Str} {i : Int} (h0 : 0 ≤ i) (h1 : i ≤ z.length) : (cutS z (some i) none).length = z.length - i.toNat := by
  rw [cut_len, sIx_in h0 h1]
  have : HT.sIx z.length z.length none = z.length := rfl
  rw [this]
  omega
theorem app_len (x y : Str) : (x ++ y).length = x.length + y.length := by rw [len_list, str_app_list, List.length_append, ← len_list, ← len_list]
/-- three letters before, between, behind -/
theorem nam3 {f s n : Nat} {st : Str} {i : Int} (hs : s ∈ steps) (hn : n ≤ 26) (h3 : st.length = 3) (hl : ∀ c ∈ st.cps.toList, lowB c = true) (i0 : 0 ≤ i) (i1 : i < 3) :
    Nam n ((List.range n).map fun k => cutS st none (some i) ++ one (sngC f s k) ++ cutS st (some i) none) := by
  refine nam_range (fun k _ => nameB_of (fun c hc => ?_) ?_ ?_) fun j k hj hk e => sngC_inj (f := f) hs (by omega) (by omega) ?_
  · rw [str_app_list, str_app_list, List.mem_append, List.mem_append] at hc
    rcases hc with (hc | hc) | hc
    · exact hl c (cut_mem hc)
    · rw [one_list] at hc
      simp at hc
      rw [hc]
      exact sng_low
    · exact hl c (cut_mem hc)
  · rw [app_len, app_len, one_len]
    omega
  · rw [app_len, app_len, one_len, cut_head i0 (by omega), cut_tail i0 (by omega)]
    omega
  · have e2 := congrArg (fun z : Str => z.cps.toList) e
    simp only [str_app_list, one_list] at e2
    have e3 := List.append_cancel_right e2
    have e4 := List.append_cancel_left e3
    simpa using e4
theorem nam1 {f s n : Nat} {st : Str} (hs : s ∈ steps) (hn : n ≤ 26) (h3 : st.length = 3) (hl : ∀ c ∈ st.cps.toList, lowB c = true) :
    Nam n ((List.range n).map fun k : Nat => cutS st none (some (1 + (k : Int) % 3)) ++ one (sngC f s k)) := by
  have len : ∀ k : Nat, (cutS st none (some (1 + (k : Int) % 3)) ++ one (sngC f s k)).length = 2 + k % 3 := by
    intro k
    rw [app_len, one_len, cut_head (by omega) (by omega)]
    omega
  refine nam_range (fun k _ => nameB_of (fun c hc => ?_) ?_ ?_) fun j k hj hk e => sngC_inj (f := f) hs (by omega) (by omega) ?_
  · rw [str_app_list, List.mem_append] at hc
    rcases hc with hc | hc
    · exact hl c (cut_mem hc)
    · rw [one_list] at hc
      simp at hc
      rw [hc]
      exact sng_low
  · rw [len]; omega
  · rw [len]; omega
  · have h1 := len j
    rw [e, len k] at h1
    have h2 : (k : Int) % 3 = (j : Int) % 3 := by omega
    simp only [h2] at e
    have e2 := congrArg (fun z : Str => z.cps.toList) e
    simp only [str_app_list, one_list] at e2
    have e4 := List.append_cancel_left e2
    simpa using e4
theorem mul_list (z : Str) (n : Int) : (mulS z n).cps.toList = (List.replicate n.toNat z.cps.toList).flatten := by simp [mulS]
theorem nam2 {f s n : Nat} (hs : s ∈ steps) (hn : n ≤ 26) :
    Nam n ((List.range n).map fun k : Nat => mulS (one (sngC f s k)) (1 + (k : Int) % 4)) := by
  have lst : ∀ k : Nat, (mulS (one (sngC f s k)) (1 + (k : Int) % 4)).cps.toList = List.replicate (1 + k % 4) (sngC f s k) := by
    intro k
    have e : (1 + (k : Int) % 4).toNat = 1 + k % 4 := by omega
    rw [mul_list, e, one_list]
    generalize 1 + k % 4 = m
    induction m with
    | zero => rfl
    | succ m ih => rw [List.replicate_succ, List.flatten_cons, ih, List.replicate_succ]; rfl
  refine nam_range (fun k _ => nameB_of (fun c hc => ?_) ?_ ?_) fun j k hj hk e => sngC_inj (f := f) hs (by omega) (by omega) ?_
  · rw [lst] at hc
    rw [(List.mem_replicate.mp hc).2]
    exact sng_low
  · rw [len_list, lst, List.length_replicate]; omega
  · rw [len_list, lst, List.length_replicate]; omega
  · have e2 := congrArg (fun z : Str => z.cps.toList) e
    simp only [lst] at e2
    have m1 : sngC f s j ∈ List.replicate (1 + k % 4) (sngC f s k) := by
      rw [← e2]
      exact List.mem_replicate.mpr ⟨by omega, rfl⟩
    exact (List.mem_replicate.mp m1).2
/-- texts of two letters -/
def glue (x y : Str) : List Str := [x, y, x ++ y, y ++ x, x ++ x, y ++ y, x ++ y ++ x, y ++ x ++ y] ++ [x ++ x ++ y, y ++ y ++ x, x ++ y ++ x ++ y, y ++ x ++ y ++ x]
theorem glue_list (a b : Nat) : (glue (one a) (one b)).map (fun z => z.cps.toList) = [[a], [b], [a, b], [b, a], [a, a], [b, b], [a, b, a], [b, a, b], [a, a, b], [b, b, a], [a, b, a, b], [b, a, b, a]] := by
  simp [glue, str_app_list, one_list]
theorem glue_nd {a b : Nat} (h : a ≠ b) : (glue (one a) (one b)).Nodup := by
  have h1 : ((glue (one a) (one b)).map (fun z => z.cps.toList)).Nodup := by
    rw [glue_list]
    have h' := h.symm
    simp [h, h']
  unfold List.Nodup at h1 ⊢
  rw [List.pairwise_map] at h1
  exact h1.imp fun hne e => hne (by rw [e])
theorem glue_ok {a b : Nat} (ha : lowB a = true) (hb : lowB b = true) : ∀ z ∈ glue (one a) (one b), nameB z = true := by
  have h1 : ∀ l ∈ (glue (one a) (one b)).map (fun z => z.cps.toList), (∀ c ∈ l, lowB c = true) ∧ 1 ≤ l.length ∧ l.length ≤ 4 := by
    rw [glue_list]
    simp [ha, hb]
  intro z hz
  have h2 := h1 _ (List.mem_map.mpr ⟨z, hz, rfl⟩)
  exact nameB_of h2.1 (by rw [len_list]; exact h2.2.1) (by rw [len_list]; exact h2.2.2)
theorem glue_len (x y : Str) : (glue x y).length = 12 := rfl
theorem nam4 {f n a b : Nat} (hn : n < 13) (h : a ≠ b) (ha : lowB a = true) (hb : lowB b = true) :
    Nam n ((List.range n).map fun k => (glue (one a) (one b)).getD ((f + 5 * k) % 12) Str.empty) := by
  have hlt : ∀ k, (f + 5 * k) % 12 < (glue (one a) (one b)).length := fun k => by rw [glue_len]; exact Nat.mod_lt _ (by decide)
  refine nam_range (fun k _ => ?_) fun j k hj hk e => ?_
  · apply glue_ok ha hb
    rw [List.getD_eq_getElem?_getD, List.getElem?_eq_getElem (hlt k)]
    exact List.getElem_mem _
  · simp only [List.getD_eq_getElem?_getD, List.getElem?_eq_getElem (hlt j), List.getElem?_eq_getElem (hlt k), Option.getD_some] at e
    have := (List.getElem_inj (glue_nd h)).mp e
    omega
theorem glue_at {f k a b : Nat} : atI ((glue (one a) (one b)).map V.str) (((f : Int) + 5 * (0 + (k : Nat))) % 12) = some (.str ((glue (one a) (one b)).getD ((f + 5 * k) % 12) Str.empty)) := by
  have e : (((f : Int) + 5 * (0 + (k : Nat))) % 12) = (((f + 5 * k) % 12 : Nat) : Int) := by simp
  have hlt : (f + 5 * k) % 12 < (glue (one a) (one b)).length := by rw [glue_len]; exact Nat.mod_lt _ (by decide)
  rw [e]
  unfold atI ixN
  rw [if_pos (by omega), List.length_map, if_pos (by omega)]
  show ((glue (one a) (one b)).map V.str)[((((f + 5 * k) % 12 : Nat) : Int)).toNat]? = _
  rw [Int.toNat_natCast, List.getElem?_map, List.getD_eq_getElem?_getD, List.getElem?_eq_getElem hlt]
  rfl
/-- names(box, n) -/
def spNames : Sp := fun vs H Q _ => ∃ (a : Addr) (c n : Nat), vs = [.ref a, .int (n : Nat)] ∧ BoxAt H a c ∧ c + 20 < 1000000000 ∧ n ≤ 26 ∧
  ∀ (p : Addr) (ys : List Str) (H' : Hp), Kp a H H' → BoxAt H' a (c + 20) → H p = none → p ≠ a → H' p = some (.lst (ys.map V.str)) → Nam n ys → Q (.ref p) H'
end Gd
namespace Gd
open PySem PySem.Spec PyProof.Rows L2
theorem l11 {a b : Nat} : (one a).length + (one b).length ≤ sizeLine := le_line (by rw [one_len, one_len]; decide)
theorem l21 {a b c : Nat} : (one a ++ one b).length + (one c).length ≤ sizeLine := le_line (by rw [app_len, one_len, one_len, one_len]; decide)
theorem l31 {a b c d : Nat} : (one a ++ one b ++ one c).length + (one d).length ≤ sizeLine := le_line (by rw [app_len, app_len, one_len, one_len, one_len, one_len]; decide)
theorem join_one (cs : List Nat) : (Txt.join "" (cs.map one)).cps.toList = cs := by
  rw [join_empty_list, List.map_map]
  induction cs with
  | nil => rfl
  | cons c cs ih =>
    rw [List.map_cons, List.flatten_cons, ih]
    rfl
theorem range_app {α : Type} (h : Nat → α) (i : Nat) : (List.range i).map h ++ [h i] = (List.range (i + 1)).map h := by
  rw [List.range_succ, List.map_append]
  rfl
theorem range_get {α : Type} {h : Nat → α} {n i : Nat} {x : α} (e : ((List.range n).map h)[i]? = some x) : i < n ∧ x = h i := by
  obtain ⟨hi, e2⟩ := List.getElem?_eq_some_iff.mp e
  simp at hi
  simp at e2
  exact ⟨hi, e2.symm⟩
end Gd
/-! Drawn pieces and rows. -/
namespace Gd
open PySem PySem.Spec PyProof.Rows L2
def abC : Str := "abcdefghijklmnopqrstuvwxyzABCDEFGHIJKLMNOPQRSTUVWXYZ"
theorem abC_nat : ∀ n < 52, ((atI abC.cps.toList ((n : Nat) : Int)).map letB) = some true := by decide +kernel
theorem abC_at {i : Int} (h0 : 0 ≤ i) (h1 : i < 52) : ∃ c, atI abC.cps.toList i = some c ∧ letB c = true := by
  have := abC_nat i.toNat (by omega)
  rw [Int.toNat_of_nonneg h0] at this
  cases e : atI abC.cps.toList i with
  | none => rw [e] at this; cases this
  | some c =>
    rw [e] at this
    exact ⟨c, rfl, by simpa using this⟩
/-- a def that draws a piece -/
def spPiece : Sp := fun vs H Q _ => ∃ (a : Addr) (c : Nat), vs = [.ref a] ∧ BoxAt H a c ∧ c + 42 < 1000000000 ∧
  ∀ (z : Str) (H' : Hp), Kp a H H' → BoxAt H' a (c + 42) → z.length ≤ 40 → pieceB z = true → Q (.str z) H'
theorem pieceB_of {z : Str} (h : ∀ c ∈ z.cps.toList, letB c = true) : pieceB z = true := List.all_eq_true.mpr h
theorem pieceB_list {z : Str} (h : pieceB z = true) : ∀ c ∈ z.cps.toList, letB c = true := List.all_eq_true.mp h
theorem pieceB_ok {z : Str} (h : pieceB z = true) (l : z.length ≤ 100000) : okS z = true := okS_of l fun c hc => letB_lt (pieceB_list h c hc)
end Gd
namespace Gd
open PySem PySem.Spec PyProof.Rows L2
theorem misfit_app {d : D} : ∀ {xs : List D} {i : Nat}, misfit i xs = none → fits (i + xs.length) d = true → misfit i (xs ++ [d]) = none
  | [], i, _, h => by
    show (if fits i d = true then misfit (i + 1) [] else some i) = none
    rw [if_pos (by simpa using h)]
    rfl
  | x :: xs, i, h, hd => by
    show (if fits i x = true then misfit (i + 1) (xs ++ [d]) else some i) = none
    have h' : (if fits i x = true then misfit (i + 1) xs else some i) = none := h
    by_cases hx : fits i x = true
    · rw [if_pos hx] at h' ⊢
      exact misfit_app h' (by rw [show i + 1 + xs.length = i + (x :: xs).length by simp; omega]; exact hd)
    · rw [if_neg hx] at h'
      cases h'
theorem fits_even {i : Nat} {z : Str} (h : i % 2 = 0) (hz : pieceB z = true) : fits i (.str z) = true := by
  unfold fits
  rw [if_pos h]
  exact hz
theorem fits_odd {i : Nat} {z : Str} {b : Bool} (h : i % 2 = 1) (hz : nameB z = true) : fits i (.tup [.str z, .bl b]) = true := by
  unfold fits
  rw [if_neg (by omega)]
  show (nameB z && true) = true
  rw [hz]
  rfl
/-- a drawn row: valid, its pieces of at most forty letters -/
structure Good (ds : List D) : Prop where
  fit : misfit 0 ds = none
  sm : ∀ z, D.str z ∈ ds → z.length ≤ 40
/-- a def that draws a row of n markers -/
def spRow (O : HO → Prop) : Sp := fun vs H Q _ => ∃ (a : Addr) (c n : Nat) (G : Hp), vs = [.ref a, .int (n : Nat)] ∧ BoxAt H a c ∧ c + 3000 < 1000000000 ∧ n ≤ 50 ∧ Ex G H ∧ G a = none ∧
  ∀ (v : V) (ds : List D) (G' H' : Hp), Sta G H G' H' a (c + 3000) → DV O G' v (.lst ds) → Good ds → ds.length = 2 * n + 1 → Q v H'
end Gd
/-! Flipping: letters in the other case, backward. -/
namespace Gd
open PySem PySem.Spec PyProof.Rows L2
def swC (c : Nat) : Nat := if upB c = true then c + 32 else if lowB c = true then c - 32 else c
theorem uni_case : ∀ c < 128, Unicode.lowerOf c = [if upB c = true then c + 32 else c] ∧ Unicode.upperOf c = [if lowB c = true then c - 32 else c] := by decide +kernel
theorem swap_at {a : Array Nat} {i c : Nat} (h : a[i]? = some c) (hc : c < 128) :
    (if Unicode.isUpper c = true then Unicode.lowerAt a i else if Unicode.isLower c = true then Unicode.upperOf c else [c]) = [swC c] := by
  obtain ⟨_, h2, h3, _⟩ := uni_ascii c hc
  obtain ⟨u1, u2⟩ := uni_case c hc
  have e : Unicode.lowerAt a i = Unicode.lowerOf c := by
    unfold Unicode.lowerAt
    rw [h]
    have : (c == 931) = false := by simp; omega
    simp [this]
  rw [e, u1, u2, h2, h3]
  unfold swC
  split
  · rfl
  · split <;> rfl
theorem swap_list {z : Str} (h : ∀ c ∈ z.cps.toList, c < 128) : (Txt.swapcase z).cps.toList = z.cps.toList.map swC := by
  have e : Array.mapIdx (fun i c => (if Unicode.isUpper c = true then Unicode.lowerAt z.cps i else if Unicode.isLower c = true then Unicode.upperOf c else [c]).toArray) z.cps = z.cps.map fun c => #[swC c] := by
    apply Array.ext
    · simp
    · intro i h1 h2
      have hi : i < z.cps.size := by simpa using h1
      rw [Array.getElem_mapIdx, Array.getElem_map, swap_at (c := z.cps[i]) (by simp [hi]) (h _ (by simp))]
  show (placed z _).toList = _
  unfold placed
  rw [e]
  simp only [Array.toList_flatten, Array.toList_map, List.map_map]
  generalize z.cps.toList = l
  induction l with
  | nil => rfl
  | cons c l ih =>
    rw [List.map_cons, List.flatten_cons, List.map_cons, ih]
    rfl
/-- a piece flipped -/
def turnS (z : Str) : Str := ⟨(z.cps.toList.reverse.map swC).toArray⟩
theorem turnS_list (z : Str) : (turnS z).cps.toList = z.cps.toList.reverse.map swC := by simp [turnS]
theorem turnS_len (z : Str) : (turnS z).length = z.length := by rw [Gd.len_list, turnS_list, Gd.len_list]; simp
theorem turnS_eq {z : Str} (h : ∀ c ∈ z.cps.toList, c < 128) : Txt.swapcase (revS z) = turnS z := by
  apply str_ext
  rw [swap_list (by rw [revS_list]; intro c hc; exact h c (by simpa using hc)), revS_list, turnS_list]
theorem swC_let {c : Nat} (h : letB c = true) : letB (swC c) = true ∧ swC (swC c) = c := by
  unfold letB at h
  unfold swC letB upB lowB at *
  simp only [Bool.or_eq_true, Bool.and_eq_true, decide_eq_true_eq] at *
  by_cases h1 : 65 ≤ c ∧ c ≤ 90
  · rw [if_pos h1]
    have : ¬ (65 ≤ c + 32 ∧ c + 32 ≤ 90) := by omega
    rw [if_neg this, if_pos (by omega)]
    omega
  · rw [if_neg h1, if_pos (by omega)]
    rw [if_pos (by omega)]
    omega
theorem turnS_piece {z : Str} (h : pieceB z = true) : pieceB (turnS z) = true := by
  apply pieceB_of
  rw [turnS_list]
  intro c hc
  obtain ⟨d, hd, rfl⟩ := List.mem_map.mp hc
  exact (swC_let (pieceB_list h d (by simpa using hd))).1
theorem turnS_two {z : Str} (h : pieceB z = true) : turnS (turnS z) = z := by
  apply str_ext
  rw [turnS_list, turnS_list]
  have : ∀ l : List Nat, (∀ c ∈ l, letB c = true) → (l.reverse.map swC).reverse.map swC = l := by
    intro l hl
    rw [← List.map_reverse, List.reverse_reverse, List.map_map]
    have e : l.map (swC ∘ swC) = l.map id := List.map_congr_left fun c hc => (swC_let (hl c hc)).2
    rw [e, List.map_id]
  exact this _ (pieceB_list h)
theorem turnS_app {x y : Str} : turnS (x ++ y) = turnS y ++ turnS x := by
  apply str_ext
  rw [turnS_list, str_app_list, str_app_list, turnS_list, turnS_list]
  simp
/-- an item flipped -/
def turnD : D → D
  | .str z => .str (turnS z)
  | .tup [x, .bl b] => .tup [x, .bl (!b)]
  | d => d
/-- a row flipped -/
def flipD (ds : List D) : List D := (ds.map turnD).reverse
theorem flipD_len (ds : List D) : (flipD ds).length = ds.length := by simp [flipD]
theorem mark_cases {d : D} (h : isMark d = true) : ∃ z b, d = .tup [.str z, .bl b] ∧ nameB z = true := by
  cases d with
  | tup xs =>
    match xs, h with
    | [x, y], h =>
      have h' : (isName x && isBl y) = true := h
      rw [Bool.and_eq_true] at h'
      cases x with
      | str z =>
        cases y with
        | bl b => exact ⟨z, b, rfl, h'.1⟩
        | _ => cases h'.2
      | _ => cases h'.1
  | _ => cases h
theorem piece_cases {d : D} (h : isPiece d = true) : ∃ z, d = .str z ∧ pieceB z = true := by
  cases d with
  | str z => exact ⟨z, rfl, h⟩
  | _ => cases h
theorem fits_cases {i : Nat} {d : D} (h : fits i d = true) : (i % 2 = 0 ∧ ∃ z, d = .str z ∧ pieceB z = true) ∨ (i % 2 = 1 ∧ ∃ z b, d = .tup [.str z, .bl b] ∧ nameB z = true) := by
  unfold fits at h
  by_cases hi : i % 2 = 0
  · rw [if_pos hi] at h
    exact .inl ⟨hi, piece_cases h⟩
  · rw [if_neg hi] at h
    exact .inr ⟨by omega, mark_cases h⟩
theorem misfit_get {ds : List D} {i : Nat} {k : Nat} (h : misfit k ds = none) {d : D} (e : ds[i]? = some d) : fits (k + i) d = true := by
  induction ds generalizing i k with
  | nil => simp at e
  | cons x xs ih =>
    have h' : (if fits k x = true then misfit (k + 1) xs else some k) = none := h
    by_cases hx : fits k x = true
    · rw [if_pos hx] at h'
      cases i with
      | zero => simp at e; subst e; exact hx
      | succ i =>
        have := ih h' (by simpa using e)
        rwa [show k + 1 + i = k + (i + 1) by omega] at this
    · rw [if_neg hx] at h'
      cases h'
theorem misfit_of {ds : List D} {k : Nat} (h : ∀ i d, ds[i]? = some d → fits (k + i) d = true) : misfit k ds = none := by
  induction ds generalizing k with
  | nil => rfl
  | cons x xs ih =>
    show (if fits k x = true then misfit (k + 1) xs else some k) = none
    rw [if_pos (show fits k x = true from h 0 x rfl)]
    exact ih fun i d e => by
      have := h (i + 1) d (by simpa using e)
      rwa [show k + (i + 1) = k + 1 + i by omega] at this
theorem turnD_fits {i : Nat} {d : D} (h : fits i d = true) : fits i (turnD d) = true := by
  rcases fits_cases h with ⟨hi, z, rfl, hz⟩ | ⟨hi, z, b, rfl, hz⟩
  · exact fits_even hi (turnS_piece hz)
  · exact fits_odd hi hz
theorem turnD_two {i : Nat} {d : D} (h : fits i d = true) : turnD (turnD d) = d := by
  rcases fits_cases h with ⟨hi, z, rfl, hz⟩ | ⟨hi, z, b, rfl, hz⟩
  · show D.str _ = _
    rw [turnS_two hz]
  · show D.tup [.str z, .bl (!!b)] = _
    rw [Bool.not_not]
theorem flipD_get {ds : List D} {i : Nat} {d : D} (e : (flipD ds)[i]? = some d) : i < ds.length ∧ ∃ x, ds[ds.length - 1 - i]? = some x ∧ d = turnD x := by
  unfold flipD at e
  have hi : i < ds.length := by
    obtain ⟨h, _⟩ := List.getElem?_eq_some_iff.mp e
    simpa using h
  rw [List.getElem?_reverse (by simpa using hi), List.length_map, List.getElem?_map] at e
  cases q : ds[ds.length - 1 - i]? with
  | none => rw [q] at e; cases e
  | some x => rw [q] at e; exact ⟨hi, x, rfl, by simpa using e.symm⟩
theorem flipD_good {ds : List D} (h : misfit 0 ds = none) (ho : ds.length % 2 = 1) : misfit 0 (flipD ds) = none := by
  refine misfit_of fun i d e => ?_
  obtain ⟨hi, x, hx, rfl⟩ := flipD_get e
  have h1 := turnD_fits (misfit_get h hx)
  unfold fits at h1 ⊢
  have : (0 + (ds.length - 1 - i)) % 2 = (0 + i) % 2 := by omega
  rw [this] at h1
  exact h1
theorem flipD_two {ds : List D} (h : misfit 0 ds = none) : flipD (flipD ds) = ds := by
  unfold flipD
  rw [List.map_reverse, List.reverse_reverse, List.map_map]
  have : ds.map (turnD ∘ turnD) = ds.map id := by
    apply List.map_congr_left
    intro d hd
    obtain ⟨i, hi⟩ := List.getElem?_of_mem hd
    exact turnD_two (misfit_get h hi)
  rw [this, List.map_id]
/-- flip_piece, flip_marker, flip_row -/
def spFlipP : Sp := fun vs H Q _ => ∃ z, vs = [.str z] ∧ pieceB z = true ∧ z.length ≤ 100000 ∧ ∀ H', Ex H H' → Q (.str (turnS z)) H'
def spFlipM : Sp := fun vs H Q _ => ∃ t z b, vs = [.ref t] ∧ H t = some (.tup [.str z, .bl b]) ∧ nameB z = true ∧ ∀ p G, Ex H G → H p = none → G p = none → Q (.ref p) (upd G p (.tup [.str z, .bl (!b)]))
def spFlipR (O : HO → Prop) : Sp := fun vs H Q _ => ∃ v ds, vs = [v] ∧ (DV O H v (.lst ds) ∨ DV O H v (.tup ds)) ∧ misfit 0 ds = none ∧ ds.length % 2 = 1 ∧
  ∀ l us G' H', Ex H G' → Ex G' H' → G' l = none → H l = none → H' l = some (.lst us) → DVs O G' us (flipD ds) → Q (.ref l) H'
end Gd
namespace Gd
open PySem PySem.Spec PyProof.Rows L2
section
variable {O : HO → Prop} {H : Hp}
theorem DVs.rev : ∀ {vs : List V} {ds : List D}, DVs O H vs ds → DVs O H vs.reverse ds.reverse
  | _, _, .nil => .nil
  | _, _, .cons h r => by
    rw [List.reverse_cons, List.reverse_cons]
    exact (DVs.rev r).app (.cons h .nil)
theorem mark_val {x : V} {z : Str} {b : Bool} (h : DV O H x (.tup [.str z, .bl b])) : ∃ t, x = .ref t ∧ H t = some (.tup [.str z, .bl b]) := by
  cases h with
  | @tup t ws _ ht hd _ =>
    match ws, hd with
    | [_, _], .cons (.str _ _) (.cons (.bl _) .nil) => exact ⟨t, rfl, ht⟩
theorem str_val {x : V} {z : Str} (h : DV O H x (.str z)) : x = .str z ∧ okS z = true := by
  cases h with
  | str _ h => exact ⟨rfl, h⟩
theorem bl_val {x : V} {b : Bool} (h : DV O H x (.bl b)) : x = .bl b := by
  cases h with
  | bl _ => rfl
end
theorem flip_take {ds : List D} {i : Nat} {d : D} (h : ds.reverse[i]? = some d) : (flipD ds).take (i + 1) = (flipD ds).take i ++ [turnD d] := by
  rw [List.take_add_one]
  unfold flipD
  rw [← List.map_reverse, List.getElem?_map, h]
  rfl
theorem rev_fits {ds : List D} {i : Nat} {d : D} (hm : misfit 0 ds = none) (ho : ds.length % 2 = 1) (h : ds.reverse[i]? = some d) : fits i d = true := by
  have hi : i < ds.length := by
    obtain ⟨h, _⟩ := List.getElem?_eq_some_iff.mp h
    simpa using h
  rw [List.getElem?_reverse hi] at h
  have h1 := misfit_get hm h
  unfold fits at h1 ⊢
  have : (0 + (ds.length - 1 - i)) % 2 = i % 2 := by omega
  rw [this] at h1
  exact h1
end Gd
/-! list(zip(s, t)): the walk of a zip into a list. -/
namespace Gd
open PySem PySem.Spec PyProof.Rows L2 Builtin
theorem zipD2_held {prog : Program} {w : World} {A : Around} {E : Value → Shared → Prop} {s : Shared} {z TI TO T i1 i2 : Addr} {f : Bool} {oT : Obj} {fp1 fp2 : List Addr} {n1 n2 i : Nat}
    {P1 P2 : Nat → Value → Prop} {St1 St2 : Nat → Heap → Prop} {Q : Value → Shared → Prop}
    (sep : ZipSep2 z TI TO i1 i2 fp1 fp2) (D1 : Draws prog w A i1 fp1 n1 P1 St1) (D2 : Draws prog w A i2 fp2 n2 P2 St2)
    (hz : IsZipHeld s.heap z TI TO T f) (hT : s.heap.get? T = some oT) (hTI : IsTupOf2 s.heap TI (.ref i1) (.ref i2)) (h1 : St1 i s.heap) (h2 : St2 i s.heap) (l1 : i < n1) (l2 : i < n2)
    (hQ : ∀ x1 x2 h' tk, P1 i x1 → P2 i x2 → IsZipHeld h' z TI TO T true → St1 (i + 1) h' → St2 (i + 1) h' → IsTupOf2 h' s.heap.objs.size x1 x2 → h'.objs.size = s.heap.objs.size + 1 →
      (∀ c o, c ≠ z → c ≠ i1 → c ≠ i2 → s.heap.get? c = some o → h'.get? c = some o) → Q (.ref s.heap.objs.size) { heap := h', gens := s.gens, drawn := s.drawn, toks := tk, os := s.os }) :
    wpAny (model prog w) A (Builtin.«zip.__next__» ⟨[.ref z], []⟩) (fun fin s' => ∃ v, fin = Fin.done (.ret v) ∧ Q v s') E s := by
  have q1 : ∀ {A' : Around} {Q : Bool → Shared → Prop} {E : Value → Shared → Prop}, (∀ h', IsZipHeld h' z TI TO T true → Heap.SameBut z s.heap h' → Q false { heap := h', gens := s.gens, drawn := s.drawn, toks := s.toks, os := s.os }) →
      wpAny (model prog w) A' (Builtin.SmallTypes.ownedTupleIsFree (.ref z)) Q E s := fun q => wpAny_tupleHeld_zip hz hT q
  obtain ⟨hp, g, d, tk, os⟩ := s
  dsimp only at *
  wp_walk using q1
  intro h' hz' sb
  have k' : ∀ b : Addr, b ≠ z → ∀ o : Obj, hp.get? b = some o → h'.get? b = some o := fun b hb o q => (sb.2 b hb).trans q
  have a1 : St1 i h' := D1.frame i _ _ h1 fun b hb o q => k' b (fun e => sep.zf1 (e ▸ hb)) o q
  have a2 : St2 i h' := D2.frame i _ _ h2 fun b hb o q => k' b (fun e => sep.zf2 (e ▸ hb)) o q
  have q2 : ∀ {Q E : Value → Shared → Prop}, (∀ (x : Value) (h'' : Heap) (tk' : Nat), P1 i x → St1 (i + 1) h'' → Heap.SameBut i1 h' h'' → Q x { heap := h'', gens := g, drawn := d, toks := tk', os := os }) →
      wpAny (model prog w) A (SmallTypes.nextOf (.ref i1)) Q E { heap := h', gens := g, drawn := d, toks := tk, os := os } := fun q => D1.item i _ _ _ l1 a1 q
  have q3 : ∀ {Q E : Value → Shared → Prop} {h3 : Heap} {tk3 : Nat}, St2 i h3 → (∀ (x : Value) (h'' : Heap) (tk' : Nat), P2 i x → St2 (i + 1) h'' → Heap.SameBut i2 h3 h'' → Q x { heap := h'', gens := g, drawn := d, toks := tk', os := os }) →
      wpAny (model prog w) A (SmallTypes.nextOf (.ref i2)) Q E { heap := h3, gens := g, drawn := d, toks := tk3, os := os } := fun a q => D2.item i _ _ _ l2 a q
  clear q1
  simp only [Bool.false_eq_true, if_false, ← Array.forIn_toList, List.forIn_cons, List.forIn_nil]
  wp_walk using q2, q3
  intro x1 ha tk1 p1 b1 sb1
  have k1 : ∀ b : Addr, b ≠ i1 → ∀ o : Obj, h'.get? b = some o → ha.get? b = some o := fun b hb o q => (sb1.2 b hb).trans q
  have b2 : St2 i ha := D2.frame i _ _ a2 fun b hb o q => k1 b (fun e => sep.sep1_2 (e ▸ hb)) o q
  have q4 : ∀ {Q E : Value → Shared → Prop}, (∀ (x : Value) (h'' : Heap) (tk' : Nat), P2 i x → St2 (i + 1) h'' → Heap.SameBut i2 ha h'' → Q x { heap := h'', gens := g, drawn := d, toks := tk', os := os }) →
      wpAny (model prog w) A (SmallTypes.nextOf (.ref i2)) Q E { heap := ha, gens := g, drawn := d, toks := tk1, os := os } := fun q => D2.item i _ _ _ l2 b2 q
  wp_walk using q4
  intro x2 hb tk2 p2 c2 sb2
  wp_walk
  refine ⟨_, rfl, ?_⟩
  have k2 : ∀ b : Addr, b ≠ i2 → ∀ o : Obj, ha.get? b = some o → hb.get? b = some o := fun b hb o q => (sb2.2 b hb).trans q
  have kp : ∀ b o, hb.get? b = some o → (hb.push { cls := Value.type "tuple", data := Data.seq #[x1, x2] }).get? b = some o := fun b o q => Heap.get?_push_of_some _ q
  have sz : hb.objs.size = hp.objs.size := by rw [sb2.1, sb1.1, sb.1]
  have hzb : IsZipHeld hb z TI TO T true := k2 z (fun e => sep.zf2 (by rw [e]; exact sep.mem2)) _ (k1 z (fun e => sep.zf1 (by rw [e]; exact sep.mem1)) _ hz')
  have c1 : St1 (i + 1) hb := D1.frame _ _ _ b1 fun b hb' o q => k2 b (fun e => sep.sep2_1 (e ▸ hb')) o q
  have hq' := hQ x1 x2 (hb.push { cls := Value.type "tuple", data := Data.seq #[x1, x2] }) tk2 p1 p2 (kp _ _ hzb)
    (D1.frame _ _ _ c1 fun b _ o q => kp b o q) (D2.frame _ _ _ c2 fun b _ o q => kp b o q)
  rw [← sz] at hq'
  refine hq' (Heap.get?_push_size _ rfl) (Heap.size_push ..) fun c o h1 h2 h3 q => kp _ _ (k2 c h3 _ (k1 c h2 _ (k' c h1 _ q)))
theorem zipD2_held_end {prog : Program} {w : World} {A : Around} {E : Value → Shared → Prop} {s : Shared} {z TI TO T i1 i2 : Addr} {f : Bool} {oT : Obj} {fp1 fp2 : List Addr} {n1 : Nat}
    {P1 : Nat → Value → Prop} {St1 : Nat → Heap → Prop} {Q : Fin → Shared → Prop}
    (sep : ZipSep2 z TI TO i1 i2 fp1 fp2) (D1 : Draws prog w A i1 fp1 n1 P1 St1)
    (hz : IsZipHeld s.heap z TI TO T f) (hT : s.heap.get? T = some oT) (hTI : IsTupOf2 s.heap TI (.ref i1) (.ref i2)) (h1 : St1 n1 s.heap)
    (hE : ∀ (h' : Heap) (e : Addr), (∀ c o, c ≠ z → c ≠ i1 → s.heap.get? c = some o → h'.get? c = some o) → (∃ o, h'.get? e = some o ∧ o.cls = Value.type "StopIteration") → E (.ref e) { heap := h', gens := s.gens, drawn := s.drawn, toks := s.toks, os := s.os }) :
    wpAny (model prog w) A (Builtin.«zip.__next__» ⟨[.ref z], []⟩) Q E s := by
  have q1 : ∀ {A' : Around} {Q : Bool → Shared → Prop} {E : Value → Shared → Prop}, (∀ h', IsZipHeld h' z TI TO T true → Heap.SameBut z s.heap h' → Q false { heap := h', gens := s.gens, drawn := s.drawn, toks := s.toks, os := s.os }) →
      wpAny (model prog w) A' (Builtin.SmallTypes.ownedTupleIsFree (.ref z)) Q E s := fun q => wpAny_tupleHeld_zip hz hT q
  obtain ⟨hp, g, d, tk, os⟩ := s
  dsimp only at *
  wp_walk using q1
  intro h' hz' sb
  have k' : ∀ b : Addr, b ≠ z → ∀ o : Obj, hp.get? b = some o → h'.get? b = some o := fun b hb o q => (sb.2 b hb).trans q
  have a1 : St1 n1 h' := D1.frame _ _ _ h1 fun b hb o q => k' b (fun e => sep.zf1 (e ▸ hb)) o q
  have q2 : ∀ {Q E : Value → Shared → Prop}, (∀ (h'' : Heap) (e : Addr), Heap.ExtBut i1 h' h'' → (∃ o, h''.get? e = some o ∧ o.cls = Value.type "StopIteration") → E (.ref e) { heap := h'', gens := g, drawn := d, toks := tk, os := os }) →
      wpAny (model prog w) A (SmallTypes.nextOf (.ref i1)) Q E { heap := h', gens := g, drawn := d, toks := tk, os := os } := fun q => D1.done _ _ _ a1 q
  simp only [Bool.false_eq_true, if_false, ← Array.forIn_toList, List.forIn_cons, List.forIn_nil]
  wp_walk using q2
  intro h'' e eb he
  exact hE h'' e (fun c o h1 h2 q => eb c o h2 (k' c h1 _ q)) he
end Gd
namespace Gd
open PySem PySem.Spec PyProof.Rows L2 Builtin
theorem zip_pyNext {prog : Program} {w : World} {A : Around} {E : Value → Shared → Prop} {s : Shared} {z : Addr} {o : Obj} {Q : Option Value → Shared → Prop}
    (hz : s.heap.get? z = some o) (hc : o.cls = .type "zip")
    (h : wpAny (model prog w) A.in1 (Builtin.«zip.__next__» ⟨[.ref z], []⟩) (fun fin s' => ∃ v, fin = Fin.done (.ret v) ∧ Q (some v) s')
      (fun e s' => ∃ a o, e = .ref a ∧ s'.heap.get? a = some o ∧ o.cls = .type "StopIteration" ∧ Q none s') s) :
    wpAny (model prog w) A (pyNext (.ref z)) Q E s := by
  unfold pyNext
  have ty : s.TypeIs (.ref z) "zip" := ⟨o, hz, hc⟩
  refine wpAny_bind (wpAny_attempt (wpAny_callSpecial?_slot (T := "zip") (id := "zip.__next__") ty F.slot_zip_next (wpAny_call_entry F.slot_zip_next ty F.entry_zip_next (wpAny_mono h ?_ ?_) (F.args_zip_next_1 _))))
  · rintro fin s' ⟨v, rfl, q⟩
    exact ⟨v, rfl, wpAny_pure q⟩
  · rintro e s' ⟨a, o, rfl, ha, hc, q⟩
    exact wpAny_bind (wpAny_isInstance (T := "StopIteration") ⟨o, ha, hc⟩ rfl (wpAny_pure q))
end Gd
namespace Gd
open PySem PySem.Spec PyProof.Rows L2 Builtin
theorem loop_one {prog : Program} {w : World} {A : Around} {s : Shared} {S z : Addr} {res : Value} {R : Result → Shared → Prop}
    (h : wpAny (model prog w) A.in1 (pyNext (.ref z)) (fun r s' => match r with
      | none => R (.ok (.ret res)) s'
      | some x => ∃ acc c, acc.size ≤ sizeLine ∧ s'.heap.get? S = some { cls := .type "list", data := .seq acc c } ∧ ∀ h', h'.objs.size = s'.heap.objs.size → (∃ c', h'.get? S = some { cls := .type "list", data := .seq (acc.push x) c' }) → (∀ b o, b ≠ S → s'.heap.get? b = some o → h'.get? b = some o) →
          codeAny (model prog w) A (.builtin "list.extend.loop" ⟨[.ref S, .ref z, res], []⟩) R { s' with heap := h' }) (fun e s' => R (.error e) s') s) :
    codeAny (model prog w) A (.builtin "list.extend.loop" ⟨[.ref S, .ref z, res], []⟩) R s := by
  refine codeAny_builtin (b := «list.extend.loop») rfl ?_
  show wpAny (model prog w) A.in1 _ _ _ _
  unfold «list.extend.loop»
  refine wpAny_bind (wpAny_mono h ?_ ?_)
  · intro r s' q
    cases r with
    | none => 
      wp_walk
      exact q
    | some x =>
      obtain ⟨acc, c, hsz, hS, q⟩ := q
      obtain ⟨hp, g, d, tk, os⟩ := s'
      dsimp only at hS q
      have q1 : ∀ {Q : Obj → Shared → Prop} {E : Value → Shared → Prop}, Q { cls := .type "list", data := .seq acc c } { heap := hp, gens := g, drawn := d, toks := tk, os := os } → wpAny (model prog w) A.in1 (load S) Q E { heap := hp, gens := g, drawn := d, toks := tk, os := os } := fun q => wpAny_load hS q
      wp_walk using q1
      have e : (Obj.mapSeq (fun y => y.push x) { cls := Value.type "list", data := Data.seq acc c }).data.pastItsLine = none := by
        show (if (acc.push x).size > sizeLine + 1 then some "sequence:memory" else none) = none
        rw [if_neg (by rw [Array.size_push]; omega)]
      rw [e]
      wp_walk
      refine ⟨by first | decide | (with_unfolding_all rfl) | (simp [Code.quiet]; done), q (hp.update S (Obj.mapSeq fun y => y.push x)) (Heap.size_update _ _ _) ⟨if ((acc.push x).size == acc.size) = true then c else c + 1, Heap.get?_update_self _ hS rfl⟩ (fun b o hb q' => ?_)⟩
      exact (Heap.get?_update_ne _ _ _ _ hb).trans q'
  · intro e s' q
    exact q
end Gd
namespace Gd
open PySem PySem.Spec PyProof.Rows L2 Builtin
/-- how the walk of a zip into a list stands ahead of turn i -/
structure ZS (lo : Nat) (S z TI TO i1 i2 : Addr) (P1 P2 : Nat → Value → Prop) (h0 h : Heap) (i : Nat) (ts : List Addr) : Prop where
  lst : ∃ acc c, h.get? S = some { cls := .type "list", data := .seq acc c } ∧ acc.toList = ts.map Value.ref
  len : ts.length = i
  tup : ∀ j t, ts[j]? = some t → lo ≤ t ∧ t < h.objs.size ∧ ∃ x1 x2, P1 j x1 ∧ P2 j x2 ∧ IsTupOf2 h t x1 x2
  nd : ts.Pairwise (· < ·)
  kp : ∀ b o, b ≠ S → b ≠ z → b ≠ TO → b ≠ i1 → b ≠ i2 → h0.get? b = some o → h.get? b = some o
  le : lo ≤ h.objs.size
structure ZE (lo : Nat) (S z TO i1 i2 : Addr) (P1 P2 : Nat → Value → Prop) (h0 h : Heap) (n : Nat) (ts : List Addr) : Prop where
  lst : ∃ acc c, h.get? S = some { cls := .type "list", data := .seq acc c } ∧ acc.toList = ts.map Value.ref
  len : ts.length = n
  tup : ∀ j t, ts[j]? = some t → lo ≤ t ∧ ∃ x1 x2, P1 j x1 ∧ P2 j x2 ∧ IsTupOf2 h t x1 x2
  nd : ts.Pairwise (· < ·)
  kp : ∀ b o, b ≠ S → b ≠ z → b ≠ TO → b ≠ i1 → b ≠ i2 → h0.get? b = some o → h.get? b = some o
structure ZA (lo : Nat) (S z TI TO i1 i2 : Addr) (fp1 fp2 : List Addr) : Prop where
  hS : S < lo
  hz : z < lo
  hTI : TI < lo
  hTO : TO < lo
  h1 : i1 < lo
  h2 : i2 < lo
  Sz : S ≠ z
  STI : S ≠ TI
  STO : S ≠ TO
  S1 : S ≠ i1
  S2 : S ≠ i2
  f1 : S ∉ fp1
  f2 : S ∉ fp2
section
variable {prog : Program} {w : World} {A : Around} {lo : Nat} {S z TI TO i1 i2 : Addr} {fp1 fp2 : List Addr} {n i : Nat} {P1 P2 : Nat → Value → Prop} {St1 St2 : Nat → Heap → Prop} {h0 h h1 h2 : Heap} {ts : List Addr}
/-- one more tuple, pushed -/
theorem ZS.step (a : ZA lo S z TI TO i1 i2 fp1 fp2) (Z : ZS lo S z TI TO i1 i2 P1 P2 h0 h i ts) {x1 x2 : Value} (p1 : P1 i x1) (p2 : P2 i x2)
    (t1 : IsTupOf2 h1 h.objs.size x1 x2) (sz : h1.objs.size = h.objs.size + 1) (k1 : ∀ c o, c ≠ z → c ≠ TO → c ≠ i1 → c ≠ i2 → h.get? c = some o → h1.get? c = some o)
    {acc : Array Value} {c : Nat} (hac : acc.toList = ts.map Value.ref) (s2 : h2.objs.size = h1.objs.size) (l2 : h2.get? S = some { cls := .type "list", data := .seq (acc.push (.ref h.objs.size)) c })
    (k2 : ∀ b o, b ≠ S → h1.get? b = some o → h2.get? b = some o) : ZS lo S z TI TO i1 i2 P1 P2 h0 h2 (i + 1) (ts ++ [h.objs.size]) := by
  have nlo : ∀ t : Nat, lo ≤ t → t ≠ S ∧ t ≠ z ∧ t ≠ TO ∧ t ≠ i1 ∧ t ≠ i2 := by
    intro t ht
    have := a.hS; have := a.hz; have := a.hTO; have := a.h1; have := a.h2
    exact ⟨Nat.ne_of_gt (Nat.lt_of_lt_of_le a.hS ht), Nat.ne_of_gt (Nat.lt_of_lt_of_le a.hz ht), Nat.ne_of_gt (Nat.lt_of_lt_of_le a.hTO ht), Nat.ne_of_gt (Nat.lt_of_lt_of_le a.h1 ht), Nat.ne_of_gt (Nat.lt_of_lt_of_le a.h2 ht)⟩
  refine ⟨⟨_, _, l2, by rw [Array.toList_push, hac, List.map_append]; rfl⟩, by simp [Z.len], ?_, ?_, ?_, by rw [s2, sz]; exact Nat.le_succ_of_le Z.le⟩
  · intro j t hj
    rw [List.getElem?_append] at hj
    split at hj
    · obtain ⟨g1, g2, y1, y2, e1, e2, e3⟩ := Z.tup j t hj
      obtain ⟨n1, n2, n3, n4, n5⟩ := nlo t g1
      exact ⟨g1, by rw [s2, sz]; exact Nat.lt_succ_of_lt g2, y1, y2, e1, e2, k2 _ _ n1 (k1 _ _ n2 n3 n4 n5 e3)⟩
    · rename_i hlt
      have hji : j - ts.length = 0 := by
        cases q : j - ts.length with
        | zero => rfl
        | succ m => rw [q] at hj; simp at hj
      rw [hji] at hj
      have ht : t = h.objs.size := by simpa using hj.symm
      have hjj : j = i := by have := Z.len; omega
      rw [ht, hjj]
      obtain ⟨n1, _⟩ := nlo h.objs.size Z.le
      exact ⟨Z.le, by rw [s2, sz]; exact Nat.lt_succ_self _, x1, x2, p1, p2, k2 _ _ n1 t1⟩
  · rw [List.pairwise_append]
    refine ⟨Z.nd, List.pairwise_singleton _ _, fun t ht b hb => ?_⟩
    have : b = h.objs.size := by simpa using hb
    rw [this]
    obtain ⟨j, hj⟩ := List.getElem?_of_mem ht
    exact (Z.tup j t hj).2.1
  · intro b o b1 b2 b3 b4 b5 q
    exact k2 _ _ b1 (k1 _ _ b2 b3 b4 b5 (Z.kp b o b1 b2 b3 b4 b5 q))
theorem ZS.size (Z : ZS lo S z TI TO i1 i2 P1 P2 h0 h i ts) {acc : Array Value} (hac : acc.toList = ts.map Value.ref) : acc.size = i := by
  rw [← Array.length_toList, hac, List.length_map, Z.len]
theorem zloop {s : Shared} {res : Value} {R : Result → Shared → Prop} (sep : ZipSep2 z TI TO i1 i2 fp1 fp2) (D1 : Draws prog w A.in1.in1 i1 fp1 n P1 St1) (D2 : Draws prog w A.in1.in1 i2 fp2 n P2 St2)
    (a : ZA lo S z TI TO i1 i2 fp1 fp2) (hn : n ≤ sizeLine)
    (hR : ∀ h' tk ts, ZE lo S z TO i1 i2 P1 P2 h0 h' n ts → R (.ok (.ret res)) { s with heap := h', toks := tk }) :
    ∀ (k i : Nat) (h : Heap) (tk : Nat) (ts : List Addr) (T : Addr) (f : Bool) (oT : Obj), n - i = k → i ≤ n → IsZipHeld h z TI TO T f → h.get? T = some oT → lo ≤ T → IsTupOf2 h TI (.ref i1) (.ref i2) → St1 i h → St2 i h →
      ZS lo S z TI TO i1 i2 P1 P2 h0 h i ts → codeAny (model prog w) A (.builtin "list.extend.loop" ⟨[.ref S, .ref z, res], []⟩) R { s with heap := h, toks := tk } := by
  intro k
  induction k with
  | zero =>
    intro i h tk ts T f oT hk hi hz hT hlT hTI s1 s2 Z
    have e : i = n := by omega
    subst e
    apply loop_one
    refine zip_pyNext hz rfl (zipD2_held_end sep D1 hz hT hTI s1 ?_)
    intro h' e kp ⟨o, ho, hc⟩
    obtain ⟨acc, c, hl, hac⟩ := Z.lst
    refine ⟨e, o, rfl, ho, hc, hR h' tk ts ⟨⟨acc, c, kp _ _ a.Sz a.S1 hl, hac⟩, Z.len, ?_, Z.nd, ?_⟩⟩
    · intro j t hj
      obtain ⟨g1, g2, y1, y2, e1, e2, e3⟩ := Z.tup j t hj
      exact ⟨g1, y1, y2, e1, e2, kp _ _ (Nat.ne_of_gt (Nat.lt_of_lt_of_le a.hz g1)) (Nat.ne_of_gt (Nat.lt_of_lt_of_le a.h1 g1)) e3⟩
    · intro b o b1 b2 b3 b4 b5 q
      exact kp _ _ b2 b4 (Z.kp b o b1 b2 b3 b4 b5 q)
  | succ k ih =>
    intro i h tk ts T f oT hk hi hz hT hlT hTI s1 s2 Z
    apply loop_one
    refine zip_pyNext hz rfl (zipD2_held sep D1 D2 hz hT hTI s1 s2 (by omega) (by omega) ?_)
    intro x1 x2 h1 tk1 p1 p2 hz1 c1 c2 t1 sz k1
    obtain ⟨acc, c, hl, hac⟩ := Z.lst
    refine ⟨acc, c, by rw [Z.size hac]; omega, k1 _ _ a.Sz a.S1 a.S2 hl, fun h2 s2' ⟨c', l2⟩ k2 => ?_⟩
    have Z2 := Z.step a p1 p2 t1 sz (fun c o q1 _ q3 q4 q => k1 c o q1 q3 q4 q) hac s2' l2 k2
    have nT : T ≠ S := Nat.ne_of_gt (Nat.lt_of_lt_of_le a.hS hlT)
    have nTz : T ≠ z := Nat.ne_of_gt (Nat.lt_of_lt_of_le a.hz hlT)
    have nT1 : T ≠ i1 := Nat.ne_of_gt (Nat.lt_of_lt_of_le a.h1 hlT)
    have nT2 : T ≠ i2 := Nat.ne_of_gt (Nat.lt_of_lt_of_le a.h2 hlT)
    exact ih (i + 1) h2 tk1 _ T true oT (by omega) (by omega) (k2 _ _ a.Sz.symm hz1) (k2 _ _ nT (k1 _ _ nTz nT1 nT2 hT)) hlT (k2 _ _ a.STI.symm (k1 _ _ sep.TIz sep.TIi1 sep.TIi2 hTI))
      (D1.frame _ _ _ c1 fun b hb o q => k2 b o (fun e => a.f1 (e ▸ hb)) q) (D2.frame _ _ _ c2 fun b hb o q => k2 b o (fun e => a.f2 (e ▸ hb)) q) Z2
/-- the whole loop, from the zip that is fresh -/
theorem zloop0 {s : Shared} {res : Value} {R : Result → Shared → Prop} (sep : ZipSep2 z TI TO i1 i2 fp1 fp2) (D1 : Draws prog w A.in1.in1 i1 fp1 n P1 St1) (D2 : Draws prog w A.in1.in1 i2 fp2 n P2 St2)
    (a : ZA lo S z TI TO i1 i2 fp1 fp2) (hn : n ≤ sizeLine) (h0n : 0 < n)
    (hR : ∀ h' tk ts, ZE lo S z TO i1 i2 P1 P2 s.heap h' n ts → R (.ok (.ret res)) { s with heap := h', toks := tk })
    {a1 a2 : Value} (hz : IsZip s.heap z TI TO .none) (hTI : IsTupOf2 s.heap TI (.ref i1) (.ref i2)) (hTO : IsTupOf2 s.heap TO a1 a2) (s1 : St1 0 s.heap) (s2 : St2 0 s.heap) (hlo : lo ≤ s.heap.objs.size) {c : Nat}
    (hl : s.heap.get? S = some { cls := .type "list", data := .seq #[] c }) :
    codeAny (model prog w) A (.builtin "list.extend.loop" ⟨[.ref S, .ref z, res], []⟩) R s := by
  apply loop_one
  refine wpAny_pyNext_zipD2_item (A := A.in1) sep D1 D2 hz hTI hTO s1 s2 h0n h0n ?_
  intro x1 x2 h1 tk1 p1 p2 hz1 _ c1 c2 t1 sz k1
  have Z : ZS lo S z TI TO i1 i2 P1 P2 s.heap s.heap 0 [] := ⟨⟨_, _, hl, rfl⟩, rfl, fun j t h => by simp at h, .nil, fun b o _ _ _ _ _ q => q, hlo⟩
  refine ⟨#[], _, Nat.zero_le _, k1 _ _ a.Sz a.STO a.S1 a.S2 hl, fun h2 s2' ⟨c', l2⟩ k2 => ?_⟩
  have Z2 := Z.step a p1 p2 t1 sz k1 rfl s2' l2 k2
  have nT : s.heap.objs.size ≠ S := Nat.ne_of_gt (Nat.lt_of_lt_of_le a.hS hlo)
  exact zloop (h0 := s.heap) (s := s) sep D1 D2 a hn hR (n - 1) 1 h2 tk1 _ s.heap.objs.size false _ (by omega) h0n (k2 _ _ a.Sz.symm hz1) (k2 _ _ nT t1) hlo (k2 _ _ a.STI.symm (k1 _ _ sep.TIz sep.TITO sep.TIi1 sep.TIi2 hTI))
    (D1.frame _ _ _ c1 fun b hb o q => k2 b o (fun e => a.f1 (e ▸ hb)) q) (D2.frame _ _ _ c2 fun b hb o q => k2 b o (fun e => a.f2 (e ▸ hb)) q) Z2
end
end Gd
namespace Gd
open PySem PySem.Spec PyProof.Rows L2 Builtin
theorem len_zip : typeLookup (Value.type "zip") (Str.ofString "__len__") = pure none := by rfl
theorem hint_zip : typeLookup (Value.type "zip") (Str.ofString "__length_hint__") = pure none := by rfl
theorem zip_extend {prog : Program} {w : World} {A : Around} {s : Shared} {S z TI TO : Addr} {f0 res : Value} {E : Value → Shared → Prop} {Q : Fin → Shared → Prop}
    (hz : IsZip s.heap z TI TO f0) (hSz : S ≠ z) (hl : s.heap.get? S = some { cls := .type "list", data := .seq #[] 0 })
    (hQ : ∀ h' c, h'.objs.size = s.heap.objs.size → h'.get? S = some { cls := .type "list", data := .seq #[] c } → (∀ b o, b ≠ S → s.heap.get? b = some o → h'.get? b = some o) →
      Q (Fin.again (.builtin "list.extend.loop" ⟨[.ref S, .ref z, res], []⟩)) { s with heap := h' }) :
    wpAny (model prog w) A (Builtin.List.listExtendWith (.ref S) (.ref z) res) Q E s := by
  have q1 : ∀ {A' : Around} {Q E : Value → Shared → Prop}, Q (.ref z) s → wpAny (model prog w) A' (pyIter (.ref z)) Q E s := fun q => wpAny_pyIter_zip hz q
  obtain ⟨hp, g, d, tk, os⟩ := s
  dsimp only at *
  unfold Builtin.List.listExtendWith
  wp_walk using q1
  have e : List.listSameRef (Value.ref S) (Value.ref z) = false := by
    unfold List.listSameRef
    simp [hSz]
  rw [if_neg (by rw [e]; show ¬ ((false || (Value.type "zip" == Value.type "list") || (Value.type "zip" == Value.type "tuple")) = true); decide)]
  wp_walk using q1
  dsimp only
  rw [len_zip]
  wp_walk
  dsimp only
  rw [hint_zip]
  wp_walk
  have hS1 : (hp.update S (Obj.mapSeq fun x => x.push Value.none)).get? S = some { cls := .type "list", data := .seq #[Value.none] 1 } := Heap.get?_update_self _ hl rfl
  refine hQ _ 2 ?_ (Heap.get?_update_self _ hS1 rfl) fun b o hb q => ?_
  · rw [Heap.size_update, Heap.size_update]
  · exact (Heap.get?_update_ne _ _ _ _ hb).trans ((Heap.get?_update_ne _ _ _ _ hb).trans q)
theorem zip_init {prog : Program} {w : World} {A : Around} {s : Shared} {S z TI TO : Addr} {f0 : Value} {E : Value → Shared → Prop} {Q : Fin → Shared → Prop}
    (hz : IsZip s.heap z TI TO f0) (hSz : S ≠ z) (hl : s.heap.get? S = some { cls := .type "list", data := .seq #[] 0 })
    (hQ : ∀ h' c, h'.objs.size = s.heap.objs.size → h'.get? S = some { cls := .type "list", data := .seq #[] c } → (∀ b o, b ≠ S → s.heap.get? b = some o → h'.get? b = some o) →
      Q (Fin.again (.builtin "list.extend.loop" ⟨[.ref S, .ref z, .none], []⟩)) { s with heap := h' }) :
    wpAny (model prog w) A (Builtin.«list.__init__» ⟨[.ref S, .ref z], []⟩) Q E s := by
  obtain ⟨hp, g, d, tk, os⟩ := s
  dsimp only at *
  have hl2 : (hp.update S (Obj.mapSeq fun _ => #[])).get? S = some { cls := .type "list", data := .seq #[] 0 } := Heap.get?_update_self _ hl rfl
  have hz2 : IsZip (hp.update S (Obj.mapSeq fun _ => #[])) z TI TO f0 := (Heap.get?_update_ne _ _ _ _ hSz.symm).trans hz
  have q1 : ∀ {Q E : _}, (∀ h' c, h'.objs.size = hp.objs.size → h'.get? S = some { cls := .type "list", data := .seq #[] c } → (∀ b o, b ≠ S → hp.get? b = some o → h'.get? b = some o) →
      Q (Fin.again (.builtin "list.extend.loop" ⟨[.ref S, .ref z, .none], []⟩)) { heap := h', gens := g, drawn := d, toks := tk, os := os }) →
      wpAny (model prog w) A (Builtin.List.listExtendWith (.ref S) (.ref z) .none) Q E { heap := hp.update S (Obj.mapSeq fun _ => #[]), gens := g, drawn := d, toks := tk, os := os } := by
    intro Q E q
    refine zip_extend hz2 hSz hl2 fun h' c h1 h2 h3 => q h' c (by rw [h1]; exact Heap.size_update _ _ _) h2 fun b o hb qq => h3 b o hb ((Heap.get?_update_ne _ _ _ _ hb).trans qq)
  unfold Builtin.«list.__init__»
  wp_walk using q1
  exact hQ
end Gd
namespace Gd
open PySem PySem.Spec PyProof.Rows L2 Builtin
theorem sepN (n : Nat) : ZipSep2 (n + 4) (n + 2) (n + 3) n (n + 1) [n] [n + 1] := by
  constructor <;> simp <;> omega
theorem zaN (n : Nat) : ZA (n + 6) (n + 5) (n + 4) (n + 2) (n + 3) n (n + 1) [n] [n + 1] := by
  constructor <;> first | (show (_ : Nat) < _; omega) | (show ¬ (_ : Nat) = _; omega) | (simp; try omega)
theorem list_zip {prog : Program} {w : World} {A : Around} {E : Value → Shared → Prop} {s : Shared} {x y : Str} {tx ty : Tok} {Q : Value → Shared → Prop}
    (hh : A.handled = none) (hxy : x.cps.size = y.cps.size) (hn0 : 0 < x.cps.size) (hn : x.cps.size ≤ sizeLine)
    (hQ : ∀ (h' : Heap) (tk : Nat) (l : Addr) (ts : List Addr) (acc : Array Value) (c : Nat), (∀ b o, s.heap.get? b = some o → h'.get? b = some o) → s.heap.objs.size ≤ l → h'.get? l = some { cls := .type "list", data := .seq acc c } → acc.toList = ts.map Value.ref → ts.length = x.cps.size →
      (∀ (j : Nat) (t : Addr), ts[j]? = some t → l < t ∧ ∃ a b u v, x.cps[j]? = some a ∧ y.cps[j]? = some b ∧ IsTupOf2 h' t (.str ⟨#[a]⟩ u) (.str ⟨#[b]⟩ v)) → ts.Pairwise (· < ·) → Q (.ref l) { s with heap := h', toks := tk }) :
    wpAny (model prog w) A (call (.type "zip") [.str x tx, .str y ty]) (fun v s1 => wpAny (model prog w) A (call (.type "list") [v]) Q E s1) E s := by
  refine zip_begins2 (begins_text x tx) (begins_text y ty) trivial trivial ?_
  intro h1 hz hTI hTO o1 o2 sz k1
  refine callType_codes F.called_list (F.typeCall_list_1 _) F.entry_list_init (code_list_new (Q₁ := fun obj s1 => obj = .ref h1.objs.size ∧ s1 = { s with heap := h1.push { cls := Value.type "list", data := Data.seq #[] } }) _ ⟨rfl, rfl⟩) ?_
  rintro obj s1 ⟨rfl, rfl⟩
  have kp : ∀ b o, h1.get? b = some o → (h1.push { cls := Value.type "list", data := Data.seq #[] }).get? b = some o := fun b o q => Heap.get?_push_of_some _ q
  have hl : (h1.push { cls := Value.type "list", data := Data.seq #[] }).get? h1.objs.size = some { cls := Value.type "list", data := Data.seq #[] } := Heap.get?_push_size _ rfl
  have hsz : h1.objs.size = s.heap.objs.size + 5 := sz
  have a := zaN s.heap.objs.size
  have sep := sepN s.heap.objs.size
  have D1 := Draws.text (prog := prog) (w := w) (A := A.in1.in1.in1) hh s.heap.objs.size x tx
  have D2 := Draws.text (prog := prog) (w := w) (A := A.in1.in1.in1) hh (s.heap.objs.size + 1) y ty
  rw [← hxy] at D2
  rw [← hsz] at a
  refine ⟨⟨_, hl, rfl⟩, F.args_list_init_2 _ _, ?_⟩
  refine zip_init (kp _ _ hz) a.Sz hl ?_
  intro h2 c s2 l2 k2
  have np : (h1.push { cls := Value.type "list", data := Data.seq #[] }).objs.size = s.heap.objs.size + 6 := by rw [Heap.size_push, hsz]
  refine ⟨by first | decide | (with_unfolding_all rfl) | (simp [Code.quiet]; done), ?_⟩
  refine zloop0 (s := { s with heap := h2 }) sep D1 D2 a hn hn0 ?_ (k2 _ _ a.Sz.symm (kp _ _ hz)) (k2 _ _ a.STI.symm (kp _ _ hTI)) (k2 _ _ a.STO.symm (kp _ _ hTO)) ?_ ?_ ?_ l2
  · intro h3 tk ts Z
    obtain ⟨acc, c3, l3, hac⟩ := Z.lst
    refine ⟨rfl, hQ h3 tk _ ts acc c3 ?_ (by rw [hsz]; exact Nat.le_add_right _ _) l3 hac Z.len ?_ Z.nd⟩
    · intro b o q
      have hb : b < s.heap.objs.size := Heap.lt_size q
      have ne : ∀ k : Nat, b ≠ s.heap.objs.size + k := fun k e => by rw [e] at hb; exact absurd hb (Nat.not_lt.mpr (Nat.le_add_right _ _))
      have bS : b ≠ h1.objs.size := by rw [hsz]; exact ne 5
      exact Z.kp b o bS (ne 4) (ne 3) (ne 0) (ne 1) (k2 _ _ bS (kp _ _ (k1 _ _ q)))
    · intro j t hj
      obtain ⟨g1, x1, x2, ⟨ca, u, e1, rfl⟩, ⟨cb, v, e2, rfl⟩, e3⟩ := Z.tup j t hj
      refine ⟨?_, ca, cb, u, v, e1, e2, e3⟩
      rw [hsz]
      exact Nat.lt_of_lt_of_le (Nat.lt_succ_self _) g1
  · exact ⟨_, k2 _ _ a.S1.symm (kp _ _ o1), rfl, rfl⟩
  · exact ⟨_, k2 _ _ a.S2.symm (kp _ _ o2), rfl, rfl⟩
  · rw [s2, np]
    exact Nat.le_refl _
end Gd
/-! Several new objects of one step. -/
namespace Gd
open PySem PySem.Spec PyProof.Rows L2
/-- the heap up to a place -/
def trunc (h : Heap) (m : Nat) : Heap := { h with objs := h.objs.extract 0 m }
theorem trunc_get {h : Heap} {m b : Nat} (hb : b < m) : (trunc h m).get? b = h.get? b := by
  unfold trunc Heap.get?
  dsimp only
  rw [Array.getElem?_extract]
  by_cases q : b < h.objs.size
  · rw [if_pos (by omega)]
    simp
  · rw [if_neg (by omega), Array.getElem?_eq_none (by omega)]
theorem trunc_size {h : Heap} {m : Nat} (hm : m ≤ h.objs.size) : (trunc h m).objs.size = m := by
  unfold trunc
  simp
  omega
theorem trunc_some {h : Heap} {m b : Nat} {o : Obj} (q : (trunc h m).get? b = some o) : h.get? b = some o := by
  have h1 : b < (trunc h m).objs.size := Heap.lt_size q
  have h2 : b < m := by
    unfold trunc at h1
    simp at h1
    omega
  rwa [trunc_get h2] at q
def layAll (H : Hp) (as : List (Addr × HO)) : Hp := as.foldl (fun H p => upd H p.1 p.2) H
theorem lays {X : Cx} {pins : List (Addr × Obj)} {σ : List (Option V)} {h' : Heap} {tk : Nat} : ∀ (as : List (Addr × HO)) (H : Hp) (s : Shared), Inv X pins σ H s → (∀ b u, s.heap.get? b = some u → h'.get? b = some u) →
    as.Pairwise (fun p q => p.1 < q.1) → (∀ p ∈ as, s.heap.objs.size ≤ p.1 ∧ (∃ o, h'.get? p.1 = some o) ∧ ∀ (H' : Hp) (h'' : Heap), h''.get? p.1 = h'.get? p.1 → ObjOk X.prog X.w H' h'' p.1 p.2) →
    Inv X pins σ (layAll H as) { s with heap := h', toks := tk }
  | [], H, s, I, k, _, _ => I.kept k
  | p :: as, H, s, I, k, hp, ha => by
    obtain ⟨h1, ⟨o, h2⟩, h3⟩ := ha p (by simp)
    have hlt : p.1 < h'.objs.size := Heap.lt_size h2
    have hm : (p.1 : Nat) + 1 ≤ h'.objs.size := hlt
    have e := trunc_get (h := h') (m := p.1 + 1) (b := p.1) (Nat.lt_succ_self _)
    have I2 := I.laid (h' := trunc h' (p.1 + 1)) (a := p.1) (o := p.2) (t' := tk) (fun b u q => by
      have hb : b < s.heap.objs.size := Heap.lt_size q
      have hb2 : (b : Nat) < p.1 + 1 := Nat.lt_succ_of_le (Nat.le_trans (Nat.le_of_lt hb) h1)
      rw [trunc_get hb2]
      exact k b u q) h1 (h3 _ _ e)
    rw [List.pairwise_cons] at hp
    refine lays as (upd H p.1 p.2) { s with heap := trunc h' (p.1 + 1), toks := tk } I2 (fun b u q => trunc_some q) hp.2 fun q hq => ?_
    obtain ⟨g1, g2, g3⟩ := ha q (by simp [hq])
    refine ⟨?_, g2, g3⟩
    show (trunc h' (p.1 + 1)).objs.size ≤ q.1
    rw [trunc_size hm]
    exact hp.1 q hq
theorem layAll_get {as : List (Addr × HO)} : ∀ {H : Hp} {a : Addr} {o : HO}, as.Pairwise (fun p q => p.1 < q.1) → (a, o) ∈ as → layAll H as a = some o := by
  induction as with
  | nil => intro H a o _ h; simp at h
  | cons p as ih =>
    intro H a o hp h
    rw [List.pairwise_cons] at hp
    rcases List.mem_cons.mp h with rfl | h
    · have : ∀ (as : List (Addr × HO)) (H : Hp), (∀ q ∈ as, a < q.1) → H a = some o → layAll H as a = some o := by
        intro as
        induction as with
        | nil => intro H _ h; exact h
        | cons q as ih => 
          intro H hq h
          exact ih _ (fun r hr => hq r (by simp [hr])) ((upd_ne (Nat.ne_of_lt (hq q (by simp)))).trans h)
      exact this as _ hp.1 upd_same
    · exact ih hp.2 h
theorem layAll_ex {as : List (Addr × HO)} : ∀ {H : Hp}, as.Pairwise (fun p q => p.1 < q.1) → (∀ p ∈ as, H p.1 = none) → Ex H (layAll H as) := by
  induction as with
  | nil => intro H _ _; exact Ex.rfl' H
  | cons p as ih =>
    intro H hp h
    rw [List.pairwise_cons] at hp
    refine (Ex.new (h p (by simp))).tr (ih hp.2 fun q hq => ?_)
    rw [upd_ne (Nat.ne_of_gt (hp.1 q hq))]
    exact h q (by simp [hq])
end Gd
/-! The rule of list(zip(s, t)), two texts of one length. -/
namespace Gd
open PySem PySem.Spec PyProof.Rows L2 Builtin
def tLZ (ta : TA) : TE := fun σ H Q => ta σ H fun vs H1 => ∃ x y : Str, vs = [.str x, .str y] ∧ x.cps.size = y.cps.size ∧ 0 < x.cps.size ∧ x.cps.size ≤ sizeLine ∧
  ∀ (l : Addr) (ts : List Addr) (H' : Hp), H1 l = none → Ex H1 H' → H' l = some (.lst (ts.map V.ref)) → ts.length = x.cps.size →
    (∀ (j : Nat) (t : Addr), ts[j]? = some t → ∃ a b, x.cps[j]? = some a ∧ y.cps[j]? = some b ∧ H' t = some (.tup [.str (one a), .str (one b)])) → Q (.ref l) H'
theorem pe_listzip {X : Cx} {ea eb : Expr} {ta : TA} {p p2 pos pos2 : Pos} (hh : X.A.handled = none) (hl : Gl X "list") (hml : X.mg "list" = none) (hz : Gl X "zip") (hmz : X.mg "zip" = none) (ha : PA X [ea, eb] ta)
    (hs : starEach [ea, eb] X.env = (false, eval ea X.env) :: starEach [eb] X.env := by rfl) (hpl : (backTo pos2 (starEach [eb] X.env)).any (·.1) = false := by rfl)
    (hs2 : starEach [.Call (.Name "zip" p2) [ea, eb] [] pos2] X.env = [(false, eval (.Call (.Name "zip" p2) [ea, eb] [] pos2) X.env)] := by rfl) :
    PE X (.Call (.Name "list" p) [.Call (.Name "zip" p2) [ea, eb] [] pos2] [] pos) (tLZ ta) where
  run pins s σ H Q I h := by
    refine Call_ (ld_blt I hl hml (u := .type "list") rfl (PyProof.Rows.callWith_type1 ?_ hs2 rfl))
    rw [hs2]
    refine PySem.Calls.spliced_cons ?_
    refine Call_ (ld_blt I hz hmz (u := .type "zip") rfl (PyProof.Rows.callWith_type1 (thn (ha.run pos2 pins s σ H _ I h) ?_) hs hpl))
    intro us s1 ⟨vs, H1, I1, r1, q1⟩
    obtain ⟨x, y, rfl, hxy, h0, hsz, q⟩ := q1
    cases r1 with
    | cons rx rr =>
    cases rr with
    | cons ry rn =>
    cases rn
    obtain ⟨tx, rfl⟩ := rx
    obtain ⟨ty, rfl⟩ := ry
    refine thn (list_zip (Q := EP X pins σ Q) hh hxy h0 hsz ?_) ?_
    · intro h' tk l ts acc c kp hlo hl' hac hlen htup hnd
      have ho : ∀ (j : Nat) (t : Addr) (o : HO), ts[j]? = some t → (List.zipWith (fun a b => HO.tup [.str (one a), .str (one b)]) x.cps.toList y.cps.toList)[j]? = some o → ∃ a b, x.cps[j]? = some a ∧ y.cps[j]? = some b ∧ o = .tup [.str (one a), .str (one b)] ∧
          s1.heap.objs.size ≤ t ∧ l < t ∧ (∃ ob, h'.get? t = some ob) ∧ ∀ (H' : Hp) (h'' : Heap), h''.get? t = h'.get? t → ObjOk X.prog X.w H' h'' t o := by
        intro j t o hj hjo
        obtain ⟨lt, a, b, u, v, e1, e2, e3⟩ := htup j t hj
        rw [List.getElem?_zipWith, Array.getElem?_toList, Array.getElem?_toList, e1, e2] at hjo
        have hjo : some (HO.tup [V.str (one a), .str (one b)]) = some o := hjo
        have hjo := (Option.some.inj hjo).symm
        subst hjo
        refine ⟨a, b, e1, e2, rfl, Nat.le_trans hlo (Nat.le_of_lt lt), lt, ⟨_, e3⟩, fun H' h'' e => ?_⟩
        exact ⟨by show 2 ≤ sizeLine; decide, [_, _], .cons ⟨u, rfl⟩ (.cons ⟨v, rfl⟩ .nil), ⟨_, e.trans e3, rfl, _, rfl⟩⟩
      generalize hob : List.zipWith (fun a b => HO.tup [.str (one a), .str (one b)]) x.cps.toList y.cps.toList = objs at ho
      have hol : objs.length = ts.length := by
        rw [← hob, List.length_zipWith, hlen]
        simp
        omega
      have hm : ∀ (t : Addr) (o : HO), (t, o) ∈ ts.zip objs → ∃ j : Nat, ts[j]? = some t ∧ objs[j]? = some o := by
        intro t o h
        obtain ⟨j, hj⟩ := List.getElem?_of_mem h
        rw [List.getElem?_zip_eq_some] at hj
        exact ⟨j, hj.1, hj.2⟩
      have hlst : ∀ (H' : Hp) (h'' : Heap), h''.get? l = h'.get? l → ObjOk X.prog X.w H' h'' l (.lst (ts.map V.ref)) := by
        intro H' h'' e
        refine ⟨by rw [List.length_map, hlen]; exact hsz, ts.map Value.ref, c, ?_, ?_⟩
        · clear hnd htup ho hm hol hac hlen
          induction ts with
          | nil => exact .nil
          | cons t ts ih => exact .cons rfl ih
        · rw [← hac]
          exact e.trans hl'
      have hpw : ((l, HO.lst (ts.map V.ref)) :: ts.zip objs).Pairwise (fun p q => p.1 < q.1) := by
        rw [List.pairwise_cons]
        refine ⟨fun p hp => ?_, ?_⟩
        · obtain ⟨j, h1, h2⟩ := hm p.1 p.2 hp
          obtain ⟨_, _, _, _, _, _, h3, _⟩ := ho j _ _ h1 h2
          exact h3
        · have e : (ts.zip objs).map Prod.fst = ts := List.map_fst_zip (by omega)
          have := hnd
          rw [← e, List.pairwise_map] at this
          exact this
      have I2 := lays (h' := h') (tk := tk) ((l, HO.lst (ts.map V.ref)) :: ts.zip objs) H1 s1 I1 kp hpw fun p hp => by
        rcases List.mem_cons.mp hp with rfl | hp
        · exact ⟨hlo, ⟨_, hl'⟩, hlst⟩
        · obtain ⟨j, h1, h2⟩ := hm p.1 p.2 hp
          obtain ⟨_, _, _, _, _, h3, _, h4, h5⟩ := ho j _ _ h1 h2
          exact ⟨h3, h4, h5⟩
      refine ⟨.ref l, _, I2, rfl, q l ts _ (I1.hok.fresh hlo) ?_ ?_ hlen fun j t hj => ?_⟩
      · refine layAll_ex hpw fun p hp => ?_
        rcases List.mem_cons.mp hp with rfl | hp
        · exact I1.hok.fresh hlo
        · obtain ⟨j, h1, h2⟩ := hm p.1 p.2 hp
          obtain ⟨_, _, _, _, _, h3, _⟩ := ho j _ _ h1 h2
          exact I1.hok.fresh h3
      · exact layAll_get hpw (by simp)
      · have hjl : j < objs.length := by
          rw [hol]
          exact (List.getElem?_eq_some_iff.mp hj).1
        obtain ⟨a, b, e1, e2, e3, _⟩ := ho j t objs[j] hj (List.getElem?_eq_getElem hjl)
        refine ⟨a, b, e1, e2, layAll_get hpw (List.mem_cons_of_mem _ ?_)⟩
        rw [← e3]
        exact List.mem_of_getElem? (List.getElem?_zip_eq_some.mpr ⟨hj, List.getElem?_eq_getElem hjl⟩)
    · intro v s2 q2
      exact PySem.Calls.spliced_nil q2
end Gd
namespace Gd
open PySem PySem.Spec PyProof.Rows L2
/-- the law's own turn of an item -/
def spTurn (O : HO → Prop) : Sp := fun vs H Q _ => ∃ v d, vs = [v] ∧ DV O H v d ∧
  ((∃ z, d = .str z ∧ pieceB z = true ∧ ∀ H', Ex H H' → Q (.str (turnS z)) H') ∨
   (∃ z b, d = .tup [.str z, .bl b] ∧ ∀ p G, Ex H G → H p = none → G p = none → Q (.ref p) (upd G p (.tup [.str z, .bl (!b)]))))
end Gd
namespace Gd
open PySem PySem.Spec PyProof.Rows L2
/-- a loop over a text's signs -/
theorem for_txt {z : Str} {g : TG} {tb : TS} {D : Ends} {σ : L2.St} {H : Hp} (Pv : Nat → L2.St → Hp → Prop)
    (h0 : Pv 0 σ H)
    (hs : ∀ i c σ H, z.cps.toList[i]? = some c → Pv i σ H → g (.str (one c)) σ H fun σ2 H2 => tb { D with nx := Pv (i + 1), ct := Pv (i + 1), bk := D.nx } σ2 H2)
    (hd : ∀ σ H, Pv z.cps.toList.length σ H → D.nx σ H) :
    ∃ W : Nat → Nat → L2.St → Hp → Prop, (∃ m, W 0 m σ H) ∧ ∀ i m σ H, W i m σ H →
      ((Its z).stop i H ∧ D.nx σ H) ∨ ((Its z).go i H ∧ ∃ N : L2.St → Hp → Prop, (∀ σ' H', N σ' H' → ∃ m', m' < m ∧ W (i + 1) m' σ' H') ∧
        ∀ x H', (Its z).yld i H x H' → g x σ H' fun σ2 H2 => tb { D with nx := N, ct := N, bk := D.nx } σ2 H2) := by
  have hl : z.cps.size = z.cps.toList.length := by simp
  refine ⟨fun i m σ H => m = z.cps.size - i ∧ i ≤ z.cps.size ∧ Pv i σ H, ⟨z.cps.size, by simp, Nat.zero_le _, h0⟩, ?_⟩
  intro i m σ H ⟨e, hi, p⟩
  subst e
  by_cases hlt : i < z.cps.size
  · refine Or.inr ⟨hlt, Pv (i + 1), fun σ' H' p' => ⟨z.cps.size - (i + 1), by omega, rfl, hlt, p'⟩, ?_⟩
    intro x H' ⟨e1, c, e2, e3⟩
    subst e1 e3
    exact hs i c σ H' (by simpa using e2) p
  · have e : i = z.cps.size := by omega
    subst e
    exact Or.inl ⟨Nat.le_refl _, hd σ H (by rw [← hl]; exact p)⟩
/-- the table of a text's signs and another's -/
def ABC : Str := Txt.upper abc
def lzK (x y : Str) : List (Key × V) := List.zipWith (fun a b => (Sum.inr (one a), V.str (one b))) x.cps.toList y.cps.toList
def tbl : List (Key × V) := mergeK [] (lzK abc ABC ++ lzK ABC abc)
theorem tbl_at : ∀ c < 128, letB c = true → valV tbl (Sum.inr (one c)) = some (V.str (one (swC c))) := by decide +kernel
theorem paired_of {α β : Type} {R : α → β → Prop} : ∀ {xs : List α} {ys : List β}, xs.length = ys.length → (∀ (j : Nat) (a : α) (b : β), xs[j]? = some a → ys[j]? = some b → R a b) → Paired R xs ys
  | [], [], _, _ => .nil
  | x :: xs, y :: ys, h, g => .cons (g 0 x y rfl rfl) (paired_of (by simpa using h) fun j a b h1 h2 => g (j + 1) a b (by simpa using h1) (by simpa using h2))
theorem paired_app {α β : Type} {R : α → β → Prop} : ∀ {xs xs2 : List α} {ys ys2 : List β}, Paired R xs ys → Paired R xs2 ys2 → Paired R (xs ++ xs2) (ys ++ ys2)
  | _, _, _, _, .nil, s => s
  | _, _, _, _, .cons h r, s => .cons h (paired_app r s)
theorem lzK_paired {K : PySem.W.Frag} {H H' : Hp} {x y : Str} {ts : List Addr} (e : Ex H' H) (hxy : x.cps.size = y.cps.size) (hl : ts.length = x.cps.size)
    (g : ∀ (j : Nat) (t : Addr), ts[j]? = some t → ∃ a b, x.cps[j]? = some a ∧ y.cps[j]? = some b ∧ H' t = some (.tup [.str (one a), .str (one b)])) :
    Paired (fun p (kv : Key × V) => SqT K H p [kV kv.1, kv.2]) ts (lzK x y) := by
  refine paired_of (by unfold lzK; rw [List.length_zipWith, hl]; simp; omega) fun j t kv h1 h2 => ?_
  obtain ⟨a, b, e1, e2, e3⟩ := g j t h1
  unfold lzK at h2
  rw [List.getElem?_zipWith, Array.getElem?_toList, Array.getElem?_toList, e1, e2] at h2
  have h2 : some ((Sum.inr (one a), V.str (one b)) : Key × V) = some kv := h2
  have := Option.some.inj h2
  subst this
  exact SqT.of (e _ _ e3)
theorem turn_take {z : Str} {i c : Nat} (h : z.cps.toList[i]? = some c) : one (swC c) ++ turnS ⟨(z.cps.toList.take i).toArray⟩ = turnS ⟨(z.cps.toList.take (i + 1)).toArray⟩ := by
  apply str_ext
  rw [str_app_list, turnS_list, turnS_list, one_list, List.take_add_one, h]
  simp
end Gd
/-! Rows as plain data: shown, compared. -/
namespace Gd
open PySem PySem.Spec PyProof.Rows L2
def itemP : D → PyData
  | .str z => .str z
  | .tup [.str z, .bl b] => .tuple [.str z, .bool b]
  | _ => .none
/-- an item of a row, its text of at most L signs -/
def It (L : Nat) (d : D) : Prop := (∃ z, d = .str z ∧ okS z = true ∧ z.length ≤ L) ∨ (∃ z b, d = .tup [.str z, .bl b] ∧ okS z = true ∧ z.length ≤ L)
theorem okS_strOk {z : Str} (h : okS z = true) : PyData.strOk z = true := by
  unfold PyData.strOk
  rw [Array.all_eq_true]
  intro i hi
  have := okS_asc h z.cps[i] (by simp)
  exact decide_eq_true (by omega)
structure RowP (L : Nat) (xs : List PyData) (n : Nat) : Prop where
  sh : PyData.showableAll xs = true
  hd : PyData.hasDictAll xs = false
  dp : PyData.depthAll xs ≤ 1
  cl : PyData.canLayAll0 xs = true
  wt : PyData.weightAll xs ≤ n * (L + 3)
  is : PyData.intsShortAll 13 xs = true
  eq : PyData.eqvAll xs xs = true
theorem rowP {L : Nat} : ∀ {ds : List D}, (∀ d ∈ ds, It L d) → RowP L (ds.map itemP) ds.length
  | [], _ => ⟨by simp [PyData.showableAll], by simp [PyData.hasDictAll], by simp [PyData.depthAll], by simp [PyData.canLayAll0], by simp [PyData.weightAll], by simp [PyData.intsShortAll], by simp [PyData.eqvAll]⟩
  | d :: ds, h => by
    have r := rowP (ds := ds) fun x hx => h x (by simp [hx])
    obtain ⟨r1, r2, r3, r4, r5, r6, r7⟩ := r
    rcases h d (by simp) with ⟨z, rfl, hz, hl⟩ | ⟨z, b, rfl, hz, hl⟩
    · have hs := okS_strOk hz
      have hl' : z.cps.size ≤ L := hl
      refine ⟨?_, ?_, ?_, ?_, ?_, ?_, ?_⟩
      · simp [itemP, PyData.showableAll, PyData.showable, r1]
      · simp [itemP, PyData.hasDictAll, PyData.hasDict, r2]
      · simp [itemP, PyData.depthAll, PyData.depth, r3]
      · simp [itemP, PyData.canLayAll0, PyData.canLay0, r4, hs]
      · simp only [List.map_cons, itemP, PyData.weightAll, PyData.weight, List.length_cons]
        rw [Nat.add_mul]
        omega
      · simp [itemP, PyData.intsShortAll, PyData.intsShort, r6]
      · simp [itemP, PyData.eqvAll, PyData.eqv, r7]
    · have hs := okS_strOk hz
      have hl' : z.cps.size ≤ L := hl
      refine ⟨?_, ?_, ?_, ?_, ?_, ?_, ?_⟩
      · simp [itemP, PyData.showableAll, PyData.showable, r1]
      · simp [itemP, PyData.hasDictAll, PyData.hasDict, r2]
      · simp [itemP, PyData.depthAll, PyData.depth, r3]
      · simp [itemP, PyData.canLayAll0, PyData.canLay0, r4, hs]
      · simp only [List.map_cons, itemP, PyData.weightAll, PyData.weight, List.length_cons]
        rw [Nat.add_mul]
        omega
      · simp [itemP, PyData.intsShortAll, PyData.intsShort, r6]
      · simp [itemP, PyData.eqvAll, PyData.eqv, r7]
theorem row_dp {K : PySem.W.Frag} {O : HO → Prop} {H : Hp} {L : Nat} : ∀ {vs : List V} {ds : List D}, DVs O H vs ds → (∀ d ∈ ds, It L d) → DpAll K H vs (ds.map itemP)
  | [], [], .nil, _ => .nil
  | _ :: _, d :: _, .cons h r, hi => by
    refine .cons ?_ (row_dp r fun x hx => hi x (by simp [hx]))
    rcases hi d (by simp) with ⟨z, rfl, _, _⟩ | ⟨z, b, rfl, _, _⟩
    · obtain ⟨rfl, _⟩ := str_val h
      exact .str z
    · obtain ⟨t, rfl, ht⟩ := mark_val h
      exact .tup (SqT.of ht) (.cons (.str z) (.cons (.bl b) .nil))
section
variable {L n : Nat} {xs : List PyData}
theorem RowP.list (r : RowP L xs n) (h : n * (L + 3) ≤ 2 ^ 20) : PyData.showable (.list xs) = true ∧ PyData.hasDict (.list xs) = false ∧ PyData.depth (.list xs) ≤ 64 ∧ (PyData.shown (.list xs)).length ≤ sizeLine ∧ SeqAt.shaped (.list xs) = true ∧ PyData.eqv (.list xs) (.list xs) = true := by
  have h1 := r.dp
  have h2 := r.wt
  have d1 : PyData.depth (.list xs) ≤ 64 := by simp only [PyData.depth]; omega
  have c1 : PyData.canLay0 (.list xs) = true := by simp only [PyData.canLay0]; exact r.cl
  refine ⟨by simp only [PyData.showable]; exact r.sh, by simp only [PyData.hasDict]; exact r.hd, d1, ?_, ?_, by simp only [PyData.eqv]; exact r.eq⟩
  · refine PyData.shown_fits_of_layable0 (B := 13) (by decide) (by decide) ?_ (by simp only [PyData.intsShort]; exact r.is)
    unfold PyData.layable0
    rw [c1, decide_eq_true d1, decide_eq_true (by simp only [PyData.weight]; omega)]
    rfl
  · unfold SeqAt.shaped
    rw [c1, decide_eq_true d1]
    rfl
end
theorem good_it {ds : List D} (h : Good ds) : ∀ d ∈ ds, It 40 d := by
  intro d hd
  obtain ⟨i, hi⟩ := List.getElem?_of_mem hd
  have hf := misfit_get h.fit hi
  rcases fits_cases hf with ⟨_, z, rfl, hz⟩ | ⟨_, z, b, rfl, hz⟩
  · have hl := h.sm z hd
    exact .inl ⟨z, rfl, pieceB_ok hz (by omega), hl⟩
  · exact .inr ⟨z, b, rfl, nameB_ok hz, by have := (nameB_list hz).2.2; omega⟩
theorem flip_it {L : Nat} {ds : List D} (hm : misfit 0 ds = none) (h : ∀ d ∈ ds, It L d) : ∀ d ∈ flipD ds, It L d := by
  intro d hd
  unfold flipD at hd
  rw [List.mem_reverse, List.mem_map] at hd
  obtain ⟨x, hx, rfl⟩ := hd
  obtain ⟨i, hi⟩ := List.getElem?_of_mem hx
  have hf := misfit_get hm hi
  rcases fits_cases hf with ⟨_, z, rfl, hz⟩ | ⟨_, z, b, rfl, hz⟩
  · rcases h _ hx with ⟨y, e, _, hl⟩ | ⟨y, b, e, _, _⟩
    · cases e
      exact .inl ⟨turnS z, rfl, pieceB_ok (turnS_piece hz) (by rw [turnS_len]; have := okS_len ‹okS z = true›; omega), by rw [turnS_len]; exact hl⟩
    · cases e
  · rcases h _ hx with ⟨y, e, _, hl⟩ | ⟨y, c, e, h1, h2⟩
    · cases e
    · cases e
      exact .inr ⟨z, !b, rfl, h1, h2⟩
/-- the law's word on one row -/
def spRight (O : HO → Prop) : Sp := fun vs H Q _ => ∃ v w ds, vs = [v, w] ∧ DV O H v (.lst ds) ∧ (DV O H w (.lst ds) ∨ DV O H w (.tup ds)) ∧ misfit 0 ds = none ∧ ds.length % 2 = 1 ∧ (∀ d ∈ ds, It 40 d) ∧ ds.length ≤ 100 ∧
  ∀ H', Ex H H' → Q (.bl true) H'
end Gd
/-! Rows put together. -/
namespace Gd
open PySem PySem.Spec PyProof.Rows L2
theorem misfit_shift {ds : List D} {k : Nat} (h : misfit 0 ds = none) (hk : k % 2 = 0) : misfit k ds = none := by
  refine misfit_of fun i d e => ?_
  have h1 := misfit_get h e
  unfold fits at h1 ⊢
  have : (0 + i) % 2 = (k + i) % 2 := by omega
  rw [this] at h1
  exact h1
theorem misfit_two {xs ys : List D} {k : Nat} (h : misfit k xs = none) (h2 : misfit (k + xs.length) ys = none) : misfit k (xs ++ ys) = none := by
  refine misfit_of fun i d e => ?_
  rw [List.getElem?_append] at e
  split at e
  · exact misfit_get h e
  · rename_i hi
    have := misfit_get h2 e
    rwa [show k + xs.length + (i - xs.length) = k + i by omega] at this
theorem flipD_app (xs ys : List D) : flipD (xs ++ ys) = flipD ys ++ flipD xs := by simp [flipD]
theorem abcd_at : ∀ n < 4, nameB (cutS "abcd" none (some (1 + ((n : Nat) : Int)))) = true := by decide +kernel
theorem piece_mul {z : Str} {n : Int} (h : pieceB z = true) : pieceB (mulS z n) = true := by
  refine pieceB_of fun c hc => ?_
  rw [mul_list] at hc
  obtain ⟨l, hl, hc⟩ := List.mem_flatten.mp hc
  rw [(List.mem_replicate.mp hl).2] at hc
  exact pieceB_list h c hc
theorem piece_app {x y : Str} (hx : pieceB x = true) (hy : pieceB y = true) : pieceB (x ++ y) = true := by
  refine pieceB_of fun c hc => ?_
  rw [str_app_list, List.mem_append] at hc
  rcases hc with h | h
  · exact pieceB_list hx c h
  · exact pieceB_list hy c h
theorem str_shaped {z : Str} (h : okS z = true) : SeqAt.shaped (.str z) = true ∧ PyData.eqv (.str z) (.str z) = true := by
  have := okS_strOk h
  constructor
  · simp [SeqAt.shaped, PyData.canLay0, PyData.depth, this]
  · simp [PyData.eqv]
/-- what is known of a drawn row -/
structure RowAt (O : HO → Prop) (G : Hp) (v : V) (o : Addr) (vs : List V) (ds : List D) : Prop where
  v : v = .ref o
  at' : G o = some (.lst vs)
  dv : DVs O G vs ds
  gd : Good ds
  odd : ds.length % 2 = 1
  le : ds.length ≤ 25
theorem rowAt {O : HO → Prop} {G : Hp} {v : V} {ds : List D} {n : Nat} (h : DV O G v (.lst ds)) (g : Good ds) (l : ds.length = 2 * n + 1) (hn : n ≤ 12) : ∃ o vs, RowAt O G v o vs ds := by
  cases h with
  | lst ha hd hl => exact ⟨_, _, rfl, ha, hd, g, by omega, by omega⟩
theorem RowAt.ex {O : HO → Prop} {G G' : Hp} {v : V} {o : Addr} {vs : List V} {ds : List D} (r : RowAt O G v o vs ds) (e : Ex G G') : RowAt O G' v o vs ds :=
  ⟨r.v, e _ _ r.at', DVs.ex e _ _ r.dv, r.gd, r.odd, r.le⟩
theorem RowAt.lst {O : HO → Prop} {G : Hp} {v : V} {o : Addr} {vs : List V} {ds : List D} (r : RowAt O G v o vs ds) : DV O G v (.lst ds) := by
  rw [r.v]
  exact .lst r.at' r.dv (by rw [r.dv.length]; have := r.le; omega)
theorem RowAt.len {O : HO → Prop} {G : Hp} {v : V} {o : Addr} {vs : List V} {ds : List D} (r : RowAt O G v o vs ds) : vs.length ≤ 25 := by rw [r.dv.length]; exact r.le
end Gd
/-! Every other item of a tuple. -/
namespace Gd
open PySem PySem.Spec PyProof.Rows L2 Builtin
theorem places_two (a n : Nat) (h : a ≤ n) : Slice.slicePlaces (a : Int) (n : Int) 2 = (n - a + 1) / 2 := by
  unfold Slice.slicePlaces
  rw [if_pos (by decide)]
  by_cases q : (a : Int) < n
  · rw [if_pos q]
    omega
  · rw [if_neg q]
    omega
theorem step_two (n : Nat) : stepIx n none none 2 = (List.range ((n + 1) / 2)).map fun k => k * 2 := by
  have e1 : Slice.sliceAdjust none none 2 (n : Int) = (((0 : Nat) : Int), (n : Int)) := rfl
  unfold stepIx
  rw [e1]
  simp only []
  rw [places_two 0 n (Nat.zero_le _)]
  apply List.map_congr_left
  intro k _
  omega
theorem step_odd (n : Nat) (h : 1 ≤ n) : stepIx n (some 1) none 2 = (List.range (n / 2)).map fun k => 1 + k * 2 := by
  have e1 : Slice.sliceAdjust (some 1) none 2 (n : Int) = (((1 : Nat) : Int), (n : Int)) := by
    unfold Slice.sliceAdjust
    simp
    omega
  unfold stepIx
  rw [e1]
  simp only []
  rw [places_two 1 n h, show n - 1 + 1 = n by omega]
  apply List.map_congr_left
  intro k _
  omega
theorem pick_two {α : Type} (xs : List α) : ((List.range ((xs.length + 1) / 2)).map fun k => k * 2).filterMap (xs[·]?) = evens xs := by
  rw [List.filterMap_map]
  have q := pick_evens xs []
  simpa [Function.comp_def] using q
theorem pick_odd {α : Type} (x : α) (r : List α) : ((List.range ((x :: r).length / 2)).map fun k => 1 + k * 2).filterMap ((x :: r)[·]?) = odds (x :: r) := by
  rw [List.filterMap_map, odds_eq]
  have q := pick_evens r [x]
  rw [List.drop_one, List.tail_cons, ← q]
  rfl
section
variable {X : Cx}
/-- t[::2] and t[1::2] of a tuple that is not empty -/
def rTwoT (K : PySem.W.Frag) : V → Option Int → Option Int → Option Int → Hp → VK → Prop := fun x lo hi st H Q =>
  ∃ a xs, x = .ref a ∧ SqT K H a xs ∧ 1 ≤ xs.length ∧ hi = none ∧ st = some 2 ∧
    ((lo = none ∧ ∀ p, H p = none → Q (.ref p) (upd H p (.tup (evens xs)))) ∨ (lo = some 1 ∧ ∀ p, H p = none → Q (.ref p) (upd H p (.tup (odds xs)))))
theorem vals_evens : ∀ {xs : List V} {us : List Value}, Vals xs us → Vals (evens xs) (evens us)
  | _, _, .nil => .nil
  | _, _, .cons h .nil => .cons h .nil
  | _, _, .cons h (.cons _ r) => .cons h (vals_evens r)
theorem vals_odds : ∀ {xs : List V} {us : List Value}, Vals xs us → Vals (odds xs) (odds us)
  | _, _, .nil => .nil
  | _, _, .cons _ .nil => .nil
  | _, _, .cons _ (.cons h r) => .cons h (vals_odds r)
theorem ss_twoT : SlS X (rTwoT X.K) := by
  intro pins s σ H x v vl vu vs lo hi st sl Q I rx hs pl pu ps h
  obtain ⟨a, xs, rfl, hx, hlen, rfl, rfl, q⟩ := h
  cases rx
  obtain ⟨its, r, ht, hz⟩ := I.tuple hx
  have hl := r.length
  refine ⟨"tuple", _, PyProof.Rows.slot_tuple_getitem.lookup, ht.typeIs, ?_⟩
  rcases q with ⟨rfl, q⟩ | ⟨rfl, q⟩
  · have e : (stepIx its.toArray.size none none 2).filterMap (its.toArray[·]?) = evens its := by
      rw [List.size_toArray, step_two]
      have := pick_two its
      simpa using this
    refine tup_step ht hs pl pu ps (by decide) (by decide) (by rw [e, evens_length]; omega) ?_
    rw [e]
    refine ⟨.ref s.heap.objs.size, _, I.laid (t' := s.toks) (o := .tup (evens xs)) (fun b ob q => Heap.get?_push_of_some _ q) (Nat.le_refl _) ?_, rfl, q _ (I.hok.fresh (Nat.le_refl _))⟩
    exact ⟨by show (evens xs).length ≤ sizeLine; rw [evens_length]; omega, _, vals_evens r, IsTup.new _ _⟩
  · have e : (stepIx its.toArray.size (some 1) none 2).filterMap (its.toArray[·]?) = odds its := by
      rw [List.size_toArray, step_odd _ (by omega)]
      cases its with
      | nil => exact absurd (show xs.length = 0 from hl) (by omega)
      | cons y ys =>
        have := pick_odd y ys
        simpa using this
    refine tup_step ht hs pl pu ps (by decide) (by decide) (by rw [e, odds_length]; omega) ?_
    rw [e]
    refine ⟨.ref s.heap.objs.size, _, I.laid (t' := s.toks) (o := .tup (odds xs)) (fun b ob q => Heap.get?_push_of_some _ q) (Nat.le_refl _) ?_, rfl, q _ (I.hok.fresh (Nat.le_refl _))⟩
    exact ⟨by show (odds xs).length ≤ sizeLine; rw [odds_length]; omega, _, vals_odds r, IsTup.new _ _⟩
end
end Gd
/-! list(range(a, b)). -/
namespace Gd
open PySem PySem.Spec PyProof.Rows L2 Builtin
theorem fits60 {a : Int} (h0 : -(2 ^ 60) ≤ a) (h1 : a ≤ 2 ^ 60) : Range.rangeFitsLong a = true := by
  unfold Range.rangeFitsLong
  simp
  omega
theorem call_list_rng {X : Cx} (hc : X.calm = true) : CallR X (.type "list") (fun xs H Q => ∃ r lo hi, xs = [.ref r] ∧ H r = some (.rng lo hi) ∧ -(2 ^ 50) ≤ lo ∧ hi ≤ 2 ^ 50 ∧ lo ≤ hi ∧ hi ≤ lo + 100000 ∧
    ∀ p, H p = none → Q (.ref p) (upd H p (.lst ((List.range (hi - lo).toNat).map fun i : Nat => V.int (lo + i))))) := by
  intro pins s σ H xs us Q I rv h
  obtain ⟨r, lo, hi, rfl, hH, h1, h2, h3, h4, q⟩ := h
  obtain ⟨u, rfl, ru⟩ := vals1 rv
  obtain rfl : u = Value.ref r := ru
  obtain ⟨t, u, v, hr⟩ := I.hok _ _ hH
  have hs : Range.rangeSize lo hi 1 = ((hi - lo).toNat : Nat) := by
    unfold Range.rangeSize
    rw [if_pos (by decide)]
    by_cases e : lo < hi
    · rw [if_pos e, Int.ediv_one]
      omega
    · rw [if_neg e]
      omega
  refine call_list_range (n := (hi - lo).toNat) (I.ok.hd hc) hr ?_ hs (by omega) fun h' tk acc c keep hl hit => ?_
  · unfold Range.small
    rw [hs, fits60 (by omega) (by omega), fits60 (by omega) (by omega), fits60 (by omega) (by omega), fits60 (by omega) (by omega), if_pos (by decide), fits60 (by omega) (by omega)]
    simp
  · refine ⟨.ref s.heap.objs.size, _, I.laid (t' := tk) (o := .lst ((List.range (hi - lo).toNat).map fun i : Nat => V.int (lo + i))) keep (Nat.le_refl _) ?_, rfl, q _ (I.hok.fresh (Nat.le_refl _))⟩
    refine ⟨?_, acc.toList, c, ?_, hl⟩
    · rw [List.length_map, List.length_range]
      exact le_line (by omega)
    · obtain ⟨e1, e2⟩ := hit
      refine paired_of (by rw [List.length_map, List.length_range, Array.length_toList, e1]) fun j a b ha hb => ?_
      obtain ⟨hj, rfl⟩ := range_get ha
      obtain ⟨t, e⟩ := e2 j b (by simpa using hb)
      rw [e]
      exact ⟨t, by rw [Int.mul_one]⟩
/-- range(n) -/
theorem cr_range1 {X : Cx} : CallR X (.type "range") (fun vs H Q => ∃ j, vs = [V.int j] ∧ ∀ p, H p = none → Q (.ref p) (upd H p (.rng 0 j))) := by
  intro pins s σ H vs us Q I r h
  obtain ⟨j, rfl, q⟩ := h
  obtain ⟨u, rfl, ru⟩ := vals1 r
  obtain ⟨t, rfl⟩ := ru
  refine PySem.call_range_1 ?_
  refine ⟨.ref s.heap.objs.size, _, I.laid (o := .rng 0 j) (fun b o e => Heap.get?_push_of_some _ e) (Nat.le_refl _) ⟨_, _, _, Heap.get?_push_size _ rfl⟩, rfl, q _ (I.hok.fresh (Nat.le_refl _))⟩
/-- whether a value is this text -/
def isTxt (z : Str) : Value → Bool
  | .str y _ => y == z
  | _ => false
theorem vals_strs : ∀ {zs : List Str} {us : List Value}, Vals (zs.map V.str) us → (∀ y ∈ us, ∃ a t, y = .str a t) ∧ ∀ z : Str, us.countP (isTxt z) = zs.count z
  | [], _, .nil => ⟨fun y h => by simp at h, fun z => rfl⟩
  | a :: zs, _, .cons ⟨t, h⟩ r => by
    obtain ⟨h1, h2⟩ := vals_strs r
    subst h
    refine ⟨fun y hy => ?_, fun z => ?_⟩
    · rcases List.mem_cons.mp hy with rfl | hy
      · exact ⟨a, t, rfl⟩
      · exact h1 y hy
    · rw [List.countP_cons, List.count_cons, h2 z]
      rfl
/-- l.count(s) of a list of texts -/
def rCntS (K : PySem.W.Frag) : V → List V → Hp → VK → Prop := fun x xs H Q => ∃ (p : Addr) (zs : List Str) (z : Str), x = .ref p ∧ xs = [.str z] ∧ SqL K H p (zs.map V.str) ∧ Q (.int ((zs.count z : Nat) : Int)) H
theorem mt_countS {X : Cx} : MtR X "list.count" (rCntS X.K) := by
  intro pins s σ H x xs v us Q I rx rxs h
  obtain ⟨p, zs, z, rfl, rfl, hs, q⟩ := h
  obtain rfl : v = Value.ref p := rx
  obtain ⟨u, rfl, ru⟩ := vals1 rxs
  obtain ⟨t, rfl⟩ := ru
  obtain ⟨its, rv, ⟨w, n, ho, hc, hdn, hd⟩, hz⟩ := I.list hs
  obtain ⟨cls, dd, data, sl⟩ := w
  dsimp only at hc hdn hd
  subst hc hd
  obtain ⟨h1, h2⟩ := vals_strs rv
  refine call_meets F.slot_list_count ⟨_, ho, rfl⟩ F.entry_list_count (F.args_list_count_2 _ _) (SeqAt.list_countAt p its.toArray n dd sl (.str z t) (isTxt z)) ⟨ho, fun y hy => ?_, ?_⟩
  · obtain ⟨a, t', rfl⟩ := h1 y (by simpa using hy)
    exact (PyProof.Rows.eqGives_str a z t' t).at _ _
  · have e : its.toArray.toList.countP (isTxt z) = zs.count z := by simpa using h2 z
    show EP X pins σ Q _ _
    rw [e]
    exact ⟨.int _, H, I.tok _, ⟨_, rfl⟩, q⟩
end Gd
/-! Rows by pieces and markers; markers taken out. -/
namespace Gd
open PySem PySem.Spec PyProof.Rows L2

abbrev Mk := Str × Bool
def mkD (m : Mk) : D := .tup [.str m.1, .bl m.2]
/-- markers with the piece behind each -/
def tlD : List (Mk × Str) → List D
  | [] => []
  | p :: r => mkD p.1 :: .str p.2 :: tlD r
def toD (z : Str) (l : List (Mk × Str)) : List D := .str z :: tlD l
theorem tlD_len : ∀ l : List (Mk × Str), (tlD l).length = 2 * l.length
  | [] => rfl
  | p :: r => by
    have := tlD_len r
    simp only [tlD, List.length_cons, this]
    omega
theorem toD_len (z : Str) (l : List (Mk × Str)) : (toD z l).length = 2 * l.length + 1 := by
  simp only [toD, List.length_cons, tlD_len]
theorem tlD_app : ∀ l r : List (Mk × Str), tlD (l ++ r) = tlD l ++ tlD r
  | [], _ => rfl
  | p :: l, r => by
    rw [List.cons_append]
    show mkD p.1 :: .str p.2 :: tlD (l ++ r) = mkD p.1 :: .str p.2 :: tlD l ++ tlD r
    rw [tlD_app l r]
    rfl
theorem tlD_get : ∀ {l : List (Mk × Str)} {k : Nat} {p : Mk × Str}, l[k]? = some p → (tlD l)[2 * k]? = some (mkD p.1) ∧ (tlD l)[2 * k + 1]? = some (.str p.2)
  | [], k, p, h => by simp at h
  | q :: r, 0, p, h => by
    simp only [List.getElem?_cons_zero, Option.some.injEq] at h
    subst h
    exact ⟨rfl, rfl⟩
  | q :: r, k + 1, p, h => by
    rw [List.getElem?_cons_succ] at h
    obtain ⟨a, b⟩ := tlD_get h
    refine ⟨?_, ?_⟩
    · rw [show 2 * (k + 1) = 2 * k + 1 + 1 by omega]
      exact a
    · rw [show 2 * (k + 1) + 1 = 2 * k + 1 + 1 + 1 by omega]
      exact b
/-- the k-th piece -/
def pcS (z : Str) (l : List (Mk × Str)) : Nat → Str
  | 0 => z
  | k + 1 => ((l[k]?).map (·.2)).getD Str.empty
theorem toD_pc {z : Str} {l : List (Mk × Str)} : ∀ {k : Nat}, k ≤ l.length → (toD z l)[2 * k]? = some (.str (pcS z l k))
  | 0, _ => rfl
  | k + 1, h => by
    have hk : k < l.length := h
    have e : l[k]? = some l[k] := List.getElem?_eq_getElem hk
    rw [show 2 * (k + 1) = 2 * k + 1 + 1 by omega]
    show (tlD l)[2 * k + 1]? = _
    rw [(tlD_get e).2]
    simp [pcS, e]
theorem toD_mk {z : Str} {l : List (Mk × Str)} {k : Nat} {p : Mk × Str} (h : l[k]? = some p) : (toD z l)[2 * k + 1]? = some (mkD p.1) := (tlD_get h).1
theorem pcS_next {z : Str} {l : List (Mk × Str)} {k : Nat} {p : Mk × Str} (h : l[k]? = some p) : pcS z l (k + 1) = p.2 := by simp [pcS, h]
/-- a good row -/
structure OkR (z : Str) (l : List (Mk × Str)) : Prop where
  pz : pieceB z = true
  pl : ∀ p ∈ l, nameB p.1.1 = true ∧ pieceB p.2 = true
theorem toD_of : ∀ (n : Nat) {ds : List D} {k : Nat}, ds.length = 2 * n + 1 → misfit k ds = none → k % 2 = 0 → ∃ z l, ds = toD z l ∧ OkR z l ∧ l.length = n
  | 0, ds, k, hl, hm, hk => by
    match ds, hl with
    | [d], _ =>
      have h0 := misfit_get hm (i := 0) (d := d) rfl
      rcases fits_cases h0 with ⟨_, z, rfl, hz⟩ | ⟨h, _⟩
      · exact ⟨z, [], rfl, ⟨hz, fun _ h => by simp at h⟩, rfl⟩
      · omega
  | n + 1, ds, k, hl, hm, hk => by
    match ds, hl, hm with
    | d :: e :: ds, hl, hm =>
      have h0 := misfit_get hm (i := 0) (d := d) rfl
      have h1 := misfit_get hm (i := 1) (d := e) rfl
      rcases fits_cases h0 with ⟨_, z, rfl, hz⟩ | ⟨h, _⟩
      · rcases fits_cases h1 with ⟨h, _⟩ | ⟨_, y, b, rfl, hy⟩
        · omega
        · have hm2 : misfit (k + 2) ds = none := by
            have e1 : misfit k (.str z :: .tup [.str y, .bl b] :: ds) = if fits k (.str z) = true then (if fits (k + 1) (.tup [.str y, .bl b]) = true then misfit (k + 2) ds else some (k + 1)) else some k := rfl
            rw [e1, if_pos (show fits k (.str z) = true from h0), if_pos h1] at hm
            exact hm
          obtain ⟨y2, l, rfl, o, hll⟩ := toD_of n (ds := ds) (k := k + 2) (by simp at hl; omega) hm2 (by omega)
          refine ⟨z, ((y, b), y2) :: l, rfl, ⟨hz, ?_⟩, by simp [hll]⟩
          intro p hp
          rcases List.mem_cons.mp hp with rfl | hp
          · exact ⟨hy, o.pz⟩
          · exact o.pl p hp
      · omega
theorem OkR.tl {z : Str} {l : List (Mk × Str)} (o : OkR z l) : misfit 1 (tlD l) = none := by
  apply misfit_of
  intro i d hd
  have hi : i < 2 * l.length := by
    have := (List.getElem?_eq_some_iff.mp hd).1
    rw [tlD_len] at this
    exact this
  have hk : i / 2 < l.length := by omega
  have e : l[i / 2]? = some l[i / 2] := List.getElem?_eq_getElem hk
  obtain ⟨a, b⟩ := tlD_get e
  obtain ⟨h1, h2⟩ := o.pl _ (List.getElem_mem hk)
  by_cases h : i % 2 = 0
  · rw [show i = 2 * (i / 2) by omega] at hd
    rw [a] at hd
    cases hd
    exact fits_odd (by omega) h1
  · rw [show i = 2 * (i / 2) + 1 by omega] at hd
    rw [b] at hd
    cases hd
    exact fits_even (by omega) h2
theorem OkR.fit {z : Str} {l : List (Mk × Str)} (o : OkR z l) : misfit 0 (toD z l) = none := by
  unfold toD misfit
  rw [if_pos (fits_even rfl o.pz)]
  exact o.tl
theorem OkR.row {z : Str} {l : List (Mk × Str)} (o : OkR z l) : isRow (.lst (toD z l)) = true ∧ isRow (.tup (toD z l)) = true := by
  have h : (decide ((toD z l).length % 2 = 1) && (misfit 0 (toD z l)).isNone) = true := by
    rw [o.fit, toD_len, decide_eq_true (by omega)]
    rfl
  exact ⟨h, h⟩
theorem odds_toD : ∀ (l : List (Mk × Str)) (d : D), odds (d :: tlD l) = l.map fun p => mkD p.1
  | [], d => rfl
  | p :: r, d => by
    show mkD p.1 :: odds (.str p.2 :: tlD r) = _
    rw [odds_toD r]
    rfl
/-- letters of all pieces -/
def tot (z : Str) (l : List (Mk × Str)) : Nat := z.length + (l.map (·.2.length)).sum
theorem tot_z {z : Str} {l : List (Mk × Str)} : z.length ≤ tot z l := Nat.le_add_right _ _
theorem tot_p {z : Str} : ∀ {l : List (Mk × Str)} {p : Mk × Str}, p ∈ l → p.2.length ≤ tot z l := by
  intro l p h
  have : p.2.length ≤ (l.map (·.2.length)).sum := by
    induction l with
    | nil => simp at h
    | cons q r ih =>
      rw [List.map_cons, List.sum_cons]
      rcases List.mem_cons.mp h with rfl | h
      · omega
      · have := ih h
        omega
  unfold tot
  omega
theorem OkR.it {z : Str} {l : List (Mk × Str)} {L : Nat} (o : OkR z l) (h : tot z l ≤ L) (hL : 4 ≤ L) (hL2 : L ≤ 100000) : ∀ d ∈ toD z l, It L d := by
  have aux : ∀ (l : List (Mk × Str)), (∀ p ∈ l, nameB p.1.1 = true ∧ pieceB p.2 = true ∧ p.2.length ≤ L) → ∀ d ∈ tlD l, It L d := by
    intro l
    induction l with
    | nil => intro _ d hd; simp [tlD] at hd
    | cons p r ih =>
      intro hp d hd
      obtain ⟨h1, h2, h3⟩ := hp p (by simp)
      rcases List.mem_cons.mp hd with rfl | hd
      · exact .inr ⟨p.1.1, p.1.2, rfl, nameB_ok h1, by have := (nameB_list h1).2.2; omega⟩
      · rcases List.mem_cons.mp hd with rfl | hd
        · exact .inl ⟨_, rfl, pieceB_ok h2 (by omega), h3⟩
        · exact ih (fun q hq => hp q (by simp [hq])) d hd
  intro d hd
  rcases List.mem_cons.mp hd with rfl | hd
  · have := @tot_z z l
    exact .inl ⟨_, rfl, pieceB_ok o.pz (by omega), by omega⟩
  · exact aux l (fun p hp => ⟨(o.pl p hp).1, (o.pl p hp).2, Nat.le_trans (tot_p hp) h⟩) d hd

/-! ### markers taken out -/
def mrg (g : Nat → Bool) : Nat → Str → List (Mk × Str) → Str × List (Mk × Str)
  | _, z, [] => (z, [])
  | i, z, (m, y) :: r => if g i = true then mrg g (i + 1) (z ++ y) r else (z, (m, (mrg g (i + 1) y r).1) :: (mrg g (i + 1) y r).2)
theorem app_assoc (x y z : Str) : x ++ y ++ z = x ++ (y ++ z) := by
  apply str_ext
  simp [str_app_list]
theorem mrg_acc (g : Nat → Bool) : ∀ (l : List (Mk × Str)) (i : Nat) (a b : Str), mrg g i (a ++ b) l = (a ++ (mrg g i b l).1, (mrg g i b l).2)
  | [], i, a, b => rfl
  | (m, y) :: r, i, a, b => by
    unfold mrg
    by_cases h : g i = true
    · rw [if_pos h, if_pos h, app_assoc]
      exact mrg_acc g r (i + 1) a (b ++ y)
    · rw [if_neg h, if_neg h]
theorem mrg_ok (g : Nat → Bool) : ∀ (l : List (Mk × Str)) (i : Nat) (z : Str), OkR z l → OkR (mrg g i z l).1 (mrg g i z l).2
  | [], _, _, o => o
  | (m, y) :: r, i, z, o => by
    obtain ⟨h1, h2⟩ := o.pl (m, y) (by simp)
    have hr : ∀ p ∈ r, nameB p.1.1 = true ∧ pieceB p.2 = true := fun p hp => o.pl p (by simp [hp])
    unfold mrg
    by_cases h : g i = true
    · rw [if_pos h]
      exact mrg_ok g r (i + 1) (z ++ y) ⟨piece_app o.pz h2, hr⟩
    · rw [if_neg h]
      have k := mrg_ok g r (i + 1) y ⟨h2, hr⟩
      refine ⟨o.pz, fun p hp => ?_⟩
      rcases List.mem_cons.mp hp with rfl | hp
      · exact ⟨h1, k.pz⟩
      · exact k.pl p hp
theorem mrg_tot (g : Nat → Bool) : ∀ (l : List (Mk × Str)) (i : Nat) (z : Str), tot (mrg g i z l).1 (mrg g i z l).2 = tot z l
  | [], _, _ => rfl
  | (m, y) :: r, i, z => by
    unfold mrg
    by_cases h : g i = true
    · rw [if_pos h, mrg_tot g r (i + 1) (z ++ y)]
      unfold tot
      rw [app_len, List.map_cons, List.sum_cons]
      show _ + _ + _ = _ + (y.length + _)
      omega
    · rw [if_neg h]
      have := mrg_tot g r (i + 1) y
      unfold tot at this ⊢
      rw [List.map_cons, List.sum_cons, List.map_cons, List.sum_cons]
      show _ + (Str.length _ + _) = _ + (Str.length _ + _)
      simp only at this ⊢
      omega
theorem mrg_len (g : Nat → Bool) : ∀ (l : List (Mk × Str)) (i : Nat) (z : Str), (mrg g i z l).2.length ≤ l.length
  | [], _, _ => Nat.le_refl _
  | (m, y) :: r, i, z => by
    unfold mrg
    by_cases h : g i = true
    · rw [if_pos h]
      have := mrg_len g r (i + 1) (z ++ y)
      simp only [List.length_cons]
      omega
    · rw [if_neg h]
      have := mrg_len g r (i + 1) y
      simp only [List.length_cons]
      omega
/-- which markers stay -/
theorem mrg_marks (g : Nat → Bool) : ∀ (l : List (Mk × Str)) (i : Nat) (z : Str), ((mrg g i z l).2.map (·.1)) = ((List.range l.length).filter fun k => !g (i + k)).filterMap fun k => (l[k]?).map (·.1)
  | [], _, _ => rfl
  | (m, y) :: r, i, z => by
    have e : List.range ((m, y) :: r).length = 0 :: (List.range r.length).map Nat.succ := by
      rw [List.length_cons, List.range_succ_eq_map]
    have f : (((List.range r.length).map Nat.succ).filter fun k => !g (i + k)).filterMap (fun k => (((m, y) :: r)[k]?).map (·.1)) = ((List.range r.length).filter fun k => !g (i + 1 + k)).filterMap fun k => (r[k]?).map (·.1) := by
      rw [List.filter_map, List.filterMap_map]
      have : ((fun k => !g (i + k)) ∘ Nat.succ) = fun k => !g (i + 1 + k) := by
        funext k
        show (!g (i + (k + 1))) = _
        rw [show i + (k + 1) = i + 1 + k by omega]
      rw [this]
      rfl
    rw [e]
    unfold mrg
    by_cases h : g i = true
    · rw [if_pos h, mrg_marks g r (i + 1) (z ++ y), List.filter_cons_of_neg (by simp [h]), f]
    · rw [if_neg h, List.filter_cons_of_pos (by simp [h]), List.filterMap_cons]
      simp only [List.getElem?_cons_zero, Option.map_some, List.map_cons]
      rw [mrg_marks g r (i + 1) y, f]
theorem mrg_none (g : Nat → Bool) : ∀ (l : List (Mk × Str)) (i : Nat) (z : Str), (∀ k, i ≤ k → k < i + l.length → g k = false) → mrg g i z l = (z, l)
  | [], _, _, _ => rfl
  | (m, y) :: r, i, z, h => by
    unfold mrg
    have h0 := h i (Nat.le_refl _) (by simp)
    rw [if_neg (by rw [h0]; decide), mrg_none g r (i + 1) y fun k a b => h k (by omega) (by simp; omega)]
theorem mrg_congr {g g' : Nat → Bool} : ∀ (l : List (Mk × Str)) (i : Nat) (z : Str), (∀ k, i ≤ k → k < i + l.length → g k = g' k) → mrg g i z l = mrg g' i z l
  | [], _, _, _ => rfl
  | (m, y) :: r, i, z, h => by
    unfold mrg
    have h0 := h i (Nat.le_refl _) (by simp)
    have h1 : ∀ k, i + 1 ≤ k → k < i + 1 + r.length → g k = g' k := fun k a b => h k (by omega) (by simp; omega)
    rw [h0, mrg_congr r (i + 1) (z ++ y) h1, mrg_congr r (i + 1) y h1]
end Gd
/-! Which markers of a row can't be used. -/
namespace Gd
open PySem PySem.Spec PyProof.Rows L2

/-- the numbers below i at which x stands -/
def occ (nm : List Str) (x : Str) (i : Nat) : List Nat := (List.range i).filter fun k => decide (nm[k]? = some x)
theorem occ_next (nm : List Str) (x : Str) (i : Nat) : occ nm x (i + 1) = occ nm x i ++ if nm[i]? = some x then [i] else [] := by
  unfold occ
  rw [List.range_succ, List.filter_append]
  congr 1
  by_cases h : nm[i]? = some x
  · rw [if_pos h, List.filter_cons_of_pos (by simp [h])]; rfl
  · rw [if_neg h, List.filter_cons_of_neg (by simp [h])]; rfl
theorem take_count {nm : List Str} {x : Str} {i : Nat} : (nm.take (i + 1)).count x = (nm.take i).count x + if nm[i]? = some x then 1 else 0 := by
  rw [List.take_add_one, List.count_append]
  congr 1
  cases h : nm[i]? with
  | none => simp
  | some y =>
    by_cases e : y = x
    · subst e; simp
    · rw [if_neg (by simpa using e)]
      simp [e]
theorem occ_len (nm : List Str) (x : Str) : ∀ i, (occ nm x i).length = (nm.take i).count x
  | 0 => by simp [occ]
  | i + 1 => by
    rw [occ_next, List.length_append, occ_len nm x i, take_count]
    by_cases h : nm[i]? = some x
    · rw [if_pos h, if_pos h]; rfl
    · rw [if_neg h, if_neg h]; rfl
theorem occ_mem {nm : List Str} {x : Str} {i k : Nat} : k ∈ occ nm x i ↔ k < i ∧ nm[k]? = some x := by
  unfold occ
  simp
theorem occ_drop {nm : List Str} {x : Str} : ∀ {i k : Nat}, k ∈ (occ nm x i).drop 2 ↔ k < i ∧ nm[k]? = some x ∧ 2 ≤ (occ nm x k).length
  | 0, k => by simp [occ]
  | i + 1, k => by
    rw [occ_next, List.drop_append, List.mem_append, occ_drop (i := i)]
    by_cases h : nm[i]? = some x
    · rw [if_pos h]
      constructor
      · rintro (⟨a, b, c⟩ | h2)
        · exact ⟨by omega, b, c⟩
        · have e : 2 ≤ (occ nm x i).length := by
            by_cases q : 2 ≤ (occ nm x i).length
            · exact q
            · exfalso
              have : [i].drop (2 - (occ nm x i).length) = [] := by
                apply List.drop_of_length_le
                simp
                omega
              rw [this] at h2
              simp at h2
          rw [show 2 - (occ nm x i).length = 0 by omega] at h2
          have : k = i := by simpa using h2
          subst this
          exact ⟨by omega, h, e⟩
      · rintro ⟨a, b, c⟩
        by_cases e : k = i
        · subst e
          right
          rw [show 2 - (occ nm x k).length = 0 by omega]
          simp
        · exact .inl ⟨by omega, b, c⟩
    · rw [if_neg h]
      constructor
      · rintro (⟨a, b, c⟩ | h2)
        · exact ⟨by omega, b, c⟩
        · simp at h2
      · rintro ⟨a, b, c⟩
        refine .inl ⟨?_, b, c⟩
        by_cases e : k = i
        · subst e; exact absurd b h
        · omega
/-- what clean_row takes out -/
def cleanG (nm : List Str) (k : Nat) : Bool := match nm[k]? with
  | some x => decide (1 < (nm.take k).count x) || decide (nm.count x = 1)
  | none => false
theorem cleanG_some {nm : List Str} {k : Nat} {x : Str} (h : nm[k]? = some x) : cleanG nm k = (decide (1 < (nm.take k).count x) || decide (nm.count x = 1)) := by
  unfold cleanG
  rw [h]
def sel (ns : List Nat) : List Nat := if ns.length = 1 then ns else ns.drop 2
theorem sel_mem {nm : List Str} {x : Str} {k : Nat} : k ∈ sel (occ nm x nm.length) ↔ k < nm.length ∧ nm[k]? = some x ∧ cleanG nm k = true := by
  have hl := occ_len nm x nm.length
  rw [List.take_length] at hl
  unfold sel
  by_cases h : (occ nm x nm.length).length = 1
  · rw [if_pos h, occ_mem]
    constructor
    · rintro ⟨a, b⟩
      refine ⟨a, b, ?_⟩
      rw [cleanG_some b, decide_eq_true (show nm.count x = 1 by omega), Bool.or_true]
    · rintro ⟨a, b, _⟩
      exact ⟨a, b⟩
  · rw [if_neg h, occ_drop]
    constructor
    · rintro ⟨a, b, c⟩
      rw [occ_len] at c
      refine ⟨a, b, ?_⟩
      rw [cleanG_some b, decide_eq_true (show 1 < (nm.take k).count x by omega), Bool.true_or]
    · rintro ⟨a, b, c⟩
      refine ⟨a, b, ?_⟩
      rw [cleanG_some b, decide_eq_false (show ¬ nm.count x = 1 by omega), Bool.or_false] at c
      have := of_decide_eq_true c
      rw [occ_len]
      omega
/-- the names of the markers that stay, of the first i -/
def keptN (nm : List Str) (i : Nat) : List Str := ((List.range i).filter fun k => !cleanG nm k).filterMap (nm[·]?)
theorem keptN_next (nm : List Str) (i : Nat) : keptN nm (i + 1) = keptN nm i ++ if cleanG nm i = true then [] else (nm[i]?).toList := by
  unfold keptN
  rw [List.range_succ, List.filter_append, List.filterMap_append]
  congr 1
  by_cases h : cleanG nm i = true
  · rw [if_pos h, List.filter_cons_of_neg (by simp [h])]; rfl
  · rw [if_neg h, List.filter_cons_of_pos (by simp [h])]
    show List.filterMap (fun k => nm[k]?) (i :: []) = _
    rw [List.filterMap_cons]
    cases nm[i]? <;> rfl
theorem keptN_count {nm : List Str} {x : Str} : ∀ {i : Nat}, i ≤ nm.length → (keptN nm i).count x = if nm.count x = 1 then 0 else min 2 ((nm.take i).count x)
  | 0, _ => by simp [keptN]
  | i + 1, hi => by
    rw [keptN_next, List.count_append, keptN_count (i := i) (by omega), take_count]
    obtain ⟨y, hy⟩ : ∃ y, nm[i]? = some y := ⟨_, List.getElem?_eq_getElem (show i < nm.length by omega)⟩
    rw [cleanG_some hy, hy]
    by_cases e : y = x
    · subst e
      rw [if_pos rfl]
      by_cases h1 : nm.count y = 1
      · rw [if_pos h1, decide_eq_true h1, Bool.or_true, if_pos rfl, if_pos h1]
        rfl
      · rw [if_neg h1, decide_eq_false h1, Bool.or_false, if_neg h1]
        by_cases h2 : 1 < (nm.take i).count y
        · rw [decide_eq_true h2, if_pos rfl]
          simp
          omega
        · rw [decide_eq_false h2, if_neg (by decide)]
          simp
          omega
    · rw [if_neg (show ¬ some y = some x by simpa using e)]
      have z : ∀ b : Bool, (if b = true then [] else (some y).toList).count x = 0 := by
        intro b
        cases b
        · simp [e]
        · rfl
      rw [z]
      simp
theorem keptN_clean (nm : List Str) (k : Nat) : cleanG (keptN nm nm.length) k = false := by
  generalize hm : keptN nm nm.length = nm'
  cases h : nm'[k]? with
  | none => unfold cleanG; rw [h]
  | some x =>
    rw [cleanG_some h]
    have hc : nm'.count x = if nm.count x = 1 then 0 else min 2 (nm.count x) := by
      rw [← hm, keptN_count (Nat.le_refl _), List.take_length]
    have h1 : (nm'.take k).count x + 1 ≤ nm'.count x := by
      have e := take_count (nm := nm') (x := x) (i := k)
      rw [if_pos h] at e
      rw [← e]
      exact List.Sublist.count_le _ (List.take_sublist _ _)
    have h2 : nm'.count x ≤ 2 ∧ nm'.count x ≠ 1 := by
      rw [hc]
      by_cases q : nm.count x = 1
      · rw [if_pos q]; omega
      · rw [if_neg q]; omega
    rw [decide_eq_false (by omega), decide_eq_false h2.2]
    rfl
def nmOf (l : List (Mk × Str)) : List Str := l.map (·.1.1)
/-- a cleaned row is clean -/
theorem clean_two (z : Str) (l : List (Mk × Str)) : mrg (cleanG (nmOf (mrg (cleanG (nmOf l)) 0 z l).2)) 0 (mrg (cleanG (nmOf l)) 0 z l).1 (mrg (cleanG (nmOf l)) 0 z l).2 = mrg (cleanG (nmOf l)) 0 z l := by
  have e : nmOf (mrg (cleanG (nmOf l)) 0 z l).2 = keptN (nmOf l) (nmOf l).length := by
    have h := mrg_marks (cleanG (nmOf l)) l 0 z
    have h2 := congrArg (List.map (·.1)) h
    rw [List.map_map] at h2
    have e3 : nmOf (mrg (cleanG (nmOf l)) 0 z l).2 = _ := h2
    rw [e3]
    unfold keptN
    rw [List.map_filterMap]
    have e1 : (nmOf l).length = l.length := by simp [nmOf]
    rw [e1]
    have e2 : (fun k => !cleanG (nmOf l) (0 + k)) = fun k => !cleanG (nmOf l) k := by
      funext k
      rw [Nat.zero_add]
    rw [e2]
    congr 1
    funext k
    simp [nmOf, List.getElem?_map, Option.map_map]
    rfl
  rw [e]
  apply mrg_none
  intro k _ _
  exact keptN_clean _ _
end Gd
/-! The numbers of the markers by their names, as a dict of lists. -/
namespace Gd
open PySem PySem.Spec PyProof.Rows L2

theorem cutV_from (xs : List V) (k : Nat) : cutV xs (some (k : Int)) none = xs.drop k := by
  unfold cutV
  rw [HT.sIx_nat, HT.sIx_none]
  by_cases h : k ≤ xs.length
  · rw [Nat.min_eq_left h]
    apply List.take_of_length_le
    simp
  · rw [Nat.min_eq_right (by omega), List.drop_length, List.drop_of_length_le (by omega)]
    simp
theorem cutV_to (xs : List V) (k : Nat) : cutV xs none (some (k : Int)) = xs.take k := by
  unfold cutV
  rw [HT.sIx_nat, HT.sIx_none, List.drop_zero, Nat.sub_zero]
  by_cases h : k ≤ xs.length
  · rw [Nat.min_eq_left h]
  · rw [Nat.min_eq_right (by omega), List.take_length, List.take_of_length_le (by omega)]
def intsV (ns : List Nat) : List V := ns.map fun (n : Nat) => V.int (n : Int)
/-- names in the order in which they first stand, of the first i -/
def fsts (nm : List Str) : Nat → List Str
  | 0 => []
  | i + 1 => match nm[i]? with
    | some x => if x ∈ fsts nm i then fsts nm i else fsts nm i ++ [x]
    | none => fsts nm i
theorem fsts_next {nm : List Str} {i : Nat} {x : Str} (h : nm[i]? = some x) : fsts nm (i + 1) = if x ∈ fsts nm i then fsts nm i else fsts nm i ++ [x] := by
  show (match nm[i]? with | some x => if x ∈ fsts nm i then fsts nm i else fsts nm i ++ [x] | none => fsts nm i) = _
  rw [h]
theorem take_mem {nm : List Str} {x y : Str} {i : Nat} (h : nm[i]? = some x) : y ∈ nm.take (i + 1) ↔ y ∈ nm.take i ∨ y = x := by
  rw [List.take_add_one, h]
  simp
theorem fsts_mem {nm : List Str} {y : Str} : ∀ {i : Nat}, y ∈ fsts nm i ↔ y ∈ nm.take i
  | 0 => by simp [fsts]
  | i + 1 => by
    cases h : nm[i]? with
    | none =>
      have e : fsts nm (i + 1) = fsts nm i := by
        show (match nm[i]? with | some x => if x ∈ fsts nm i then fsts nm i else fsts nm i ++ [x] | none => fsts nm i) = _
        rw [h]
      rw [e, fsts_mem, List.take_add_one, h]
      simp
    | some x =>
      rw [fsts_next h, take_mem h]
      by_cases hx : x ∈ fsts nm i
      · rw [if_pos hx, fsts_mem]
        constructor
        · exact .inl
        · rintro (h1 | rfl)
          · exact h1
          · exact fsts_mem.mp hx
      · rw [if_neg hx, List.mem_append, fsts_mem]
        simp
theorem fsts_nd {nm : List Str} : ∀ i : Nat, (fsts nm i).Nodup
  | 0 => .nil
  | i + 1 => by
    have ih := fsts_nd (nm := nm) i
    cases h : nm[i]? with
    | none =>
      have e : fsts nm (i + 1) = fsts nm i := by
        show (match nm[i]? with | some x => if x ∈ fsts nm i then fsts nm i else fsts nm i ++ [x] | none => fsts nm i) = _
        rw [h]
      rw [e]; exact ih
    | some x =>
      rw [fsts_next h]
      by_cases hx : x ∈ fsts nm i
      · rw [if_pos hx]; exact ih
      · rw [if_neg hx, List.nodup_append]
        refine ⟨ih, by simp, ?_⟩
        intro y hy z hz e
        have : z = x := by simpa using hz
        subst this
        subst e
        exact hx hy
structure PlcV (val : Nat → V) (G : Hp) (p : Addr) (H : Hp) (nm : List Str) (i : Nat) (kvs : List (Key × V)) : Prop where
  nd : (kvs.map (·.1)).Nodup
  at_ : ∀ k v, (k, v) ∈ kvs → ∃ (x : Str) (a : Addr), k = Sum.inr x ∧ v = .ref a ∧ G a = none ∧ a ≠ p ∧ H a = some (.lst ((occ nm x i).map val)) ∧ x ∈ nm.take i
  all : ∀ x ∈ nm.take i, ∃ v, ((Sum.inr x : Key), v) ∈ kvs
  inj : ∀ k k' v, (k, v) ∈ kvs → (k', v) ∈ kvs → k = k'
  len : kvs.length ≤ i
  keys : kvs.map (·.1) = (fsts nm i).map Sum.inr
abbrev Plc := PlcV fun (n : Nat) => V.int (n : Int)
theorem PlcV.nil {val : Nat → V} {G H : Hp} {p : Addr} {nm : List Str} : PlcV val G p H nm 0 [] :=
  ⟨.nil, fun _ _ h => by simp at h, fun _ h => by simp at h, fun _ _ _ h => by simp at h, Nat.le_refl _, rfl⟩
theorem PlcV.kp {val : Nat → V} {G H H' : Hp} {p : Addr} {nm : List Str} {i : Nat} {kvs : List (Key × V)} (P : PlcV val G p H nm i kvs) (k : Kp p H H') : PlcV val G p H' nm i kvs :=
  ⟨P.nd, fun q v h => by
    obtain ⟨x, a, h1, h2, h3, h4, h5, h6⟩ := P.at_ q v h
    exact ⟨x, a, h1, h2, h3, h4, k _ _ h4 h5, h6⟩, P.all, P.inj, P.len, P.keys⟩
theorem PlcV.free {val : Nat → V} {G H : Hp} {p u : Addr} {nm : List Str} {i : Nat} {kvs : List (Key × V)} {o : HO} (P : PlcV val G p H nm i kvs) (h : ∀ k, (k, V.ref u) ∉ kvs) : PlcV val G p (upd H u o) nm i kvs :=
  ⟨P.nd, fun q v hq => by
    obtain ⟨x, a, h1, h2, h3, h4, h5, h6⟩ := P.at_ q v hq
    subst h2
    exact ⟨x, a, h1, rfl, h3, h4, (upd_ne fun e => h _ (e ▸ hq)).trans h5, h6⟩, P.all, P.inj, P.len, P.keys⟩
/-- other values behind i -/
theorem PlcV.congr {val val' : Nat → V} {G H : Hp} {p : Addr} {nm : List Str} {i : Nat} {kvs : List (Key × V)} (P : PlcV val G p H nm i kvs) (h : ∀ k, k < i → val k = val' k) : PlcV val' G p H nm i kvs :=
  ⟨P.nd, fun q v hq => by
    obtain ⟨x, a, h1, h2, h3, h4, h5, h6⟩ := P.at_ q v hq
    refine ⟨x, a, h1, h2, h3, h4, ?_, h6⟩
    rw [h5]
    congr 2
    apply List.map_congr_left
    intro k hk
    exact h k (occ_mem.mp hk).1, P.all, P.inj, P.len, P.keys⟩
theorem valV_mem {kvs : List (Key × V)} {k : Key} {v : V} (h : valV kvs k = some v) : (k, v) ∈ kvs := by
  unfold valV at h
  obtain ⟨⟨k', v'⟩, hf, rfl⟩ := Option.map_eq_some_iff.mp h
  have h1 := List.mem_of_find?_eq_some hf
  have h2 : k' = k := by simpa using List.find?_some hf
  subst h2
  exact h1
theorem valV_no {kvs : List (Key × V)} {k : Key} (h : valV kvs k = none) : ∀ kv ∈ kvs, kv.1 ≠ k := by
  unfold valV at h
  rw [Option.map_eq_none_iff, List.find?_eq_none] at h
  intro kv hkv e
  exact h kv hkv (by simp [e])
theorem valV_in : ∀ {kvs : List (Key × V)} {k : Key} {v : V}, (kvs.map (·.1)).Nodup → (k, v) ∈ kvs → valV kvs k = some v
  | [], _, _, _, h => by simp at h
  | (k', v') :: r, k, v, nd, h => by
    rw [List.map_cons, List.nodup_cons] at nd
    rcases List.mem_cons.mp h with e | h
    · cases e
      exact valV_pos rfl
    · have : ¬ k' = k := fun e => nd.1 (by rw [List.mem_map]; exact ⟨_, h, e.symm⟩)
      rw [valV_neg this]
      exact valV_in nd.2 h
theorem put_new {kvs : List (Key × V)} {k : Key} {z : V} (h : valV kvs k = none) : putK kvs k z = kvs ++ [(k, z)] := by
  unfold putK
  rw [if_neg]
  rw [List.any_eq_true]
  rintro ⟨kv, hkv, e⟩
  exact valV_no h kv hkv (of_decide_eq_true e)
theorem occ_not {nm : List Str} {x y : Str} {i : Nat} (h : nm[i]? = some x) (e : y ≠ x) : occ nm y (i + 1) = occ nm y i := by
  rw [occ_next, if_neg]
  · simp
  · rw [h]; intro q; cases q; exact e rfl
theorem occ_yes {nm : List Str} {x : Str} {i : Nat} (h : nm[i]? = some x) : occ nm x (i + 1) = occ nm x i ++ [i] := by
  rw [occ_next, if_pos h]
theorem PlcV.old {val : Nat → V} {G H : Hp} {p a : Addr} {nm : List Str} {i : Nat} {kvs : List (Key × V)} {x : Str} (P : PlcV val G p H nm i kvs) (h : ((Sum.inr x : Key), V.ref a) ∈ kvs) (hx : nm[i]? = some x) :
    PlcV val G p (upd H a (.lst ((occ nm x i).map val ++ [val i]))) nm (i + 1) kvs := by
  refine ⟨P.nd, fun k v hk => ?_, fun y hy => ?_, P.inj, by have := P.len; omega, ?_⟩
  · obtain ⟨y, b, rfl, rfl, h3, h4, h5, h6⟩ := P.at_ k v hk
    refine ⟨y, b, rfl, rfl, h3, h4, ?_, (take_mem hx).mpr (.inl h6)⟩
    by_cases e : y = x
    · subst e
      have hb : b = a := by
        have h1 := valV_in P.nd hk
        have h2 := valV_in P.nd h
        rw [h1] at h2
        cases h2
        rfl
      subst hb
      rw [upd_same, occ_yes hx]
      simp
    · have hb : b ≠ a := by
        rintro rfl
        have := P.inj _ _ _ hk h
        cases this
        exact e rfl
      rw [upd_ne hb, occ_not hx e]
      exact h5
  · rcases (take_mem hx).mp hy with hy | rfl
    · exact P.all y hy
    · exact ⟨_, h⟩
  · have hm : x ∈ fsts nm i := by
      have : (Sum.inr x : Key) ∈ (fsts nm i).map Sum.inr := by
        rw [← P.keys]
        exact List.mem_map.mpr ⟨_, h, rfl⟩
      simpa using this
    rw [fsts_next hx, if_pos hm]
    exact P.keys
theorem PlcV.new {val : Nat → V} {G H : Hp} {p a : Addr} {nm : List Str} {i : Nat} {kvs : List (Key × V)} {x : Str} (P : PlcV val G p H nm i kvs) (hx : nm[i]? = some x) (hn : valV kvs (Sum.inr x) = none)
    (ga : G a = none) (ha : a ≠ p) (hf : H a = none) (H' : Hp) (k : Kp p H H') : PlcV val G p (upd H' a (.lst [val i])) nm (i + 1) (kvs ++ [(Sum.inr x, .ref a)]) := by
  have no := valV_no hn
  have oc : occ nm x i = [] := by
    have hx' : x ∉ nm.take i := fun h => by
      obtain ⟨v, hv⟩ := P.all x h
      exact no _ hv rfl
    have := occ_len nm x i
    rw [List.count_eq_zero.mpr hx'] at this
    exact List.eq_nil_of_length_eq_zero this
  have na : ∀ k, (k, V.ref a) ∉ kvs := fun k hk => by
    obtain ⟨y, b, _, e, _, _, h5, _⟩ := P.at_ _ _ hk
    cases e
    rw [hf] at h5
    cases h5
  refine ⟨?_, fun k v hk => ?_, fun y hy => ?_, fun k k' v h h' => ?_, by have := P.len; simp; omega, ?_⟩
  · rw [List.map_append, List.nodup_append]
    refine ⟨P.nd, by simp, ?_⟩
    intro k hk k' hk' e
    obtain ⟨kv, hkv, rfl⟩ := List.mem_map.mp hk
    have : k' = Sum.inr x := by simpa using hk'
    subst this
    exact no kv hkv e
  · rcases List.mem_append.mp hk with hk | hk
    · obtain ⟨y, b, rfl, rfl, h3, h4, h5, h6⟩ := P.at_ k v hk
      have e : y ≠ x := fun e => no _ hk (by rw [e])
      have hb : b ≠ a := fun q => na _ (q ▸ hk)
      refine ⟨y, b, rfl, rfl, h3, h4, ?_, (take_mem hx).mpr (.inl h6)⟩
      rw [upd_ne hb, occ_not hx e]
      exact k _ _ h4 h5
    · have e : (k, v) = (Sum.inr x, V.ref a) := by simpa using hk
      cases e
      refine ⟨x, a, rfl, rfl, ga, ha, ?_, (take_mem hx).mpr (.inr rfl)⟩
      rw [upd_same, occ_yes hx, oc]
      rfl
  · rcases (take_mem hx).mp hy with hy | rfl
    · obtain ⟨v, hv⟩ := P.all y hy
      exact ⟨v, by simp [hv]⟩
    · exact ⟨_, by simp; exact .inr rfl⟩
  · rcases List.mem_append.mp h with h | h
    · rcases List.mem_append.mp h' with h' | h'
      · exact P.inj _ _ _ h h'
      · have e : (k', v) = (Sum.inr x, V.ref a) := by simpa using h'
        cases e
        exact absurd h (na _)
    · have e : (k, v) = (Sum.inr x, V.ref a) := by simpa using h
      cases e
      rcases List.mem_append.mp h' with h' | h'
      · exact absurd h' (na _)
      · have e : (k', V.ref a) = (Sum.inr x, V.ref a) := by simpa using h'
        cases e
        rfl
  · have hm : x ∉ fsts nm i := fun h => by
      have : (Sum.inr x : Key) ∈ kvs.map (·.1) := by
        rw [P.keys]
        exact List.mem_map.mpr ⟨_, h, rfl⟩
      obtain ⟨kv, hkv, e⟩ := List.mem_map.mp this
      exact no kv hkv e
    rw [fsts_next hx, if_neg hm, List.map_append, P.keys, List.map_append]
    rfl
/-- what is taken out for the first j keys -/
def selK (nm : List Str) (k : Key) : List Nat := match k with
  | .inr x => sel (occ nm x nm.length)
  | .inl _ => []
def sels (nm : List Str) (kvs : List (Key × V)) (j : Nat) : List Nat := ((kvs.take j).map fun kv => selK nm kv.1).flatten
theorem sels_next {nm : List Str} {kvs : List (Key × V)} {j : Nat} {k : Key} {v : V} (h : kvs[j]? = some (k, v)) : sels nm kvs (j + 1) = sels nm kvs j ++ selK nm k := by
  unfold sels
  rw [List.take_add_one, h]
  simp
theorem sel_len {nm : List Str} {k : Key} : (selK nm k).length ≤ nm.length := by
  cases k with
  | inl _ => exact Nat.zero_le _
  | inr x =>
    have h1 : (occ nm x nm.length).length ≤ nm.length := by
      rw [occ_len]
      exact Nat.le_trans List.count_le_length (List.length_take_le _ _)
    show (sel _).length ≤ _
    unfold sel
    by_cases e : (occ nm x nm.length).length = 1
    · rw [if_pos e]; exact h1
    · rw [if_neg e, List.length_drop]; omega
theorem sels_len {nm : List Str} {kvs : List (Key × V)} : ∀ j, (sels nm kvs j).length ≤ j * nm.length
  | 0 => by simp [sels]
  | j + 1 => by
    cases h : kvs[j]? with
    | none =>
      have e : sels nm kvs (j + 1) = sels nm kvs j := by
        unfold sels
        rw [List.take_add_one, h]
        simp
      rw [e]
      have := sels_len (nm := nm) (kvs := kvs) j
      rw [Nat.add_mul]
      omega
    | some kv =>
      obtain ⟨k, v⟩ := kv
      rw [sels_next h, List.length_append]
      have := sels_len (nm := nm) (kvs := kvs) j
      have := @sel_len nm k
      rw [Nat.add_mul]
      omega
theorem PlcV.sels {val : Nat → V} {G H : Hp} {p : Addr} {nm : List Str} {kvs : List (Key × V)} (P : PlcV val G p H nm nm.length kvs) (k : Nat) : k ∈ sels nm kvs kvs.length ↔ (k < nm.length ∧ cleanG nm k = true) := by
  unfold Gd.sels
  rw [List.take_length, List.mem_flatten]
  constructor
  · rintro ⟨ns, h1, h2⟩
    obtain ⟨⟨q, v⟩, hkv, rfl⟩ := List.mem_map.mp h1
    obtain ⟨x, a, rfl, _⟩ := P.at_ q v hkv
    obtain ⟨a, _, c⟩ := sel_mem.mp h2
    exact ⟨a, c⟩
  · rintro ⟨a, c⟩
    obtain ⟨x, hx⟩ : ∃ x, nm[k]? = some x := ⟨_, List.getElem?_eq_getElem a⟩
    obtain ⟨v, hv⟩ := P.all x (by rw [List.take_length]; exact List.mem_of_getElem? hx)
    exact ⟨_, List.mem_map.mpr ⟨_, hv, rfl⟩, sel_mem.mpr ⟨a, hx, c⟩⟩
/-- a new list of values that stood before -/
def NewL (O : HO → Prop) (G H : Hp) (ds : List D) (Q : VK) : Prop := ∀ p vs H', Ex H H' → H p = none → H' p = some (.lst vs) → DVs O G vs ds → Q (.ref p) H'
theorem isInt_int {d : D} {lo hi : Int} (h : isInt d lo hi = true) : ∃ i, d = .int i ∧ lo ≤ i ∧ i ≤ hi := by
  cases d with
  | int i =>
    have h' : (decide (lo ≤ i) && decide (i ≤ hi)) = true := h
    rw [Bool.and_eq_true] at h'
    exact ⟨i, rfl, of_decide_eq_true h'.1, of_decide_eq_true h'.2⟩
  | _ => cases h
theorem pcS_ok {z : Str} {l : List (Mk × Str)} (o : OkR z l) {k : Nat} (hk : k ≤ l.length) : pieceB (pcS z l k) = true := by
  cases k with
  | zero => exact o.pz
  | succ k =>
    have e : l[k]? = some l[k] := List.getElem?_eq_getElem hk
    rw [pcS_next e]
    exact (o.pl _ (List.getElem_mem hk)).2
theorem drop_get {α : Type} {l : List α} {i : Nat} {p : α} (h : l[i]? = some p) : l.drop i = p :: l.drop (i + 1) := by
  obtain ⟨hi, rfl⟩ := List.getElem?_eq_some_iff.mp h
  exact List.drop_eq_getElem_cons hi
theorem join_snoc (ys : List Str) (y : Str) : Txt.join "" (ys ++ [y]) = Txt.join "" ys ++ y := by
  apply str_ext
  rw [join_empty_list, str_app_list, join_empty_list]
  simp
theorem join_nil : Txt.join "" ([] : List Str) = Str.empty := rfl
theorem join_sum (ys : List Str) : (Txt.join "" ys).length = (ys.map (·.length)).sum := by
  rw [Gd.len_list, join_empty_list, List.length_flatten, List.map_map]
  congr 1
theorem lt_200 {n : Nat} (h : n ≤ 200) : n < sizeLine := Nat.lt_of_le_of_lt h (by decide)
theorem join_single (y : Str) : Txt.join "" [y] = y := by
  apply str_ext
  rw [join_empty_list]
  simp
theorem tot_sum {z : Str} {l : List (Mk × Str)} {ns : List Str} (h : tot (Txt.join "" ns) l ≤ 50000) : (ns.map (·.length)).sum + ns.length * ("" : Str).length ≤ 16777216 := by
  rw [← join_sum]
  have := @tot_z (Txt.join "" ns) l
  have e : ("" : Str).length = 0 := rfl
  rw [e]
  omega
theorem mrg_bound (g : Nat → Bool) : ∀ (l : List (Mk × Str)) (i : Nat) (z : Str), tot (mrg g i z l).1 (mrg g i z l).2 = tot z l := fun l i z => mrg_tot g l i z
theorem mrg_no {g : Nat → Bool} {i : Nat} {z : Str} {p : Mk × Str} {r : List (Mk × Str)} (h : g i = false) : mrg g i z (p :: r) = (z, (p.1, (mrg g (i + 1) p.2 r).1) :: (mrg g (i + 1) p.2 r).2) := by
  obtain ⟨m, y⟩ := p
  have e : mrg g i z ((m, y) :: r) = if g i = true then mrg g (i + 1) (z ++ y) r else (z, (m, (mrg g (i + 1) y r).1) :: (mrg g (i + 1) y r).2) := rfl
  rw [e, if_neg (by rw [h]; decide)]
theorem mrg_yes {g : Nat → Bool} {i : Nat} {z : Str} {p : Mk × Str} {r : List (Mk × Str)} (h : g i = true) : mrg g i z (p :: r) = mrg g (i + 1) (z ++ p.2) r := by
  obtain ⟨m, y⟩ := p
  have e : mrg g i z ((m, y) :: r) = if g i = true then mrg g (i + 1) (z ++ y) r else (z, (m, (mrg g (i + 1) y r).1) :: (mrg g (i + 1) y r).2) := rfl
  rw [e, if_pos h]
theorem ints_dvs {O : HO → Prop} {H : Hp} (ks : List Nat) : DVs O H (ks.map fun (k : Nat) => V.int (k : Int)) (ks.map fun (k : Nat) => D.int (k : Int)) := by
  induction ks with
  | nil => exact .nil
  | cons k r ih => exact .cons (.int _) ih
theorem set_range {n j : Nat} {f f' : Nat → V} (h : ∀ k, k < n → k ≠ j → f k = f' k) (hj : f' j = v) (hn : j < n) : ((List.range n).map f).set j v = (List.range n).map f' := by
  apply List.ext_getElem
  · simp
  · intro i h1 h2
    have hi : i < n := by simpa using h2
    rw [List.getElem_set]
    by_cases e : j = i
    · subst e
      rw [if_pos rfl]
      simp [hj]
    · rw [if_neg e]
      simp
      exact h i hi (fun q => e q.symm)
theorem dvs_odds {O : HO → Prop} {H : Hp} : ∀ {vs : List V} {ds : List D}, DVs O H vs ds → DVs O H (odds vs) (odds ds)
  | [], [], .nil => .nil
  | [_], [_], .cons _ .nil => .nil
  | _ :: _ :: _, _ :: _ :: _, .cons _ (.cons h r) => .cons h (dvs_odds r)
theorem toD_take {z : Str} {l : List (Mk × Str)} {k : Nat} {p : Mk × Str} (h : l[k]? = some p) : (toD z l).take (2 * (k + 1)) = (toD z l).take (2 * k) ++ [.str (pcS z l k), mkD p.1] := by
  have hk := (List.getElem?_eq_some_iff.mp h).1
  rw [show 2 * (k + 1) = 2 * k + 1 + 1 by omega, List.take_add_one, List.take_add_one, toD_pc (by omega), toD_mk h]
  simp
theorem dvs_split {O : HO → Prop} {H : Hp} : ∀ {d1 d2 : List D} {vs : List V}, DVs O H vs (d1 ++ d2) → ∃ v1 v2, vs = v1 ++ v2 ∧ DVs O H v1 d1 ∧ DVs O H v2 d2
  | [], d2, vs, h => ⟨[], vs, rfl, .nil, h⟩
  | d :: r, d2, _, .cons (v := v) h t => by
    obtain ⟨v1, v2, rfl, h1, h2⟩ := dvs_split t
    exact ⟨v :: v1, v2, rfl, .cons h h1, h2⟩
theorem in_ints {k : Nat} {ks : List Nat} : inV (.int (k : Int)) (intsV ks) = decide (k ∈ ks) := by
  unfold inV intsV
  rw [List.any_map]
  induction ks with
  | nil => rfl
  | cons j r ih =>
    rw [List.any_cons, ih]
    have e : ((fun y => eqV y (V.int (k : Int))) ∘ fun (n : Nat) => V.int (n : Int)) j = decide (k = j) := by
      show decide _ = _
      by_cases h : k = j
      · subst h; simp
      · simp [h]
        omega
    rw [e]
    by_cases h : k = j
    · subst h; simp
    · simp [h]
theorem flat_ints {ks : List Nat} : (intsV ks).all flatV = true := by
  unfold intsV
  rw [List.all_map, List.all_eq_true]
  intro _ _
  rfl
theorem eqv_ints (ks : List Nat) : PyData.eqv (.list (ks.map fun (k : Nat) => PyData.int (k : Int))) (.list (ks.map fun (k : Nat) => PyData.int (k : Int))) = true := by
  simp only [PyData.eqv]
  induction ks with
  | nil => simp [PyData.eqvAll]
  | cons y ys ih => simp [PyData.eqvAll, PyData.eqv, ih]
theorem dp_nats {K : PySem.W.Frag} {H : Hp} (ks : List Nat) : DpAll K H (intsV ks) (ks.map fun (k : Nat) => PyData.int (k : Int)) := by
  have := dp_ints (K := K) (H := H) (ks.map fun (k : Nat) => (k : Int))
  rw [List.map_map, List.map_map] at this
  exact this
theorem shaped_nats (ks : List Nat) : SeqAt.shaped (.list (ks.map fun (k : Nat) => PyData.int (k : Int))) = true := by
  have := shaped_ints (ks.map fun (k : Nat) => (k : Int))
  rw [List.map_map] at this
  exact this
theorem tot_le {z : Str} {l : List (Mk × Str)} (h : ∀ y, D.str y ∈ toD z l → y.length ≤ 40) : tot z l ≤ 40 * (l.length + 1) := by
  have aux : ∀ l : List (Mk × Str), (∀ p ∈ l, p.2.length ≤ 40) → (l.map (·.2.length)).sum ≤ 40 * l.length := by
    intro l
    induction l with
    | nil => intro _; simp
    | cons p r ih =>
      intro hp
      rw [List.map_cons, List.sum_cons, List.length_cons]
      have h1 := hp p (by simp)
      have h2 := ih fun q hq => hp q (by simp [hq])
      omega
  have h1 := h z (by simp [toD])
  have h2 := aux l fun p hp => by
    obtain ⟨k, hk, rfl⟩ := List.getElem_of_mem hp
    apply h
    have e := toD_pc (z := z) (l := l) (k := k + 1) hk
    rw [pcS_next (List.getElem?_eq_getElem hk)] at e
    exact List.mem_of_getElem? e
  unfold tot
  omega
end Gd
/-! len, str, repr of an object of one's own class, by its own methods. -/
namespace Gd
open PySem PySem.Spec PyProof.Rows L2

section
variable {X : Cx} {CX : CXT} {n : Nat} {C f : Addr} {fd : FuncData} {ps : List Str} {sp : Sp} {E : XK}
/-- a def of the program, called inside a builtin -/
theorem own_run {A : Around} {pins : List (Addr × Obj)} {σ : L2.St} {H : Hp} {s : Shared} {Q : VK} {us : List Value} {vs : List V} (F : FnOk X.prog X.w X.K X.mg X.base CX n f fd ps sp)
    (hb : Binds X.K fd ps []) (hx : Passes CX X E) (sb : Sub X n A) (I : Inv X pins σ H s) (r : Vals vs us) (h : sp vs H Q E) :
    wpAny (model X.prog X.w) A (call (.ref f) us) (EP X pins σ Q) X.xe s := by
  have e0 : Env0 X.prog X.w X.K X.mg X.base A X.stack s H := by
    have e := I.env0
    exact ⟨by rw [sb.fr]; exact e.frames, e.mod, e.bs, e.bsz, e.funs, e.frf, e.hok, e.bare⟩
  have hl := F.len _ _ _ _ h
  have hl2 : us.length = ps.length := r.length.symm.trans hl
  refine wpAny_call (codeAny_mono (F.run A X.stack s H ⟨us, []⟩ us vs _ E sb.room e0 (by
    have := hb s us I.kIn (by simpa using hl2)
    simpa using this) r h) fun r s' hq => ?_)
  match r, hq with
  | .error e, hq => exact hx pins σ H s e s' I hq
  | .ok (.ret u), hq => exact I.after hq
  | .ok .next, hq => exact hq.elim
  | .ok .brk, hq => exact hq.elim
  | .ok .cont, hq => exact hq.elim
/-- what is asked of an own method without further arguments -/
def rOwn (C : Addr) (sp : Sp) (E : XK) (ok : V → Prop) : List V → Hp → VK → Prop := fun xs H Q => ∃ x dx fs, xs = [.ref x] ∧ H x = some (.ins C dx fs) ∧ sp [.ref x] H (fun v H' => ok v ∧ Q v H') E
theorem call_lenO (F : FnOk X.prog X.w X.K X.mg X.base CX n f fd ps sp) (hs : PySem.W.findIn X.K (.ref C) "__len__" = some (some (.ref f))) (hf : PySem.W.isFn X.K (.ref f) = true)
    (hb : Binds X.K fd ps []) (hx : Passes CX X E) (hr : Room (n + 1) X.A) : CallR X (.builtin "len") (rOwn C sp E fun v => ∃ i : Int, v = .int i ∧ 0 ≤ i ∧ i < 2 ^ 63) := by
  intro pins s σ H xs us Q I r h
  obtain ⟨x, dx, fs, rfl, ha, hsp⟩ := h
  obtain ⟨u, rfl, ru⟩ := vals1 r
  cases ru
  obtain ⟨mA, J, _⟩ := ins_get I.hok ha
  obtain ⟨od, J, _⟩ := J.look
  obtain ⟨m, hF⟩ := I.fr
  refine PySem.W.len_K hF I.ok.mod.kin J hs hf (wpAny_mono (own_run F hb hx ⟨hr.in1, rfl⟩ I (show Vals [V.ref x] [Value.ref x] from .cons rfl .nil) hsp) (fun v s' q => ?_) fun _ _ y => y)
  obtain ⟨z, H', I', rz, ⟨i, rfl, h0, h1⟩, q⟩ := q
  obtain ⟨t, rfl⟩ := rz
  exact ⟨⟨h0, h1⟩, .int i, H', I'.tok _, ⟨_, rfl⟩, q⟩
theorem call_reprO (F : FnOk X.prog X.w X.K X.mg X.base CX n f fd ps sp) (hs : PySem.W.findIn X.K (.ref C) "__repr__" = some (some (.ref f))) (hf : PySem.W.isFn X.K (.ref f) = true)
    (hb : Binds X.K fd ps []) (hx : Passes CX X E) (hr : Room (n + 1) X.A) : CallR X (.builtin "repr") (rOwn C sp E fun v => ∃ z : Str, v = .str z) := by
  intro pins s σ H xs us Q I r h
  obtain ⟨x, dx, fs, rfl, ha, hsp⟩ := h
  obtain ⟨u, rfl, ru⟩ := vals1 r
  cases ru
  obtain ⟨mA, J, _⟩ := ins_get I.hok ha
  obtain ⟨od, J, _⟩ := J.look
  obtain ⟨m, hF⟩ := I.fr
  refine PySem.W.repr_K hr.in1.units0 hF I.ok.mod.kin J hs hf (wpAny_mono (own_run F hb hx ⟨hr.in1, rfl⟩ I (show Vals [V.ref x] [Value.ref x] from .cons rfl .nil) hsp) (fun v s' q => ?_) fun _ _ y => y)
  obtain ⟨z, H', I', rz, ⟨i, rfl⟩, q⟩ := q
  obtain ⟨t, rfl⟩ := rz
  exact ⟨.str i, H', I', ⟨_, rfl⟩, q⟩
theorem call_strO (F : FnOk X.prog X.w X.K X.mg X.base CX n f fd ps sp) (hs : PySem.W.findIn X.K (.ref C) "__str__" = some (some (.ref f))) (hf : PySem.W.isFn X.K (.ref f) = true)
    (hb : Binds X.K fd ps []) (hx : Passes CX X E) (hr : Room (n + 2) X.A) : CallR X (.type "str") (rOwn C sp E fun v => ∃ z : Str, v = .str z) := by
  intro pins s σ H xs us Q I r h
  obtain ⟨x, dx, fs, rfl, ha, hsp⟩ := h
  obtain ⟨u, rfl, ru⟩ := vals1 r
  cases ru
  obtain ⟨mA, J, _⟩ := ins_get I.hok ha
  obtain ⟨od, J, _⟩ := J.look
  refine PySem.W.kso_call hr.in1.in1.units0 I.kIn J hs hf (wpAny_mono (own_run F hb hx ⟨hr.in1.in1, rfl⟩ I (show Vals [V.ref x] [Value.ref x] from .cons rfl .nil) hsp) (fun v s' q => ?_) fun _ _ y => y)
  obtain ⟨z, H', I', rz, ⟨i, rfl⟩, q⟩ := q
  obtain ⟨t, rfl⟩ := rz
  exact ⟨.str i, H', I', ⟨_, rfl⟩, q⟩
end
end Gd
namespace Gd
open PySem PySem.Spec PyProof.Rows L2
/-- a method of a class of the program -/
structure Dm (K : PySem.W.Frag) (C : Addr) (m : Str) (f : Addr) (fd : FuncData) (ps : List Str) : Prop where
  m : Meth K C m f
  b : Binds K fd ps []
section
variable {X : Cx} {K : PySem.W.Frag}
theorem call_tuple_ofK (e : X.K = K) : CallR X (.type "tuple") (fun xs H Q => ∃ p ys, xs = [.ref p] ∧ ((SqL K H p ys ∧ ∀ l, H l = none → Q (.ref l) (upd H l (.tup ys))) ∨ (SqT K H p ys ∧ Q (.ref p) H))) := by subst e; exact call_tuple_of
theorem call_list_ofK (e : X.K = K) : CallR X (.type "list") (fun xs H Q => ∃ p ys, xs = [.ref p] ∧ (SqL K H p ys ∨ SqT K H p ys) ∧ ∀ l, H l = none → Q (.ref l) (upd H l (.lst ys))) := by subst e; exact call_list_of
theorem pe_fldK {e : Expr} {f : Str} {pos : Pos} {ta : TE} (k : X.K = K) (he : PE X e ta) (hb : attributeBase e f X.env (eval e X.env) = eval e X.env) : PE X (.Attribute e f pos) (tFld K ta f) := by subst k; exact pe_fld he hb
end
end Gd
/-! Strips: valid rows, and what stands at a strip object. -/
namespace Gd
open PySem PySem.Spec PyProof.Rows L2

/-- a dict comprehension over a walk -/
theorem dc_it {J : L2.It} {n : Nat} {G : Hp → Prop} {Y : Nat → Hp → V → Hp → Prop} (w : Walk J n G Y) {g : TG} {tt : TT} {tk tv : TE} {vs : List Nat} {σ : L2.St} {H1 : Hp} {D : Addr} {Qd : Hp → Prop} (Pv : Nat → Hp → Prop)
    (h0 : Pv 0 (upd H1 D (.dK []))) (hG : ∀ i H, i ≤ n → Pv i H → G H)
    (hs : ∀ i x H H', i < n → Pv i H → Y i H x H' → g x (wipe σ vs) H' fun σ2 H2 => wipe σ2 vs = wipe σ vs ∧ tt σ2 H2 fun b H3 =>
      if b = true then tk σ2 H3 fun y H4 => tv σ2 H4 fun z H5 => ∃ kvs k, y = kV k ∧ H5 D = some (.dK kvs) ∧ kvs.length < sizeLine ∧ Pv (i + 1) (upd H5 D (.dK (putK kvs k z))) else Pv (i + 1) H3) (hd : ∀ H, Pv n H → Qd H) :
    ∃ W : Nat → Nat → Hp → Prop, (∃ m, W 0 m (upd H1 D (.dK []))) ∧ ∀ i m H, W i m H →
      (J.stop i H ∧ Qd H) ∨ (J.go i H ∧ ∃ Nx : Hp → Prop, (∀ H', Nx H' → ∃ m', m' < m ∧ W (i + 1) m' H') ∧ ∀ x H', J.yld i H x H' → g x (wipe σ vs) H' fun σ2 H2 => wipe σ2 vs = wipe σ vs ∧ tt σ2 H2 fun b H3 =>
        if b = true then tk σ2 H3 fun y H4 => tv σ2 H4 fun z H5 => ∃ kvs k, y = kV k ∧ H5 D = some (.dK kvs) ∧ kvs.length < sizeLine ∧ Nx (upd H5 D (.dK (putK kvs k z))) else Nx H3) := by
  refine ⟨fun i m H => m = n - i ∧ i ≤ n ∧ Pv i H, ⟨n, by simp, Nat.zero_le _, h0⟩, ?_⟩
  rintro i m H ⟨rfl, hi, p⟩
  have q := hG i H hi p
  by_cases hlt : i < n
  · exact .inr ⟨w.goes i H hlt q, Pv (i + 1), fun H' p' => ⟨n - (i + 1), by omega, rfl, hlt, p'⟩, fun x H' y => hs i x H H' hlt p (w.yields i H x H' hlt q y)⟩
  · have e : i = n := by omega
    subst e
    exact .inl ⟨w.stops H q, hd H p⟩

/-- each name stands twice -/
def Two (nm : List Str) : Prop := ∀ x ∈ nm, nm.count x = 2
structure OkS (z : Str) (l : List (Mk × Str)) : Prop where
  ok : OkR z l
  two : Two (nmOf l)
  twelve : (fsts (nmOf l) (nmOf l).length).length ≤ 12
  few : l.length ≤ 24
  small : tot z l ≤ 50000
def plc (nm : List Str) (x : Str) (j : Nat) : Nat := (occ nm x nm.length).getD j 0
theorem occ_sorted (nm : List Str) (x : Str) (i : Nat) : (occ nm x i).Pairwise (· < ·) := List.Pairwise.filter _ List.pairwise_lt_range
theorem two_occ {nm : List Str} (h : Two nm) {x : Str} (hx : x ∈ nm) : occ nm x nm.length = [plc nm x 0, plc nm x 1] ∧ plc nm x 0 < plc nm x 1 ∧ plc nm x 1 < nm.length ∧ nm[plc nm x 0]? = some x ∧ nm[plc nm x 1]? = some x := by
  have hl : (occ nm x nm.length).length = 2 := by
    rw [occ_len, List.take_length]
    exact h x hx
  have hs := occ_sorted nm x nm.length
  have hm : ∀ k ∈ occ nm x nm.length, k < nm.length ∧ nm[k]? = some x := fun k hk => occ_mem.mp hk
  unfold plc
  generalize occ nm x nm.length = o at hl hs hm ⊢
  match o, hl with
  | [a, b], _ =>
    have h1 := hm a (by simp)
    have h2 := hm b (by simp)
    simp at hs
    exact ⟨rfl, hs, h2.1, h1.2, h2.2⟩
theorem valV_of_no {kvs : List (Key × V)} {k : Key} (h : k ∉ kvs.map (·.1)) : valV kvs k = none := by
  unfold valV
  rw [Option.map_eq_none_iff, List.find?_eq_none]
  intro kv hkv e
  exact h (List.mem_map.mpr ⟨kv, hkv, of_decide_eq_true e⟩)
theorem nd_next {α : Type} {xs : List α} (nd : xs.Nodup) {i : Nat} {x : α} (h : xs[i]? = some x) : x ∉ xs.take i := by
  intro hm
  obtain ⟨hi, rfl⟩ := List.getElem?_eq_some_iff.mp h
  obtain ⟨j, hj, e⟩ := List.getElem_of_mem hm
  rw [List.length_take] at hj
  rw [List.getElem_take] at e
  have := (List.getElem_inj nd).mp e
  omega
/-- the dict of places -/
structure PlT (H : Hp) (nm : List Str) (kvs : List (Key × V)) : Prop where
  keys : kvs.map (·.1) = (fsts nm nm.length).map Sum.inr
  at_ : ∀ y v, ((Sum.inr y : Key), v) ∈ kvs → ∃ t, v = .ref t ∧ H t = some (.tup (intsV (occ nm y nm.length)))
theorem PlT.ex {H H' : Hp} {nm : List Str} {kvs : List (Key × V)} (P : PlT H nm kvs) (e : Ex H H') : PlT H' nm kvs :=
  ⟨P.keys, fun y v h => by
    obtain ⟨t, h1, h2⟩ := P.at_ y v h
    exact ⟨t, h1, e _ _ h2⟩⟩
theorem inr_nd {xs : List Str} (h : xs.Nodup) : (xs.map fun x => (Sum.inr x : Key)).Nodup := by
  induction xs with
  | nil => exact .nil
  | cons x r ih =>
    rw [List.nodup_cons] at h
    rw [List.map_cons, List.nodup_cons]
    refine ⟨fun q => ?_, ih h.2⟩
    obtain ⟨y, hy, e⟩ := List.mem_map.mp q
    cases e
    exact h.1 hy
theorem PlT.nd {H : Hp} {nm : List Str} {kvs : List (Key × V)} (P : PlT H nm kvs) : (kvs.map (·.1)).Nodup := by
  rw [P.keys]
  exact inr_nd (fsts_nd _)
theorem PlT.get {H : Hp} {nm : List Str} {kvs : List (Key × V)} (P : PlT H nm kvs) {x : Str} (hx : x ∈ nm) : ∃ t, valV kvs (Sum.inr x) = some (.ref t) ∧ H t = some (.tup (intsV (occ nm x nm.length))) := by
  have h1 : (Sum.inr x : Key) ∈ kvs.map (·.1) := by
    rw [P.keys]
    exact List.mem_map.mpr ⟨x, fsts_mem.mpr (by rw [List.take_length]; exact hx), rfl⟩
  obtain ⟨⟨k, v⟩, hkv, rfl⟩ := List.mem_map.mp h1
  obtain ⟨t, rfl, ht⟩ := P.at_ x v hkv
  exact ⟨t, valV_in P.nd hkv, ht⟩
/-- what stands at a strip -/
structure StripAt (O : HO → Prop) (C : Addr) (H : Hp) (x : Addr) (z : Str) (l : List (Mk × Str)) : Prop where
  ok : OkS z l
  at_ : ∃ (dx r p : Addr) (rv : List V) (kvs : List (Key × V)), H x = some (.ins C dx [("_row", .ref r), ("_places", .ref p)]) ∧ H r = some (.lst rv) ∧ DVs O H rv (toD z l) ∧ H p = some (.dK kvs) ∧ PlT H (nmOf l) kvs
theorem StripAt.ex {O : HO → Prop} {C x : Addr} {H H' : Hp} {z : Str} {l : List (Mk × Str)} (S : StripAt O C H x z l) (e : Ex H H') : StripAt O C H' x z l := by
  obtain ⟨dx, r, p, rv, kvs, h1, h2, h3, h4, h5⟩ := S.at_
  exact ⟨S.ok, dx, r, p, rv, kvs, e _ _ h1, e _ _ h2, DVs.ex e _ _ h3, e _ _ h4, h5.ex e⟩
theorem OkS.name {z : Str} {l : List (Mk × Str)} (o : OkS z l) {y : Str} (h : y ∈ nmOf l) : nameB y = true := by
  obtain ⟨p, hp, rfl⟩ := List.mem_map.mp h
  exact (o.ok.pl p hp).1
structure StripCls (K : PySem.W.Frag) (C : Addr) : Prop where
  cl : Cls K C
  nR : NoAttr K C "_row"
  nP : NoAttr K C "_places"
end Gd
namespace Gd
open PySem PySem.Spec PyProof.Rows L2
/-! ### words -/
def wordD : D → Str
  | .str z => if z.length > 0 then z else "_"
  | .tup [.str n, .bl b] => n ++ (if b = true then "+" else "-" : Str)
  | _ => Str.empty
def textD (ds : List D) : Str := Txt.join " " (ds.map wordD)
theorem word_len {L : Nat} {d : D} (h : It L d) : (wordD d).length ≤ L + 1 := by
  rcases h with ⟨z, rfl, _, hl⟩ | ⟨z, b, rfl, _, hl⟩
  · show (if z.length > 0 then z else "_" : Str).length ≤ L + 1
    by_cases h : z.length > 0
    · rw [if_pos h]; omega
    · rw [if_neg h]
      show 1 ≤ L + 1
      omega
  · show (z ++ (if b = true then "+" else "-" : Str)).length ≤ L + 1
    rw [app_len]
    cases b
    · show z.length + 1 ≤ L + 1; omega
    · show z.length + 1 ≤ L + 1; omega
theorem words_fit {L n : Nat} {ds : List D} (h : ∀ d ∈ ds, It L d) (hn : ds.length ≤ n) (hk : n * (L + 2) ≤ 16777216) :
    ((ds.map wordD).map (·.length)).sum + (ds.map wordD).length * (" " : Str).length ≤ 16777216 := by
  have e : (" " : Str).length = 1 := rfl
  have h1 := join_size (ys := ds.map wordD) (k := L + 1) (a := " ") (by
    intro y hy
    obtain ⟨d, hd, rfl⟩ := List.mem_map.mp hy
    exact word_len (h d hd))
  rw [e] at h1 ⊢
  rw [List.length_map] at h1 ⊢
  have : ds.length * (L + 2) ≤ n * (L + 2) := Nat.mul_le_mul_right _ hn
  have : ds.length * (L + 1 + 1) = ds.length * (L + 2) := rfl
  omega
def upOf (l : List (Mk × Str)) (k : Nat) : Bool := ((l[k]?).map (·.1.2)).getD false
theorem upOf_at {l : List (Mk × Str)} {k : Nat} {p : Mk × Str} (h : l[k]? = some p) : upOf l k = p.1.2 := by simp [upOf, h]
theorem evens_toD {O : HO → Prop} {H : Hp} : ∀ {l : List (Mk × Str)} {z : Str} {vs : List V}, DVs O H vs (toD z l) → evens vs = (z :: l.map (·.2)).map V.str
  | [], z, _, .cons h .nil => by
    obtain ⟨rfl, _⟩ := str_val h
    rfl
  | (m, y) :: r, z, _, .cons h (.cons _ t) => by
    obtain ⟨rfl, _⟩ := str_val h
    have := evens_toD (l := r) (z := y) t
    show V.str z :: evens _ = _
    rw [this]
    rfl
theorem row_at {O : HO → Prop} {H : Hp} {ds : List D} {rv : List V} (hd : DVs O H rv ds) {k : Nat} {d : D} (hk : ds[k]? = some d) : ∃ x, atI rv (k : Int) = some x ∧ rv[k]? = some x ∧ DV O H x d := by
  have h1 : k < rv.length := by
    have := (List.getElem?_eq_some_iff.mp hk).1
    rw [hd.length]; exact this
  have e : rv[k]? = some rv[k] := List.getElem?_eq_getElem h1
  obtain ⟨d', hd', hx⟩ := hd.get e
  rw [hk] at hd'
  cases hd'
  refine ⟨_, ?_, e, hx⟩
  unfold atI ixN
  rw [if_pos (by omega), if_pos (by omega)]
  simp [e]
/-- promises of the methods -/
def spSt (O : HO → Prop) (C : Addr) (R : Str → List (Mk × Str) → Hp → VK → Prop) : Sp := fun vs H Q _ => ∃ x z l, vs = [.ref x] ∧ StripAt O C H x z l ∧ R z l H Q
def spSt1 (O : HO → Prop) (C : Addr) (R : Str → List (Mk × Str) → Str → Hp → VK → Prop) : Sp := fun vs H Q _ => ∃ x z l y, vs = [.ref x, .str y] ∧ StripAt O C H x z l ∧ y ∈ nmOf l ∧ R z l y H Q
def NewV (H : Hp) (vs : List V) (Q : VK) : Prop := ∀ p H', Ex H H' → H p = none → H' p = some (.lst vs) → Q (.ref p) H'
def NewU (H : Hp) (vs : List V) (Q : VK) : Prop := ∀ p H', Ex H H' → H p = none → H' p = some (.tup vs) → Q (.ref p) H'
def Val (H : Hp) (v : V) (Q : VK) : Prop := ∀ H', Ex H H' → Q v H'
def crossB (nm : List Str) (x y : Str) : Bool := (decide (plc nm x 0 < plc nm y 0) && decide (plc nm y 0 < plc nm x 1)) != (decide (plc nm x 0 < plc nm y 1) && decide (plc nm y 1 < plc nm x 1))
def betw (nm : List Str) (x : Str) : List Str := (nm.take (plc nm x 1)).drop (plc nm x 0 + 1)
def spStX (O : HO → Prop) (C : Addr) : Sp := fun vs H Q _ => ∃ x z l y y2, vs = [.ref x, .str y, .str y2] ∧ StripAt O C H x z l ∧ y ∈ nmOf l ∧ y2 ∈ nmOf l ∧ Val H (.bl (crossB (nmOf l) y y2)) Q
end Gd
namespace Gd
open PySem PySem.Spec PyProof.Rows L2
theorem bl_ne (a b : Bool) : (!decide (V.bl a = V.bl b)) = (a != b) := by cases a <;> cases b <;> rfl
theorem bl_eq (a b : Bool) : decide (V.bl a = V.bl b) = (a == b) := by cases a <;> cases b <;> rfl
end Gd
namespace Gd
open PySem PySem.Spec PyProof.Rows L2
theorem sjoin_len (a : Str) : ∀ ys : List Str, (Str.join a ys).length ≤ (ys.map (·.length)).sum + ys.length * a.length
  | [] => Nat.zero_le _
  | [x] => by
    show x.length ≤ _
    simp only [List.map_cons, List.map_nil, List.sum_cons, List.sum_nil, List.length_cons, List.length_nil]
    omega
  | x :: y :: r => by
    show (x ++ a ++ Str.join a (y :: r)).length ≤ _
    have := sjoin_len a (y :: r)
    rw [app_len, app_len, List.map_cons, List.sum_cons, List.length_cons, Nat.add_mul]
    omega
theorem tjoin_len (a : Str) (ys : List Str) : (Txt.join a ys).length ≤ (ys.map (·.length)).sum + ys.length * a.length := by
  rw [show Txt.join a ys = Str.join a ys from PySem.StrLaws.glued_eq_join a ys]
  exact sjoin_len a ys
theorem text_len {L n : Nat} {ds : List D} (h : ∀ d ∈ ds, It L d) (hn : ds.length ≤ n) : (textD ds).length ≤ n * (L + 2) := by
  have e : (" " : Str).length = 1 := rfl
  have h1 := join_size (ys := ds.map wordD) (k := L + 1) (a := " ") (by
    intro y hy
    obtain ⟨d, hd, rfl⟩ := List.mem_map.mp hy
    exact word_len (h d hd))
  have h2 := tjoin_len " " (ds.map wordD)
  rw [e, List.length_map] at h1
  have h3 : ds.length * (L + 1 + 1) ≤ n * (L + 1 + 1) := Nat.mul_le_mul_right _ hn
  have h4 : n * (L + 1 + 1) = n * (L + 2) := rfl
  unfold textD
  rw [e, List.length_map] at h2
  omega
def spWord (O : HO → Prop) : Sp := fun vs H Q _ => ∃ v d, vs = [v] ∧ DV O H v d ∧ It 100000 d ∧ Val H (.str (wordD d)) Q
def spWords (O : HO → Prop) : Sp := fun vs H Q _ => ∃ a rv ds, vs = [.ref a] ∧ H a = some (.lst rv) ∧ DVs O H rv ds ∧ (∀ d ∈ ds, It 100000 d) ∧ ds.length ≤ 100 ∧ NewV H ((ds.map wordD).map V.str) Q
def reprS (ds : List D) : Str := "Strip(" ++ textD ds ++ ")"
end Gd
/-! Small plain data: what repr and == ask of them. -/
namespace Gd
open PySem PySem.Spec PyProof.Rows L2

structure Sm (dp wt : Nat) (d : PyData) : Prop where
  sh : PyData.showable d = true
  hd : PyData.hasDict d = false
  dp : PyData.depth d ≤ dp
  cl : PyData.canLay0 d = true
  wt : PyData.weight d ≤ wt
  is : PyData.intsShort 13 d = true
  eq : PyData.eqv d d = true
structure SmA (dp wt : Nat) (d : List PyData) : Prop where
  sh : PyData.showableAll d = true
  hd : PyData.hasDictAll d = false
  dp : PyData.depthAll d ≤ dp
  cl : PyData.canLayAll0 d = true
  wt : PyData.weightAll d ≤ wt
  is : PyData.intsShortAll 13 d = true
  eq : PyData.eqvAll d d = true
theorem Sm.str {z : Str} {L : Nat} (h : okS z = true) (hl : z.length ≤ L) : Sm 0 L (.str z) := by
  have hs := okS_strOk h
  have hl' : z.cps.size ≤ L := hl
  exact ⟨by simp [PyData.showable], by simp [PyData.hasDict], by simp [PyData.depth], by simp [PyData.canLay0, hs], by simp only [PyData.weight]; exact hl', by simp [PyData.intsShort], by simp [PyData.eqv]⟩
theorem Sm.bool (b : Bool) : Sm 0 0 (.bool b) :=
  ⟨by simp [PyData.showable], by simp [PyData.hasDict], by simp [PyData.depth], by simp [PyData.canLay0], by simp [PyData.weight], by simp [PyData.intsShort], by simp [PyData.eqv]⟩
theorem short_nat : ∀ n < 1001, (PyData.shown (.int (n : Nat))).length ≤ 13 := by decide +kernel
theorem Sm.nat {n : Nat} (h : n ≤ 1000) : Sm 0 10 (.int (n : Nat)) := by
  have hlog : n.log2 < 10 := by
    by_cases h0 : n = 0
    · subst h0; decide
    · exact (Nat.log2_lt h0).mpr (by omega)
  refine ⟨by simp only [PyData.showable]; exact decide_eq_true (by show n.log2 < 1920; omega), by simp [PyData.hasDict], by simp [PyData.depth], by simp [PyData.canLay0], ?_, ?_, by simp [PyData.eqv]⟩
  · simp only [PyData.weight]
    split
    · omega
    · show n.log2 + 1 ≤ 10; omega
  · simp only [PyData.intsShort]
    exact decide_eq_true (short_nat n (by omega))
theorem Sm.list {dp wt : Nat} {xs : List PyData} (h : SmA dp wt xs) : Sm (dp + 1) wt (.list xs) :=
  ⟨by simp only [PyData.showable]; exact h.sh, by simp only [PyData.hasDict]; exact h.hd, by simp only [PyData.depth]; have := h.dp; omega, by simp only [PyData.canLay0]; exact h.cl,
   by simp only [PyData.weight]; exact h.wt, by simp only [PyData.intsShort]; exact h.is, by simp only [PyData.eqv]; exact h.eq⟩
theorem Sm.tup {dp wt : Nat} {xs : List PyData} (h : SmA dp wt xs) : Sm (dp + 1) wt (.tuple xs) :=
  ⟨by simp only [PyData.showable]; exact h.sh, by simp only [PyData.hasDict]; exact h.hd, by simp only [PyData.depth]; have := h.dp; omega, by simp only [PyData.canLay0]; exact h.cl,
   by simp only [PyData.weight]; exact h.wt, by simp only [PyData.intsShort]; exact h.is, by simp only [PyData.eqv]; exact h.eq⟩
theorem SmA.nil : SmA 0 0 [] := ⟨by simp [PyData.showableAll], by simp [PyData.hasDictAll], by simp [PyData.depthAll], by simp [PyData.canLayAll0], by simp [PyData.weightAll], by simp [PyData.intsShortAll], by simp [PyData.eqvAll]⟩
theorem SmA.cons {dp dp2 wt wt2 : Nat} {x : PyData} {xs : List PyData} (h : Sm dp wt x) (r : SmA dp2 wt2 xs) : SmA (max dp dp2) (wt + 1 + wt2) (x :: xs) := by
  have h1 := h.dp
  have h2 := r.dp
  have h3 := h.wt
  have h4 := r.wt
  refine ⟨by simp [PyData.showableAll, h.sh, r.sh], by simp [PyData.hasDictAll, h.hd, r.hd], ?_, by simp [PyData.canLayAll0, h.cl, r.cl], ?_, by simp [PyData.intsShortAll, h.is, r.is], by simp [PyData.eqvAll, h.eq, r.eq]⟩
  · simp only [PyData.depthAll]; omega
  · simp only [PyData.weightAll]; omega
theorem SmA.le {dp dp2 wt wt2 : Nat} {xs : List PyData} (r : SmA dp wt xs) (h : dp ≤ dp2) (h2 : wt ≤ wt2) : SmA dp2 wt2 xs := ⟨r.sh, r.hd, Nat.le_trans r.dp h, r.cl, Nat.le_trans r.wt h2, r.is, r.eq⟩
theorem Sm.le {dp dp2 wt wt2 : Nat} {x : PyData} (r : Sm dp wt x) (h : dp ≤ dp2) (h2 : wt ≤ wt2) : Sm dp2 wt2 x := ⟨r.sh, r.hd, Nat.le_trans r.dp h, r.cl, Nat.le_trans r.wt h2, r.is, r.eq⟩
theorem SmA.of {dp w : Nat} : ∀ {xs : List PyData}, (∀ x ∈ xs, Sm dp w x) → SmA dp (xs.length * (w + 1)) xs
  | [], _ => SmA.nil.le (Nat.zero_le _) (Nat.zero_le _)
  | x :: xs, h => by
    have h1 := SmA.cons (h x (by simp)) (SmA.of (xs := xs) fun y hy => h y (by simp [hy]))
    exact h1.le (by omega) (by rw [List.length_cons, Nat.add_mul]; omega)
theorem Sm.fin {dp wt : Nat} {d : PyData} (r : Sm dp wt d) (h : dp ≤ 64) (h2 : wt ≤ 2 ^ 20) : PyData.showable d = true ∧ PyData.hasDict d = false ∧ PyData.depth d ≤ 64 ∧ (PyData.shown d).length ≤ sizeLine ∧ SeqAt.shaped d = true ∧ PyData.eqv d d = true := by
  have h3 := r.dp
  have h4 := r.wt
  have d1 : PyData.depth d ≤ 64 := by omega
  refine ⟨r.sh, r.hd, d1, ?_, ?_, r.eq⟩
  · refine PyData.shown_fits_of_layable0 (B := 13) (by decide) (by decide) ?_ r.is
    unfold PyData.layable0
    rw [r.cl, decide_eq_true d1, decide_eq_true (by omega)]
    rfl
  · unfold SeqAt.shaped
    rw [r.cl, decide_eq_true d1]
    rfl
/-- a row's items -/
theorem RowP.sm {L n : Nat} {xs : List PyData} (r : RowP L xs n) : SmA 1 (n * (L + 3)) xs := ⟨r.sh, r.hd, r.dp, r.cl, r.wt, r.is, r.eq⟩
theorem SmA.strs {L : Nat} {ys : List Str} (h : ∀ y ∈ ys, okS y = true ∧ y.length ≤ L) : SmA 0 (ys.length * (L + 1)) (ys.map PyData.str) := by
  have := SmA.of (dp := 0) (w := L) (xs := ys.map PyData.str) (fun x hx => by
    obtain ⟨y, hy, rfl⟩ := List.mem_map.mp hx
    exact Sm.str (h y hy).1 (h y hy).2)
  rwa [List.length_map] at this
theorem dp_strs' {K : PySem.W.Frag} {H : Hp} (ys : List Str) : DpAll K H (ys.map V.str) (ys.map PyData.str) := dp_strs ys
/-! ### counting -/
theorem nodup_sub {α : Type} [DecidableEq α] : ∀ {xs ys : List α}, xs.Nodup → (∀ x ∈ xs, x ∈ ys) → xs.length ≤ ys.length
  | [], _, _, _ => Nat.zero_le _
  | x :: xs, ys, nd, h => by
    rw [List.nodup_cons] at nd
    have hx := h x (by simp)
    have := nodup_sub (xs := xs) (ys := ys.erase x) nd.2 (fun y hy => by
      have hy' := h y (by simp [hy])
      exact (List.mem_erase_of_ne (fun e => nd.1 (by subst e; exact hy))).mpr hy')
    rw [List.length_erase_of_mem hx] at this
    have hp : 0 < ys.length := List.length_pos_of_mem hx
    rw [List.length_cons]
    omega
/-- the promise of a def that sorts a row's markers by name -/
def spMarks (O : HO → Prop) : Sp := fun vs H Q _ => ∃ (v : V) (z : Str) (l : List (Mk × Str)), vs = [v] ∧ DV O H v (.lst (toD z l)) ∧ l.length ≤ 60 ∧
  ∀ (p : Addr) (kvs : List (Key × V)) (val : Nat → V) (H' : Hp), Ex H H' → H p = none → H' p = some (.dK kvs) → PlcV val H p H' (nmOf l) (nmOf l).length kvs →
    (∀ k, k < l.length → ∃ t, val k = .ref t ∧ H' t = some (.tup [.int (k : Nat), .bl (upOf l k)])) → Q (.ref p) H'
end Gd
/-! Markers sorted by name, as a law has them. -/
namespace Gd
open PySem PySem.Spec PyProof.Rows L2
/-- the heap without the object at p -/
def hide (p : Addr) (H : Hp) : Hp := fun b => if b = p then none else H b
theorem hide_p {p : Addr} {H : Hp} : hide p H p = none := if_pos rfl
theorem hide_ne {p b : Addr} {H : Hp} (h : b ≠ p) : hide p H b = H b := if_neg h
theorem hide_ex {p : Addr} {H : Hp} : Ex (hide p H) H := fun b o h => by
  by_cases e : b = p
  · subst e; rw [hide_p] at h; cases h
  · rwa [hide_ne e] at h
theorem ex_hide {p : Addr} {G H : Hp} (e : Ex G H) (g : G p = none) : Ex G (hide p H) := fun b o h => by
  rw [hide_ne (ne_of_none h g)]
  exact e b o h
theorem put_back {H : Hp} {p : Addr} {u : HO} (hp : H p = some u) {H' : Hp} (e : ∀ b o, b ≠ p → H b = some o → H' b = some o) : Ex H (upd H' p u) := fun b o hb => by
  by_cases h : b = p
  · subst h
    rw [upd_same, ← hp, hb]
  · rw [upd_ne h]
    exact e b o h hb
def MkAt (H : Hp) (l : List (Mk × Str)) (y : Str) (v : V) : Prop := ∃ a t0 t1, v = .ref a ∧ H a = some (.lst [.ref t0, .ref t1]) ∧
  H t0 = some (.tup [.int (plc (nmOf l) y 0 : Nat), .bl (upOf l (plc (nmOf l) y 0))]) ∧ H t1 = some (.tup [.int (plc (nmOf l) y 1 : Nat), .bl (upOf l (plc (nmOf l) y 1))])
structure MkT (H : Hp) (l : List (Mk × Str)) (kvs : List (Key × V)) : Prop where
  keys : kvs.map (·.1) = (fsts (nmOf l) (nmOf l).length).map Sum.inr
  at_ : ∀ y v, ((Sum.inr y : Key), v) ∈ kvs → y ∈ nmOf l ∧ MkAt H l y v
theorem MkAt.ex {H H' : Hp} {l : List (Mk × Str)} {y : Str} {v : V} (h : MkAt H l y v) (e : Ex H H') : MkAt H' l y v := by
  obtain ⟨a, t0, t1, h1, h2, h3, h4⟩ := h
  exact ⟨a, t0, t1, h1, e _ _ h2, e _ _ h3, e _ _ h4⟩
theorem MkT.ex {H H' : Hp} {l : List (Mk × Str)} {kvs : List (Key × V)} (P : MkT H l kvs) (e : Ex H H') : MkT H' l kvs :=
  ⟨P.keys, fun y v h => ⟨(P.at_ y v h).1, (P.at_ y v h).2.ex e⟩⟩
theorem MkT.of {val : Nat → V} {G H : Hp} {p : Addr} {l : List (Mk × Str)} {kvs : List (Key × V)} (P : PlcV val G p H (nmOf l) (nmOf l).length kvs) (two : Two (nmOf l)) (hp : H p = some (.dK kvs))
    (hv : ∀ k, k < l.length → ∃ t, val k = .ref t ∧ H t = some (.tup [.int (k : Nat), .bl (upOf l k)])) : MkT (hide p H) l kvs := by
  have nl : (nmOf l).length = l.length := by simp [nmOf]
  refine ⟨P.keys, fun y v h => ?_⟩
  obtain ⟨x, a, e, rfl, ga, nap, ha, hx⟩ := P.at_ _ _ h
  cases e
  rw [List.take_length] at hx
  obtain ⟨o1, o2, o3, o4, o5⟩ := two_occ two hx
  rw [o1] at ha
  obtain ⟨t0, q0, r0⟩ := hv (plc (nmOf l) y 0) (by omega)
  obtain ⟨t1, q1, r1⟩ := hv (plc (nmOf l) y 1) (by omega)
  rw [List.map_cons, List.map_cons, q0, q1] at ha
  refine ⟨hx, a, t0, t1, rfl, (hide_ne nap).trans ha, (hide_ne fun e => ?_).trans r0, (hide_ne fun e => ?_).trans r1⟩
  · rw [e, hp] at r0; cases r0
  · rw [e, hp] at r1; cases r1
theorem cutV_mid (xs : List V) {a b : Nat} (hb : b ≤ xs.length) (hab : a ≤ b) : cutV xs (some (a : Int)) (some (b : Int)) = (xs.take b).drop a := by
  unfold cutV
  rw [HT.sIx_nat, HT.sIx_nat, show min a xs.length = a by omega, show min b xs.length = b by omega, List.drop_take]
/-- the markers of y2 within those of y -/
def within (nm : List Str) (y y2 : Str) : List Nat := [plc nm y2 0, plc nm y2 1].filter fun k => decide (plc nm y 0 < k) && decide (k < plc nm y 1)
theorem cross_within {nm : List Str} {y y2 : Str} : crossB nm y y2 = (!decide (V.str y = V.str y2) && decide ((within nm y y2).length = 1)) := by
  unfold crossB within
  by_cases e : y = y2
  · subst e
    have h1 : (decide (plc nm y 0 < plc nm y 0)) = false := decide_eq_false (by omega)
    have h2 : (decide (plc nm y 1 < plc nm y 1)) = false := decide_eq_false (by omega)
    rw [h1, h2]
    simp
  · have h0 : decide (V.str y = V.str y2) = false := decide_eq_false fun q => by cases q; exact e rfl
    rw [h0]
    generalize plc nm y 0 = a0
    generalize plc nm y 1 = a1
    generalize plc nm y2 0 = b0
    generalize plc nm y2 1 = b1
    cases h1 : (decide (a0 < b0) && decide (b0 < a1)) <;> cases h2 : (decide (a0 < b1) && decide (b1 < a1)) <;> simp [List.filter, h1, h2]
def spNamesRight (O : HO → Prop) (C : Addr) : Sp := fun vs H Q _ => ∃ (x r p : Addr) (z : Str) (l : List (Mk × Str)) (rv : List V) (kvs : List (Key × V)) (G : Hp), vs = [.ref x, .ref r, .ref p] ∧ Ex G H ∧ G p = none ∧ StripAt O C G x z l ∧
  G r = some (.lst rv) ∧ DVs O G rv (toD z l) ∧ MkT G l kvs ∧ H p = some (.dK kvs) ∧ Val H (.bl true) Q
end Gd
/-! list(d) of a dict that a loop walks. -/
namespace Gd
open PySem PySem.Spec PyProof.Rows L2
/-- list(d), also while d is walked -/
theorem call_list_dKR {X : Cx} (hc : X.calm = true) : CallR X (.type "list") (fun xs H Q => ∃ p kvs, xs = [.ref p] ∧ Rd H p (.dK kvs) ∧ ∀ q, H q = none → Q (.ref q) (upd H q (.lst (kvs.map fun kv => kV kv.1)))) := by
  intro pins s σ H xs us Q I r h
  obtain ⟨p, kvs, rfl, hk, q⟩ := h
  obtain ⟨u, rfl, rx⟩ := vals1 r
  cases rx
  obtain ⟨fit, low, ws, rel, dic⟩ := (show ObjOk X.prog X.w H s.heap p (.dK kvs) from hk.ok I.hok)
  obtain ⟨ep, there⟩ := dic.dictAt
  have same : kvs.length = ws.length := rel.length
  refine PySem.W.kdl_call (PySem.W.kdl_dict (knd := mixKind X.prog X.w) (kvs := ws) (ep := ep) low) (I.ok.hd hc) there (by omega) fun h2 tk items c2 keep at2 cond => ?_
  have each : Vals (kvs.map fun kv => kV kv.1) items.toList := by
    refine vals_of_at ?_ fun j x v e1 e2 => ?_
    · rw [List.length_map, same, Array.length_toList]
      exact cond.1.symm
    · obtain ⟨k, y, e3, e4⟩ := cond.2 j v (by rw [← Array.getElem?_toList]; exact e2)
      have e5 : (kvs.map (·.1))[j]? = some k := by
        rw [KV.keys rel, List.getElem?_map, e3]
        all_goals rfl
      have e6 : (kvs.map fun kv => kV kv.1)[j]? = ((kvs.map (·.1))[j]?).map kV := by
        rw [← List.getElem?_map, List.map_map]
        all_goals rfl
      rw [e6, e5] at e1
      cases e1
      exact keyIs_rel e4
  have sz : (kvs.map fun kv => kV kv.1).length ≤ sizeLine := by rw [List.length_map]; exact fit
  exact ⟨.ref _, _, I.laid keep (Nat.le_refl _) (show ObjOk X.prog X.w _ _ _ (.lst (kvs.map fun kv => kV kv.1)) from ⟨sz, items.toList, c2, each, by rw [Array.toArray_toList]; exact at2⟩), rfl, q _ (I.hok.fresh (Nat.le_refl _))⟩
def spTold (O : HO → Prop) (C : Addr) : Sp := fun vs H Q _ => ∃ (x r : Addr) (z : Str) (l : List (Mk × Str)) (rv : List V), vs = [.ref x, .ref r] ∧ StripAt O C H x z l ∧ H r = some (.lst rv) ∧ DVs O H rv (toD z l) ∧ tot z l ≤ 2000 ∧ Val H (.bl true) Q
end Gd
/-! New strips; names between, counted. -/
namespace Gd
open PySem PySem.Spec PyProof.Rows L2
/-- the promise of Strip.__init__ -/
def spInit (O : HO → Prop) (C : Addr) : Sp := fun vs H Q _ => ∃ (x dx : Addr) (v : V) (z : Str) (l : List (Mk × Str)) (G : Hp), vs = [.ref x, v] ∧ H x = some (.ins C dx []) ∧ Ex G H ∧ G x = none ∧ (DV O G v (.lst (toD z l)) ∨ DV O G v (.tup (toD z l))) ∧ OkS z l ∧
  ∀ H', Kp x H H' → StripAt O C H' x z l → (∀ u us, H u = some (.lst us) → StripAt O C (hide u H') x z l) → Q .non H'
theorem make_ok {O : HO → Prop} {C x dx : Addr} {H : Hp} {v : V} {z : Str} {l : List (Mk × Str)} {R : VK} {E : XK} (hx : H x = none) (hdx : H dx = none) (hv : DV O H v (.lst (toD z l)) ∨ DV O H v (.tup (toD z l))) (ok : OkS z l)
    (k : ∀ H', Ex H H' → StripAt O C H' x z l → (∀ u us, H u = some (.lst us) → StripAt O C (hide u H') x z l) → R .non H') : spInit O C (.ref x :: ([v] ++ [])) (upd (upd H dx (.own x)) x (.ins C dx [])) R E := by
  have e : Ex H (upd (upd H dx (.own x)) x (.ins C dx [])) := (Ex.new hdx).mut hx
  exact ⟨x, dx, v, z, l, H, rfl, upd_same, e, hx, hv, ok, fun H' kp S S2 => k H' (e.kp hx kp) S fun u us hu => S2 u us (e _ _ hu)⟩
theorem dvs_hide {O : HO → Prop} {H : Hp} {u : Addr} {us : List V} {L : Nat} (hu : H u = some (.lst us)) : ∀ {vs : List V} {ds : List D}, (∀ d ∈ ds, It L d) → DVs O H vs ds → DVs O (hide u H) vs ds
  | [], [], _, .nil => .nil
  | _ :: _, d :: _, hi, .cons h r => by
    refine .cons ?_ (dvs_hide hu (fun x hx => hi x (by simp [hx])) r)
    rcases hi d (by simp) with ⟨z, rfl, hz, _⟩ | ⟨z, b, rfl, hz, _⟩
    · obtain ⟨rfl, _⟩ := str_val h
      exact .str z hz
    · obtain ⟨t, rfl, ht⟩ := mark_val h
      have ne : t ≠ u := fun e => by rw [e, hu] at ht; cases ht
      exact .tup ((hide_ne ne).trans ht) (.cons (.str z hz) (.cons (.bl b) .nil)) (by show 2 ≤ 100000; decide)
theorem occ_split {nm : List Str} {x : Str} {i : Nat} : ∀ {n : Nat}, i ≤ n → ∃ r, occ nm x n = occ nm x i ++ r ∧ ∀ k ∈ r, i ≤ k
  | 0, h => ⟨[], by rw [show i = 0 by omega]; simp, fun _ h => by simp at h⟩
  | n + 1, h => by
    by_cases e : i = n + 1
    · exact ⟨[], by rw [e]; simp, fun _ h => by simp at h⟩
    · obtain ⟨r, h1, h2⟩ := occ_split (nm := nm) (x := x) (i := i) (n := n) (by omega)
      refine ⟨r ++ if nm[n]? = some x then [n] else [], ?_, fun k hk => ?_⟩
      · rw [occ_next, h1, List.append_assoc]
      · rcases List.mem_append.mp hk with hk | hk
        · exact h2 k hk
        · by_cases q : nm[n]? = some x
          · rw [if_pos q] at hk
            have : k = n := by simpa using hk
            omega
          · rw [if_neg q] at hk
            simp at hk
theorem occ_lt {nm : List Str} {x : Str} {i : Nat} (h : i ≤ nm.length) : (occ nm x i).length = ((occ nm x nm.length).filter fun k => decide (k < i)).length := by
  obtain ⟨r, h1, h2⟩ := occ_split (nm := nm) (x := x) h
  rw [h1, List.filter_append]
  have e1 : (occ nm x i).filter (fun k => decide (k < i)) = occ nm x i := List.filter_eq_self.mpr fun k hk => decide_eq_true (occ_mem.mp hk).1
  have e2 : r.filter (fun k => decide (k < i)) = [] := List.filter_eq_nil_iff.mpr fun k hk => by
    have := h2 k hk
    simp
    omega
  rw [e1, e2, List.append_nil]
theorem betw_count {nm : List Str} {y x : Str} (two : Two nm) (hy : y ∈ nm) (hx : x ∈ nm) : (betw nm y).count x = (within nm y x).length := by
  obtain ⟨p1, p2, p3, p4, p5⟩ := two_occ two hy
  obtain ⟨o1, o2, o3, o4, o5⟩ := two_occ two hx
  have h1 : (nm.take (plc nm y 1)).count x = (nm.take (plc nm y 0 + 1)).count x + (betw nm y).count x := by
    conv => lhs; rw [← List.take_append_drop (plc nm y 0 + 1) (nm.take (plc nm y 1))]
    rw [List.count_append, List.take_take, Nat.min_eq_left (by omega)]
    rfl
  rw [← occ_len, ← occ_len, occ_lt (by omega), occ_lt (show plc nm y 0 + 1 ≤ nm.length by omega), o1] at h1
  unfold within
  generalize plc nm y 0 = a0 at *
  generalize plc nm y 1 = a1 at *
  generalize plc nm x 0 = b0 at *
  generalize plc nm x 1 = b1 at *
  have c1 : ∀ b : Nat, (if decide (b < a1) = true then 1 else 0) = (if decide (b < a0 + 1) = true then 1 else 0) + (if (decide (a0 < b) && decide (b < a1)) = true then 1 else 0) := fun b => by
    by_cases q1 : b < a1 <;> by_cases q2 : b < a0 + 1 <;> by_cases q3 : a0 < b <;> simp [q1, q2, q3] <;> omega
  have fl : ∀ (f : Nat → Bool), ([b0, b1].filter f).length = (if f b0 = true then 1 else 0) + (if f b1 = true then 1 else 0) := fun f => by
    cases h0 : f b0 <;> cases h1 : f b1 <;> simp [List.filter, h0, h1]
  rw [fl, fl] at h1
  rw [fl]
  have := c1 b0
  have := c1 b1
  omega
def spFresh (O : HO → Prop) (C : Addr) : Sp := fun vs H Q _ => ∃ (r p : Addr) (z : Str) (l : List (Mk × Str)) (rv : List V) (kvs : List (Key × V)) (G : Hp), vs = [.ref r, .ref p] ∧ Ex G H ∧ G p = none ∧
  G r = some (.lst rv) ∧ DVs O G rv (toD z l) ∧ OkS z l ∧ tot z l ≤ 2000 ∧ MkT G l kvs ∧ H p = some (.dK kvs) ∧ Val H (.bl true) Q
end Gd
namespace MS
open PySem PySem.Spec PyProof.Rows L2 Gd
def top (i : Nat) : Stmt := PySem.Challenge.pw_markersplice_k06_strip_accessors.main.body.getD i (.Pass ⟨0, 0, 0, 0⟩)
abbrev s_is_name : Stmt := top 12
abbrev s_is_piece : Stmt := top 13
abbrev s_is_marker : Stmt := top 14
abbrev s_has_row_length : Stmt := top 15
abbrev s_first_misfit : Stmt := top 16
abbrev s_check_items : Stmt := top 17
abbrev s_check_row : Stmt := top 18
abbrev s_places_by_name : Stmt := top 19
abbrev s_item_word : Stmt := top 22
abbrev s_row_words : Stmt := top 23
abbrev s_Strip_init : Stmt := inClass (top 26) 0
abbrev s_Strip_row : Stmt := inClass (top 26) 1
abbrev s_Strip_names : Stmt := inClass (top 26) 2
abbrev s_Strip_pieces : Stmt := inClass (top 26) 3
abbrev s_Stripcheck_name : Stmt := inClass (top 26) 10
abbrev s_Stripupright : Stmt := inClass (top 26) 11
abbrev s_Strip_places : Stmt := inClass (top 26) 4
abbrev s_Strip_orientations : Stmt := inClass (top 26) 5
abbrev s_Strip_is_direct : Stmt := inClass (top 26) 6
abbrev s_Strip_crosses : Stmt := inClass (top 26) 7
abbrev s_Strip_names_between : Stmt := inClass (top 26) 8
abbrev s_Strip_len : Stmt := inClass (top 26) 12
abbrev s_Strip_str : Stmt := inClass (top 26) 14
abbrev s_Strip_repr : Stmt := inClass (top 26) 15
abbrev s_L_cell : Stmt := top 28
abbrev s_L_box : Stmt := top 29
abbrev s_L_take : Stmt := top 30
abbrev s_L_names : Stmt := top 31
abbrev s_L_piece : Stmt := top 32
abbrev s_L_row : Stmt := top 33
abbrev s_L_marks : Stmt := top 34
abbrev s_L_text : Stmt := top 35
abbrev s_L_names_right : Stmt := top 36
abbrev s_L_told_right : Stmt := top 37
abbrev s_L_fresh_right : Stmt := top 38
abbrev s_law : Stmt := top 39
abbrev sc_is_name.N' : List Str := ["value"]
theorem sc_is_name : FnScope sc_is_name.N' ["value"] (defScope s_is_name) :=
  ⟨rfl, rfl, rfl, by decide +kernel, rfl, by decide +kernel, by decide +kernel⟩
abbrev sc_is_piece.N' : List Str := ["value"]
theorem sc_is_piece : FnScope sc_is_piece.N' ["value"] (defScope s_is_piece) :=
  ⟨rfl, rfl, rfl, by decide +kernel, rfl, by decide +kernel, by decide +kernel⟩
abbrev sc_is_marker.N' : List Str := ["value"]
theorem sc_is_marker : FnScope sc_is_marker.N' ["value"] (defScope s_is_marker) :=
  ⟨rfl, rfl, rfl, by decide +kernel, rfl, by decide +kernel, by decide +kernel⟩
abbrev sc_has_row_length.N' : List Str := ["value"]
theorem sc_has_row_length : FnScope sc_has_row_length.N' ["value"] (defScope s_has_row_length) :=
  ⟨rfl, rfl, rfl, by decide +kernel, rfl, by decide +kernel, by decide +kernel⟩
abbrev sc_first_misfit.N' : List Str := ["items", "index", "item", "fits"]
theorem sc_first_misfit : FnScope sc_first_misfit.N' ["items"] (defScope s_first_misfit) :=
  ⟨rfl, rfl, rfl, by decide +kernel, rfl, by decide +kernel, by decide +kernel⟩
abbrev sc_check_items.N' : List Str := ["items", "index"]
theorem sc_check_items : FnScope sc_check_items.N' ["items"] (defScope s_check_items) :=
  ⟨rfl, rfl, rfl, by decide +kernel, rfl, by decide +kernel, by decide +kernel⟩
abbrev sc_check_row.N' : List Str := ["row"]
theorem sc_check_row : FnScope sc_check_row.N' ["row"] (defScope s_check_row) :=
  ⟨rfl, rfl, rfl, by decide +kernel, rfl, by decide +kernel, by decide +kernel⟩
abbrev sc_places_by_name.N' : List Str := ["row", "places", "number", "name", "_"]
theorem sc_places_by_name : FnScope sc_places_by_name.N' ["row"] (defScope s_places_by_name) :=
  ⟨rfl, rfl, rfl, by decide +kernel, rfl, by decide +kernel, by decide +kernel⟩
abbrev sc_item_word.N' : List Str := ["item", "name", "upright"]
theorem sc_item_word : FnScope sc_item_word.N' ["item"] (defScope s_item_word) :=
  ⟨rfl, rfl, rfl, by decide +kernel, rfl, by decide +kernel, by decide +kernel⟩
abbrev sc_row_words.N' : List Str := ["row", "item"]
theorem sc_row_words : FnScope sc_row_words.N' ["row"] (defScope s_row_words) :=
  ⟨rfl, rfl, rfl, by decide +kernel, rfl, by decide +kernel, by decide +kernel⟩
abbrev sc_Strip_init.N' : List Str := ["self", "row", "places", "name"]
theorem sc_Strip_init : FnScope sc_Strip_init.N' ["self", "row"] (defScope s_Strip_init) :=
  ⟨rfl, rfl, rfl, by decide +kernel, rfl, by decide +kernel, by decide +kernel⟩
abbrev sc_Strip_row.N' : List Str := ["self"]
theorem sc_Strip_row : FnScope sc_Strip_row.N' ["self"] (defScope s_Strip_row) :=
  ⟨rfl, rfl, rfl, by decide +kernel, rfl, by decide +kernel, by decide +kernel⟩
abbrev sc_Strip_names.N' : List Str := ["self"]
theorem sc_Strip_names : FnScope sc_Strip_names.N' ["self"] (defScope s_Strip_names) :=
  ⟨rfl, rfl, rfl, by decide +kernel, rfl, by decide +kernel, by decide +kernel⟩
abbrev sc_Strip_pieces.N' : List Str := ["self"]
theorem sc_Strip_pieces : FnScope sc_Strip_pieces.N' ["self"] (defScope s_Strip_pieces) :=
  ⟨rfl, rfl, rfl, by decide +kernel, rfl, by decide +kernel, by decide +kernel⟩
abbrev sc_Stripcheck_name.N' : List Str := ["self", "name"]
theorem sc_Stripcheck_name : FnScope sc_Stripcheck_name.N' ["self", "name"] (defScope s_Stripcheck_name) :=
  ⟨rfl, rfl, rfl, by decide +kernel, rfl, by decide +kernel, by decide +kernel⟩
abbrev sc_Stripupright.N' : List Str := ["self", "place"]
theorem sc_Stripupright : FnScope sc_Stripupright.N' ["self", "place"] (defScope s_Stripupright) :=
  ⟨rfl, rfl, rfl, by decide +kernel, rfl, by decide +kernel, by decide +kernel⟩
abbrev sc_Strip_places.N' : List Str := ["self", "name"]
theorem sc_Strip_places : FnScope sc_Strip_places.N' ["self", "name"] (defScope s_Strip_places) :=
  ⟨rfl, rfl, rfl, by decide +kernel, rfl, by decide +kernel, by decide +kernel⟩
abbrev sc_Strip_orientations.N' : List Str := ["self", "name", "low", "high"]
theorem sc_Strip_orientations : FnScope sc_Strip_orientations.N' ["self", "name"] (defScope s_Strip_orientations) :=
  ⟨rfl, rfl, rfl, by decide +kernel, rfl, by decide +kernel, by decide +kernel⟩
abbrev sc_Strip_is_direct.N' : List Str := ["self", "name", "first", "second"]
theorem sc_Strip_is_direct : FnScope sc_Strip_is_direct.N' ["self", "name"] (defScope s_Strip_is_direct) :=
  ⟨rfl, rfl, rfl, by decide +kernel, rfl, by decide +kernel, by decide +kernel⟩
abbrev sc_Strip_crosses.N' : List Str := ["self", "one", "other", "low", "high", "first", "second"]
theorem sc_Strip_crosses : FnScope sc_Strip_crosses.N' ["self", "one", "other"] (defScope s_Strip_crosses) :=
  ⟨rfl, rfl, rfl, by decide +kernel, rfl, by decide +kernel, by decide +kernel⟩
abbrev sc_Strip_names_between.N' : List Str := ["self", "name", "low", "high", "place"]
theorem sc_Strip_names_between : FnScope sc_Strip_names_between.N' ["self", "name"] (defScope s_Strip_names_between) :=
  ⟨rfl, rfl, rfl, by decide +kernel, rfl, by decide +kernel, by decide +kernel⟩
abbrev sc_Strip_len.N' : List Str := ["self"]
theorem sc_Strip_len : FnScope sc_Strip_len.N' ["self"] (defScope s_Strip_len) :=
  ⟨rfl, rfl, rfl, by decide +kernel, rfl, by decide +kernel, by decide +kernel⟩
abbrev sc_Strip_str.N' : List Str := ["self"]
theorem sc_Strip_str : FnScope sc_Strip_str.N' ["self"] (defScope s_Strip_str) :=
  ⟨rfl, rfl, rfl, by decide +kernel, rfl, by decide +kernel, by decide +kernel⟩
abbrev sc_Strip_repr.N' : List Str := ["self"]
theorem sc_Strip_repr : FnScope sc_Strip_repr.N' ["self"] (defScope s_Strip_repr) :=
  ⟨rfl, rfl, rfl, by decide +kernel, rfl, by decide +kernel, by decide +kernel⟩
abbrev sc_L_cell.N' : List Str := ["_law_script", "_law_k"]
theorem sc_L_cell : FnScope sc_L_cell.N' ["_law_script", "_law_k"] (defScope s_L_cell) :=
  ⟨rfl, rfl, rfl, by decide +kernel, rfl, by decide +kernel, by decide +kernel⟩
abbrev sc_L_box.N' : List Str := ["_law_cell_here"]
theorem sc_L_box : FnScope sc_L_box.N' ["_law_cell_here"] (defScope s_L_box) :=
  ⟨rfl, rfl, rfl, by decide +kernel, rfl, by decide +kernel, by decide +kernel⟩
abbrev sc_L_take.N' : List Str := ["_law_box_here", "_law_many", "_law_digit", "_law_mixed"]
theorem sc_L_take : FnScope sc_L_take.N' ["_law_box_here", "_law_many"] (defScope s_L_take) :=
  ⟨rfl, rfl, rfl, by decide +kernel, rfl, by decide +kernel, by decide +kernel⟩
abbrev sc_L_names.N' : List Str := ["_law_box_here", "_law_many", "_law_letters", "_law_first", "_law_step", "_law_way", "_law_singles", "_law_stem", "_law_at", "_law_one", "_law_two", "_law_glued", "_law_k"]
theorem sc_L_names : FnScope sc_L_names.N' ["_law_box_here", "_law_many"] (defScope s_L_names) :=
  ⟨rfl, rfl, rfl, by decide +kernel, rfl, by decide +kernel, by decide +kernel⟩
abbrev sc_L_piece.N' : List Str := ["_law_box_here", "_law_letters", "_law_long", "_law_k"]
theorem sc_L_piece : FnScope sc_L_piece.N' ["_law_box_here"] (defScope s_L_piece) :=
  ⟨rfl, rfl, rfl, by decide +kernel, rfl, by decide +kernel, by decide +kernel⟩
abbrev sc_L_row.N' : List Str := ["_law_box_here", "_law_many", "_law_slots", "_law_found", "_law_k"]
theorem sc_L_row : FnScope sc_L_row.N' ["_law_box_here", "_law_many"] (defScope s_L_row) :=
  ⟨rfl, rfl, rfl, by decide +kernel, rfl, by decide +kernel, by decide +kernel⟩
abbrev sc_L_marks.N' : List Str := ["_law_row_here", "_law_found", "_law_number", "_law_mark"]
theorem sc_L_marks : FnScope sc_L_marks.N' ["_law_row_here"] (defScope s_L_marks) :=
  ⟨rfl, rfl, rfl, by decide +kernel, rfl, by decide +kernel, by decide +kernel⟩
abbrev sc_L_text.N' : List Str := ["_law_row_here", "_law_words", "_law_thing"]
theorem sc_L_text : FnScope sc_L_text.N' ["_law_row_here"] (defScope s_L_text) :=
  ⟨rfl, rfl, rfl, by decide +kernel, rfl, by decide +kernel, by decide +kernel⟩
abbrev sc_L_names_right.N' : List Str := ["_law_strip", "_law_row_here", "_law_marks_here", "_law_name", "_law_some", "_law_one", "_law_other", "_law_second", "_law_few", "_law_within", "_law_place", "_law_up", "_law_mark"]
theorem sc_L_names_right : FnScope sc_L_names_right.N' ["_law_strip", "_law_row_here", "_law_marks_here"] (defScope s_L_names_right) :=
  ⟨rfl, rfl, rfl, by decide +kernel, rfl, by decide +kernel, by decide +kernel⟩
abbrev sc_L_told_right.N' : List Str := ["_law_strip", "_law_row_here", "_law_marks_here", "_law_turn", "_law_told", "_law_thing"]
theorem sc_L_told_right : FnScope sc_L_told_right.N' ["_law_strip", "_law_row_here"] (defScope s_L_told_right) :=
  ⟨rfl, rfl, rfl, by decide +kernel, rfl, by decide +kernel, by decide +kernel⟩
abbrev sc_L_fresh_right.N' : List Str := ["_law_row_here", "_law_marks_here", "_law_name", "_law_some", "_law_one", "_law_other", "_law_told", "_law_between", "_law_due", "_law_mark"]
theorem sc_L_fresh_right : FnScope sc_L_fresh_right.N' ["_law_row_here", "_law_marks_here"] (defScope s_L_fresh_right) :=
  ⟨rfl, rfl, rfl, by decide +kernel, rfl, by decide +kernel, by decide +kernel⟩
abbrev sc_law.N' : List Str := ["_law_script", "_law_k", "_law_box_here", "_law_row_here", "_law_handed", "_law_one", "_law_other"]
theorem sc_law : FnScope sc_law.N' ["_law_script"] (defScope s_law) :=
  ⟨rfl, rfl, rfl, by decide +kernel, rfl, by decide +kernel, by decide +kernel⟩
structure Txt (K : PySem.W.Frag) (mg : Str → Option Value) : Prop where
  z_bool : mg "bool" = none
  z_enumerate : mg "enumerate" = none
  z_int : mg "int" = none
  z_isinstance : mg "isinstance" = none
  z_len : mg "len" = none
  z_list : mg "list" = none
  z_max : mg "max" = none
  z_min : mg "min" = none
  z_range : mg "range" = none
  z_repr : mg "repr" = none
  z_str : mg "str" = none
  z_tuple : mg "tuple" = none
  g_EMPTY_PIECE : ∃ t, mg "EMPTY_PIECE" = some (.str "_" t)
  g_MOST_NAMES : ∃ t, mg "MOST_NAMES" = some (.int 12 t)
  g_NAME_LETTERS : ∃ t, mg "NAME_LETTERS" = some (.int 4 t)
section
variable {P : Program} {w : World} {K : PySem.W.Frag} {mg : Str → Option Value} {base : Heap}
theorem ok_cell {f : Addr} {fd : FuncData} (F : Fun K "_law_cell" "_law_cell" s_L_cell f fd) (T : Txt K mg) :
    FnOk P w K mg base CX0 1 f fd ["_law_script", "_law_k"] (Gd.spCell K) := by
  refine F.ok sc_L_cell (fun vs H Q E h => ?_) (fun cdv A outer s H vs Q E hr h => ?_)
  · obtain ⟨a, ns, k, rfl, _⟩ := h
    rfl
  · obtain ⟨a, ns, k, rfl, hS, hl, h0, h1, q⟩ := h
    refine ⟨_, (pss_cons (ps_if (pt_cmpR op_lt (pv 1) (pe_callB call_len_seq (by rfl) T.z_len (by decide +kernel) (pa_cons (pv 0) pa_nil)) (nomark _)) (pss_one (ps_ret (pe_ix ix_list (pv 0) (pv 1) (fun _ _ => rfl)))) pss_nil)
    (pss_one (ps_ret (pe_op op_add (pe_op op_mul pe_int (pv 1)) pe_int)))), ?_⟩
    refine ⟨_, rfl, _, rfl, a, _, rfl, .inl hS, _, _, rfl, rfl, _, rfl, ?_⟩
    refine ite2 (fun hlt => ?_) (fun _ => ?_)
    · have hk : k < (ns.length : Int) := by simpa [List.length_map] using of_decide_eq_true hlt
      have hk2 : k.toNat < ns.length := by omega
      refine ⟨_, rfl, _, rfl, a, _, k, V.int ns[k.toNat], rfl, rfl, hS, ?_, q _⟩
      unfold atI ixN
      rw [if_pos h0, List.length_map, if_pos hk]
      simp [hk2]
    · exact ⟨_, rfl, _, _, rfl, rfl, .inl ⟨by decide, by decide⟩, _, _, rfl, rfl, q _⟩
theorem ok_box {f : Addr} {fd : FuncData} (F : Fun K "_law_box" "_law_box" s_L_box f fd) (T : Txt K mg) :
    FnOk P w K mg base CX0 1 f fd ["_law_cell_here"] spBox := by
  refine F.ok sc_L_box (fun vs H Q E h => ?_) (fun cdv A outer s H vs Q E hr h => ?_)
  · obtain ⟨i, rfl, _⟩ := h
    rfl
  · obtain ⟨i, rfl, q⟩ := h
    refine ⟨_, (pss_one (ps_ret (pe_lst (pa_cons (pe_callB (call_max2 rfl) (by rfl) T.z_max (by decide +kernel) (pa_cons pe_int (pa_cons (pe_op op_sub (pv 0) (pe_op op_pow pe_int pe_int)) pa_nil))) (pa_cons (pe_op op_mod (pv 0) pe_int) (pa_cons pe_int pa_nil)))))), ?_⟩
    refine ⟨_, rfl, _, _, rfl, rfl, ⟨by decide, by decide, by decide⟩, _, _, rfl, rfl, _, _, rfl, ?_⟩
    refine ⟨_, rfl, _, _, rfl, rfl, (by decide : (0 : Int) < 2147483629), ?_⟩
    refine ⟨by show 3 ≤ sizeLine; decide, fun p hp => q p _ _ hp ?_ ?_⟩
    · exact Int.emod_nonneg _ (by decide)
    · exact Int.emod_lt_of_pos _ (by decide)
theorem ok_take {f : Addr} {fd : FuncData} (F : Fun K "_law_take" "_law_take" s_L_take f fd) (T : Txt K mg) :
    FnOk P w K mg base CX0 1 f fd ["_law_box_here", "_law_many"] spTake := by
  refine F.ok sc_L_take (fun vs H Q E h => ?_) (fun cdv A outer s H vs Q E hr h => ?_)
  · obtain ⟨a, c, n, rfl, _⟩ := h
    rfl
  · obtain ⟨a, c, n, rfl, ⟨x, y, z, hb, y0, y1, z0, z1⟩, hc, n0, n1, q⟩ := h
    refine ⟨_, (pss_cons (ps_if (pt_cmpR op_gt (pe_ix ix_list (pv 0) pe_int (fun _ _ => rfl)) pe_int (nomark _)) (pss_cons (ps_set (i := 2) sc_L_take.nd rfl (.inl rfl) (pe_op op_mod (pe_ix ix_list (pv 0) pe_int (fun _ _ => rfl)) (pv 1)))
    (pss_cons (ps_asg (pe_op op_fdiv (pe_ix ix_list (pv 0) pe_int (fun _ _ => rfl)) (pv 1)) (pg_sub (pv 0) pe_int set_list))
    (pss_one (ps_ret (pv 2))))) pss_nil)
    (pss_cons (ps_asg (pe_op op_add (pe_ix ix_list (pv 0) pe_int (fun _ _ => rfl)) pe_int) (pg_sub (pv 0) pe_int set_list))
    (pss_cons (ps_set (i := 3) sc_L_take.nd rfl (.inl rfl) (pe_op op_mod (pe_op op_pow (pe_op op_add (pe_op op_add (pe_ix ix_list (pv 0) pe_int (fun _ _ => rfl)) (pe_op op_mul pe_int (pe_ix ix_list (pv 0) pe_int (fun _ _ => rfl)))) pe_int) pe_int) pe_int))
    (pss_cons (ps_set (i := 3) sc_L_take.nd rfl (.inl rfl) (pe_op op_mod (pe_op op_pow (pe_op op_add (pv 3) (pe_op op_mul pe_int (pe_ix ix_list (pv 0) pe_int (fun _ _ => rfl)))) pe_int) pe_int))
    (pss_one (ps_ret (pe_op op_mod (pe_op op_fdiv (pv 3) pe_int) (pv 1)))))))), ?_⟩
    refine ⟨_, rfl, a, _, 0, _, rfl, rfl, SqL.of hb, rfl, _, _, rfl, rfl, _, rfl, ?_⟩
    refine ite2 (fun hx => ?_) (fun hx => ?_)
    · refine ⟨_, rfl, a, _, 0, _, rfl, rfl, SqL.of hb, rfl, _, rfl, _, _, rfl, rfl, n0, ?_⟩
      refine ⟨_, rfl, a, _, 0, _, rfl, rfl, SqL.of hb, rfl, _, rfl, _, _, rfl, rfl, ⟨n0, by omega⟩, ?_⟩
      refine ⟨_, rfl, a, _, 0, 0, rfl, rfl, hb, rfl, ?_⟩
      exact ⟨_, rfl, q _ _ Kp.at (BoxAt.drawn y0 y1 z0 (by omega)) (Int.emod_nonneg _ (by omega)) (Int.emod_lt_of_pos _ n0)⟩
    · refine ⟨_, rfl, a, _, 2, _, rfl, rfl, SqL.of hb, rfl, _, _, rfl, rfl, _, rfl, a, _, 2, 2, rfl, rfl, hb, rfl, ?_⟩
      have hb2 : upd H a (.lst [.int x, .int y, .int (z + 1)]) a = some (.lst [.int x, .int y, .int (z + 1)]) := upd_same
      refine ⟨_, rfl, a, _, 1, _, rfl, rfl, SqL.of hb2, rfl, _, rfl, a, _, 2, _, rfl, rfl, SqL.of hb2, rfl, _, _, rfl, rfl, .inl ⟨by decide, by decide⟩, _, _, rfl, rfl, _, _, rfl, rfl, ?_⟩
      refine ⟨_, _, rfl, rfl, ⟨by decide, by decide, by omega⟩, _, _, rfl, rfl, (show (0 : Int) < 2147483647 by decide), ?_⟩
      refine ⟨_, rfl, _, rfl, a, _, 2, _, rfl, rfl, SqL.of hb2, rfl, _, _, rfl, rfl, .inl ⟨by decide, by decide⟩, _, _, rfl, rfl, ?_⟩
      refine ⟨_, _, rfl, rfl, ⟨by decide, by decide, ?_⟩, _, _, rfl, rfl, (show (0 : Int) < 2147483587 by decide), ?_⟩
      · refine natAbs_small ?_ ?_ ?_ ?_
        · exact Int.emod_nonneg _ (by decide)
        · exact Int.emod_lt_of_pos _ (by decide)
        · omega
        · omega
      · refine ⟨_, rfl, _, _, rfl, rfl, ⟨by decide, by decide⟩, _, rfl, _, _, rfl, rfl, n0, ?_⟩
        exact q _ _ Kp.at (BoxAt.drawn y0 y1 (by omega) (by omega)) (Int.emod_nonneg _ (by omega)) (Int.emod_lt_of_pos _ n0)
end

section
variable {P : Program} {w : World} {K : PySem.W.Frag} {mg : Str → Option Value} {base : Heap}
theorem ok_piece {f : Addr} {fd : FuncData} (F : Fun K "_law_piece" "_law_piece" s_L_piece f fd) (T : Txt K mg)
    {f_L_take : Addr} {fd_L_take : FuncData} (D_L_take : Df K mg "_law_take" f_L_take fd_L_take ["_law_box_here", "_law_many"]) (G_L_take : FnOk P w K mg base CX0 1 f_L_take fd_L_take ["_law_box_here", "_law_many"] spTake) :
    FnOk P w K mg base CX0 2 f fd ["_law_box_here"] spPiece := by
  refine F.ok sc_L_piece (fun vs H Q E h => ?_) (fun cdv A outer s H vs Q E hr h => ?_)
  · obtain ⟨a, c, rfl, _⟩ := h
    rfl
  · obtain ⟨a, c, rfl, hb, hc, q⟩ := h
    refine ⟨_, (pss_cons (ps_set (i := 1) sc_L_piece.nd rfl (.inr rfl) pe_str)
    (C8.pss_cut (ps_set (i := 2) sc_L_piece.nd rfl (.inl rfl) (pe_ifExp (pt_cmpR op_eq (pe_call G_L_take (hr.mono (by first | decide | omega)) rfl D_L_take.g D_L_take.k D_L_take.b .nil pass0 (pa_cons (pv 0) (pa_cons pe_int pa_nil))) pe_int (nomark _)) (pe_ix ix_list (pe_lst (pa_cons pe_int (pa_cons pe_int (pa_cons pe_int (pa_cons pe_int (pa_cons pe_int pa_nil)))))) (pe_call G_L_take (hr.mono (by first | decide | omega)) rfl D_L_take.g D_L_take.k D_L_take.b .nil pass0 (pa_cons (pv 0) (pa_cons pe_int pa_nil))) (fun _ _ => rfl)) (pe_call G_L_take (hr.mono (by first | decide | omega)) rfl D_L_take.g D_L_take.k D_L_take.b .nil pass0 (pa_cons (pv 0) (pa_cons pe_int pa_nil)))))
    (pss_one (ps_ret (pe_bm PySem.F.plainAttrs_str PySem.F.slot_str_join PySem.F.type_str_join mt_join pe_str (pa_cons (pe_lc (own := [("_law_k", 3)]) (g := gName 3) (tt := tYes) rfl sc_L_piece.nd (pi_range1 (by rfl) T.z_range (pa_cons (pv 2) pa_nil)) (blkOk_by (N := sc_L_piece.N') (sc := defScope s_L_piece) (by decide +kernel)) (fun _ _ _ _ _ => (pg_name (i := 3) sc_L_piece.nd rfl (by first | exact Or.inl rfl | exact Or.inr rfl))) (fun _ _ _ _ _ => pts_nil) (fun _ _ _ _ _ => (pe_ix ix_str (pv 1) (pe_call G_L_take (hr.mono (by first | decide | omega)) rfl D_L_take.g D_L_take.k D_L_take.b .nil pass0 (pa_cons (pv 0) (pa_cons pe_int pa_nil))) (fun _ _ => rfl)))) pa_nil)))))), ?_⟩
    refine ⟨fun σ H' => ∃ (n : Int), σ = [some (.ref a), some (.str abC), some (.int n), none] ∧ 0 ≤ n ∧ n ≤ 40 ∧ Kp a H H' ∧ BoxAt H' a (c + 2), ?_, ?_⟩
    · refine ⟨_, rfl, a, c, 3, rfl, hb, by omega, by decide, by decide, fun r H1 k1 b1 r0 r1 => ?_⟩
      refine ⟨rfl, _, rfl, ?_⟩
      refine ite2 (fun _ => ?_) (fun _ => ?_)
      · refine ⟨(by show 5 ≤ sizeLine; decide), fun p hp => ?_⟩
        have np := b1.ne hp
        refine ⟨_, rfl, a, c + 1, 5, rfl, b1.upd np.symm, by omega, by decide, by decide, fun r2 H2 k2 b2 r20 r21 => ?_⟩
        obtain ⟨v, e1, n, rfl, n0, n1⟩ := atI_all (xs := [V.int 0, V.int 1, V.int 2, V.int 6, V.int 40]) (fun v => ∃ n : Int, v = .int n ∧ 0 ≤ n ∧ n ≤ 40) r20 (by simpa using r21) (by
          intro v hv
          simp only [List.mem_cons, List.not_mem_nil, or_false] at hv
          rcases hv with rfl | rfl | rfl | rfl | rfl <;> exact ⟨_, rfl, by decide, by decide⟩)
        refine ⟨p, _, r2, _, rfl, rfl, SqL.of (k2 _ _ np upd_same), e1, ?_⟩
        exact ⟨n, rfl, n0, n1, (k1.mut (k1.none b1 hp)).tr k2, b2⟩
      · refine ⟨_, rfl, a, c + 1, 4, rfl, b1, by omega, by decide, by decide, fun r2 H2 k2 b2 r20 r21 => ?_⟩
        exact ⟨r2, rfl, r20, by omega, k1.tr k2, b2⟩
    · rintro σ H1 ⟨n, rfl, n0, n1, k1, b1⟩
      refine ⟨tyS, _, rfl, n, rfl, by omega, by omega, fun D hD => lc_range (n := n.toNat) (fun i H' => ∃ cs : List Nat, H' D = some (.lst (cs.map fun c => V.str (one c))) ∧ cs.length = i ∧ (∀ c ∈ cs, letB c = true) ∧ Kp a H H' ∧ BoxAt H' a (c + 2 + i)) ?_ ?_ ?_⟩
      · exact ⟨[], upd_same, rfl, fun x hx => by simp at hx, k1.mut (k1.none b1 hD), b1.upd (b1.ne' hD)⟩
      · rintro i H6 hi ⟨cs, h6, hl, hall, k6, b6⟩
        have nD := b1.ne hD
        refine ⟨rfl, lcY ⟨_, rfl, _, rfl, a, _, 52, rfl, b6, by omega, by decide, by decide, fun r H7 k7 b7 z0 z1 => ?_⟩⟩
        obtain ⟨ch, e2, hch⟩ := abC_at z0 z1
        refine ⟨_, _, _, rfl, rfl, (by show 52 ≤ sizeLine; decide), e2, _, k7 _ _ nD h6, by rw [List.length_map]; exact lt_100 (by omega), cs ++ [ch], ?_, by simp [hl], ?_, ?_, ?_⟩
        · rw [upd_same, List.map_append]
          rfl
        · intro x hx
          rcases List.mem_append.mp hx with h | h
          · exact hall x h
          · have : x = ch := by simpa using h
            rw [this]
            exact hch
        · exact (k6.tr k7).mut (k1.none b1 hD)
        · exact (b7.up (by omega)).upd nD.symm
      rintro H6 ⟨cs, h6, hl, hall, k6, b6⟩
      refine ⟨_, D, cs.map one, rfl, rfl, .inl (SqL.of (by rw [List.map_map]; exact h6)), join_fits (k := 1) (n := 40) (fun y hy => by obtain ⟨x, _, rfl⟩ := List.mem_map.mp hy; exact Nat.le_refl 1) (by rw [List.length_map]; omega) (by decide), ?_⟩
      exact q _ _ k6 (b6.up (by omega)) (by rw [Gd.len_list, Gd.join_one]; omega) (pieceB_of (by rw [Gd.join_one]; exact hall))
end

/-! ### the program's rows -/
section
variable {P : Program} {w : World} {K : PySem.W.Frag} {mg : Str → Option Value} {base : Heap} {O : HO → Prop}
theorem ok_is_piece {f : Addr} {fd : FuncData} (F : Fun K "is_piece" "is_piece" s_is_piece f fd) (T : Txt K mg) (ho : OthOk K O) :
    FnOk P w K mg base CX0 1 f fd ["value"] (spB O isPiece) := by
  refine F.ok sc_is_piece (fun vs H Q E h => ?_) (fun cdv A outer s H vs Q E hr h => ?_)
  · obtain ⟨v, d, rfl, _⟩ := h
    rfl
  · obtain ⟨v, d, rfl, hv, q⟩ := h
    obtain ⟨t, ty, k1, _⟩ := hv.ty ho
    refine ⟨_, (pss_cons (ps_if (pt_not (pt_val (pe_callB call_isi (by rfl) T.z_isinstance (by decide +kernel) (pa_cons (pv 0) (pa_cons (pe_bltn (v := .ty "str") (by rfl) T.z_str (by decide +kernel) rfl) pa_nil))))) (pss_one (ps_ret pe_bl)) pss_nil)
    (pss_one (ps_ret (pe_or (pe_cmpR op_eq (pe_callB call_len_str (by rfl) T.z_len (by decide +kernel) (pa_cons (pv 0) pa_nil)) pe_int (nomark _)) (pe_one (pe_and (pe_bm0 PySem.F.plainAttrs_str PySem.F.slot_str_isascii PySem.F.type_str_isascii mt_isascii (pv 0)) (pe_one (pe_bm0 PySem.F.plainAttrs_str PySem.F.slot_str_isalpha PySem.F.type_str_isalpha mt_isalpha (pv 0))))))))), ?_⟩
    refine ⟨_, rfl, v, _, t, _, _, rfl, .ty _, ty, k1, _, rfl, ?_⟩
    cases hv with
    | str z hz =>
      refine iteF ⟨_, rfl, _, rfl, le_line (okS_len hz), rfl, _, rfl, ?_⟩
      have e := piece_of z
      rw [← dec_int0] at e
      refine ite2 (fun h0 => ?_) (fun h0 => ⟨_, rfl, tyS, z, rfl, rfl, trivial, _, rfl, ite2 (fun h1 => ⟨_, rfl, tyS, z, rfl, rfl, trivial, ?_⟩) (fun h1 => ?_)⟩)
      · rw [h0, Bool.true_or] at e
        exact bl_to e (q H (Ex.rfl' H))
      · rw [Bool.eq_false_iff.mpr h0, h1, Bool.false_or, Bool.true_and] at e
        exact bl_to e (q H (Ex.rfl' H))
      · rw [Bool.eq_false_iff.mpr h0, Bool.eq_false_iff.mpr h1, Bool.false_or, Bool.false_and] at e
        exact bl_to e (q H (Ex.rfl' H))
    | _ => exact iteT (q H (Ex.rfl' H))
theorem ok_is_name {f : Addr} {fd : FuncData} (F : Fun K "is_name" "is_name" s_is_name f fd) (T : Txt K mg) (ho : OthOk K O)
    {f_is_piece : Addr} {fd_is_piece : FuncData} (D_is_piece : Df K mg "is_piece" f_is_piece fd_is_piece ["value"]) (G_is_piece : FnOk P w K mg base CX0 1 f_is_piece fd_is_piece ["value"] (spB O isPiece)) :
    FnOk P w K mg base CX0 2 f fd ["value"] (spB O isName) := by
  refine F.ok sc_is_name (fun vs H Q E h => ?_) (fun cdv A outer s H vs Q E hr h => ?_)
  · obtain ⟨v, d, rfl, _⟩ := h
    rfl
  · obtain ⟨v, d, rfl, hv, q⟩ := h
    refine ⟨_, (pss_one (ps_ret (pe_and (pe_call G_is_piece (hr.mono (by first | decide | omega)) rfl D_is_piece.g D_is_piece.k D_is_piece.b .nil pass0 (pa_cons (pv 0) pa_nil)) (pe_and (pe_bm0 PySem.F.plainAttrs_str PySem.F.slot_str_islower PySem.F.type_str_islower mt_islower (pv 0)) (pe_one (pe_cmpR op_le (pe_callB call_len_str (by rfl) T.z_len (by decide +kernel) (pa_cons (pv 0) pa_nil)) (pe_const rfl T.g_NAME_LETTERS) (nomark _))))))), ?_⟩
    refine ⟨_, rfl, v, d, rfl, hv, fun H1 e1 => ⟨_, rfl, ?_⟩⟩
    have hv1 := hv.ex e1
    cases hv with
    | str z hz =>
      have e := name_of z
      refine ite2 (fun h0 => ⟨_, rfl, tyS, z, rfl, rfl, trivial, _, rfl, ite2 (fun h1 => ?_) (fun h1 => ?_)⟩) (fun h0 => ?_)
      · refine ⟨_, rfl, _, rfl, le_line (okS_len hz), _, _, rfl, rfl, ?_⟩
        have h0' : pieceB z = true := h0
        rw [h0', h1, Bool.true_and, Bool.true_and] at e
        exact bl_to e (q H1 e1)
      · have h0' : pieceB z = true := h0
        rw [h0', Bool.eq_false_iff.mpr h1, Bool.true_and, Bool.false_and] at e
        exact bl_to e (q H1 e1)
      · have h0' : pieceB z = false := Bool.eq_false_iff.mpr h0
        rw [h0', Bool.false_and] at e
        exact bl_to e (q H1 e1)
    | _ => exact iteF (q H1 e1)
theorem ok_is_marker {f : Addr} {fd : FuncData} (F : Fun K "is_marker" "is_marker" s_is_marker f fd) (T : Txt K mg) (ho : OthOk K O)
    {f_is_name : Addr} {fd_is_name : FuncData} (D_is_name : Df K mg "is_name" f_is_name fd_is_name ["value"]) (G_is_name : FnOk P w K mg base CX0 2 f_is_name fd_is_name ["value"] (spB O isName)) :
    FnOk P w K mg base CX0 3 f fd ["value"] (spB O isMark) := by
  refine F.ok sc_is_marker (fun vs H Q E h => ?_) (fun cdv A outer s H vs Q E hr h => ?_)
  · obtain ⟨v, d, rfl, _⟩ := h
    rfl
  · obtain ⟨v, d, rfl, hv, q⟩ := h
    obtain ⟨t, ty, _, _, _, k1, _⟩ := hv.ty ho
    refine ⟨_, (pss_cons (ps_if (PW.pt (pw_or (pt_not (pt_val (pe_callB call_isi (by rfl) T.z_isinstance (by decide +kernel) (pa_cons (pv 0) (pa_cons (pe_bltn (v := .ty "tuple") (by rfl) T.z_tuple (by decide +kernel) rfl) pa_nil))))) (pw_or1 (pt_cmpR op_ne (pe_callB call_len (by rfl) T.z_len (by decide +kernel) (pa_cons (pv 0) pa_nil)) pe_int (nomark _))))) (pss_one (ps_ret pe_bl)) pss_nil)
    (pss_one (ps_ret (pe_and (pe_call G_is_name (hr.mono (by first | decide | omega)) rfl D_is_name.g D_is_name.k D_is_name.b .nil pass0 (pa_cons (pe_ix ix_tup (pv 0) pe_int (fun _ _ => rfl)) pa_nil)) (pe_one (pe_callB call_isi (by rfl) T.z_isinstance (by decide +kernel) (pa_cons (pe_ix ix_tup (pv 0) pe_int (fun _ _ => rfl)) (pa_cons (pe_bltn (v := .ty "bool") (by rfl) T.z_bool (by decide +kernel) rfl) pa_nil)))))))), ?_⟩
    refine ⟨_, rfl, v, _, t, _, _, rfl, .ty _, ty, k1, _, rfl, ?_⟩
    cases hv with
    | @tup a vs ds ha hd hl =>
      refine iteF ⟨_, rfl, _, _, rfl, .inr ⟨vs, SqT.of ha, rfl⟩, rfl, _, rfl, ?_⟩
      have hlen := hd.length
      refine ite2 (fun h0 => ?_) (fun h0 => ?_)
      · have hn : ¬ ds.length = 2 := by
          intro h2
          rw [← hlen] at h2
          rw [h2] at h0
          exact absurd h0 (by decide)
        refine bl_to (b := isMark (.tup ds)) ?_ (q H (Ex.rfl' H))
        match ds, hn with
        | [], _ => rfl
        | [_], _ => rfl
        | [_, _], h => exact absurd rfl h
        | _ :: _ :: _ :: _, _ => rfl
      · have h2 : vs.length = 2 := by
          by_cases h : vs.length = 2
          · exact h
          · exfalso
            apply h0
            have : ¬ (V.int (vs.length : Int) = V.int 2) := fun e => h (by have := V.int.inj e; omega)
            rw [decide_eq_false this]
            rfl
        match vs, ds, hd, h2 with
        | [x, y], _, @DVs.cons _ _ _ dx _ _ hx (@DVs.cons _ _ _ dy _ _ hy .nil), _ =>
          obtain ⟨ty2, k2, _, kb, _⟩ := hy.ty ho
          refine ⟨_, rfl, a, _, 0, _, rfl, rfl, SqT.of ha, rfl, x, dx, rfl, hx, fun H1 e1 => ⟨_, rfl, ?_⟩⟩
          obtain ⟨ty3, k3, _, kb3, _⟩ := (hy.ex e1).ty ho
          refine ite2 (fun h5 => ⟨_, rfl, a, _, 1, _, rfl, rfl, SqT.of (e1 _ _ ha), rfl, y, _, ty3, _, _, rfl, .ty _, k3, kb3, ?_⟩) (fun h5 => ?_)
          · refine bl_to (b := isName dx && isBl dy) ?_ (q H1 e1)
            have h6 : isName dx = true := h5
            rw [h6, Bool.true_and]
          · refine bl_to (b := isName dx && isBl dy) ?_ (q H1 e1)
            have h6 : isName dx = false := Bool.eq_false_iff.mpr h5
            rw [h6, Bool.false_and]
    | _ => exact iteT (q H (Ex.rfl' H))
theorem ok_has_row_length {f : Addr} {fd : FuncData} (F : Fun K "has_row_length" "has_row_length" s_has_row_length f fd) (T : Txt K mg) (ho : OthOk K O) :
    FnOk P w K mg base CX0 1 f fd ["value"] (spB O oddLen) := by
  refine F.ok sc_has_row_length (fun vs H Q E h => ?_) (fun cdv A outer s H vs Q E hr h => ?_)
  · obtain ⟨v, d, rfl, _⟩ := h
    rfl
  · obtain ⟨v, d, rfl, hv, q⟩ := h
    refine ⟨_, (pss_one (ps_ret (pe_and (pe_callB call_isiT (by rfl) T.z_isinstance (by decide +kernel) (pa_cons (pv 0) (pa_cons (pe_tup (pa_cons (pe_bltn (v := .ty "list") (by rfl) T.z_list (by decide +kernel) rfl) (pa_cons (pe_bltn (v := .ty "tuple") (by rfl) T.z_tuple (by decide +kernel) rfl) pa_nil))) pa_nil))) (pe_one (pe_cmpR op_eq (pe_op op_mod (pe_callB call_len (by rfl) T.z_len (by decide +kernel) (pa_cons (pv 0) pa_nil)) pe_int) pe_int (nomark _)))))), ?_⟩
    refine ⟨_, rfl, by show 2 ≤ sizeLine; decide, fun p hp => ?_⟩
    have e1 : Ex H (upd H p (.tup [.ty "list", .ty "tuple"])) := Ex.new hp
    obtain ⟨t, ty, _, _, _, k1, k2⟩ := (hv.ex e1).ty ho
    refine ⟨v, p, _, t, _, _, rfl, upd_same, .cons (.ty _) (.cons (.ty _) .nil), ty, kit_two k2 k1, _, rfl, ?_⟩
    cases hv with
    | @tup a vs ds ha hd hl =>
      refine iteT ⟨_, rfl, _, _, rfl, .inr ⟨vs, SqT.of (e1 _ _ ha), rfl⟩, _, _, rfl, rfl, (by show (0 : Int) < 2; decide), rfl, ?_⟩
      refine bl_to ?_ (q _ e1)
      rw [odd_dec, hd.length]
      rfl
    | @lst a vs ds ha hd hl =>
      refine iteT ⟨_, rfl, _, _, rfl, .inl ⟨vs, SqL.of (e1 _ _ ha), rfl⟩, _, _, rfl, rfl, (by show (0 : Int) < 2; decide), rfl, ?_⟩
      refine bl_to ?_ (q _ e1)
      rw [odd_dec, hd.length]
      rfl
    | _ => exact iteF (q _ e1)
theorem ok_first_misfit {f : Addr} {fd : FuncData} (F : Fun K "first_misfit" "first_misfit" s_first_misfit f fd) (T : Txt K mg) (ho : OthOk K O)
    {f_is_piece : Addr} {fd_is_piece : FuncData} (D_is_piece : Df K mg "is_piece" f_is_piece fd_is_piece ["value"])
    {f_is_marker : Addr} {fd_is_marker : FuncData} (D_is_marker : Df K mg "is_marker" f_is_marker fd_is_marker ["value"]) (G_is_piece : FnOk P w K mg base CX0 1 f_is_piece fd_is_piece ["value"] (spB O isPiece)) (G_is_marker : FnOk P w K mg base CX0 3 f_is_marker fd_is_marker ["value"] (spB O isMark)) :
    FnOk P w K mg base CX0 4 f fd ["items"] (spMisfit O) := by
  refine F.ok sc_first_misfit (fun vs H Q E h => ?_) (fun cdv A outer s H vs Q E hr h => ?_)
  · obtain ⟨v, ds, rfl, _⟩ := h
    rfl
  · obtain ⟨v, ds, rfl, hv, q1, q2⟩ := h
    rcases hv with hv | hv
    · cases hv with
      | @lst a vs _ ha hd hl =>
      refine ⟨_, (pss_cons (ps_for PassesOwn.never rfl (pi_enum (by rfl) T.z_enumerate (pa_cons (pv 0) pa_nil)) (pg_tup (by rfl) (pgs_cons (pg_name (i := 1) sc_first_misfit.nd rfl (.inl rfl)) (pgs_cons (pg_name (i := 2) sc_first_misfit.nd rfl (.inl rfl)) pgs_nil)))
      (pss_cons (ps_set (i := 3) sc_first_misfit.nd rfl (.inl rfl) (pe_ifExp (pt_cmpR op_eq (pe_op op_mod (pv 1) pe_int) pe_int (nomark _)) (pe_call G_is_piece (hr.mono (by first | decide | omega)) rfl D_is_piece.g D_is_piece.k D_is_piece.b .nil pass0 (pa_cons (pv 2) pa_nil)) (pe_call G_is_marker (hr.mono (by first | decide | omega)) rfl D_is_marker.g D_is_marker.k D_is_marker.b .nil pass0 (pa_cons (pv 2) pa_nil))))
    (pss_one (ps_if (pt_not (pt_val (pv 3))) (pss_one (ps_ret (pv 1))) pss_nil))))
    (pss_one (ps_ret pe_non))), ?_⟩
      refine ⟨_, rfl, a, vs, rfl, SqL.of ha, ?_⟩
      refine for_enumL (K := K) (a := a) (xs := vs) (fun i σ H' => ∃ y1 y2 y3, σ = [some (.ref a), y1, y2, y3] ∧ Ex H H' ∧ misfit 0 ds = misfit i (ds.drop i))
        ⟨none, none, none, rfl, Ex.rfl' H, rfl⟩ (fun i σ H' _ ⟨_, _, _, _, e, _⟩ => SqL.of (e _ _ ha)) ?_ ?_
      · rintro i x σ H1 Tp hx ⟨y1, y2, y3, rfl, e1, hm⟩ hT
        have e2 := e1.tr (Ex.new (o := .tup [.int (i : Nat), x]) hT)
        obtain ⟨d, h1, h2⟩ := hd.get hx
        have hm2 := misfit_step h1 hm
        have hxd := h2.ex e2
        refine ⟨Tp, _, rfl, SqT.of upd_same, rfl, _, _, rfl, _, _, rfl, rfl, ?_⟩
        refine ⟨_, rfl, _, _, rfl, rfl, (by show (0 : Int) < 2; decide), rfl, _, rfl, ?_⟩
        rw [even_dec]
        refine ite2 (fun h0 => ?_) (fun h0 => ?_)
        · have h0' : i % 2 = 0 := of_decide_eq_true h0
          have hf : fits i d = isPiece d := by unfold fits; rw [if_pos h0']
          rw [hf] at hm2
          refine ⟨_, rfl, x, d, rfl, hxd, fun H3 e3 => ⟨_, rfl, _, rfl, ?_⟩⟩
          cases hq : isPiece d with
          | true => exact iteF ⟨_, _, _, rfl, e2.tr e3, hm2.1 hq⟩
          | false => exact iteT ⟨_, rfl, q2 _ _ (e2.tr e3) (hm2.2 (by rw [hq]; decide))⟩
        · have h0' : ¬ i % 2 = 0 := fun e => h0 (decide_eq_true e)
          have hf : fits i d = isMark d := by unfold fits; rw [if_neg h0']
          rw [hf] at hm2
          refine ⟨_, rfl, x, d, rfl, hxd, fun H3 e3 => ⟨_, rfl, _, rfl, ?_⟩⟩
          cases hq : isMark d with
          | true => exact iteF ⟨_, _, _, rfl, e2.tr e3, hm2.1 hq⟩
          | false => exact iteT ⟨_, rfl, q2 _ _ (e2.tr e3) (hm2.2 (by rw [hq]; decide))⟩
      · rintro σ H1 ⟨y1, y2, y3, rfl, e1, hm⟩
        refine q1 _ e1 ?_
        rw [hm, hd.length, List.drop_length]
        rfl
    · cases hv with
      | @tup a vs _ ha hd hl =>
      refine ⟨_, (pss_cons (ps_for PassesOwn.never rfl (pi_enumT (by rfl) T.z_enumerate (pa_cons (pv 0) pa_nil)) (pg_tup (by rfl) (pgs_cons (pg_name (i := 1) sc_first_misfit.nd rfl (.inl rfl)) (pgs_cons (pg_name (i := 2) sc_first_misfit.nd rfl (.inl rfl)) pgs_nil)))
      (pss_cons (ps_set (i := 3) sc_first_misfit.nd rfl (.inl rfl) (pe_ifExp (pt_cmpR op_eq (pe_op op_mod (pv 1) pe_int) pe_int (nomark _)) (pe_call G_is_piece (hr.mono (by first | decide | omega)) rfl D_is_piece.g D_is_piece.k D_is_piece.b .nil pass0 (pa_cons (pv 2) pa_nil)) (pe_call G_is_marker (hr.mono (by first | decide | omega)) rfl D_is_marker.g D_is_marker.k D_is_marker.b .nil pass0 (pa_cons (pv 2) pa_nil))))
    (pss_one (ps_if (pt_not (pt_val (pv 3))) (pss_one (ps_ret (pv 1))) pss_nil))))
    (pss_one (ps_ret pe_non))), ?_⟩
      refine ⟨_, rfl, a, vs, rfl, SqT.of ha, ?_⟩
      refine for_enumT (K := K) (a := a) (xs := vs) (fun i σ H' => ∃ y1 y2 y3, σ = [some (.ref a), y1, y2, y3] ∧ Ex H H' ∧ misfit 0 ds = misfit i (ds.drop i))
        ⟨none, none, none, rfl, Ex.rfl' H, rfl⟩ (fun i σ H' _ ⟨_, _, _, _, e, _⟩ => SqT.of (e _ _ ha)) ?_ ?_
      · rintro i x σ H1 Tp hx ⟨y1, y2, y3, rfl, e1, hm⟩ hT
        have e2 := e1.tr (Ex.new (o := .tup [.int (i : Nat), x]) hT)
        obtain ⟨d, h1, h2⟩ := hd.get hx
        have hm2 := misfit_step h1 hm
        have hxd := h2.ex e2
        refine ⟨Tp, _, rfl, SqT.of upd_same, rfl, _, _, rfl, _, _, rfl, rfl, ?_⟩
        refine ⟨_, rfl, _, _, rfl, rfl, (by show (0 : Int) < 2; decide), rfl, _, rfl, ?_⟩
        rw [even_dec]
        refine ite2 (fun h0 => ?_) (fun h0 => ?_)
        · have h0' : i % 2 = 0 := of_decide_eq_true h0
          have hf : fits i d = isPiece d := by unfold fits; rw [if_pos h0']
          rw [hf] at hm2
          refine ⟨_, rfl, x, d, rfl, hxd, fun H3 e3 => ⟨_, rfl, _, rfl, ?_⟩⟩
          cases hq : isPiece d with
          | true => exact iteF ⟨_, _, _, rfl, e2.tr e3, hm2.1 hq⟩
          | false => exact iteT ⟨_, rfl, q2 _ _ (e2.tr e3) (hm2.2 (by rw [hq]; decide))⟩
        · have h0' : ¬ i % 2 = 0 := fun e => h0 (decide_eq_true e)
          have hf : fits i d = isMark d := by unfold fits; rw [if_neg h0']
          rw [hf] at hm2
          refine ⟨_, rfl, x, d, rfl, hxd, fun H3 e3 => ⟨_, rfl, _, rfl, ?_⟩⟩
          cases hq : isMark d with
          | true => exact iteF ⟨_, _, _, rfl, e2.tr e3, hm2.1 hq⟩
          | false => exact iteT ⟨_, rfl, q2 _ _ (e2.tr e3) (hm2.2 (by rw [hq]; decide))⟩
      · rintro σ H1 ⟨y1, y2, y3, rfl, e1, hm⟩
        refine q1 _ e1 ?_
        rw [hm, hd.length, List.drop_length]
        rfl
end

/-! ### valid rows pass the checks -/
section
variable {P : Program} {w : World} {K : PySem.W.Frag} {mg : Str → Option Value} {base : Heap} {O : HO → Prop}
theorem ok_check_items {f : Addr} {fd : FuncData} (F : Fun K "check_items" "check_items" s_check_items f fd) (T : Txt K mg)
    {f_first_misfit : Addr} {fd_first_misfit : FuncData} (D_first_misfit : Df K mg "first_misfit" f_first_misfit fd_first_misfit ["items"]) (G_first_misfit : FnOk P w K mg base CX0 4 f_first_misfit fd_first_misfit ["items"] (spMisfit O)) :
    FnOk P w K mg base CX0 5 f fd ["items"] (spPass O) := by
  refine F.ok sc_check_items (fun vs H Q E h => ?_) (fun cdv A outer s H vs Q E hr h => ?_)
  · obtain ⟨v, d, rfl, _⟩ := h
    rfl
  · obtain ⟨v, d, rfl, hv, hr1, q⟩ := h
    obtain ⟨⟨ds, hd, hm⟩, _⟩ := isRow_cases hr1
    refine ⟨_, (pss_cons (ps_set (i := 1) sc_check_items.nd rfl (.inl rfl) (pe_call G_first_misfit (hr.mono (by first | decide | omega)) rfl D_first_misfit.g D_first_misfit.k D_first_misfit.b .nil pass0 (pa_cons (pv 0) pa_nil)))
    (pss_cons (ps_if (pt_cmp (pc_isN (pv 1))) (pss_one ps_retN) pss_nil)
    (pss_cons (ps_if (pt_cmpR op_eq (pe_op op_mod (pv 1) pe_int) pe_int (nomark _)) (pss_one ps_never) pss_nil)
    (pss_one ps_never)))), ?_⟩
    refine ⟨_, rfl, v, ds, rfl, ?_, fun H1 e1 _ => ?_, fun H1 i e1 h => ?_⟩
    · rcases hd with rfl | rfl
      · exact .inl hv
      · exact .inr hv
    · exact ⟨_, rfl, _, rfl, iteT (q _ e1)⟩
    · rw [hm] at h
      cases h
theorem ok_check_row {f : Addr} {fd : FuncData} (F : Fun K "check_row" "check_row" s_check_row f fd) (T : Txt K mg)
    {f_check_items : Addr} {fd_check_items : FuncData} (D_check_items : Df K mg "check_items" f_check_items fd_check_items ["items"])
    {f_has_row_length : Addr} {fd_has_row_length : FuncData} (D_has_row_length : Df K mg "has_row_length" f_has_row_length fd_has_row_length ["value"]) (G_has_row_length : FnOk P w K mg base CX0 1 f_has_row_length fd_has_row_length ["value"] (spB O oddLen)) (G_check_items : FnOk P w K mg base CX0 5 f_check_items fd_check_items ["items"] (spPass O)) :
    FnOk P w K mg base CX0 6 f fd ["row"] (spPass O) := by
  refine F.ok sc_check_row (fun vs H Q E h => ?_) (fun cdv A outer s H vs Q E hr h => ?_)
  · obtain ⟨v, d, rfl, _⟩ := h
    rfl
  · obtain ⟨v, d, rfl, hv, hr1, q⟩ := h
    obtain ⟨_, ho⟩ := isRow_cases hr1
    refine ⟨_, (pss_cons (ps_if (pt_not (pt_val (pe_call G_has_row_length (hr.mono (by first | decide | omega)) rfl D_has_row_length.g D_has_row_length.k D_has_row_length.b .nil pass0 (pa_cons (pv 0) pa_nil)))) (pss_one ps_never) pss_nil)
    (pss_one (ps_expr (pe_call G_check_items (hr.mono (by first | decide | omega)) rfl D_check_items.g D_check_items.k D_check_items.b .nil pass0 (pa_cons (pv 0) pa_nil))))), ?_⟩
    refine ⟨_, rfl, v, d, rfl, hv, fun H1 e1 => ⟨_, rfl, ?_⟩⟩
    rw [ho]
    exact iteF ⟨_, rfl, v, d, rfl, hv.ex e1, hr1, fun H2 e2 => q _ (e1.tr e2)⟩
end

/-- the promise of places_by_name -/
def spPlaces (O : HO → Prop) : Sp := fun vs H Q _ => ∃ (v : V) (z : Str) (l : List (Mk × Str)), vs = [v] ∧ (DV O H v (.lst (toD z l)) ∨ DV O H v (.tup (toD z l))) ∧ l.length ≤ 60 ∧
  ∀ (p : Addr) (kvs : List (Key × V)) (H' : Hp), Ex H H' → H p = none → H' p = some (.dK kvs) → Plc H p H' (nmOf l) (nmOf l).length kvs → Q (.ref p) H'
section
variable {P : Program} {w : World} {K : PySem.W.Frag} {mg : Str → Option Value} {base : Heap} {O : HO → Prop}
theorem ok_places {f : Addr} {fd : FuncData} (F : Fun K "places_by_name" "places_by_name" s_places_by_name f fd) (T : Txt K mg) :
    FnOk P w K mg base CX0 1 f fd ["row"] (spPlaces O) := by
  refine F.ok sc_places_by_name (fun vs H Q E h => ?_) (fun cdv A outer s H vs Q E hr h => ?_)
  · obtain ⟨v, z, l, rfl, _⟩ := h
    rfl
  · obtain ⟨v, z, l, rfl, hv, hl, q⟩ := h
    rcases hv with hv | hv
    · cases hv with
      | @lst a rv _ ha hd hrl =>
      have rlen : rv.length = 2 * l.length + 1 := by rw [hd.length, toD_len]
      have hl1 : 1 ≤ rv.length := by omega
      have hdo : DVs O H (odds rv) (l.map fun p => mkD p.1) := by
        have := dvs_odds hd
        rwa [show Gd.odds (toD z l) = l.map fun p => mkD p.1 from odds_toD l _] at this
      refine ⟨_, (pss_cons (ps_set (i := 1) sc_places_by_name.nd rfl (.inl rfl) pe_dnewK)
    (pss_cons (ps_for PassesOwn.never rfl (pi_enum (by rfl) T.z_enumerate (pa_cons (pe_sliceS ss_twoL (pv 0) (po_some pe_int) po_none (po_some pe_int)) pa_nil)) (pg_tup (by rfl) (pgs_cons (pg_name (i := 2) sc_places_by_name.nd rfl (.inl rfl)) (pgs_cons (pg_tup (by rfl) (pgs_cons (pg_name (i := 3) sc_places_by_name.nd rfl (.inl rfl)) (pgs_cons (pg_name (i := 4) sc_places_by_name.nd rfl (.inl rfl)) pgs_nil))) pgs_nil)))
      (pss_one (ps_expr (pe_bm PySem.F.plainAttrs_list PySem.F.slot_list_append PySem.F.type_list_append mt_append (pe_dsetd (pv 1) (pv 3) (pe_lst pa_nil) ⟨by rfl, by rfl, by rfl, by rfl⟩) (pa_cons (pv 2) pa_nil)))))
    (pss_one (ps_ret (pv 1))))), ?_⟩
      refine fun p hp => ?_
      have e1 : Ex H (upd H p (.dK [])) := Ex.new hp
      have h1 : upd H p (.dK []) p = some (.dK []) := upd_same
      generalize upd H p (.dK []) = H1 at e1 h1 ⊢
      refine ⟨_, rfl, _, rfl, _, rfl, a, rv, rfl, SqL.of (e1 _ _ ha), rfl, rfl, .inr ⟨rfl, fun o ho => ?_⟩⟩
      have e2 : Ex H (upd H1 o (.lst (odds rv))) := e1.tr (Ex.new ho)
      have npo : p ≠ o := ne_of_none h1 ho
      have h2 : upd H1 o (.lst (odds rv)) p = some (.dK []) := (upd_ne npo).trans h1
      have ho2 : upd H1 o (.lst (odds rv)) o = some (.lst (odds rv)) := upd_same
      have fo : H o = none := e1.free ho
      generalize upd H1 o (.lst (odds rv)) = H2 at e2 h2 ho2 ⊢
      clear ho h1 e1
      have ol : (odds rv).length = l.length := by rw [hdo.length, List.length_map]
      refine ⟨o, odds rv, rfl, SqL.of ho2, ?_⟩
      refine for_enumL (K := K) (a := o) (xs := odds rv) (fun i σ H' => ∃ y2 y3 y4 kvs, σ = [some (.ref a), some (.ref p), y2, y3, y4] ∧ Ex H H' ∧ H' o = some (.lst (odds rv)) ∧ H' p = some (.dK kvs) ∧ Plc H p H' (nmOf l) i kvs ∧ ∀ k, (k, V.ref o) ∉ kvs)
        ⟨none, none, none, [], rfl, e2, ho2, h2, PlcV.nil, fun _ h => by simp at h⟩ (fun i σ H' _ ⟨_, _, _, _, _, _, e, _⟩ => SqL.of e) ?_ ?_
      · rintro i x σ H3 Tp hx ⟨y2, y3, y4, kvs, rfl, e3, ho3, h3, P3, no⟩ hT
        obtain ⟨d, hdi, hxd⟩ := hdo.get hx
        rw [List.getElem?_map] at hdi
        obtain ⟨pr, hpr, rfl⟩ := Option.map_eq_some_iff.mp hdi
        have hnm : (nmOf l)[i]? = some pr.1.1 := by rw [nmOf, List.getElem?_map, hpr]; rfl
        have hi : i < l.length := (List.getElem?_eq_some_iff.mp hpr).1
        obtain ⟨t, rfl, ht⟩ := mark_val hxd
        have ntp := ne_of_none h3 hT
        have nto := ne_of_none ho3 hT
        have e4 : Ex H (upd H3 Tp (.tup [.int (i : Nat), .ref t])) := e3.tr (Ex.new hT)
        have P4 : Plc H p (upd H3 Tp (.tup [.int (i : Nat), .ref t])) (nmOf l) i kvs := P3.kp (Kp.of (Ex.new hT))
        have h4 := (upd_ne (o := .tup [V.int (i : Nat), .ref t]) ntp).trans h3
        have ho4 := (upd_ne (o := .tup [V.int (i : Nat), .ref t]) nto).trans ho3
        have hT4 : upd H3 Tp (.tup [.int (i : Nat), .ref t]) Tp = some (.tup [.int (i : Nat), .ref t]) := upd_same
        generalize upd H3 Tp (.tup [.int (i : Nat), .ref t]) = H4 at e4 P4 h4 ho4 hT4 ⊢
        refine ⟨Tp, _, rfl, SqT.of hT4, rfl, _, _, rfl, _, _, rfl, ⟨t, _, rfl, SqT.of (e4 _ _ ht), rfl, _, _, rfl, _, _, rfl, rfl, rfl, ?_⟩⟩
        refine ⟨_, rfl, p, rfl, .inl ⟨kvs, .inl h4⟩, _, rfl, (by show 0 ≤ sizeLine; decide), fun zz hzz => ?_⟩
        have npz := ne_of_none h4 hzz
        have noz := ne_of_none ho4 hzz
        have e5 : Ex H (upd H4 zz (.lst [])) := e4.tr (Ex.new hzz)
        have P5 : Plc H p (upd H4 zz (.lst [])) (nmOf l) i kvs := P4.kp (Kp.of (Ex.new hzz))
        have h5 := (upd_ne (o := .lst []) npz).trans h4
        have ho5 := (upd_ne (o := .lst []) noz).trans ho4
        have hz5 : upd H4 zz (.lst []) zz = some (.lst []) := upd_same
        have fz : H zz = none := e4.free hzz
        refine ⟨kvs, Sum.inr pr.1.1, h5, rfl, Nat.lt_of_le_of_lt (show kvs.length ≤ 100 by have := P4.len; omega) (by decide), fun v hv' => ?_, fun hv' => ?_⟩
        · have hm := valV_mem hv'
          obtain ⟨x, b, ex, rfl, gb, nbp, hb5, hx5⟩ := P5.at_ _ _ hm
          cases ex
          generalize upd H4 zz (.lst []) = H5 at e5 P5 h5 ho5 hb5 ⊢
          have nbo : b ≠ o := fun e => no _ (e ▸ hm)
          have lb : (intsV (occ (nmOf l) pr.1.1 i)).length ≤ 200 := by
            have := occ_len (nmOf l) pr.1.1 i
            have h3 := List.count_le_length (a := pr.1.1) (l := (nmOf l).take i)
            rw [List.length_take] at h3
            simp only [intsV, List.length_map]
            omega
          refine ⟨.inl ⟨rfl, _, SqL.of hb5⟩, _, rfl, b, _, _, rfl, rfl, hb5, lt_200 lb, ?_⟩
          exact ⟨_, _, _, kvs, rfl, e5.mut gb, (upd_ne nbo.symm).trans ho5, (upd_ne nbp.symm).trans h5, P5.old hm hnm, no⟩
        · rw [put_new hv']
          have e6 : Ex H (upd (upd H4 zz (.lst [])) p (.dK (kvs ++ [(Sum.inr pr.1.1, .ref zz)]))) := e5.mut hp
          have hz6 := (upd_ne (o := .dK (kvs ++ [(Sum.inr pr.1.1, V.ref zz)])) npz.symm).trans hz5
          have npo' : o ≠ p := npo.symm
          have ho6 := (upd_ne (o := .dK (kvs ++ [(Sum.inr pr.1.1, V.ref zz)])) npo').trans ho5
          have h6 : upd (upd H4 zz (.lst [])) p (.dK (kvs ++ [(Sum.inr pr.1.1, .ref zz)])) p = some (.dK (kvs ++ [(Sum.inr pr.1.1, .ref zz)])) := upd_same
          have k6 : Kp p H4 (upd (upd H4 zz (.lst [])) p (.dK (kvs ++ [(Sum.inr pr.1.1, .ref zz)]))) := (Kp.of (Ex.new hzz)).tr Kp.at
          have P6 := P4.new hnm hv' fz npz.symm hzz _ k6
          generalize upd (upd H4 zz (.lst [])) p (.dK (kvs ++ [(Sum.inr pr.1.1, .ref zz)])) = H6 at e6 hz6 ho6 h6 P6 ⊢
          refine ⟨.inl ⟨rfl, _, SqL.of hz6⟩, _, rfl, zz, _, _, rfl, rfl, hz6, lt_200 (by simp), ?_⟩
          refine ⟨_, _, _, kvs ++ [(Sum.inr pr.1.1, .ref zz)], rfl, e6.mut fz, (upd_ne noz).trans ho6, (upd_ne npz).trans h6, by rw [List.nil_append]; exact P6, fun k hk => ?_⟩
          rcases List.mem_append.mp hk with hk | hk
          · exact no k hk
          · have e : (k, V.ref o) = (Sum.inr pr.1.1, V.ref zz) := by simpa using hk
            cases e
            exact noz rfl
      · rintro σ H3 ⟨y2, y3, y4, kvs, rfl, e3, ho3, h3, P3, no⟩
        rw [ol] at P3
        exact ⟨_, rfl, q p kvs H3 e3 hp h3 (by rw [show (nmOf l).length = l.length by simp [nmOf]]; exact P3)⟩
    · cases hv with
      | @tup a rv _ ha hd hrl =>
      have rlen : rv.length = 2 * l.length + 1 := by rw [hd.length, toD_len]
      have hl1 : 1 ≤ rv.length := by omega
      have hdo : DVs O H (odds rv) (l.map fun p => mkD p.1) := by
        have := dvs_odds hd
        rwa [show Gd.odds (toD z l) = l.map fun p => mkD p.1 from odds_toD l _] at this
      refine ⟨_, (pss_cons (ps_set (i := 1) sc_places_by_name.nd rfl (.inl rfl) pe_dnewK)
    (pss_cons (ps_for PassesOwn.never rfl (pi_enumT (by rfl) T.z_enumerate (pa_cons (pe_sliceS ss_twoT (pv 0) (po_some pe_int) po_none (po_some pe_int)) pa_nil)) (pg_tup (by rfl) (pgs_cons (pg_name (i := 2) sc_places_by_name.nd rfl (.inl rfl)) (pgs_cons (pg_tup (by rfl) (pgs_cons (pg_name (i := 3) sc_places_by_name.nd rfl (.inl rfl)) (pgs_cons (pg_name (i := 4) sc_places_by_name.nd rfl (.inl rfl)) pgs_nil))) pgs_nil)))
      (pss_one (ps_expr (pe_bm PySem.F.plainAttrs_list PySem.F.slot_list_append PySem.F.type_list_append mt_append (pe_dsetd (pv 1) (pv 3) (pe_lst pa_nil) ⟨by rfl, by rfl, by rfl, by rfl⟩) (pa_cons (pv 2) pa_nil)))))
    (pss_one (ps_ret (pv 1))))), ?_⟩
      refine fun p hp => ?_
      have e1 : Ex H (upd H p (.dK [])) := Ex.new hp
      have h1 : upd H p (.dK []) p = some (.dK []) := upd_same
      generalize upd H p (.dK []) = H1 at e1 h1 ⊢
      refine ⟨_, rfl, _, rfl, _, rfl, a, rv, rfl, SqT.of (e1 _ _ ha), hl1, rfl, rfl, .inr ⟨rfl, fun o ho => ?_⟩⟩
      have e2 : Ex H (upd H1 o (.tup (odds rv))) := e1.tr (Ex.new ho)
      have npo : p ≠ o := ne_of_none h1 ho
      have h2 : upd H1 o (.tup (odds rv)) p = some (.dK []) := (upd_ne npo).trans h1
      have ho2 : upd H1 o (.tup (odds rv)) o = some (.tup (odds rv)) := upd_same
      have fo : H o = none := e1.free ho
      generalize upd H1 o (.tup (odds rv)) = H2 at e2 h2 ho2 ⊢
      clear ho h1 e1
      have ol : (odds rv).length = l.length := by rw [hdo.length, List.length_map]
      refine ⟨o, odds rv, rfl, SqT.of ho2, ?_⟩
      refine for_enumT (K := K) (a := o) (xs := odds rv) (fun i σ H' => ∃ y2 y3 y4 kvs, σ = [some (.ref a), some (.ref p), y2, y3, y4] ∧ Ex H H' ∧ H' o = some (.tup (odds rv)) ∧ H' p = some (.dK kvs) ∧ Plc H p H' (nmOf l) i kvs ∧ ∀ k, (k, V.ref o) ∉ kvs)
        ⟨none, none, none, [], rfl, e2, ho2, h2, PlcV.nil, fun _ h => by simp at h⟩ (fun i σ H' _ ⟨_, _, _, _, _, _, e, _⟩ => SqT.of e) ?_ ?_
      · rintro i x σ H3 Tp hx ⟨y2, y3, y4, kvs, rfl, e3, ho3, h3, P3, no⟩ hT
        obtain ⟨d, hdi, hxd⟩ := hdo.get hx
        rw [List.getElem?_map] at hdi
        obtain ⟨pr, hpr, rfl⟩ := Option.map_eq_some_iff.mp hdi
        have hnm : (nmOf l)[i]? = some pr.1.1 := by rw [nmOf, List.getElem?_map, hpr]; rfl
        have hi : i < l.length := (List.getElem?_eq_some_iff.mp hpr).1
        obtain ⟨t, rfl, ht⟩ := mark_val hxd
        have ntp := ne_of_none h3 hT
        have nto := ne_of_none ho3 hT
        have e4 : Ex H (upd H3 Tp (.tup [.int (i : Nat), .ref t])) := e3.tr (Ex.new hT)
        have P4 : Plc H p (upd H3 Tp (.tup [.int (i : Nat), .ref t])) (nmOf l) i kvs := P3.kp (Kp.of (Ex.new hT))
        have h4 := (upd_ne (o := .tup [V.int (i : Nat), .ref t]) ntp).trans h3
        have ho4 := (upd_ne (o := .tup [V.int (i : Nat), .ref t]) nto).trans ho3
        have hT4 : upd H3 Tp (.tup [.int (i : Nat), .ref t]) Tp = some (.tup [.int (i : Nat), .ref t]) := upd_same
        generalize upd H3 Tp (.tup [.int (i : Nat), .ref t]) = H4 at e4 P4 h4 ho4 hT4 ⊢
        refine ⟨Tp, _, rfl, SqT.of hT4, rfl, _, _, rfl, _, _, rfl, ⟨t, _, rfl, SqT.of (e4 _ _ ht), rfl, _, _, rfl, _, _, rfl, rfl, rfl, ?_⟩⟩
        refine ⟨_, rfl, p, rfl, .inl ⟨kvs, .inl h4⟩, _, rfl, (by show 0 ≤ sizeLine; decide), fun zz hzz => ?_⟩
        have npz := ne_of_none h4 hzz
        have noz := ne_of_none ho4 hzz
        have e5 : Ex H (upd H4 zz (.lst [])) := e4.tr (Ex.new hzz)
        have P5 : Plc H p (upd H4 zz (.lst [])) (nmOf l) i kvs := P4.kp (Kp.of (Ex.new hzz))
        have h5 := (upd_ne (o := .lst []) npz).trans h4
        have ho5 := (upd_ne (o := .lst []) noz).trans ho4
        have hz5 : upd H4 zz (.lst []) zz = some (.lst []) := upd_same
        have fz : H zz = none := e4.free hzz
        refine ⟨kvs, Sum.inr pr.1.1, h5, rfl, Nat.lt_of_le_of_lt (show kvs.length ≤ 100 by have := P4.len; omega) (by decide), fun v hv' => ?_, fun hv' => ?_⟩
        · have hm := valV_mem hv'
          obtain ⟨x, b, ex, rfl, gb, nbp, hb5, hx5⟩ := P5.at_ _ _ hm
          cases ex
          generalize upd H4 zz (.lst []) = H5 at e5 P5 h5 ho5 hb5 ⊢
          have nbo : b ≠ o := fun e => no _ (e ▸ hm)
          have lb : (intsV (occ (nmOf l) pr.1.1 i)).length ≤ 200 := by
            have := occ_len (nmOf l) pr.1.1 i
            have h3 := List.count_le_length (a := pr.1.1) (l := (nmOf l).take i)
            rw [List.length_take] at h3
            simp only [intsV, List.length_map]
            omega
          refine ⟨.inl ⟨rfl, _, SqL.of hb5⟩, _, rfl, b, _, _, rfl, rfl, hb5, lt_200 lb, ?_⟩
          exact ⟨_, _, _, kvs, rfl, e5.mut gb, (upd_ne nbo.symm).trans ho5, (upd_ne nbp.symm).trans h5, P5.old hm hnm, no⟩
        · rw [put_new hv']
          have e6 : Ex H (upd (upd H4 zz (.lst [])) p (.dK (kvs ++ [(Sum.inr pr.1.1, .ref zz)]))) := e5.mut hp
          have hz6 := (upd_ne (o := .dK (kvs ++ [(Sum.inr pr.1.1, V.ref zz)])) npz.symm).trans hz5
          have npo' : o ≠ p := npo.symm
          have ho6 := (upd_ne (o := .dK (kvs ++ [(Sum.inr pr.1.1, V.ref zz)])) npo').trans ho5
          have h6 : upd (upd H4 zz (.lst [])) p (.dK (kvs ++ [(Sum.inr pr.1.1, .ref zz)])) p = some (.dK (kvs ++ [(Sum.inr pr.1.1, .ref zz)])) := upd_same
          have k6 : Kp p H4 (upd (upd H4 zz (.lst [])) p (.dK (kvs ++ [(Sum.inr pr.1.1, .ref zz)]))) := (Kp.of (Ex.new hzz)).tr Kp.at
          have P6 := P4.new hnm hv' fz npz.symm hzz _ k6
          generalize upd (upd H4 zz (.lst [])) p (.dK (kvs ++ [(Sum.inr pr.1.1, .ref zz)])) = H6 at e6 hz6 ho6 h6 P6 ⊢
          refine ⟨.inl ⟨rfl, _, SqL.of hz6⟩, _, rfl, zz, _, _, rfl, rfl, hz6, lt_200 (by simp), ?_⟩
          refine ⟨_, _, _, kvs ++ [(Sum.inr pr.1.1, .ref zz)], rfl, e6.mut fz, (upd_ne noz).trans ho6, (upd_ne npz).trans h6, by rw [List.nil_append]; exact P6, fun k hk => ?_⟩
          rcases List.mem_append.mp hk with hk | hk
          · exact no k hk
          · have e : (k, V.ref o) = (Sum.inr pr.1.1, V.ref zz) := by simpa using hk
            cases e
            exact noz rfl
      · rintro σ H3 ⟨y2, y3, y4, kvs, rfl, e3, ho3, h3, P3, no⟩
        rw [ol] at P3
        exact ⟨_, rfl, q p kvs H3 e3 hp h3 (by rw [show (nmOf l).length = l.length by simp [nmOf]]; exact P3)⟩
end

/-! ### strips -/
section
variable {P : Program} {w : World} {K : PySem.W.Frag} {mg : Str → Option Value} {base : Heap} {O : HO → Prop} {C_Strip : Addr}
theorem ok_strip_init {f : Addr} {fd : FuncData} (F : Fun K "__init__" "Strip.__init__" s_Strip_init f fd) (T : Txt K mg) (TC_Strip : StripCls K C_Strip) {f_check_row : Addr} {fd_check_row : FuncData} (D_check_row : Df K mg "check_row" f_check_row fd_check_row ["row"])
    {f_places_by_name : Addr} {fd_places_by_name : FuncData} (D_places_by_name : Df K mg "places_by_name" f_places_by_name fd_places_by_name ["row"])
    (G_check_row : FnOk P w K mg base CX0 6 f_check_row fd_check_row ["row"] (spPass O)) (G_places_by_name : FnOk P w K mg base CX0 1 f_places_by_name fd_places_by_name ["row"] (spPlaces O)) :
    FnOk P w K mg base CX0 7 f fd ["self", "row"] (spInit O C_Strip) := by
  refine F.ok sc_Strip_init (fun vs H Q E h => ?_) (fun cdv A outer s H vs Q E hr h => ?_)
  · obtain ⟨x, dx, v, z, l, G, rfl, _⟩ := h
    rfl
  · obtain ⟨x, dx, v, z, l, G, rfl, hx, eG, gx, hv, ok, q⟩ := h
    have hu := hu_of hr
    have hvH : ∀ H', Ex H H' → DV O H' v (.lst (toD z l)) ∨ DV O H' v (.tup (toD z l)) := fun H' e => hv.imp (·.ex (eG.tr e)) (·.ex (eG.tr e))
    obtain ⟨d, hd, hrow⟩ : ∃ d, DV O H v d ∧ isRow d = true := by
      rcases hvH H (Ex.rfl' H) with h | h
      · exact ⟨_, h, ok.ok.row.1⟩
      · exact ⟨_, h, ok.ok.row.2⟩
    have nl : (nmOf l).length = l.length := by simp [nmOf]
    have few := ok.few
    refine ⟨_, (pss_cons (ps_expr (pe_call G_check_row (hr.mono (by first | decide | omega)) rfl D_check_row.g D_check_row.k D_check_row.b .nil pass0 (pa_cons (pv 1) pa_nil)))
    (pss_cons (ps_set (i := 2) sc_Strip_init.nd rfl (.inr rfl) (pe_call G_places_by_name (hr.mono (by first | decide | omega)) rfl D_places_by_name.g D_places_by_name.k D_places_by_name.b .nil pass0 (pa_cons (pv 1) pa_nil)))
    (pss_cons (ps_lock (ps_for PassesOwn.never rfl (pi_keys (pv 2)) (pg_name (i := 3) sc_Strip_init.nd rfl (.inl rfl))
      (pss_one (ps_if (pt_cmpR op_ne (pe_callB call_len_seq (by rfl) T.z_len (by decide +kernel) (pa_cons (pe_dget hu (pv 2) (pv 3) (fun _ _ => rfl)) pa_nil)) pe_int (nomark _)) (pss_one ps_never) pss_nil))))
    (pss_cons (ps_if (pt_cmpR op_gt (pe_callB call_lenD (by rfl) T.z_len (by decide +kernel) (pa_cons (pv 2) pa_nil)) (pe_const rfl T.g_MOST_NAMES) (nomark _)) (pss_one ps_never) pss_nil)
    (pss_cons (ps_fld (pv 0) (pe_callTy call_list_of (by rfl) T.z_list (by decide +kernel) (pa_cons (pv 1) pa_nil)) rfl)
    (pss_one (ps_fld (pv 0) (pe_lock (pe_dc (own := [("name", 3)]) (g := gName 3) (tt := tYes) rfl sc_Strip_init.nd (pi_keys (pv 2)) (blkOk_by (N := sc_Strip_init.N') (sc := defScope s_Strip_init) (by decide +kernel)) (fun _ _ _ _ _ => (pg_name (i := 3) sc_Strip_init.nd rfl (by first | exact Or.inl rfl | exact Or.inr rfl))) (fun _ _ _ _ _ => pts_nil) (fun _ _ _ _ _ => (pv 3)) (fun _ _ _ _ _ => (pe_callTy (call_tuple_ofK (K := K) rfl) (by rfl) T.z_tuple (by decide +kernel) (pa_cons (pe_dget hu (pv 2) (pv 3) (fun _ _ => rfl)) pa_nil))))) rfl))))))), ?_⟩
    refine ⟨_, rfl, v, d, rfl, hd, hrow, fun H1 e1 => ?_⟩
    refine ⟨_, rfl, v, z, l, rfl, hvH _ e1, by omega, fun p kvs H2 e2 hp h2 P2 => ?_⟩
    -- each name twice
    refine ⟨p, _, h2, trivial, fun od => ?_⟩
    have e4 : Ex H1 (upd H2 p (.frz od (.dK kvs))) := e2.mut hp
    have P4 : Plc H1 p (upd H2 p (.frz od (.dK kvs))) (nmOf l) (nmOf l).length kvs := P2.kp Kp.at
    have h4 : upd H2 p (.frz od (.dK kvs)) p = some (.frz od (.dK kvs)) := upd_same
    generalize upd H2 p (.frz od (.dK kvs)) = H4 at e4 P4 h4 ⊢
    clear P2 h2 e2
    refine ⟨_, rfl, p, od, rfl, .inl ⟨kvs, h4, ?_⟩⟩
    refine for_it (walk_keys (o := od) (d := p) (kvs := kvs)) (fun i σ H' => ∃ y3, σ = [some (.ref x), some v, some (.ref p), y3] ∧ Ex H1 H' ∧ H' p = some (.frz od (.dK kvs)) ∧ Plc H1 p H' (nmOf l) (nmOf l).length kvs)
      ⟨none, rfl, e4, h4, P4⟩ (fun i σ H' _ ⟨_, _, _, h, _⟩ => h) ?_ ?_
    · rintro i y σ H5o H5 hi ⟨y3, rfl, e5, h5, P5⟩ ⟨rfl, k, w', hk, rfl⟩
      have hm := List.mem_of_getElem? hk
      obtain ⟨nm, b, rfl, rfl, gb, nbp, hb, hx5⟩ := P5.at_ _ _ hm
      rw [List.take_length] at hx5
      refine ⟨_, rfl, _, rfl, p, _, rfl, .inl ⟨kvs, Sum.inr nm, .inr ⟨od, h5⟩, rfl, (valV_in P5.nd hm).symm⟩, b, _, rfl, .inl (SqL.of hb), ?_⟩
      have two := two_occ ok.two hx5
      rw [two.1]
      exact ⟨rfl, _, rfl, iteF ⟨_, rfl, e5, h5, P5⟩⟩
    rintro σ H5 ⟨y3, rfl, e5, h5, P5⟩
    refine ⟨h5, ?_⟩
    have e6 : Ex H1 (upd H5 p (.dK kvs)) := e5.mut hp
    have P6 : Plc H1 p (upd H5 p (.dK kvs)) (nmOf l) (nmOf l).length kvs := P5.kp Kp.at
    have h6 : upd H5 p (.dK kvs) p = some (.dK kvs) := upd_same
    generalize upd H5 p (.dK kvs) = H6 at e6 P6 h6 ⊢
    clear P5 h5 e5 P4 h4 e4
    have kl : kvs.length ≤ 12 := by
      have h1 := congrArg List.length P6.keys
      rw [List.length_map, List.length_map] at h1
      have := ok.twelve
      omega
    refine ⟨_, rfl, p, kvs, rfl, h6, _, _, rfl, rfl, _, rfl, ?_⟩
    rw [show decide ((kvs.length : Int) > 12) = false from decide_eq_false (by omega)]
    refine iteF ?_
    -- the row
    have e06 := e1.tr e6
    obtain ⟨a, rv, rfl, hrv, hdv⟩ : ∃ (a : Addr) (rv : List V), v = .ref a ∧ (SqL K H6 a rv ∨ SqT K H6 a rv) ∧ DVs O G rv (toD z l) := by
      rcases hv with h | h
      · cases h with
        | lst ha hd _ => exact ⟨_, _, rfl, .inl (SqL.of (e06 _ _ (eG _ _ ha))), hd⟩
      · cases h with
        | tup ha hd _ => exact ⟨_, _, rfl, .inr (SqT.of (e06 _ _ (eG _ _ ha))), hd⟩
    refine ⟨_, rfl, a, rv, rfl, hrv, fun r hr0 => ?_⟩
    have hx6 := e06 _ _ hx
    have frH : H r = none := e06.free hr0
    have nrx := ne_of_none hx6 hr0
    have nrp := ne_of_none h6 hr0
    have hx7 := (upd_ne (o := .lst rv) nrx).trans hx6
    refine ⟨_, rfl, x, C_Strip, dx, [], rfl, hx7, TC_Strip.cl, TC_Strip.nR, by decide, ?_⟩
    have k8 : Kp x H (upd (upd H6 r (.lst rv)) x (.ins C_Strip dx (putF "_row" (.ref r) []))) := ((Kp.of e06).tr (Kp.of (Ex.new hr0))).tr Kp.at
    have hx8 : upd (upd H6 r (.lst rv)) x (.ins C_Strip dx (putF "_row" (.ref r) [])) x = some (.ins C_Strip dx [("_row", .ref r)]) := upd_same
    have hr8 : upd (upd H6 r (.lst rv)) x (.ins C_Strip dx (putF "_row" (.ref r) [])) r = some (.lst rv) := (upd_ne nrx.symm).trans upd_same
    have npx : p ≠ x := fun e => by rw [e] at h6; rw [h6] at hx6; cases hx6
    have h8 : upd (upd H6 r (.lst rv)) x (.ins C_Strip dx (putF "_row" (.ref r) [])) p = some (.dK kvs) := (upd_ne npx).trans ((upd_ne nrp).trans h6)
    have gxH : ∀ k, (k, V.ref x) ∉ kvs := fun k hk => by
      obtain ⟨_, b, _, e, _, _, hb, _⟩ := P6.at_ _ _ hk
      cases e
      rw [hx6] at hb
      cases hb
    have P8 : Plc H1 p (upd (upd H6 r (.lst rv)) x (.ins C_Strip dx (putF "_row" (.ref r) []))) (nmOf l) (nmOf l).length kvs := (P6.kp (Kp.of (Ex.new hr0))).free gxH
    generalize upd (upd H6 r (.lst rv)) x (.ins C_Strip dx (putF "_row" (.ref r) [])) = H8 at k8 hx8 hr8 h8 P8 ⊢
    clear hx7 nrx nrp hx6 hr0 hrv e06 P6 h6 e6
    -- the places
    refine ⟨p, _, h8, trivial, fun od2 => ?_⟩
    have hpH : H p = none := e1.free hp
    have k9 : Kp x H (upd H8 p (.frz od2 (.dK kvs))) := k8.mut hpH
    have hx9 := (upd_ne (o := .frz od2 (.dK kvs)) npx.symm).trans hx8
    have nrp : r ≠ p := fun e => by rw [e, h8] at hr8; cases hr8
    have hr9 := (upd_ne (o := .frz od2 (.dK kvs)) nrp).trans hr8
    have h9 : upd H8 p (.frz od2 (.dK kvs)) p = some (.frz od2 (.dK kvs)) := upd_same
    have P9 : Plc H1 p (upd H8 p (.frz od2 (.dK kvs))) (nmOf l) (nmOf l).length kvs := P8.kp Kp.at
    generalize upd H8 p (.frz od2 (.dK kvs)) = H9 at k9 hx9 hr9 h9 P9 ⊢
    clear P8 h8 hr8 hx8 k8
    refine ⟨_, rfl, p, od2, rfl, .inl ⟨kvs, h9, fun D hD => ?_⟩⟩
    have nDx := ne_of_none hx9 hD
    have nDr := ne_of_none hr9 hD
    have nDp := ne_of_none h9 hD
    have fD : H D = none := k9.free nDx.symm hD
    have gD : ∀ k, (k, V.ref D) ∉ kvs := fun k hk => by
      obtain ⟨_, b, _, e, _, _, hb, _⟩ := P9.at_ _ _ hk
      cases e
      rw [hD] at hb
      cases hb
    refine dc_it (walk_keys (o := od2) (d := p) (kvs := kvs)) (fun i H' => ∃ ks : List (Key × V), Kp x H H' ∧ H' x = some (.ins C_Strip dx [("_row", .ref r)]) ∧ H' r = some (.lst rv) ∧ H' p = some (.frz od2 (.dK kvs)) ∧ Plc H1 p H' (nmOf l) (nmOf l).length kvs ∧
        H' D = some (.dK ks) ∧ ks.map (·.1) = (kvs.map (·.1)).take i ∧ ∀ y v, ((Sum.inr y : Key), v) ∈ ks → ∃ t, v = .ref t ∧ t ≠ D ∧ H' t = some (.tup (intsV (occ (nmOf l) y (nmOf l).length))))
      ⟨[], k9.mut fD, (upd_ne nDx).trans hx9, (upd_ne nDr).trans hr9, (upd_ne nDp).trans h9, P9.free gD, upd_same, by simp, fun _ _ h => by simp at h⟩ (fun i H' _ ⟨_, _, _, _, h, _⟩ => h) ?_ ?_
    · rintro i y Ho H10 hi ⟨ks, k10, hx10, hr10, h10, P10, hD10, kk, at10⟩ ⟨rfl, k, w', hk, rfl⟩
      have hm := List.mem_of_getElem? hk
      obtain ⟨nm, b, rfl, rfl, gb, nbp, hb, hx5⟩ := P10.at_ _ _ hm
      rw [List.take_length] at hx5
      refine ⟨rfl, lcY ⟨_, rfl, _, rfl, _, rfl, p, _, rfl, .inl ⟨kvs, Sum.inr nm, .inr ⟨od2, h10⟩, rfl, (valV_in P10.nd hm).symm⟩, b, _, rfl, .inl ⟨SqL.of hb, fun t ht => ?_⟩⟩⟩
      have kmap : (kvs.map (·.1))[i]? = some (Sum.inr nm) := by rw [List.getElem?_map, hk]; rfl
      have nin : (Sum.inr nm : Key) ∉ ks.map (·.1) := by
        rw [kk]
        exact nd_next P10.nd kmap
      have lks : ks.length ≤ 12 := by
        have h1 := congrArg List.length kk
        rw [List.length_map, List.length_take, List.length_map] at h1
        omega
      have nDt := ne_of_none hD10 ht
      have hD11 := (upd_ne (o := .tup ((occ (nmOf l) nm (nmOf l).length).map fun (n : Nat) => V.int (n : Int))) nDt).trans hD10
      refine ⟨ks, Sum.inr nm, rfl, hD11, lt_200 (by omega), ks ++ [(Sum.inr nm, .ref t)], ?_⟩
      rw [put_new (valV_of_no nin)]
      have ntx := ne_of_none hx10 ht
      have ntr := ne_of_none hr10 ht
      have ntp := ne_of_none h10 ht
      have ftH : H t = none := k10.free ntx.symm ht
      have P11 := (P10.kp (Kp.of (Ex.new (o := .tup ((occ (nmOf l) nm (nmOf l).length).map fun (n : Nat) => V.int (n : Int))) ht))).free (o := .dK (ks ++ [(Sum.inr nm, .ref t)])) gD
      refine ⟨(k10.mut ftH).mut fD, (upd_ne nDx).trans ((upd_ne ntx).trans hx10), (upd_ne nDr).trans ((upd_ne ntr).trans hr10), (upd_ne nDp).trans ((upd_ne ntp).trans h10), P11, upd_same, ?_, fun y v hyv => ?_⟩
      · rw [List.map_append, kk, List.take_add_one, kmap]
        rfl
      · rcases List.mem_append.mp hyv with hyv | hyv
        · obtain ⟨t', rfl, nt, ht'⟩ := at10 y v hyv
          exact ⟨t', rfl, nt, (upd_ne nt).trans ((upd_ne (ne_of_none ht' ht)).trans ht')⟩
        · have e : ((Sum.inr y : Key), v) = (Sum.inr nm, V.ref t) := by simpa using hyv
          cases e
          exact ⟨t, rfl, nDt.symm, (upd_ne nDt.symm).trans upd_same⟩
    · rintro H10 ⟨ks, k10, hx10, hr10, h10, P10, hD10, kk, at10⟩
      refine ⟨h10, ?_⟩
      have kk2 : ks.map (·.1) = (fsts (nmOf l) (nmOf l).length).map Sum.inr := by
        rw [kk, ← P10.keys]
        apply List.take_of_length_le
        rw [List.length_map]
        exact Nat.le_refl _
      have hx11 := (upd_ne (o := .dK kvs) npx.symm).trans hx10
      refine ⟨_, rfl, x, C_Strip, dx, _, rfl, hx11, TC_Strip.cl, TC_Strip.nP, (by show 1 < 1000; decide), ?_⟩
      have kf : Kp x H (upd (upd H10 p (.dK kvs)) x (.ins C_Strip dx (putF "_places" (.ref D) [("_row", .ref r)]))) := (k10.mut hpH).tr Kp.at
      have nrx : r ≠ x := fun e => by rw [e, hx10] at hr10; cases hr10
      have fr := (upd_ne (o := .ins C_Strip dx (putF "_places" (.ref D) [("_row", .ref r)])) nrx).trans ((upd_ne (o := .dK kvs) nrp).trans hr10)
      have fx : upd (upd H10 p (.dK kvs)) x (.ins C_Strip dx (putF "_places" (.ref D) [("_row", .ref r)])) x = some (.ins C_Strip dx [("_row", .ref r), ("_places", .ref D)]) := upd_same
      have fd := (upd_ne (o := .ins C_Strip dx (putF "_places" (.ref D) [("_row", .ref r)])) nDx.symm).trans ((upd_ne (o := .dK kvs) nDp.symm).trans hD10)
      have ft : ∀ y v, ((Sum.inr y : Key), v) ∈ ks → ∃ t, v = .ref t ∧ upd (upd H10 p (.dK kvs)) x (.ins C_Strip dx (putF "_places" (.ref D) [("_row", .ref r)])) t = some (.tup (intsV (occ (nmOf l) y (nmOf l).length))) := fun y v hyv => by
        obtain ⟨t, rfl, nt, ht⟩ := at10 y v hyv
        have ntx : t ≠ x := fun e => by rw [e, hx10] at ht; cases ht
        have ntp : t ≠ p := fun e => by rw [e, h10] at ht; cases ht
        exact ⟨t, rfl, (upd_ne ntx).trans ((upd_ne ntp).trans ht)⟩
      have fv := DVs.ex (eG.kp gx kf) _ _ hdv
      generalize upd (upd H10 p (.dK kvs)) x (.ins C_Strip dx (putF "_places" (.ref D) [("_row", .ref r)])) = Hf at kf fr fx fd ft fv ⊢
      refine q _ kf ⟨ok, dx, r, D, rv, ks, fx, fr, fv, fd, kk2, ft⟩ fun u us hus => ?_
      have nxu : x ≠ u := fun e => by rw [← e, hx] at hus; cases hus
      have huf : Hf u = some (.lst us) := kf _ _ nxu.symm hus
      have nru : r ≠ u := fun e => by rw [← e, frH] at hus; cases hus
      have nDu : D ≠ u := fun e => by rw [← e, fD] at hus; cases hus
      refine ⟨ok, dx, r, D, rv, ks, (hide_ne nxu).trans fx, (hide_ne nru).trans fr, dvs_hide huf (ok.ok.it (L := 50000) ok.small (by decide) (by decide)) fv, (hide_ne nDu).trans fd, kk2, fun y v hyv => ?_⟩
      obtain ⟨t, rfl, ht⟩ := ft y v hyv
      have ntu : t ≠ u := fun e => by rw [e, huf] at ht; cases ht
      exact ⟨t, rfl, (hide_ne ntu).trans ht⟩
end

/-! ### the methods of strips -/
section
variable {P : Program} {w : World} {K : PySem.W.Frag} {mg : Str → Option Value} {base : Heap} {O : HO → Prop} {C_Strip : Addr}
theorem ok_strip_row {f : Addr} {fd : FuncData} (F : Fun K "row" "Strip.row" s_Strip_row f fd) (T : Txt K mg) (TC_Strip : StripCls K C_Strip) :
    FnOk P w K mg base CX0 1 f fd ["self"] (spSt O C_Strip fun z l H Q => NewL O H H (toD z l) Q) := by
  refine F.ok sc_Strip_row (fun vs H Q E h => ?_) (fun cdv A outer s H vs Q E hr h => ?_)
  · obtain ⟨x, z, l, rfl, _⟩ := h
    rfl
  · obtain ⟨x, z, l, rfl, S, q⟩ := h
    obtain ⟨dx, r, p, rv, kvs, h1, h2, h3, h4, h5⟩ := S.at_
    refine ⟨_, (pss_one (ps_ret (pe_callTy call_list_of (by rfl) T.z_list (by decide +kernel) (pa_cons (pe_fld (pv 0) rfl) pa_nil)))), ?_⟩
    exact ⟨_, rfl, x, C_Strip, dx, _, _, rfl, h1, TC_Strip.cl, TC_Strip.nR, rfl, r, rv, rfl, .inl (SqL.of h2), fun u hu => q u rv _ (Ex.new hu) hu upd_same h3⟩
theorem ok_strip_names {f : Addr} {fd : FuncData} (F : Fun K "names" "Strip.names" s_Strip_names f fd) (T : Txt K mg) (TC_Strip : StripCls K C_Strip) :
    FnOk P w K mg base CX0 1 f fd ["self"] (spSt O C_Strip fun z l H Q => NewV H ((fsts (nmOf l) (nmOf l).length).map V.str) Q) := by
  refine F.ok sc_Strip_names (fun vs H Q E h => ?_) (fun cdv A outer s H vs Q E hr h => ?_)
  · obtain ⟨x, z, l, rfl, _⟩ := h
    rfl
  · obtain ⟨x, z, l, rfl, S, q⟩ := h
    obtain ⟨dx, r, p, rv, kvs, h1, h2, h3, h4, h5⟩ := S.at_
    refine ⟨_, (pss_one (ps_ret (pe_callTy (call_list_dK rfl) (by rfl) T.z_list (by decide +kernel) (pa_cons (pe_fld (pv 0) rfl) pa_nil)))), ?_⟩
    refine ⟨_, rfl, x, C_Strip, dx, _, _, rfl, h1, TC_Strip.cl, TC_Strip.nP, rfl, p, kvs, rfl, h4, fun u hu => q u _ (Ex.new hu) hu ?_⟩
    rw [upd_same]
    have e := congrArg (List.map kV) h5.keys
    rw [List.map_map, List.map_map] at e
    exact congrArg (fun l => some (HO.lst l)) e
theorem ok_strip_pieces {f : Addr} {fd : FuncData} (F : Fun K "pieces" "Strip.pieces" s_Strip_pieces f fd) (T : Txt K mg) (TC_Strip : StripCls K C_Strip) :
    FnOk P w K mg base CX0 1 f fd ["self"] (spSt O C_Strip fun z l H Q => NewV H ((z :: l.map (·.2)).map V.str) Q) := by
  refine F.ok sc_Strip_pieces (fun vs H Q E h => ?_) (fun cdv A outer s H vs Q E hr h => ?_)
  · obtain ⟨x, z, l, rfl, _⟩ := h
    rfl
  · obtain ⟨x, z, l, rfl, S, q⟩ := h
    obtain ⟨dx, r, p, rv, kvs, h1, h2, h3, h4, h5⟩ := S.at_
    refine ⟨_, (pss_one (ps_ret (pe_sliceS ss_twoL (pe_fld (pv 0) rfl) po_none po_none (po_some pe_int)))), ?_⟩
    refine ⟨_, rfl, x, C_Strip, dx, _, _, rfl, h1, TC_Strip.cl, TC_Strip.nR, rfl, _, rfl, r, rv, rfl, SqL.of h2, rfl, rfl, .inl ⟨rfl, fun u hu => q u _ (Ex.new hu) hu ?_⟩⟩
    rw [upd_same, evens_toD h3]
theorem ok_strip_check {f : Addr} {fd : FuncData} (F : Fun K "_check_name" "Strip._check_name" s_Stripcheck_name f fd) (T : Txt K mg) (TC_Strip : StripCls K C_Strip) {f_is_name : Addr} {fd_is_name : FuncData} (D_is_name : Df K mg "is_name" f_is_name fd_is_name ["value"])
    (G_is_name : FnOk P w K mg base CX0 2 f_is_name fd_is_name ["value"] (spB O isName)) :
    FnOk P w K mg base CX0 3 f fd ["self", "name"] (spSt1 O C_Strip fun z l y H Q => Val H .non Q) := by
  refine F.ok sc_Stripcheck_name (fun vs H Q E h => ?_) (fun cdv A outer s H vs Q E hr h => ?_)
  · obtain ⟨x, z, l, y, rfl, _⟩ := h
    rfl
  · obtain ⟨x, z, l, y, rfl, S, hy, q⟩ := h
    have hu := hu_of hr
    have hn := S.ok.name hy
    refine ⟨_, (pss_one (ps_if (PW.pt (pw_or (pt_not (pt_val (pe_call G_is_name (hr.mono (by first | decide | omega)) rfl D_is_name.g D_is_name.k D_is_name.b .nil pass0 (pa_cons (pv 1) pa_nil)))) (pw_or1 (pt_cmp (pc_dnotin hu (pv 1) (pe_fld (pv 0) rfl)))))) (pss_one ps_never) pss_nil)), ?_⟩
    refine ⟨_, rfl, .str y, .str y, rfl, .str y (nameB_ok hn), fun H1 e1 => ⟨_, rfl, ?_⟩⟩
    rw [show isName (.str y) = true from hn]
    have S1 := S.ex e1
    obtain ⟨dx, r, p, rv, kvs, h1, h2, h3, h4, h5⟩ := S1.at_
    obtain ⟨t, ht, _⟩ := h5.get hy
    refine iteF ⟨_, rfl, _, rfl, x, C_Strip, dx, _, _, rfl, h1, TC_Strip.cl, TC_Strip.nP, rfl, p, some (.ref t), rfl, .inl ⟨kvs, Sum.inr y, .inl h4, rfl, ht.symm⟩, _, rfl, ?_⟩
    exact iteF (q _ e1)
theorem ok_strip_places {f : Addr} {fd : FuncData} (F : Fun K "places" "Strip.places" s_Strip_places f fd) (T : Txt K mg) (TC_Strip : StripCls K C_Strip) {f_Stripcheck_name : Addr} {fd_Stripcheck_name : FuncData} (D_Stripcheck_name : Dm K C_Strip "_check_name" f_Stripcheck_name fd_Stripcheck_name ["self", "name"])
    (G_Stripcheck_name : FnOk P w K mg base CX0 3 f_Stripcheck_name fd_Stripcheck_name ["self", "name"] (spSt1 O C_Strip fun z l y H Q => Val H .non Q)) :
    FnOk P w K mg base CX0 4 f fd ["self", "name"] (spSt1 O C_Strip fun z l y H Q => ∀ t H', Ex H H' → H t = some (.tup [.int (plc (nmOf l) y 0 : Nat), .int (plc (nmOf l) y 1 : Nat)]) → Q (.ref t) H') := by
  refine F.ok sc_Strip_places (fun vs H Q E h => ?_) (fun cdv A outer s H vs Q E hr h => ?_)
  · obtain ⟨x, z, l, y, rfl, _⟩ := h
    rfl
  · obtain ⟨x, z, l, y, rfl, S, hy, q⟩ := h
    have hu := hu_of hr
    refine ⟨_, (pss_cons (ps_expr (pe_meth (pv 0) TC_Strip.cl D_Stripcheck_name.m G_Stripcheck_name (hr.mono (by first | decide | omega)) D_Stripcheck_name.b .nil pass0 (pa_cons (pv 1) pa_nil)))
    (pss_one (ps_ret (pe_dget hu (pe_fld (pv 0) rfl) (pv 1) (fun _ _ => rfl))))), ?_⟩
    obtain ⟨dx, r, p, rv, kvs, h1, h2, h3, h4, h5⟩ := S.at_
    obtain ⟨t, ht, htt⟩ := h5.get hy
    rw [(two_occ S.ok.two hy).1] at htt
    refine ⟨_, rfl, x, dx, _, rfl, h1, rfl, _, rfl, x, z, l, y, rfl, S, hy, fun H1 e1 => ?_⟩
    exact ⟨_, rfl, x, C_Strip, dx, _, _, rfl, e1 _ _ h1, TC_Strip.cl, TC_Strip.nP, rfl, _, rfl, p, _, rfl, .inl ⟨kvs, Sum.inr y, .inl (e1 _ _ h4), rfl, ht.symm⟩, q t H1 e1 htt⟩
theorem ok_strip_upright {f : Addr} {fd : FuncData} (F : Fun K "_upright" "Strip._upright" s_Stripupright f fd) (T : Txt K mg) (TC_Strip : StripCls K C_Strip) :
    FnOk P w K mg base CX0 1 f fd ["self", "place"] (fun vs H Q _ => ∃ x z l k, vs = [.ref x, .int (k : Nat)] ∧ StripAt O C_Strip H x z l ∧ k < l.length ∧ Q (.bl (upOf l k)) H) := by
  refine F.ok sc_Stripupright (fun vs H Q E h => ?_) (fun cdv A outer s H vs Q E hr h => ?_)
  · obtain ⟨x, z, l, k, rfl, _⟩ := h
    rfl
  · obtain ⟨x, z, l, k, rfl, S, hk, q⟩ := h
    refine ⟨_, (pss_one (ps_ret (pe_ix ix_tup (pe_ix ix_list (pe_fld (pv 0) rfl) (pe_op op_add (pe_op op_mul pe_int (pv 1)) pe_int) (fun _ _ => rfl)) pe_int (fun _ _ => rfl)))), ?_⟩
    obtain ⟨dx, r, p, rv, kvs, h1, h2, h3, h4, h5⟩ := S.at_
    obtain ⟨pr, hpr⟩ : ∃ pr, l[k]? = some pr := ⟨_, List.getElem?_eq_getElem hk⟩
    obtain ⟨xm, em, _, dxm⟩ := row_at h3 (toD_mk (z := z) hpr)
    obtain ⟨t, rfl, ht⟩ := mark_val dxm
    have em' : atI rv (2 * (k : Int) + 1) = some (.ref t) := by rw [← em]; congr 1
    rw [upOf_at hpr] at q
    exact ⟨_, rfl, x, C_Strip, dx, _, _, rfl, h1, TC_Strip.cl, TC_Strip.nR, rfl, _, rfl, _, _, rfl, rfl, .inl ⟨by decide, by decide⟩, _, _, rfl, rfl, r, rv, _, _, rfl, rfl, SqL.of h2, em', t, _, 1, _, rfl, rfl, SqT.of ht, rfl, q⟩
theorem ok_strip_orient {f : Addr} {fd : FuncData} (F : Fun K "orientations" "Strip.orientations" s_Strip_orientations f fd) (T : Txt K mg) (TC_Strip : StripCls K C_Strip) {f_Stripcheck_name : Addr} {fd_Stripcheck_name : FuncData} (D_Stripcheck_name : Dm K C_Strip "_check_name" f_Stripcheck_name fd_Stripcheck_name ["self", "name"])
    {f_Stripupright : Addr} {fd_Stripupright : FuncData} (D_Stripupright : Dm K C_Strip "_upright" f_Stripupright fd_Stripupright ["self", "place"])
    (G_Stripcheck_name : FnOk P w K mg base CX0 3 f_Stripcheck_name fd_Stripcheck_name ["self", "name"] (spSt1 O C_Strip fun z l y H Q => Val H .non Q))
    (G_Stripupright : FnOk P w K mg base CX0 1 f_Stripupright fd_Stripupright ["self", "place"] (fun vs H Q _ => ∃ x z l k, vs = [.ref x, .int (k : Nat)] ∧ StripAt O C_Strip H x z l ∧ k < l.length ∧ Q (.bl (upOf l k)) H)) :
    FnOk P w K mg base CX0 4 f fd ["self", "name"] (spSt1 O C_Strip fun z l y H Q => NewU H [.bl (upOf l (plc (nmOf l) y 0)), .bl (upOf l (plc (nmOf l) y 1))] Q) := by
  refine F.ok sc_Strip_orientations (fun vs H Q E h => ?_) (fun cdv A outer s H vs Q E hr h => ?_)
  · obtain ⟨x, z, l, y, rfl, _⟩ := h
    rfl
  · obtain ⟨x, z, l, y, rfl, S, hy, q⟩ := h
    have hu := hu_of hr
    refine ⟨_, (pss_cons (ps_expr (pe_meth (pv 0) TC_Strip.cl D_Stripcheck_name.m G_Stripcheck_name (hr.mono (by first | decide | omega)) D_Stripcheck_name.b .nil pass0 (pa_cons (pv 1) pa_nil)))
    (pss_cons (ps_asg (pe_dget hu (pe_fld (pv 0) rfl) (pv 1) (fun _ _ => rfl)) (pg_tup (by rfl) (pgs_cons (pg_name (i := 2) sc_Strip_orientations.nd rfl (.inl rfl)) (pgs_cons (pg_name (i := 3) sc_Strip_orientations.nd rfl (.inl rfl)) pgs_nil))))
    (pss_one (ps_ret (pe_tup (pa_cons (pe_meth (pv 0) TC_Strip.cl D_Stripupright.m G_Stripupright (hr.mono (by first | decide | omega)) D_Stripupright.b .nil pass0 (pa_cons (pv 2) pa_nil)) (pa_cons (pe_meth (pv 0) TC_Strip.cl D_Stripupright.m G_Stripupright (hr.mono (by first | decide | omega)) D_Stripupright.b .nil pass0 (pa_cons (pv 3) pa_nil)) pa_nil))))))), ?_⟩
    obtain ⟨dx, r, p, rv, kvs, h1, h2, h3, h4, h5⟩ := S.at_
    obtain ⟨t, ht, htt⟩ := h5.get hy
    obtain ⟨o1, o2, o3, o4, o5⟩ := two_occ S.ok.two hy
    rw [o1] at htt
    have nl : (nmOf l).length = l.length := by simp [nmOf]
    refine ⟨_, rfl, x, dx, _, rfl, h1, rfl, _, rfl, x, z, l, y, rfl, S, hy, fun H1 e1 => ?_⟩
    refine ⟨_, rfl, x, C_Strip, dx, _, _, rfl, e1 _ _ h1, TC_Strip.cl, TC_Strip.nP, rfl, _, rfl, p, _, rfl, .inl ⟨kvs, Sum.inr y, .inl (e1 _ _ h4), rfl, ht.symm⟩, t, _, rfl, SqT.of (e1 _ _ htt), rfl, _, _, rfl, _, _, rfl, rfl, ?_⟩
    refine ⟨_, rfl, x, dx, _, rfl, e1 _ _ h1, rfl, _, rfl, x, z, l, _, rfl, S.ex e1, by omega, _, rfl, x, dx, _, rfl, e1 _ _ h1, rfl, _, rfl, x, z, l, _, rfl, S.ex e1, by omega, (by show 2 ≤ sizeLine; decide), fun u hu2 => ?_⟩
    exact q u _ (e1.tr (Ex.new hu2)) (e1.free hu2) upd_same
theorem ok_strip_direct {f : Addr} {fd : FuncData} (F : Fun K "is_direct" "Strip.is_direct" s_Strip_is_direct f fd) (T : Txt K mg) (TC_Strip : StripCls K C_Strip) {f_Strip_orientations : Addr} {fd_Strip_orientations : FuncData} (D_Strip_orientations : Dm K C_Strip "orientations" f_Strip_orientations fd_Strip_orientations ["self", "name"])
    (G_Strip_orientations : FnOk P w K mg base CX0 4 f_Strip_orientations fd_Strip_orientations ["self", "name"] (spSt1 O C_Strip fun z l y H Q => NewU H [.bl (upOf l (plc (nmOf l) y 0)), .bl (upOf l (plc (nmOf l) y 1))] Q)) :
    FnOk P w K mg base CX0 5 f fd ["self", "name"] (spSt1 O C_Strip fun z l y H Q => Val H (.bl (upOf l (plc (nmOf l) y 0) == upOf l (plc (nmOf l) y 1))) Q) := by
  refine F.ok sc_Strip_is_direct (fun vs H Q E h => ?_) (fun cdv A outer s H vs Q E hr h => ?_)
  · obtain ⟨x, z, l, y, rfl, _⟩ := h
    rfl
  · obtain ⟨x, z, l, y, rfl, S, hy, q⟩ := h
    refine ⟨_, (pss_cons (ps_asg (pe_meth (pv 0) TC_Strip.cl D_Strip_orientations.m G_Strip_orientations (hr.mono (by first | decide | omega)) D_Strip_orientations.b .nil pass0 (pa_cons (pv 1) pa_nil)) (pg_tup (by rfl) (pgs_cons (pg_name (i := 2) sc_Strip_is_direct.nd rfl (.inl rfl)) (pgs_cons (pg_name (i := 3) sc_Strip_is_direct.nd rfl (.inl rfl)) pgs_nil))))
    (pss_one (ps_ret (pe_cmpR op_eq (pv 2) (pv 3) (nomark _))))), ?_⟩
    obtain ⟨dx, r, p, rv, kvs, h1, h2, h3, h4, h5⟩ := S.at_
    refine ⟨_, rfl, x, dx, _, rfl, h1, rfl, _, rfl, x, z, l, y, rfl, S, hy, fun t H1 e1 _ ht => ?_⟩
    refine ⟨t, _, rfl, SqT.of ht, rfl, _, _, rfl, _, _, rfl, rfl, ?_⟩
    refine ⟨_, rfl, _, rfl, rfl, bl_to ?_ (q H1 e1)⟩
    cases upOf l (plc (nmOf l) y 0) <;> cases upOf l (plc (nmOf l) y 1) <;> rfl
theorem ok_strip_crosses {f : Addr} {fd : FuncData} (F : Fun K "crosses" "Strip.crosses" s_Strip_crosses f fd) (T : Txt K mg) (TC_Strip : StripCls K C_Strip) {f_Stripcheck_name : Addr} {fd_Stripcheck_name : FuncData} (D_Stripcheck_name : Dm K C_Strip "_check_name" f_Stripcheck_name fd_Stripcheck_name ["self", "name"])
    (G_Stripcheck_name : FnOk P w K mg base CX0 3 f_Stripcheck_name fd_Stripcheck_name ["self", "name"] (spSt1 O C_Strip fun z l y H Q => Val H .non Q)) :
    FnOk P w K mg base CX0 4 f fd ["self", "one", "other"] (spStX O C_Strip) := by
  refine F.ok sc_Strip_crosses (fun vs H Q E h => ?_) (fun cdv A outer s H vs Q E hr h => ?_)
  · obtain ⟨x, z, l, y, y2, rfl, _⟩ := h
    rfl
  · obtain ⟨x, z, l, y, y2, rfl, S, hy, hy2, q⟩ := h
    have hu := hu_of hr
    refine ⟨_, (pss_cons (ps_expr (pe_meth (pv 0) TC_Strip.cl D_Stripcheck_name.m G_Stripcheck_name (hr.mono (by first | decide | omega)) D_Stripcheck_name.b .nil pass0 (pa_cons (pv 1) pa_nil)))
    (pss_cons (ps_expr (pe_meth (pv 0) TC_Strip.cl D_Stripcheck_name.m G_Stripcheck_name (hr.mono (by first | decide | omega)) D_Stripcheck_name.b .nil pass0 (pa_cons (pv 2) pa_nil)))
    (pss_cons (ps_asg (pe_dget hu (pe_fld (pv 0) rfl) (pv 1) (fun _ _ => rfl)) (pg_tup (by rfl) (pgs_cons (pg_name (i := 3) sc_Strip_crosses.nd rfl (.inl rfl)) (pgs_cons (pg_name (i := 4) sc_Strip_crosses.nd rfl (.inl rfl)) pgs_nil))))
    (pss_cons (ps_asg (pe_dget hu (pe_fld (pv 0) rfl) (pv 2) (fun _ _ => rfl)) (pg_tup (by rfl) (pgs_cons (pg_name (i := 5) sc_Strip_crosses.nd rfl (.inl rfl)) (pgs_cons (pg_name (i := 6) sc_Strip_crosses.nd rfl (.inl rfl)) pgs_nil))))
    (pss_one (ps_ret (pe_cmpR op_ne (pe_chain op_lt op_lt (pv 3) (pv 5) (pv 4)) (pe_chain op_lt op_lt (pv 3) (pv 6) (pv 4)) (nomark _)))))))), ?_⟩
    obtain ⟨dx, r, p, rv, kvs, h1, h2, h3, h4, h5⟩ := S.at_
    obtain ⟨t, ht, htt⟩ := h5.get hy
    obtain ⟨t2, ht2, htt2⟩ := h5.get hy2
    rw [(two_occ S.ok.two hy).1] at htt
    rw [(two_occ S.ok.two hy2).1] at htt2
    refine ⟨_, rfl, x, dx, _, rfl, h1, rfl, _, rfl, x, z, l, y, rfl, S, hy, fun H1 e1 => ?_⟩
    refine ⟨_, rfl, x, dx, _, rfl, e1 _ _ h1, rfl, _, rfl, x, z, l, y2, rfl, S.ex e1, hy2, fun H2 e2 => ?_⟩
    have e := e1.tr e2
    refine ⟨_, rfl, x, C_Strip, dx, _, _, rfl, e _ _ h1, TC_Strip.cl, TC_Strip.nP, rfl, _, rfl, p, _, rfl, .inl ⟨kvs, Sum.inr y, .inl (e _ _ h4), rfl, ht.symm⟩, t, _, rfl, SqT.of (e _ _ htt), rfl, _, _, rfl, _, _, rfl, rfl, ?_⟩
    refine ⟨_, rfl, x, C_Strip, dx, _, _, rfl, e _ _ h1, TC_Strip.cl, TC_Strip.nP, rfl, _, rfl, p, _, rfl, .inl ⟨kvs, Sum.inr y2, .inl (e _ _ h4), rfl, ht2.symm⟩, t2, _, rfl, SqT.of (e _ _ htt2), rfl, _, _, rfl, _, _, rfl, rfl, ?_⟩
    have fin := q H2 e
    unfold crossB at fin
    generalize plc (nmOf l) y 0 = a0 at fin ⊢
    generalize plc (nmOf l) y 1 = a1 at fin ⊢
    generalize plc (nmOf l) y2 0 = b0 at fin ⊢
    generalize plc (nmOf l) y2 1 = b1 at fin ⊢
    have dI : ∀ m n : Nat, decide (m < n) = decide ((m : Int) < (n : Int)) := fun m n => decide_eq_decide.mpr (by omega)
    rw [dI, dI, dI, dI] at fin
    refine ⟨_, rfl, _, rfl, _, _, rfl, rfl, _, rfl, ?_⟩
    refine ite2 (fun c1 => ⟨_, rfl, _, _, rfl, rfl, ?_⟩) (fun c1 => ?_)
    · refine ⟨_, rfl, _, rfl, _, _, rfl, rfl, _, rfl, ?_⟩
      rw [c1, Bool.true_and] at fin
      refine ite2 (fun c2 => ⟨_, rfl, _, _, rfl, rfl, rfl, ?_⟩) (fun c2 => ⟨rfl, ?_⟩)
      · rw [c2, Bool.true_and] at fin
        refine bl_to ?_ fin
        exact bl_ne _ _
      · rw [Bool.eq_false_iff.mpr c2, Bool.false_and] at fin
        refine bl_to ?_ fin
        exact bl_ne _ _
    · refine ⟨_, rfl, _, rfl, _, _, rfl, rfl, _, rfl, ?_⟩
      rw [Bool.eq_false_iff.mpr c1, Bool.false_and] at fin
      refine ite2 (fun c2 => ⟨_, rfl, _, _, rfl, rfl, rfl, ?_⟩) (fun c2 => ⟨rfl, ?_⟩)
      · rw [c2, Bool.true_and] at fin
        refine bl_to ?_ fin
        exact bl_ne _ _
      · rw [Bool.eq_false_iff.mpr c2, Bool.false_and] at fin
        exact bl_to rfl fin
theorem ok_strip_between {f : Addr} {fd : FuncData} (F : Fun K "names_between" "Strip.names_between" s_Strip_names_between f fd) (T : Txt K mg) (TC_Strip : StripCls K C_Strip) {f_Stripcheck_name : Addr} {fd_Stripcheck_name : FuncData} (D_Stripcheck_name : Dm K C_Strip "_check_name" f_Stripcheck_name fd_Stripcheck_name ["self", "name"])
    (G_Stripcheck_name : FnOk P w K mg base CX0 3 f_Stripcheck_name fd_Stripcheck_name ["self", "name"] (spSt1 O C_Strip fun z l y H Q => Val H .non Q)) :
    FnOk P w K mg base CX0 4 f fd ["self", "name"] (spSt1 O C_Strip fun z l y H Q => NewV H ((betw (nmOf l) y).map V.str) Q) := by
  refine F.ok sc_Strip_names_between (fun vs H Q E h => ?_) (fun cdv A outer s H vs Q E hr h => ?_)
  · obtain ⟨x, z, l, y, rfl, _⟩ := h
    rfl
  · obtain ⟨x, z, l, y, rfl, S, hy, q⟩ := h
    have hu := hu_of hr
    refine ⟨_, (pss_cons (ps_expr (pe_meth (pv 0) TC_Strip.cl D_Stripcheck_name.m G_Stripcheck_name (hr.mono (by first | decide | omega)) D_Stripcheck_name.b .nil pass0 (pa_cons (pv 1) pa_nil)))
    (pss_cons (ps_asg (pe_dget hu (pe_fld (pv 0) rfl) (pv 1) (fun _ _ => rfl)) (pg_tup (by rfl) (pgs_cons (pg_name (i := 2) sc_Strip_names_between.nd rfl (.inl rfl)) (pgs_cons (pg_name (i := 3) sc_Strip_names_between.nd rfl (.inl rfl)) pgs_nil))))
    (pss_one (ps_ret (pe_lc (own := [("place", 4)]) (g := gName 4) (tt := tYes) rfl sc_Strip_names_between.nd (pi_range2 (by rfl) T.z_range (pa_cons (pe_op op_add (pv 2) pe_int) (pa_cons (pv 3) pa_nil))) (blkOk_by (N := sc_Strip_names_between.N') (sc := defScope s_Strip_names_between) (by decide +kernel)) (fun _ _ _ _ _ => (pg_name (i := 4) sc_Strip_names_between.nd rfl (by first | exact Or.inl rfl | exact Or.inr rfl))) (fun _ _ _ _ _ => pts_nil) (fun _ _ _ _ _ => (pe_ix (ix_tupK (K := K) rfl) (pe_ix (ix_listK (K := K) rfl) (pe_fldK (K := K) rfl (pv 0) rfl) (pe_op op_add (pe_op op_mul pe_int (pv 4)) pe_int) (fun _ _ => rfl)) pe_int (fun _ _ => rfl)))))))), ?_⟩
    obtain ⟨dx, r, p, rv, kvs, h1, h2, h3, h4, h5⟩ := S.at_
    obtain ⟨t, ht, htt⟩ := h5.get hy
    obtain ⟨o1, o2, o3, o4, o5⟩ := two_occ S.ok.two hy
    rw [o1] at htt
    have nl : (nmOf l).length = l.length := by simp [nmOf]
    have few := S.ok.few
    refine ⟨_, rfl, x, dx, _, rfl, h1, rfl, _, rfl, x, z, l, y, rfl, S, hy, fun H1 e => ?_⟩
    refine ⟨_, rfl, x, C_Strip, dx, _, _, rfl, e _ _ h1, TC_Strip.cl, TC_Strip.nP, rfl, _, rfl, p, _, rfl, .inl ⟨kvs, Sum.inr y, .inl (e _ _ h4), rfl, ht.symm⟩, t, _, rfl, SqT.of (e _ _ htt), rfl, _, _, rfl, _, _, rfl, rfl, ?_⟩
    unfold betw at q
    generalize plc (nmOf l) y 0 = lo at q o2 o4 ⊢
    generalize plc (nmOf l) y 1 = hi at q o2 o3 o5 ⊢
    refine ⟨_, rfl, _, _, rfl, rfl, _, rfl, _, _, rfl, ⟨by omega, by omega, by omega, by omega⟩, fun D hD => ?_⟩
    have len : ((hi : Int) - ((lo : Int) + 1)).toNat = hi - (lo + 1) := by omega
    rw [len]
    have tl : ∀ i, i ≤ hi - (lo + 1) → ((nmOf l).take (lo + 1 + i)).drop (lo + 1) = (((nmOf l).take hi).drop (lo + 1)).take i := by
      intro i hi'
      rw [List.drop_take, List.drop_take, List.take_take]
      congr 1
      omega
    refine lc_range (n := hi - (lo + 1)) (fun i H' => Ex H1 H' ∧ H' D = some (.lst ((((nmOf l).take (lo + 1 + i)).drop (lo + 1)).map V.str))) ⟨Ex.new hD, ?_⟩ ?_ ?_
    · rw [upd_same, List.drop_take]
      simp
    · rintro i H2 hi' ⟨e2, hD2⟩
      obtain ⟨pr, hpr⟩ : ∃ pr, l[lo + 1 + i]? = some pr := ⟨_, List.getElem?_eq_getElem (by omega)⟩
      obtain ⟨xm, em, _, dxm⟩ := row_at h3 (toD_mk (z := z) hpr)
      obtain ⟨tm, rfl, htm⟩ := mark_val dxm
      have em' : atI rv (2 * ((lo : Int) + 1 + (i : Nat)) + 1) = some (.ref tm) := by rw [← em]; congr 1
      have e12 := e.tr e2
      refine ⟨rfl, lcY ⟨_, rfl, x, C_Strip, dx, _, _, rfl, e12 _ _ h1, TC_Strip.cl, TC_Strip.nR, rfl, _, rfl, _, _, rfl, rfl, .inl ⟨by decide, by decide⟩, _, _, rfl, rfl, r, rv, _, _, rfl, rfl, SqL.of (e12 _ _ h2), em', tm, _, 0, _, rfl, rfl, SqT.of (e12 _ _ htm), rfl, _, hD2, lt_200 (by simp; omega), e2.mut hD, ?_⟩⟩
      have hnm : (nmOf l)[lo + 1 + i]? = some pr.1.1 := by rw [nmOf, List.getElem?_map, hpr]; rfl
      rw [upd_same, show lo + 1 + (i + 1) = lo + 1 + i + 1 by omega, List.take_add_one, hnm, List.drop_append_of_le_length (by rw [List.length_take]; omega)]
      simp
    · rintro H2 ⟨e2, hD2⟩
      rw [show lo + 1 + (hi - (lo + 1)) = hi by omega] at hD2
      exact q D H2 (e.tr e2) (e.free hD) hD2
end

/-! ### words and texts -/
section
variable {P : Program} {w : World} {K : PySem.W.Frag} {mg : Str → Option Value} {base : Heap} {O : HO → Prop} {C_Strip : Addr}
theorem ok_item_word {f : Addr} {fd : FuncData} (F : Fun K "item_word" "item_word" s_item_word f fd) (T : Txt K mg) (ho : OthOk K O) :
    FnOk P w K mg base CX0 1 f fd ["item"] (spWord O) := by
  refine F.ok sc_item_word (fun vs H Q E h => ?_) (fun cdv A outer s H vs Q E hr h => ?_)
  · obtain ⟨v, d, rfl, _⟩ := h
    rfl
  · obtain ⟨v, d, rfl, hv, hi, q⟩ := h
    obtain ⟨t, ty, k1, _⟩ := hv.ty ho
    refine ⟨_, (pss_cons (ps_if (pt_val (pe_callB call_isi (by rfl) T.z_isinstance (by decide +kernel) (pa_cons (pv 0) (pa_cons (pe_bltn (v := .ty "str") (by rfl) T.z_str (by decide +kernel) rfl) pa_nil)))) (pss_one (ps_ret (pe_ifExp (pt_cmpR op_gt (pe_callB call_len_str (by rfl) T.z_len (by decide +kernel) (pa_cons (pv 0) pa_nil)) pe_int (nomark _)) (pv 0) (pe_constS rfl T.g_EMPTY_PIECE)))) pss_nil)
    (pss_cons (ps_asg (pv 0) (pg_tup (by rfl) (pgs_cons (pg_name (i := 1) sc_item_word.nd rfl (.inl rfl)) (pgs_cons (pg_name (i := 2) sc_item_word.nd rfl (.inl rfl)) pgs_nil))))
    (pss_one (ps_ret (pe_op op_add_str (pv 1) (pe_ifExp (pt_val (pv 2)) pe_str pe_str)))))), ?_⟩
    refine ⟨_, rfl, v, _, t, _, _, rfl, .ty _, ty, k1, _, rfl, ?_⟩
    rcases hi with ⟨z, rfl, hz, hl⟩ | ⟨z, b, rfl, hz, hl⟩
    · obtain ⟨rfl, hzo⟩ := str_val hv
      refine iteT ⟨_, rfl, _, rfl, le_line (okS_len hz), _, _, rfl, rfl, _, rfl, ?_⟩
      have fin : Q (.str (if z.length > 0 then z else "_" : Str)) H := q H (Ex.rfl' H)
      refine ite2 (fun h => ?_) (fun h => ?_)
      · have h' := of_decide_eq_true h
        rw [if_pos (show z.length > 0 by omega)] at fin
        exact ⟨_, rfl, fin⟩
      · have h' : ¬ (((z.length : Nat) : Int) > 0) := fun e => h (decide_eq_true e)
        rw [if_neg (show ¬ z.length > 0 by omega)] at fin
        exact fin
    · obtain ⟨a, rfl, ha⟩ := mark_val hv
      refine iteF ⟨_, rfl, a, _, rfl, SqT.of ha, rfl, _, _, rfl, _, _, rfl, rfl, ?_⟩
      have fin := q H (Ex.rfl' H)
      refine ⟨_, rfl, _, rfl, _, rfl, ?_⟩
      have lz : z.length + 1 ≤ sizeLine := by
        have : z.length + 1 ≤ 200000 := by omega
        exact Nat.le_trans this (by decide)
      cases b with
      | true => exact iteT ⟨_, _, rfl, rfl, lz, fin⟩
      | false => exact iteF ⟨_, _, rfl, rfl, lz, fin⟩
theorem ok_row_words {f : Addr} {fd : FuncData} (F : Fun K "row_words" "row_words" s_row_words f fd) (T : Txt K mg) {f_item_word : Addr} {fd_item_word : FuncData} (D_item_word : Df K mg "item_word" f_item_word fd_item_word ["item"])
    (G_item_word : FnOk P w K mg base CX0 1 f_item_word fd_item_word ["item"] (spWord O)) :
    FnOk P w K mg base CX0 2 f fd ["row"] (spWords O) := by
  refine F.ok sc_row_words (fun vs H Q E h => ?_) (fun cdv A outer s H vs Q E hr h => ?_)
  · obtain ⟨a, rv, ds, rfl, _⟩ := h
    rfl
  · obtain ⟨a, rv, ds, rfl, ha, hd, hi, hl, q⟩ := h
    refine ⟨_, (pss_one (ps_ret (pe_lc (own := [("item", 1)]) (g := gName 1) (tt := tYes) rfl sc_row_words.nd (pi_list (pv 0)) (blkOk_by (N := sc_row_words.N') (sc := defScope s_row_words) (by decide +kernel)) (fun _ _ _ _ _ => (pg_name (i := 1) sc_row_words.nd rfl (by first | exact Or.inl rfl | exact Or.inr rfl))) (fun _ _ _ _ _ => pts_nil) (fun _ _ _ _ _ => (pe_call G_item_word (hr.mono (by first | decide | omega)) rfl D_item_word.g D_item_word.k D_item_word.b .nil pass0 (pa_cons (pv 1) pa_nil)))))), ?_⟩
    refine ⟨_, rfl, a, rfl, ⟨_, SqL.of ha⟩, fun D hD => lc_list (xs := rv) (fun i H' => Ex H H' ∧ H' D = some (.lst (((ds.take i).map wordD).map V.str)))
        ⟨Ex.new hD, upd_same⟩ (fun i H' _ ⟨x1, _⟩ => SqL.of (x1 _ _ ha)) ?_ ?_⟩
    · rintro i x H2 hx ⟨e2, hD2⟩
      obtain ⟨d, hdi, hxd⟩ := hd.get hx
      have hil : i < rv.length := (List.getElem?_eq_some_iff.mp hx).1
      have := hd.length
      refine ⟨rfl, lcY ⟨_, rfl, x, d, rfl, hxd.ex e2, hi d (List.mem_of_getElem? hdi), fun H3 e3 => ⟨_, e3 _ _ hD2, lt_200 (by simp; omega), (e2.tr e3).mut hD, ?_⟩⟩⟩
      rw [upd_same, List.take_add_one, hdi]
      simp
    · rintro H2 ⟨e2, hD2⟩
      rw [hd.length, List.take_length] at hD2
      exact q D H2 e2 hD hD2
theorem ok_strip_len {f : Addr} {fd : FuncData} (F : Fun K "__len__" "Strip.__len__" s_Strip_len f fd) (T : Txt K mg) (TC_Strip : StripCls K C_Strip) :
    FnOk P w K mg base CX0 1 f fd ["self"] (spSt O C_Strip fun z l H Q => Val H (.int ((fsts (nmOf l) (nmOf l).length).length : Nat)) Q) := by
  refine F.ok sc_Strip_len (fun vs H Q E h => ?_) (fun cdv A outer s H vs Q E hr h => ?_)
  · obtain ⟨x, z, l, rfl, _⟩ := h
    rfl
  · obtain ⟨x, z, l, rfl, S, q⟩ := h
    obtain ⟨dx, r, p, rv, kvs, h1, h2, h3, h4, h5⟩ := S.at_
    have e := congrArg List.length h5.keys
    rw [List.length_map, List.length_map] at e
    refine ⟨_, (pss_one (ps_ret (pe_callB call_lenD (by rfl) T.z_len (by decide +kernel) (pa_cons (pe_fld (pv 0) rfl) pa_nil)))), ?_⟩
    refine ⟨_, rfl, x, C_Strip, dx, _, _, rfl, h1, TC_Strip.cl, TC_Strip.nP, rfl, p, kvs, rfl, h4, ?_⟩
    rw [e]
    exact q H (Ex.rfl' H)
theorem ok_strip_str {f : Addr} {fd : FuncData} (F : Fun K "__str__" "Strip.__str__" s_Strip_str f fd) (T : Txt K mg) (TC_Strip : StripCls K C_Strip) {f_row_words : Addr} {fd_row_words : FuncData} (D_row_words : Df K mg "row_words" f_row_words fd_row_words ["row"])
    (G_row_words : FnOk P w K mg base CX0 2 f_row_words fd_row_words ["row"] (spWords O)) :
    FnOk P w K mg base CX0 3 f fd ["self"] (spSt O C_Strip fun z l H Q => Val H (.str (textD (toD z l))) Q) := by
  refine F.ok sc_Strip_str (fun vs H Q E h => ?_) (fun cdv A outer s H vs Q E hr h => ?_)
  · obtain ⟨x, z, l, rfl, _⟩ := h
    rfl
  · obtain ⟨x, z, l, rfl, S, q⟩ := h
    obtain ⟨dx, r, p, rv, kvs, h1, h2, h3, h4, h5⟩ := S.at_
    have it := S.ok.ok.it (L := 100000) (by have := S.ok.small; omega) (by decide) (by decide)
    have few := S.ok.few
    have hl : (toD z l).length ≤ 49 := by rw [toD_len]; omega
    refine ⟨_, (pss_one (ps_ret (pe_bm PySem.F.plainAttrs_str PySem.F.slot_str_join PySem.F.type_str_join mt_join pe_str (pa_cons (pe_call G_row_words (hr.mono (by first | decide | omega)) rfl D_row_words.g D_row_words.k D_row_words.b .nil pass0 (pa_cons (pe_fld (pv 0) rfl) pa_nil)) pa_nil)))), ?_⟩
    refine ⟨tyS, _, rfl, x, C_Strip, dx, _, _, rfl, h1, TC_Strip.cl, TC_Strip.nR, rfl, r, rv, toD z l, rfl, h2, h3, it, by omega, fun u H1 e1 hu1 h1u => ?_⟩
    exact ⟨_, u, _, rfl, rfl, .inl (SqL.of h1u), words_fit it hl (by decide), q H1 e1⟩
theorem ok_strip_repr {f : Addr} {fd : FuncData} (F : Fun K "__repr__" "Strip.__repr__" s_Strip_repr f fd) (T : Txt K mg) {f_Strip_str : Addr} {fd_Strip_str : FuncData} (D_Strip_str : Dm K C_Strip "__str__" f_Strip_str fd_Strip_str ["self"])
    (G_Strip_str : FnOk P w K mg base CX0 3 f_Strip_str fd_Strip_str ["self"] (spSt O C_Strip fun z l H Q => Val H (.str (textD (toD z l))) Q)) :
    FnOk P w K mg base CX0 6 f fd ["self"] (spSt O C_Strip fun z l H Q => Val H (.str (reprS (toD z l))) Q) := by
  refine F.ok sc_Strip_repr (fun vs H Q E h => ?_) (fun cdv A outer s H vs Q E hr h => ?_)
  · obtain ⟨x, z, l, rfl, _⟩ := h
    rfl
  · obtain ⟨x, z, l, rfl, S, q⟩ := h
    obtain ⟨dx, r, p, rv, kvs, h1, h2, h3, h4, h5⟩ := S.at_
    have it := S.ok.ok.it (L := 100000) (by have := S.ok.small; omega) (by decide) (by decide)
    have few := S.ok.few
    have hl : (toD z l).length ≤ 49 := by rw [toD_len]; omega
    have tl := text_len it hl
    refine ⟨_, (pss_one (ps_ret (pe_joined (PJ.cons pe_str (PJ.cons (pe_fmt (pe_callTy (call_strO G_Strip_str D_Strip_str.m.at_ D_Strip_str.m.fn D_Strip_str.b pass0 (hr.mono (by first | decide | omega))) (by rfl) T.z_str (by decide +kernel) (pa_cons (pv 0) pa_nil))) (PJ.cons pe_str PJ.nil)))))), ?_⟩
    refine ⟨_, rfl, (by decide), _, rfl, x, dx, _, rfl, h1, x, z, l, rfl, S, fun H1 e1 => ⟨⟨_, rfl⟩, .inl ⟨_, rfl, Nat.le_trans tl (by decide), _, rfl, ?_, _, rfl, ?_, ?_⟩⟩⟩
    · rw [show (Str.empty ++ ("Strip(" : Str)) = "Strip(" by decide, app_len]
      exact Nat.le_trans (Nat.add_le_add (show ("Strip(" : Str).length ≤ 6 by decide) tl) (by decide)
    · rw [show (Str.empty ++ ("Strip(" : Str)) = "Strip(" by decide, app_len, app_len]
      exact Nat.le_trans (Nat.add_le_add (Nat.add_le_add (show ("Strip(" : Str).length ≤ 6 by decide) tl) (show (")" : Str).length ≤ 1 by decide)) (by decide)
    · rw [show (Str.empty ++ ("Strip(" : Str)) = "Strip(" by decide]
      exact q H1 e1
end

section
variable {P : Program} {w : World} {K : PySem.W.Frag} {mg : Str → Option Value} {base : Heap}
theorem ok_names {f : Addr} {fd : FuncData} (F : Fun K "_law_names" "_law_names" s_L_names f fd) (T : Txt K mg)
    {f_L_take : Addr} {fd_L_take : FuncData} (D_L_take : Df K mg "_law_take" f_L_take fd_L_take ["_law_box_here", "_law_many"]) (G_L_take : FnOk P w K mg base CX0 1 f_L_take fd_L_take ["_law_box_here", "_law_many"] spTake) :
    FnOk P w K mg base CX0 2 f fd ["_law_box_here", "_law_many"] spNames := by
  refine F.ok sc_L_names (fun vs H Q E h => ?_) (fun cdv A outer s H vs Q E hr h => ?_)
  · obtain ⟨a, c, n, rfl, _⟩ := h
    rfl
  · obtain ⟨a, c, n, rfl, hb, hc, hn, q⟩ := h
    have fin : ∀ (D : Addr) (g : Nat → Str) (H' : Hp), H D = none → D ≠ a → H' D = some (.lst ((List.range n).map fun k => V.str (g k))) → Kp a H H' → BoxAt H' a (c + 7) → Nam n ((List.range n).map g) → Q (.ref D) H' :=
      fun D g H' h1 h2 h3 k b N => q D _ H' k (b.up (by omega)) h1 h2 (by rw [h3, List.map_map]; rfl) N
    refine ⟨_, (pss_cons (ps_set (i := 2) sc_L_names.nd rfl (.inr rfl) pe_str)
    (pss_cons (ps_asg (pe_tup (pa_cons (pe_call G_L_take (hr.mono (by first | decide | omega)) rfl D_L_take.g D_L_take.k D_L_take.b .nil pass0 (pa_cons (pv 0) (pa_cons pe_int pa_nil))) (pa_cons (pe_ix ix_list (pe_lst (pa_cons pe_int (pa_cons pe_int (pa_cons pe_int (pa_cons pe_int (pa_cons pe_int (pa_cons pe_int pa_nil))))))) (pe_call G_L_take (hr.mono (by first | decide | omega)) rfl D_L_take.g D_L_take.k D_L_take.b .nil pass0 (pa_cons (pv 0) (pa_cons pe_int pa_nil))) (fun _ _ => rfl)) (pa_cons (pe_call G_L_take (hr.mono (by first | decide | omega)) rfl D_L_take.g D_L_take.k D_L_take.b .nil pass0 (pa_cons (pv 0) (pa_cons pe_int pa_nil))) pa_nil)))) (pg_tup (by rfl) (pgs_cons (pg_name (i := 3) sc_L_names.nd rfl (.inr rfl)) (pgs_cons (pg_name (i := 4) sc_L_names.nd rfl (.inr rfl)) (pgs_cons (pg_name (i := 5) sc_L_names.nd rfl (.inl rfl)) pgs_nil)))))
    (pss_cons (ps_setLc (i := 6) (own := [("_law_k", 12)]) (g := gName 12) (tt := tYes) rfl sc_L_names.nd rfl rfl (sw_true rfl rfl rfl (by decide +kernel)) (pi_range1 (by rfl) T.z_range (pa_cons (pv 1) pa_nil)) (blkOk_by (N := sc_L_names.N') (sc := defScope s_L_names) (by decide +kernel)) (fun _ _ _ _ _ => (pg_name (i := 12) sc_L_names.nd rfl (by first | exact Or.inl rfl | exact Or.inr rfl))) (fun _ _ _ _ _ => pts_nil) (fun _ _ _ _ _ => (pe_ix ix_str (pv 2) (pe_op op_mod (pe_op op_add (pv 3) (pe_op op_mul (pv 4) (pv 12))) pe_int) (fun _ _ => rfl))))
    (pss_cons (ps_set (i := 7) sc_L_names.nd rfl (.inr rfl) (pe_bm PySem.F.plainAttrs_str PySem.F.slot_str_join PySem.F.type_str_join mt_join pe_str (pa_cons (pe_lc (own := [("_law_k", 12)]) (g := gName 12) (tt := tYes) rfl sc_L_names.nd (pi_range1 (by rfl) T.z_range (pa_cons pe_int pa_nil)) (blkOk_by (N := sc_L_names.N') (sc := defScope s_L_names) (by decide +kernel)) (fun _ _ _ _ _ => (pg_name (i := 12) sc_L_names.nd rfl (by first | exact Or.inl rfl | exact Or.inr rfl))) (fun _ _ _ _ _ => pts_nil) (fun _ _ _ _ _ => (pe_ix ix_str (pv 2) (pe_call G_L_take (hr.mono (by first | decide | omega)) rfl D_L_take.g D_L_take.k D_L_take.b .nil pass0 (pa_cons (pv 0) (pa_cons pe_int pa_nil))) (fun _ _ => rfl)))) pa_nil)))
    (pss_cons (ps_if (pt_cmpR op_eq (pv 5) pe_int (nomark _)) (pss_cons (ps_set (i := 8) sc_L_names.nd rfl (.inr rfl) (pe_call G_L_take (hr.mono (by first | decide | omega)) rfl D_L_take.g D_L_take.k D_L_take.b .nil pass0 (pa_cons (pv 0) (pa_cons pe_int pa_nil))))
    (pss_one (ps_ret (pe_lc (own := [("_law_one", 9)]) (g := gName 9) (tt := tYes) rfl sc_L_names.nd (pi_list (pv 6)) (blkOk_by (N := sc_L_names.N') (sc := defScope s_L_names) (by decide +kernel)) (fun _ _ _ _ _ => (pg_name (i := 9) sc_L_names.nd rfl (by first | exact Or.inl rfl | exact Or.inr rfl))) (fun _ _ _ _ _ => pts_nil) (fun _ _ _ _ _ => (pe_op op_add_str (pe_op op_add_str (pe_slice sl_str (pv 7) po_none (po_some (pv 8))) (pv 9)) (pe_slice sl_str (pv 7) (po_some (pv 8)) po_none))))))) pss_nil)
    (pss_cons (ps_if (PW.pt (pw_and (pt_cmpR op_eq (pv 5) pe_int (nomark _)) (pw_and1 (pt_cmpR op_lt (pv 1) pe_int (nomark _))))) (pss_cons (ps_par (i := 9) (j := 10) (by rfl) sc_L_names.nd rfl rfl (by decide) rfl rfl (pa_cons (pe_ix ix_str (pv 2) (pv 3) (fun _ _ => rfl)) (pa_cons (pe_ix ix_str (pv 2) (pe_op op_mod (pe_op op_add (pv 3) pe_int) pe_int) (fun _ _ => rfl)) pa_nil)) (by rfl))
    (pss_cons (ps_set (i := 11) sc_L_names.nd rfl (.inr rfl) (pe_lst (pa_cons (pv 9) (pa_cons (pv 10) (pa_cons (pe_op op_add_str (pv 9) (pv 10)) (pa_cons (pe_op op_add_str (pv 10) (pv 9)) (pa_cons (pe_op op_add_str (pv 9) (pv 9)) (pa_cons (pe_op op_add_str (pv 10) (pv 10)) (pa_cons (pe_op op_add_str (pe_op op_add_str (pv 9) (pv 10)) (pv 9)) (pa_cons (pe_op op_add_str (pe_op op_add_str (pv 10) (pv 9)) (pv 10)) pa_nil))))))))))
    (pss_cons (ps_set (i := 11) sc_L_names.nd rfl (.inr rfl) (pe_op op_cat (pv 11) (pe_lst (pa_cons (pe_op op_add_str (pe_op op_add_str (pv 9) (pv 9)) (pv 10)) (pa_cons (pe_op op_add_str (pe_op op_add_str (pv 10) (pv 10)) (pv 9)) (pa_cons (pe_op op_add_str (pe_op op_add_str (pe_op op_add_str (pv 9) (pv 10)) (pv 9)) (pv 10)) (pa_cons (pe_op op_add_str (pe_op op_add_str (pe_op op_add_str (pv 10) (pv 9)) (pv 10)) (pv 9)) pa_nil)))))))
    (pss_one (ps_ret (pe_lc (own := [("_law_k", 12)]) (g := gName 12) (tt := tYes) rfl sc_L_names.nd (pi_range1 (by rfl) T.z_range (pa_cons (pv 1) pa_nil)) (blkOk_by (N := sc_L_names.N') (sc := defScope s_L_names) (by decide +kernel)) (fun _ _ _ _ _ => (pg_name (i := 12) sc_L_names.nd rfl (by first | exact Or.inl rfl | exact Or.inr rfl))) (fun _ _ _ _ _ => pts_nil) (fun _ _ _ _ _ => (pe_ix (ix_listK (K := K) rfl) (pv 11) (pe_op op_mod (pe_op op_add (pv 3) (pe_op op_mul pe_int (pv 12))) pe_int) (fun _ _ => rfl))))))))) pss_nil)
    (pss_cons (ps_if (pt_cmpR op_eq (pv 5) pe_int (nomark _)) (pss_one (ps_ret (pv 6))) pss_nil)
    (pss_cons (ps_if (pt_cmpR op_eq (pv 5) pe_int (nomark _)) (pss_one (ps_ret (pe_lc (own := [("_law_k", 12), ("_law_one", 9)]) (g := gTup K 2 (gCons (gName 12) (gCons (gName 9) gNil))) (tt := tYes) rfl sc_L_names.nd (pi_enum (by rfl) T.z_enumerate (pa_cons (pv 6) pa_nil)) (blkOk_by (N := sc_L_names.N') (sc := defScope s_L_names) (by decide +kernel)) (fun _ _ _ _ _ => (pg_tup (by rfl) (pgs_cons (pg_name (i := 12) sc_L_names.nd rfl (by first | exact Or.inl rfl | exact Or.inr rfl)) (pgs_cons (pg_name (i := 9) sc_L_names.nd rfl (by first | exact Or.inl rfl | exact Or.inr rfl)) pgs_nil)))) (fun _ _ _ _ _ => pts_nil) (fun _ _ _ _ _ => (pe_op op_add_str (pe_slice sl_str (pv 7) po_none (po_some (pe_op op_add pe_int (pe_op op_mod (pv 12) pe_int)))) (pv 9)))))) pss_nil)
    (pss_one (ps_ret (pe_lc (own := [("_law_k", 12), ("_law_one", 9)]) (g := gTup K 2 (gCons (gName 12) (gCons (gName 9) gNil))) (tt := tYes) rfl sc_L_names.nd (pi_enum (by rfl) T.z_enumerate (pa_cons (pv 6) pa_nil)) (blkOk_by (N := sc_L_names.N') (sc := defScope s_L_names) (by decide +kernel)) (fun _ _ _ _ _ => (pg_tup (by rfl) (pgs_cons (pg_name (i := 12) sc_L_names.nd rfl (by first | exact Or.inl rfl | exact Or.inr rfl)) (pgs_cons (pg_name (i := 9) sc_L_names.nd rfl (by first | exact Or.inl rfl | exact Or.inr rfl)) pgs_nil)))) (fun _ _ _ _ _ => pts_nil) (fun _ _ _ _ _ => (pe_op op_mul_str (pv 9) (pe_op op_add pe_int (pe_op op_mod (pv 12) pe_int))))))))))))))), ?_⟩
    refine ⟨_, rfl, a, c, 26, rfl, hb, by omega, by decide, by decide, fun r1 H1 k1 b1 r10 r11 => ?_⟩
    refine ⟨(by show 6 ≤ sizeLine; decide), fun p hp => ?_⟩
    have np := b1.ne hp
    refine ⟨_, rfl, a, c + 1, 6, rfl, b1.upd np.symm, by omega, by decide, by decide, fun r2 H2 k2 b2 r20 r21 => ?_⟩
    obtain ⟨v, e1, s, rfl, hs⟩ := atI_all (xs := [V.int 1, V.int 3, V.int 5, V.int 7, V.int 9, V.int 11]) (fun v => ∃ s : Nat, v = .int (s : Nat) ∧ s ∈ steps) r20 (by simpa using r21) (by
      intro v hv
      simp only [List.mem_cons, List.not_mem_nil, or_false] at hv
      rcases hv with rfl | rfl | rfl | rfl | rfl | rfl
      · exact ⟨1, rfl, by decide⟩
      · exact ⟨3, rfl, by decide⟩
      · exact ⟨5, rfl, by decide⟩
      · exact ⟨7, rfl, by decide⟩
      · exact ⟨9, rfl, by decide⟩
      · exact ⟨11, rfl, by decide⟩)
    refine ⟨p, _, r2, _, rfl, rfl, SqL.of (k2 _ _ np upd_same), e1, ?_⟩
    have k12 := (k1.mut (o := .lst [V.int 1, V.int 3, V.int 5, V.int 7, V.int 9, V.int 11]) (k1.none b1 hp)).tr k2
    refine ⟨_, rfl, a, c + 2, 5, rfl, b2, by omega, by decide, by decide, fun way H3 k3 b3 w0 w1 => ?_⟩
    have k13 := k12.tr k3
    refine ⟨(by show 3 ≤ sizeLine; decide), fun t ht => ?_⟩
    have nt := b3.ne ht
    have b4 := b3.upd (o := .tup [V.int r1, V.int (s : Nat), V.int way]) nt.symm
    have k14 := k13.mut (o := .tup [V.int r1, V.int (s : Nat), V.int way]) (k13.none b3 ht)
    refine ⟨t, _, rfl, SqT.of upd_same, rfl, _, _, rfl, _, _, rfl, _, _, rfl, rfl, ?_⟩
    obtain ⟨fi, rfl⟩ := Int.eq_ofNat_of_zero_le r10
    generalize upd H3 t _ = H4 at b4 k14 ⊢
    clear b3 nt ht k13 k3 k12 e1 k2 b2 k1 b1 np hp t p
    -- the single letters
    refine ⟨_, rfl, (n : Nat), rfl, by omega, by omega, fun L hL => lc_range (n := n) (fun i H' => H' L = some (.lst ((List.range i).map fun k => V.str (one (sngC fi s k)))) ∧ Kp a H H' ∧ BoxAt H' a (c + 3))
      ⟨upd_same, k14.mut (k14.none b4 hL), b4.upd (b4.ne' hL)⟩ ?_ ?_⟩
    · rintro i H5 hi ⟨h5, k5, b5⟩
      refine ⟨rfl, lcY ⟨_, rfl, _, rfl, _, rfl, _, rfl, _, _, rfl, rfl, .inl ⟨by omega, ?_⟩, _, _, rfl, rfl, _, _, rfl, rfl, (by show (0 : Int) < 26; decide), _, _, _, rfl, rfl, (by show 26 ≤ sizeLine; decide), sng_at, ?_⟩⟩
      · have : s ≤ 11 := by
          unfold steps at hs
          simp at hs
          omega
        omega
      · refine ⟨_, h5, by rw [List.length_map, List.length_range]; exact lt_100 (by omega), ?_, k5.mut (k14.none b4 hL), b5.upd (b4.ne' hL)⟩
        rw [upd_same]
        exact congrArg (fun l => some (HO.lst l)) (range_app _ i)
    rintro H5 ⟨h5, k5, b5⟩
    have nL := b4.ne hL
    have hLH : H L = none := k14.none b4 hL
    clear k14 b4 hL H4
    -- the stem
    refine ⟨tyS, 3, rfl, by decide, by decide, fun D hD => lc_range (n := 3) (fun i H' => ∃ cs : List Nat, H' D = some (.lst (cs.map fun c => V.str (one c))) ∧ cs.length = i ∧ (∀ c ∈ cs, lowB c = true) ∧
        H' L = some (.lst ((List.range n).map fun k => V.str (one (sngC fi s k)))) ∧ Kp a H H' ∧ BoxAt H' a (c + 3 + i)) ?_ ?_ ?_⟩
    · have nDL := ne_of_none h5 hD
      exact ⟨[], upd_same, rfl, fun x hx => by simp at hx, (upd_ne nDL).trans h5, k5.mut (k5.none b5 hD), b5.upd (b5.ne' hD)⟩
    · rintro i H6 hi ⟨cs, h6, hl, hall, hL6, k6, b6⟩
      have nDL := ne_of_none h5 hD
      have nD := b5.ne hD
      refine ⟨rfl, lcY ⟨_, rfl, _, rfl, a, _, 26, rfl, b6, by omega, by decide, by decide, fun r H7 k7 b7 z0 z1 => ?_⟩⟩
      refine ⟨_, _, _, rfl, rfl, (by show 26 ≤ sizeLine; decide), abc_at z0 z1, _, k7 _ _ nD h6, by rw [List.length_map]; exact lt_100 (by omega), cs ++ [97 + r.toNat], ?_, by simp [hl], ?_, ?_, ?_, ?_⟩
      · rw [upd_same, List.map_append]
        rfl
      · intro x hx
        rcases List.mem_append.mp hx with h | h
        · exact hall x h
        · have : x = 97 + r.toNat := by simpa using h
          rw [this]
          exact low97 (by omega)
      · exact (upd_ne nDL).trans (k7 _ _ nL hL6)
      · exact (k6.tr k7).mut (k5.none b5 hD)
      · exact (b7.up (by omega)).upd nD.symm
    rintro H6 ⟨cs, h6, hl, hall, hL6, k6, b6⟩
    refine ⟨_, D, cs.map one, rfl, rfl, .inl (SqL.of (by rw [List.map_map]; exact h6)), join_fits (k := 1) (n := 3) (fun y hy => by obtain ⟨x, _, rfl⟩ := List.mem_map.mp hy; exact Nat.le_refl 1) (by rw [List.length_map]; omega) (by decide), ?_⟩
    have st3 : (Txt.join "" (cs.map one)).length = 3 := by rw [Gd.len_list, Gd.join_one, hl]
    have stl : ∀ x ∈ (Txt.join "" (cs.map one)).cps.toList, lowB x = true := by rw [Gd.join_one]; exact hall
    generalize Txt.join "" (cs.map one) = st at st3 stl ⊢
    clear h6 hl hall cs h5 k5 b5 hD D H5
    -- the ways
    refine ⟨_, rfl, rfl, _, rfl, ?_⟩
    rw [decI]
    refine ite2 (fun hw => ?_) (fun hw3 => ?_)
    · refine ⟨_, rfl, a, _, 3, rfl, b6, by omega, by decide, by decide, fun at_ H7 k7 b7 a0 a1 => ?_⟩
      have hL7 := k7 _ _ nL hL6
      refine ⟨_, rfl, L, rfl, ⟨_, SqL.of hL7⟩, fun D hD => lc_list (xs := (List.range n).map fun k => V.str (one (sngC fi s k))) (fun i H' => H' D = some (.lst ((List.range i).map fun k => V.str (cutS st none (some at_) ++ one (sngC fi s k) ++ cutS st (some at_) none))) ∧
          H' L = some (.lst ((List.range n).map fun k => V.str (one (sngC fi s k)))) ∧ Kp a H H' ∧ BoxAt H' a (c + 7)) ?_ ?_ ?_ ?_⟩
      · have nDL := ne_of_none hL7 hD
        exact ⟨upd_same, (upd_ne nDL).trans hL7, (k6.tr k7).mut ((k6.tr k7).none b7 hD), (b7.up (by omega)).upd (b7.ne' hD)⟩
      · rintro i H8 _ ⟨_, h, _⟩
        exact SqL.of h
      · rintro i x H8 hx ⟨h8, hL8, k8, b8⟩
        obtain ⟨hi, rfl⟩ := range_get hx
        have nDL := ne_of_none hL7 hD
        have c1 := cutS_le st none (some at_)
        have c2 := cutS_le st (some at_) none
        refine ⟨rfl, lcY ⟨_, rfl, _, rfl, at_, rfl, st, rfl, le_line (by omega), _, rfl, _, _, rfl, rfl, le_line (by rw [one_len]; omega), _, rfl, _, rfl, at_, rfl, st, rfl, le_line (by omega), _, _, rfl, rfl, le_line (by rw [app_len, one_len]; omega), ?_⟩⟩
        refine ⟨_, h8, by rw [List.length_map, List.length_range]; exact lt_100 (by omega), ?_, (upd_ne nDL).trans hL8, k8.mut ((k6.tr k7).none b7 hD), b8.upd (b7.ne' hD)⟩
        rw [upd_same]
        exact congrArg (fun l => some (HO.lst l)) (range_app _ i)
      · rintro H8 ⟨h8, hL8, k8, b8⟩
        rw [List.length_map, List.length_range] at h8
        exact fin D _ H8 ((k6.tr k7).none b7 hD) (b7.ne hD) h8 k8 b8 (nam3 hs hn st3 stl a0 a1)
    refine ⟨_, rfl, rfl, _, rfl, ?_⟩
    rw [decI]
    refine ite2 (fun hw => ⟨_, rfl, _, _, rfl, rfl, _, rfl, ite2 (fun h13 => ?_) (fun _ => ?_)⟩) (fun _ => ?_)
    · have hn13 : n < 13 := by have := of_decide_eq_true h13; omega
      refine ⟨_, rfl, _, rfl, _, _, _, rfl, rfl, (by show 26 ≤ sizeLine; decide), abc_at r10 r11, _, rfl, _, rfl, _, _, rfl, rfl, _, _, rfl, rfl, (by show (0 : Int) < 26; decide), _, _, _, rfl, rfl, (by show 26 ≤ sizeLine; decide), abc_at (Int.emod_nonneg _ (by decide)) (Int.emod_lt_of_pos _ (by decide)), _, _, rfl, ?_⟩
      have hab : 97 + ((fi : Nat) : Int).toNat ≠ 97 + ((((fi : Nat) : Int) + 7) % 26).toNat := by omega
      have hA : lowB (97 + ((fi : Nat) : Int).toNat) = true := low97 (by omega)
      have hB : lowB (97 + ((((fi : Nat) : Int) + 7) % 26).toNat) = true := low97 (by omega)
      generalize 97 + ((fi : Nat) : Int).toNat = ca at hab hA ⊢
      generalize 97 + ((((fi : Nat) : Int) + 7) % 26).toNat = cb at hab hB ⊢
      refine ⟨_, rfl, _, rfl, _, rfl, _, rfl, _, _, rfl, rfl, l11, _, rfl, _, rfl, _, _, rfl, rfl, l11, _, rfl, _, rfl, _, _, rfl, rfl, l11, _, rfl, _, rfl, _, _, rfl, rfl, l11,
        _, rfl, _, rfl, _, _, rfl, rfl, l11, _, rfl, _, _, rfl, rfl, l21, _, rfl, _, rfl, _, _, rfl, rfl, l11, _, rfl, _, _, rfl, rfl, l21, (by show 8 ≤ sizeLine; decide), fun p1 hp1 => ?_⟩
      generalize hG7 : upd H6 p1 _ = G7
      have k7 : Kp a H G7 := by rw [← hG7]; exact k6.mut (k6.none b6 hp1)
      have b7 : BoxAt G7 a (c + 6) := by rw [← hG7]; exact b6.upd (b6.ne' hp1)
      have h1 : G7 p1 = some (.lst [.str (one ca), .str (one cb), .str (one ca ++ one cb), .str (one cb ++ one ca), .str (one ca ++ one ca), .str (one cb ++ one cb), .str (one ca ++ one cb ++ one ca), .str (one cb ++ one ca ++ one cb)]) := by rw [← hG7]; exact upd_same
      clear hG7
      refine ⟨_, rfl, _, rfl, _, rfl, _, _, rfl, rfl, l11, _, rfl, _, _, rfl, rfl, l21, _, rfl, _, rfl, _, _, rfl, rfl, l11, _, rfl, _, _, rfl, rfl, l21,
        _, rfl, _, rfl, _, _, rfl, rfl, l11, _, rfl, _, _, rfl, rfl, l21, _, rfl, _, _, rfl, rfl, l31, _, rfl, _, rfl, _, _, rfl, rfl, l11, _, rfl, _, _, rfl, rfl, l21, _, rfl, _, _, rfl, rfl, l31,
        (by show 4 ≤ sizeLine; decide), fun p2 hp2 => ?_⟩
      generalize hG8 : upd G7 p2 _ = G8
      have k8 : Kp a H G8 := by rw [← hG8]; exact k7.mut (k7.none b7 hp2)
      have b8 : BoxAt G8 a (c + 6) := by rw [← hG8]; exact b7.upd (b7.ne' hp2)
      have n2 := ne_of_none h1 hp2
      refine ⟨p1, p2, _, _, rfl, rfl, by rw [← hG8]; exact (upd_ne n2).trans h1, by rw [← hG8]; exact upd_same, (by show 12 ≤ sizeLine; decide), fun p3 hp3 => ?_⟩
      generalize hG9 : upd G8 p3 _ = G9
      have h3 : G9 p3 = some (.lst ((glue (one ca) (one cb)).map V.str)) := by rw [← hG9]; exact upd_same
      have k9 : Kp a H G9 := by rw [← hG9]; exact k8.mut (k8.none b8 hp3)
      have b9 : BoxAt G9 a (c + 6) := by rw [← hG9]; exact b8.upd (b8.ne' hp3)
      clear hG9 hG8 k8 b8 n2 hp3 hp2 h1 k7 b7
      refine ⟨_, rfl, (n : Nat), rfl, by omega, by omega, fun D hD => lc_range (n := n) (fun i H' => H' D = some (.lst ((List.range i).map fun k => V.str ((glue (one ca) (one cb)).getD ((fi + 5 * k) % 12) Str.empty))) ∧
          H' p3 = some (.lst ((glue (one ca) (one cb)).map V.str)) ∧ Kp a H H' ∧ BoxAt H' a (c + 7)) ?_ ?_ ?_⟩
      · exact ⟨upd_same, (upd_ne (ne_of_none h3 hD)).trans h3, k9.mut (k9.none b9 hD), (b9.up (by omega)).upd (b9.ne' hD)⟩
      · rintro i H8 hi ⟨h8, hp8, k8', b8'⟩
        refine ⟨rfl, lcY ⟨_, rfl, _, rfl, _, rfl, _, _, rfl, rfl, .inl ⟨by decide, by decide⟩, _, _, rfl, rfl, _, _, rfl, rfl, (by show (0 : Int) < 12; decide), p3, _, _, _, rfl, rfl, SqL.of hp8, glue_at, ?_⟩⟩
        refine ⟨_, h8, by rw [List.length_map, List.length_range]; exact lt_100 (by omega), ?_, (upd_ne (ne_of_none h3 hD)).trans hp8, k8'.mut (k9.none b9 hD), b8'.upd (b9.ne' hD)⟩
        rw [upd_same]
        exact congrArg (fun l => some (HO.lst l)) (range_app _ i)
      · rintro H8 ⟨h8, _, k8', b8'⟩
        exact fin D _ H8 (k9.none b9 hD) (b9.ne hD) h8 k8' b8' (nam4 hn13 hab hA hB)
    all_goals
      refine ⟨_, rfl, rfl, _, rfl, ?_⟩
      rw [decI]
      refine ite2 (fun _ => ⟨_, rfl, fin L _ H6 hLH nL hL6 k6 (b6.up (by omega)) (nam0 hs hn)⟩) (fun _ => ?_)
      refine ⟨_, rfl, rfl, _, rfl, ?_⟩
      rw [decI]
      refine ite2 (fun _ => ?_) (fun _ => ?_)
      · refine ⟨_, rfl, L, _, rfl, SqL.of hL6, fun D hD => lc_enumL (xs := (List.range n).map fun k => V.str (one (sngC fi s k))) (fun i H' => H' D = some (.lst ((List.range i).map fun k : Nat => V.str (cutS st none (some (1 + (k : Int) % 3)) ++ one (sngC fi s k)))) ∧
            H' L = some (.lst ((List.range n).map fun k => V.str (one (sngC fi s k)))) ∧ Kp a H H' ∧ BoxAt H' a (c + 7)) ?_ ?_ ?_ ?_⟩
        · have nDL := ne_of_none hL6 hD
          exact ⟨upd_same, (upd_ne nDL).trans hL6, k6.mut (k6.none b6 hD), (b6.up (by omega)).upd (b6.ne' hD)⟩
        · rintro i H8 _ ⟨_, h, _⟩
          exact SqL.of h
        · rintro i x H8 T hx ⟨h8, hL8, k8, b8⟩ hT
          obtain ⟨hi, rfl⟩ := range_get hx
          have nDL := ne_of_none hL6 hD
          have c1 := cutS_le st none (some (1 + (i : Int) % 3))
          have b9 := b8.upd (o := .tup [V.int (i : Nat), V.str (one (sngC fi s i))]) (b8.ne' hT)
          have k9 := k8.mut (o := .tup [V.int (i : Nat), V.str (one (sngC fi s i))]) (k8.none b8 hT)
          refine ⟨T, _, rfl, SqT.of upd_same, rfl, _, _, rfl, _, _, rfl, rfl, rfl, lcY ⟨_, rfl, _, rfl, _, _, rfl, rfl, (by show (0 : Int) < 3; decide), _, _, rfl, rfl, _, rfl, st, rfl, le_line (by omega), _, rfl, _, _, rfl, rfl, le_line (by rw [one_len]; omega), ?_⟩⟩
          refine ⟨_, (upd_ne (ne_of_none h8 hT)).trans h8, by rw [List.length_map, List.length_range]; exact lt_100 (by omega), ?_, (upd_ne nDL).trans ((upd_ne (ne_of_none hL8 hT)).trans hL8), k9.mut (k6.none b6 hD), b9.upd (b6.ne' hD)⟩
          rw [upd_same]
          exact congrArg (fun l => some (HO.lst l)) (range_app _ i)
        · rintro H8 ⟨h8, hL8, k8, b8⟩
          rw [List.length_map, List.length_range] at h8
          exact fin D _ H8 (k6.none b6 hD) (b6.ne hD) h8 k8 b8 (nam1 hs hn st3 stl)
      · refine ⟨_, rfl, L, _, rfl, SqL.of hL6, fun D hD => lc_enumL (xs := (List.range n).map fun k => V.str (one (sngC fi s k))) (fun i H' => H' D = some (.lst ((List.range i).map fun k : Nat => V.str (mulS (one (sngC fi s k)) (1 + (k : Int) % 4)))) ∧
            H' L = some (.lst ((List.range n).map fun k => V.str (one (sngC fi s k)))) ∧ Kp a H H' ∧ BoxAt H' a (c + 7)) ?_ ?_ ?_ ?_⟩
        · have nDL := ne_of_none hL6 hD
          exact ⟨upd_same, (upd_ne nDL).trans hL6, k6.mut (k6.none b6 hD), (b6.up (by omega)).upd (b6.ne' hD)⟩
        · rintro i H8 _ ⟨_, h, _⟩
          exact SqL.of h
        · rintro i x H8 T hx ⟨h8, hL8, k8, b8⟩ hT
          obtain ⟨hi, rfl⟩ := range_get hx
          have nDL := ne_of_none hL6 hD
          have b9 := b8.upd (o := .tup [V.int (i : Nat), V.str (one (sngC fi s i))]) (b8.ne' hT)
          have k9 := k8.mut (o := .tup [V.int (i : Nat), V.str (one (sngC fi s i))]) (k8.none b8 hT)
          refine ⟨T, _, rfl, SqT.of upd_same, rfl, _, _, rfl, _, _, rfl, rfl, rfl, lcY ⟨_, rfl, _, rfl, _, _, rfl, rfl, (by show (0 : Int) < 4; decide), _, _, rfl, rfl, _, _, rfl, rfl, by omega, (by rw [one_len]; omega), by omega, ?_⟩⟩
          refine ⟨_, (upd_ne (ne_of_none h8 hT)).trans h8, by rw [List.length_map, List.length_range]; exact lt_100 (by omega), ?_, (upd_ne nDL).trans ((upd_ne (ne_of_none hL8 hT)).trans hL8), k9.mut (k6.none b6 hD), b9.upd (b6.ne' hD)⟩
          rw [upd_same]
          exact congrArg (fun l => some (HO.lst l)) (range_app _ i)
        · rintro H8 ⟨h8, hL8, k8, b8⟩
          rw [List.length_map, List.length_range] at h8
          exact fin D _ H8 (k6.none b6 hD) (b6.ne hD) h8 k8 b8 (nam2 hs hn)
end

/-- a def that draws the row of a strip of n names -/
def spRowS (O : HO → Prop) : Sp := fun vs H Q _ => ∃ (a : Addr) (c n : Nat) (G : Hp), vs = [.ref a, .int (n : Nat)] ∧ BoxAt H a c ∧ c + 3000 < 1000000000 ∧ n ≤ 12 ∧ Ex G H ∧ G a = none ∧
  ∀ (v : V) (z : Str) (l : List (Mk × Str)) (G' H' : Hp), Sta G H G' H' a (c + 3000) → DV O G' v (.lst (toD z l)) → OkS z l → tot z l ≤ 2000 → Q v H'
theorem erase_perm {α : Type} : ∀ {xs : List α} {r : Nat} (h : r < xs.length), (xs[r] :: xs.eraseIdx r).Perm xs
  | x :: xs, 0, _ => by simp
  | x :: xs, r + 1, h => by
    have h' : r < xs.length := by simpa using h
    have ih := erase_perm h'
    simp only [List.getElem_cons_succ, List.eraseIdx_cons_succ]
    exact (List.Perm.swap x xs[r] _).trans (List.Perm.cons x ih)
theorem okS_names {ys : List Str} {n : Nat} {z : Str} {l : List (Mk × Str)} (N : Nam n ys) (hn : n ≤ 12) (ok : OkR z l) (p : (nmOf l).Perm (ys ++ ys)) (ht : tot z l ≤ 2000) : OkS z l := by
  have cnt : ∀ x, (nmOf l).count x = 2 * ys.count x := fun x => by
    rw [p.count_eq, List.count_append]
    omega
  have mem : ∀ x, x ∈ nmOf l → x ∈ ys := fun x hx => by
    have := p.mem_iff.mp hx
    rcases List.mem_append.mp this with h | h <;> exact h
  refine ⟨ok, fun x hx => ?_, ?_, ?_, by omega⟩
  · rw [cnt, N.nd.count, if_pos (mem x hx)]
  · have := nodup_sub (fsts_nd (nm := nmOf l) (nmOf l).length) (fun x hx => mem x (by
      have := fsts_mem.mp hx
      rwa [List.take_length] at this))
    have := N.len
    omega
  · have h1 : (nmOf l).length = l.length := by simp [nmOf]
    have h2 := p.length_eq
    rw [List.length_append, N.len] at h2
    omega
section
variable {P : Program} {w : World} {K : PySem.W.Frag} {mg : Str → Option Value} {base : Heap} {O : HO → Prop}
theorem ok_rowS {f : Addr} {fd : FuncData} (F : Fun K "_law_row" "_law_row" s_L_row f fd) (T : Txt K mg)
    {f_L_names : Addr} {fd_L_names : FuncData} (D_L_names : Df K mg "_law_names" f_L_names fd_L_names ["_law_box_here", "_law_many"])
    {f_L_piece : Addr} {fd_L_piece : FuncData} (D_L_piece : Df K mg "_law_piece" f_L_piece fd_L_piece ["_law_box_here"])
    {f_L_take : Addr} {fd_L_take : FuncData} (D_L_take : Df K mg "_law_take" f_L_take fd_L_take ["_law_box_here", "_law_many"]) (G_L_take : FnOk P w K mg base CX0 1 f_L_take fd_L_take ["_law_box_here", "_law_many"] spTake)
    (G_L_names : FnOk P w K mg base CX0 2 f_L_names fd_L_names ["_law_box_here", "_law_many"] spNames) (G_L_piece : FnOk P w K mg base CX0 2 f_L_piece fd_L_piece ["_law_box_here"] spPiece) :
    FnOk P w K mg base CX0 3 f fd ["_law_box_here", "_law_many"] (spRowS O) := by
  refine F.ok sc_L_row (fun vs H Q E h => ?_) (fun cdv A outer s H vs Q E hr h => ?_)
  · obtain ⟨a, c, n, G, rfl, _⟩ := h
    rfl
  · obtain ⟨a, c, n, G, rfl, hb, hc, hn, eG, gA, q⟩ := h
    have S : Sta G H G H a c := .start eG gA hb
    refine ⟨_, (pss_cons (ps_set (i := 2) sc_L_row.nd rfl (.inl rfl) (pe_op op_rep (pe_call G_L_names (hr.mono (by first | decide | omega)) rfl D_L_names.g D_L_names.k D_L_names.b .nil pass0 (pa_cons (pv 0) (pa_cons (pv 1) pa_nil))) pe_int))
    (pss_cons (ps_set (i := 3) sc_L_row.nd rfl (.inl rfl) (pe_lst (pa_cons (pe_call G_L_piece (hr.mono (by first | decide | omega)) rfl D_L_piece.g D_L_piece.k D_L_piece.b .nil pass0 (pa_cons (pv 0) pa_nil)) pa_nil)))
    (pss_cons (ps_for PassesOwn.never rfl (pi_range1 (by rfl) T.z_range (pa_cons (pe_op op_mul pe_int (pv 1)) pa_nil)) (pg_name (i := 4) sc_L_row.nd rfl (.inl rfl))
      (pss_cons (ps_expr (pe_bm PySem.F.plainAttrs_list PySem.F.slot_list_append PySem.F.type_list_append mt_append (pv 3) (pa_cons (pe_tup (pa_cons (pe_bm PySem.F.plainAttrs_list PySem.F.slot_list_pop PySem.F.type_list_pop mt_popAt (pv 2) (pa_cons (pe_call G_L_take (hr.mono (by first | decide | omega)) rfl D_L_take.g D_L_take.k D_L_take.b .nil pass0 (pa_cons (pv 0) (pa_cons (pe_callB call_len_seq (by rfl) T.z_len (by decide +kernel) (pa_cons (pv 2) pa_nil)) pa_nil))) pa_nil)) (pa_cons (pe_cmpR op_eq (pe_call G_L_take (hr.mono (by first | decide | omega)) rfl D_L_take.g D_L_take.k D_L_take.b .nil pass0 (pa_cons (pv 0) (pa_cons pe_int pa_nil))) pe_int (nomark _)) pa_nil))) pa_nil)))
    (pss_one (ps_expr (pe_bm PySem.F.plainAttrs_list PySem.F.slot_list_append PySem.F.type_list_append mt_append (pv 3) (pa_cons (pe_call G_L_piece (hr.mono (by first | decide | omega)) rfl D_L_piece.g D_L_piece.k D_L_piece.b .nil pass0 (pa_cons (pv 0) pa_nil)) pa_nil))))))
    (pss_one (ps_ret (pv 3)))))), ?_⟩
    refine ⟨_, rfl, _, rfl, a, c, n, rfl, hb, by omega, by omega, fun p0 ys H1 k1 b1 hp0 np0 h1 N => ?_⟩
    have S1 := S.draw k1 b1
    refine ⟨p0, _, _, rfl, rfl, h1, by decide, by decide, ?_, fun p hp => ?_⟩
    · have := N.len
      rw [List.length_map]
      exact le_100 (show ys.length * 2 ≤ 100 by omega)
    have np := b1.ne hp
    have hpH : H p = none := S1.kp.none b1 hp
    have gp : G p = none := S1.ex.free hp
    have S2 := S1.hid hp (.lst (List.replicate (2 : Int).toNat (ys.map V.str)).flatten)
    have h2 : upd H1 p (.lst (List.replicate (2 : Int).toNat (ys.map V.str)).flatten) p = some (.lst ((ys ++ ys).map V.str)) := by
      rw [upd_same]
      simp
    generalize upd H1 p (.lst (List.replicate (2 : Int).toNat (ys.map V.str)).flatten) = H2 at S2 h2 ⊢
    refine ⟨_, rfl, a, _, rfl, S2.bx, by omega, fun z H3 k3 b3 hz hpz => ⟨(by show 1 ≤ sizeLine; decide), fun u hu => ?_⟩⟩
    have S3 := S2.draw k3 b3
    have h3 := k3 _ _ np h2
    have npu := ne_of_none h3 hu
    have nua := b3.ne hu
    have uH : H u = none := S3.kp.none b3 hu
    have gu : G u = none := S3.ex.free hu
    have S4 := S3.hid hu (.lst [.str z])
    have u4 : upd H3 u (.lst [.str z]) u = some (.lst [.str z]) := upd_same
    have h4 := (upd_ne (o := .lst [.str z]) npu).trans h3
    generalize upd H3 u (.lst [.str z]) = H4 at S4 u4 h4 ⊢
    refine ⟨_, rfl, _, _, rfl, rfl, .inl ⟨by decide, by decide⟩, ((2 * n : Nat) : Int), rfl, by omega, by omega, ?_⟩
    refine for_range (n := 2 * n) (fun i σ H' => ∃ (G' : Hp) (vs : List V) (l : List (Mk × Str)) (rs : List Str) (y : Option V), σ = [some (.ref a), some (.int (n : Nat)), some (.ref p), some (.ref u), y] ∧ Sta G H G' H' a (c + 70 + 44 * i) ∧ G' u = none ∧ G' p = none ∧
        H' u = some (.lst vs) ∧ H' p = some (.lst (rs.map V.str)) ∧ DVs O G' vs (toD z l) ∧ OkR z l ∧ l.length = i ∧ tot z l ≤ 40 * (i + 1) ∧ (nmOf l ++ rs).Perm (ys ++ ys))
      ⟨G, _, [], ys ++ ys, none, rfl, S4.le (by omega), gu, gp, u4, h4, .cons (.str z (pieceB_ok hpz (by omega))) .nil, ⟨hpz, fun _ h => by simp at h⟩, rfl, by simp [tot]; omega, List.Perm.refl _⟩ ?_ ?_
    · rintro i σ H' hi ⟨G', vs, l, rs, y, rfl, S', g', gp', hu', hp', d', ok, hl, ht, pm⟩
      have hlv : vs.length = 2 * i + 1 := by rw [d'.length, toD_len, hl]
      have rl : rs.length = 2 * n - i := by
        have := pm.length_eq
        have h7 : (nmOf l).length = l.length := by simp [nmOf]
        rw [List.length_append, List.length_append, N.len] at this
        omega
      have rml : (rs.map V.str).length = rs.length := by simp
      refine ⟨_, rfl, .inl ⟨rfl, _, SqL.of hu'⟩, _, rfl, .inl ⟨rfl, _, SqL.of hp'⟩, _, rfl, _, rfl, p, _, rfl, .inl (SqL.of hp'), a, _, ((rs.map V.str).length : Nat), rfl, S'.bx, by omega, by omega, by omega, fun r H5 k5 b5 r0 r1 => ?_⟩
      obtain ⟨r, rfl⟩ := Int.eq_ofNat_of_zero_le r0
      have hr : r < rs.length := by omega
      have S5 := S'.draw k5 b5
      have hp5 := k5 _ _ np hp'
      have hu5 := k5 _ _ nua hu'
      refine ⟨p, _, r, r, .str rs[r], rfl, rfl, hp5, by omega, by omega, ?_, by simp [hr], ?_⟩
      · unfold seqIndex?
        rw [if_neg (show ¬ ((r : Int) < 0) by omega)]
        simp [hr]
      have er : (rs.map V.str).eraseIdx r = (rs.eraseIdx r).map V.str := by
        rw [List.eraseIdx_eq_take_drop_succ, List.eraseIdx_eq_take_drop_succ, List.map_append, List.map_take, List.map_drop]
      rw [er]
      have S6 := S5.put gp' np hpH (.lst ((rs.eraseIdx r).map V.str))
      have hu6 := (upd_ne (o := .lst ((rs.eraseIdx r).map V.str)) npu.symm).trans hu5
      have hp6 : upd H5 p (.lst ((rs.eraseIdx r).map V.str)) p = some (.lst ((rs.eraseIdx r).map V.str)) := upd_same
      generalize upd H5 p (.lst ((rs.eraseIdx r).map V.str)) = H6 at S6 hu6 hp6 ⊢
      have hw : nameB rs[r] = true := by
        have hm : rs[r] ∈ ys ++ ys := pm.mem_iff.mp (by simp)
        rcases List.mem_append.mp hm with h | h <;> exact N.ok _ h
      have pm2 : (nmOf l ++ [rs[r]] ++ rs.eraseIdx r).Perm (ys ++ ys) := by
        refine List.Perm.trans ?_ pm
        rw [List.append_assoc]
        exact List.Perm.append_left _ (erase_perm hr)
      generalize rs[r] = w at hw pm2 ⊢
      refine ⟨_, rfl, a, _, 2, rfl, S6.bx, by omega, by decide, by decide, fun r2 H7 k7 b7 _ _ => ⟨rfl, (by show 2 ≤ sizeLine; decide), fun t ht2 => ?_⟩⟩
      have S7 := S6.draw k7 b7
      have hu7 := k7 _ _ nua hu6
      have hp7 := k7 _ _ np hp6
      have ntu := ne_of_none hu7 ht2
      have ntp := ne_of_none hp7 ht2
      have S8 := S7.new ht2 (.tup [.str w, .bl (decide (V.int r2 = V.int 0))])
      have e8 : Ex G' (upd G' t (.tup [.str w, .bl (decide (V.int r2 = V.int 0))])) := S7.enew ht2
      have hu8 := (upd_ne (o := .tup [.str w, .bl (decide (V.int r2 = V.int 0))]) ntu).trans hu7
      have hp8 := (upd_ne (o := .tup [.str w, .bl (decide (V.int r2 = V.int 0))]) ntp).trans hp7
      have g8 := (upd_ne (o := .tup [.str w, .bl (decide (V.int r2 = V.int 0))]) ntu).trans g'
      have gp8 := (upd_ne (o := .tup [.str w, .bl (decide (V.int r2 = V.int 0))]) ntp).trans gp'
      have dt : DV O (upd G' t (.tup [.str w, .bl (decide (V.int r2 = V.int 0))])) (.ref t) (.tup [.str w, .bl (decide (V.int r2 = V.int 0))]) := .tup upd_same (.cons (.str w (nameB_ok hw)) (.cons (.bl _) .nil)) (by show 2 ≤ 100000; decide)
      generalize decide (V.int r2 = V.int 0) = bb at S8 e8 hu8 hp8 g8 gp8 dt ⊢
      refine ⟨u, vs, _, rfl, rfl, hu8, lt_200 (by omega), ?_⟩
      have S9 := S8.put g8 nua uH (.lst (vs ++ [.ref t]))
      have hu9 : upd (upd H7 t (.tup [.str w, .bl bb])) u (.lst (vs ++ [.ref t])) u = some (.lst (vs ++ [.ref t])) := upd_same
      have hp9 := (upd_ne (o := .lst (vs ++ [.ref t])) npu).trans hp8
      have d9 := (DVs.ex e8 _ _ d').app (.cons dt .nil)
      generalize upd (upd H7 t (.tup [.str w, .bl bb])) u (.lst (vs ++ [.ref t])) = H9 at S9 hu9 hp9 ⊢
      refine ⟨_, rfl, .inl ⟨rfl, _, SqL.of hu9⟩, _, rfl, a, _, rfl, S9.bx, by omega, fun z2 H10 k10 b10 hz2 hpz2 => ?_⟩
      have S10 := S9.draw k10 b10
      have hu10 := k10 _ _ nua hu9
      have hp10 := k10 _ _ np hp9
      refine ⟨u, _, _, rfl, rfl, hu10, lt_200 (by simp; omega), ?_⟩
      have td : toD z (l ++ [((w, bb), z2)]) = toD z l ++ [.tup [.str w, .bl bb]] ++ [.str z2] := by
        unfold toD
        rw [tlD_app]
        simp [tlD, mkD]
      refine ⟨_, _, l ++ [((w, bb), z2)], rs.eraseIdx r, _, rfl, (S10.put g8 nua uH _).le (by omega), g8, gp8, upd_same, (upd_ne npu).trans hp10, ?_, ⟨ok.pz, fun q hq => ?_⟩, by simp [hl], ?_, ?_⟩
      · rw [td]
        exact d9.app (.cons (.str z2 (pieceB_ok hpz2 (by omega))) .nil)
      · rcases List.mem_append.mp hq with hq | hq
        · exact ok.pl q hq
        · have : q = ((w, bb), z2) := by simpa using hq
          subst this
          exact ⟨hw, hpz2⟩
      · unfold tot at ht ⊢
        rw [List.map_append, List.sum_append]
        simp
        omega
      · have : nmOf (l ++ [((w, bb), z2)]) = nmOf l ++ [w] := by simp [nmOf]
        rw [this]
        exact pm2
    · rintro σ H' ⟨G', vs, l, rs, y, rfl, S', g', gp', hu', hp', d', ok, hl, ht, pm⟩
      have s7 := S'.know hu' nua uH g'
      have e7 : Ex G' (upd G' u (.lst vs)) := Ex.new g'
      have rl : rs = [] := by
        have := pm.length_eq
        have h7 : (nmOf l).length = l.length := by simp [nmOf]
        rw [List.length_append, List.length_append, N.len] at this
        exact List.eq_nil_of_length_eq_zero (by omega)
      subst rl
      rw [List.append_nil] at pm
      exact ⟨_, rfl, q _ z l _ _ (s7.le (by omega)) (.lst upd_same (DVs.ex e7 _ _ d') (by rw [d'.length, toD_len]; omega)) (okS_names N hn ok pm (by omega)) (by omega)⟩
end

section
variable {P : Program} {w : World} {K : PySem.W.Frag} {mg : Str → Option Value} {base : Heap} {O : HO → Prop}
theorem ok_marks {f : Addr} {fd : FuncData} (F : Fun K "_law_marks" "_law_marks" s_L_marks f fd) (T : Txt K mg) :
    FnOk P w K mg base CX0 1 f fd ["_law_row_here"] (spMarks O) := by
  refine F.ok sc_L_marks (fun vs H Q E h => ?_) (fun cdv A outer s H vs Q E hr h => ?_)
  · obtain ⟨v, z, l, rfl, _⟩ := h
    rfl
  · obtain ⟨v, z, l, rfl, hv, hl, q⟩ := h
    cases hv with
    | @lst a rv _ ha hd hrl =>
    have hdo : DVs O H (odds rv) (l.map fun p => mkD p.1) := by
      have := dvs_odds hd
      rwa [show Gd.odds (toD z l) = l.map fun p => mkD p.1 from odds_toD l _] at this
    refine ⟨_, (pss_cons (ps_set (i := 1) sc_L_marks.nd rfl (.inl rfl) pe_dnewK)
    (pss_cons (ps_for PassesOwn.never rfl (pi_enum (by rfl) T.z_enumerate (pa_cons (pe_sliceS ss_twoL (pv 0) (po_some pe_int) po_none (po_some pe_int)) pa_nil)) (pg_tup (by rfl) (pgs_cons (pg_name (i := 2) sc_L_marks.nd rfl (.inl rfl)) (pgs_cons (pg_name (i := 3) sc_L_marks.nd rfl (.inl rfl)) pgs_nil)))
      (pss_one (ps_expr (pe_bm PySem.F.plainAttrs_list PySem.F.slot_list_append PySem.F.type_list_append mt_append (pe_dsetd (pv 1) (pe_ix ix_tup (pv 3) pe_int (fun _ _ => rfl)) (pe_lst pa_nil) ⟨by rfl, by rfl, by rfl, by rfl⟩) (pa_cons (pe_tup (pa_cons (pv 2) (pa_cons (pe_ix ix_tup (pv 3) pe_int (fun _ _ => rfl)) pa_nil))) pa_nil)))))
    (pss_one (ps_ret (pv 1))))), ?_⟩
    refine fun p hp => ?_
    have e1 : Ex H (upd H p (.dK [])) := Ex.new hp
    have h1 : upd H p (.dK []) p = some (.dK []) := upd_same
    generalize upd H p (.dK []) = H1 at e1 h1 ⊢
    refine ⟨_, rfl, _, rfl, _, rfl, a, rv, rfl, SqL.of (e1 _ _ ha), rfl, rfl, .inr ⟨rfl, fun o ho => ?_⟩⟩
    have e2 : Ex H (upd H1 o (.lst (odds rv))) := e1.tr (Ex.new ho)
    have npo : p ≠ o := ne_of_none h1 ho
    have h2 : upd H1 o (.lst (odds rv)) p = some (.dK []) := (upd_ne npo).trans h1
    have ho2 : upd H1 o (.lst (odds rv)) o = some (.lst (odds rv)) := upd_same
    have fo : H o = none := e1.free ho
    generalize upd H1 o (.lst (odds rv)) = H2 at e2 h2 ho2 ⊢
    clear ho h1 e1
    have ol : (odds rv).length = l.length := by rw [hdo.length, List.length_map]
    refine ⟨o, odds rv, rfl, SqL.of ho2, ?_⟩
    refine for_enumL (K := K) (a := o) (xs := odds rv) (fun i σ H' => ∃ y2 y3 kvs val, σ = [some (.ref a), some (.ref p), y2, y3] ∧ Ex H H' ∧ H' o = some (.lst (odds rv)) ∧ H' p = some (.dK kvs) ∧ PlcV val H p H' (nmOf l) i kvs ∧ (∀ k, (k, V.ref o) ∉ kvs) ∧
        ∀ k, k < i → ∃ t, val k = .ref t ∧ H t = none ∧ H' t = some (.tup [.int (k : Nat), .bl (upOf l k)]))
      ⟨none, none, [], fun _ => .non, rfl, e2, ho2, h2, PlcV.nil, fun _ h => by simp at h, fun _ h => by omega⟩ (fun i σ H' _ ⟨_, _, _, _, _, _, e, _⟩ => SqL.of e) ?_ ?_
    · rintro i x σ H3 Tp hx ⟨y2, y3, kvs, val, rfl, e3, ho3, h3, P3, no, vt⟩ hT
      obtain ⟨d, hdi, hxd⟩ := hdo.get hx
      rw [List.getElem?_map] at hdi
      obtain ⟨pr, hpr, rfl⟩ := Option.map_eq_some_iff.mp hdi
      have hnm : (nmOf l)[i]? = some pr.1.1 := by rw [nmOf, List.getElem?_map, hpr]; rfl
      have hi : i < l.length := (List.getElem?_eq_some_iff.mp hpr).1
      obtain ⟨t, rfl, ht⟩ := mark_val hxd
      have ntp := ne_of_none h3 hT
      have nto := ne_of_none ho3 hT
      have x4 : Ex H3 (upd H3 Tp (.tup [.int (i : Nat), .ref t])) := Ex.new hT
      have e4 := e3.tr x4
      have P4 : PlcV val H p (upd H3 Tp (.tup [.int (i : Nat), .ref t])) (nmOf l) i kvs := P3.kp (Kp.of x4)
      have h4 := x4 _ _ h3
      have ho4 := x4 _ _ ho3
      have hT4 : upd H3 Tp (.tup [.int (i : Nat), .ref t]) Tp = some (.tup [.int (i : Nat), .ref t]) := upd_same
      have vt4 : ∀ k, k < i → ∃ t', val k = .ref t' ∧ H t' = none ∧ upd H3 Tp (.tup [.int (i : Nat), .ref t]) t' = some (.tup [.int (k : Nat), .bl (upOf l k)]) := fun k hk => by
        obtain ⟨t', a1, a2, a3⟩ := vt k hk
        have hT' : t' ≠ Tp := ne_of_none a3 hT
        exact ⟨t', a1, a2, (upd_ne hT').trans a3⟩
      generalize upd H3 Tp (.tup [.int (i : Nat), .ref t]) = H4 at x4 e4 P4 h4 ho4 hT4 vt4 ⊢
      clear vt P3 h3 ho3 e3 x4 hT
      have ht4 := e4 _ _ ht
      refine ⟨Tp, _, rfl, SqT.of hT4, rfl, _, _, rfl, _, _, rfl, rfl, ?_⟩
      refine ⟨_, rfl, p, rfl, .inl ⟨kvs, .inl h4⟩, _, rfl, t, _, 0, _, rfl, rfl, SqT.of ht4, rfl, (by show 0 ≤ sizeLine; decide), fun zz hzz => ?_⟩
      have npz := ne_of_none h4 hzz
      have noz := ne_of_none ho4 hzz
      have x5 : Ex H4 (upd H4 zz (.lst [])) := Ex.new hzz
      have hz5 : upd H4 zz (.lst []) zz = some (.lst []) := upd_same
      have fz : H zz = none := e4.free hzz
      refine ⟨kvs, Sum.inr pr.1.1, x5 _ _ h4, rfl, Nat.lt_of_le_of_lt (show kvs.length ≤ 100 by have := P4.len; omega) (by decide), fun v hv' => ?_, fun hv' => ?_⟩
      · have hm := valV_mem hv'
        have P5 := P4.kp (Kp.of x5)
        have e5 := e4.tr x5
        have h5 := x5 _ _ h4
        have ho5 := x5 _ _ ho4
        have ht5 := x5 _ _ ht4
        have vt5 : ∀ k, k < i → ∃ t, val k = .ref t ∧ H t = none ∧ upd H4 zz (.lst []) t = some (.tup [.int (k : Nat), .bl (upOf l k)]) := fun k hk => by
          obtain ⟨t', a1, a2, a3⟩ := vt4 k hk
          exact ⟨t', a1, a2, x5 _ _ a3⟩
        generalize upd H4 zz (.lst []) = H5 at x5 P5 e5 h5 ho5 ht5 vt5 ⊢
        obtain ⟨x', b, ex, rfl, gb, nbp, hb5, hx5⟩ := P5.at_ _ _ hm
        refine ⟨.inl ⟨rfl, _, SqL.of hb5⟩, _, rfl, _, rfl, t, _, 1, _, rfl, rfl, SqT.of ht5, rfl, (by show 2 ≤ sizeLine; decide), fun w hw => ?_⟩
        have x6 : Ex H5 (upd H5 w (.tup [.int (i : Nat), .bl pr.1.2])) := Ex.new hw
        have fw : H w = none := e5.free hw
        have hw6 : upd H5 w (.tup [.int (i : Nat), .bl pr.1.2]) w = some (.tup [.int (i : Nat), .bl pr.1.2]) := upd_same
        have P6 : PlcV (fun k => if k = i then .ref w else val k) H p (upd H5 w (.tup [.int (i : Nat), .bl pr.1.2])) (nmOf l) i kvs := (P5.kp (Kp.of x6)).congr fun k hk => by rw [if_neg (by omega)]
        generalize upd H5 w (.tup [.int (i : Nat), .bl pr.1.2]) = H6 at x6 hw6 P6 ⊢
        obtain ⟨x2, b2, ex2, eb, gb, nbp, hb6, hx6⟩ := P6.at_ _ _ hm
        cases eb
        cases ex2
        have nbo : b ≠ o := fun e => no _ (e ▸ hm)
        have lb : ((occ (nmOf l) pr.1.1 i).map fun k => if k = i then V.ref w else val k).length ≤ 200 := by
          have := occ_len (nmOf l) pr.1.1 i
          have h3 := List.count_le_length (a := pr.1.1) (l := (nmOf l).take i)
          rw [List.length_take] at h3
          rw [List.length_map]
          omega
        refine ⟨b, _, _, rfl, rfl, hb6, lt_200 lb, ?_⟩
        have Pn := P6.old hm hnm
        rw [show (if i = i then V.ref w else val i) = V.ref w from if_pos rfl] at Pn
        refine ⟨_, _, kvs, _, rfl, (e5.tr x6).mut gb, (upd_ne nbo.symm).trans (x6 _ _ ho5), (upd_ne nbp.symm).trans (x6 _ _ h5), Pn, no, fun k hk => ?_⟩
        by_cases ki : k = i
        · subst ki
          have nwb : w ≠ b := fun e => by rw [e, hb6] at hw6; cases hw6
          exact ⟨w, if_pos rfl, fw, (upd_ne nwb).trans (by rw [hw6, upOf_at hpr])⟩
        · obtain ⟨t', a1, a2, a3⟩ := vt5 k (by omega)
          have a3' := x6 _ _ a3
          have ntb : t' ≠ b := fun e => by rw [e, hb6] at a3'; cases a3'
          exact ⟨t', by rw [if_neg ki]; exact a1, a2, (upd_ne ntb).trans a3'⟩
      · rw [put_new hv']
        have k5 : Kp p H4 (upd (upd H4 zz (.lst [])) p (.dK (kvs ++ [(Sum.inr pr.1.1, .ref zz)]))) := (Kp.of x5).tr Kp.at
        have e5 : Ex H (upd (upd H4 zz (.lst [])) p (.dK (kvs ++ [(Sum.inr pr.1.1, .ref zz)]))) := (e4.tr x5).mut hp
        have hz5' := (upd_ne (o := .dK (kvs ++ [(Sum.inr pr.1.1, V.ref zz)])) npz.symm).trans hz5
        have ho5 := k5 _ _ npo.symm ho4
        have h5 : upd (upd H4 zz (.lst [])) p (.dK (kvs ++ [(Sum.inr pr.1.1, .ref zz)])) p = some (.dK (kvs ++ [(Sum.inr pr.1.1, .ref zz)])) := upd_same
        have ntp' : t ≠ p := fun e => by rw [e, h4] at ht4; cases ht4
        have ht5 := k5 _ _ ntp' ht4
        generalize upd (upd H4 zz (.lst [])) p (.dK (kvs ++ [(Sum.inr pr.1.1, .ref zz)])) = H5 at k5 e5 hz5' ho5 h5 ht5 ⊢
        refine ⟨.inl ⟨rfl, _, SqL.of hz5'⟩, _, rfl, _, rfl, t, _, 1, _, rfl, rfl, SqT.of ht5, rfl, (by show 2 ≤ sizeLine; decide), fun w hw => ?_⟩
        have x6 : Ex H5 (upd H5 w (.tup [.int (i : Nat), .bl pr.1.2])) := Ex.new hw
        have fw : H w = none := e5.free hw
        have hw6 : upd H5 w (.tup [.int (i : Nat), .bl pr.1.2]) w = some (.tup [.int (i : Nat), .bl pr.1.2]) := upd_same
        have P4' : PlcV (fun k => if k = i then .ref w else val k) H p H4 (nmOf l) i kvs := P4.congr fun k hk => by rw [if_neg (by omega)]
        have P6 := P4'.new hnm hv' fz npz.symm hzz _ (k5.tr (Kp.of x6))
        rw [show (if i = i then V.ref w else val i) = V.ref w from if_pos rfl] at P6
        generalize upd H5 w (.tup [.int (i : Nat), .bl pr.1.2]) = H6 at x6 hw6 P6 ⊢
        have hz6 := x6 _ _ hz5'
        refine ⟨zz, _, _, rfl, rfl, hz6, lt_200 (by simp), ?_⟩
        refine ⟨_, _, kvs ++ [(Sum.inr pr.1.1, .ref zz)], _, rfl, (e5.tr x6).mut fz, (upd_ne noz).trans (x6 _ _ ho5), (upd_ne npz).trans (x6 _ _ h5), by rw [List.nil_append]; exact P6, fun k hk => ?_, fun k hk => ?_⟩
        · rcases List.mem_append.mp hk with hk | hk
          · exact no k hk
          · have e : (k, V.ref o) = (Sum.inr pr.1.1, V.ref zz) := by simpa using hk
            cases e
            exact noz rfl
        · by_cases ki : k = i
          · subst ki
            have nwz : w ≠ zz := fun e => by rw [e, hz6] at hw6; cases hw6
            exact ⟨w, if_pos rfl, fw, (upd_ne nwz).trans (by rw [hw6, upOf_at hpr])⟩
          · obtain ⟨t', a1, a2, a3⟩ := vt4 k (by omega)
            have nt'p : t' ≠ p := fun e => by rw [e, h4] at a3; cases a3
            have a3' := x6 _ _ (k5 _ _ nt'p a3)
            have ntz : t' ≠ zz := fun e => by rw [e, hz6] at a3'; cases a3'
            exact ⟨t', by rw [if_neg ki]; exact a1, a2, (upd_ne ntz).trans a3'⟩
    · rintro σ H3 ⟨y2, y3, kvs, val, rfl, e3, ho3, h3, P3, no, vt⟩
      rw [ol] at P3 vt
      exact ⟨_, rfl, q p kvs val H3 e3 hp h3 (by rw [show (nmOf l).length = l.length by simp [nmOf]]; exact P3) (fun k hk => by
        obtain ⟨t, a1, _, a3⟩ := vt k hk
        exact ⟨t, a1, a3⟩)⟩
theorem ok_text {f : Addr} {fd : FuncData} (F : Fun K "_law_text" "_law_text" s_L_text f fd) (T : Txt K mg) (ho : OthOk K O) :
    FnOk P w K mg base CX0 1 f fd ["_law_row_here"] (fun vs H Q _ => ∃ a rv ds, vs = [.ref a] ∧ H a = some (.lst rv) ∧ DVs O H rv ds ∧ (∀ d ∈ ds, It 100000 d) ∧ ds.length ≤ 49 ∧ Val H (.str (textD ds)) Q) := by
  refine F.ok sc_L_text (fun vs H Q E h => ?_) (fun cdv A outer s H vs Q E hr h => ?_)
  · obtain ⟨a, rv, ds, rfl, _⟩ := h
    rfl
  · obtain ⟨a, rv, ds, rfl, ha, hd, hi, hl, q⟩ := h
    refine ⟨_, (pss_cons (ps_set (i := 1) sc_L_text.nd rfl (.inl rfl) (pe_lst pa_nil))
    (pss_cons (ps_for PassesOwn.never rfl (pi_list (pv 0)) (pg_name (i := 2) sc_L_text.nd rfl (.inl rfl))
      (pss_one (ps_if (pt_val (pe_callB call_isi (by rfl) T.z_isinstance (by decide +kernel) (pa_cons (pv 2) (pa_cons (pe_bltn (v := .ty "tuple") (by rfl) T.z_tuple (by decide +kernel) rfl) pa_nil)))) (pss_one (ps_expr (pe_bm PySem.F.plainAttrs_list PySem.F.slot_list_append PySem.F.type_list_append mt_append (pv 1) (pa_cons (pe_op op_add_str (pe_ix ix_tup (pv 2) pe_int (fun _ _ => rfl)) (pe_ix ix_str pe_str (pe_callTy call_int1 (by rfl) T.z_int (by decide +kernel) (pa_cons (pe_ix ix_tup (pv 2) pe_int (fun _ _ => rfl)) pa_nil)) (fun _ _ => rfl))) pa_nil)))) (pss_one (ps_expr (pe_bm PySem.F.plainAttrs_list PySem.F.slot_list_append PySem.F.type_list_append mt_append (pv 1) (pa_cons (pe_ifExp (pt_cmpR op_eq (pv 2) pe_str (nomark _)) pe_str (pv 2)) pa_nil)))))))
    (pss_one (ps_ret (pe_bm PySem.F.plainAttrs_str PySem.F.slot_str_join PySem.F.type_str_join mt_join pe_str (pa_cons (pv 1) pa_nil)))))), ?_⟩
    refine ⟨(by show 0 ≤ sizeLine; decide), fun u hu => ?_⟩
    refine ⟨_, rfl, a, rfl, ⟨_, SqL.of (Ex.new hu _ _ ha)⟩, ?_⟩
    refine for_list (K := K) (a := a) (xs := rv) (fun i σ H' => ∃ y2, σ = [some (.ref a), some (.ref u), y2] ∧ Ex H H' ∧ H' u = some (.lst (((ds.take i).map wordD).map V.str)))
      ⟨none, rfl, Ex.new hu, upd_same⟩ (fun i σ H' _ ⟨_, _, e, _⟩ => SqL.of (e _ _ ha)) ?_ ?_
    · rintro i x σ H2 hx ⟨y2, rfl, e2, h2⟩
      obtain ⟨d, hdi, hxd⟩ := hd.get hx
      have hil : i < rv.length := (List.getElem?_eq_some_iff.mp hx).1
      have hdl := hd.length
      obtain ⟨t, ty, _, _, _, k1, _⟩ := (hxd.ex e2).ty ho
      have app : ∀ z : Str, z = wordD d → upd H2 u (.lst ((((ds.take i).map wordD).map V.str) ++ [V.str z])) u = some (.lst (((ds.take (i + 1)).map wordD).map V.str)) := fun z hz => by
        rw [upd_same, List.take_add_one, hdi, hz]
        simp
      refine ⟨_, rfl, x, _, t, _, _, rfl, .ty _, ty, k1, _, rfl, ?_⟩
      rcases hi d (List.mem_of_getElem? hdi) with ⟨z, rfl, hz, hzl⟩ | ⟨z, b, rfl, hz, hzl⟩
      · obtain ⟨rfl, hzo⟩ := str_val hxd
        refine iteF ⟨_, rfl, .inl ⟨rfl, _, SqL.of h2⟩, _, rfl, rfl, _, rfl, ?_⟩
        refine ite2 (fun h => ?_) (fun h => ?_)
        · have hz0 : z = ("" : Str) := by
            have := of_decide_eq_true h
            injection this
          subst hz0
          exact ⟨u, _, _, rfl, rfl, h2, lt_200 (by simp; omega), _, rfl, e2.mut hu, app _ rfl⟩
        · refine ⟨_, rfl, u, _, _, rfl, rfl, h2, lt_200 (by simp; omega), _, rfl, e2.mut hu, app _ ?_⟩
          show z = (if z.length > 0 then z else "_" : Str)
          rw [if_pos]
          by_cases h0 : z.length > 0
          · exact h0
          · exfalso
            apply h
            have : z = ("" : Str) := by
              apply str_ext
              rw [Gd.len_list] at h0
              exact List.eq_nil_of_length_eq_zero (by omega)
            subst this
            rfl
      · obtain ⟨t2, rfl, ht2⟩ := mark_val hxd
        have ht2' := e2 _ _ ht2
        have lz : z.length + 1 ≤ sizeLine := by
          have : z.length + 1 ≤ 200000 := by omega
          exact Nat.le_trans this (by decide)
        refine iteT ⟨_, rfl, .inl ⟨rfl, _, SqL.of h2⟩, _, rfl, t2, _, 0, _, rfl, rfl, SqT.of ht2', rfl, _, rfl, t2, _, 1, _, rfl, rfl, SqT.of ht2', rfl, .inr ⟨b, rfl, ?_⟩⟩
        cases b with
        | true => exact ⟨_, 1, _, rfl, rfl, (by show 2 ≤ sizeLine; decide), rfl, _, _, rfl, rfl, lz, u, _, _, rfl, rfl, h2, lt_200 (by simp; omega), _, rfl, e2.mut hu, app _ rfl⟩
        | false => exact ⟨_, 0, _, rfl, rfl, (by show 2 ≤ sizeLine; decide), rfl, _, _, rfl, rfl, lz, u, _, _, rfl, rfl, h2, lt_200 (by simp; omega), _, rfl, e2.mut hu, app _ rfl⟩
    · rintro σ H2 ⟨y2, rfl, e2, h2⟩
      rw [hd.length, List.take_length] at h2
      exact ⟨tyS, _, rfl, _, u, _, rfl, rfl, .inl (SqL.of h2), words_fit hi hl (by decide), q H2 e2⟩
end

section
variable {P : Program} {w : World} {K : PySem.W.Frag} {mg : Str → Option Value} {base : Heap} {O : HO → Prop} {C_Strip : Addr}
theorem ok_names_right {f : Addr} {fd : FuncData} (F : Fun K "_law_names_right" "_law_names_right" s_L_names_right f fd) (T : Txt K mg) (TC_Strip : StripCls K C_Strip) {f_Strip_names_between : Addr} {fd_Strip_names_between : FuncData} (D_Strip_names_between : Dm K C_Strip "names_between" f_Strip_names_between fd_Strip_names_between ["self", "name"])
    {f_Strip_is_direct : Addr} {fd_Strip_is_direct : FuncData} (D_Strip_is_direct : Dm K C_Strip "is_direct" f_Strip_is_direct fd_Strip_is_direct ["self", "name"])
    {f_Strip_places : Addr} {fd_Strip_places : FuncData} (D_Strip_places : Dm K C_Strip "places" f_Strip_places fd_Strip_places ["self", "name"])
    {f_Strip_orientations : Addr} {fd_Strip_orientations : FuncData} (D_Strip_orientations : Dm K C_Strip "orientations" f_Strip_orientations fd_Strip_orientations ["self", "name"])
    {f_Strip_crosses : Addr} {fd_Strip_crosses : FuncData} (D_Strip_crosses : Dm K C_Strip "crosses" f_Strip_crosses fd_Strip_crosses ["self", "one", "other"])
    (G_Strip_places : FnOk P w K mg base CX0 4 f_Strip_places fd_Strip_places ["self", "name"] (spSt1 O C_Strip fun z l y H Q => ∀ t H', Ex H H' → H t = some (.tup [.int (plc (nmOf l) y 0 : Nat), .int (plc (nmOf l) y 1 : Nat)]) → Q (.ref t) H'))
    (G_Strip_orientations : FnOk P w K mg base CX0 4 f_Strip_orientations fd_Strip_orientations ["self", "name"] (spSt1 O C_Strip fun z l y H Q => NewU H [.bl (upOf l (plc (nmOf l) y 0)), .bl (upOf l (plc (nmOf l) y 1))] Q))
    (G_Strip_is_direct : FnOk P w K mg base CX0 5 f_Strip_is_direct fd_Strip_is_direct ["self", "name"] (spSt1 O C_Strip fun z l y H Q => Val H (.bl (upOf l (plc (nmOf l) y 0) == upOf l (plc (nmOf l) y 1))) Q))
    (G_Strip_names_between : FnOk P w K mg base CX0 4 f_Strip_names_between fd_Strip_names_between ["self", "name"] (spSt1 O C_Strip fun z l y H Q => NewV H ((betw (nmOf l) y).map V.str) Q))
    (G_Strip_crosses : FnOk P w K mg base CX0 4 f_Strip_crosses fd_Strip_crosses ["self", "one", "other"] (spStX O C_Strip)) :
    FnG P w K mg base CX0 6 f fd ["_law_strip", "_law_row_here", "_law_marks_here"] (spNamesRight O C_Strip) := by
  refine okG F sc_L_names_right (fun vs H Q E h => ?_) (fun cdv A outer s H vs Q E hgd hr h => ?_)
  · obtain ⟨x, r, p, z, l, rv, kvs, G, rfl, _⟩ := h
    rfl
  · obtain ⟨x, r, p, z, l, rv, kvs, G, rfl, eG, gp, S, hr1, hrd, M, hp, q⟩ := h
    have hrep : (A.deeper (envOfC "_law_names_right" (defScope s_L_names_right) s.heap.objs.size f cdv)).units + 66 < cLine := by
      have := hr.un
      omega
    have nl : (nmOf l).length = l.length := by simp [nmOf]
    have few := S.ok.few
    refine ⟨_, (pss_cons (ps_lock (ps_for PassesOwn.never rfl (pi_items (pv 2)) (pg_tup (by rfl) (pgs_cons (pg_name (i := 3) sc_L_names_right.nd rfl (.inl rfl)) (pgs_cons (pg_name (i := 4) sc_L_names_right.nd rfl (.inl rfl)) pgs_nil)))
      (pss_cons (ps_asg (pv 4) (pg_lst (by rfl) (pgs_cons (pg_name (i := 5) sc_L_names_right.nd rfl (.inr rfl)) (pgs_cons (pg_name (i := 6) sc_L_names_right.nd rfl (.inr rfl)) pgs_nil))))
    (pss_cons (ps_if (pt_cmpR op_ne (pe_callB (call_reprD hgd hrep) (by rfl) T.z_repr (by decide +kernel) (pa_cons (pe_lst (pa_cons (pe_meth (pv 0) TC_Strip.cl D_Strip_places.m G_Strip_places (hr.mono (by first | decide | omega)) D_Strip_places.b .nil pass0 (pa_cons (pv 3) pa_nil)) (pa_cons (pe_meth (pv 0) TC_Strip.cl D_Strip_orientations.m G_Strip_orientations (hr.mono (by first | decide | omega)) D_Strip_orientations.b .nil pass0 (pa_cons (pv 3) pa_nil)) pa_nil))) pa_nil)) (pe_callB (call_reprD hgd hrep) (by rfl) T.z_repr (by decide +kernel) (pa_cons (pe_lst (pa_cons (pe_tup (pa_cons (pe_ix ix_tup (pv 5) pe_int (fun _ _ => rfl)) (pa_cons (pe_ix ix_tup (pv 6) pe_int (fun _ _ => rfl)) pa_nil))) (pa_cons (pe_tup (pa_cons (pe_ix ix_tup (pv 5) pe_int (fun _ _ => rfl)) (pa_cons (pe_ix ix_tup (pv 6) pe_int (fun _ _ => rfl)) pa_nil))) pa_nil))) pa_nil)) (nomark _)) (pss_one (ps_ret pe_bl)) pss_nil)
    (pss_cons (ps_if (pt_cmpR op_ne (pe_callB (call_reprD hgd hrep) (by rfl) T.z_repr (by decide +kernel) (pa_cons (pe_meth (pv 0) TC_Strip.cl D_Strip_is_direct.m G_Strip_is_direct (hr.mono (by first | decide | omega)) D_Strip_is_direct.b .nil pass0 (pa_cons (pv 3) pa_nil)) pa_nil)) (pe_callB (call_reprD hgd hrep) (by rfl) T.z_repr (by decide +kernel) (pa_cons (pe_cmpR op_eq (pe_ix ix_tup (pv 5) pe_int (fun _ _ => rfl)) (pe_ix ix_tup (pv 6) pe_int (fun _ _ => rfl)) (nomark _)) pa_nil)) (nomark _)) (pss_one (ps_ret pe_bl)) pss_nil)
    (pss_cons (ps_if (pt_cmpR (op_neD hr.units) (pe_meth (pv 0) TC_Strip.cl D_Strip_names_between.m G_Strip_names_between (hr.mono (by first | decide | omega)) D_Strip_names_between.b .nil pass0 (pa_cons (pv 3) pa_nil)) (pe_slice sl_list (pe_lc (own := [("_law_mark", 12)]) (g := gName 12) (tt := tYes) rfl sc_L_names_right.nd (pi_list (pe_sliceS ss_twoL (pv 1) (po_some pe_int) po_none (po_some pe_int))) (blkOk_by (N := sc_L_names_right.N') (sc := defScope s_L_names_right) (by decide +kernel)) (fun _ _ _ _ _ => (pg_name (i := 12) sc_L_names_right.nd rfl (by first | exact Or.inl rfl | exact Or.inr rfl))) (fun _ _ _ _ _ => pts_nil) (fun _ _ _ _ _ => (pe_ix (ix_tupK (K := K) rfl) (pv 12) pe_int (fun _ _ => rfl)))) (po_some (pe_op op_add (pe_ix ix_tup (pv 5) pe_int (fun _ _ => rfl)) pe_int)) (po_some (pe_ix ix_tup (pv 6) pe_int (fun _ _ => rfl)))) (nomark _)) (pss_one (ps_ret pe_bl)) pss_nil)
    (pss_cons (ps_expr (pe_bm PySem.F.plainAttrs_list PySem.F.slot_list_append PySem.F.type_list_append mt_append (pe_meth (pv 0) TC_Strip.cl D_Strip_names_between.m G_Strip_names_between (hr.mono (by first | decide | omega)) D_Strip_names_between.b .nil pass0 (pa_cons (pv 3) pa_nil)) (pa_cons pe_str pa_nil)))
    (pss_one (ps_for PassesOwn.never rfl (pi_items (pv 2)) (pg_tup (by rfl) (pgs_cons (pg_name (i := 7) sc_L_names_right.nd rfl (.inl rfl)) (pgs_cons (pg_name (i := 8) sc_L_names_right.nd rfl (.inl rfl)) pgs_nil)))
      (pss_cons (ps_setLc (i := 9) (own := [("_law_place", 10), ("_law_up", 11)]) (g := gTup K 2 (gCons (gName 10) (gCons (gName 11) gNil))) rfl sc_L_names_right.nd rfl rfl (sw_true rfl rfl rfl (by decide +kernel)) (pi_list (pv 8)) (blkOk_by (N := sc_L_names_right.N') (sc := defScope s_L_names_right) (by decide +kernel)) (fun _ _ _ _ _ => (pg_tup (by rfl) (pgs_cons (pg_name (i := 10) sc_L_names_right.nd rfl (by first | exact Or.inl rfl | exact Or.inr rfl)) (pgs_cons (pg_name (i := 11) sc_L_names_right.nd rfl (by first | exact Or.inl rfl | exact Or.inr rfl)) pgs_nil)))) (fun _ _ _ _ _ => (pts_one (pt_chain op_lt op_lt (pe_ix (ix_tupK (K := K) rfl) (pv 5) pe_int (fun _ _ => rfl)) (pv 10) (pe_ix (ix_tupK (K := K) rfl) (pv 6) pe_int (fun _ _ => rfl))))) (fun _ _ _ _ _ => (pv 10)))
    (pss_one (ps_if (pt_cmpR op_ne (pe_callB (call_reprD hgd hrep) (by rfl) T.z_repr (by decide +kernel) (pa_cons (pe_meth (pv 0) TC_Strip.cl D_Strip_crosses.m G_Strip_crosses (hr.mono (by first | decide | omega)) D_Strip_crosses.b .nil pass0 (pa_cons (pv 3) (pa_cons (pv 7) pa_nil))) pa_nil)) (pe_callB (call_reprD hgd hrep) (by rfl) T.z_repr (by decide +kernel) (pa_cons (pe_and (pe_cmpR op_ne (pv 3) (pv 7) (nomark _)) (pe_one (pe_cmpR op_eq (pe_callB call_len_seq (by rfl) T.z_len (by decide +kernel) (pa_cons (pv 9) pa_nil)) pe_int (nomark _)))) pa_nil)) (nomark _)) (pss_one (ps_ret pe_bl)) pss_nil))))))))))))
    (pss_one (ps_ret pe_bl))), ?_⟩
    refine ⟨p, _, hp, trivial, fun od => ?_⟩
    have e0 : Ex G (upd H p (.frz od (.dK kvs))) := eG.mut gp
    have h0 : upd H p (.frz od (.dK kvs)) p = some (.frz od (.dK kvs)) := upd_same
    have b0 : ∀ b o, b ≠ p → H b = some o → upd H p (.frz od (.dK kvs)) b = some o := fun b o n hb => (upd_ne n).trans hb
    generalize upd H p (.frz od (.dK kvs)) = H0 at e0 h0 b0 ⊢
    refine ⟨_, rfl, p, od, kvs, rfl, h0, ?_⟩
    refine for_it (walk_items (o := od) (d := p) (kvs := kvs)) (fun i σ H' => ∃ y3 y4 y5 y6 y7 y8 y9, σ = [some (.ref x), some (.ref r), some (.ref p), y3, y4, y5, y6, y7, y8, y9, none, none, none] ∧ Ex H0 H')
      ⟨none, none, none, none, none, none, none, rfl, Ex.rfl' H0⟩ (fun i σ H' _ ⟨_, _, _, _, _, _, _, _, e⟩ => e _ _ h0) ?_ ?_
    · rintro i v σ H1 H2 hi ⟨y3, y4, y5, y6, y7, y8, y9, rfl, e1⟩ ⟨Tp, vx, vy, rfl, hT, rfl, k1, k2⟩
      obtain ⟨⟨ky, vv⟩, hk⟩ : ∃ kv, kvs[i]? = some kv := ⟨_, List.getElem?_eq_getElem hi⟩
      dsimp only at k1 k2
      rw [hk] at k1 k2
      cases k1
      cases k2
      have hm := List.mem_of_getElem? hk
      obtain ⟨nm, rfl⟩ : ∃ nm, ky = Sum.inr nm := by
        have : ky ∈ kvs.map (·.1) := List.mem_map.mpr ⟨_, hm, rfl⟩
        rw [M.keys] at this
        obtain ⟨nm, _, rfl⟩ := List.mem_map.mp this
        exact ⟨nm, rfl⟩
      obtain ⟨hnm, a, t0, t1, rfl, ha, ht0, ht1⟩ := M.at_ _ _ hm
      have x2 : Ex H1 (upd H1 Tp (.tup [kV (Sum.inr nm), .ref a])) := Ex.new hT
      have e2 : Ex H0 (upd H1 Tp (.tup [kV (Sum.inr nm), .ref a])) := e1.tr x2
      have hT2 : upd H1 Tp (.tup [kV (Sum.inr nm), .ref a]) Tp = some (.tup [.str nm, .ref a]) := upd_same
      generalize upd H1 Tp (.tup [kV (Sum.inr nm), .ref a]) = H2 at e2 hT2 ⊢
      have g2 := e0.tr e2
      refine ⟨Tp, _, rfl, SqT.of hT2, rfl, _, _, rfl, _, _, rfl, rfl, ?_⟩
      refine ⟨_, rfl, a, _, rfl, SqL.of (g2 _ _ ha), rfl, _, _, rfl, _, _, rfl, rfl, ?_⟩
      clear hT2 x2 e1 hT hk hi
      obtain ⟨o1, o2, o3, o4, o5⟩ := two_occ S.ok.two hnm
      -- places and orientations
      have S2 := S.ex g2
      obtain ⟨dx, rr, pp, _, _, sx, _⟩ := S2.at_
      refine ⟨_, rfl, x, dx, _, rfl, sx, rfl, _, rfl, x, z, l, nm, rfl, S2, hnm, fun tp H3 e3 htp => ?_⟩
      have S3 := S2.ex e3
      have htp3 := e3 _ _ htp
      have sx3 := e3 _ _ sx
      refine ⟨_, rfl, x, dx, _, rfl, sx3, rfl, _, rfl, x, z, l, nm, rfl, S3, hnm, fun to H4 e4 _ hto => ?_⟩
      refine ⟨(by show 2 ≤ sizeLine; decide), fun l1 hl1 => ?_⟩
      have e24 : Ex H2 (upd H4 l1 (.lst [.ref tp, .ref to])) := (e3.tr e4).tr (Ex.new hl1)
      have hl5 : upd H4 l1 (.lst [.ref tp, .ref to]) l1 = some (.lst [.ref tp, .ref to]) := upd_same
      have htp5 : upd H4 l1 (.lst [.ref tp, .ref to]) tp = _ := ((e4.tr (Ex.new hl1)) _ _ htp3)
      have hto5 : upd H4 l1 (.lst [.ref tp, .ref to]) to = _ := ((Ex.new hl1) _ _ hto)
      generalize upd H4 l1 (.lst [.ref tp, .ref to]) = H5 at e24 hl5 htp5 hto5 ⊢
      have g5 := g2.tr e24
      have lo9 : plc (nmOf l) nm 0 ≤ 1000 := by omega
      have hi9 : plc (nmOf l) nm 1 ≤ 1000 := by omega
      obtain ⟨f1, f2, f3, f4, _, _⟩ := (Sm.list (SmA.cons (Sm.tup (SmA.cons (Sm.nat lo9) (SmA.cons (Sm.nat hi9) SmA.nil))) (SmA.cons (Sm.tup (SmA.cons (Sm.bool (upOf l (plc (nmOf l) nm 0))) (SmA.cons (Sm.bool (upOf l (plc (nmOf l) nm 1))) SmA.nil))) SmA.nil))).fin (by decide) (by decide)
      have dp1 : Dp K H5 (.ref l1) (.list [.tuple [.int (plc (nmOf l) nm 0 : Nat), .int (plc (nmOf l) nm 1 : Nat)], .tuple [.bool (upOf l (plc (nmOf l) nm 0)), .bool (upOf l (plc (nmOf l) nm 1))]]) :=
        .lst (SqL.of hl5) (.cons (.tup (SqT.of htp5) (.cons (.int _) (.cons (.int _) .nil))) (.cons (.tup (SqT.of hto5) (.cons (.bl _) (.cons (.bl _) .nil))) .nil))
      refine ⟨.ref l1, _, rfl, dp1, f1, f2, f3, f4, ?_⟩
      refine ⟨_, rfl, t0, _, 0, _, rfl, rfl, SqT.of (g5 _ _ ht0), rfl, _, rfl, t1, _, 0, _, rfl, rfl, SqT.of (g5 _ _ ht1), rfl, (by show 2 ≤ sizeLine; decide), fun w1 hw1 => ?_⟩
      have x6 : Ex H5 (upd H5 w1 (.tup [.int (plc (nmOf l) nm 0 : Nat), .int (plc (nmOf l) nm 1 : Nat)])) := Ex.new hw1
      have hw16 : upd H5 w1 (.tup [.int (plc (nmOf l) nm 0 : Nat), .int (plc (nmOf l) nm 1 : Nat)]) w1 = some (.tup [.int (plc (nmOf l) nm 0 : Nat), .int (plc (nmOf l) nm 1 : Nat)]) := upd_same
      generalize upd H5 w1 (.tup [.int (plc (nmOf l) nm 0 : Nat), .int (plc (nmOf l) nm 1 : Nat)]) = H6 at x6 hw16 ⊢
      have g6 := g5.tr x6
      refine ⟨_, rfl, t0, _, 1, _, rfl, rfl, SqT.of (g6 _ _ ht0), rfl, _, rfl, t1, _, 1, _, rfl, rfl, SqT.of (g6 _ _ ht1), rfl, (by show 2 ≤ sizeLine; decide), fun w2 hw2 => ?_⟩
      have x7 : Ex H6 (upd H6 w2 (.tup [.bl (upOf l (plc (nmOf l) nm 0)), .bl (upOf l (plc (nmOf l) nm 1))])) := Ex.new hw2
      have hw27 : upd H6 w2 (.tup [.bl (upOf l (plc (nmOf l) nm 0)), .bl (upOf l (plc (nmOf l) nm 1))]) w2 = some (.tup [.bl (upOf l (plc (nmOf l) nm 0)), .bl (upOf l (plc (nmOf l) nm 1))]) := upd_same
      generalize upd H6 w2 (.tup [.bl (upOf l (plc (nmOf l) nm 0)), .bl (upOf l (plc (nmOf l) nm 1))]) = H7 at x7 hw27 ⊢
      have hw17 := x7 _ _ hw16
      refine ⟨(by show 2 ≤ sizeLine; decide), fun l2 hl2 => ?_⟩
      have x8 : Ex H7 (upd H7 l2 (.lst [.ref w1, .ref w2])) := Ex.new hl2
      have hl8 : upd H7 l2 (.lst [.ref w1, .ref w2]) l2 = some (.lst [.ref w1, .ref w2]) := upd_same
      generalize upd H7 l2 (.lst [.ref w1, .ref w2]) = H8 at x8 hl8 ⊢
      have dp2 : Dp K H8 (.ref l2) (.list [.tuple [.int (plc (nmOf l) nm 0 : Nat), .int (plc (nmOf l) nm 1 : Nat)], .tuple [.bool (upOf l (plc (nmOf l) nm 0)), .bool (upOf l (plc (nmOf l) nm 1))]]) :=
        .lst (SqL.of hl8) (.cons (.tup (SqT.of (x8 _ _ hw17)) (.cons (.int _) (.cons (.int _) .nil))) (.cons (.tup (SqT.of (x8 _ _ hw27)) (.cons (.bl _) (.cons (.bl _) .nil))) .nil))
      refine ⟨.ref l2, _, rfl, dp2, f1, f2, f3, f4, rfl, _, rfl, ?_⟩
      rw [Gd.ne_self]
      refine iteF ?_
      have e8 : Ex H0 H8 := (e2.tr e24).tr ((x6.tr x7).tr x8)
      clear dp1 dp2 f1 f2 f3 f4 hl8 x8 hl2 hw17 hw27 x7 hw2 hw16 x6 hw1 hl5 htp5 hto5 g5 g6 e24 hl1 hto e4 htp3 sx3 S3 e3 htp sx S2 g2 e2
      have g8 := e0.tr e8
      -- direct or inverted
      have S8 := S.ex g8
      obtain ⟨dx, rr, pp, _, _, sx, _⟩ := S8.at_
      refine ⟨_, rfl, x, dx, _, rfl, sx, rfl, _, rfl, x, z, l, nm, rfl, S8, hnm, fun H9 e9 => ?_⟩
      have g9 := g8.tr e9
      rw [← bl_eq]
      obtain ⟨f1, f2, f3, f4, _, _⟩ := (Sm.bool (decide (V.bl (upOf l (plc (nmOf l) nm 0)) = V.bl (upOf l (plc (nmOf l) nm 1))))).fin (by decide) (by decide)
      refine ⟨.bl _, .bool _, rfl, .bl _, f1, f2, f3, f4, ?_⟩
      refine ⟨_, rfl, t0, _, 1, _, rfl, rfl, SqT.of (g9 _ _ ht0), rfl, _, rfl, t1, _, 1, _, rfl, rfl, SqT.of (g9 _ _ ht1), rfl, rfl, .bl _, .bool _, rfl, .bl _, f1, f2, f3, f4, rfl, _, rfl, ?_⟩
      rw [Gd.ne_self]
      refine iteF ?_
      clear f1 f2 f3 f4 sx
      -- the names between
      have S9 := S.ex g9
      obtain ⟨dx, rr, pp, _, _, sx, _⟩ := S9.at_
      refine ⟨_, rfl, x, dx, _, rfl, sx, rfl, _, rfl, x, z, l, nm, rfl, S9, hnm, fun nb H10 e10 _ hnb => ?_⟩
      have g10 := g9.tr e10
      refine ⟨_, rfl, _, rfl, _, rfl, r, rv, rfl, SqL.of (g10 _ _ hr1), rfl, rfl, .inr ⟨rfl, fun o ho => ?_⟩⟩
      have x11 : Ex H10 (upd H10 o (.lst (odds rv))) := Ex.new ho
      have ho11 : upd H10 o (.lst (odds rv)) o = some (.lst (odds rv)) := upd_same
      generalize upd H10 o (.lst (odds rv)) = H11 at x11 ho11 ⊢
      have g11 := g10.tr x11
      have hdo : DVs O G (odds rv) (l.map fun p => mkD p.1) := by
        have := dvs_odds hrd
        rwa [show Gd.odds (toD z l) = l.map fun p => mkD p.1 from odds_toD l _] at this
      have ol : (odds rv).length = l.length := by rw [hdo.length, List.length_map]
      refine ⟨o, rfl, ⟨_, SqL.of ho11⟩, fun D hD => lc_list (xs := odds rv) (fun i H' => Ex H11 H' ∧ H' D = some (.lst (((nmOf l).take i).map V.str)))
          ⟨Ex.new hD, upd_same⟩ (fun i H' _ ⟨x1, _⟩ => SqL.of (x1 _ _ ho11)) ?_ ?_⟩
      · rintro j v H12 hx ⟨x12, h12⟩
        obtain ⟨d, hdi, hxd⟩ := hdo.get hx
        rw [List.getElem?_map] at hdi
        obtain ⟨pr, hpr, rfl⟩ := Option.map_eq_some_iff.mp hdi
        have hi : j < l.length := (List.getElem?_eq_some_iff.mp hpr).1
        obtain ⟨t, rfl, ht⟩ := mark_val hxd
        refine ⟨rfl, lcY ⟨_, rfl, t, _, 0, _, rfl, rfl, SqT.of ((g11.tr x12) _ _ ht), rfl, _, h12, lt_200 (by simp; omega), x12.mut hD, ?_⟩⟩
        rw [upd_same, List.take_add_one, nmOf, List.getElem?_map, hpr]
        simp
      rintro H12 ⟨x12, h12⟩
      rw [ol, ← nl, List.take_length] at h12
      have g12 := g11.tr x12
      refine ⟨_, rfl, t0, _, 0, _, rfl, rfl, SqT.of (g12 _ _ ht0), rfl, _, _, rfl, rfl, _, rfl, _, rfl, t1, _, 0, _, rfl, rfl, SqT.of (g12 _ _ ht1), rfl, _, rfl, D, _, rfl, SqL.of h12, fun c hc => ?_⟩
      have cut : cutV ((nmOf l).map V.str) (some ((plc (nmOf l) nm 0 : Nat) + 1)) (some (plc (nmOf l) nm 1 : Nat)) = (betw (nmOf l) nm).map V.str := by
        have := cutV_mid ((nmOf l).map V.str) (a := plc (nmOf l) nm 0 + 1) (b := plc (nmOf l) nm 1) (by rw [List.length_map]; omega) (by omega)
        rw [show (((plc (nmOf l) nm 0 + 1 : Nat)) : Int) = ((plc (nmOf l) nm 0 : Nat) : Int) + 1 by omega] at this
        rw [this]
        unfold betw
        rw [List.map_drop, List.map_take]
      rw [cut]
      have x13 : Ex H12 (upd H12 c (.lst ((betw (nmOf l) nm).map V.str))) := Ex.new hc
      have hc13 : upd H12 c (.lst ((betw (nmOf l) nm).map V.str)) c = some (.lst ((betw (nmOf l) nm).map V.str)) := upd_same
      generalize upd H12 c (.lst ((betw (nmOf l) nm).map V.str)) = H13 at x13 hc13 ⊢
      have g13 := g12.tr x13
      have bl : (betw (nmOf l) nm).length ≤ 24 := by
        unfold betw
        rw [List.length_drop, List.length_take]
        omega
      have bok : ∀ y ∈ betw (nmOf l) nm, okS y = true ∧ y.length ≤ 4 := fun y hy => by
        have h7 := S.ok.name (List.mem_of_mem_take (List.mem_of_mem_drop hy))
        exact ⟨nameB_ok h7, (nameB_list h7).2.2⟩
      obtain ⟨_, _, _, _, f5, f6⟩ := (Sm.list (SmA.strs bok)).fin (by decide) (by omega)
      refine ⟨_, _, .lst (SqL.of (x13 _ _ (x12 _ _ (x11 _ _ hnb)))) (dp_strs _), .lst (SqL.of hc13) (dp_strs _), f5, f5, _, rfl, ?_⟩
      rw [f6]
      refine iteF ?_
      have e13 : Ex H0 H13 := (e8.tr e9).tr ((e10.tr x11).tr (x12.tr x13))
      clear f5 f6 bok hc13 x13 cut hc g12 h12 x12 hD hdo ol g11 ho11 x11 ho hnb e10 g10 e9 g9 S9 sx g8 e8
      -- the answer may be changed
      have S13 := S.ex g13
      obtain ⟨dx, rr, pp, _, _, sx, _⟩ := S13.at_
      refine ⟨_, rfl, x, dx, _, rfl, sx, rfl, _, rfl, x, z, l, nm, rfl, S13, hnm, fun nb H14 e14 fnb hnb => ?_⟩
      refine ⟨.inl ⟨rfl, _, SqL.of hnb⟩, nb, _, _, rfl, rfl, hnb, lt_200 (by rw [List.length_map]; omega), ?_⟩
      have e15 : Ex H0 (upd H14 nb (.lst ((betw (nmOf l) nm).map V.str ++ [V.str "more"]))) := e13.tr (e14.mut fnb)
      generalize upd H14 nb (.lst ((betw (nmOf l) nm).map V.str ++ [V.str "more"])) = H15 at e15 ⊢
      clear hnb e14 fnb sx S13 g13 e13
      -- who crosses whom
      refine ⟨_, rfl, p, od, kvs, rfl, e15 _ _ h0, ?_⟩
      refine for_it (walk_items (o := od) (d := p) (kvs := kvs)) (fun j σ H' => ∃ y7 y8 y9, σ = [some (.ref x), some (.ref r), some (.ref p), some (.str nm), some (.ref a), some (.ref t0), some (.ref t1), y7, y8, y9, none, none, none] ∧ Ex H0 H')
        ⟨_, _, _, rfl, e15⟩ (fun i σ H' _ ⟨_, _, _, _, e⟩ => e _ _ h0) ?_ ?_
      · rintro j v σ H16o H16 hj ⟨y7, y8, y9, rfl, e16⟩ ⟨Tq, vx, vy, rfl, hTq, rfl, k1, k2⟩
        obtain ⟨⟨ky, vv⟩, hk⟩ : ∃ kv, kvs[j]? = some kv := ⟨_, List.getElem?_eq_getElem hj⟩
        dsimp only at k1 k2
        rw [hk] at k1 k2
        cases k1
        cases k2
        have hm2 := List.mem_of_getElem? hk
        obtain ⟨y2, rfl⟩ : ∃ nm, ky = Sum.inr nm := by
          have : ky ∈ kvs.map (·.1) := List.mem_map.mpr ⟨_, hm2, rfl⟩
          rw [M.keys] at this
          obtain ⟨nm, _, rfl⟩ := List.mem_map.mp this
          exact ⟨nm, rfl⟩
        obtain ⟨hy2, a2, s0, s1, rfl, ha2, hs0, hs1⟩ := M.at_ _ _ hm2
        have x17 : Ex H16o (upd H16o Tq (.tup [kV (Sum.inr y2), .ref a2])) := Ex.new hTq
        have e17 : Ex H0 (upd H16o Tq (.tup [kV (Sum.inr y2), .ref a2])) := e16.tr x17
        have hq17 : upd H16o Tq (.tup [kV (Sum.inr y2), .ref a2]) Tq = some (.tup [.str y2, .ref a2]) := upd_same
        generalize upd H16o Tq (.tup [kV (Sum.inr y2), .ref a2]) = H17 at e17 hq17 ⊢
        have g17 := e0.tr e17
        refine ⟨Tq, _, rfl, SqT.of hq17, rfl, _, _, rfl, _, _, rfl, rfl, ?_⟩
        refine ⟨_, rfl, a2, rfl, ⟨_, SqL.of (g17 _ _ ha2)⟩, fun D hD => lc_list (xs := [V.ref s0, V.ref s1]) (fun k H' => Ex H17 H' ∧ H' D = some (.lst (intsV (([plc (nmOf l) y2 0, plc (nmOf l) y2 1].take k).filter fun k => decide (plc (nmOf l) nm 0 < k) && decide (k < plc (nmOf l) nm 1)))))
          ⟨Ex.new hD, upd_same⟩ (fun k H' _ ⟨x1, _⟩ => SqL.of ((g17.tr x1) _ _ ha2)) ?_ ?_⟩
        · rintro k v H18 hx ⟨x18, h18⟩
          obtain ⟨s, pk, up, rfl, hs, hpk⟩ : ∃ s pk up, v = .ref s ∧ G s = some (.tup [.int (pk : Nat), .bl up]) ∧ [plc (nmOf l) y2 0, plc (nmOf l) y2 1][k]? = some pk := by
            match k, hx with
            | 0, hx => cases hx; exact ⟨s0, _, _, rfl, hs0, rfl⟩
            | 1, hx => cases hx; exact ⟨s1, _, _, rfl, hs1, rfl⟩
            | k + 2, hx => simp at hx
          have g18 := g17.tr x18
          have kl : k ≤ 2 := by
            have := (List.getElem?_eq_some_iff.mp hpk).1
            simp at this
            omega
          have nx : ∀ b : Bool, (decide (plc (nmOf l) nm 0 < pk) && decide (pk < plc (nmOf l) nm 1)) = b → intsV (([plc (nmOf l) y2 0, plc (nmOf l) y2 1].take (k + 1)).filter fun k => decide (plc (nmOf l) nm 0 < k) && decide (k < plc (nmOf l) nm 1)) =
              intsV (([plc (nmOf l) y2 0, plc (nmOf l) y2 1].take k).filter fun k => decide (plc (nmOf l) nm 0 < k) && decide (k < plc (nmOf l) nm 1)) ++ if b = true then [V.int (pk : Nat)] else [] := fun b hb => by
            rw [List.take_add_one, hpk, List.filter_append]
            cases b
            · simp [intsV, List.filter, hb]
            · simp [intsV, List.filter, hb]
          have fl : (intsV (([plc (nmOf l) y2 0, plc (nmOf l) y2 1].take k).filter fun k => decide (plc (nmOf l) nm 0 < k) && decide (k < plc (nmOf l) nm 1))).length ≤ 2 := by
            unfold intsV
            rw [List.length_map]
            have h1 := List.length_filter_le (fun k => decide (plc (nmOf l) nm 0 < k) && decide (k < plc (nmOf l) nm 1)) ([plc (nmOf l) y2 0, plc (nmOf l) y2 1].take k)
            rw [List.length_take] at h1
            simp only [List.length_cons, List.length_nil] at h1
            omega
          have dI : ∀ m n : Nat, decide (m < n) = decide ((m : Int) < (n : Int)) := fun m n => decide_eq_decide.mpr (by omega)
          refine ⟨s, _, rfl, SqT.of (g18 _ _ hs), rfl, _, _, rfl, _, _, rfl, rfl, rfl, ?_⟩
          refine ⟨_, rfl, t0, _, 0, _, rfl, rfl, SqT.of (g18 _ _ ht0), rfl, _, rfl, _, _, rfl, rfl, _, rfl, ?_⟩
          refine ite2 (fun c1 => ⟨_, rfl, t1, _, 0, _, rfl, rfl, SqT.of (g18 _ _ ht1), rfl, _, _, rfl, rfl, _, rfl, ?_⟩) (fun c1 => ⟨_, rfl, ?_⟩)
          · refine ite2 (fun c2 => ⟨_, rfl, _, h18, lt_200 (by omega), x18.mut hD, ?_⟩) (fun c2 => ⟨x18, ?_⟩)
            · rw [upd_same, nx true (by rw [dI, dI, c1, c2]; rfl)]
              rfl
            · rw [h18, nx false (by rw [dI, dI, c1, Bool.eq_false_iff.mpr c2]; rfl)]
              simp
          · refine iteF ⟨x18, ?_⟩
            rw [h18, nx false (by rw [dI, Bool.eq_false_iff.mpr c1]; rfl)]
            simp
        rintro H18 ⟨x18, h18⟩
        have h18 : H18 D = some (.lst (intsV (within (nmOf l) nm y2))) := h18
        have e18 := e17.tr x18
        have g18 := e0.tr e18
        have S18 := S.ex g18
        obtain ⟨dx, rr, pp, _, _, sx, _⟩ := S18.at_
        have cw := cross_within (nm := nmOf l) (y := nm) (y2 := y2)
        refine ⟨_, rfl, x, dx, _, rfl, sx, rfl, _, rfl, _, rfl, x, z, l, nm, y2, rfl, S18, hnm, hy2, fun H19 e19 => ?_⟩
        obtain ⟨f1, f2, f3, f4, _, _⟩ := (Sm.bool (crossB (nmOf l) nm y2)).fin (by decide) (by decide)
        refine ⟨.bl _, .bool _, rfl, .bl _, f1, f2, f3, f4, ?_⟩
        refine ⟨_, rfl, _, rfl, rfl, _, rfl, ?_⟩
        refine ite2 (fun c1 => ?_) (fun c1 => ?_)
        · have wl : (intsV (within (nmOf l) nm y2)).length = (within (nmOf l) nm y2).length := by simp [intsV]
          refine ⟨_, rfl, D, _, rfl, .inl (SqL.of (e19 _ _ h18)), rfl, .bl _, .bool (crossB (nmOf l) nm y2), rfl, ?_, f1, f2, f3, f4, rfl, _, rfl, ?_⟩
          · rw [cw, c1, Bool.true_and, wl, decI, show decide (((within (nmOf l) nm y2).length : Int) = 1) = decide ((within (nmOf l) nm y2).length = 1) from decide_eq_decide.mpr (by omega)]
            exact .bl _
          · rw [Gd.ne_self]
            exact iteF ⟨_, _, _, rfl, e18.tr e19⟩
        · refine ⟨.bl _, .bool (crossB (nmOf l) nm y2), rfl, ?_, f1, f2, f3, f4, rfl, _, rfl, ?_⟩
          · rw [cw, Bool.eq_false_iff.mpr c1, Bool.false_and]
            exact .bl _
          · rw [Gd.ne_self]
            exact iteF ⟨_, _, _, rfl, e18.tr e19⟩
      · rintro σ H16 ⟨y7, y8, y9, rfl, e16⟩
        exact ⟨_, _, _, _, _, _, _, rfl, e16⟩
    · rintro σ H1 ⟨y3, y4, y5, y6, y7, y8, y9, rfl, e1⟩
      exact ⟨e1 _ _ h0, q _ (put_back hp fun b o n hb => e1 _ _ (b0 b o n hb))⟩
end

section
variable {P : Program} {w : World} {K : PySem.W.Frag} {mg : Str → Option Value} {base : Heap} {O : HO → Prop} {C_Strip : Addr}
theorem ok_told_right {f : Addr} {fd : FuncData} (F : Fun K "_law_told_right" "_law_told_right" s_L_told_right f fd) (T : Txt K mg) (TC_Strip : StripCls K C_Strip) {f_Strip_row : Addr} {fd_Strip_row : FuncData} (D_Strip_row : Dm K C_Strip "row" f_Strip_row fd_Strip_row ["self"])
    {f_Strip_names : Addr} {fd_Strip_names : FuncData} (D_Strip_names : Dm K C_Strip "names" f_Strip_names fd_Strip_names ["self"])
    {f_Strip_pieces : Addr} {fd_Strip_pieces : FuncData} (D_Strip_pieces : Dm K C_Strip "pieces" f_Strip_pieces fd_Strip_pieces ["self"])
    {f_Strip_len : Addr} {fd_Strip_len : FuncData} (D_Strip_len : Dm K C_Strip "__len__" f_Strip_len fd_Strip_len ["self"])
    {f_Strip_str : Addr} {fd_Strip_str : FuncData} (D_Strip_str : Dm K C_Strip "__str__" f_Strip_str fd_Strip_str ["self"])
    {f_Strip_repr : Addr} {fd_Strip_repr : FuncData} (D_Strip_repr : Dm K C_Strip "__repr__" f_Strip_repr fd_Strip_repr ["self"])
    {f_L_marks : Addr} {fd_L_marks : FuncData} (D_L_marks : Df K mg "_law_marks" f_L_marks fd_L_marks ["_law_row_here"])
    {f_L_names_right : Addr} {fd_L_names_right : FuncData} (D_L_names_right : Df K mg "_law_names_right" f_L_names_right fd_L_names_right ["_law_strip", "_law_row_here", "_law_marks_here"])
    {f_L_text : Addr} {fd_L_text : FuncData} (D_L_text : Df K mg "_law_text" f_L_text fd_L_text ["_law_row_here"])
    (G_L_marks : FnOk P w K mg base CX0 1 f_L_marks fd_L_marks ["_law_row_here"] (spMarks O))
    (G_L_text : FnOk P w K mg base CX0 1 f_L_text fd_L_text ["_law_row_here"] (fun vs H Q _ => ∃ a rv ds, vs = [.ref a] ∧ H a = some (.lst rv) ∧ DVs O H rv ds ∧ (∀ d ∈ ds, It 100000 d) ∧ ds.length ≤ 49 ∧ Val H (.str (textD ds)) Q))
    (G_Strip_row : FnOk P w K mg base CX0 1 f_Strip_row fd_Strip_row ["self"] (spSt O C_Strip fun z l H Q => NewL O H H (toD z l) Q))
    (G_Strip_names : FnOk P w K mg base CX0 1 f_Strip_names fd_Strip_names ["self"] (spSt O C_Strip fun z l H Q => NewV H ((fsts (nmOf l) (nmOf l).length).map V.str) Q))
    (G_Strip_pieces : FnOk P w K mg base CX0 1 f_Strip_pieces fd_Strip_pieces ["self"] (spSt O C_Strip fun z l H Q => NewV H ((z :: l.map (·.2)).map V.str) Q))
    (G_Strip_len : FnOk P w K mg base CX0 1 f_Strip_len fd_Strip_len ["self"] (spSt O C_Strip fun z l H Q => Val H (.int ((fsts (nmOf l) (nmOf l).length).length : Nat)) Q))
    (G_Strip_str : FnOk P w K mg base CX0 3 f_Strip_str fd_Strip_str ["self"] (spSt O C_Strip fun z l H Q => Val H (.str (textD (toD z l))) Q))
    (G_Strip_repr : FnOk P w K mg base CX0 6 f_Strip_repr fd_Strip_repr ["self"] (spSt O C_Strip fun z l H Q => Val H (.str (reprS (toD z l))) Q))
    (G_L_names_right : FnG P w K mg base CX0 6 f_L_names_right fd_L_names_right ["_law_strip", "_law_row_here", "_law_marks_here"] (spNamesRight O C_Strip)) :
    FnG P w K mg base CX0 8 f fd ["_law_strip", "_law_row_here"] (spTold O C_Strip) := by
  refine okG F sc_L_told_right (fun vs H Q E h => ?_) (fun cdv A outer s H vs Q E hgd hr h => ?_)
  · obtain ⟨x, r, z, l, rv, rfl, _⟩ := h
    rfl
  · obtain ⟨x, r, z, l, rv, rfl, S, hr1, hrd, htot, q⟩ := h
    have hrep : (A.deeper (envOfC "_law_told_right" (defScope s_L_told_right) s.heap.objs.size f cdv)).units + 66 < cLine := by
      have := hr.un
      omega
    have few := S.ok.few
    have twelve := S.ok.twelve
    have rl : rv.length ≤ 49 := by rw [hrd.length, toD_len]; omega
    refine ⟨_, (pss_cons (ps_set (i := 2) sc_L_told_right.nd rfl (.inl rfl) (pe_call G_L_marks (hr.mono (by first | decide | omega)) rfl D_L_marks.g D_L_marks.k D_L_marks.b .nil pass0 (pa_cons (pv 1) pa_nil)))
    (pss_cons (ps_for PassesOwn.never rfl (pi_range1 (by rfl) T.z_range (pa_cons pe_int pa_nil)) (pg_name (i := 3) sc_L_told_right.nd rfl (.inl rfl))
      (pss_cons (ps_set (i := 4) sc_L_told_right.nd rfl (.inl rfl) (pe_lst (pa_cons (pe_meth0 (pv 0) TC_Strip.cl D_Strip_row.m G_Strip_row (hr.mono (by first | decide | omega)) D_Strip_row.b .nil pass0) (pa_cons (pe_meth0 (pv 0) TC_Strip.cl D_Strip_names.m G_Strip_names (hr.mono (by first | decide | omega)) D_Strip_names.b .nil pass0) (pa_cons (pe_meth0 (pv 0) TC_Strip.cl D_Strip_pieces.m G_Strip_pieces (hr.mono (by first | decide | omega)) D_Strip_pieces.b .nil pass0) pa_nil)))))
    (pss_cons (ps_if (PW.pt (pw_or (pt_cmpR op_ne (pe_callB (call_reprD hgd hrep) (by rfl) T.z_repr (by decide +kernel) (pa_cons (pv 4) pa_nil)) (pe_callB (call_reprD hgd hrep) (by rfl) T.z_repr (by decide +kernel) (pa_cons (pe_lst (pa_cons (pv 1) (pa_cons (pe_callTy (call_list_dK rfl) (by rfl) T.z_list (by decide +kernel) (pa_cons (pv 2) pa_nil)) (pa_cons (pe_sliceS ss_twoL (pv 1) po_none po_none (po_some pe_int)) pa_nil)))) pa_nil)) (nomark _)) (pw_or1 (pt_cmpR op_ne (pe_callB (call_lenO G_Strip_len D_Strip_len.m.at_ D_Strip_len.m.fn D_Strip_len.b pass0 (hr.mono (by first | decide | omega))) (by rfl) T.z_len (by decide +kernel) (pa_cons (pv 0) pa_nil)) (pe_callB call_lenD (by rfl) T.z_len (by decide +kernel) (pa_cons (pv 2) pa_nil)) (nomark _))))) (pss_one (ps_ret pe_bl)) pss_nil)
    (pss_cons (ps_if (PW.pt (pw_or (pt_cmpR op_ne (pe_callTy (call_strO G_Strip_str D_Strip_str.m.at_ D_Strip_str.m.fn D_Strip_str.b pass0 (hr.mono (by first | decide | omega))) (by rfl) T.z_str (by decide +kernel) (pa_cons (pv 0) pa_nil)) (pe_call G_L_text (hr.mono (by first | decide | omega)) rfl D_L_text.g D_L_text.k D_L_text.b .nil pass0 (pa_cons (pv 1) pa_nil)) (nomark _)) (pw_or1 (pt_cmpR op_ne (pe_callB (call_reprO G_Strip_repr D_Strip_repr.m.at_ D_Strip_repr.m.fn D_Strip_repr.b pass0 (hr.mono (by first | decide | omega))) (by rfl) T.z_repr (by decide +kernel) (pa_cons (pv 0) pa_nil)) (pe_op op_add_str (pe_op op_add_str pe_str (pe_call G_L_text (hr.mono (by first | decide | omega)) rfl D_L_text.g D_L_text.k D_L_text.b .nil pass0 (pa_cons (pv 1) pa_nil))) pe_str) (nomark _))))) (pss_one (ps_ret pe_bl)) pss_nil)
    (pss_cons (ps_for PassesOwn.never rfl (pi_list (pv 4)) (pg_name (i := 5) sc_L_told_right.nd rfl (.inl rfl))
      (pss_one (ps_expr (pe_bm PySem.F.plainAttrs_list PySem.F.slot_list_append PySem.F.type_list_append mt_append (pv 5) (pa_cons pe_str pa_nil)))))
    (pss_one (ps_if (pt_not (pt_val (pe_callG G_L_names_right hgd (hr.mono (by first | decide | omega)) rfl D_L_names_right.g D_L_names_right.k D_L_names_right.b .nil pass0 (pa_cons (pv 0) (pa_cons (pv 1) (pa_cons (pv 2) pa_nil)))))) (pss_one (ps_ret pe_bl)) pss_nil)))))))
    (pss_one (ps_ret pe_bl)))), ?_⟩
    refine ⟨_, rfl, .ref r, z, l, rfl, .lst hr1 hrd (by omega), by omega, fun p kvs val Hm em hp hpm P hval => ?_⟩
    have e0 := em
    have M := MkT.of P S.ok.two hpm hval
    have eG : Ex (hide p Hm) Hm := hide_ex
    have gp : hide p Hm p = none := hide_p
    have xG : Ex H (hide p Hm) := ex_hide em hp
    have SG := S.ex xG
    have rG := xG _ _ hr1
    have dG := DVs.ex xG _ _ hrd
    generalize hide p Hm = G at M eG gp SG rG dG
    clear xG hval P em
    -- what is written of the row, the names, the pieces
    have it := S.ok.ok.it (L := 2000) htot (by decide) (by decide)
    have it2 := S.ok.ok.it (L := 100000) (by omega) (by decide) (by decide)
    have tl := text_len it (n := 49) (by rw [toD_len]; omega)
    have nok : ∀ y ∈ fsts (nmOf l) (nmOf l).length, okS y = true ∧ y.length ≤ 4 := fun y hy => by
      have h7 := S.ok.name (List.mem_of_mem_take (fsts_mem.mp hy))
      exact ⟨nameB_ok h7, (nameB_list h7).2.2⟩
    have pok : ∀ y ∈ z :: l.map (·.2), okS y = true ∧ y.length ≤ 2000 := fun y hy => by
      rcases List.mem_cons.mp hy with rfl | hy
      · have h7 := @tot_z y l
        exact ⟨pieceB_ok S.ok.ok.pz (by omega), by omega⟩
      · obtain ⟨pr, hpr, rfl⟩ := List.mem_map.mp hy
        have h7 := tot_p (z := z) hpr
        exact ⟨pieceB_ok (S.ok.ok.pl _ hpr).2 (by omega), by omega⟩
    have sm1 := Sm.list (rowP it).sm
    have sm2 := Sm.list (SmA.strs nok)
    have sm3 := Sm.list (SmA.strs pok)
    obtain ⟨f1, f2, f3, f4, _, _⟩ := (Sm.list (SmA.cons sm1 (SmA.cons sm2 (SmA.cons sm3 SmA.nil)))).fin (by decide) (by
      have h1 := toD_len z l
      have h2 : (toD z l).length * (2000 + 3) ≤ 49 * 2003 := Nat.mul_le_mul_right _ (by omega)
      have h3 : (fsts (nmOf l) (nmOf l).length).length * (4 + 1) ≤ 12 * 5 := Nat.mul_le_mul_right _ twelve
      have h4 : (z :: l.map (·.2)).length * (2000 + 1) ≤ 25 * 2001 := Nat.mul_le_mul_right _ (by simp; omega)
      omega)
    refine ⟨2, rfl, by decide, by decide, ?_⟩
    refine for_range (n := 2) (fun i σ H' => ∃ y3 y4 y5, σ = [some (.ref x), some (.ref r), some (.ref p), y3, y4, y5] ∧ Ex Hm H') ⟨none, none, none, rfl, Ex.rfl' Hm⟩ ?_ ?_
    · rintro i σ H1 hi ⟨y3, y4, y5, rfl, e1⟩
      have g1 := eG.tr e1
      have S1 := SG.ex g1
      obtain ⟨dx, _, _, _, _, sx, _⟩ := S1.at_
      refine ⟨_, rfl, x, dx, _, rfl, sx, rfl, x, z, l, rfl, S1, fun l1 w1 H2 e2 fl1 hl1 d1 => ?_⟩
      have S2 := S1.ex e2
      have sx2 := e2 _ _ sx
      refine ⟨_, rfl, x, dx, _, rfl, sx2, rfl, x, z, l, rfl, S2, fun l2 H3 e3 fl2 hl2 => ?_⟩
      have S3 := S2.ex e3
      have sx3 := e3 _ _ sx2
      refine ⟨_, rfl, x, dx, _, rfl, sx3, rfl, x, z, l, rfl, S3, fun l3 H4 e4 fl3 hl3 => ?_⟩
      refine ⟨(by show 3 ≤ sizeLine; decide), fun lt hlt => ?_⟩
      have x5 : Ex H4 (upd H4 lt (.lst [.ref l1, .ref l2, .ref l3])) := Ex.new hlt
      have hlt5 : upd H4 lt (.lst [.ref l1, .ref l2, .ref l3]) lt = some (.lst [.ref l1, .ref l2, .ref l3]) := upd_same
      have e15 : Ex H1 (upd H4 lt (.lst [.ref l1, .ref l2, .ref l3])) := (e2.tr e3).tr (e4.tr x5)
      have hl1' := x5 _ _ (e4 _ _ (e3 _ _ hl1))
      have hl2' := x5 _ _ (e4 _ _ hl2)
      have hl3' := x5 _ _ hl3
      have d1' := DVs.ex e15 _ _ d1
      have n12 : l1 ≠ l2 := ne_of_none hl1 fl2
      have n13 : l1 ≠ l3 := ne_of_none (e3 _ _ hl1) fl3
      have n23 : l2 ≠ l3 := ne_of_none hl2 fl3
      have n1t : l1 ≠ lt := ne_of_none (e4 _ _ (e3 _ _ hl1)) hlt
      have n2t : l2 ≠ lt := ne_of_none (e4 _ _ hl2) hlt
      have n3t : l3 ≠ lt := ne_of_none hl3 hlt
      have b1 : H1 l1 = none := fl1
      have b2 : H1 l2 = none := e2.free fl2
      have b3 : H1 l3 = none := (e2.tr e3).free fl3
      have w1l : w1.length ≤ 49 := by rw [d1.length, toD_len]; omega
      generalize upd H4 lt (.lst [.ref l1, .ref l2, .ref l3]) = H5 at e15 hlt5 hl1' hl2' hl3' d1' ⊢
      clear x5 hlt hl3 fl3 e4 sx3 S3 hl2 fl2 e3 sx2 S2 d1 hl1 fl1 e2
      refine ⟨_, rfl, .ref lt, _, rfl, .lst (SqL.of hlt5) (.cons (.lst (SqL.of hl1') (row_dp d1' it)) (.cons (.lst (SqL.of hl2') (dp_strs _)) (.cons (.lst (SqL.of hl3') (dp_strs _)) .nil))), f1, f2, f3, f4, ?_⟩
      have e5 := e1.tr e15
      have g5 := eG.tr e5
      refine ⟨_, rfl, _, rfl, p, kvs, rfl, e5 _ _ hpm, fun k1 hk1 => ?_⟩
      have kk : (kvs.map fun kv => kV kv.1) = (fsts (nmOf l) (nmOf l).length).map V.str := by
        have e := congrArg (List.map kV) M.keys
        rw [List.map_map, List.map_map] at e
        exact e
      rw [kk]
      have x6 : Ex H5 (upd H5 k1 (.lst ((fsts (nmOf l) (nmOf l).length).map V.str))) := Ex.new hk1
      have hk6 : upd H5 k1 (.lst ((fsts (nmOf l) (nmOf l).length).map V.str)) k1 = some (.lst ((fsts (nmOf l) (nmOf l).length).map V.str)) := upd_same
      generalize upd H5 k1 (.lst ((fsts (nmOf l) (nmOf l).length).map V.str)) = H6 at x6 hk6 ⊢
      have g6 := g5.tr x6
      refine ⟨_, rfl, _, rfl, r, rv, rfl, SqL.of (g6 _ _ rG), rfl, rfl, .inl ⟨rfl, fun k2 hk2 => ?_⟩⟩
      rw [evens_toD dG]
      have x7 : Ex H6 (upd H6 k2 (.lst ((z :: l.map (·.2)).map V.str))) := Ex.new hk2
      have hk7 : upd H6 k2 (.lst ((z :: l.map (·.2)).map V.str)) k2 = some (.lst ((z :: l.map (·.2)).map V.str)) := upd_same
      generalize upd H6 k2 (.lst ((z :: l.map (·.2)).map V.str)) = H7 at x7 hk7 ⊢
      refine ⟨(by show 3 ≤ sizeLine; decide), fun k3 hk3 => ?_⟩
      have x8 : Ex H7 (upd H7 k3 (.lst [.ref r, .ref k1, .ref k2])) := Ex.new hk3
      have hk8 : upd H7 k3 (.lst [.ref r, .ref k1, .ref k2]) k3 = some (.lst [.ref r, .ref k1, .ref k2]) := upd_same
      generalize upd H7 k3 (.lst [.ref r, .ref k1, .ref k2]) = H8 at x8 hk8 ⊢
      have x58 := (x6.tr x7).tr x8
      have g8 := g5.tr x58
      refine ⟨.ref k3, _, rfl, .lst (SqL.of hk8) (.cons (.lst (SqL.of (g8 _ _ rG)) (row_dp (DVs.ex g8 _ _ dG) it)) (.cons (.lst (SqL.of (x8 _ _ (x7 _ _ hk6))) (dp_strs _)) (.cons (.lst (SqL.of (x8 _ _ hk7)) (dp_strs _)) .nil))), f1, f2, f3, f4, rfl, _, rfl, ?_⟩
      rw [Gd.ne_self]
      have S8 := SG.ex g8
      have sx8 := x58 _ _ (e15 _ _ sx)
      have kl : kvs.length = (fsts (nmOf l) (nmOf l).length).length := by
        have := congrArg List.length M.keys
        rwa [List.length_map, List.length_map] at this
      refine iteF ⟨_, rfl, x, dx, _, rfl, sx8, x, z, l, rfl, S8, fun H9 x9 => ⟨⟨_, rfl, by omega, by omega⟩, _, rfl, p, kvs, rfl, x9 _ _ (x58 _ _ (e5 _ _ hpm)), rfl, _, rfl, ?_⟩⟩
      rw [kl, show (!decide (V.int ((fsts (nmOf l) (nmOf l).length).length : Nat) = V.int ((fsts (nmOf l) (nmOf l).length).length : Nat))) = false by simp]
      refine iteF ?_
      have g9 := g8.tr x9
      have S9 := SG.ex g9
      have sx9 := x9 _ _ sx8
      have rt9 := g9 _ _ rG
      have hlen : (toD z l).length ≤ 49 := by rw [toD_len]; omega
      -- the text
      refine ⟨_, rfl, x, dx, _, rfl, sx9, x, z, l, rfl, S9, fun H10 x10 => ⟨⟨_, rfl⟩, _, rfl, r, rv, toD z l, rfl, x10 _ _ rt9, DVs.ex (g9.tr x10) _ _ dG, it2, hlen, fun H11 x11 => ⟨rfl, _, rfl, ?_⟩⟩⟩
      rw [Gd.ne_self]
      have x911 := x10.tr x11
      refine iteF ⟨_, rfl, x, dx, _, rfl, x911 _ _ sx9, x, z, l, rfl, S9.ex x911, fun H12 x12 => ⟨⟨_, rfl⟩, _, rfl, r, rv, toD z l, rfl, (x911.tr x12) _ _ rt9, DVs.ex (g9.tr (x911.tr x12)) _ _ dG, it2, hlen, fun H13 x13 => ⟨_, _, rfl, rfl, ?_, _, _, rfl, rfl, ?_, rfl, _, rfl, ?_⟩⟩⟩
      · exact Nat.le_trans (Nat.add_le_add (show ("Strip(" : Str).length ≤ 6 by decide) tl) (by decide)
      · rw [app_len]
        exact Nat.le_trans (Nat.add_le_add (Nat.add_le_add (show ("Strip(" : Str).length ≤ 6 by decide) tl) (show (")" : Str).length ≤ 1 by decide)) (by decide)
      rw [show reprS (toD z l) = "Strip(" ++ textD (toD z l) ++ ")" from rfl, Gd.ne_self]
      refine iteF ?_
      have x513 : Ex H5 H13 := x58.tr (x9.tr (x911.tr (x12.tr x13)))
      have e13 : Ex Hm H13 := e5.tr x513
      have m1 := e1.free b1
      have m2 := e1.free b2
      have m3 := e1.free b3
      have ll1 := x513 _ _ hl1'
      have ll2 := x513 _ _ hl2'
      have ll3 := x513 _ _ hl3'
      have llt := x513 _ _ hlt5
      clear x13 x12 x911 x11 x10 x9 rt9 sx9 S9 g9 sx8 S8 g8 hk8 hk3 hk7 hk2 hk6 hk1 x8 x7 x6 x58
      -- the answers may be changed
      refine ⟨_, rfl, lt, rfl, ⟨_, SqL.of llt⟩, ?_⟩
      refine for_list (K := K) (a := lt) (xs := [V.ref l1, V.ref l2, V.ref l3]) (fun j σ H' => ∃ y5 v1 v2 v3, σ = [some (.ref x), some (.ref r), some (.ref p), some (.int (0 + (i : Nat))), some (.ref lt), y5] ∧ Ex Hm H' ∧ H' lt = some (.lst [.ref l1, .ref l2, .ref l3]) ∧
          H' l1 = some (.lst v1) ∧ H' l2 = some (.lst v2) ∧ H' l3 = some (.lst v3) ∧ v1.length ≤ 60 + j ∧ v2.length ≤ 60 + j ∧ v3.length ≤ 60 + j)
        ⟨_, _, _, _, rfl, e13, llt, ll1, ll2, ll3, by omega, by simp; omega, by simp; omega⟩ (fun j σ H' _ ⟨_, _, _, _, _, _, h, _⟩ => SqL.of h) ?_ ?_
      · rintro j v σ H14 hj ⟨y5, v1, v2, v3, rfl, e14, h14, a1, a2, a3, c1, c2, c3⟩
        match j, hj with
        | 0, hj =>
          cases hj
          exact ⟨_, rfl, .inl ⟨rfl, _, SqL.of a1⟩, l1, _, _, rfl, rfl, a1, lt_200 (by omega), _, _, _, _, rfl, e14.mut m1, (upd_ne n1t.symm).trans h14, upd_same, (upd_ne n12.symm).trans a2, (upd_ne n13.symm).trans a3, by simp; omega, by omega, by omega⟩
        | 1, hj =>
          cases hj
          exact ⟨_, rfl, .inl ⟨rfl, _, SqL.of a2⟩, l2, _, _, rfl, rfl, a2, lt_200 (by omega), _, _, _, _, rfl, e14.mut m2, (upd_ne n2t.symm).trans h14, (upd_ne n12).trans a1, upd_same, (upd_ne n23.symm).trans a3, by omega, by simp; omega, by omega⟩
        | 2, hj =>
          cases hj
          exact ⟨_, rfl, .inl ⟨rfl, _, SqL.of a3⟩, l3, _, _, rfl, rfl, a3, lt_200 (by omega), _, _, _, _, rfl, e14.mut m3, (upd_ne n3t.symm).trans h14, (upd_ne n13).trans a1, (upd_ne n23).trans a2, upd_same, by omega, by omega, by simp; omega⟩
        | j + 3, hj => simp at hj
      · rintro σ H14 ⟨y5, v1, v2, v3, rfl, e14, h14, a1, a2, a3, c1, c2, c3⟩
        refine ⟨_, rfl, _, rfl, _, rfl, x, r, p, z, l, rv, kvs, G, rfl, eG.tr e14, gp, SG, rG, dG, M, e14 _ _ hpm, fun H15 e15 => ⟨_, rfl, ?_⟩⟩
        exact iteF ⟨_, _, _, rfl, e14.tr e15⟩
    · rintro σ H1 ⟨y3, y4, y5, rfl, e1⟩
      exact q H1 (e0.tr e1)
end

section
variable {P : Program} {w : World} {K : PySem.W.Frag} {mg : Str → Option Value} {base : Heap} {O : HO → Prop} {C_Strip : Addr}
theorem ok_fresh_right {f : Addr} {fd : FuncData} (F : Fun K "_law_fresh_right" "_law_fresh_right" s_L_fresh_right f fd) (T : Txt K mg) (TC_Strip : StripCls K C_Strip) {f_Strip_init : Addr} {fd_Strip_init : FuncData} (M_Strip : Mk K C_Strip f_Strip_init) (mc_Strip : mg "Strip" = some (.ref C_Strip)) (b_Strip_init : Binds K fd_Strip_init ["self", "row"] [])
    {f_Strip_pieces : Addr} {fd_Strip_pieces : FuncData} (D_Strip_pieces : Dm K C_Strip "pieces" f_Strip_pieces fd_Strip_pieces ["self"])
    {f_Strip_places : Addr} {fd_Strip_places : FuncData} (D_Strip_places : Dm K C_Strip "places" f_Strip_places fd_Strip_places ["self", "name"])
    {f_Strip_orientations : Addr} {fd_Strip_orientations : FuncData} (D_Strip_orientations : Dm K C_Strip "orientations" f_Strip_orientations fd_Strip_orientations ["self", "name"])
    {f_Strip_is_direct : Addr} {fd_Strip_is_direct : FuncData} (D_Strip_is_direct : Dm K C_Strip "is_direct" f_Strip_is_direct fd_Strip_is_direct ["self", "name"])
    {f_Strip_names_between : Addr} {fd_Strip_names_between : FuncData} (D_Strip_names_between : Dm K C_Strip "names_between" f_Strip_names_between fd_Strip_names_between ["self", "name"])
    {f_Strip_crosses : Addr} {fd_Strip_crosses : FuncData} (D_Strip_crosses : Dm K C_Strip "crosses" f_Strip_crosses fd_Strip_crosses ["self", "one", "other"])
    {f_Strip_len : Addr} {fd_Strip_len : FuncData} (D_Strip_len : Dm K C_Strip "__len__" f_Strip_len fd_Strip_len ["self"])
    {f_Strip_str : Addr} {fd_Strip_str : FuncData} (D_Strip_str : Dm K C_Strip "__str__" f_Strip_str fd_Strip_str ["self"])
    {f_L_text : Addr} {fd_L_text : FuncData} (D_L_text : Df K mg "_law_text" f_L_text fd_L_text ["_law_row_here"])
    (G_Strip_init : FnOk P w K mg base CX0 7 f_Strip_init fd_Strip_init ["self", "row"] (spInit O C_Strip))
    (G_L_text : FnOk P w K mg base CX0 1 f_L_text fd_L_text ["_law_row_here"] (fun vs H Q _ => ∃ a rv ds, vs = [.ref a] ∧ H a = some (.lst rv) ∧ DVs O H rv ds ∧ (∀ d ∈ ds, It 100000 d) ∧ ds.length ≤ 49 ∧ Val H (.str (textD ds)) Q))
    (G_Strip_pieces : FnOk P w K mg base CX0 1 f_Strip_pieces fd_Strip_pieces ["self"] (spSt O C_Strip fun z l H Q => NewV H ((z :: l.map (·.2)).map V.str) Q))
    (G_Strip_len : FnOk P w K mg base CX0 1 f_Strip_len fd_Strip_len ["self"] (spSt O C_Strip fun z l H Q => Val H (.int ((fsts (nmOf l) (nmOf l).length).length : Nat)) Q))
    (G_Strip_str : FnOk P w K mg base CX0 3 f_Strip_str fd_Strip_str ["self"] (spSt O C_Strip fun z l H Q => Val H (.str (textD (toD z l))) Q))
    (G_Strip_places : FnOk P w K mg base CX0 4 f_Strip_places fd_Strip_places ["self", "name"] (spSt1 O C_Strip fun z l y H Q => ∀ t H', Ex H H' → H t = some (.tup [.int (plc (nmOf l) y 0 : Nat), .int (plc (nmOf l) y 1 : Nat)]) → Q (.ref t) H'))
    (G_Strip_orientations : FnOk P w K mg base CX0 4 f_Strip_orientations fd_Strip_orientations ["self", "name"] (spSt1 O C_Strip fun z l y H Q => NewU H [.bl (upOf l (plc (nmOf l) y 0)), .bl (upOf l (plc (nmOf l) y 1))] Q))
    (G_Strip_is_direct : FnOk P w K mg base CX0 5 f_Strip_is_direct fd_Strip_is_direct ["self", "name"] (spSt1 O C_Strip fun z l y H Q => Val H (.bl (upOf l (plc (nmOf l) y 0) == upOf l (plc (nmOf l) y 1))) Q))
    (G_Strip_names_between : FnOk P w K mg base CX0 4 f_Strip_names_between fd_Strip_names_between ["self", "name"] (spSt1 O C_Strip fun z l y H Q => NewV H ((betw (nmOf l) y).map V.str) Q))
    (G_Strip_crosses : FnOk P w K mg base CX0 4 f_Strip_crosses fd_Strip_crosses ["self", "one", "other"] (spStX O C_Strip)) :
    FnG P w K mg base CX0 9 f fd ["_law_row_here", "_law_marks_here"] (spFresh O C_Strip) := by
  refine okG F sc_L_fresh_right (fun vs H Q E h => ?_) (fun cdv A outer s H vs Q E hgd hr h => ?_)
  · obtain ⟨r, p, z, l, rv, kvs, G, rfl, _⟩ := h
    rfl
  · obtain ⟨r, p, z, l, rv, kvs, G, rfl, eG, gp, rG, dG, ok, htot, M, hp, q⟩ := h
    have hrep : (A.deeper (envOfC "_law_fresh_right" (defScope s_L_fresh_right) s.heap.objs.size f cdv)).units + 66 < cLine := by
      have := hr.un
      omega
    have nl : (nmOf l).length = l.length := by simp [nmOf]
    have few := ok.few
    have twelve := ok.twelve
    have rl : rv.length ≤ 49 := by rw [dG.length, toD_len]; omega
    have hv : ∀ H', Ex G H' → DV O H' (.ref r) (.lst (toD z l)) ∨ DV O H' (.ref r) (.tup (toD z l)) := fun H' e => .inl (.lst (e _ _ rG) (DVs.ex e _ _ dG) (by omega))
    have it := ok.ok.it (L := 2000) htot (by decide) (by decide)
    have it2 := ok.ok.it (L := 100000) (by omega) (by decide) (by decide)
    have hlen : (toD z l).length ≤ 49 := by rw [toD_len]; omega
    have kl : kvs.length = (fsts (nmOf l) (nmOf l).length).length := by
      have := congrArg List.length M.keys
      rwa [List.length_map, List.length_map] at this
    have pok : ∀ y ∈ z :: l.map (·.2), okS y = true ∧ y.length ≤ 2000 := fun y hy => by
      rcases List.mem_cons.mp hy with rfl | hy
      · have h7 := @tot_z y l
        exact ⟨pieceB_ok ok.ok.pz (by omega), by omega⟩
      · obtain ⟨pr, hpr, rfl⟩ := List.mem_map.mp hy
        have h7 := tot_p (z := z) hpr
        exact ⟨pieceB_ok (ok.ok.pl _ hpr).2 (by omega), by omega⟩
    refine ⟨_, (pss_cons (ps_if (PW.pt (pw_or (pt_cmpR op_ne (pe_callB (call_lenO G_Strip_len D_Strip_len.m.at_ D_Strip_len.m.fn D_Strip_len.b pass0 (hr.mono (by first | decide | omega))) (by rfl) T.z_len (by decide +kernel) (pa_cons (pe_make M_Strip G_Strip_init (hr.mono (by first | decide | omega)) rfl mc_Strip b_Strip_init .nil pass0 (pa_cons (pv 0) pa_nil)) pa_nil)) (pe_callB call_lenD (by rfl) T.z_len (by decide +kernel) (pa_cons (pv 1) pa_nil)) (nomark _)) (pw_or (pt_cmpR op_ne (pe_callTy (call_strO G_Strip_str D_Strip_str.m.at_ D_Strip_str.m.fn D_Strip_str.b pass0 (hr.mono (by first | decide | omega))) (by rfl) T.z_str (by decide +kernel) (pa_cons (pe_make M_Strip G_Strip_init (hr.mono (by first | decide | omega)) rfl mc_Strip b_Strip_init .nil pass0 (pa_cons (pv 0) pa_nil)) pa_nil)) (pe_call G_L_text (hr.mono (by first | decide | omega)) rfl D_L_text.g D_L_text.k D_L_text.b .nil pass0 (pa_cons (pv 0) pa_nil)) (nomark _)) (pw_or1 (pt_cmpR (op_neD hr.units) (pe_meth0 (pe_make M_Strip G_Strip_init (hr.mono (by first | decide | omega)) rfl mc_Strip b_Strip_init .nil pass0 (pa_cons (pv 0) pa_nil)) TC_Strip.cl D_Strip_pieces.m G_Strip_pieces (hr.mono (by first | decide | omega)) D_Strip_pieces.b .nil pass0) (pe_sliceS ss_twoL (pv 0) po_none po_none (po_some pe_int)) (nomark _)))))) (pss_one (ps_ret pe_bl)) pss_nil)
    (pss_cons (ps_lock (ps_for PassesOwn.never rfl (pi_items (pv 1)) (pg_tup (by rfl) (pgs_cons (pg_name (i := 2) sc_L_fresh_right.nd rfl (.inl rfl)) (pgs_cons (pg_name (i := 3) sc_L_fresh_right.nd rfl (.inl rfl)) pgs_nil)))
      (pss_cons (ps_asg (pv 3) (pg_lst (by rfl) (pgs_cons (pg_name (i := 4) sc_L_fresh_right.nd rfl (.inl rfl)) (pgs_cons (pg_name (i := 5) sc_L_fresh_right.nd rfl (.inl rfl)) pgs_nil))))
    (pss_cons (ps_set (i := 6) sc_L_fresh_right.nd rfl (.inl rfl) (pe_lst (pa_cons (pe_meth (pe_make M_Strip G_Strip_init (hr.mono (by first | decide | omega)) rfl mc_Strip b_Strip_init .nil pass0 (pa_cons (pv 0) pa_nil)) TC_Strip.cl D_Strip_places.m G_Strip_places (hr.mono (by first | decide | omega)) D_Strip_places.b .nil pass0 (pa_cons (pv 2) pa_nil)) (pa_cons (pe_meth (pe_make M_Strip G_Strip_init (hr.mono (by first | decide | omega)) rfl mc_Strip b_Strip_init .nil pass0 (pa_cons (pv 0) pa_nil)) TC_Strip.cl D_Strip_orientations.m G_Strip_orientations (hr.mono (by first | decide | omega)) D_Strip_orientations.b .nil pass0 (pa_cons (pv 2) pa_nil)) (pa_cons (pe_meth (pe_make M_Strip G_Strip_init (hr.mono (by first | decide | omega)) rfl mc_Strip b_Strip_init .nil pass0 (pa_cons (pv 0) pa_nil)) TC_Strip.cl D_Strip_is_direct.m G_Strip_is_direct (hr.mono (by first | decide | omega)) D_Strip_is_direct.b .nil pass0 (pa_cons (pv 2) pa_nil)) pa_nil)))))
    (pss_cons (ps_set (i := 6) sc_L_fresh_right.nd rfl (.inl rfl) (pe_op op_cat (pv 6) (pe_lst (pa_cons (pe_meth (pe_make M_Strip G_Strip_init (hr.mono (by first | decide | omega)) rfl mc_Strip b_Strip_init .nil pass0 (pa_cons (pv 0) pa_nil)) TC_Strip.cl D_Strip_names_between.m G_Strip_names_between (hr.mono (by first | decide | omega)) D_Strip_names_between.b .nil pass0 (pa_cons (pv 2) pa_nil)) (pa_cons (pe_meth (pe_make M_Strip G_Strip_init (hr.mono (by first | decide | omega)) rfl mc_Strip b_Strip_init .nil pass0 (pa_cons (pv 0) pa_nil)) TC_Strip.cl D_Strip_crosses.m G_Strip_crosses (hr.mono (by first | decide | omega)) D_Strip_crosses.b .nil pass0 (pa_cons (pv 2) (pa_cons (pe_ix ix_list (pe_callTy (call_list_dKR rfl) (by rfl) T.z_list (by decide +kernel) (pa_cons (pv 1) pa_nil)) (pe_un un_neg pe_int) (fun _ _ => rfl)) pa_nil))) pa_nil)))))
    (pss_cons (ps_set (i := 7) sc_L_fresh_right.nd rfl (.inl rfl) (pe_slice sl_list (pe_lc (own := [("_law_mark", 9)]) (g := gName 9) (tt := tYes) rfl sc_L_fresh_right.nd (pi_list (pe_sliceS ss_twoL (pv 0) (po_some pe_int) po_none (po_some pe_int))) (blkOk_by (N := sc_L_fresh_right.N') (sc := defScope s_L_fresh_right) (by decide +kernel)) (fun _ _ _ _ _ => (pg_name (i := 9) sc_L_fresh_right.nd rfl (by first | exact Or.inl rfl | exact Or.inr rfl))) (fun _ _ _ _ _ => pts_nil) (fun _ _ _ _ _ => (pe_ix (ix_tupK (K := K) rfl) (pv 9) pe_int (fun _ _ => rfl)))) (po_some (pe_op op_add (pe_ix ix_tup (pv 4) pe_int (fun _ _ => rfl)) pe_int)) (po_some (pe_ix ix_tup (pv 5) pe_int (fun _ _ => rfl)))))
    (pss_cons (ps_set (i := 8) sc_L_fresh_right.nd rfl (.inl rfl) (pe_lst (pa_cons (pe_tup (pa_cons (pe_ix ix_tup (pv 4) pe_int (fun _ _ => rfl)) (pa_cons (pe_ix ix_tup (pv 5) pe_int (fun _ _ => rfl)) pa_nil))) (pa_cons (pe_tup (pa_cons (pe_ix ix_tup (pv 4) pe_int (fun _ _ => rfl)) (pa_cons (pe_ix ix_tup (pv 5) pe_int (fun _ _ => rfl)) pa_nil))) (pa_cons (pe_cmpR op_eq (pe_ix ix_tup (pv 4) pe_int (fun _ _ => rfl)) (pe_ix ix_tup (pv 5) pe_int (fun _ _ => rfl)) (nomark _)) (pa_cons (pv 7) pa_nil))))))
    (pss_one (ps_if (pt_cmpR op_ne (pe_callB (call_reprD hgd hrep) (by rfl) T.z_repr (by decide +kernel) (pa_cons (pv 6) pa_nil)) (pe_callB (call_reprD hgd hrep) (by rfl) T.z_repr (by decide +kernel) (pa_cons (pe_op op_cat (pv 8) (pe_lst (pa_cons (pe_and (pe_cmpR op_ne (pv 2) (pe_ix ix_list (pe_callTy (call_list_dKR rfl) (by rfl) T.z_list (by decide +kernel) (pa_cons (pv 1) pa_nil)) (pe_un un_neg pe_int) (fun _ _ => rfl)) (nomark _)) (pe_one (pe_cmpR op_eq (pe_bm PySem.F.plainAttrs_list PySem.F.slot_list_count PySem.F.type_list_count mt_countS (pv 7) (pa_cons (pe_ix ix_list (pe_callTy (call_list_dKR rfl) (by rfl) T.z_list (by decide +kernel) (pa_cons (pv 1) pa_nil)) (pe_un un_neg pe_int) (fun _ _ => rfl)) pa_nil)) pe_int (nomark _)))) pa_nil))) pa_nil)) (nomark _)) (pss_one (ps_ret pe_bl)) pss_nil)))))))))
    (pss_one (ps_ret pe_bl)))), ?_⟩
    -- of new strips
    refine ⟨_, rfl, fun x1 _ hx hdx _ => make_ok hx hdx (hv H eG) ok fun H1 e1 S1 _ => ⟨rfl, ?_⟩⟩
    obtain ⟨dx1, _, _, _, _, sx1, _⟩ := S1.at_
    refine ⟨x1, dx1, _, rfl, sx1, x1, z, l, rfl, S1, fun H2 e2 => ⟨⟨_, rfl, by omega, by omega⟩, _, rfl, p, kvs, rfl, (e1.tr e2) _ _ hp, rfl, _, rfl, ?_⟩⟩
    rw [kl, show (!decide (V.int ((fsts (nmOf l) (nmOf l).length).length : Nat) = V.int ((fsts (nmOf l) (nmOf l).length).length : Nat))) = false by simp]
    have y2 := e1.tr e2
    refine iteF ⟨_, rfl, fun x3 _ hx hdx _ => make_ok hx hdx (hv H2 (eG.tr y2)) ok fun H3 e3 S3 _ => ⟨rfl, ?_⟩⟩
    obtain ⟨dx3, _, _, _, _, sx3, _⟩ := S3.at_
    have y3 := y2.tr e3
    refine ⟨x3, dx3, _, rfl, sx3, x3, z, l, rfl, S3, fun H4 e4 => ⟨⟨_, rfl⟩, _, rfl, r, rv, toD z l, rfl, (eG.tr (y3.tr e4)) _ _ rG, DVs.ex (eG.tr (y3.tr e4)) _ _ dG, it2, hlen, fun H5 e5 => ⟨rfl, _, rfl, ?_⟩⟩⟩
    rw [Gd.ne_self]
    have y5 := (y3.tr e4).tr e5
    refine iteF ⟨_, rfl, fun x6 _ hx hdx _ => make_ok hx hdx (hv H5 (eG.tr y5)) ok fun H6 e6 S6 _ => ⟨rfl, ?_⟩⟩
    obtain ⟨dx6, _, _, _, _, sx6, _⟩ := S6.at_
    refine ⟨x6, dx6, _, rfl, sx6, rfl, x6, z, l, rfl, S6, fun pl H7 e7 fpl hpl => ?_⟩
    have y7 := (y5.tr e6).tr e7
    refine ⟨_, rfl, _, rfl, r, rv, rfl, SqL.of ((eG.tr y7) _ _ rG), rfl, rfl, .inl ⟨rfl, fun k2 hk2 => ?_⟩⟩
    rw [evens_toD dG]
    have x8 : Ex H7 (upd H7 k2 (.lst ((z :: l.map (·.2)).map V.str))) := Ex.new hk2
    have hk8 : upd H7 k2 (.lst ((z :: l.map (·.2)).map V.str)) k2 = some (.lst ((z :: l.map (·.2)).map V.str)) := upd_same
    generalize upd H7 k2 (.lst ((z :: l.map (·.2)).map V.str)) = H8 at x8 hk8 ⊢
    obtain ⟨_, _, _, _, f5, f6⟩ := (Sm.list (SmA.strs pok)).fin (by decide) (by
      have h4 : (z :: l.map (·.2)).length * (2000 + 1) ≤ 25 * 2001 := Nat.mul_le_mul_right _ (by simp; omega)
      omega)
    refine ⟨_, _, .lst (SqL.of (x8 _ _ hpl)) (dp_strs _), .lst (SqL.of hk8) (dp_strs _), f5, f5, _, rfl, ?_⟩
    rw [f6]
    refine iteF ?_
    have y8 := y7.tr x8
    have hp8 := y8 _ _ hp
    have eG8 := eG.tr y8
    clear f5 f6 hk8 x8 hk2 hpl fpl e7 y7 sx6 S6 e6 y5 e5 e4 y3 sx3 S3 e3 y2 e2 sx1 S1 e1
    -- name by name
    refine ⟨p, _, hp8, trivial, fun od => ?_⟩
    have e0 : Ex G (upd H8 p (.frz od (.dK kvs))) := eG8.mut gp
    have h0 : upd H8 p (.frz od (.dK kvs)) p = some (.frz od (.dK kvs)) := upd_same
    have b0 : ∀ b o, b ≠ p → H b = some o → upd H8 p (.frz od (.dK kvs)) b = some o := fun b o n hb => (upd_ne n).trans (y8 _ _ hb)
    generalize upd H8 p (.frz od (.dK kvs)) = H0 at e0 h0 b0 ⊢
    refine ⟨_, rfl, p, od, kvs, rfl, h0, ?_⟩
    refine for_it (walk_items (o := od) (d := p) (kvs := kvs)) (fun i σ H' => ∃ y2 y3 y4 y5 y6 y7 y8, σ = [some (.ref r), some (.ref p), y2, y3, y4, y5, y6, y7, y8, none] ∧ Ex H0 H')
      ⟨none, none, none, none, none, none, none, rfl, Ex.rfl' H0⟩ (fun i σ H' _ ⟨_, _, _, _, _, _, _, _, e⟩ => e _ _ h0) ?_ ?_
    · rintro i v σ H1 H2 hi ⟨y2, y3, y4, y5, y6, y7, y8, rfl, e1⟩ ⟨Tp, vx, vy, rfl, hT, rfl, k1, k2⟩
      obtain ⟨⟨ky, vv⟩, hk⟩ : ∃ kv, kvs[i]? = some kv := ⟨_, List.getElem?_eq_getElem hi⟩
      dsimp only at k1 k2
      rw [hk] at k1 k2
      cases k1
      cases k2
      have hm := List.mem_of_getElem? hk
      obtain ⟨nm, rfl⟩ : ∃ nm, ky = Sum.inr nm := by
        have : ky ∈ kvs.map (·.1) := List.mem_map.mpr ⟨_, hm, rfl⟩
        rw [M.keys] at this
        obtain ⟨nm, _, rfl⟩ := List.mem_map.mp this
        exact ⟨nm, rfl⟩
      obtain ⟨hnm, a, t0, t1, rfl, ha, ht0, ht1⟩ := M.at_ _ _ hm
      have x2 : Ex H1 (upd H1 Tp (.tup [kV (Sum.inr nm), .ref a])) := Ex.new hT
      have e2 : Ex H0 (upd H1 Tp (.tup [kV (Sum.inr nm), .ref a])) := e1.tr x2
      have hT2 : upd H1 Tp (.tup [kV (Sum.inr nm), .ref a]) Tp = some (.tup [.str nm, .ref a]) := upd_same
      generalize upd H1 Tp (.tup [kV (Sum.inr nm), .ref a]) = H2 at e2 hT2 ⊢
      have g2 := e0.tr e2
      refine ⟨Tp, _, rfl, SqT.of hT2, rfl, _, _, rfl, _, _, rfl, rfl, ?_⟩
      refine ⟨_, rfl, a, _, rfl, SqL.of (g2 _ _ ha), rfl, _, _, rfl, _, _, rfl, rfl, ?_⟩
      clear hT2 x2 e1 hT hk
      obtain ⟨o1, o2, o3, o4, o5⟩ := two_occ ok.two hnm
      have kk : (kvs.map fun kv => kV kv.1) = (fsts (nmOf l) (nmOf l).length).map V.str := by
        have e := congrArg (List.map kV) M.keys
        rw [List.map_map, List.map_map] at e
        exact e
      -- the last name
      obtain ⟨la, hla, hlm⟩ : ∃ la, atI ((fsts (nmOf l) (nmOf l).length).map V.str) (-1) = some (.str la) ∧ la ∈ nmOf l := by
        have hpos : 0 < (fsts (nmOf l) (nmOf l).length).length := List.length_pos_of_mem (fsts_mem.mpr (by rw [List.take_length]; exact hnm))
        have hi2 : (fsts (nmOf l) (nmOf l).length).length - 1 < (fsts (nmOf l) (nmOf l).length).length := by omega
        refine ⟨(fsts (nmOf l) (nmOf l).length)[(fsts (nmOf l) (nmOf l).length).length - 1], ?_, ?_⟩
        · unfold atI ixN
          rw [if_neg (by decide), if_pos (by rw [List.length_map]; omega), List.length_map, show (-1 + (((fsts (nmOf l) (nmOf l).length).length : Nat) : Int)).toNat = (fsts (nmOf l) (nmOf l).length).length - 1 by omega]
          simp [hi2]
        · have := fsts_mem.mp (List.getElem_mem hi2)
          rwa [List.take_length] at this
      have hlo : plc (nmOf l) nm 0 ≤ 1000 := by omega
      have hhi : plc (nmOf l) nm 1 ≤ 1000 := by omega
      have bl24 : (betw (nmOf l) nm).length ≤ 24 := by
        unfold betw
        rw [List.length_drop, List.length_take]
        omega
      have bok : ∀ y ∈ betw (nmOf l) nm, okS y = true ∧ y.length ≤ 4 := fun y hy => by
        have h7 := ok.name (List.mem_of_mem_take (List.mem_of_mem_drop hy))
        exact ⟨nameB_ok h7, (nameB_list h7).2.2⟩
      have x0p : ∀ H', Ex H0 H' → Rd H' p (.dK kvs) := fun H' e => .inr ⟨od, e _ _ h0⟩
      -- told
      refine ⟨_, rfl, fun x3 _ hx hdx _ => make_ok hx hdx (hv H2 g2) ok fun H3 e3 S3 _ => ⟨rfl, ?_⟩⟩
      obtain ⟨dx, _, _, _, _, sx, _⟩ := S3.at_
      refine ⟨x3, dx, _, rfl, sx, rfl, _, rfl, x3, z, l, nm, rfl, S3, hnm, fun tp H4 e4 htp => ?_⟩
      have htp4 := e4 _ _ htp
      have q4 := e3.tr e4
      clear htp sx S3
      refine ⟨_, rfl, fun x5 _ hx hdx _ => make_ok hx hdx (hv H4 (g2.tr q4)) ok fun H5 e5 S5 _ => ⟨rfl, ?_⟩⟩
      obtain ⟨dx, _, _, _, _, sx, _⟩ := S5.at_
      refine ⟨x5, dx, _, rfl, sx, rfl, _, rfl, x5, z, l, nm, rfl, S5, hnm, fun to H6 e6 _ hto => ?_⟩
      have htp6 := (e5.tr e6) _ _ htp4
      have q6 := (q4.tr e5).tr e6
      clear sx S5 htp4
      refine ⟨_, rfl, fun x7 _ hx hdx _ => make_ok hx hdx (hv H6 (g2.tr q6)) ok fun H7 e7 S7 _ => ⟨rfl, ?_⟩⟩
      obtain ⟨dx, _, _, _, _, sx, _⟩ := S7.at_
      refine ⟨x7, dx, _, rfl, sx, rfl, _, rfl, x7, z, l, nm, rfl, S7, hnm, fun H8 e8 => ?_⟩
      have htp8 := (e7.tr e8) _ _ htp6
      have hto8 := (e7.tr e8) _ _ hto
      have q8 := (q6.tr e7).tr e8
      clear sx S7 htp6 hto q6 q4 e8 e7 e6 e5 e4 e3
      rw [← bl_eq]
      refine ⟨(by show 3 ≤ sizeLine; decide), fun l1 hl1 => ?_⟩
      have x9 : Ex H8 (upd H8 l1 (.lst [.ref tp, .ref to, .bl (decide (V.bl (upOf l (plc (nmOf l) nm 0)) = V.bl (upOf l (plc (nmOf l) nm 1))))])) := Ex.new hl1
      have hl9 : upd H8 l1 (.lst [.ref tp, .ref to, .bl (decide (V.bl (upOf l (plc (nmOf l) nm 0)) = V.bl (upOf l (plc (nmOf l) nm 1))))]) l1 = some (.lst [.ref tp, .ref to, .bl (decide (V.bl (upOf l (plc (nmOf l) nm 0)) = V.bl (upOf l (plc (nmOf l) nm 1))))]) := upd_same
      have htp9 := x9 _ _ htp8
      have hto9 := x9 _ _ hto8
      have q9 := q8.tr x9
      generalize upd H8 l1 (.lst [.ref tp, .ref to, .bl (decide (V.bl (upOf l (plc (nmOf l) nm 0)) = V.bl (upOf l (plc (nmOf l) nm 1))))]) = H9 at hl9 htp9 hto9 q9 ⊢
      clear x9 hl1 q8 htp8 hto8
      refine ⟨_, rfl, _, rfl, fun x10 _ hx hdx _ => make_ok hx hdx (hv H9 (g2.tr q9)) ok fun H10 e10 S10 _ => ⟨rfl, ?_⟩⟩
      obtain ⟨dx, _, _, _, _, sx, _⟩ := S10.at_
      refine ⟨x10, dx, _, rfl, sx, rfl, _, rfl, x10, z, l, nm, rfl, S10, hnm, fun nb H11 e11 _ hnb => ?_⟩
      have q11 := (q9.tr e10).tr e11
      have x911 := e10.tr e11
      clear sx S10
      refine ⟨_, rfl, fun x12 _ hx hdx _ => make_ok hx hdx (hv H11 (g2.tr q11)) ok fun H12 e12 S12 _ => ⟨rfl, ?_⟩⟩
      obtain ⟨dx, _, _, _, _, sx, _⟩ := S12.at_
      refine ⟨x12, dx, _, rfl, sx, rfl, _, rfl, _, rfl, p, kvs, rfl, x0p _ (e2.tr (q11.tr e12)), fun k1 hk1 => ?_⟩
      rw [kk]
      have x13 : Ex H12 (upd H12 k1 (.lst ((fsts (nmOf l) (nmOf l).length).map V.str))) := Ex.new hk1
      have hk13 : upd H12 k1 (.lst ((fsts (nmOf l) (nmOf l).length).map V.str)) k1 = some (.lst ((fsts (nmOf l) (nmOf l).length).map V.str)) := upd_same
      generalize upd H12 k1 (.lst ((fsts (nmOf l) (nmOf l).length).map V.str)) = H13 at x13 hk13 ⊢
      refine ⟨_, rfl, k1, _, -1, _, rfl, rfl, SqL.of hk13, hla, x12, z, l, nm, la, rfl, S12.ex x13, hnm, hlm, fun H14 e14 => ?_⟩
      have q14 := ((q11.tr e12).tr x13).tr e14
      have x914 := ((x911.tr e12).tr x13).tr e14
      have hnb14 := ((e12.tr x13).tr e14) _ _ hnb
      refine ⟨(by show 2 ≤ sizeLine; decide), fun l2 hl2 => ?_⟩
      have x15 : Ex H14 (upd H14 l2 (.lst [.ref nb, .bl (crossB (nmOf l) nm la)])) := Ex.new hl2
      have hl15 : upd H14 l2 (.lst [.ref nb, .bl (crossB (nmOf l) nm la)]) l2 = some (.lst [.ref nb, .bl (crossB (nmOf l) nm la)]) := upd_same
      generalize upd H14 l2 (.lst [.ref nb, .bl (crossB (nmOf l) nm la)]) = H15 at x15 hl15 ⊢
      refine ⟨l1, l2, _, _, rfl, rfl, x15 _ _ (x914 _ _ hl9), hl15, (by show 5 ≤ sizeLine; decide), fun l3 hl3 => ?_⟩
      have x16 : Ex H15 (upd H15 l3 (.lst ([.ref tp, .ref to, .bl (decide (V.bl (upOf l (plc (nmOf l) nm 0)) = V.bl (upOf l (plc (nmOf l) nm 1))))] ++ [.ref nb, .bl (crossB (nmOf l) nm la)]))) := Ex.new hl3
      have hl16 : upd H15 l3 (.lst ([.ref tp, .ref to, .bl (decide (V.bl (upOf l (plc (nmOf l) nm 0)) = V.bl (upOf l (plc (nmOf l) nm 1))))] ++ [.ref nb, .bl (crossB (nmOf l) nm la)])) l3 = some (.lst ([.ref tp, .ref to, .bl (decide (V.bl (upOf l (plc (nmOf l) nm 0)) = V.bl (upOf l (plc (nmOf l) nm 1))))] ++ [.ref nb, .bl (crossB (nmOf l) nm la)])) := upd_same
      generalize upd H15 l3 (.lst ([.ref tp, .ref to, .bl (decide (V.bl (upOf l (plc (nmOf l) nm 0)) = V.bl (upOf l (plc (nmOf l) nm 1))))] ++ [.ref nb, .bl (crossB (nmOf l) nm la)])) = H16 at x16 hl16 ⊢
      have x916 := (x914.tr x15).tr x16
      have htp16 := x916 _ _ htp9
      have hto16 := x916 _ _ hto9
      have hnb16 := (x15.tr x16) _ _ hnb14
      have q16 := q9.tr x916
      clear x16 x15 x914 x911 q14 hnb14 hl15 hl2 hl3 hk13 x13 e14 sx S12 e12 q11 hnb e11 e10 q9 htp9 hto9 hl9 hk1
      have g16 := g2.tr q16
      -- the names between, by the row
      refine ⟨_, rfl, _, rfl, _, rfl, r, rv, rfl, SqL.of (g16 _ _ rG), rfl, rfl, .inr ⟨rfl, fun o ho => ?_⟩⟩
      have x17 : Ex H16 (upd H16 o (.lst (odds rv))) := Ex.new ho
      have ho17 : upd H16 o (.lst (odds rv)) o = some (.lst (odds rv)) := upd_same
      generalize upd H16 o (.lst (odds rv)) = H17 at x17 ho17 ⊢
      have g17 := g16.tr x17
      have hdo : DVs O G (odds rv) (l.map fun p => mkD p.1) := by
        have := dvs_odds dG
        rwa [show Gd.odds (toD z l) = l.map fun p => mkD p.1 from odds_toD l _] at this
      have ol : (odds rv).length = l.length := by rw [hdo.length, List.length_map]
      refine ⟨o, rfl, ⟨_, SqL.of ho17⟩, fun D hD => lc_list (xs := odds rv) (fun i H' => Ex H17 H' ∧ H' D = some (.lst (((nmOf l).take i).map V.str)))
          ⟨Ex.new hD, upd_same⟩ (fun i H' _ ⟨x1, _⟩ => SqL.of (x1 _ _ ho17)) ?_ ?_⟩
      · rintro j v H18 hx ⟨x18, h18⟩
        obtain ⟨d, hdi, hxd⟩ := hdo.get hx
        rw [List.getElem?_map] at hdi
        obtain ⟨pr, hpr, rfl⟩ := Option.map_eq_some_iff.mp hdi
        have hj : j < l.length := (List.getElem?_eq_some_iff.mp hpr).1
        obtain ⟨t, rfl, ht⟩ := mark_val hxd
        refine ⟨rfl, lcY ⟨_, rfl, t, _, 0, _, rfl, rfl, SqT.of ((g17.tr x18) _ _ ht), rfl, _, h18, lt_200 (by simp; omega), x18.mut hD, ?_⟩⟩
        rw [upd_same, List.take_add_one, nmOf, List.getElem?_map, hpr]
        simp
      rintro H18 ⟨x18, h18⟩
      rw [ol, ← nl, List.take_length] at h18
      have g18 := g17.tr x18
      refine ⟨_, rfl, t0, _, 0, _, rfl, rfl, SqT.of (g18 _ _ ht0), rfl, _, _, rfl, rfl, _, rfl, _, rfl, t1, _, 0, _, rfl, rfl, SqT.of (g18 _ _ ht1), rfl, _, rfl, D, _, rfl, SqL.of h18, fun c hc => ?_⟩
      have cut : cutV ((nmOf l).map V.str) (some ((plc (nmOf l) nm 0 : Nat) + 1)) (some (plc (nmOf l) nm 1 : Nat)) = (betw (nmOf l) nm).map V.str := by
        have := cutV_mid ((nmOf l).map V.str) (a := plc (nmOf l) nm 0 + 1) (b := plc (nmOf l) nm 1) (by rw [List.length_map]; omega) (by omega)
        rw [show (((plc (nmOf l) nm 0 + 1 : Nat)) : Int) = ((plc (nmOf l) nm 0 : Nat) : Int) + 1 by omega] at this
        rw [this]
        unfold betw
        rw [List.map_drop, List.map_take]
      rw [cut]
      have xc : Ex H18 (upd H18 c (.lst ((betw (nmOf l) nm).map V.str))) := Ex.new hc
      have hcc : upd H18 c (.lst ((betw (nmOf l) nm).map V.str)) c = some (.lst ((betw (nmOf l) nm).map V.str)) := upd_same
      generalize upd H18 c (.lst ((betw (nmOf l) nm).map V.str)) = Hc at xc hcc ⊢
      have x16c := (x17.tr x18).tr xc
      have gc := g16.tr x16c
      have hl3c := x16c _ _ hl16
      have htpc := x16c _ _ htp16
      have htoc := x16c _ _ hto16
      have hnbc := x16c _ _ hnb16
      have qc := q16.tr x16c
      clear x16c xc cut hc g18 h18 x18 hD hdo ol g17 ho17 x17 ho g16 q16 hnb16 hto16 htp16 hl16 x916
      -- due
      refine ⟨_, rfl, t0, _, 0, _, rfl, rfl, SqT.of (gc _ _ ht0), rfl, _, rfl, t1, _, 0, _, rfl, rfl, SqT.of (gc _ _ ht1), rfl, (by show 2 ≤ sizeLine; decide), fun w1 hw1 => ?_⟩
      have x6 : Ex Hc (upd Hc w1 (.tup [.int (plc (nmOf l) nm 0 : Nat), .int (plc (nmOf l) nm 1 : Nat)])) := Ex.new hw1
      have hw16 : upd Hc w1 (.tup [.int (plc (nmOf l) nm 0 : Nat), .int (plc (nmOf l) nm 1 : Nat)]) w1 = some (.tup [.int (plc (nmOf l) nm 0 : Nat), .int (plc (nmOf l) nm 1 : Nat)]) := upd_same
      generalize upd Hc w1 (.tup [.int (plc (nmOf l) nm 0 : Nat), .int (plc (nmOf l) nm 1 : Nat)]) = H6 at x6 hw16 ⊢
      have g6 := gc.tr x6
      refine ⟨_, rfl, t0, _, 1, _, rfl, rfl, SqT.of (g6 _ _ ht0), rfl, _, rfl, t1, _, 1, _, rfl, rfl, SqT.of (g6 _ _ ht1), rfl, (by show 2 ≤ sizeLine; decide), fun w2 hw2 => ?_⟩
      have x7 : Ex H6 (upd H6 w2 (.tup [.bl (upOf l (plc (nmOf l) nm 0)), .bl (upOf l (plc (nmOf l) nm 1))])) := Ex.new hw2
      have hw27 : upd H6 w2 (.tup [.bl (upOf l (plc (nmOf l) nm 0)), .bl (upOf l (plc (nmOf l) nm 1))]) w2 = some (.tup [.bl (upOf l (plc (nmOf l) nm 0)), .bl (upOf l (plc (nmOf l) nm 1))]) := upd_same
      generalize upd H6 w2 (.tup [.bl (upOf l (plc (nmOf l) nm 0)), .bl (upOf l (plc (nmOf l) nm 1))]) = H7 at x7 hw27 ⊢
      have g7 := g6.tr x7
      have hw17 := x7 _ _ hw16
      refine ⟨_, rfl, t0, _, 1, _, rfl, rfl, SqT.of (g7 _ _ ht0), rfl, _, rfl, t1, _, 1, _, rfl, rfl, SqT.of (g7 _ _ ht1), rfl, rfl, _, rfl, (by show 4 ≤ sizeLine; decide), fun due hdue => ?_⟩
      have x19 : Ex H7 (upd H7 due (.lst [.ref w1, .ref w2, .bl (decide (V.bl (upOf l (plc (nmOf l) nm 0)) = V.bl (upOf l (plc (nmOf l) nm 1)))), .ref c])) := Ex.new hdue
      have due19 : upd H7 due (.lst [.ref w1, .ref w2, .bl (decide (V.bl (upOf l (plc (nmOf l) nm 0)) = V.bl (upOf l (plc (nmOf l) nm 1)))), .ref c]) due = some (.lst [.ref w1, .ref w2, .bl (decide (V.bl (upOf l (plc (nmOf l) nm 0)) = V.bl (upOf l (plc (nmOf l) nm 1)))), .ref c]) := upd_same
      have xc19 := (x6.tr x7).tr x19
      have hw19 := x19 _ _ hw17
      have hv19 := x19 _ _ hw27
      generalize upd H7 due (.lst [.ref w1, .ref w2, .bl (decide (V.bl (upOf l (plc (nmOf l) nm 0)) = V.bl (upOf l (plc (nmOf l) nm 1)))), .ref c]) = H19 at x19 due19 xc19 hw19 hv19 ⊢
      have hc19 := xc19 _ _ hcc
      have e19 := e2.tr (qc.tr xc19)
      obtain ⟨f1, f2, f3, f4, _, _⟩ := (Sm.list (SmA.cons (Sm.tup (SmA.cons (Sm.nat hlo) (SmA.cons (Sm.nat hhi) SmA.nil))) (SmA.cons (Sm.tup (SmA.cons (Sm.bool (upOf l (plc (nmOf l) nm 0))) (SmA.cons (Sm.bool (upOf l (plc (nmOf l) nm 1))) SmA.nil)))
        (SmA.cons (Sm.bool (decide (V.bl (upOf l (plc (nmOf l) nm 0)) = V.bl (upOf l (plc (nmOf l) nm 1))))) (SmA.cons (Sm.list (SmA.strs bok)) (SmA.cons (Sm.bool (crossB (nmOf l) nm la)) SmA.nil)))))).fin (by decide) (by omega)
      refine ⟨_, rfl, .ref l3, _, rfl, .lst (SqL.of (xc19 _ _ hl3c)) (.cons (.tup (SqT.of (xc19 _ _ htpc)) (.cons (.int _) (.cons (.int _) .nil))) (.cons (.tup (SqT.of (xc19 _ _ htoc)) (.cons (.bl _) (.cons (.bl _) .nil))) (.cons (.bl _) (.cons (.lst (SqL.of (xc19 _ _ hnbc)) (dp_strs _)) (.cons (.bl _) .nil))))), f1, f2, f3, f4, ?_⟩
      have cw := cross_within (nm := nmOf l) (y := nm) (y2 := la)
      rw [← betw_count ok.two hnm hlm] at cw
      clear hw17 hw27 x19 hdue g7 x7 hw2 g6 hw16 x6 hw1 hcc hnbc htoc htpc hl3c gc
      -- the last one
      have lastOne : ∀ H', Ex H19 H' → Rd H' p (.dK kvs) := fun H' e => x0p _ (e19.tr e)
      refine ⟨_, rfl, _, rfl, _, rfl, p, kvs, rfl, lastOne _ (Ex.rfl' _), fun k1 hk1 => ?_⟩
      rw [kk]
      have xk : Ex H19 (upd H19 k1 (.lst ((fsts (nmOf l) (nmOf l).length).map V.str))) := Ex.new hk1
      have hkk : upd H19 k1 (.lst ((fsts (nmOf l) (nmOf l).length).map V.str)) k1 = some (.lst ((fsts (nmOf l) (nmOf l).length).map V.str)) := upd_same
      have due19 := xk _ _ due19
      have hw19 := xk _ _ hw19
      have hv19 := xk _ _ hv19
      have hc19 := xk _ _ hc19
      have e19 := e19.tr xk
      have lastOne : ∀ H', Ex (upd H19 k1 (.lst ((fsts (nmOf l) (nmOf l).length).map V.str))) H' → Rd H' p (.dK kvs) := fun H' e => lastOne _ (xk.tr e)
      generalize upd H19 k1 (.lst ((fsts (nmOf l) (nmOf l).length).map V.str)) = H19 at hkk due19 hw19 hv19 hc19 e19 lastOne ⊢
      refine ⟨_, rfl, k1, _, -1, _, rfl, rfl, SqL.of hkk, hla, rfl, _, rfl, ?_⟩
      refine ite2 (fun c1 => ?_) (fun c1 => ?_)
      · refine ⟨_, rfl, .inl ⟨rfl, _, SqL.of hc19⟩, _, rfl, p, kvs, rfl, lastOne _ (Ex.rfl' _), fun k2 hk2 => ?_⟩
        rw [kk]
        have xk : Ex H19 (upd H19 k2 (.lst ((fsts (nmOf l) (nmOf l).length).map V.str))) := Ex.new hk2
        have hkk : upd H19 k2 (.lst ((fsts (nmOf l) (nmOf l).length).map V.str)) k2 = some (.lst ((fsts (nmOf l) (nmOf l).length).map V.str)) := upd_same
        have due19 := xk _ _ due19
        have hw19 := xk _ _ hw19
        have hv19 := xk _ _ hv19
        have hc19 := xk _ _ hc19
        have e19 := e19.tr xk
        generalize upd H19 k2 (.lst ((fsts (nmOf l) (nmOf l).length).map V.str)) = H19 at hkk due19 hw19 hv19 hc19 e19 ⊢
        refine ⟨_, rfl, k2, _, -1, _, rfl, rfl, SqL.of hkk, hla, c, betw (nmOf l) nm, la, rfl, rfl, SqL.of hc19, rfl, ?_⟩
        have cv : decide (V.int (((betw (nmOf l) nm).count la : Nat) : Int) = V.int 1) = crossB (nmOf l) nm la := by
          rw [cw, c1, Bool.true_and, decI]
          exact decide_eq_decide.mpr (by omega)
        rw [cv]
        refine ⟨(by show 1 ≤ sizeLine; decide), fun p5 hp5 => ?_⟩
        have x20 : Ex H19 (upd H19 p5 (.lst [.bl (crossB (nmOf l) nm la)])) := Ex.new hp5
        have h20 : upd H19 p5 (.lst [.bl (crossB (nmOf l) nm la)]) p5 = some (.lst [.bl (crossB (nmOf l) nm la)]) := upd_same
        have due20 := x20 _ _ due19
        generalize upd H19 p5 (.lst [.bl (crossB (nmOf l) nm la)]) = H20 at x20 h20 due20 ⊢
        refine ⟨due, p5, _, _, rfl, rfl, due20, h20, (by show 5 ≤ sizeLine; decide), fun p6 hp6 => ?_⟩
        have x21 : Ex H20 (upd H20 p6 (.lst ([.ref w1, .ref w2, .bl (decide (V.bl (upOf l (plc (nmOf l) nm 0)) = V.bl (upOf l (plc (nmOf l) nm 1)))), .ref c] ++ [.bl (crossB (nmOf l) nm la)]))) := Ex.new hp6
        have h21 : upd H20 p6 (.lst ([.ref w1, .ref w2, .bl (decide (V.bl (upOf l (plc (nmOf l) nm 0)) = V.bl (upOf l (plc (nmOf l) nm 1)))), .ref c] ++ [.bl (crossB (nmOf l) nm la)])) p6 = some (.lst ([.ref w1, .ref w2, .bl (decide (V.bl (upOf l (plc (nmOf l) nm 0)) = V.bl (upOf l (plc (nmOf l) nm 1)))), .ref c] ++ [.bl (crossB (nmOf l) nm la)])) := upd_same
        generalize upd H20 p6 (.lst ([.ref w1, .ref w2, .bl (decide (V.bl (upOf l (plc (nmOf l) nm 0)) = V.bl (upOf l (plc (nmOf l) nm 1)))), .ref c] ++ [.bl (crossB (nmOf l) nm la)])) = H21 at x21 h21 ⊢
        have x1921 := x20.tr x21
        refine ⟨.ref p6, _, rfl, .lst (SqL.of h21) (.cons (.tup (SqT.of (x1921 _ _ hw19)) (.cons (.int _) (.cons (.int _) .nil))) (.cons (.tup (SqT.of (x1921 _ _ hv19)) (.cons (.bl _) (.cons (.bl _) .nil))) (.cons (.bl _) (.cons (.lst (SqL.of (x1921 _ _ hc19)) (dp_strs _)) (.cons (.bl _) .nil))))), f1, f2, f3, f4, rfl, _, rfl, ?_⟩
        rw [Gd.ne_self]
        exact iteF ⟨_, _, _, _, _, _, _, rfl, e19.tr x1921⟩
      · have cv : crossB (nmOf l) nm la = false := by rw [cw, Bool.eq_false_iff.mpr c1, Bool.false_and]
        rw [cv] at f1 f2 f3 f4 ⊢
        refine ⟨(by show 1 ≤ sizeLine; decide), fun p5 hp5 => ?_⟩
        have x20 : Ex H19 (upd H19 p5 (.lst [.bl false])) := Ex.new hp5
        have h20 : upd H19 p5 (.lst [.bl false]) p5 = some (.lst [.bl false]) := upd_same
        have due20 := x20 _ _ due19
        generalize upd H19 p5 (.lst [.bl false]) = H20 at x20 h20 due20 ⊢
        refine ⟨due, p5, _, _, rfl, rfl, due20, h20, (by show 5 ≤ sizeLine; decide), fun p6 hp6 => ?_⟩
        have x21 : Ex H20 (upd H20 p6 (.lst ([.ref w1, .ref w2, .bl (decide (V.bl (upOf l (plc (nmOf l) nm 0)) = V.bl (upOf l (plc (nmOf l) nm 1)))), .ref c] ++ [.bl false]))) := Ex.new hp6
        have h21 : upd H20 p6 (.lst ([.ref w1, .ref w2, .bl (decide (V.bl (upOf l (plc (nmOf l) nm 0)) = V.bl (upOf l (plc (nmOf l) nm 1)))), .ref c] ++ [.bl false])) p6 = some (.lst ([.ref w1, .ref w2, .bl (decide (V.bl (upOf l (plc (nmOf l) nm 0)) = V.bl (upOf l (plc (nmOf l) nm 1)))), .ref c] ++ [.bl false])) := upd_same
        generalize upd H20 p6 (.lst ([.ref w1, .ref w2, .bl (decide (V.bl (upOf l (plc (nmOf l) nm 0)) = V.bl (upOf l (plc (nmOf l) nm 1)))), .ref c] ++ [.bl false])) = H21 at x21 h21 ⊢
        have x1921 := x20.tr x21
        refine ⟨.ref p6, _, rfl, .lst (SqL.of h21) (.cons (.tup (SqT.of (x1921 _ _ hw19)) (.cons (.int _) (.cons (.int _) .nil))) (.cons (.tup (SqT.of (x1921 _ _ hv19)) (.cons (.bl _) (.cons (.bl _) .nil))) (.cons (.bl _) (.cons (.lst (SqL.of (x1921 _ _ hc19)) (dp_strs _)) (.cons (.bl _) .nil))))), f1, f2, f3, f4, rfl, _, rfl, ?_⟩
        rw [Gd.ne_self]
        exact iteF ⟨_, _, _, _, _, _, _, rfl, e19.tr x1921⟩
    · rintro σ H1 ⟨y2, y3, y4, y5, y6, y7, y8, rfl, e1⟩
      exact ⟨e1 _ _ h0, q _ (put_back hp fun b o n hb => e1 _ _ (b0 b o n hb))⟩
end

section
variable {P : Program} {w : World} {K : PySem.W.Frag} {mg : Str → Option Value} {base : Heap} {O : HO → Prop} {C_Strip : Addr}
theorem ok_law {f : Addr} {fd : FuncData} (F : Fun K "law" "law" s_law f fd) (T : Txt K mg) (TC_Strip : StripCls K C_Strip)
    {f_Strip_init : Addr} {fd_Strip_init : FuncData} (M_Strip : Mk K C_Strip f_Strip_init) (mc_Strip : mg "Strip" = some (.ref C_Strip)) (b_Strip_init : Binds K fd_Strip_init ["self", "row"] [])
    {f_L_box : Addr} {fd_L_box : FuncData} (D_L_box : Df K mg "_law_box" f_L_box fd_L_box ["_law_cell_here"])
    {f_L_row : Addr} {fd_L_row : FuncData} (D_L_row : Df K mg "_law_row" f_L_row fd_L_row ["_law_box_here", "_law_many"])
    {f_L_cell : Addr} {fd_L_cell : FuncData} (D_L_cell : Df K mg "_law_cell" f_L_cell fd_L_cell ["_law_script", "_law_k"])
    {f_L_fresh_right : Addr} {fd_L_fresh_right : FuncData} (D_L_fresh_right : Df K mg "_law_fresh_right" f_L_fresh_right fd_L_fresh_right ["_law_row_here", "_law_marks_here"])
    {f_L_take : Addr} {fd_L_take : FuncData} (D_L_take : Df K mg "_law_take" f_L_take fd_L_take ["_law_box_here", "_law_many"])
    {f_L_marks : Addr} {fd_L_marks : FuncData} (D_L_marks : Df K mg "_law_marks" f_L_marks fd_L_marks ["_law_row_here"])
    {f_L_told_right : Addr} {fd_L_told_right : FuncData} (D_L_told_right : Df K mg "_law_told_right" f_L_told_right fd_L_told_right ["_law_strip", "_law_row_here"])
    (G_L_cell : FnOk P w K mg base CX0 1 f_L_cell fd_L_cell ["_law_script", "_law_k"] (Gd.spCell K)) (G_L_box : FnOk P w K mg base CX0 1 f_L_box fd_L_box ["_law_cell_here"] spBox)
    (G_L_take : FnOk P w K mg base CX0 1 f_L_take fd_L_take ["_law_box_here", "_law_many"] spTake)
    (G_L_row : FnOk P w K mg base CX0 3 f_L_row fd_L_row ["_law_box_here", "_law_many"] (spRowS O))
    (G_L_marks : FnOk P w K mg base CX0 1 f_L_marks fd_L_marks ["_law_row_here"] (spMarks O))
    (G_Strip_init : FnOk P w K mg base CX0 7 f_Strip_init fd_Strip_init ["self", "row"] (spInit O C_Strip))
    (G_L_fresh_right : FnG P w K mg base CX0 9 f_L_fresh_right fd_L_fresh_right ["_law_row_here", "_law_marks_here"] (spFresh O C_Strip))
    (G_L_told_right : FnG P w K mg base CX0 8 f_L_told_right fd_L_told_right ["_law_strip", "_law_row_here"] (spTold O C_Strip)) :
    FnG P w K mg base CX0 10 f fd ["_law_script"] (spLaw K) := by
  refine okG F sc_law (fun vs H Q E h => ?_) (fun cdv A outer s H vs Q E hgd hr h => ?_)
  · obtain ⟨a, ns, rfl, _⟩ := h
    rfl
  · obtain ⟨sc, ns, rfl, hS, hns, q⟩ := h
    refine ⟨_, (pss_cons (ps_for PassesOwn.never rfl (pi_range1 (by rfl) T.z_range (pa_cons (pe_callB (call_max2 rfl) (by rfl) T.z_max (by decide +kernel) (pa_cons pe_int (pa_cons (pe_callB (call_min2 rfl) (by rfl) T.z_min (by decide +kernel) (pa_cons pe_int (pa_cons (pe_callB call_len_seq (by rfl) T.z_len (by decide +kernel) (pa_cons (pv 0) pa_nil)) pa_nil))) pa_nil))) pa_nil)) (pg_name (i := 1) sc_law.nd rfl (.inl rfl))
      (pss_cons (ps_set (i := 2) sc_law.nd rfl (.inl rfl) (pe_call G_L_box (hr.mono (by first | decide | omega)) rfl D_L_box.g D_L_box.k D_L_box.b .nil pass0 (pa_cons (pe_call G_L_cell (hr.mono (by first | decide | omega)) rfl D_L_cell.g D_L_cell.k D_L_cell.b .nil pass0 (pa_cons (pv 0) (pa_cons (pv 1) pa_nil))) pa_nil)))
    (C8.pss_cut (ps_set (i := 3) sc_law.nd rfl (.inl rfl) (pe_call G_L_row (hr.mono (by first | decide | omega)) rfl D_L_row.g D_L_row.k D_L_row.b .nil pass0 (pa_cons (pv 2) (pa_cons (pe_ifExp (pt_cmpR op_eq (pe_call G_L_take (hr.mono (by first | decide | omega)) rfl D_L_take.g D_L_take.k D_L_take.b .nil pass0 (pa_cons (pv 2) (pa_cons pe_int pa_nil))) pe_int (nomark _)) pe_int (pe_call G_L_take (hr.mono (by first | decide | omega)) rfl D_L_take.g D_L_take.k D_L_take.b .nil pass0 (pa_cons (pv 2) (pa_cons pe_int pa_nil)))) pa_nil))))
    (pss_cons (ps_set (i := 4) sc_law.nd rfl (.inl rfl) (pe_callTy call_list_of (by rfl) T.z_list (by decide +kernel) (pa_cons (pv 3) pa_nil)))
    (pss_cons (ps_par (i := 5) (j := 6) (by rfl) sc_law.nd rfl rfl (by decide) rfl rfl (pa_cons (pe_make M_Strip G_Strip_init (hr.mono (by first | decide | omega)) rfl mc_Strip b_Strip_init .nil pass0 (pa_cons (pv 4) pa_nil)) (pa_cons (pe_make M_Strip G_Strip_init (hr.mono (by first | decide | omega)) rfl mc_Strip b_Strip_init .nil pass0 (pa_cons (pe_callTy call_tuple_of (by rfl) T.z_tuple (by decide +kernel) (pa_cons (pv 3) pa_nil)) pa_nil)) pa_nil)) (by rfl))
    (pss_cons (ps_expr (pe_bm0 PySem.F.plainAttrs_list PySem.F.slot_list_clear PySem.F.type_list_clear mt_clear (pv 4)))
    (pss_cons (ps_if (pt_not (pt_val (pe_callG G_L_fresh_right hgd (hr.mono (by first | decide | omega)) rfl D_L_fresh_right.g D_L_fresh_right.k D_L_fresh_right.b .nil pass0 (pa_cons (pv 3) (pa_cons (pe_call G_L_marks (hr.mono (by first | decide | omega)) rfl D_L_marks.g D_L_marks.k D_L_marks.b .nil pass0 (pa_cons (pv 3) pa_nil)) pa_nil))))) (pss_one (ps_ret pe_bl)) pss_nil)
    (pss_one (ps_if (PW.pt (pw_or (pt_not (pt_val (pe_callG G_L_told_right hgd (hr.mono (by first | decide | omega)) rfl D_L_told_right.g D_L_told_right.k D_L_told_right.b .nil pass0 (pa_cons (pv 5) (pa_cons (pv 3) pa_nil))))) (pw_or1 (pt_not (pt_val (pe_callG G_L_told_right hgd (hr.mono (by first | decide | omega)) rfl D_L_told_right.g D_L_told_right.k D_L_told_right.b .nil pass0 (pa_cons (pv 6) (pa_cons (pv 3) pa_nil)))))))) (pss_one (ps_ret pe_bl)) pss_nil)))))))))
    (pss_one (ps_ret pe_bl))), ?_⟩
    have hturn := turns_le (n := ((ns.map V.int).length : Nat)) 6 (by omega) (by decide) (by decide)
    refine ⟨_, rfl, sc, _, rfl, .inl hS, _, _, rfl, _, _, rfl, _, rfl, by omega, by omega, ?_⟩
    refine for_range (fun i σ H' => ∃ y1 y2 y3 y4 y5 y6, σ = [some (.ref sc), y1, y2, y3, y4, y5, y6] ∧ Ex H H')
      ⟨none, none, none, none, none, none, rfl, Ex.rfl' H⟩ ?_ (fun σ H' _ => q _)
    · rintro i σ H0 hi ⟨y1, y2, y3, y4, y5, y6, rfl, e0⟩
      refine ⟨_, rfl, _, rfl, sc, ns, _, rfl, e0.l hS, hns, by omega, by omega, fun ci => ⟨ci, rfl, fun a x y ha hy0 hy1 => ?_⟩⟩
      have S0 : Sta H0 _ H0 (upd H0 a (.lst [.int x, .int y, .int 0])) a 0 := .start (Ex.new ha) ha ⟨x, y, 0, upd_same, hy0, hy1, by decide, by decide⟩
      generalize upd H0 a _ = H1 at S0 ⊢
      -- the row
      refine ⟨fun σ' H' => ∃ (v : V) (z : Str) (l : List (Mk × Str)) (G' : Hp), σ' = [some (.ref sc), some (.int (0 + (i : Nat))), some (.ref a), some v, y4, y5, y6] ∧ Sta H0 H1 G' H' a 4000 ∧ DV O G' v (.lst (toD z l)) ∧ OkS z l ∧ tot z l ≤ 2000, ?_, ?_⟩
      · refine ⟨_, rfl, _, rfl, a, 0, 6, rfl, S0.bx, by decide, by decide, by decide, fun r0 H2 k2 b2 r00 r01 => ?_⟩
        have S1 := S0.draw k2 b2
        refine ⟨rfl, _, rfl, ?_⟩
        rw [decI]
        refine ite2 (fun _ => ?_) (fun _ => ?_)
        · exact ⟨a, _, 12, H0, rfl, S1.bx, by decide, by decide, S1.ex, S1.ga, fun v z l G' H' s2 dv ok tt => ⟨v, z, l, G', rfl, (S1.tr s2).le (by decide), dv, ok, tt⟩⟩
        · refine ⟨_, rfl, a, _, 7, rfl, S1.bx, by decide, by decide, by decide, fun r1 H3 k3 b3 r10 r11 => ?_⟩
          obtain ⟨n, rfl⟩ := Int.eq_ofNat_of_zero_le r10
          have S2 := S1.draw k3 b3
          exact ⟨a, _, n, H0, rfl, S2.bx, by decide, by omega, S2.ex, S2.ga, fun v z l G' H' s2 dv ok tt => ⟨v, z, l, G', rfl, (S2.tr s2).le (by decide), dv, ok, tt⟩⟩
      rintro σ' H2 ⟨v, z, l, G2, rfl, S2, dv, ok, tt⟩
      cases dv with
      | @lst r rv _ rG dG hrl =>
      have rl : rv.length ≤ 49 := by
        have := ok.few
        rw [dG.length, toD_len]
        omega
      have r2 := S2.ex _ _ rG
      -- two strips of it
      refine ⟨_, rfl, r, rv, rfl, .inl (SqL.of r2), fun h hh => ?_⟩
      have x3 : Ex H2 (upd H2 h (.lst rv)) := Ex.new hh
      have h3 : upd H2 h (.lst rv) h = some (.lst rv) := upd_same
      have gh : G2 h = none := S2.ex.free hh
      have fh : H1 h = none := S2.kp.none S2.bx hh
      have nha := S2.bx.ne hh
      have nrh : r ≠ h := ne_of_none r2 hh
      generalize upd H2 h (.lst rv) = H3 at x3 h3 ⊢
      have S3 := S2.grow x3
      have dH : ∀ H', Ex H3 H' → DVs O H' rv (toD z l) := fun H' e => DVs.ex (S3.ex.tr e) _ _ dG
      refine ⟨_, rfl, fun x4 _ hx hdx _ => make_ok hx hdx (.inl (.lst h3 (dH _ (Ex.rfl' _)) (by omega))) ok fun H4 e4 S4 hid4 => ⟨rfl, ?_⟩⟩
      have hid4 := hid4 h rv h3
      refine ⟨_, rfl, r, rv, rfl, .inl ⟨SqL.of (e4 _ _ (x3 _ _ r2)), fun t ht => ?_⟩⟩
      have x5 : Ex H4 (upd H4 t (.tup rv)) := Ex.new ht
      have t5 : upd H4 t (.tup rv) t = some (.tup rv) := upd_same
      generalize upd H4 t (.tup rv) = H5 at x5 t5 ⊢
      have e5 := e4.tr x5
      refine fun x6 _ hx6 hdx6 _ => make_ok hx6 hdx6 (.inr (.tup t5 (dH _ e5) (by omega))) ok fun H6 e6 S6 hid6 => ⟨rfl, ?_⟩
      have hid6 := hid6 h rv (e5 _ _ h3)
      have e36 := e5.tr e6
      have h6 := e36 _ _ h3
      refine ⟨_, _, rfl, ?_⟩
      -- what was handed may be changed
      refine ⟨_, rfl, .inl ⟨rfl, _, SqL.of h6⟩, h, rv, rfl, rfl, h6, ?_⟩
      have S7 := (S3.grow e36).put gh nha fh (.lst [])
      have s4 : StripAt O C_Strip (upd H6 h (.lst [])) x4 z l := hid4.ex fun b o hb => by
        have ne : b ≠ h := fun e => by rw [e, hide_p] at hb; cases hb
        exact (upd_ne ne).trans (e6 _ _ (x5 _ _ (hide_ex _ _ hb)))
      have s6 : StripAt O C_Strip (upd H6 h (.lst [])) x6 z l := hid6.ex fun b o hb => by
        have ne : b ≠ h := fun e => by rw [e, hide_p] at hb; cases hb
        exact (upd_ne ne).trans (hide_ex _ _ hb)
      generalize upd H6 h (.lst []) = H7 at S7 s4 s6 ⊢
      clear h6 e36 hid6 hid4 S6 e6 hx6 hdx6 t5 x5 ht S4 e4 hx hdx dH S3 h3 x3 hh
      have r7 := S7.ex _ _ rG
      have d7 := DVs.ex S7.ex _ _ dG
      refine ⟨_, rfl, _, rfl, .ref r, z, l, rfl, .lst r7 d7 (by omega), by have := ok.few; omega, fun p kvs val Hm em hp hpm P hval => ?_⟩
      have em' := ex_hide em hp
      refine ⟨r, p, z, l, rv, kvs, hide p Hm, rfl, hide_ex, hide_p, em' _ _ r7, DVs.ex em' _ _ d7, ok, tt, MkT.of P ok.two hpm hval, hpm, fun H8 e8 => ⟨_, rfl, iteF ?_⟩⟩
      have e78 := em.tr e8
      refine ⟨_, rfl, _, rfl, x4, r, z, l, rv, rfl, s4.ex e78, e78 _ _ r7, DVs.ex e78 _ _ d7, tt, fun H9 e9 => ⟨_, rfl, iteF ?_⟩⟩
      have e79 := e78.tr e9
      refine ⟨_, rfl, _, rfl, x6, r, z, l, rv, rfl, s6.ex e79, e79 _ _ r7, DVs.ex e79 _ _ d7, tt, fun H10 e10 => ⟨_, rfl, iteF ?_⟩⟩
      exact ⟨_, _, _, _, _, _, rfl, e0.tr (S7.up.tr (S7.ex.tr (e79.tr e10)))⟩
end

theorem othNo {K : PySem.W.Frag} : OthOk K (fun _ => False) := fun _ _ _ h => h.elim
theorem all_mk {l : PySem.W.OpenLaw} {w : World} {K : PySem.W.Frag} {h : Heap} {mg : Str → Option Value} {fa C_Strip f_is_name f_is_piece f_is_marker f_has_row_length f_first_misfit f_check_items f_check_row f_places_by_name f_item_word f_row_words f_Strip_init f_Strip_row f_Strip_names f_Strip_pieces f_Stripcheck_name f_Stripupright f_Strip_places f_Strip_orientations f_Strip_is_direct f_Strip_crosses f_Strip_names_between f_Strip_len f_Strip_str f_Strip_repr f_L_cell f_L_box f_L_take f_L_names f_L_piece f_L_row f_L_marks f_L_text f_L_names_right f_L_told_right f_L_fresh_right f_law : Addr} (X : K.In h) (G : h.Ns mainGlobals mg) (hfa : mg "law" = some (.ref fa))
    {od_is_name an_is_name od_is_piece an_is_piece od_is_marker an_is_marker od_has_row_length an_has_row_length od_first_misfit an_first_misfit od_check_items an_check_items od_check_row an_check_row od_places_by_name an_places_by_name od_item_word an_item_word od_row_words an_row_words od_Strip_init an_Strip_init od_Strip_row an_Strip_row od_Strip_names an_Strip_names od_Strip_pieces an_Strip_pieces od_Stripcheck_name an_Stripcheck_name od_Stripupright an_Stripupright od_Strip_places an_Strip_places od_Strip_orientations an_Strip_orientations od_Strip_is_direct an_Strip_is_direct od_Strip_crosses an_Strip_crosses od_Strip_names_between an_Strip_names_between od_Strip_len an_Strip_len od_Strip_str an_Strip_str od_Strip_repr an_Strip_repr od_L_cell an_L_cell od_L_box an_L_box od_L_take an_L_take od_L_names an_L_names od_L_piece an_L_piece od_L_row an_L_row od_L_marks an_L_marks od_L_text an_L_text od_L_names_right an_L_names_right od_L_told_right an_L_told_right od_L_fresh_right an_L_fresh_right od_law an_law : Option Addr} {sl_is_name sl_is_piece sl_is_marker sl_has_row_length sl_first_misfit sl_check_items sl_check_row sl_places_by_name sl_item_word sl_row_words sl_Strip_init sl_Strip_row sl_Strip_names sl_Strip_pieces sl_Stripcheck_name sl_Stripupright sl_Strip_places sl_Strip_orientations sl_Strip_is_direct sl_Strip_crosses sl_Strip_names_between sl_Strip_len sl_Strip_str sl_Strip_repr sl_L_cell sl_L_box sl_L_take sl_L_names sl_L_piece sl_L_row sl_L_marks sl_L_text sl_L_names_right sl_L_told_right sl_L_fresh_right sl_law : Array (Option Value)}
    {oc_is_name kV_is_name dc_is_name pm_is_name cd_is_name ct_is_name oc_is_piece kV_is_piece dc_is_piece pm_is_piece cd_is_piece ct_is_piece oc_is_marker kV_is_marker dc_is_marker pm_is_marker cd_is_marker ct_is_marker oc_has_row_length kV_has_row_length dc_has_row_length pm_has_row_length cd_has_row_length ct_has_row_length oc_first_misfit kV_first_misfit dc_first_misfit pm_first_misfit cd_first_misfit ct_first_misfit oc_check_items kV_check_items dc_check_items pm_check_items cd_check_items ct_check_items oc_check_row kV_check_row dc_check_row pm_check_row cd_check_row ct_check_row oc_places_by_name kV_places_by_name dc_places_by_name pm_places_by_name cd_places_by_name ct_places_by_name oc_item_word kV_item_word dc_item_word pm_item_word cd_item_word ct_item_word oc_row_words kV_row_words dc_row_words pm_row_words cd_row_words ct_row_words oc_Strip_init kV_Strip_init dc_Strip_init pm_Strip_init cd_Strip_init ct_Strip_init oc_Strip_row kV_Strip_row dc_Strip_row pm_Strip_row cd_Strip_row ct_Strip_row oc_Strip_names kV_Strip_names dc_Strip_names pm_Strip_names cd_Strip_names ct_Strip_names oc_Strip_pieces kV_Strip_pieces dc_Strip_pieces pm_Strip_pieces cd_Strip_pieces ct_Strip_pieces oc_Stripcheck_name kV_Stripcheck_name dc_Stripcheck_name pm_Stripcheck_name cd_Stripcheck_name ct_Stripcheck_name oc_Stripupright kV_Stripupright dc_Stripupright pm_Stripupright cd_Stripupright ct_Stripupright oc_Strip_places kV_Strip_places dc_Strip_places pm_Strip_places cd_Strip_places ct_Strip_places oc_Strip_orientations kV_Strip_orientations dc_Strip_orientations pm_Strip_orientations cd_Strip_orientations ct_Strip_orientations oc_Strip_is_direct kV_Strip_is_direct dc_Strip_is_direct pm_Strip_is_direct cd_Strip_is_direct ct_Strip_is_direct oc_Strip_crosses kV_Strip_crosses dc_Strip_crosses pm_Strip_crosses cd_Strip_crosses ct_Strip_crosses oc_Strip_names_between kV_Strip_names_between dc_Strip_names_between pm_Strip_names_between cd_Strip_names_between ct_Strip_names_between oc_Strip_len kV_Strip_len dc_Strip_len pm_Strip_len cd_Strip_len ct_Strip_len oc_Strip_str kV_Strip_str dc_Strip_str pm_Strip_str cd_Strip_str ct_Strip_str oc_Strip_repr kV_Strip_repr dc_Strip_repr pm_Strip_repr cd_Strip_repr ct_Strip_repr oc_L_cell kV_L_cell dc_L_cell pm_L_cell cd_L_cell ct_L_cell oc_L_box kV_L_box dc_L_box pm_L_box cd_L_box ct_L_box oc_L_take kV_L_take dc_L_take pm_L_take cd_L_take ct_L_take oc_L_names kV_L_names dc_L_names pm_L_names cd_L_names ct_L_names oc_L_piece kV_L_piece dc_L_piece pm_L_piece cd_L_piece ct_L_piece oc_L_row kV_L_row dc_L_row pm_L_row cd_L_row ct_L_row oc_L_marks kV_L_marks dc_L_marks pm_L_marks cd_L_marks ct_L_marks oc_L_text kV_L_text dc_L_text pm_L_text cd_L_text ct_L_text oc_L_names_right kV_L_names_right dc_L_names_right pm_L_names_right cd_L_names_right ct_L_names_right oc_L_told_right kV_L_told_right dc_L_told_right pm_L_told_right cd_L_told_right ct_L_told_right oc_L_fresh_right kV_L_fresh_right dc_L_fresh_right pm_L_fresh_right cd_L_fresh_right ct_L_fresh_right oc_law kV_law dc_law pm_law cd_law ct_law : Value} {t_EMPTY_PIECE t_MOST_NAMES t_NAME_LETTERS : Tok}
    (a_C_Strip : PySem.W.nsIn K mainGlobals "Strip" = some (some (.ref C_Strip)))
    (pg_Strip : PySem.W.plainGet K C_Strip Str.empty = true)
    (hd_Strip : PySem.W.hasDictIn K C_Strip = true)
    (po_Strip : PySem.W.plainOver K C_Strip = true)
    (sa_Strip : PySem.W.findIn K (.ref C_Strip) "__setattr__" = some (some (.builtin "object.__setattr__")))
    (mk_Strip : PySem.W.makesIn K C_Strip = true)
    (kc_Strip : PySem.W.keepIn K (.ref C_Strip) = true)
    (fc_Strip : PySem.W.findIn K (.ref C_Strip) "__class__" = some (some (.builtin "object.__class__")))
    (sg_Strip : PySem.W.specialIn K (.builtin "object.__class__") "__get__" = some (some (.builtin "getset_descriptor.__get__")))
    (tk_Strip : PySem.W.takesIn K (.builtin "object.__class__") = some true)
    (mr_Strip : PySem.W.mroIn K C_Strip (.type "object") = some true)
    (ks_Strip : PySem.W.subIn K (.ref C_Strip) (.type "str") = some false)
    (kb_Strip : PySem.W.subIn K (.ref C_Strip) (.type "bool") = some false)
    (ki_Strip : PySem.W.subIn K (.ref C_Strip) (.type "int") = some false)
    (kt_Strip : PySem.W.subIn K (.ref C_Strip) (.type "tuple") = some false)
    (kl_Strip : PySem.W.subIn K (.ref C_Strip) (.type "list") = some false)
    (n_Strip_row : PySem.W.findIn K (.ref C_Strip) "_row" = some none)
    (n_Strip_places : PySem.W.findIn K (.ref C_Strip) "_places" = some none)
    (a_is_name : PySem.W.nsIn K mainGlobals "is_name" = some (some (.ref f_is_name)))
    (l_is_name : K.lookup f_is_name = some ⟨oc_is_name, od_is_name, .func (PySem.W.fnOf "is_name" "is_name" (defArgs s_is_name) (defBody s_is_name) (defScope s_is_name) .none kV_is_name dc_is_name pm_is_name an_is_name cd_is_name ct_is_name), sl_is_name⟩)
    (c_is_name : PySem.W.codeIn K cd_is_name "is_name" = true)
    (k_is_name : PySem.W.keepIn K (.ref f_is_name) = true)
    (a_is_piece : PySem.W.nsIn K mainGlobals "is_piece" = some (some (.ref f_is_piece)))
    (l_is_piece : K.lookup f_is_piece = some ⟨oc_is_piece, od_is_piece, .func (PySem.W.fnOf "is_piece" "is_piece" (defArgs s_is_piece) (defBody s_is_piece) (defScope s_is_piece) .none kV_is_piece dc_is_piece pm_is_piece an_is_piece cd_is_piece ct_is_piece), sl_is_piece⟩)
    (c_is_piece : PySem.W.codeIn K cd_is_piece "is_piece" = true)
    (k_is_piece : PySem.W.keepIn K (.ref f_is_piece) = true)
    (a_is_marker : PySem.W.nsIn K mainGlobals "is_marker" = some (some (.ref f_is_marker)))
    (l_is_marker : K.lookup f_is_marker = some ⟨oc_is_marker, od_is_marker, .func (PySem.W.fnOf "is_marker" "is_marker" (defArgs s_is_marker) (defBody s_is_marker) (defScope s_is_marker) .none kV_is_marker dc_is_marker pm_is_marker an_is_marker cd_is_marker ct_is_marker), sl_is_marker⟩)
    (c_is_marker : PySem.W.codeIn K cd_is_marker "is_marker" = true)
    (k_is_marker : PySem.W.keepIn K (.ref f_is_marker) = true)
    (a_has_row_length : PySem.W.nsIn K mainGlobals "has_row_length" = some (some (.ref f_has_row_length)))
    (l_has_row_length : K.lookup f_has_row_length = some ⟨oc_has_row_length, od_has_row_length, .func (PySem.W.fnOf "has_row_length" "has_row_length" (defArgs s_has_row_length) (defBody s_has_row_length) (defScope s_has_row_length) .none kV_has_row_length dc_has_row_length pm_has_row_length an_has_row_length cd_has_row_length ct_has_row_length), sl_has_row_length⟩)
    (c_has_row_length : PySem.W.codeIn K cd_has_row_length "has_row_length" = true)
    (k_has_row_length : PySem.W.keepIn K (.ref f_has_row_length) = true)
    (a_first_misfit : PySem.W.nsIn K mainGlobals "first_misfit" = some (some (.ref f_first_misfit)))
    (l_first_misfit : K.lookup f_first_misfit = some ⟨oc_first_misfit, od_first_misfit, .func (PySem.W.fnOf "first_misfit" "first_misfit" (defArgs s_first_misfit) (defBody s_first_misfit) (defScope s_first_misfit) .none kV_first_misfit dc_first_misfit pm_first_misfit an_first_misfit cd_first_misfit ct_first_misfit), sl_first_misfit⟩)
    (c_first_misfit : PySem.W.codeIn K cd_first_misfit "first_misfit" = true)
    (k_first_misfit : PySem.W.keepIn K (.ref f_first_misfit) = true)
    (a_check_items : PySem.W.nsIn K mainGlobals "check_items" = some (some (.ref f_check_items)))
    (l_check_items : K.lookup f_check_items = some ⟨oc_check_items, od_check_items, .func (PySem.W.fnOf "check_items" "check_items" (defArgs s_check_items) (defBody s_check_items) (defScope s_check_items) .none kV_check_items dc_check_items pm_check_items an_check_items cd_check_items ct_check_items), sl_check_items⟩)
    (c_check_items : PySem.W.codeIn K cd_check_items "check_items" = true)
    (k_check_items : PySem.W.keepIn K (.ref f_check_items) = true)
    (a_check_row : PySem.W.nsIn K mainGlobals "check_row" = some (some (.ref f_check_row)))
    (l_check_row : K.lookup f_check_row = some ⟨oc_check_row, od_check_row, .func (PySem.W.fnOf "check_row" "check_row" (defArgs s_check_row) (defBody s_check_row) (defScope s_check_row) .none kV_check_row dc_check_row pm_check_row an_check_row cd_check_row ct_check_row), sl_check_row⟩)
    (c_check_row : PySem.W.codeIn K cd_check_row "check_row" = true)
    (k_check_row : PySem.W.keepIn K (.ref f_check_row) = true)
    (a_places_by_name : PySem.W.nsIn K mainGlobals "places_by_name" = some (some (.ref f_places_by_name)))
    (l_places_by_name : K.lookup f_places_by_name = some ⟨oc_places_by_name, od_places_by_name, .func (PySem.W.fnOf "places_by_name" "places_by_name" (defArgs s_places_by_name) (defBody s_places_by_name) (defScope s_places_by_name) .none kV_places_by_name dc_places_by_name pm_places_by_name an_places_by_name cd_places_by_name ct_places_by_name), sl_places_by_name⟩)
    (c_places_by_name : PySem.W.codeIn K cd_places_by_name "places_by_name" = true)
    (k_places_by_name : PySem.W.keepIn K (.ref f_places_by_name) = true)
    (a_item_word : PySem.W.nsIn K mainGlobals "item_word" = some (some (.ref f_item_word)))
    (l_item_word : K.lookup f_item_word = some ⟨oc_item_word, od_item_word, .func (PySem.W.fnOf "item_word" "item_word" (defArgs s_item_word) (defBody s_item_word) (defScope s_item_word) .none kV_item_word dc_item_word pm_item_word an_item_word cd_item_word ct_item_word), sl_item_word⟩)
    (c_item_word : PySem.W.codeIn K cd_item_word "item_word" = true)
    (k_item_word : PySem.W.keepIn K (.ref f_item_word) = true)
    (a_row_words : PySem.W.nsIn K mainGlobals "row_words" = some (some (.ref f_row_words)))
    (l_row_words : K.lookup f_row_words = some ⟨oc_row_words, od_row_words, .func (PySem.W.fnOf "row_words" "row_words" (defArgs s_row_words) (defBody s_row_words) (defScope s_row_words) .none kV_row_words dc_row_words pm_row_words an_row_words cd_row_words ct_row_words), sl_row_words⟩)
    (c_row_words : PySem.W.codeIn K cd_row_words "row_words" = true)
    (k_row_words : PySem.W.keepIn K (.ref f_row_words) = true)
    (a_Strip_init : PySem.W.findIn K (.ref C_Strip) "__init__" = some (some (.ref f_Strip_init)))
    (i_Strip_init : PySem.W.isFn K (.ref f_Strip_init) = true)
    (l_Strip_init : K.lookup f_Strip_init = some ⟨oc_Strip_init, od_Strip_init, .func (PySem.W.fnOf "__init__" "Strip.__init__" (defArgs s_Strip_init) (defBody s_Strip_init) (defScope s_Strip_init) .none kV_Strip_init dc_Strip_init pm_Strip_init an_Strip_init cd_Strip_init ct_Strip_init), sl_Strip_init⟩)
    (c_Strip_init : PySem.W.codeIn K cd_Strip_init "Strip.__init__" = true)
    (k_Strip_init : PySem.W.keepIn K (.ref f_Strip_init) = true)
    (a_Strip_row : PySem.W.findIn K (.ref C_Strip) "row" = some (some (.ref f_Strip_row)))
    (i_Strip_row : PySem.W.isFn K (.ref f_Strip_row) = true)
    (l_Strip_row : K.lookup f_Strip_row = some ⟨oc_Strip_row, od_Strip_row, .func (PySem.W.fnOf "row" "Strip.row" (defArgs s_Strip_row) (defBody s_Strip_row) (defScope s_Strip_row) .none kV_Strip_row dc_Strip_row pm_Strip_row an_Strip_row cd_Strip_row ct_Strip_row), sl_Strip_row⟩)
    (c_Strip_row : PySem.W.codeIn K cd_Strip_row "Strip.row" = true)
    (k_Strip_row : PySem.W.keepIn K (.ref f_Strip_row) = true)
    (a_Strip_names : PySem.W.findIn K (.ref C_Strip) "names" = some (some (.ref f_Strip_names)))
    (i_Strip_names : PySem.W.isFn K (.ref f_Strip_names) = true)
    (l_Strip_names : K.lookup f_Strip_names = some ⟨oc_Strip_names, od_Strip_names, .func (PySem.W.fnOf "names" "Strip.names" (defArgs s_Strip_names) (defBody s_Strip_names) (defScope s_Strip_names) .none kV_Strip_names dc_Strip_names pm_Strip_names an_Strip_names cd_Strip_names ct_Strip_names), sl_Strip_names⟩)
    (c_Strip_names : PySem.W.codeIn K cd_Strip_names "Strip.names" = true)
    (k_Strip_names : PySem.W.keepIn K (.ref f_Strip_names) = true)
    (a_Strip_pieces : PySem.W.findIn K (.ref C_Strip) "pieces" = some (some (.ref f_Strip_pieces)))
    (i_Strip_pieces : PySem.W.isFn K (.ref f_Strip_pieces) = true)
    (l_Strip_pieces : K.lookup f_Strip_pieces = some ⟨oc_Strip_pieces, od_Strip_pieces, .func (PySem.W.fnOf "pieces" "Strip.pieces" (defArgs s_Strip_pieces) (defBody s_Strip_pieces) (defScope s_Strip_pieces) .none kV_Strip_pieces dc_Strip_pieces pm_Strip_pieces an_Strip_pieces cd_Strip_pieces ct_Strip_pieces), sl_Strip_pieces⟩)
    (c_Strip_pieces : PySem.W.codeIn K cd_Strip_pieces "Strip.pieces" = true)
    (k_Strip_pieces : PySem.W.keepIn K (.ref f_Strip_pieces) = true)
    (a_Stripcheck_name : PySem.W.findIn K (.ref C_Strip) "_check_name" = some (some (.ref f_Stripcheck_name)))
    (i_Stripcheck_name : PySem.W.isFn K (.ref f_Stripcheck_name) = true)
    (l_Stripcheck_name : K.lookup f_Stripcheck_name = some ⟨oc_Stripcheck_name, od_Stripcheck_name, .func (PySem.W.fnOf "_check_name" "Strip._check_name" (defArgs s_Stripcheck_name) (defBody s_Stripcheck_name) (defScope s_Stripcheck_name) .none kV_Stripcheck_name dc_Stripcheck_name pm_Stripcheck_name an_Stripcheck_name cd_Stripcheck_name ct_Stripcheck_name), sl_Stripcheck_name⟩)
    (c_Stripcheck_name : PySem.W.codeIn K cd_Stripcheck_name "Strip._check_name" = true)
    (k_Stripcheck_name : PySem.W.keepIn K (.ref f_Stripcheck_name) = true)
    (a_Stripupright : PySem.W.findIn K (.ref C_Strip) "_upright" = some (some (.ref f_Stripupright)))
    (i_Stripupright : PySem.W.isFn K (.ref f_Stripupright) = true)
    (l_Stripupright : K.lookup f_Stripupright = some ⟨oc_Stripupright, od_Stripupright, .func (PySem.W.fnOf "_upright" "Strip._upright" (defArgs s_Stripupright) (defBody s_Stripupright) (defScope s_Stripupright) .none kV_Stripupright dc_Stripupright pm_Stripupright an_Stripupright cd_Stripupright ct_Stripupright), sl_Stripupright⟩)
    (c_Stripupright : PySem.W.codeIn K cd_Stripupright "Strip._upright" = true)
    (k_Stripupright : PySem.W.keepIn K (.ref f_Stripupright) = true)
    (a_Strip_places : PySem.W.findIn K (.ref C_Strip) "places" = some (some (.ref f_Strip_places)))
    (i_Strip_places : PySem.W.isFn K (.ref f_Strip_places) = true)
    (l_Strip_places : K.lookup f_Strip_places = some ⟨oc_Strip_places, od_Strip_places, .func (PySem.W.fnOf "places" "Strip.places" (defArgs s_Strip_places) (defBody s_Strip_places) (defScope s_Strip_places) .none kV_Strip_places dc_Strip_places pm_Strip_places an_Strip_places cd_Strip_places ct_Strip_places), sl_Strip_places⟩)
    (c_Strip_places : PySem.W.codeIn K cd_Strip_places "Strip.places" = true)
    (k_Strip_places : PySem.W.keepIn K (.ref f_Strip_places) = true)
    (a_Strip_orientations : PySem.W.findIn K (.ref C_Strip) "orientations" = some (some (.ref f_Strip_orientations)))
    (i_Strip_orientations : PySem.W.isFn K (.ref f_Strip_orientations) = true)
    (l_Strip_orientations : K.lookup f_Strip_orientations = some ⟨oc_Strip_orientations, od_Strip_orientations, .func (PySem.W.fnOf "orientations" "Strip.orientations" (defArgs s_Strip_orientations) (defBody s_Strip_orientations) (defScope s_Strip_orientations) .none kV_Strip_orientations dc_Strip_orientations pm_Strip_orientations an_Strip_orientations cd_Strip_orientations ct_Strip_orientations), sl_Strip_orientations⟩)
    (c_Strip_orientations : PySem.W.codeIn K cd_Strip_orientations "Strip.orientations" = true)
    (k_Strip_orientations : PySem.W.keepIn K (.ref f_Strip_orientations) = true)
    (a_Strip_is_direct : PySem.W.findIn K (.ref C_Strip) "is_direct" = some (some (.ref f_Strip_is_direct)))
    (i_Strip_is_direct : PySem.W.isFn K (.ref f_Strip_is_direct) = true)
    (l_Strip_is_direct : K.lookup f_Strip_is_direct = some ⟨oc_Strip_is_direct, od_Strip_is_direct, .func (PySem.W.fnOf "is_direct" "Strip.is_direct" (defArgs s_Strip_is_direct) (defBody s_Strip_is_direct) (defScope s_Strip_is_direct) .none kV_Strip_is_direct dc_Strip_is_direct pm_Strip_is_direct an_Strip_is_direct cd_Strip_is_direct ct_Strip_is_direct), sl_Strip_is_direct⟩)
    (c_Strip_is_direct : PySem.W.codeIn K cd_Strip_is_direct "Strip.is_direct" = true)
    (k_Strip_is_direct : PySem.W.keepIn K (.ref f_Strip_is_direct) = true)
    (a_Strip_crosses : PySem.W.findIn K (.ref C_Strip) "crosses" = some (some (.ref f_Strip_crosses)))
    (i_Strip_crosses : PySem.W.isFn K (.ref f_Strip_crosses) = true)
    (l_Strip_crosses : K.lookup f_Strip_crosses = some ⟨oc_Strip_crosses, od_Strip_crosses, .func (PySem.W.fnOf "crosses" "Strip.crosses" (defArgs s_Strip_crosses) (defBody s_Strip_crosses) (defScope s_Strip_crosses) .none kV_Strip_crosses dc_Strip_crosses pm_Strip_crosses an_Strip_crosses cd_Strip_crosses ct_Strip_crosses), sl_Strip_crosses⟩)
    (c_Strip_crosses : PySem.W.codeIn K cd_Strip_crosses "Strip.crosses" = true)
    (k_Strip_crosses : PySem.W.keepIn K (.ref f_Strip_crosses) = true)
    (a_Strip_names_between : PySem.W.findIn K (.ref C_Strip) "names_between" = some (some (.ref f_Strip_names_between)))
    (i_Strip_names_between : PySem.W.isFn K (.ref f_Strip_names_between) = true)
    (l_Strip_names_between : K.lookup f_Strip_names_between = some ⟨oc_Strip_names_between, od_Strip_names_between, .func (PySem.W.fnOf "names_between" "Strip.names_between" (defArgs s_Strip_names_between) (defBody s_Strip_names_between) (defScope s_Strip_names_between) .none kV_Strip_names_between dc_Strip_names_between pm_Strip_names_between an_Strip_names_between cd_Strip_names_between ct_Strip_names_between), sl_Strip_names_between⟩)
    (c_Strip_names_between : PySem.W.codeIn K cd_Strip_names_between "Strip.names_between" = true)
    (k_Strip_names_between : PySem.W.keepIn K (.ref f_Strip_names_between) = true)
    (a_Strip_len : PySem.W.findIn K (.ref C_Strip) "__len__" = some (some (.ref f_Strip_len)))
    (i_Strip_len : PySem.W.isFn K (.ref f_Strip_len) = true)
    (l_Strip_len : K.lookup f_Strip_len = some ⟨oc_Strip_len, od_Strip_len, .func (PySem.W.fnOf "__len__" "Strip.__len__" (defArgs s_Strip_len) (defBody s_Strip_len) (defScope s_Strip_len) .none kV_Strip_len dc_Strip_len pm_Strip_len an_Strip_len cd_Strip_len ct_Strip_len), sl_Strip_len⟩)
    (c_Strip_len : PySem.W.codeIn K cd_Strip_len "Strip.__len__" = true)
    (k_Strip_len : PySem.W.keepIn K (.ref f_Strip_len) = true)
    (a_Strip_str : PySem.W.findIn K (.ref C_Strip) "__str__" = some (some (.ref f_Strip_str)))
    (i_Strip_str : PySem.W.isFn K (.ref f_Strip_str) = true)
    (l_Strip_str : K.lookup f_Strip_str = some ⟨oc_Strip_str, od_Strip_str, .func (PySem.W.fnOf "__str__" "Strip.__str__" (defArgs s_Strip_str) (defBody s_Strip_str) (defScope s_Strip_str) .none kV_Strip_str dc_Strip_str pm_Strip_str an_Strip_str cd_Strip_str ct_Strip_str), sl_Strip_str⟩)
    (c_Strip_str : PySem.W.codeIn K cd_Strip_str "Strip.__str__" = true)
    (k_Strip_str : PySem.W.keepIn K (.ref f_Strip_str) = true)
    (a_Strip_repr : PySem.W.findIn K (.ref C_Strip) "__repr__" = some (some (.ref f_Strip_repr)))
    (i_Strip_repr : PySem.W.isFn K (.ref f_Strip_repr) = true)
    (l_Strip_repr : K.lookup f_Strip_repr = some ⟨oc_Strip_repr, od_Strip_repr, .func (PySem.W.fnOf "__repr__" "Strip.__repr__" (defArgs s_Strip_repr) (defBody s_Strip_repr) (defScope s_Strip_repr) .none kV_Strip_repr dc_Strip_repr pm_Strip_repr an_Strip_repr cd_Strip_repr ct_Strip_repr), sl_Strip_repr⟩)
    (c_Strip_repr : PySem.W.codeIn K cd_Strip_repr "Strip.__repr__" = true)
    (k_Strip_repr : PySem.W.keepIn K (.ref f_Strip_repr) = true)
    (a_L_cell : PySem.W.nsIn K mainGlobals "_law_cell" = some (some (.ref f_L_cell)))
    (l_L_cell : K.lookup f_L_cell = some ⟨oc_L_cell, od_L_cell, .func (PySem.W.fnOf "_law_cell" "_law_cell" (defArgs s_L_cell) (defBody s_L_cell) (defScope s_L_cell) .none kV_L_cell dc_L_cell pm_L_cell an_L_cell cd_L_cell ct_L_cell), sl_L_cell⟩)
    (c_L_cell : PySem.W.codeIn K cd_L_cell "_law_cell" = true)
    (k_L_cell : PySem.W.keepIn K (.ref f_L_cell) = true)
    (a_L_box : PySem.W.nsIn K mainGlobals "_law_box" = some (some (.ref f_L_box)))
    (l_L_box : K.lookup f_L_box = some ⟨oc_L_box, od_L_box, .func (PySem.W.fnOf "_law_box" "_law_box" (defArgs s_L_box) (defBody s_L_box) (defScope s_L_box) .none kV_L_box dc_L_box pm_L_box an_L_box cd_L_box ct_L_box), sl_L_box⟩)
    (c_L_box : PySem.W.codeIn K cd_L_box "_law_box" = true)
    (k_L_box : PySem.W.keepIn K (.ref f_L_box) = true)
    (a_L_take : PySem.W.nsIn K mainGlobals "_law_take" = some (some (.ref f_L_take)))
    (l_L_take : K.lookup f_L_take = some ⟨oc_L_take, od_L_take, .func (PySem.W.fnOf "_law_take" "_law_take" (defArgs s_L_take) (defBody s_L_take) (defScope s_L_take) .none kV_L_take dc_L_take pm_L_take an_L_take cd_L_take ct_L_take), sl_L_take⟩)
    (c_L_take : PySem.W.codeIn K cd_L_take "_law_take" = true)
    (k_L_take : PySem.W.keepIn K (.ref f_L_take) = true)
    (a_L_names : PySem.W.nsIn K mainGlobals "_law_names" = some (some (.ref f_L_names)))
    (l_L_names : K.lookup f_L_names = some ⟨oc_L_names, od_L_names, .func (PySem.W.fnOf "_law_names" "_law_names" (defArgs s_L_names) (defBody s_L_names) (defScope s_L_names) .none kV_L_names dc_L_names pm_L_names an_L_names cd_L_names ct_L_names), sl_L_names⟩)
    (c_L_names : PySem.W.codeIn K cd_L_names "_law_names" = true)
    (k_L_names : PySem.W.keepIn K (.ref f_L_names) = true)
    (a_L_piece : PySem.W.nsIn K mainGlobals "_law_piece" = some (some (.ref f_L_piece)))
    (l_L_piece : K.lookup f_L_piece = some ⟨oc_L_piece, od_L_piece, .func (PySem.W.fnOf "_law_piece" "_law_piece" (defArgs s_L_piece) (defBody s_L_piece) (defScope s_L_piece) .none kV_L_piece dc_L_piece pm_L_piece an_L_piece cd_L_piece ct_L_piece), sl_L_piece⟩)
    (c_L_piece : PySem.W.codeIn K cd_L_piece "_law_piece" = true)
    (k_L_piece : PySem.W.keepIn K (.ref f_L_piece) = true)
    (a_L_row : PySem.W.nsIn K mainGlobals "_law_row" = some (some (.ref f_L_row)))
    (l_L_row : K.lookup f_L_row = some ⟨oc_L_row, od_L_row, .func (PySem.W.fnOf "_law_row" "_law_row" (defArgs s_L_row) (defBody s_L_row) (defScope s_L_row) .none kV_L_row dc_L_row pm_L_row an_L_row cd_L_row ct_L_row), sl_L_row⟩)
    (c_L_row : PySem.W.codeIn K cd_L_row "_law_row" = true)
    (k_L_row : PySem.W.keepIn K (.ref f_L_row) = true)
    (a_L_marks : PySem.W.nsIn K mainGlobals "_law_marks" = some (some (.ref f_L_marks)))
    (l_L_marks : K.lookup f_L_marks = some ⟨oc_L_marks, od_L_marks, .func (PySem.W.fnOf "_law_marks" "_law_marks" (defArgs s_L_marks) (defBody s_L_marks) (defScope s_L_marks) .none kV_L_marks dc_L_marks pm_L_marks an_L_marks cd_L_marks ct_L_marks), sl_L_marks⟩)
    (c_L_marks : PySem.W.codeIn K cd_L_marks "_law_marks" = true)
    (k_L_marks : PySem.W.keepIn K (.ref f_L_marks) = true)
    (a_L_text : PySem.W.nsIn K mainGlobals "_law_text" = some (some (.ref f_L_text)))
    (l_L_text : K.lookup f_L_text = some ⟨oc_L_text, od_L_text, .func (PySem.W.fnOf "_law_text" "_law_text" (defArgs s_L_text) (defBody s_L_text) (defScope s_L_text) .none kV_L_text dc_L_text pm_L_text an_L_text cd_L_text ct_L_text), sl_L_text⟩)
    (c_L_text : PySem.W.codeIn K cd_L_text "_law_text" = true)
    (k_L_text : PySem.W.keepIn K (.ref f_L_text) = true)
    (a_L_names_right : PySem.W.nsIn K mainGlobals "_law_names_right" = some (some (.ref f_L_names_right)))
    (l_L_names_right : K.lookup f_L_names_right = some ⟨oc_L_names_right, od_L_names_right, .func (PySem.W.fnOf "_law_names_right" "_law_names_right" (defArgs s_L_names_right) (defBody s_L_names_right) (defScope s_L_names_right) .none kV_L_names_right dc_L_names_right pm_L_names_right an_L_names_right cd_L_names_right ct_L_names_right), sl_L_names_right⟩)
    (c_L_names_right : PySem.W.codeIn K cd_L_names_right "_law_names_right" = true)
    (k_L_names_right : PySem.W.keepIn K (.ref f_L_names_right) = true)
    (a_L_told_right : PySem.W.nsIn K mainGlobals "_law_told_right" = some (some (.ref f_L_told_right)))
    (l_L_told_right : K.lookup f_L_told_right = some ⟨oc_L_told_right, od_L_told_right, .func (PySem.W.fnOf "_law_told_right" "_law_told_right" (defArgs s_L_told_right) (defBody s_L_told_right) (defScope s_L_told_right) .none kV_L_told_right dc_L_told_right pm_L_told_right an_L_told_right cd_L_told_right ct_L_told_right), sl_L_told_right⟩)
    (c_L_told_right : PySem.W.codeIn K cd_L_told_right "_law_told_right" = true)
    (k_L_told_right : PySem.W.keepIn K (.ref f_L_told_right) = true)
    (a_L_fresh_right : PySem.W.nsIn K mainGlobals "_law_fresh_right" = some (some (.ref f_L_fresh_right)))
    (l_L_fresh_right : K.lookup f_L_fresh_right = some ⟨oc_L_fresh_right, od_L_fresh_right, .func (PySem.W.fnOf "_law_fresh_right" "_law_fresh_right" (defArgs s_L_fresh_right) (defBody s_L_fresh_right) (defScope s_L_fresh_right) .none kV_L_fresh_right dc_L_fresh_right pm_L_fresh_right an_L_fresh_right cd_L_fresh_right ct_L_fresh_right), sl_L_fresh_right⟩)
    (c_L_fresh_right : PySem.W.codeIn K cd_L_fresh_right "_law_fresh_right" = true)
    (k_L_fresh_right : PySem.W.keepIn K (.ref f_L_fresh_right) = true)
    (a_law : PySem.W.nsIn K mainGlobals "law" = some (some (.ref f_law)))
    (l_law : K.lookup f_law = some ⟨oc_law, od_law, .func (PySem.W.fnOf "law" "law" (defArgs s_law) (defBody s_law) (defScope s_law) .none kV_law dc_law pm_law an_law cd_law ct_law), sl_law⟩)
    (c_law : PySem.W.codeIn K cd_law "law" = true)
    (k_law : PySem.W.keepIn K (.ref f_law) = true)
    (z_bool : PySem.W.nsIn K mainGlobals "bool" = some none)
    (z_enumerate : PySem.W.nsIn K mainGlobals "enumerate" = some none)
    (z_int : PySem.W.nsIn K mainGlobals "int" = some none)
    (z_isinstance : PySem.W.nsIn K mainGlobals "isinstance" = some none)
    (z_len : PySem.W.nsIn K mainGlobals "len" = some none)
    (z_list : PySem.W.nsIn K mainGlobals "list" = some none)
    (z_max : PySem.W.nsIn K mainGlobals "max" = some none)
    (z_min : PySem.W.nsIn K mainGlobals "min" = some none)
    (z_range : PySem.W.nsIn K mainGlobals "range" = some none)
    (z_repr : PySem.W.nsIn K mainGlobals "repr" = some none)
    (z_str : PySem.W.nsIn K mainGlobals "str" = some none)
    (z_tuple : PySem.W.nsIn K mainGlobals "tuple" = some none)
    (g_EMPTY_PIECE : PySem.W.nsIn K mainGlobals "EMPTY_PIECE" = some (some (.str "_" t_EMPTY_PIECE)))
    (g_MOST_NAMES : PySem.W.nsIn K mainGlobals "MOST_NAMES" = some (some (.int 12 t_MOST_NAMES)))
    (g_NAME_LETTERS : PySem.W.nsIn K mainGlobals "NAME_LETTERS" = some (some (.int 4 t_NAME_LETTERS)))
    : ∃ fd : FuncData, (∀ (s : Shared) (v : Value), BindsTo s fd ⟨[v], []⟩ [("_law_script", v)]) ∧ ∀ base : Heap, K.In base → base.Ns mainGlobals mg → FnG l.prog w K mg base CX0 10 fa fd ["_law_script"] (spLaw K) := by
  have e := hfa.symm.trans (PySem.W.mg_of X G a_law)
  cases e
  have T : Txt K mg := { z_bool := PySem.W.mg_none_of X G z_bool, z_enumerate := PySem.W.mg_none_of X G z_enumerate, z_int := PySem.W.mg_none_of X G z_int, z_isinstance := PySem.W.mg_none_of X G z_isinstance, z_len := PySem.W.mg_none_of X G z_len, z_list := PySem.W.mg_none_of X G z_list, z_max := PySem.W.mg_none_of X G z_max, z_min := PySem.W.mg_none_of X G z_min, z_range := PySem.W.mg_none_of X G z_range, z_repr := PySem.W.mg_none_of X G z_repr, z_str := PySem.W.mg_none_of X G z_str, z_tuple := PySem.W.mg_none_of X G z_tuple, g_EMPTY_PIECE := ⟨_, PySem.W.mg_of X G g_EMPTY_PIECE⟩, g_MOST_NAMES := ⟨_, PySem.W.mg_of X G g_MOST_NAMES⟩, g_NAME_LETTERS := ⟨_, PySem.W.mg_of X G g_NAME_LETTERS⟩ }
  have F_is_name := fun_mk (st := s_is_name) l_is_name c_is_name k_is_name
  have b_is_name := F_is_name.binds (ps := ["value"]) fun _ _ _ _ _ _ us hl => match us, hl with | [_], _ => rfl
  have D_is_name : Df K mg "is_name" f_is_name _ ["value"] := ⟨PySem.W.mg_of X G a_is_name, k_is_name, b_is_name⟩
  have F_is_piece := fun_mk (st := s_is_piece) l_is_piece c_is_piece k_is_piece
  have b_is_piece := F_is_piece.binds (ps := ["value"]) fun _ _ _ _ _ _ us hl => match us, hl with | [_], _ => rfl
  have D_is_piece : Df K mg "is_piece" f_is_piece _ ["value"] := ⟨PySem.W.mg_of X G a_is_piece, k_is_piece, b_is_piece⟩
  have F_is_marker := fun_mk (st := s_is_marker) l_is_marker c_is_marker k_is_marker
  have b_is_marker := F_is_marker.binds (ps := ["value"]) fun _ _ _ _ _ _ us hl => match us, hl with | [_], _ => rfl
  have D_is_marker : Df K mg "is_marker" f_is_marker _ ["value"] := ⟨PySem.W.mg_of X G a_is_marker, k_is_marker, b_is_marker⟩
  have F_has_row_length := fun_mk (st := s_has_row_length) l_has_row_length c_has_row_length k_has_row_length
  have b_has_row_length := F_has_row_length.binds (ps := ["value"]) fun _ _ _ _ _ _ us hl => match us, hl with | [_], _ => rfl
  have D_has_row_length : Df K mg "has_row_length" f_has_row_length _ ["value"] := ⟨PySem.W.mg_of X G a_has_row_length, k_has_row_length, b_has_row_length⟩
  have F_first_misfit := fun_mk (st := s_first_misfit) l_first_misfit c_first_misfit k_first_misfit
  have b_first_misfit := F_first_misfit.binds (ps := ["items"]) fun _ _ _ _ _ _ us hl => match us, hl with | [_], _ => rfl
  have D_first_misfit : Df K mg "first_misfit" f_first_misfit _ ["items"] := ⟨PySem.W.mg_of X G a_first_misfit, k_first_misfit, b_first_misfit⟩
  have F_check_items := fun_mk (st := s_check_items) l_check_items c_check_items k_check_items
  have b_check_items := F_check_items.binds (ps := ["items"]) fun _ _ _ _ _ _ us hl => match us, hl with | [_], _ => rfl
  have D_check_items : Df K mg "check_items" f_check_items _ ["items"] := ⟨PySem.W.mg_of X G a_check_items, k_check_items, b_check_items⟩
  have F_check_row := fun_mk (st := s_check_row) l_check_row c_check_row k_check_row
  have b_check_row := F_check_row.binds (ps := ["row"]) fun _ _ _ _ _ _ us hl => match us, hl with | [_], _ => rfl
  have D_check_row : Df K mg "check_row" f_check_row _ ["row"] := ⟨PySem.W.mg_of X G a_check_row, k_check_row, b_check_row⟩
  have F_places_by_name := fun_mk (st := s_places_by_name) l_places_by_name c_places_by_name k_places_by_name
  have b_places_by_name := F_places_by_name.binds (ps := ["row"]) fun _ _ _ _ _ _ us hl => match us, hl with | [_], _ => rfl
  have D_places_by_name : Df K mg "places_by_name" f_places_by_name _ ["row"] := ⟨PySem.W.mg_of X G a_places_by_name, k_places_by_name, b_places_by_name⟩
  have F_item_word := fun_mk (st := s_item_word) l_item_word c_item_word k_item_word
  have b_item_word := F_item_word.binds (ps := ["item"]) fun _ _ _ _ _ _ us hl => match us, hl with | [_], _ => rfl
  have D_item_word : Df K mg "item_word" f_item_word _ ["item"] := ⟨PySem.W.mg_of X G a_item_word, k_item_word, b_item_word⟩
  have F_row_words := fun_mk (st := s_row_words) l_row_words c_row_words k_row_words
  have b_row_words := F_row_words.binds (ps := ["row"]) fun _ _ _ _ _ _ us hl => match us, hl with | [_], _ => rfl
  have D_row_words : Df K mg "row_words" f_row_words _ ["row"] := ⟨PySem.W.mg_of X G a_row_words, k_row_words, b_row_words⟩
  have F_Strip_init := fun_mk (st := s_Strip_init) l_Strip_init c_Strip_init k_Strip_init
  have b_Strip_init := F_Strip_init.binds (ps := ["self", "row"]) fun _ _ _ _ _ _ us hl => match us, hl with | [_, _], _ => rfl
  have F_Strip_row := fun_mk (st := s_Strip_row) l_Strip_row c_Strip_row k_Strip_row
  have b_Strip_row := F_Strip_row.binds (ps := ["self"]) fun _ _ _ _ _ _ us hl => match us, hl with | [_], _ => rfl
  have D_Strip_row : Dm K C_Strip "row" f_Strip_row _ ["self"] := ⟨⟨a_Strip_row, i_Strip_row, k_Strip_row⟩, b_Strip_row⟩
  have F_Strip_names := fun_mk (st := s_Strip_names) l_Strip_names c_Strip_names k_Strip_names
  have b_Strip_names := F_Strip_names.binds (ps := ["self"]) fun _ _ _ _ _ _ us hl => match us, hl with | [_], _ => rfl
  have D_Strip_names : Dm K C_Strip "names" f_Strip_names _ ["self"] := ⟨⟨a_Strip_names, i_Strip_names, k_Strip_names⟩, b_Strip_names⟩
  have F_Strip_pieces := fun_mk (st := s_Strip_pieces) l_Strip_pieces c_Strip_pieces k_Strip_pieces
  have b_Strip_pieces := F_Strip_pieces.binds (ps := ["self"]) fun _ _ _ _ _ _ us hl => match us, hl with | [_], _ => rfl
  have D_Strip_pieces : Dm K C_Strip "pieces" f_Strip_pieces _ ["self"] := ⟨⟨a_Strip_pieces, i_Strip_pieces, k_Strip_pieces⟩, b_Strip_pieces⟩
  have F_Stripcheck_name := fun_mk (st := s_Stripcheck_name) l_Stripcheck_name c_Stripcheck_name k_Stripcheck_name
  have b_Stripcheck_name := F_Stripcheck_name.binds (ps := ["self", "name"]) fun _ _ _ _ _ _ us hl => match us, hl with | [_, _], _ => rfl
  have D_Stripcheck_name : Dm K C_Strip "_check_name" f_Stripcheck_name _ ["self", "name"] := ⟨⟨a_Stripcheck_name, i_Stripcheck_name, k_Stripcheck_name⟩, b_Stripcheck_name⟩
  have F_Stripupright := fun_mk (st := s_Stripupright) l_Stripupright c_Stripupright k_Stripupright
  have b_Stripupright := F_Stripupright.binds (ps := ["self", "place"]) fun _ _ _ _ _ _ us hl => match us, hl with | [_, _], _ => rfl
  have D_Stripupright : Dm K C_Strip "_upright" f_Stripupright _ ["self", "place"] := ⟨⟨a_Stripupright, i_Stripupright, k_Stripupright⟩, b_Stripupright⟩
  have F_Strip_places := fun_mk (st := s_Strip_places) l_Strip_places c_Strip_places k_Strip_places
  have b_Strip_places := F_Strip_places.binds (ps := ["self", "name"]) fun _ _ _ _ _ _ us hl => match us, hl with | [_, _], _ => rfl
  have D_Strip_places : Dm K C_Strip "places" f_Strip_places _ ["self", "name"] := ⟨⟨a_Strip_places, i_Strip_places, k_Strip_places⟩, b_Strip_places⟩
  have F_Strip_orientations := fun_mk (st := s_Strip_orientations) l_Strip_orientations c_Strip_orientations k_Strip_orientations
  have b_Strip_orientations := F_Strip_orientations.binds (ps := ["self", "name"]) fun _ _ _ _ _ _ us hl => match us, hl with | [_, _], _ => rfl
  have D_Strip_orientations : Dm K C_Strip "orientations" f_Strip_orientations _ ["self", "name"] := ⟨⟨a_Strip_orientations, i_Strip_orientations, k_Strip_orientations⟩, b_Strip_orientations⟩
  have F_Strip_is_direct := fun_mk (st := s_Strip_is_direct) l_Strip_is_direct c_Strip_is_direct k_Strip_is_direct
  have b_Strip_is_direct := F_Strip_is_direct.binds (ps := ["self", "name"]) fun _ _ _ _ _ _ us hl => match us, hl with | [_, _], _ => rfl
  have D_Strip_is_direct : Dm K C_Strip "is_direct" f_Strip_is_direct _ ["self", "name"] := ⟨⟨a_Strip_is_direct, i_Strip_is_direct, k_Strip_is_direct⟩, b_Strip_is_direct⟩
  have F_Strip_crosses := fun_mk (st := s_Strip_crosses) l_Strip_crosses c_Strip_crosses k_Strip_crosses
  have b_Strip_crosses := F_Strip_crosses.binds (ps := ["self", "one", "other"]) fun _ _ _ _ _ _ us hl => match us, hl with | [_, _, _], _ => rfl
  have D_Strip_crosses : Dm K C_Strip "crosses" f_Strip_crosses _ ["self", "one", "other"] := ⟨⟨a_Strip_crosses, i_Strip_crosses, k_Strip_crosses⟩, b_Strip_crosses⟩
  have F_Strip_names_between := fun_mk (st := s_Strip_names_between) l_Strip_names_between c_Strip_names_between k_Strip_names_between
  have b_Strip_names_between := F_Strip_names_between.binds (ps := ["self", "name"]) fun _ _ _ _ _ _ us hl => match us, hl with | [_, _], _ => rfl
  have D_Strip_names_between : Dm K C_Strip "names_between" f_Strip_names_between _ ["self", "name"] := ⟨⟨a_Strip_names_between, i_Strip_names_between, k_Strip_names_between⟩, b_Strip_names_between⟩
  have F_Strip_len := fun_mk (st := s_Strip_len) l_Strip_len c_Strip_len k_Strip_len
  have b_Strip_len := F_Strip_len.binds (ps := ["self"]) fun _ _ _ _ _ _ us hl => match us, hl with | [_], _ => rfl
  have D_Strip_len : Dm K C_Strip "__len__" f_Strip_len _ ["self"] := ⟨⟨a_Strip_len, i_Strip_len, k_Strip_len⟩, b_Strip_len⟩
  have F_Strip_str := fun_mk (st := s_Strip_str) l_Strip_str c_Strip_str k_Strip_str
  have b_Strip_str := F_Strip_str.binds (ps := ["self"]) fun _ _ _ _ _ _ us hl => match us, hl with | [_], _ => rfl
  have D_Strip_str : Dm K C_Strip "__str__" f_Strip_str _ ["self"] := ⟨⟨a_Strip_str, i_Strip_str, k_Strip_str⟩, b_Strip_str⟩
  have F_Strip_repr := fun_mk (st := s_Strip_repr) l_Strip_repr c_Strip_repr k_Strip_repr
  have b_Strip_repr := F_Strip_repr.binds (ps := ["self"]) fun _ _ _ _ _ _ us hl => match us, hl with | [_], _ => rfl
  have D_Strip_repr : Dm K C_Strip "__repr__" f_Strip_repr _ ["self"] := ⟨⟨a_Strip_repr, i_Strip_repr, k_Strip_repr⟩, b_Strip_repr⟩
  have F_L_cell := fun_mk (st := s_L_cell) l_L_cell c_L_cell k_L_cell
  have b_L_cell := F_L_cell.binds (ps := ["_law_script", "_law_k"]) fun _ _ _ _ _ _ us hl => match us, hl with | [_, _], _ => rfl
  have D_L_cell : Df K mg "_law_cell" f_L_cell _ ["_law_script", "_law_k"] := ⟨PySem.W.mg_of X G a_L_cell, k_L_cell, b_L_cell⟩
  have F_L_box := fun_mk (st := s_L_box) l_L_box c_L_box k_L_box
  have b_L_box := F_L_box.binds (ps := ["_law_cell_here"]) fun _ _ _ _ _ _ us hl => match us, hl with | [_], _ => rfl
  have D_L_box : Df K mg "_law_box" f_L_box _ ["_law_cell_here"] := ⟨PySem.W.mg_of X G a_L_box, k_L_box, b_L_box⟩
  have F_L_take := fun_mk (st := s_L_take) l_L_take c_L_take k_L_take
  have b_L_take := F_L_take.binds (ps := ["_law_box_here", "_law_many"]) fun _ _ _ _ _ _ us hl => match us, hl with | [_, _], _ => rfl
  have D_L_take : Df K mg "_law_take" f_L_take _ ["_law_box_here", "_law_many"] := ⟨PySem.W.mg_of X G a_L_take, k_L_take, b_L_take⟩
  have F_L_names := fun_mk (st := s_L_names) l_L_names c_L_names k_L_names
  have b_L_names := F_L_names.binds (ps := ["_law_box_here", "_law_many"]) fun _ _ _ _ _ _ us hl => match us, hl with | [_, _], _ => rfl
  have D_L_names : Df K mg "_law_names" f_L_names _ ["_law_box_here", "_law_many"] := ⟨PySem.W.mg_of X G a_L_names, k_L_names, b_L_names⟩
  have F_L_piece := fun_mk (st := s_L_piece) l_L_piece c_L_piece k_L_piece
  have b_L_piece := F_L_piece.binds (ps := ["_law_box_here"]) fun _ _ _ _ _ _ us hl => match us, hl with | [_], _ => rfl
  have D_L_piece : Df K mg "_law_piece" f_L_piece _ ["_law_box_here"] := ⟨PySem.W.mg_of X G a_L_piece, k_L_piece, b_L_piece⟩
  have F_L_row := fun_mk (st := s_L_row) l_L_row c_L_row k_L_row
  have b_L_row := F_L_row.binds (ps := ["_law_box_here", "_law_many"]) fun _ _ _ _ _ _ us hl => match us, hl with | [_, _], _ => rfl
  have D_L_row : Df K mg "_law_row" f_L_row _ ["_law_box_here", "_law_many"] := ⟨PySem.W.mg_of X G a_L_row, k_L_row, b_L_row⟩
  have F_L_marks := fun_mk (st := s_L_marks) l_L_marks c_L_marks k_L_marks
  have b_L_marks := F_L_marks.binds (ps := ["_law_row_here"]) fun _ _ _ _ _ _ us hl => match us, hl with | [_], _ => rfl
  have D_L_marks : Df K mg "_law_marks" f_L_marks _ ["_law_row_here"] := ⟨PySem.W.mg_of X G a_L_marks, k_L_marks, b_L_marks⟩
  have F_L_text := fun_mk (st := s_L_text) l_L_text c_L_text k_L_text
  have b_L_text := F_L_text.binds (ps := ["_law_row_here"]) fun _ _ _ _ _ _ us hl => match us, hl with | [_], _ => rfl
  have D_L_text : Df K mg "_law_text" f_L_text _ ["_law_row_here"] := ⟨PySem.W.mg_of X G a_L_text, k_L_text, b_L_text⟩
  have F_L_names_right := fun_mk (st := s_L_names_right) l_L_names_right c_L_names_right k_L_names_right
  have b_L_names_right := F_L_names_right.binds (ps := ["_law_strip", "_law_row_here", "_law_marks_here"]) fun _ _ _ _ _ _ us hl => match us, hl with | [_, _, _], _ => rfl
  have D_L_names_right : Df K mg "_law_names_right" f_L_names_right _ ["_law_strip", "_law_row_here", "_law_marks_here"] := ⟨PySem.W.mg_of X G a_L_names_right, k_L_names_right, b_L_names_right⟩
  have F_L_told_right := fun_mk (st := s_L_told_right) l_L_told_right c_L_told_right k_L_told_right
  have b_L_told_right := F_L_told_right.binds (ps := ["_law_strip", "_law_row_here"]) fun _ _ _ _ _ _ us hl => match us, hl with | [_, _], _ => rfl
  have D_L_told_right : Df K mg "_law_told_right" f_L_told_right _ ["_law_strip", "_law_row_here"] := ⟨PySem.W.mg_of X G a_L_told_right, k_L_told_right, b_L_told_right⟩
  have F_L_fresh_right := fun_mk (st := s_L_fresh_right) l_L_fresh_right c_L_fresh_right k_L_fresh_right
  have b_L_fresh_right := F_L_fresh_right.binds (ps := ["_law_row_here", "_law_marks_here"]) fun _ _ _ _ _ _ us hl => match us, hl with | [_, _], _ => rfl
  have D_L_fresh_right : Df K mg "_law_fresh_right" f_L_fresh_right _ ["_law_row_here", "_law_marks_here"] := ⟨PySem.W.mg_of X G a_L_fresh_right, k_L_fresh_right, b_L_fresh_right⟩
  have F_law := fun_mk (st := s_law) l_law c_law k_law
  have M_Strip : Mk K C_Strip f_Strip_init := ⟨mk_Strip, a_Strip_init, i_Strip_init, kc_Strip⟩
  have mc_Strip := PySem.W.mg_of X G a_C_Strip
  have cls_Strip : Cls K C_Strip := ⟨pg_Strip, hd_Strip, po_Strip, sa_Strip⟩
  refine ⟨PySem.W.fnOf "law" "law" (defArgs s_law) (defBody s_law) (defScope s_law) .none kV_law dc_law pm_law an_law cd_law ct_law, fun s v => .of_eq rfl, fun base _ _ => ?_⟩
  have hO := othNo (K := K)
  have TC : StripCls K C_Strip := ⟨cls_Strip, n_Strip_row, n_Strip_places⟩
  have G_cell := ok_cell (P := l.prog) (w := w) (base := base) F_L_cell T
  have G_box := ok_box (P := l.prog) (w := w) (base := base) F_L_box T
  have G_take := ok_take (P := l.prog) (w := w) (base := base) F_L_take T
  have G_names := ok_names (P := l.prog) (w := w) (base := base) F_L_names T (D_L_take := D_L_take) G_take
  have G_piece := ok_piece (P := l.prog) (w := w) (base := base) F_L_piece T (D_L_take := D_L_take) G_take
  have G_row := ok_rowS (P := l.prog) (w := w) (base := base) (O := fun _ => False) F_L_row T (D_L_names := D_L_names) (D_L_piece := D_L_piece) (D_L_take := D_L_take) G_take G_names G_piece
  have G_is_piece := ok_is_piece (P := l.prog) (w := w) (base := base) F_is_piece T hO
  have G_is_name := ok_is_name (P := l.prog) (w := w) (base := base) F_is_name T hO (D_is_piece := D_is_piece) G_is_piece
  have G_is_marker := ok_is_marker (P := l.prog) (w := w) (base := base) F_is_marker T hO (D_is_name := D_is_name) G_is_name
  have G_hrl := ok_has_row_length (P := l.prog) (w := w) (base := base) F_has_row_length T hO
  have G_misfit := ok_first_misfit (P := l.prog) (w := w) (base := base) F_first_misfit T hO (D_is_piece := D_is_piece) (D_is_marker := D_is_marker) G_is_piece G_is_marker
  have G_check_items := ok_check_items (P := l.prog) (w := w) (base := base) F_check_items T (D_first_misfit := D_first_misfit) G_misfit
  have G_check_row := ok_check_row (P := l.prog) (w := w) (base := base) F_check_row T (D_has_row_length := D_has_row_length) (D_check_items := D_check_items) G_hrl G_check_items
  have G_places_by := ok_places (P := l.prog) (w := w) (base := base) (O := fun _ => False) F_places_by_name T
  have G_init := ok_strip_init (P := l.prog) (w := w) (base := base) F_Strip_init T TC (D_check_row := D_check_row) (D_places_by_name := D_places_by_name) G_check_row G_places_by
  have G_srow := ok_strip_row (P := l.prog) (w := w) (base := base) (O := fun _ => False) F_Strip_row T TC
  have G_snames := ok_strip_names (P := l.prog) (w := w) (base := base) (O := fun _ => False) F_Strip_names T TC
  have G_spieces := ok_strip_pieces (P := l.prog) (w := w) (base := base) (O := fun _ => False) F_Strip_pieces T TC
  have G_check := ok_strip_check (P := l.prog) (w := w) (base := base) F_Stripcheck_name T TC (D_is_name := D_is_name) G_is_name
  have G_splaces := ok_strip_places (P := l.prog) (w := w) (base := base) F_Strip_places T TC (D_Stripcheck_name := D_Stripcheck_name) G_check
  have G_up := ok_strip_upright (P := l.prog) (w := w) (base := base) (O := fun _ => False) F_Stripupright T TC
  have G_orient := ok_strip_orient (P := l.prog) (w := w) (base := base) F_Strip_orientations T TC (D_Stripcheck_name := D_Stripcheck_name) (D_Stripupright := D_Stripupright) G_check G_up
  have G_direct := ok_strip_direct (P := l.prog) (w := w) (base := base) F_Strip_is_direct T TC (D_Strip_orientations := D_Strip_orientations) G_orient
  have G_crosses := ok_strip_crosses (P := l.prog) (w := w) (base := base) F_Strip_crosses T TC (D_Stripcheck_name := D_Stripcheck_name) G_check
  have G_between := ok_strip_between (P := l.prog) (w := w) (base := base) F_Strip_names_between T TC (D_Stripcheck_name := D_Stripcheck_name) G_check
  have G_word := ok_item_word (P := l.prog) (w := w) (base := base) F_item_word T hO
  have G_words := ok_row_words (P := l.prog) (w := w) (base := base) F_row_words T (D_item_word := D_item_word) G_word
  have G_slen := ok_strip_len (P := l.prog) (w := w) (base := base) (O := fun _ => False) F_Strip_len T TC
  have G_sstr := ok_strip_str (P := l.prog) (w := w) (base := base) F_Strip_str T TC (D_row_words := D_row_words) G_words
  have G_srepr := ok_strip_repr (P := l.prog) (w := w) (base := base) F_Strip_repr T (D_Strip_str := D_Strip_str) G_sstr
  have G_marks := ok_marks (P := l.prog) (w := w) (base := base) (O := fun _ => False) F_L_marks T
  have G_text := ok_text (P := l.prog) (w := w) (base := base) F_L_text T hO
  have G_nr := ok_names_right (P := l.prog) (w := w) (base := base) F_L_names_right T TC (D_Strip_places := D_Strip_places) (D_Strip_orientations := D_Strip_orientations) (D_Strip_is_direct := D_Strip_is_direct) (D_Strip_names_between := D_Strip_names_between) (D_Strip_crosses := D_Strip_crosses) G_splaces G_orient G_direct G_between G_crosses
  have G_told := ok_told_right (P := l.prog) (w := w) (base := base) F_L_told_right T TC (D_L_marks := D_L_marks) (D_L_text := D_L_text) (D_L_names_right := D_L_names_right) (D_Strip_row := D_Strip_row) (D_Strip_names := D_Strip_names) (D_Strip_pieces := D_Strip_pieces) (D_Strip_len := D_Strip_len) (D_Strip_str := D_Strip_str) (D_Strip_repr := D_Strip_repr) G_marks G_text G_srow G_snames G_spieces G_slen G_sstr G_srepr G_nr
  have G_fresh := ok_fresh_right (P := l.prog) (w := w) (base := base) F_L_fresh_right T TC (M_Strip := M_Strip) (mc_Strip := mc_Strip) (b_Strip_init := b_Strip_init) (D_L_text := D_L_text) (D_Strip_pieces := D_Strip_pieces) (D_Strip_len := D_Strip_len) (D_Strip_str := D_Strip_str) (D_Strip_places := D_Strip_places) (D_Strip_orientations := D_Strip_orientations) (D_Strip_is_direct := D_Strip_is_direct) (D_Strip_names_between := D_Strip_names_between) (D_Strip_crosses := D_Strip_crosses) G_init G_text G_spieces G_slen G_sstr G_splaces G_orient G_direct G_between G_crosses
  exact ok_law F_law T TC (M_Strip := M_Strip) (mc_Strip := mc_Strip) (b_Strip_init := b_Strip_init) (D_L_box := D_L_box) (D_L_cell := D_L_cell) (D_L_row := D_L_row) (D_L_take := D_L_take) (D_L_marks := D_L_marks) (D_L_fresh_right := D_L_fresh_right) (D_L_told_right := D_L_told_right) G_cell G_box G_take G_row G_marks G_init G_fresh G_told
end MS
open PySem PySem.W PyProof.Rows in
set_option maxRecDepth 100000 in
set_option maxHeartbeats 0 in
theorem PySem.Challenge.cw_markersplice_k06_strip_accessors_holds : PySem.Challenge.rw_markersplice_k06_strip_accessors.Holds := by
  w_on; o_law; k_head; (case hw => w_witness2)
  k_fill
  refine Gd.walkG (l := PySem.Challenge.rw_markersplice_k06_strip_accessors) (k := 10) (x := "_law_script") (sp := Gd.spLaw) rfl (by decide) rfl ⟨rfl, by decide, by decide⟩ (fun w h Y => PySem.W.kIn_of Y) ?F (fun K H a ns hl _ hS => ⟨a, ns, rfl, hS, hl, fun _ => rfl⟩)
  case F =>
    intro w mg fa h KX G hmg
    refine' MS.all_mk KX G hmg ?a_C_Strip ?pg_Strip ?hd_Strip ?po_Strip ?sa_Strip ?mk_Strip ?kc_Strip ?fc_Strip ?sg_Strip ?tk_Strip ?mr_Strip ?ks_Strip ?kb_Strip ?ki_Strip ?kt_Strip ?kl_Strip ?n_Strip_row ?n_Strip_places ?a_is_name ?l_is_name ?c_is_name ?k_is_name ?a_is_piece ?l_is_piece ?c_is_piece ?k_is_piece ?a_is_marker ?l_is_marker ?c_is_marker ?k_is_marker ?a_has_row_length ?l_has_row_length ?c_has_row_length ?k_has_row_length ?a_first_misfit ?l_first_misfit ?c_first_misfit ?k_first_misfit ?a_check_items ?l_check_items ?c_check_items ?k_check_items ?a_check_row ?l_check_row ?c_check_row ?k_check_row ?a_places_by_name ?l_places_by_name ?c_places_by_name ?k_places_by_name ?a_item_word ?l_item_word ?c_item_word ?k_item_word ?a_row_words ?l_row_words ?c_row_words ?k_row_words ?a_Strip_init ?i_Strip_init ?l_Strip_init ?c_Strip_init ?k_Strip_init ?a_Strip_row ?i_Strip_row ?l_Strip_row ?c_Strip_row ?k_Strip_row ?a_Strip_names ?i_Strip_names ?l_Strip_names ?c_Strip_names ?k_Strip_names ?a_Strip_pieces ?i_Strip_pieces ?l_Strip_pieces ?c_Strip_pieces ?k_Strip_pieces ?a_Stripcheck_name ?i_Stripcheck_name ?l_Stripcheck_name ?c_Stripcheck_name ?k_Stripcheck_name ?a_Stripupright ?i_Stripupright ?l_Stripupright ?c_Stripupright ?k_Stripupright ?a_Strip_places ?i_Strip_places ?l_Strip_places ?c_Strip_places ?k_Strip_places ?a_Strip_orientations ?i_Strip_orientations ?l_Strip_orientations ?c_Strip_orientations ?k_Strip_orientations ?a_Strip_is_direct ?i_Strip_is_direct ?l_Strip_is_direct ?c_Strip_is_direct ?k_Strip_is_direct ?a_Strip_crosses ?i_Strip_crosses ?l_Strip_crosses ?c_Strip_crosses ?k_Strip_crosses ?a_Strip_names_between ?i_Strip_names_between ?l_Strip_names_between ?c_Strip_names_between ?k_Strip_names_between ?a_Strip_len ?i_Strip_len ?l_Strip_len ?c_Strip_len ?k_Strip_len ?a_Strip_str ?i_Strip_str ?l_Strip_str ?c_Strip_str ?k_Strip_str ?a_Strip_repr ?i_Strip_repr ?l_Strip_repr ?c_Strip_repr ?k_Strip_repr ?a_L_cell ?l_L_cell ?c_L_cell ?k_L_cell ?a_L_box ?l_L_box ?c_L_box ?k_L_box ?a_L_take ?l_L_take ?c_L_take ?k_L_take ?a_L_names ?l_L_names ?c_L_names ?k_L_names ?a_L_piece ?l_L_piece ?c_L_piece ?k_L_piece ?a_L_row ?l_L_row ?c_L_row ?k_L_row ?a_L_marks ?l_L_marks ?c_L_marks ?k_L_marks ?a_L_text ?l_L_text ?c_L_text ?k_L_text ?a_L_names_right ?l_L_names_right ?c_L_names_right ?k_L_names_right ?a_L_told_right ?l_L_told_right ?c_L_told_right ?k_L_told_right ?a_L_fresh_right ?l_L_fresh_right ?c_L_fresh_right ?k_L_fresh_right ?a_law ?l_law ?c_law ?k_law ?z_bool ?z_enumerate ?z_int ?z_isinstance ?z_len ?z_list ?z_max ?z_min ?z_range ?z_repr ?z_str ?z_tuple ?g_EMPTY_PIECE ?g_MOST_NAMES ?g_NAME_LETTERS
    (case a_C_Strip => k_is)
    (case pg_Strip => k_is)
    (case hd_Strip => k_is)
    (case po_Strip => k_is)
    (case sa_Strip => k_is)
    (case mk_Strip => k_is)
    (case kc_Strip => k_is)
    (case fc_Strip => k_is)
    (case sg_Strip => k_is)
    (case tk_Strip => k_is)
    (case mr_Strip => k_is)
    (case ks_Strip => k_is)
    (case kb_Strip => k_is)
    (case ki_Strip => k_is)
    (case kt_Strip => k_is)
    (case kl_Strip => k_is)
    (case n_Strip_row => k_is)
    (case n_Strip_places => k_is)
    (case a_is_name => k_is)
    (case l_is_name => k_is)
    (case c_is_name => k_is)
    (case k_is_name => k_is)
    (case a_is_piece => k_is)
    (case l_is_piece => k_is)
    (case c_is_piece => k_is)
    (case k_is_piece => k_is)
    (case a_is_marker => k_is)
    (case l_is_marker => k_is)
    (case c_is_marker => k_is)
    (case k_is_marker => k_is)
    (case a_has_row_length => k_is)
    (case l_has_row_length => k_is)
    (case c_has_row_length => k_is)
    (case k_has_row_length => k_is)
    (case a_first_misfit => k_is)
    (case l_first_misfit => k_is)
    (case c_first_misfit => k_is)
    (case k_first_misfit => k_is)
    (case a_check_items => k_is)
    (case l_check_items => k_is)
    (case c_check_items => k_is)
    (case k_check_items => k_is)
    (case a_check_row => k_is)
    (case l_check_row => k_is)
    (case c_check_row => k_is)
    (case k_check_row => k_is)
    (case a_places_by_name => k_is)
    (case l_places_by_name => k_is)
    (case c_places_by_name => k_is)
    (case k_places_by_name => k_is)
    (case a_item_word => k_is)
    (case l_item_word => k_is)
    (case c_item_word => k_is)
    (case k_item_word => k_is)
    (case a_row_words => k_is)
    (case l_row_words => k_is)
    (case c_row_words => k_is)
    (case k_row_words => k_is)
    (case a_Strip_init => k_is)
    (case i_Strip_init => k_is)
    (case l_Strip_init => k_is)
    (case c_Strip_init => k_is)
    (case k_Strip_init => k_is)
    (case a_Strip_row => k_is)
    (case i_Strip_row => k_is)
    (case l_Strip_row => k_is)
    (case c_Strip_row => k_is)
    (case k_Strip_row => k_is)
    (case a_Strip_names => k_is)
    (case i_Strip_names => k_is)
    (case l_Strip_names => k_is)
    (case c_Strip_names => k_is)
    (case k_Strip_names => k_is)
    (case a_Strip_pieces => k_is)
    (case i_Strip_pieces => k_is)
    (case l_Strip_pieces => k_is)
    (case c_Strip_pieces => k_is)
    (case k_Strip_pieces => k_is)
    (case a_Stripcheck_name => k_is)
    (case i_Stripcheck_name => k_is)
    (case l_Stripcheck_name => k_is)
    (case c_Stripcheck_name => k_is)
    (case k_Stripcheck_name => k_is)
    (case a_Stripupright => k_is)
    (case i_Stripupright => k_is)
    (case l_Stripupright => k_is)
    (case c_Stripupright => k_is)
    (case k_Stripupright => k_is)
    (case a_Strip_places => k_is)
    (case i_Strip_places => k_is)
    (case l_Strip_places => k_is)
    (case c_Strip_places => k_is)
    (case k_Strip_places => k_is)
    (case a_Strip_orientations => k_is)
    (case i_Strip_orientations => k_is)
    (case l_Strip_orientations => k_is)
    (case c_Strip_orientations => k_is)
    (case k_Strip_orientations => k_is)
    (case a_Strip_is_direct => k_is)
    (case i_Strip_is_direct => k_is)
    (case l_Strip_is_direct => k_is)
    (case c_Strip_is_direct => k_is)
    (case k_Strip_is_direct => k_is)
    (case a_Strip_crosses => k_is)
    (case i_Strip_crosses => k_is)
    (case l_Strip_crosses => k_is)
    (case c_Strip_crosses => k_is)
    (case k_Strip_crosses => k_is)
    (case a_Strip_names_between => k_is)
    (case i_Strip_names_between => k_is)
    (case l_Strip_names_between => k_is)
    (case c_Strip_names_between => k_is)
    (case k_Strip_names_between => k_is)
    (case a_Strip_len => k_is)
    (case i_Strip_len => k_is)
    (case l_Strip_len => k_is)
    (case c_Strip_len => k_is)
    (case k_Strip_len => k_is)
    (case a_Strip_str => k_is)
    (case i_Strip_str => k_is)
    (case l_Strip_str => k_is)
    (case c_Strip_str => k_is)
    (case k_Strip_str => k_is)
    (case a_Strip_repr => k_is)
    (case i_Strip_repr => k_is)
    (case l_Strip_repr => k_is)
    (case c_Strip_repr => k_is)
    (case k_Strip_repr => k_is)
    (case a_L_cell => k_is)
    (case l_L_cell => k_is)
    (case c_L_cell => k_is)
    (case k_L_cell => k_is)
    (case a_L_box => k_is)
    (case l_L_box => k_is)
    (case c_L_box => k_is)
    (case k_L_box => k_is)
    (case a_L_take => k_is)
    (case l_L_take => k_is)
    (case c_L_take => k_is)
    (case k_L_take => k_is)
    (case a_L_names => k_is)
    (case l_L_names => k_is)
    (case c_L_names => k_is)
    (case k_L_names => k_is)
    (case a_L_piece => k_is)
    (case l_L_piece => k_is)
    (case c_L_piece => k_is)
    (case k_L_piece => k_is)
    (case a_L_row => k_is)
    (case l_L_row => k_is)
    (case c_L_row => k_is)
    (case k_L_row => k_is)
    (case a_L_marks => k_is)
    (case l_L_marks => k_is)
    (case c_L_marks => k_is)
    (case k_L_marks => k_is)
    (case a_L_text => k_is)
    (case l_L_text => k_is)
    (case c_L_text => k_is)
    (case k_L_text => k_is)
    (case a_L_names_right => k_is)
    (case l_L_names_right => k_is)
    (case c_L_names_right => k_is)
    (case k_L_names_right => k_is)
    (case a_L_told_right => k_is)
    (case l_L_told_right => k_is)
    (case c_L_told_right => k_is)
    (case k_L_told_right => k_is)
    (case a_L_fresh_right => k_is)
    (case l_L_fresh_right => k_is)
    (case c_L_fresh_right => k_is)
    (case k_L_fresh_right => k_is)
    (case a_law => k_is)
    (case l_law => k_is)
    (case c_law => k_is)
    (case k_law => k_is)
    (case z_bool => k_is)
    (case z_enumerate => k_is)
    (case z_int => k_is)
    (case z_isinstance => k_is)
    (case z_len => k_is)
    (case z_list => k_is)
    (case z_max => k_is)
    (case z_min => k_is)
    (case z_range => k_is)
    (case z_repr => k_is)
    (case z_str => k_is)
    (case z_tuple => k_is)
    (case g_EMPTY_PIECE => k_is)
    (case g_MOST_NAMES => k_is)
    (case g_NAME_LETTERS => k_is)
