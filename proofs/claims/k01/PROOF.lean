import PyProof.Rows.All
import Wide.All
import OpenK.AllK
import Wide.FinOn
import HandS.ForMost
import HandS.Wide
import HandS.Deep
import HandS.IsInst
import HandS.Walk
import HandS.TupSets
import KE.SortKeyHeap
import HandS.SortKw
import KE.GoesEnum
import KE.GoesMore
import HandS.TupLe
import HandS.RaiseMore
import HandS.Conv
import PySem.Challenge.RW_planesplits_k01_parts_and_orders
set_option Elab.async false
set_option linter.all false
set_option maxRecDepth 100000
set_option maxHeartbeats 4000000
namespace Q2
open PySem PySem.Spec PyProof.Rows L2
/-! ### rules that the layer lacks -/
section
variable {X : Cx}
/-- x ** n of great ints -/
def CPowW (i j : Int) : Prop := 0 ≤ j ∧ (Builtin.Int.intBits i : Int) * j ≤ 2 ^ 27
theorem op_powW : OpR X (binaryOp .Pow) (rI CPowW fun i j => .int (i ^ j.toNat)) := opI fun _ _ _ _ _ _ _ hc q => pow_int hc.1 hc.2 q
theorem powW2 {i : Int} (h : i.natAbs < 2 ^ 1000) : CPowW i 2 := by
  have h1 := PySem.Flt.log2_lt_of (by decide : 0 < 1000) h
  have h2 : Builtin.Int.intBits i ≤ i.natAbs.log2 + 1 := by
    unfold Builtin.Int.intBits
    split <;> omega
  refine ⟨by decide, ?_⟩
  have h3 : ((2 : Int) ^ 27) = 134217728 := by decide
  rw [h3]
  omega
/-- list + list, either of which may be read only -/
def rCatL (K : PySem.W.Frag) : R2 := fun x y H Q => ∃ l b xs zs, x = .ref l ∧ y = .ref b ∧ SqL K H l xs ∧ SqL K H b zs ∧ xs.length + zs.length ≤ sizeLine ∧ ∀ p, H p = none → Q (.ref p) (upd H p (.lst (xs ++ zs)))
theorem op_catL : OpR X (binaryOp .Add) (rCatL X.K) := by
  intro pins s σ H x y v u Q I rx ry h
  obtain ⟨l, b, xs, zs, rfl, rfl, hH, hB, hz, q⟩ := h
  cases rx
  cases ry
  obtain ⟨its, r, ⟨⟨cls, dd, data, sl⟩, n, ho, hc, hdn, hdt⟩, hl⟩ := I.list hH
  obtain ⟨its2, r2, ⟨⟨cls2, dd2, data2, sl2⟩, n2, ho2, hc2, hdn2, hdt2⟩, hl2⟩ := I.list hB
  simp only at hc hdt hc2 hdt2
  subst hc hdt hc2 hdt2
  have e1 := r.length
  have e2 := r2.length
  refine concat_meets ⟨_, ho, rfl⟩ ⟨_, ho2, rfl⟩ noFill_list_add seq_list_add PySem.F.slot_list_add PySem.F.entry_list_add (PySem.F.args_list_add_2 _ _) (list_addW l b its.toArray its2.toArray n n2 dd dd2 sl sl2 (by simp only [List.size_toArray]; omega)) ⟨ho, ho2, ?_⟩
  have ea : its.toArray ++ its2.toArray = (its ++ its2).toArray := by simp
  rw [ea]
  exact ⟨.ref _, _, I.lnew (t' := s.toks) (r.append r2) (by rw [List.length_append]; omega), rfl, q _ I.fresh⟩
/-- repr of a bool -/
def bStr (b : Bool) : Str := if b then "True" else "False"
theorem call_repr_bool : CallR X (.builtin "repr") (fun xs H Q => ∃ b, xs = [.bl b] ∧ Q (.str (bStr b)) H) := by
  intro pins s σ H xs us Q I r h
  obtain ⟨b, rfl, q⟩ := h
  cases r with
  | cons r1 r2 =>
    cases r2
    cases r1
    exact PySem.P.repr_of_bool ⟨.str _, H, I.tok _, ⟨_, rfl⟩, q⟩
section
variable {CX : CXT} {k : Nat} {f : Addr} {fd : FuncData} {ps ks : List Str} {sp : Sp} {E : XK} {x : Str} {p pos : Pos} {kws : List Keyword} {tk : TA} {g : List Value → List Value → List Value} {gV : List V → List V → List V}
/-- f(k = v, ..) -/
theorem pe_callK0 (F : FnOk X.prog X.w X.K X.mg X.base CX k f fd ps sp) (hr : Room k X.A) (hg : Gl X x) (hm : X.mg x = some (.ref f)) (hk : PySem.W.keepIn X.K (.ref f) = true) (hb : KBinds X.K fd ps ks g gV) (hx : Passes CX X E)
    (hkw : PK X kws tk) (hall : (backToKw pos (keywordEach kws X.env)).all (·.1.isSome) = true := by rfl) (hks : (backToKw pos (keywordEach kws X.env)).filterMap (·.1) = ks := by rfl)
    (hdb : (x == ("__debug__" : Str)) = false := by decide)
    (hpl : ((backTo pos (starEach [] X.env)).any (·.1) || (backToKw pos (keywordEach kws X.env)).any (·.1.isNone)) = false := by rfl) :
    PE X (.Call (.Name x p) [] kws pos) (tCallK sp gV E tNil tk) := by
  refine ⟨fun pins s σ H Q I h => ?_⟩
  refine wpAny_Call_Name_kw (ld_glob I hg hm ?_ hdb)
  refine PySem.W.callWith_KW0 (h₀ := X.base) I.ok.mod.kin hk hall ?_ hpl
  refine thn (hkw.run pos pins s σ H _ I h) fun ws s2 ⟨zs, H2, I2, rz, q2⟩ => ⟨I2.kIn, ?_⟩
  rw [hks]
  exact run_fnk F hr hb hx I2 .nil rz q2
end
end
/-! ### heaps -/
/-- all that was tracked stands, but what is at s -/
def Ex (s : Addr) (H H' : Hp) : Prop := ∀ b o, H b = some o → b ≠ s → H' b = some o
theorem Ex.refl (s : Addr) (H : Hp) : Ex s H H := fun _ _ h _ => h
theorem Ex.trans {s : Addr} {H H1 H2 : Hp} (a : Ex s H H1) (b : Ex s H1 H2) : Ex s H H2 := fun c o h n => b c o (a c o h n) n
theorem Ex.same {s : Addr} {H H' : Hp} (e : Same H H') : Ex s H H' := fun b o h _ => e b o h
theorem Ex.put {s : Addr} {H : Hp} {o : HO} : Ex s H (upd H s o) := fun b o' h n => by rw [upd_ne n]; exact h
theorem same_new {H : Hp} {p : Addr} {o : HO} (h : H p = none) : Same H (upd H p o) := fun b x e => by
  rw [upd_ne (ne_of_none e h)]
  exact e
/-- the source: a list of three ints, the first not negative -/
def Src (H : Hp) (s : Addr) : Prop := ∃ a b c : Int, 0 ≤ a ∧ H s = some (.lst [.int a, .int b, .int c])
theorem Src.same {H H' : Hp} {s : Addr} (e : Same H H') (h : Src H s) : Src H' s := by
  obtain ⟨a, b, c, h0, h⟩ := h
  exact ⟨a, b, c, h0, e _ _ h⟩
theorem Src.ne {H : Hp} {s p : Addr} (h : Src H s) (hp : H p = none) : p ≠ s := by
  obtain ⟨a, b, c, h0, h⟩ := h
  exact (ne_of_none h hp).symm
/-- points that stand in the heap -/
abbrev Pts := List (Addr × Int × Int)
def PtAt (H : Hp) (B : Int) (q : Addr × Int × Int) : Prop := H q.1 = some (.tup [.int q.2.1, .int q.2.2]) ∧ (-B ≤ q.2.1 ∧ q.2.1 ≤ B) ∧ (-B ≤ q.2.2 ∧ q.2.2 ≤ B)
def Spots (H : Hp) (B : Int) (a : Addr) (ps : Pts) : Prop := H a = some (.lst (ps.map fun q => V.ref q.1)) ∧ ps.length ≤ 40 ∧ ∀ q ∈ ps, PtAt H B q
theorem PtAt.same {H H' : Hp} {B : Int} {q : Addr × Int × Int} (e : Same H H') (h : PtAt H B q) : PtAt H' B q := ⟨e _ _ h.1, h.2⟩
theorem PtAt.ex {H H' : Hp} {B : Int} {s : Addr} {q : Addr × Int × Int} (hs : Src H s) (e : Ex s H H') (h : PtAt H B q) : PtAt H' B q := by
  obtain ⟨a, b, c, h0, hs⟩ := hs
  exact ⟨e _ _ h.1 (ne_of h.1 hs (by intro z; cases z)), h.2⟩
theorem Spots.same {H H' : Hp} {B : Int} {a : Addr} {ps : Pts} (e : Same H H') (h : Spots H B a ps) : Spots H' B a ps := ⟨e _ _ h.1, h.2.1, fun q hq => (h.2.2 q hq).same e⟩
theorem Spots.ex {H H' : Hp} {B : Int} {s a : Addr} {ps : Pts} (hs : Src H s) (n : a ≠ s) (e : Ex s H H') (h : Spots H B a ps) : Spots H' B a ps := ⟨e _ _ h.1 n, h.2.1, fun q hq => (h.2.2 q hq).ex hs e⟩
theorem small40 {n : Nat} (h : n ≤ 1000) : n ≤ sizeLine := Nat.le_of_lt (small1000 h)
/-! ### a tuple's equality as data -/
def ptD (z : Int × Int) : PyData := .tuple [.int z.1, .int z.2]
theorem ptD_lay (z : Int × Int) : (ptD z).canLay0 = true := by simp [ptD, PyData.canLay0, PyData.canLayAll0]
theorem ptD_depth (z : Int × Int) : (ptD z).depth = 1 := by simp [ptD, PyData.depth, PyData.depthAll]
theorem ptDs_lay : ∀ zs : List (Int × Int), PyData.canLayAll0 (zs.map ptD) = true
  | [] => by simp [PyData.canLayAll0]
  | z :: zs => by simp [PyData.canLayAll0, ptD_lay z, ptDs_lay zs]
theorem ptDs_depth : ∀ zs : List (Int × Int), PyData.depthAll (zs.map ptD) ≤ 2
  | [] => by simp [PyData.depthAll]
  | z :: zs => by
    have h1 := ptDs_depth zs
    have h2 := ptD_depth z
    simp only [List.map_cons, PyData.depthAll]
    omega
theorem ptD_shaped (z : Int × Int) : SeqAt.shaped (ptD z) = true := by
  have h := ptD_depth z
  show ((ptD z).canLay0 && decide ((ptD z).depth ≤ 64)) = true
  rw [Bool.and_eq_true]
  exact ⟨ptD_lay z, decide_eq_true (by omega)⟩
theorem ptDs_shaped (zs : List (Int × Int)) : SeqAt.shaped (.list (zs.map ptD)) = true := by
  have h1 := ptDs_depth zs
  have h2 : PyData.depth (.list (zs.map ptD)) ≤ 64 := by
    simp only [PyData.depth]
    omega
  show (PyData.canLay0 (.list (zs.map ptD)) && decide (PyData.depth (.list (zs.map ptD)) ≤ 64)) = true
  rw [Bool.and_eq_true]
  exact ⟨by simp only [PyData.canLay0]; exact ptDs_lay zs, decide_eq_true h2⟩
theorem ptD_eqv (z w : Int × Int) : PyData.eqv (ptD z) (ptD w) = decide (z = w) := by
  obtain ⟨a, b⟩ := z
  obtain ⟨a', b'⟩ := w
  have e : PyData.eqv (ptD (a, b)) (ptD (a', b')) = ((a == a') && ((b == b') && true)) := by simp only [ptD, PyData.eqv, PyData.eqvAll]
  rw [e]
  by_cases h : a = a'
  · by_cases h2 : b = b'
    · subst h h2
      simp
    · simp [h, h2]
  · simp [h]
theorem dp_pt {K : PySem.W.Frag} {H : Hp} {B : Int} {q : Addr × Int × Int} (h : PtAt H B q) : Dp K H (.ref q.1) (ptD q.2) := .tup (SqT.of h.1) (.cons (.int _) (.cons (.int _) .nil))
theorem dp_pts {K : PySem.W.Frag} {H : Hp} {B : Int} : ∀ {ps : Pts}, (∀ q ∈ ps, PtAt H B q) → DpAll K H (ps.map fun q => V.ref q.1) ((ps.map (·.2)).map ptD)
  | [], _ => .nil
  | q :: ps, h => .cons (dp_pt (h q (List.mem_cons_self ..))) (dp_pts fun z hz => h z (List.mem_cons_of_mem _ hz))
theorem dp_spots {K : PySem.W.Frag} {H : Hp} {B : Int} {a : Addr} {ps : Pts} (h : Spots H B a ps) : Dp K H (.ref a) (.list ((ps.map (·.2)).map ptD)) := .lst (SqL.of h.1) (dp_pts h.2.2)
theorem any_pt (zs : List (Int × Int)) (w : Int × Int) : ((zs.map ptD).any fun z => PyData.eqv z (ptD w)) = decide (w ∈ zs) := by
  induction zs with
  | nil => simp
  | cons z zs ih =>
    rw [List.map_cons, List.any_cons, ih, ptD_eqv]
    by_cases h : z = w
    · subst h
      simp
    · have h' : ¬ w = z := fun e => h e.symm
      simp [h, h']
end Q2

namespace Q2
open PySem PySem.Spec PyProof.Rows L2
section
variable {P : Program} {w : World} {A : Around} {E : Value → Shared → Prop} {s : Shared} {a : Addr} {L : List (Addr × List Int)} {es : Array (Int × Value)} {ep : Nat} {t : SetTable}
/-- the search of a key that is no member comes to the first empty slot, whatever its hash meets on the way -/
theorem free_from (R : SetTR P w s.heap a L es ep t) {x : Addr} {k : List Int} (kx : IsT P w s.heap k x) (un : A.units < cLine) (out : k ∉ L.map (·.2)) {K : Nat} (lessK : K < 10 * SetTable.turns t.mask)
    (gapK : way t.mask (thash P w k) K ∉ t.place.toList) (fullK : ∀ c, c < K → way t.mask (thash P w k) c ∈ t.place.toList) {Q : SetFound → Shared → Prop} (win : Q (.free (way t.mask (thash P w k) K) false) s) :
    ∀ (f c : Nat) (stand : Option SetTable.Probe), stand.getD (t.probeStart (thash P w k)) = nth t.mask (runAt t.mask (SetTable.bits (thash P w k) % (t.mask + 1)) (SetTable.bits (thash P w k))) c → c ≤ K → K - c < f →
      wpAny (model P w) A (setSearchFrom a (.ref x) (thash P w k) false f stand) Q E s
  | 0, c, stand, _, _, less => absurd less (Nat.not_lt_zero _)
  | f + 1, c, stand, here, cK, less => by
    obtain ⟨ob, hob, exact_, dat⟩ := R.ob
    rw [setSearchFrom_succ]
    refine wpAny_bind ((wpAny_setState_of hob dat R.fits) ?_)
    dsimp only
    refine (wp_if_neg R.gw) ?_
    try refine (wpAny_bind (wpAny_pure ?_))
    -- the probe, c steps on
    generalize base0 : runAt t.mask (SetTable.bits (thash P w k) % (t.mask + 1)) (SetTable.bits (thash P w k)) = p0 at here
    have noDummy : ∀ (n : Nat) (p : SetTable.Probe), p.dummy = none → (nth t.mask p n).dummy = none := fun n => by
      induction n with
      | zero => exact fun p h => h
      | succ n ih => exact fun p h => ih (adv t.mask p) (by unfold adv; split <;> exact h)
    have d0 : p0.dummy = none := by rw [← base0]; rfl
    have go_on : ∀ q, nth t.mask (nth t.mask p0 c) q = nth t.mask p0 (c + q) := fun q => (nth_add t.mask c p0 q).symm
    have at_ : ∀ q, (nth t.mask p0 q).j = way t.mask (thash P w k) q := fun q => by rw [← base0]
    have at2 : ∀ q, (nth t.mask (nth t.mask p0 c) q).j = way t.mask (thash P w k) (c + q) := fun q => by rw [go_on, at_]
    have found := go_spec t R.tab.ris R.tab.dm (fun i => (es[i]?.map (·.1)).getD 0) (thash P w k) (10 * SetTable.turns t.mask) (K - c) (nth t.mask p0 c) (noDummy c p0 d0) (Nat.lt_of_le_of_lt (Nat.sub_le K c) lessK)
      (fun q hq => by rw [at2]; exact fullK (c + q) (Nat.add_lt_of_lt_sub' hq)) (by rw [at2, Nat.add_sub_cancel' cK]; exact gapK)
    rcases found with ⟨q, i, hq, slot, _, _, ans⟩ | ⟨_, ans⟩
    · have ans2 : t.probe (fun i => (es[i]?.map (·.1)).getD 0) (thash P w k) (stand.getD (t.probeStart (thash P w k))) = some (.candidate (way t.mask (thash P w k) (c + q)) i (nth t.mask p0 (c + (q + 1)))) := by
        rw [here, ← at2, ← go_on]
        exact ans
      rw [ans2]
      dsimp only
      rw [at2] at slot
      have small : i < L.length := by
        have y1 : i < t.place.toList.length := (List.getElem?_eq_some_iff.mp slot).1
        have y2 := R.tab.sz
        rw [List.length_map] at y2
        rw [Array.length_toList] at y1
        omega
      obtain ⟨p, hp⟩ : ∃ p, L[i]? = some p := ⟨L[i], List.getElem?_eq_getElem small⟩
      have pin : p ∈ L := List.mem_of_getElem? hp
      have other : p.2 ≠ k := fun e => out (List.mem_map.mpr ⟨p, pin, e⟩)
      have behind : wpAny (model P w) A (searchRest a (.ref x) (thash P w k) false f es t (way t.mask (thash P w k) (c + q)) i (nth t.mask p0 (c + (q + 1)))) Q E s := by
        unfold searchRest
        rw [R.entry hp]
        dsimp only
        refine wpAny_bind (wpAny_holding ((wpAny_eqBool_tuple un (R.tup p pin) kx) ?_))
        refine wpAny_bind ((wpAny_setState_of hob dat R.fits) ?_)
        dsimp only
        refine (wp_if_neg (by simp)) ?_
        try refine (wpAny_bind (wpAny_pure ?_))
        rw [sameMem]
        dsimp only
        have live := slot_live R.tab.ris slot
        simp only [if_true, live, R.entry hp]
        refine wpAny_bind (wpAny_isSame_ref_self (wpAny_bind (wpAny_pure ?_)))
        simp only [if_true]
        refine (wp_if_neg (by simp [other])) ?_
        refine free_from R kx un out lessK gapK fullK win f (c + (q + 1)) (some (nth t.mask p0 (c + (q + 1)))) ?_ (by omega) (by omega)
        rw [base0]
        rfl
      by_cases led : t.led = true
      · refine (wp_if_neg (by simp [led])) ?_
        try refine (wpAny_bind (wpAny_pure ?_))
        exact behind
      · refine (wp_if_pos (by simp [led])) ?_
        refine wpAny_bind ((seen_tup kx fun y hy => ?_) ?_)
        · obtain ⟨e, he, ee⟩ := List.mem_map.mp hy
          have e1 : e ∈ es ∧ e.1 = thash P w k := by simpa using he
          have e2 : e ∈ es.toList := by simpa using e1.1
          rw [R.rows] at e2
          obtain ⟨p2, m2, rfl⟩ := List.mem_map.mp e2
          exact ⟨p2.2, p2.1, ee.symm, R.tup p2 m2⟩
        · refine (wp_if_neg (by decide)) ?_
          try refine (wpAny_bind (wpAny_pure ?_))
          exact behind
    · have ans2 : t.probe (fun i => (es[i]?.map (·.1)).getD 0) (thash P w k) (stand.getD (t.probeStart (thash P w k))) = some (.empty (way t.mask (thash P w k) K) none) := by
        have e2 : way t.mask (thash P w k) K = (nth t.mask (nth t.mask p0 c) (K - c)).j := by rw [at2, Nat.add_sub_cancel' cK]
        rw [here, e2]
        exact ans
      rw [ans2]
      dsimp only
      exact wpAny_pure win
/-- the key is not there -/
theorem find_out (R : SetTR P w s.heap a L es ep t) {x : Addr} {k : List Int} (kx : IsT P w s.heap k x) (un : A.units < cLine) (out : k ∉ L.map (·.2)) {Q : Option Nat → Shared → Prop} (win : Q none s) :
    wpAny (model P w) A (setFind a (.ref x) (thash P w k)) Q E s := by
  obtain ⟨ob, hob, exact_, dat⟩ := R.ob
  have room_ := R.room
  obtain ⟨K, lessK, gapK, fullK⟩ := R.tab.first (by rw [List.length_map]; omega) (thash P w k)
  have few : K < 100000 := by
    have : 10 * SetTable.turns t.mask ≤ 1420 := by
      unfold SetTable.turns
      rcases R.tab.mok with e | e | e <;> omega
    omega
  unfold setFind
  rw [show (100000 : Nat) = 99999 + 1 from rfl]
  unfold setFindIn
  refine wpAny_bind ((wpAny_setState_of hob dat R.fits) ?_)
  dsimp only
  refine (wp_if_neg (by simp [byScan, Value.scannable])) ?_
  try refine (wpAny_bind (wpAny_pure ?_))
  unfold setSearch
  refine wpAny_bind (free_from R kx un out lessK gapK fullK ?_ 100000 0 none rfl (Nat.zero_le _) (by omega))
  dsimp only
  exact wpAny_pure win
end
section
variable {X : Cx}
theorem cr_set0T : CallR X (.type "set") (fun xs H Q => xs = [] ∧ ∀ p, H p = none → Q (.ref p) (upd H p (SetTO X.prog X.w p []))) := by
  intro pins s σ H xs us Q I r h
  obtain ⟨rfl, q⟩ := h
  cases r
  refine setR_new fun _ => ?_
  exact ⟨.ref _, upd H s.heap.objs.size (SetTO X.prog X.w s.heap.objs.size []), I.laid (t' := s.toks) (fun b u e => Heap.get?_push_of_some _ e) (Nat.le_refl _) (setTO_new (setTR_fresh (Heap.get?_push_size _ rfl)).t0), rfl, q _ (I.hok.fresh (Nat.le_refl _))⟩
theorem setT_full {pins : List (Addr × Obj)} {σ : L2.St} {H : Hp} {s : Shared} {a : Addr} {L : List (Addr × List Int)} (I : Inv X pins σ H s) (h : H a = some (SetTO X.prog X.w a L)) (ht : ∀ p ∈ L, SqT X.K H p.1 (p.2.map V.int)) : ∃ es ep t, SetTR X.prog X.w s.heap a L es ep t := by
  have o := I.hok a _ h
  have z : SetT0 X.prog X.w s.heap a L := o.1
  exact z.full fun p hp => I.isT (ht p hp)
/-- t in found, which it is not -/
def rOutT (K : PySem.W.Frag) (P : Program) (w : World) : R2 := fun x y H Q => ∃ (b a : Addr) (k : List Int) (L : List (Addr × List Int)), x = .ref b ∧ y = .ref a ∧ SqT K H b (k.map V.int) ∧ H a = some (SetTO P w a L) ∧ (∀ p ∈ L, SqT K H p.1 (p.2.map V.int)) ∧ k ∉ L.map (·.2) ∧ Q (.bl false) H
theorem op_outT (un : X.A.units + 64 < cLine) : OpR X (compareOp .In) (rOutT X.K X.prog X.w) := by
  intro pins s σ H x y v u Q I rx ry h
  obtain ⟨b, a, k, L, rfl, rfl, hk, ha, hL, out, q⟩ := h
  cases rx
  cases ry
  obtain ⟨es, ep, t, R⟩ := setT_full I ha hL
  obtain ⟨ob, hob, ex, dat⟩ := R.ob
  have ty : s.TypeIs (.ref a) "set" := ⟨ob, hob, ex.1⟩
  show wpAny _ _ (do return Value.bool (← contains (.ref a) (.ref b))) _ _ s
  refine (wpAny_bind ?_)
  unfold contains
  try with_reducible refine (wpAny_holding ?_)
  refine wpAny_bind ((wpAny_specialOf ty PySem.F.slot_set_contains.lookup) ?_)
  show wpAny _ _ (if (some (Value.builtin "set.__contains__") == some Value.none) = true then _ else _) _ _ s
  rw [if_neg (show ¬ _ by rw [beq_builtin_none]; exact Bool.false_ne_true)]
  refine wpAny_bind ((wpAny_callSpecialUnlessNone?_slot (name := Str.ofString "__contains__") ty PySem.F.slot_set_contains)
    (wpAny_call_entry PySem.F.slot_set_contains ty entry_set_contains (ha := PySem.F.args_set_contains_2 _ _) ?_))
  unfold Builtin.«frozenset.__contains__» Builtin.Frozenset.oneOther
  simp only [List.isEmpty_nil, bind_assoc]
  unfold Builtin.Frozenset.addrOf Builtin.Frozenset.withSetAsKey setContains
  refine (wpAny_bind (wpAny_pure ?_))
  try dsimp only
  refine (wpAny_bind (wpAny_pure ?_))
  try dsimp only
  refine (wpAny_bind (wpAny_tryCatch ?_))
  refine (wpAny_holding ?_)
  have kx := I.isT hk
  refine wpAny_bind ((wpAny_pyHash_tuple (by show X.A.units + 1 < cLine; omega) kx) ?_)
  refine wpAny_bind (find_out (s := { s with toks := s.toks + (k.length + 1) }) R kx (by show X.A.units + 1 < cLine; omega) out ?_)
  refine (wpAny_pure ?_)
  show wpAny _ _ (ret (Value.bool false)) _ _ _
  exact wpAny_pure ⟨_, rfl, wpAny_truthy_bool (wpAny_pure ⟨.bl false, H, I.tok _, rfl, q⟩)⟩
/-- found.add(t), a new member -/
def rAddT (K : PySem.W.Frag) (P : Program) (w : World) : V → List V → Hp → VK → Prop := fun x xs H Q => ∃ (a b : Addr) (k : List Int) (L : List (Addr × List Int)), x = V.ref a ∧ xs = [V.ref b] ∧ H a = some (SetTO P w a L) ∧ SqT K H b (k.map V.int) ∧ (∀ p ∈ L, SqT K H p.1 (p.2.map V.int)) ∧ k ∉ L.map (·.2) ∧ L.length + 1 < 64 ∧
  ∀ L', L'.Perm ((b, k) :: L) → Q .non (upd H a (SetTO P w a L'))
theorem mt_addT (un : X.A.units + 64 < cLine) : MtR X "set.add" (rAddT X.K X.prog X.w) := by
  intro pins s σ H x xs v us Q I rx rxs h
  obtain ⟨a, b, k, L, rfl, rfl, ha, hk, hL, out, few, q⟩ := h
  cases rx
  cases rxs with
  | cons ry rt =>
    cases rt
    cases ry
    obtain ⟨es, ep, t, R⟩ := setT_full I ha hL
    obtain ⟨ob, hob, ex, dat⟩ := R.ob
    have ty : s.TypeIs (.ref a) "set" := ⟨ob, hob, ex.1⟩
    have kx := I.isT hk
    refine wpAny_call_entry PySem.F.slot_set_add ty PySem.F.entry_set_add (ha := PySem.F.args_set_add_2 _ _) ?_
    unfold Builtin.«set.add» Builtin.Frozenset.oneOther
    simp only [List.isEmpty_nil, bind_assoc]
    unfold Builtin.Frozenset.addrOf setAdd
    refine (wpAny_bind (wpAny_pure ?_))
    try dsimp only
    refine (wpAny_bind (wpAny_pure ?_))
    try dsimp only
    refine (wpAny_bind ?_)
    refine (wpAny_holding ?_)
    refine wpAny_bind ((wpAny_pyHash_tuple (by show X.A.units + 1 < cLine; omega) kx) ?_)
    refine add_at (s := { s with toks := s.toks + (k.length + 1) }) R kx (by show X.A.units + 1 < cLine; omega) few fun bb h' L' es' ep' t' sb R' _ pm => ?_
    show wpAny _ _ (ret Value.none) _ _ _
    have he : ∃ u, h'.get? a = some u := by
      obtain ⟨o, ho, _⟩ := R'.ob
      exact ⟨o, ho⟩
    refine wpAny_pure ⟨_, rfl, .non, upd H a (SetTO X.prog X.w a L'), ?_, rfl, q L' (pm out)⟩
    exact I.write (e := a) (t' := s.toks + (k.length + 1)) (by rw [ha]; trivial) (.inl rfl) (fun c u hc hu => (sb.2 c hc).trans hu) he (setTO_new R'.t0)
def tAddT (K : PySem.W.Frag) (P : Program) (w : World) (to : TE) (t : TA) : TE := fun σ H Q => to σ H fun x H1 => (∃ a L, x = V.ref a ∧ H1 a = some (SetTO P w a L) ∧ ∀ p ∈ L, SqT K H1 p.1 (p.2.map V.int)) ∧ t σ H1 fun xs H2 => rAddT K P w x xs H2 Q
variable {o e : Expr} {es : List Expr} {to : TE} {t : TA} {apos cpos : Pos}
theorem pe_addT (un : X.A.units + 64 < cLine) (ho : PE X o to) (ha : PA X (e :: es) t)
    (hbase : attributeBase o "add" X.env (eval o X.env) = eval o X.env := by rfl)
    (hfew : ((backTo cpos (starEach (e :: es) X.env)).all (fun x => !x.1) && (backToKw cpos (keywordEach [] X.env)).all (fun x => x.1.isSome) && decide ((e :: es).length + ([] : List Keyword).length + (if ([] : List Keyword).isEmpty then 0 else 1) < 30)) = true := by rfl)
    (hline : (apos.endLine == cpos.line) = true := by rfl) (hstar : starEach (e :: es) X.env = (false, eval e X.env) :: starEach es X.env := by rfl) (hplain : (backTo cpos (starEach es X.env)).any (·.1) = false := by rfl) :
    PE X (.Call (.Attribute o "add" apos) (e :: es) [] cpos) (tAddT X.K X.prog X.w to t) := by
  refine ⟨fun pins s σ H Q I h => ?_⟩
  refine (wpAny_Call_method_late hbase hfew hline rfl) (thn (ho.run pins s σ H _ I h) fun v s1 ⟨x, H1, I1, r1, ty, q1⟩ => ?_)
  obtain ⟨a, L, rfl, hL, hp⟩ := ty
  obtain ⟨tes, ep, tt, R⟩ := setT_full I1 hL hp
  obtain ⟨ob, hob, ex, dat⟩ := R.ob
  cases r1
  refine ⟨"set", "set.add", PySem.F.plainAttrs_set, PySem.F.slot_set_add, PySem.F.type_set_add, ⟨ob, hob, ex.1⟩, ?_, ?_⟩
  · intro a1 e1
    cases e1
    exact ⟨ob, hob, ex.2.1⟩
  · have run := ha.run cpos pins s1 σ H1 _ I1 q1
    rw [hstar] at run ⊢
    refine Calls.callWith_builtin (by show (false || (backTo cpos (starEach es X.env)).any (·.1)) = false; rw [hplain]; rfl) (Calls.evalArgs_plain ?_)
    exact thn run fun us s2 ⟨vs, H2, I2, r2, q2⟩ => mt_addT un pins s2 σ H2 (.ref a) vs (.ref a) us Q I2 rfl r2 q2
end
end Q2

namespace Q2
open PySem PySem.W PySem.Spec PySem.Calls PyProof.Rows
section
variable {prog : Program} {w : World} {A : Around} {E : Value → Shared → Prop} {s : Shared} {vs : List Value}
theorem collect_tupl {t : Addr} {Q : List Value → Shared → Prop} (tup : IsTup s.heap t vs.toArray) (small : vs.length ≤ sizeLine)
    (win : Q vs { s with heap := (s.heap.push (seqObj "list" #[] 0)).update s.heap.objs.size (Obj.mapSeq (· ++ vs.toArray)) }) : wpAny (model prog w) A (collect (.ref t)) Q E s := by
  obtain ⟨o, here, cls, n, dat⟩ := id tup
  unfold collect
  refine wpAny_bind (wpAny_runValue (codeAny_builtin (entry_proto_collect') ?_))
  show wpAny _ _ (do again (.builtin "list.__iadd__" ⟨[← newList [], .ref t], []⟩)) _ _ s
  refine wpAny_bind (wpAny_newList (wpAny_pure ⟨(Code.quiet_builtin _ (by decide +kernel)), codeAny_builtin (entry_list_iadd') ?_⟩))
  show wpAny _ _ (Builtin.List.listExtendWith (.ref s.heap.objs.size) (.ref t) (.ref s.heap.objs.size)) _ _ { s with heap := s.heap.push (seqObj "list" #[] 0) }
  unfold Builtin.List.listExtendWith
  have there : (s.heap.push (seqObj "list" #[] 0)).get? t = some o := Heap.get?_push_of_some _ here
  refine wpAny_bind ((wpAny_typeOf (T := "tuple") (show ({ s with heap := s.heap.push (seqObj "list" #[] 0) } : Shared).TypeIs (.ref t) "tuple" from ⟨o, there, cls⟩)) ?_)
  have same2 : (Value.type "tuple" == Value.type "tuple") = true := by rfl
  rw [if_pos (show _ by rw [same2]; simp)]
  refine wpAny_bind ((listItems_at there dat) ?_)
  refine wpAny_bind ((listItems_at (xs := #[]) (n := 0) (Heap.get?_push_size _ rfl) rfl) ?_)
  rw [if_neg (show ¬ _ by simp)]
  refine wpAny_bind (listUpdate_at (xs := #[]) (n := 0) (Heap.get?_push_size _ rfl) rfl ?_ (Nat.zero_le _) (show (#[] ++ vs.toArray).size ≤ sizeLine + 1 by simp only [Array.size_append, List.size_toArray, List.length_nil]; omega))
  refine (wpAny_pure ?_)
  show wpAny (model prog w) A (do
      let ob ← load s.heap.objs.size
      match ob.data with
      | .seq xs _ => pure xs.toList
      | _ => unsupported "internal:collect") Q E { s with heap := (s.heap.push (seqObj "list" #[] 0)).update s.heap.objs.size (Obj.mapSeq (· ++ vs.toArray)) }
  refine wpAny_bind ((wpAny_load (get?_update_seq (Heap.get?_push_size _ rfl) _)) ?_)
  show wpAny _ _ (pure ((#[] : Array Value) ++ vs.toArray).toList) Q E _
  have e : ((#[] : Array Value) ++ vs.toArray).toList = vs := by simp
  rw [e]
  exact wpAny_pure win
/-- sorted(x, ..) of a list or a tuple, by what list.sort does to a new list of its items -/
theorem sorted_seq {l : Addr} {kw : List (Str × Value)} {Q : Value → Shared → Prop} (seq : s.heap.IsList l vs.toArray ∨ IsTup s.heap l vs.toArray) (small : vs.length ≤ sizeLine) (args1 : argsOk "sorted" ⟨[.ref l], kw⟩) (args2 : ∀ x, argsOk "list.sort" ⟨[.ref x], kw⟩)
    (sorts : ∀ E' : Value → Shared → Prop, wpAny (model prog w) A.in1.in1 (Builtin.«list.sort» ⟨[.ref (s.heap.objs.size + 1)], kw⟩) (fun f s' => f = .done (.ret .none) ∧ Q (.ref (s.heap.objs.size + 1)) s') E' { s with heap := copyHeap s.heap vs }) :
    wpAny (model prog w) A (call (.builtin "sorted") [.ref l] kw) Q E s := by
  rcases seq with h | h
  · exact sorted_of_sort h small args1 args2 sorts
  · refine call_function_entry_kw (kind_sorted) plain_sorted entry_sorted args1 ?_
    unfold Builtin.«sorted»
    refine wpAny_bind (m := checkCount "sorted" 1 1 _) ((wpAny_pure ?_))
    refine wpAny_bind (collect_tupl h small ?_)
    refine wpAny_bind ((wpAny_newList ?_ small))
    have big : ((s.heap.push (seqObj "list" #[] 0)).update s.heap.objs.size (Obj.mapSeq (· ++ vs.toArray))).objs.size = s.heap.objs.size + 1 := (Heap.size_update ..).trans (size_push' ..)
    show wpAny _ _ _ _ _ { s with heap := copyHeap s.heap vs }
    rw [big]
    refine wpAny_bind (wpAny_holding ((wpAny_call_entry_kw slot_list_sort ⟨_, copyHeap_at s.heap vs, rfl⟩ entry_list_sort ?here (args2 _))))
    case here =>
      refine wpAny_mono (sorts _) (fun f s' hf => ?_) fun _ _ e => e
      exact ⟨_, hf.1, wpAny_pure ⟨_, rfl, hf.2⟩⟩
variable {β : Type} {bs : List β} {enc : β → PyData} {R : Value → β → Prop}
theorem sorted_plain {l : Addr} {Q : Value → Shared → Prop} (seq : s.heap.IsList l vs.toArray ∨ IsTup s.heap l vs.toArray) (e : EachIs R vs bs) (er : EachIs (fun v b => ∃ as, Reads s.heap v (enc b) as) vs bs) (al : AllAlike (bs.map enc)) (so : Sortable (bs.map enc)) (small : bs.length ≤ sizeLine)
    (un : ∀ b, b ∈ bs → A.units + 2 + (enc b).depth < cLine) (win : ∀ out, out.length = bs.length → EachIs R out (bs.mergeSort (dataLe false enc)) → Q (.ref (s.heap.objs.size + 1)) { s with heap := sortedAll s.heap vs (List.toArray out) }) :
    wpAny (model prog w) A (call (.builtin "sorted") [.ref l]) Q E s := by
  have er2 : EachIs (fun v b => ∃ as, Reads (sortingHeap (copyHeap s.heap vs) (s.heap.objs.size + 1) vs) v (enc b) as) vs bs := er.mono fun _ _ ⟨as, r⟩ => ⟨as, PyProof.Rows.Reads.keeps (fun _ _ => sorting_copy_old) r⟩
  have lenv : vs.length ≤ sizeLine := by rw [e.length]; exact small
  refine sorted_seq seq lenv (args_sorted1 _) (fun _ => args_list_sort _) fun E' => ?_
  refine list_sort_vals (s := { s with heap := copyHeap s.heap vs }) (copyHeap_at s.heap vs) (SortsAt.data (s := { s with heap := sortingHeap (copyHeap s.heap vs) (s.heap.objs.size + 1) vs }) (each_map (R := fun v d => ∃ as, Reads (sortingHeap (copyHeap s.heap vs) (s.heap.objs.size + 1) vs) v d as) enc er2) al so (bound_map un)) lenv ⟨rfl, ?_⟩
  exact win _ (by rw [sortVals_length false rfl]; exact e.length) (sortVals_data false e er2 al)
theorem sorted_keyed {l : Addr} {f : Value} {kw : List (Str × Value)} {Q : Value → Shared → Prop} (k : β → PyData) (seq : s.heap.IsList l vs.toArray ∨ IsTup s.heap l vs.toArray) (e : EachIs R vs bs) (al : AllAlike (bs.map k)) (so : Sortable (bs.map k)) (small : bs.length ≤ sizeLine)
    (un : ∀ x, x ∈ bs → A.units + 2 + (k x).depth < cLine) (args1 : argsOk "sorted" ⟨[.ref l], kw⟩) (args2 : ∀ x, argsOk "list.sort" ⟨[.ref x], kw⟩) (tree : ∀ x, Builtin.«list.sort» ⟨[.ref x], kw⟩ = ksk_tree x f false)
    (turn : ∀ (v : Value) (x : β), R v x → x ∈ bs → ∀ (h : Heap) (tk : Nat), (∀ b o, s.heap.get? b = some o → h.get? b = some o) →
      wpAny (model prog w) A.in1.in1 (call f [v]) (KeyPure (k x) { s with heap := h, toks := tk }) (fun _ _ => False) { s with heap := h, toks := tk })
    (win : ∀ out c h' tk, (∀ b o, s.heap.get? b = some o → h'.get? b = some o) → s.heap.get? (s.heap.objs.size + 1) = none → h'.get? (s.heap.objs.size + 1) = some (seqObj "list" (List.toArray out) c) → out.length = bs.length → EachIs R out (bs.mergeSort (dataLe false k)) →
      Q (.ref (s.heap.objs.size + 1)) { s with heap := h', toks := tk }) : wpAny (model prog w) A (call (.builtin "sorted") [.ref l] kw) Q E s := by
  have fresh : s.heap.get? (s.heap.objs.size + 1) = none := Heap.get?_none_of_le (Nat.le_succ _)
  have over : ∀ {g : Heap}, KeepsBut (s.heap.objs.size + 1) (copyHeap s.heap vs) g → ∀ b o, s.heap.get? b = some o → g.get? b = some o := fun {g} kp b o q => kp b o (Nat.ne_of_lt (Nat.lt_succ_of_lt (Heap.lt_size q))) (copyHeap_old q)
  have lens : (bs.map k).length = vs.length := by rw [List.length_map]; exact e.length.symm
  have lenv : vs.length ≤ sizeLine := by rw [e.length]; exact small
  refine sorted_seq seq lenv args1 args2 fun E' => ?_
  rw [tree]
  refine keyH_tree (kz := bs.map k) (s := { s with heap := copyHeap s.heap vs }) (copyHeap_at s.heap vs) lens lenv al so (bound_map (A := A.in1.in1) un) (keyH_turns (s := { s with heap := copyHeap s.heap vs }) e fun v x hR hx h tk kp => turn v x hR hx h tk (over kp)) fun h' tk out c kp hD ko => ⟨rfl, ?_⟩
  exact win out c h' tk (over kp) fresh hD ((ko.length lens).trans e.length) (keyedOut_each k ko e)
end
end Q2

namespace Q2
open PySem PySem.Spec PyProof.Rows L2
section
variable {prog : Program} {w : World} {A : Around} {E : Value → Shared → Prop} {s : Shared}
theorem raw_item {env : Env} {m : Str → Option Value} {t : Addr} {u0 u1 v : Value} {k : Nat} {x : Str} {p1 p2 p3 : Pos} {j1 : Nat} {Q : Value → Shared → Prop} (kind : env.scope.kind = .function) (loc : env.kindOf x = some .local) (ns : s.heap.Ns env.locals m) (mx : m x = some (.ref t))
    (tup : IsTup s.heap t #[u0, u1]) (hk : k < 2) (hv : #[u0, u1][k]? = some v) (hd : (x == ("__debug__" : Str)) = false) (win : Q v { s with toks := s.toks + 1 }) :
    wpAny (model prog w) A (eval (.Subscript (.Name x p1) (.Constant (.int (k : Int)) j1 p2) p3) env) Q E s := by
  refine Subscript_ (wpAny_Name (wpAny_loadName_local kind loc ns mx ?_) hd)
  refine wpAny_Constant_int ?_
  exact subscriptTail_builtinR (s := { s with toks := s.toks + 1 }) (x := v) (IsTup.typeIs (s := { s with toks := s.toks + 1 }) tup) PyProof.Rows.slot_tuple_getitem.lookup
    (PyProof.Rows.getItem_tuple (s := { s with toks := s.toks + 1 }) (j := k) (Q := fun r s' => r = v ∧ Q r s') tup (by omega) (by omega) (seqIndex_of (by omega) (by show (k : Int) < ((2 : Nat) : Int); omega)) hv ⟨rfl, win⟩) rfl
/-- return (p[1], p[0]) -/
theorem raw_swap {env : Env} {m : Str → Option Value} {t : Addr} {u0 u1 : Value} {x : Str} {p1 p2 p3 p4 p5 p6 p7 p8 : Pos} {j1 j2 k7 : Nat} {Q : Flow → Shared → Prop} (kind : env.scope.kind = .function) (loc : env.kindOf x = some .local) (ns : s.heap.Ns env.locals m) (mx : m x = some (.ref t))
    (tup : IsTup s.heap t #[u0, u1]) (hd : (x == ("__debug__" : Str)) = false) (win : Q (.ret (.ref s.heap.objs.size)) { s with heap := s.heap.push { cls := .type "tuple", data := .seq #[u1, u0] }, toks := s.toks + 1 + 1 }) :
    wpAny (model prog w) A (execs [.Return (some (.Tuple [.Subscript (.Name x p1) (.Constant (.int 1) j1 p2) p3, .Subscript (.Name x p4) (.Constant (.int 0) j2 p5) p6] k7 p7)) p8] env) Q E s := by
  refine wpAny_execs_cons (wpAny_Return_some (wpAny_Tuple_spliced ?_))
  show wpAny _ _ (spliced [(false, eval (.Subscript (.Name x p1) (.Constant (.int 1) j1 p2) p3) env), (false, eval (.Subscript (.Name x p4) (.Constant (.int 0) j2 p5) p6) env)]) _ _ _
  refine Calls.spliced_cons (raw_item (k := 1) kind loc ns mx tup (by decide) rfl hd ?_)
  refine Calls.spliced_cons (raw_item (s := { s with toks := s.toks + 1 }) (k := 0) kind loc ns mx tup (by decide) rfl hd ?_)
  refine Calls.spliced_nil ⟨by show 2 ≤ sizeLine; decide, ?_⟩
  exact win
end
/-- how a def that swaps the two places of its argument is written -/
def Swaps (st : Stmt) : Prop := ∃ (x : Str) (p1 p2 p3 p4 p5 p6 p7 p8 : Pos) (j1 j2 k7 : Nat), FnScope [x] [x] (defScope st) ∧ (defScope st).names.lookup x = some .local ∧ (x == ("__debug__" : Str)) = false ∧
  defBody st = [.Return (some (.Tuple [.Subscript (.Name x p1) (.Constant (.int 1) j1 p2) p3, .Subscript (.Name x p4) (.Constant (.int 0) j2 p5) p6] k7 p7)) p8] ∧
  ∀ (kV doc pm : Value) (an : Option Addr) (cdv ct u : Value) (nm q : Str), bindArgs (PySem.W.fnOf nm q (defArgs st) (defBody st) (defScope st) .none kV doc pm an cdv ct) ⟨[u], []⟩ = pure [(x, u)]
/-- the call, on the bare heap -/
theorem swap_call {P : Program} {w : World} {K : PySem.W.Frag} {mg : Str → Option Value} {base : Heap} {A : Around} {outer : List Env} {s : Shared} {H : Hp} {nm : Str} {st : Stmt} {f : Addr} {fd : FuncData} (F : Fun K nm nm st f fd) (S : Swaps st) (e0 : Env0 P w K mg base A outer s H) (room : A.depth < recursionLimit)
    {t : Addr} {x y : Int} {tx ty : Tok} (tup : IsTup s.heap t #[.int x tx, .int y ty]) : wpAny (model P w) A (call (.ref f) [.ref t]) (PySem.W.KeyPure (.tuple [.int y, .int x]) s) (fun _ _ => False) s := by
  obtain ⟨oc, od, kV, doc, pm, an, cdv, ct, osl, rfl, lk, hcd⟩ := F.ex
  obtain ⟨nx, p1, p2, p3, p4, p5, p6, p7, p8, j1, j2, k7, sc, loc, hd, body, bind⟩ := S
  have KX : K.In s.heap := e0.mod.kin.keeps fun b o e => (e0.bs b o e).1
  have lim : s.heap.NoLimit := e0.mod.nolimit.keeps fun b o e => (e0.bs b o e).1
  refine wpAny_call (codeAny_call_function room (KX _ _ lk) rfl sc.co sc.gen rfl (PySem.W.codeRec_of KX hcd) (wpAny_of_eq (bind _ _ _ _ _ _ _ _ _) ?_))
  refine wpAny_newFunctionEnv_cells sc.kind (fun z hz => by rw [List.mem_singleton.mp hz]; exact .inl loc) fun env he s1 inc => ?_
  subst he
  refine ⟨lim.keeps inc.toInCall.keep, codeAny_func ?_⟩
  obtain ⟨h1, tk, rfl, keep⟩ := inc.done
  show wpAny _ _ (execs (defBody st) _) _ _ _
  rw [body]
  have tup1 : IsTup h1 t #[.int x tx, .int y ty] := by
    obtain ⟨o, ho, r⟩ := tup
    exact ⟨o, keep _ _ ho, r⟩
  refine raw_swap (x := nx) (t := t) (m := _) sc.kind loc inc.toInCall.ns ?_ tup1 hd ?_
  · show bindL _ [(nx, Value.ref t)] (fun _ => none) nx = some (.ref t)
    have kl : (newEnv (defScope st) s.heap.objs.size mainGlobals (cellsFrom (s.heap.objs.size + 1) (defScope st).names []) (nm ++ ".<locals>.") (some f) cdv none builtinsNs).kindOf nx = some .local := loc
    simp [bindL, kl]
  · refine ⟨_, _, rfl, fun b o hb => Heap.get?_push_of_some _ (keep b o hb), ?_⟩
    exact .tuple (Heap.get?_push_size _ rfl) rfl rfl (.cons (as := []) (.int y ty) (.cons (as := []) (.int x tx) .nil))
end Q2

namespace Q2
open PySem PySem.Spec PyProof.Rows L2
/-! ### sorted of points -/
abbrev keyX (q : Addr × Int × Int) : PyData := .tuple [.int q.2.1, .int q.2.2]
abbrev keyY (q : Addr × Int × Int) : PyData := .tuple [.int q.2.2, .int q.2.1]
abbrev sortX (qs : Pts) : Pts := qs.mergeSort (PySem.W.dataLe false keyX)
abbrev sortY (qs : Pts) : Pts := qs.mergeSort (PySem.W.dataLe false keyY)
abbrev refsOf (qs : Pts) : List V := qs.map fun q => V.ref q.1
def Tups (H : Hp) (qs : Pts) : Prop := ∀ q ∈ qs, H q.1 = some (.tup [.int q.2.1, .int q.2.2])
theorem each_refs : ∀ {qs : Pts} {us : List Value}, Vals (refsOf qs) us → PySem.W.EachIs (fun v (q : Addr × Int × Int) => v = Value.ref q.1) us qs
  | [], _, .nil => .nil
  | q :: qs, _, .cons r t => .cons (show _ = Value.ref q.1 from r) (each_refs t)
theorem vals_refs : ∀ {qs : Pts} {us : List Value}, PySem.W.EachIs (fun v (q : Addr × Int × Int) => v = Value.ref q.1) us qs → Vals (refsOf qs) us
  | _, _, .nil => .nil
  | _, _, .cons h t => .cons (show RelV (V.ref _) _ from h) (vals_refs t)
theorem each_of {R : Value → (Addr × Int × Int) → Prop} : ∀ {qs : Pts} {us : List Value}, PySem.W.EachIs (fun v (q : Addr × Int × Int) => v = Value.ref q.1) us qs → (∀ q ∈ qs, R (.ref q.1) q) → PySem.W.EachIs R us qs
  | _, _, .nil, _ => .nil
  | _, _, .cons h t, k => .cons (by rw [h]; exact k _ (List.mem_cons_self ..)) (each_of t fun q hq => k q (List.mem_cons_of_mem _ hq))
theorem alike_pts (f g : (Addr × Int × Int) → Int) (qs : Pts) : PySem.W.AllAlike (qs.map fun q => .tuple [.int (f q), .int (g q)]) := by
  intro d hd d' hd'
  obtain ⟨q, _, rfl⟩ := List.mem_map.mp hd
  obtain ⟨r, _, rfl⟩ := List.mem_map.mp hd'
  simp [PySem.W.alike, PySem.W.alikeAll]
theorem sortable_pts (f g : (Addr × Int × Int) → Int) (qs : Pts) : PySem.W.Sortable (qs.map fun q => .tuple [.int (f q), .int (g q)]) := .inl fun d hd => by
  obtain ⟨q, _, rfl⟩ := List.mem_map.mp hd
  exact ⟨_, _, rfl⟩
theorem depth_pt (a b : Int) : (PyData.tuple [.int a, .int b]).depth = 1 := ptD_depth (a, b)
section
variable {X : Cx}
theorem raw_pt {pins : List (Addr × Obj)} {σ : L2.St} {H : Hp} {s : Shared} (I : Inv X pins σ H s) {t : Addr} {x y : Int} (h : H t = some (.tup [.int x, .int y])) : ∃ tx ty, IsTup s.heap t #[.int x tx, .int y ty] := by
  obtain ⟨its, r, tup, _⟩ := I.tuple (SqT.of h)
  cases r with
  | cons r1 rr =>
    cases rr with
    | cons r2 rn =>
      cases rn
      obtain ⟨tx, rfl⟩ := r1
      obtain ⟨ty, rfl⟩ := r2
      exact ⟨tx, ty, tup⟩
theorem raw_seq {pins : List (Addr × Obj)} {σ : L2.St} {H : Hp} {s : Shared} (I : Inv X pins σ H s) {a : Addr} {xs : List V} (h : SqL X.K H a xs ∨ SqT X.K H a xs) : ∃ its : List Value, Vals xs its ∧ (s.heap.IsList a its.toArray ∨ IsTup s.heap a its.toArray) ∧ xs.length ≤ sizeLine := by
  rcases h with h | h
  · obtain ⟨its, r, p, z⟩ := I.list h
    exact ⟨its, r, .inl p.isList, z⟩
  · obtain ⟨its, r, p, z⟩ := I.tuple h
    exact ⟨its, r, .inr p, z⟩
/-- sorted(points) -/
def rSortP (K : PySem.W.Frag) : List V → Hp → VK → Prop := fun vs H Q => ∃ (a : Addr) (qs : Pts), vs = [V.ref a] ∧ (SqL K H a (refsOf qs) ∨ SqT K H a (refsOf qs)) ∧ Tups H qs ∧ ∀ p, H p = none → Q (.ref p) (upd H p (.lst (refsOf (sortX qs))))
theorem cr_sortP (un : X.A.units + 64 < cLine) : CallR X (.builtin "sorted") (rSortP X.K) := by
  intro pins s σ H vs us Q I r h
  obtain ⟨a, qs, rfl, hs, ht, q⟩ := h
  obtain rfl := Vals.ref1 r
  obtain ⟨its, rv, seq, hz⟩ := raw_seq I hs
  rw [List.length_map] at hz
  refine sorted_plain (bs := qs) (enc := keyX) seq (each_refs rv) (each_of (each_refs rv) fun p hp => ?_) (alike_pts _ _ qs) (sortable_pts _ _ qs) hz (fun p hp => ?_) fun out hl e => ?_
  · obtain ⟨tx, ty, o, ho, hc, n, hd⟩ := raw_pt I (ht p hp)
    exact ⟨[], .tuple ho hc hd (.cons (as := []) (.int _ tx) (.cons (as := []) (.int _ ty) .nil))⟩
  · have := depth_pt p.2.1 p.2.2
    show X.A.units + 2 + (PyData.tuple [.int p.2.1, .int p.2.2]).depth < cLine
    omega
  · obtain ⟨ep, he⟩ := PyProof.Rows.sortedAll_at s.heap its (List.toArray out)
    refine ⟨.ref _, upd H (s.heap.objs.size + 1) (.lst (refsOf (sortX qs))), I.laid (t' := s.toks) (fun _ _ => PyProof.Rows.sortedAll_old) (Nat.le_succ _) ⟨?_, out, ep, vals_refs e, he⟩, rfl, q _ (I.hok.fresh (Nat.le_succ _))⟩
    rw [List.length_map, List.length_mergeSort]
    exact hz
/-- sorted(points, key=f), f swaps the two places -/
def rSortK (K : PySem.W.Frag) (f : Addr) : List V → List V → Hp → VK → Prop := fun vs zs H Q => ∃ (a : Addr) (qs : Pts), vs = [V.ref a] ∧ zs = [.ref f] ∧ (SqL K H a (refsOf qs) ∨ SqT K H a (refsOf qs)) ∧ Tups H qs ∧ ∀ p, H p = none → Q (.ref p) (upd H p (.lst (refsOf (sortY qs))))
theorem cr_sortK {nm : Str} {st : Stmt} {f : Addr} {fd : FuncData} (F : Fun X.K nm nm st f fd) (S : Swaps st) (un : X.A.units + 64 < cLine) (room : X.A.depth < recursionLimit) : CallRK X (.builtin "sorted") [Str.ofString "key"] (rSortK X.K f) := by
  intro pins s σ H vs zs us ws Q I r rz h
  obtain ⟨a, qs, rfl, rfl, hs, ht, q⟩ := h
  obtain rfl := Vals.ref1 r
  obtain rfl := Vals.ref1 rz
  obtain ⟨its, rv, seq, hz⟩ := raw_seq I hs
  rw [List.length_map] at hz
  refine sorted_keyed (bs := qs) (f := .ref f) (kw := [(Str.ofString "key", .ref f)]) keyY seq (each_refs rv) (alike_pts _ _ qs) (sortable_pts _ _ qs) hz (fun p hp => ?_) (PyProof.Rows.ksk_s1 _ _) (fun _ => PyProof.Rows.ksk_l1 _ _) (fun x => PyProof.Rows.ksk_t1 f x) (fun v p hv hp h tk keep => ?_) fun out c h' tk keep fresh hD hl e => ?_
  · have := depth_pt p.2.2 p.2.1
    show X.A.units + 2 + (PyData.tuple [.int p.2.2, .int p.2.1]).depth < cLine
    omega
  · rw [hv]
    obtain ⟨tx, ty, o, ho, hr⟩ := raw_pt I (ht p hp)
    have I2 : Inv X pins σ H { s with heap := h, toks := tk } := I.kept keep
    exact swap_call F S I2.env0.in1.in1 room ⟨o, keep _ _ ho, hr⟩
  · refine ⟨.ref _, upd H (s.heap.objs.size + 1) (.lst (refsOf (sortY qs))), I.laid (t' := tk) keep (Nat.le_succ _) ⟨?_, out, c, vals_refs e, hD⟩, rfl, q _ (I.hok.fresh (Nat.le_succ _))⟩
    rw [List.length_map, List.length_mergeSort]
    exact hz
end
/-! ### the order -/
theorem dataLe_two (f g : (Addr × Int × Int) → Int) (q r : Addr × Int × Int) : PySem.W.dataLe false (fun q => .tuple [.int (f q), .int (g q)]) q r = !decide (f r < f q ∨ (f r = f q ∧ g r < g q)) := by
  show (!PyProof.Rows.lexLt PyProof.Rows.itemOrd (PySem.W.keyToks (.tuple [.int (f r), .int (g r)])) (PySem.W.keyToks (.tuple [.int (f q), .int (g q)]))) = _
  congr 1
  simp only [PySem.W.keyToks, PySem.W.keyToksAll, List.cons_append, List.nil_append, PyProof.Rows.lexLt, PyProof.Rows.itemLt]
  by_cases h1 : f r < f q
  · simp [h1]
  · by_cases h2 : f r = f q
    · simp [h2]
    · have h3 : f q < f r := by omega
      simp [h1, h2, h3]
end Q2

namespace Q2
open PySem PySem.W PySem.Spec PySem.Calls PyProof.Rows
/-! ### enumerate(t) of a tuple, one argument -/
theorem meets_enum1 {v : Value} {o : Obj} {B0 : Heap → Prop} (B : Begins v o B0) :
    Meets (Builtin.«enumerate.__new__» ⟨[.type "enumerate", v], []⟩) (fun _ R s => B0 s.heap ∧ R (.ok (.ret (.ref (s.heap.push o).objs.size))) { s with heap := (s.heap.push o).push { cls := .type "enumerate", data := .fields #[.none, .bool false, .ref s.heap.objs.size, rawInt 0, .none, .none] } }) :=
  .of_wp fun prog w A R s both => by
    obtain ⟨hp, g, d, tk, os⟩ := s
    obtain ⟨b0, fin⟩ := both
    have sub1 := sub_enumerate
    have begin1 : ∀ {A' : Around} {E : Value → Shared → Prop} {Q : Value → Shared → Prop}, Q (.ref hp.objs.size) ⟨hp.push o, g, d, tk, os⟩ → wpAny (model prog w) A' (pyIter v) Q E ⟨hp, g, d, tk, os⟩ := fun q => B.iter prog w _ _ ⟨hp, g, d, tk, os⟩ _ b0 q
    wp_walk using begin1
    refine wpAny_stack_any fun st => (wpAny_pure ?_)
    split
    · rename_i c _ _ _ _ _
      cases (c == Value.type "enumerate") <;> (wp_walk using begin1; exact ⟨_, rfl, fin⟩)
    · wp_walk using begin1
      exact ⟨_, rfl, fin⟩
section
variable {prog : Program} {w : World} {A : Around} {E : Value → Shared → Prop} {s : Shared}
theorem enum_tup {t : Addr} {items : Array Value} {Q : Value → Shared → Prop} (ht : s.heap.IsTuple t items)
    (win : ∀ h', IsEnum h' (s.heap.objs.size + 1) s.heap.objs.size 0 .none → h'.IsTupleIter s.heap.objs.size t 0 → (∀ b o, s.heap.get? b = some o → h'.get? b = some o) → Q (.ref (s.heap.objs.size + 1)) { s with heap := h' }) :
    wpAny (model prog w) A (call (.type "enumerate") [.ref t]) Q E s := by
  refine callType_new F.called_enumerate (by decide) (F.typeCall_enumerate_1 _) (F.newCall_enumerate_1 _) (fun obj => F.args_object_init_2 obj _) F.entry_enumerate_new (meets_enum1 (begins_tuple t items)) ⟨ht, ?_⟩
  have z1 : (s.heap.push { cls := .type "tuple_iterator", data := .fields #[.ref t, .int 0 0] }).objs.size = s.heap.objs.size + 1 := Heap.size_push ..
  show _ ∧ _
  rw [z1]
  have en : IsEnum ((s.heap.push { cls := .type "tuple_iterator", data := .fields #[.ref t, .int 0 0] }).push { cls := .type "enumerate", data := .fields #[.none, .bool false, .ref s.heap.objs.size, rawInt 0, .none, .none] }) (s.heap.objs.size + 1) s.heap.objs.size 0 .none := by
    have z2 := Heap.get?_push_size (s.heap.push { cls := .type "tuple_iterator", data := .fields #[.ref t, .int 0 0] }) (o := { cls := .type "enumerate", data := .fields #[.none, .bool false, .ref s.heap.objs.size, rawInt 0, .none, .none] }) rfl
    rw [z1] at z2
    exact z2
  exact ⟨⟨_, en, rfl⟩, win _ en ⟨_, Heap.get?_push_of_some _ (Heap.get?_push_size _ rfl), rfl, rfl⟩ fun b o x => Heap.get?_push_of_some _ (Heap.get?_push_of_some _ x)⟩
end
end Q2
namespace Q2
open PySem PySem.Spec PyProof.Rows L2
/-- the tuple at a, each item in a new pair -/
def ItET (K : PySem.W.Frag) (a : Addr) : It :=
  ⟨fun i H => ∃ (xs : List V) (x : V), SqT K H a xs ∧ xs[i]? = some x, fun i H v H' => ∃ T x, v = .ref T ∧ H T = none ∧ H' = upd H T (.tup [.int (i : Nat), x]) ∧ ∀ xs, SqT K H a xs → xs[i]? = some x, fun i H => ∃ xs : List V, SqT K H a xs ∧ xs.length ≤ i⟩
theorem draws_end {prog : Program} {w : World} {A : Around} (calm : A.handled = none) (it t : Addr) (items : Array Value) (i : Nat) (over : items[i]? = none) :
    PySem.Draws prog w A it [it, t] 0 (fun _ _ => False) (fun _ h => h.IsTupleIter it t i ∧ h.IsTuple t items) where
  live := fun _ _ st => let ⟨o, ho, _⟩ := st.1; ⟨o, ho⟩
  frame := fun _ _ _ st hk => ⟨st.1.at fun o e => hk it (by simp) o e, st.2.at fun o e => hk t (by simp) o e⟩
  item := fun j s Q E hj => absurd hj (Nat.not_lt_zero j)
  done := fun s Q E st hE => wpAny_nextOf_tuple_end calm st.1 st.2 over hE
theorem turn_enumT {P : Program} {w : World} {K : PySem.W.Frag} {elts : List Expr} {kk : Nat} {tpos : Pos} (a e it : Addr) :
    Turn P w K (.Tuple elts kk tpos) (ItET K a) [e, it] e (fun i h => (∃ old, IsEnum h e it ((i : Nat) : Int) old) ∧ h.IsTupleIter it a i ∧ e ≠ it) where
  mem := by simp
  obj := fun i h st b hb => by
    obtain ⟨⟨old, en⟩, ⟨o, ho, hc, hd⟩, _⟩ := st
    rcases (show b = e ∨ b = it by simpa using hb) with z | z
    · rw [z]
      exact ⟨_, en, fun v q => nomatch q⟩
    · rw [z]
      exact ⟨o, ho, fun v q => by rw [hd] at q; cases q⟩
  keep := fun i h h' st k => let ⟨⟨old, en⟩, hi, hne⟩ := st; ⟨⟨old, k e (by simp) _ en⟩, hi.at fun o q => k it (by simp) o q, hne⟩
  item := by
    intro X hP hw hK hc i pins s σ H E I hf st hg
    subst hP hw hK
    obtain ⟨⟨old, en⟩, hit, hne⟩ := st
    obtain ⟨xs, x, hq, hx⟩ := hg
    obtain ⟨its, rv, tup, _⟩ := I.tuple hq
    obtain ⟨u, hu, ru⟩ := rv.get hx
    have lts : i < its.toArray.size := by
      have := (List.getElem?_eq_some_iff.mp hu).1
      simpa using this
    have le : e < s.heap.objs.size := Heap.lt_size en
    have li : it < s.heap.objs.size := by obtain ⟨_, q, _⟩ := hit; exact Heap.lt_size q
    have ati : a ≠ it := fun z => by
      obtain ⟨o1, h1, c1, _⟩ := hit
      obtain ⟨o2, h2, c2, _⟩ := tup
      rw [z, h1] at h2
      cases h2
      rw [c1] at c2
      exact absurd c2 (by decide)
    have ate : a ≠ e := fun z => by
      obtain ⟨o2, h2, c2, _⟩ := tup
      rw [z, show s.heap.get? e = _ from en] at h2
      cases h2
      injection c2 with c3
      exact absurd c3 (by decide)
    refine PySem.wpAny_pyNext_enum_itemD (PySem.Draws.tuple (A := X.A.in1) (show X.A.in1.handled = none from I.ok.hd hc) it a ati its.toArray) en ⟨hit, tup⟩ lts hne (by simp; exact ⟨hne, fun z => ate z.symm⟩) fun y h' tk hy ho st' hT hsz hk => ?_
    have ey : y = u := by
      have h0 : its.toArray[i]? = some y := hy
      have h1 : its.toArray[i]? = some u := by simpa using hu
      rw [h0] at h1
      exact Option.some.inj h1
    subst ey
    refine ⟨_, rfl, wpAny_letOwnedTupleGo_enum (s := { s with heap := h', toks := tk + 1 }) ho fun h'' he' sb => ?_⟩
    have hT2 : h''.get? s.heap.objs.size = some { cls := .type "tuple", data := .seq #[.int i tk, y] } := (sb.2 _ (Nat.ne_of_gt le)).trans hT
    have new : ObjOk X.prog X.w (upd H s.heap.objs.size (.tup [.int (i : Nat), x])) h'' s.heap.objs.size (.tup [.int (i : Nat), x]) := ⟨by show 2 ≤ sizeLine; decide, [.int i tk, y], .cons ⟨_, rfl⟩ (.cons ru .nil), ⟨_, hT2, rfl, _, rfl⟩⟩
    have I1 : Inv X pins σ (upd H s.heap.objs.size (.tup [.int (i : Nat), x])) { s with heap := h'', toks := tk + 1 } :=
      I.turnedNew (ch := [e, it]) (fun b ob hb q => (sb.2 b (fun z => hb (by simp [z]))).trans (hk b ob (fun z => hb (by simp [z])) (fun z => hb (by simp [z])) q)) hf (Nat.le_refl _) new
    refine ⟨.ref s.heap.objs.size, _, I1, rfl, ⟨_, x, rfl, I.hok.fresh (Nat.le_refl _), rfl, fun ys hy2 => by rw [I.tuple_inj hy2 hq]; exact hx⟩, ⟨⟨y, ?_⟩, st'.1.at fun o q => (sb.2 it (Ne.symm hne)).trans q, hne⟩, fun b hb => ?_⟩
    · rw [show ((i + 1 : Nat) : Int) = (i : Int) + 1 by omega]
      exact he'
    · have hb' : b < s.heap.objs.size := by
        rcases (show b = e ∨ b = it by simpa using hb) with z | z
        · rw [z]; exact le
        · rw [z]; exact li
      rw [upd_ne (Nat.ne_of_lt hb')]
      exact (hf b hb).1
  done := by
    intro X hP hw hK hc i pins s σ H E I hf st hg
    subst hP hw hK
    obtain ⟨⟨old, en⟩, hit, hne⟩ := st
    obtain ⟨xs, hq, hx⟩ := hg
    obtain ⟨its, rv, tup, _⟩ := I.tuple hq
    obtain ⟨f0, f1, f2, f3, f4, f5⟩ := hf it (by simp)
    have hl := rv.length
    exact PySem.wpAny_pyNext_enum_endD (n := 0) (draws_end (A := X.A.in1) (show X.A.in1.handled = none from I.ok.hd hc) it a its.toArray i (by simp; omega)) en ⟨hit, tup⟩ fun h' eb => ⟨rfl, I.turned (t' := s.toks) (fun b o hb q => eb b o hb q) f0 f1 f3 f4 f5⟩
  self := fun A i s Q E st h => let ⟨⟨_, en⟩, _⟩ := st; wpAny_pyIter_enum en h
/-- enumerate of a list or a tuple -/
def EnumOf (K : PySem.W.Frag) (H : Hp) (a : Addr) (xs : List V) (J : It) : Prop := (SqL K H a xs ∧ J = Ite K a) ∨ (SqT K H a xs ∧ J = ItET K a)
def iEnumA (K : PySem.W.Frag) (ta : TA) : TI := fun σ H R => ta σ H fun vs H1 => ∃ a xs J, vs = [.ref a] ∧ EnumOf K H1 a xs J ∧ R J H1
theorem pi_enumA {X : Cx} {e : Expr} {ta : TA} {p pos tpos : Pos} {elts : List Expr} {kk : Nat} (hg : Gl X "enumerate") (hm : X.mg "enumerate" = none) (ha : PA X [e] ta) (hs : starEach [e] X.env = [(false, eval e X.env)] := by rfl) :
    PI X (.Tuple elts kk tpos) (.Call (.Name "enumerate" p) [e] [] pos) (iEnumA X.K ta) := by
  refine ⟨fun pins s σ H R I h => ?_⟩
  refine Call_ (ld_blt I hg hm boot_enumerate (PyProof.Rows.callWith_type1 (thn (ha.run pos pins s σ H _ I h) fun us s1 ⟨vs, H1, I1, r1, q1⟩ => ?_) hs rfl))
  obtain ⟨a, xs, J, rfl, hq, q⟩ := q1
  obtain rfl := Vals.ref1 r1
  have fp : ∀ b ∈ [s1.heap.objs.size + 1, s1.heap.objs.size], FpOk X pins H1 b := fun b hb => by
    have hle : s1.heap.objs.size ≤ b := by
      rcases (show b = s1.heap.objs.size + 1 ∨ b = s1.heap.objs.size by simpa using hb) with z | z
      · rw [z]; exact Nat.le_add_right _ _
      · rw [z]; exact Nat.le_refl _
    exact I1.fpOk hle (I1.hok.fresh hle)
  rcases hq with ⟨hq, rfl⟩ | ⟨hq, rfl⟩
  · obtain ⟨its, rv, p', hz⟩ := I1.list hq
    refine call_enumerate_list p'.isList fun h' he hit hsz hk => wpAny_pyIter_enum he ?_
    have I2 : Inv X pins σ H1 { s1 with heap := h' } := I1.kept (t' := s1.toks) hk
    exact ⟨s1.heap.objs.size + 1, [s1.heap.objs.size + 1, s1.heap.objs.size], _, _, H1, rfl, I2, turn_enum a (s1.heap.objs.size + 1) s1.heap.objs.size, ⟨⟨.none, he⟩, hit, Nat.succ_ne_self _⟩, fp, q⟩
  · obtain ⟨its, rv, p', hz⟩ := I1.tuple hq
    refine enum_tup p' fun h' he hit hk => wpAny_pyIter_enum he ?_
    have I2 : Inv X pins σ H1 { s1 with heap := h' } := I1.kept (t' := s1.toks) hk
    exact ⟨s1.heap.objs.size + 1, [s1.heap.objs.size + 1, s1.heap.objs.size], _, _, H1, rfl, I2, turn_enumT a (s1.heap.objs.size + 1) s1.heap.objs.size, ⟨⟨.none, he⟩, hit, Nat.succ_ne_self _⟩, fp, q⟩
theorem walk_enumT {K : PySem.W.Frag} {a : Addr} {xs : List V} : Walk (ItET K a) xs.length (fun H => SqT K H a xs) (YPair (fun i => some (.int (i : Nat))) (fun i => xs[i]?)) where
  goes := fun i H hi hq => ⟨xs, xs[i], hq, List.getElem?_eq_getElem hi⟩
  stops := fun H hq => ⟨xs, hq, Nat.le_refl _⟩
  yields := fun i H v H' hi hq y => by
    obtain ⟨T, x, h1, h2, h3, h4⟩ := y
    exact ⟨T, _, x, h1, h2, h3, rfl, h4 xs hq⟩
end Q2

namespace Q2
open PySem PySem.Spec PyProof.Rows L2
def top (i : Nat) : Stmt := PySem.Challenge.pw_planesplits_k01_parts_and_orders.main.body.getD i (.Pass ⟨0, 0, 0, 0⟩)
abbrev s_is_integer : Stmt := top 8
abbrev s_is_coordinate : Stmt := top 9
abbrev s_is_point : Stmt := top 10
abbrev s_check_point : Stmt := top 11
abbrev s_check_points : Stmt := top 12
abbrev s_check_number : Stmt := top 13
abbrev s_y_key : Stmt := top 15
abbrev s_part_of : Stmt := top 16
abbrev s_quarter : Stmt := top 17
abbrev s_ordered : Stmt := top 18
abbrev s_law_mixed : Stmt := top 20
abbrev s_law_source : Stmt := top 21
abbrev s_law_take : Stmt := top 22
abbrev s_law_pick : Stmt := top 23
abbrev s_law_spots : Stmt := top 24
abbrev s_law_end : Stmt := top 25
abbrev s_law_box : Stmt := top 26
abbrev s_law_holds : Stmt := top 27
abbrev s_law_less : Stmt := top 28
abbrev s_law_sorted : Stmt := top 29
abbrev s_law : Stmt := top 30
end Q2


namespace Q2
open PySem PySem.Spec PyProof.Rows L2
/-! ### the built-ins that stand as they were -/
structure Bt (mg : Str → Option Value) : Prop where
  int : mg "int" = none
  abs : mg "abs" = none
  len : mg "len" = none
  range : mg "range" = none
  isi : mg "isinstance" = none
  bool : mg "bool" = none
  tuple : mg "tuple" = none
  all : mg "all" = none
  repr : mg "repr" = none
abbrev Lo : Int := 1000000000000000000000000000000
abbrev FnP (K : PySem.W.Frag) (x : Str) (st : Stmt) (f : Addr) (fd : FuncData) : Prop := Fun K x x st f fd
theorem mod_rng {m : Int} (x : Int) (h : 0 < m) (hm : m ≤ 2147483647) : 0 ≤ x % m ∧ x % m ≤ 2147483646 := by
  have h1 := Int.emod_nonneg x (by omega : m ≠ 0)
  have h2 := Int.emod_lt_of_pos x h
  omega
theorem cmul_l {i j : Int} (h : 0 ≤ i ∧ i ≤ 4294967296) : CMul i j := .inl ⟨by omega, by omega⟩
theorem cdiv_w {i j : Int} (h : 0 < j) (h2 : j ≤ 10000000000000000000000000000000000000000) : CDivW i j := wide_div (b := 200) h (by omega) (by decide) (by decide)
section
variable {P : Program} {w : World} {K : PySem.W.Frag} {mg : Str → Option Value} {base : Heap}
/-! ### _law_mixed -/
theorem scMixed : FnScope ["_law_cell", "_law_draw", "_law_figure"] ["_law_cell", "_law_draw"] (defScope s_law_mixed) := ⟨rfl, rfl, rfl, by decide +kernel, rfl, by decide +kernel, by decide +kernel⟩
def spMixed : Sp := fun vs H Q _ => ∃ a b : Int, vs = [.int a, .int b] ∧ ∀ d : Int, 0 ≤ d → Q (.int d) H
theorem ok_mixed {f : Addr} {fd : FuncData} (F : FnP K "_law_mixed" s_law_mixed f fd) (B : Bt mg) : FnOk P w K mg base CX0 1 f fd ["_law_cell", "_law_draw"] spMixed := by
  refine F.ok scMixed (fun vs H Q E h => ?_) (fun cdv A outer s H vs Q E hr h => ?_)
  · obtain ⟨a, b, rfl, _⟩ := h
    rfl
  · obtain ⟨a, b, rfl, q⟩ := h
    refine ⟨_, pss_cons (ps_set (i := 2) scMixed.nd rfl (.inl rfl) (pe_op op_mod (pe_callTy call_int1 (by rfl) B.int (by decide +kernel) (pa_cons (pe_op op_mul (pe_op op_add (pe_op op_mod (pe_callTy call_int1 (by rfl) B.int (by decide +kernel) (pa_cons (pv 0) pa_nil)) pe_int) pe_int) (pe_op op_add (pe_op op_mul (pv 1) pe_int) pe_int)) pa_nil)) pe_int))
      (pss_cons (ps_set (i := 2) scMixed.nd rfl (.inl rfl) (pe_op op_mod (pe_callTy call_int1 (by rfl) B.int (by decide +kernel) (pa_cons (pe_op op_mul (pe_op op_add (pv 2) (pe_op op_mul (pe_op op_mod (pe_callTy call_int1 (by rfl) B.int (by decide +kernel) (pa_cons (pe_op op_fdivW (pv 0) pe_int) pa_nil)) pe_int) (pe_op op_add (pv 1) pe_int))) pe_int) pa_nil)) pe_int))
      (pss_cons (ps_set (i := 2) scMixed.nd rfl (.inl rfl) (pe_op op_mod (pe_callTy call_int1 (by rfl) B.int (by decide +kernel) (pa_cons (pe_op op_mul (pv 2) (pe_op op_add (pe_op op_add (pe_op op_fdiv (pv 2) pe_int) pe_int) (pv 1))) pa_nil)) pe_int))
      (pss_one (ps_ret (pe_op op_mod (pe_callTy call_int1 (by rfl) B.int (by decide +kernel) (pa_cons (pe_op op_mul (pv 2) (pe_op op_add (pe_op op_fdiv (pv 2) pe_int) pe_int)) pa_nil)) pe_int))))), ?_⟩
    -- the first figure
    have m0 := mod_rng (m := 2147483646) a (by decide) (by decide)
    refine ⟨_, rfl, .inl ⟨_, rfl, _, _, rfl, rfl, (by decide : (0 : Int) < 2147483646), _, _, rfl, rfl, _, rfl, _, _, rfl, rfl, .inr ⟨by decide, by decide⟩, _, _, rfl, rfl, _, _, rfl, rfl, cmul_l (by omega), .inl ⟨_, rfl, _, _, rfl, rfl, (by decide : (0 : Int) < 2147483647), ?_⟩⟩⟩
    have m1 := mod_rng (m := 2147483647) ((a % 2147483646 + 1) * (b * 7919 + 104729)) (by decide) (by decide)
    generalize ((a % 2147483646 + 1) * (b * 7919 + 104729)) % 2147483647 = g1 at m1 ⊢
    -- the second
    have m2 := mod_rng (m := 1000003) (a / 2147483646) (by decide) (by decide)
    refine ⟨_, rfl, _, rfl, _, _, rfl, rfl, cdiv_w (by decide) (by decide), .inl ⟨_, rfl, _, _, rfl, rfl, (by decide : (0 : Int) < 1000003), _, rfl, _, _, rfl, rfl, _, _, rfl, rfl, cmul_l (by omega), _, _, rfl, rfl, _, _, rfl, rfl, .inr ⟨by decide, by decide⟩, .inl ⟨_, rfl, _, _, rfl, rfl, (by decide : (0 : Int) < 2147483629), ?_⟩⟩⟩
    have m3 := mod_rng (m := 2147483629) ((g1 + a / 2147483646 % 1000003 * (b + 31)) * 48271) (by decide) (by decide)
    generalize ((g1 + a / 2147483646 % 1000003 * (b + 31)) * 48271) % 2147483629 = g2 at m3 ⊢
    -- the third
    refine ⟨_, rfl, _, rfl, _, _, rfl, rfl, ⟨by decide, by decide⟩, _, _, rfl, rfl, _, rfl, _, _, rfl, rfl, _, _, rfl, rfl, cmul_l (by omega), .inl ⟨_, rfl, _, _, rfl, rfl, (by decide : (0 : Int) < 2147483587), ?_⟩⟩
    have m4 := mod_rng (m := 2147483587) (g2 * (g2 / 1013 + 69621 + b)) (by decide) (by decide)
    generalize (g2 * (g2 / 1013 + 69621 + b)) % 2147483587 = g3 at m4 ⊢
    refine ⟨_, rfl, _, rfl, _, _, rfl, rfl, ⟨by decide, by decide⟩, _, _, rfl, rfl, _, _, rfl, rfl, cmul_l (by omega), .inl ⟨_, rfl, _, _, rfl, rfl, (by decide : (0 : Int) < 2147483563), ?_⟩⟩
    exact q _ (Int.emod_nonneg _ (by decide))
/-! ### _law_source -/
theorem scSource : FnScope ["_law_cell"] ["_law_cell"] (defScope s_law_source) := ⟨rfl, rfl, rfl, by decide +kernel, rfl, by decide +kernel, by decide +kernel⟩
def spSource : Sp := fun vs H Q _ => ∃ n : Int, vs = [.int n] ∧ ∀ s H', Same H H' → H s = none → Src H' s → Q (.ref s) H'
theorem ok_source {f : Addr} {fd : FuncData} (F : FnP K "_law_source" s_law_source f fd) (B : Bt mg) : FnOk P w K mg base CX0 1 f fd ["_law_cell"] spSource := by
  refine F.ok scSource (fun vs H Q E h => ?_) (fun cdv A outer s H vs Q E hr h => ?_)
  · obtain ⟨a, rfl, _⟩ := h
    rfl
  · obtain ⟨a, rfl, q⟩ := h
    refine ⟨_, pss_cons (ps_if (pt_cmpR op_ge (pe_callB call_abs (by rfl) B.abs (by decide +kernel) (pa_cons (pv 0) pa_nil)) (pe_op op_pow pe_int pe_int) (nomark _))
        (pss_one (ps_ret (pe_lst (pa_cons (pe_callB call_abs (by rfl) B.abs (by decide +kernel) (pa_cons (pv 0) pa_nil)) (pa_cons (pe_callB call_abs (by rfl) B.abs (by decide +kernel) (pa_cons (pv 0) pa_nil)) (pa_cons pe_int pa_nil)))))) pss_nil)
      (pss_one (ps_ret (pe_lst (pa_cons pe_int (pa_cons (pe_callB call_abs (by rfl) B.abs (by decide +kernel) (pa_cons (pv 0) pa_nil)) (pa_cons pe_int pa_nil)))))), ?_⟩
    have h0 : (0 : Int) ≤ (if a < 0 then -a else a) := by split <;> omega
    refine ⟨_, rfl, _, rfl, _, _, rfl, rfl, ⟨by decide, by decide, by decide⟩, _, _, rfl, rfl, _, rfl, ite2 (fun _ => ?_) (fun _ => ?_)⟩
    · refine ⟨_, rfl, _, rfl, _, rfl, _, rfl, (by show 3 ≤ sizeLine; decide), fun l hl => ?_⟩
      exact q l _ (same_new hl) hl ⟨_, _, _, h0, upd_same⟩
    · refine ⟨_, rfl, _, rfl, (by show 3 ≤ sizeLine; decide), fun l hl => ?_⟩
      exact q l _ (same_new hl) hl ⟨_, _, _, Int.le_refl _, upd_same⟩
/-! ### _law_take -/
theorem scTake : FnScope ["_law_source_here", "_law_bound", "_law_drawn"] ["_law_source_here", "_law_bound"] (defScope s_law_take) := ⟨rfl, rfl, rfl, by decide +kernel, rfl, by decide +kernel, by decide +kernel⟩
def spTake : Sp := fun vs H Q _ => ∃ (s : Addr) (n : Int), vs = [.ref s, .int n] ∧ Src H s ∧ 0 < n ∧ n ≤ 10000000000000000000000000000000000000000 ∧ ∀ (d : Int) H', 0 ≤ d → d < n → Src H' s → Ex s H H' → Q (.int d) H'
theorem ok_take {f fM : Addr} {fd fdM : FuncData} (F : FnP K "_law_take" s_law_take f fd) (B : Bt mg) (FM : FnP K "_law_mixed" s_law_mixed fM fdM) (bM : Binds K fdM ["_law_cell", "_law_draw"] []) (gM : mg "_law_mixed" = some (.ref fM)) : FnOk P w K mg base CX0 2 f fd ["_law_source_here", "_law_bound"] spTake := by
  have GM : FnOk P w K mg base CX0 1 fM fdM ["_law_cell", "_law_draw"] spMixed := ok_mixed FM B
  refine F.ok scTake (fun vs H Q E h => ?_) (fun cdv A outer s H vs Q E hr h => ?_)
  · obtain ⟨a, b, rfl, _⟩ := h
    rfl
  · obtain ⟨p, n, rfl, ⟨a, b, c, h0, hS⟩, n0, n1, q⟩ := h
    refine ⟨_, pss_cons (ps_if (pt_cmpR op_gt (pe_ix ix_list (pv 0) pe_int (fun _ _ => rfl)) pe_int (nomark _))
        (pss_cons (ps_set (i := 2) scTake.nd rfl (.inl rfl) (pe_op op_mod (pe_callTy call_int1 (by rfl) B.int (by decide +kernel) (pa_cons (pe_ix ix_list (pv 0) pe_int (fun _ _ => rfl)) pa_nil)) (pv 1)))
        (pss_cons (ps_asg (pe_op op_fdivW (pe_ix ix_list (pv 0) pe_int (fun _ _ => rfl)) (pv 1)) (pg_sub (pv 0) pe_int set_list))
        (pss_one (ps_ret (pv 2))))) pss_nil)
      (pss_cons (ps_asg (pe_op op_add (pe_ix ix_list (pv 0) pe_int (fun _ _ => rfl)) pe_int) (pg_sub (pv 0) pe_int set_list))
      (pss_one (ps_ret (pe_op op_mod (pe_callTy call_int1 (by rfl) B.int (by decide +kernel) (pa_cons (pe_call GM hr (by rfl) gM FM.kp bM .nil pass0 (pa_cons (pe_ix ix_list (pv 0) pe_int (fun _ _ => rfl)) (pa_cons (pe_ix ix_list (pv 0) pe_int (fun _ _ => rfl)) pa_nil))) pa_nil)) (pv 1))))), ?_⟩
    refine ⟨_, rfl, p, _, 0, .int a, rfl, rfl, SqL.of hS, atI_nat (j := 0) rfl, _, _, rfl, rfl, _, rfl, ite2 (fun e => ?_) (fun e => ?_)⟩
    · have ea : 0 < a := of_decide_eq_true e
      refine ⟨_, rfl, p, _, 0, .int a, rfl, rfl, SqL.of hS, atI_nat (j := 0) rfl, .inl ⟨_, rfl, _, rfl, _, _, rfl, rfl, n0, ?_⟩⟩
      refine ⟨_, rfl, p, _, 0, .int a, rfl, rfl, SqL.of hS, atI_nat (j := 0) rfl, _, rfl, _, _, rfl, rfl, cdiv_w n0 n1, _, rfl, p, _, 0, 0, rfl, rfl, hS, rfl, ?_⟩
      exact ⟨_, rfl, q _ _ (Int.emod_nonneg _ (by omega)) (Int.emod_lt_of_pos _ n0) ⟨_, b, c, Int.ediv_nonneg h0 (by omega), upd_same⟩ Ex.put⟩
    · refine ⟨_, rfl, p, _, 2, .int c, rfl, rfl, SqL.of hS, atI_nat (j := 2) rfl, _, _, rfl, rfl, _, rfl, p, _, 2, 2, rfl, rfl, hS, rfl, ?_⟩
      refine ⟨_, rfl, p, _, 1, .int b, rfl, rfl, SqL.of upd_same, atI_nat (j := 1) rfl, _, rfl, p, _, 2, .int (c + 1), rfl, rfl, SqL.of upd_same, atI_nat (j := 2) rfl, b, c + 1, rfl, fun d hd => ?_⟩
      refine .inl ⟨_, rfl, _, rfl, _, _, rfl, rfl, n0, ?_⟩
      exact q _ _ (Int.emod_nonneg _ (by omega)) (Int.emod_lt_of_pos _ n0) ⟨a, b, c + 1, h0, upd_same⟩ Ex.put
/-! ### _law_pick -/
theorem scPick : FnScope ["_law_source_here", "_law_some"] ["_law_source_here", "_law_some"] (defScope s_law_pick) := ⟨rfl, rfl, rfl, by decide +kernel, rfl, by decide +kernel, by decide +kernel⟩
def spPick : Sp := fun vs H Q _ => ∃ (s l : Addr) (xs : List V), vs = [.ref s, .ref l] ∧ Src H s ∧ l ≠ s ∧ H l = some (.lst xs) ∧ xs ≠ [] ∧ xs.length ≤ 1000 ∧ ∀ v H', v ∈ xs → Src H' s → Ex s H H' → Q v H'
theorem ok_pick {f fT fM : Addr} {fd fdT fdM : FuncData} (F : FnP K "_law_pick" s_law_pick f fd) (B : Bt mg) (GT : FnOk P w K mg base CX0 2 fT fdT ["_law_source_here", "_law_bound"] spTake) (kT : PySem.W.keepIn K (.ref fT) = true) (bT : Binds K fdT ["_law_source_here", "_law_bound"] []) (gT : mg "_law_take" = some (.ref fT)) : FnOk P w K mg base CX0 3 f fd ["_law_source_here", "_law_some"] spPick := by
  refine F.ok scPick (fun vs H Q E h => ?_) (fun cdv A outer s H vs Q E hr h => ?_)
  · obtain ⟨a, b, xs, rfl, _⟩ := h
    rfl
  · obtain ⟨p, l, xs, rfl, hS, hne, hl, hx, hlen, q⟩ := h
    refine ⟨_, pss_one (ps_ret (pe_ix ix_list (pv 1) (pe_call GT hr (by rfl) gT kT bT .nil pass0 (pa_cons (pv 0) (pa_cons (pe_callB call_len_seq (by rfl) B.len PySem.boot_len (pa_cons (pv 1) pa_nil)) pa_nil))) (fun _ _ => rfl))), ?_⟩
    have hpos : 0 < xs.length := List.length_pos_iff.mpr hx
    refine ⟨_, rfl, _, rfl, _, rfl, l, xs, rfl, .inl (SqL.of hl), p, (xs.length : Int), rfl, hS, (by omega), (by omega), fun d H' d0 d1 hS' e => ?_⟩
    have hl' : H' l = some (.lst xs) := e _ _ hl hne
    have hd : d.toNat < xs.length := by omega
    refine ⟨l, xs, d, xs[d.toNat], rfl, rfl, SqL.of hl', at_of (j := d.toNat) (by omega) (List.getElem?_eq_getElem hd), ?_⟩
    exact q _ _ (List.getElem_mem hd) hS' e
end
end Q2

namespace Q2
open PySem PySem.Spec PyProof.Rows L2
theorem Ex.free {s p : Addr} {H H' : Hp} (hs : Src H' s) (e : Ex s H H') (h : H' p = none) : H p = none := by
  cases q : H p with
  | none => rfl
  | some o =>
    have n : p ≠ s := hs.ne h
    rw [e _ _ q n] at h
    cases h
theorem hu65 {A : Around} {k : Nat} (hr : Room k A) : A.units + 65 < cLine := by have := hr.un; omega
theorem hu64 {A : Around} {k : Nat} (hr : Room k A) : A.units + 64 < cLine := by have := hr.un; omega
section
variable {P : Program} {w : World} {K : PySem.W.Frag} {mg : Str → Option Value} {base : Heap}
/-! ### _law_spots -/
theorem scSpots : FnScope ["_law_source_here", "_law_most", "_law_many", "_law_wide", "_law_found", "_law_turn", "_law_spot"] ["_law_source_here", "_law_most"] (defScope s_law_spots) := ⟨rfl, rfl, rfl, by decide +kernel, rfl, by decide +kernel, by decide +kernel⟩
def spSpots : Sp := fun vs H Q _ => ∃ (s : Addr) (n : Int), vs = [.ref s, .int n] ∧ Src H s ∧ 0 ≤ n ∧ n ≤ 40 ∧ ∀ (a : Addr) (ps : Pts) H', Src H' s → Ex s H H' → H a = none → Spots H' Lo a ps → (ps.map (·.2)).Nodup → (ps.length : Int) ≤ n → Q (.ref a) H'
theorem wide_of {v : V} (h : v ∈ [V.int 3, V.int 6, V.int 20, V.int ((10 : Int) ^ (9 : Int).toNat), V.int ((10 : Int) ^ (30 : Int).toNat)]) : ∃ z : Int, v = .int z ∧ 0 < z ∧ z ≤ Lo := by
  simp only [List.mem_cons, List.not_mem_nil, or_false] at h
  rcases h with rfl | rfl | rfl | rfl | rfl
  · exact ⟨_, rfl, by decide, by decide⟩
  · exact ⟨_, rfl, by decide, by decide⟩
  · exact ⟨_, rfl, by decide, by decide⟩
  · exact ⟨_, rfl, by decide, by decide⟩
  · exact ⟨_, rfl, by decide, by decide⟩
theorem ok_spots {f fT fP : Addr} {fd fdT fdP : FuncData} (F : FnP K "_law_spots" s_law_spots f fd) (B : Bt mg) (GT : FnOk P w K mg base CX0 2 fT fdT ["_law_source_here", "_law_bound"] spTake) (kT : PySem.W.keepIn K (.ref fT) = true) (bT : Binds K fdT ["_law_source_here", "_law_bound"] []) (gT : mg "_law_take" = some (.ref fT))
    (GP : FnOk P w K mg base CX0 3 fP fdP ["_law_source_here", "_law_some"] spPick) (kP : PySem.W.keepIn K (.ref fP) = true) (bP : Binds K fdP ["_law_source_here", "_law_some"] []) (gP : mg "_law_pick" = some (.ref fP)) : FnOk P w K mg base CX0 4 f fd ["_law_source_here", "_law_most"] spSpots := by
  refine F.ok scSpots (fun vs H Q E h => ?_) (fun cdv A outer s H vs Q E hr h => ?_)
  · obtain ⟨a, b, rfl, _⟩ := h
    rfl
  · obtain ⟨p, n, rfl, hS, n0, n1, q⟩ := h
    refine ⟨_, pss_cons (ps_par (i := 2) (j := 3) rfl scSpots.nd rfl rfl (by decide) rfl rfl
        (pa_cons (pe_call GT (hr.mono (by decide)) (by rfl) gT kT bT .nil pass0 (pa_cons (pv 0) (pa_cons (pe_op op_add (pv 1) pe_int) pa_nil)))
        (pa_cons (pe_call GP hr (by rfl) gP kP bP .nil pass0 (pa_cons (pv 0) (pa_cons (pe_lst (pa_cons pe_int (pa_cons pe_int (pa_cons pe_int (pa_cons (pe_op op_pow pe_int pe_int) (pa_cons (pe_op op_pow pe_int pe_int) pa_nil)))))) pa_nil))) pa_nil)) rfl)
      (pss_cons (ps_set (i := 4) scSpots.nd rfl (.inl rfl) (pe_lst pa_nil))
      (pss_cons (ps_for PassesOwn.never rfl (pi_range1 (by rfl) B.range (pa_cons (pv 2) pa_nil)) (pg_name (i := 5) scSpots.nd rfl (.inl rfl))
        (pss_cons (ps_set (i := 6) scSpots.nd rfl (.inl rfl) (pe_tup
            (pa_cons (pe_op op_sub (pe_call GT (hr.mono (by decide)) (by rfl) gT kT bT .nil pass0 (pa_cons (pv 0) (pa_cons (pe_op op_add (pe_op op_mul pe_int (pv 3)) pe_int) pa_nil))) (pv 3))
            (pa_cons (pe_op op_sub (pe_call GT (hr.mono (by decide)) (by rfl) gT kT bT .nil pass0 (pa_cons (pv 0) (pa_cons (pe_op op_add (pe_op op_mul pe_int (pv 3)) pe_int) pa_nil))) (pv 3)) pa_nil))))
        (pss_one (ps_set (i := 4) scSpots.nd rfl (.inl rfl) (pe_op op_cat (pv 4) (pe_op op_rep (pe_lst (pa_cons (pv 6) pa_nil)) (pe_callTy call_int1 (by rfl) B.int (by decide +kernel) (pa_cons (pe_cmpR (op_notInD (hu65 hr)) (pv 6) (pv 4) (by rfl)) pa_nil))))))))
      (pss_one (ps_ret (pv 4))))), ?_⟩
    -- many, wide
    refine ⟨_, rfl, _, rfl, _, _, rfl, rfl, p, n + 1, rfl, hS, by omega, by omega, fun many H1 m0 m1 hS1 e1 => ?_⟩
    refine ⟨_, rfl, _, _, rfl, rfl, ⟨by decide, by decide, by decide⟩, _, _, rfl, rfl, ⟨by decide, by decide, by decide⟩, (by show 5 ≤ sizeLine; decide), fun l hl => ?_⟩
    refine ⟨p, l, _, rfl, hS1.same (same_new hl), hS1.ne hl, upd_same, List.cons_ne_nil _ _, (by show 5 ≤ 1000; decide), fun v H2 hv hS2 e2 => ?_⟩
    obtain ⟨z, rfl, z0, z1⟩ := wide_of hv
    have e12 : Ex p H H2 := (e1.trans (Ex.same (same_new hl))).trans e2
    refine ⟨_, _, rfl, Nat.zero_le _, fun a ha => ?_⟩
    have fa : H a = none := e12.free hS2 ha
    refine ⟨_, rfl, many, rfl, by omega, by omega, for_range (n := many.toNat) (fun i σ H3 => ∃ (b : Addr) (ps : Pts) (y5 y6 : Option V), σ = [some (.ref p), some (.int n), some (.int many), some (.int z), some (.ref b), y5, y6] ∧ Src H3 p ∧ Ex p H H3 ∧ H b = none ∧ Spots H3 Lo b ps ∧ (ps.map (·.2)).Nodup ∧ ps.length ≤ i) ?_ ?_ ?_⟩
    · exact ⟨a, [], none, none, rfl, hS2.same (same_new ha), e12.trans (Ex.same (same_new ha)), fa, ⟨upd_same, Nat.zero_le _, fun q hq => (List.not_mem_nil hq).elim⟩, List.nodup_nil, Nat.le_refl _⟩
    · rintro i σ H3 hi ⟨b, ps, y5, y6, rfl, hS3, e3, fb, hP, hnd, hl3⟩
      have hz : (2 : Int) * z + 1 ≤ 10000000000000000000000000000000000000000 := by
        have z1' : z ≤ 1000000000000000000000000000000 := z1
        omega
      refine ⟨_, rfl, _, rfl, _, _, rfl, rfl, .inl ⟨by decide, by decide⟩, _, _, rfl, rfl, p, _, rfl, hS3, by omega, hz, fun x H4 x0 x1 hS4 e4 => ?_⟩
      refine ⟨_, rfl, _, _, rfl, rfl, _, rfl, _, rfl, _, _, rfl, rfl, .inl ⟨by decide, by decide⟩, _, _, rfl, rfl, p, _, rfl, hS4, by omega, hz, fun y H5 y0 y1 hS5 e5 => ?_⟩
      refine ⟨_, rfl, _, _, rfl, rfl, (by show 2 ≤ sizeLine; decide), fun t ht => ?_⟩
      have hbp : b ≠ p := fun e => by
        obtain ⟨_, _, _, _, h⟩ := hS
        rw [e, h] at fb
        cases fb
      have hP5 : Spots H5 Lo b ps := hP.ex hS3 hbp (e4.trans e5)
      have hP6 := hP5.same (same_new (o := .tup [.int (x - z), .int (y - z)]) ht)
      have hq : PtAt (upd H5 t (.tup [.int (x - z), .int (y - z)])) Lo (t, x - z, y - z) := ⟨upd_same, ⟨by have z1' : z ≤ 1000000000000000000000000000000 := z1; show -1000000000000000000000000000000 ≤ x - z ∧ x - z ≤ 1000000000000000000000000000000; omega, by have z1' : z ≤ 1000000000000000000000000000000 := z1; show -1000000000000000000000000000000 ≤ y - z ∧ y - z ≤ 1000000000000000000000000000000; omega⟩⟩
      refine ⟨_, rfl, _, rfl, (by show 1 ≤ sizeLine; decide), fun l6 hl6 => ?_⟩
      have s6 : Same (upd H5 t (.tup [.int (x - z), .int (y - z)])) (upd (upd H5 t (.tup [.int (x - z), .int (y - z)])) l6 (.lst [.ref t])) := same_new hl6
      refine ⟨_, rfl, _, rfl, ptD (x - z, y - z), _, dp_pt (hq.same s6), dp_spots (hP6.same s6), ptD_shaped _, ptDs_shaped _, ?_⟩
      rw [any_pt]
      refine .inr ⟨_, rfl, l6, _, [.ref t], rfl, rfl, upd_same, ?_, ?_, ?_, fun l7 hl7 => ?_⟩
      · split <;> decide
      · split <;> decide
      · have : (if (!decide ((x - z, y - z) ∈ ps.map (·.2))) = true then (1 : Int) else 0).toNat ≤ 1 := by split <;> decide
        exact Nat.le_trans (Nat.mul_le_mul_left 1 this) (by decide)
      · have s7 : Same (upd (upd H5 t (.tup [.int (x - z), .int (y - z)])) l6 (.lst [.ref t])) (upd (upd (upd H5 t (.tup [.int (x - z), .int (y - z)])) l6 (.lst [.ref t])) l7 (.lst (List.replicate (if (!decide ((x - z, y - z) ∈ ps.map (·.2))) = true then (1 : Int) else 0).toNat [V.ref t]).flatten)) := same_new hl7
        have hP7 := (hP6.same s6).same s7
        refine ⟨b, l7, _, _, rfl, rfl, hP7.1, upd_same, ?_, fun l8 hl8 => ?_⟩
        · have h1 := hP.2.1
          have h2 : ((List.replicate (if (!decide ((x - z, y - z) ∈ ps.map (·.2))) = true then (1 : Int) else 0).toNat [V.ref t]).flatten).length ≤ 1 := by
            split <;> simp
          rw [List.length_map]
          exact small40 (by omega)
        · have s8 := same_new (o := .lst ((ps.map fun q => V.ref q.1) ++ (List.replicate (if (!decide ((x - z, y - z) ∈ ps.map (·.2))) = true then (1 : Int) else 0).toNat [V.ref t]).flatten)) hl8
          have hS8 : Src _ p := (((hS5.same (same_new (o := .tup [.int (x - z), .int (y - z)]) ht)).same s6).same s7).same s8
          have e8 : Ex p H _ := ((((e3.trans (e4.trans e5)).trans (Ex.same (same_new (o := .tup [.int (x - z), .int (y - z)]) ht))).trans (Ex.same s6)).trans (Ex.same s7)).trans (Ex.same s8)
          have f8 : H l8 = none := Ex.free ((((hS5.same (same_new (o := .tup [.int (x - z), .int (y - z)]) ht)).same s6).same s7)) ((((e3.trans (e4.trans e5)).trans (Ex.same (same_new (o := .tup [.int (x - z), .int (y - z)]) ht))).trans (Ex.same s6)).trans (Ex.same s7)) hl8
          have hq8 := ((hq.same s6).same s7).same s8
          have hP8 := hP7.same s8
          by_cases hin : (x - z, y - z) ∈ ps.map (·.2)
          · refine ⟨l8, ps, _, _, rfl, hS8, e8, f8, ⟨?_, hP8.2⟩, hnd, by omega⟩
            rw [upd_same, decide_eq_true hin]
            simp
          · refine ⟨l8, ps ++ [(t, x - z, y - z)], _, _, rfl, hS8, e8, f8, ⟨?_, ?_, ?_⟩, ?_, ?_⟩
            · rw [upd_same, decide_eq_false hin]
              simp
            · rw [List.length_append, List.length_singleton]
              have : many ≤ 40 := by omega
              omega
            · intro r hr'
              rcases List.mem_append.mp hr' with h | h
              · exact hP8.2.2 r h
              · rw [List.mem_singleton.mp h]
                exact hq8
            · rw [List.map_append]
              exact nd_snoc hnd hin
            · rw [List.length_append, List.length_singleton]
              omega
    · rintro σ H3 ⟨b, ps, y5, y6, rfl, hS3, e3, fb, hP, hnd, hl3⟩
      exact ⟨_, rfl, q b ps H3 hS3 e3 fb hP hnd (by omega)⟩
end
end Q2

namespace Q2
open PySem PySem.Spec PyProof.Rows L2
def XY (H : Hp) (t : Addr) (x y : Int) : Prop := H t = some (.tup [.int x, .int y])
def absI (i : Int) : Int := if i < 0 then -i else i
theorem abs_le {i m : Int} (h : -m ≤ i ∧ i ≤ m) : decide (absI i ≤ m) = true := decide_eq_true (by unfold absI; split <;> omega)
section
variable {P : Program} {w : World} {K : PySem.W.Frag} {mg : Str → Option Value} {base : Heap}
/-! ### is_integer, is_coordinate -/
theorem scIsInt : FnScope ["value"] ["value"] (defScope s_is_integer) := ⟨rfl, rfl, rfl, by decide +kernel, rfl, by decide +kernel, by decide +kernel⟩
def spIsInt : Sp := fun vs H Q _ => ∃ i : Int, vs = [.int i] ∧ Q (.bl true) H
theorem ok_isInt {f : Addr} {fd : FuncData} (F : FnP K "is_integer" s_is_integer f fd) (B : Bt mg) : FnOk P w K mg base CX0 1 f fd ["value"] spIsInt := by
  refine F.ok scIsInt (fun vs H Q E h => ?_) (fun cdv A outer s H vs Q E hr h => ?_)
  · obtain ⟨a, rfl, _⟩ := h
    rfl
  · obtain ⟨i, rfl, q⟩ := h
    refine ⟨_, pss_one (ps_ret (pe_and (pe_callB call_isi (by rfl) B.isi (by decide +kernel) (pa_cons (pv 0) (pa_cons (pe_bltn (v := .ty "int") (by rfl) B.int (by decide +kernel) rfl) pa_nil)))
      (pe_one (pe_not (pe_callB call_isi (by rfl) B.isi (by decide +kernel) (pa_cons (pv 0) (pa_cons (pe_bltn (v := .ty "bool") (by rfl) B.bool (by decide +kernel) rfl) pa_nil))))))), ?_⟩
    refine ⟨_, rfl, _, _, _, _, true, rfl, .ty "int", .base (.int i), kit_ty (by decide +kernel), _, rfl, iteT ?_⟩
    exact ⟨_, rfl, _, _, _, _, false, rfl, .ty "bool", .base (.int i), kit_ty (by decide +kernel), _, rfl, q⟩
theorem scCoord : FnScope ["value"] ["value"] (defScope s_is_coordinate) := ⟨rfl, rfl, rfl, by decide +kernel, rfl, by decide +kernel, by decide +kernel⟩
def spCoord : Sp := fun vs H Q _ => ∃ i : Int, vs = [.int i] ∧ Q (.bl (decide (-Lo ≤ i ∧ i ≤ Lo))) H
theorem ok_coord {f fI : Addr} {fd fdI : FuncData} {tc : Tok} (F : FnP K "is_coordinate" s_is_coordinate f fd) (B : Bt mg) (FI : FnP K "is_integer" s_is_integer fI fdI) (bI : Binds K fdI ["value"] []) (gI : mg "is_integer" = some (.ref fI))
    (gC : mg "FARTHEST_COORDINATE" = some (.int Lo tc)) : FnOk P w K mg base CX0 2 f fd ["value"] spCoord := by
  have GI : FnOk P w K mg base CX0 1 fI fdI ["value"] spIsInt := ok_isInt FI B
  refine F.ok scCoord (fun vs H Q E h => ?_) (fun cdv A outer s H vs Q E hr h => ?_)
  · obtain ⟨a, rfl, _⟩ := h
    rfl
  · obtain ⟨i, rfl, q⟩ := h
    refine ⟨_, pss_one (ps_ret (pe_and (pe_call GI hr (by rfl) gI FI.kp bI .nil pass0 (pa_cons (pv 0) pa_nil)) (pe_one (pe_chain op_le op_le (pe_un un_neg (pe_glob (v := .int Lo) (by rfl) gC ⟨_, rfl⟩)) (pv 0) (pe_glob (v := .int Lo) (by rfl) gC ⟨_, rfl⟩))))), ?_⟩
    refine ⟨_, rfl, i, rfl, _, rfl, iteT ?_⟩
    refine ⟨_, rfl, _, rfl, _, _, rfl, rfl, _, rfl, ?_⟩
    by_cases h1 : -Lo ≤ i
    · rw [decide_eq_true h1]
      refine iteT ⟨_, _, rfl, rfl, ?_⟩
      have e : decide (-Lo ≤ i ∧ i ≤ Lo) = decide (i ≤ Lo) := decide_eq_decide.mpr ⟨fun h => h.2, fun h => ⟨h1, h⟩⟩
      rw [e] at q
      exact q
    · rw [decide_eq_false h1]
      have e : decide (-Lo ≤ i ∧ i ≤ Lo) = false := decide_eq_false fun h => h1 h.1
      rw [e] at q
      exact iteF q
/-! ### is_point, check_point -/
theorem scIsPt : FnScope ["value"] ["value"] (defScope s_is_point) := ⟨rfl, rfl, rfl, by decide +kernel, rfl, by decide +kernel, by decide +kernel⟩
def PtIn (H : Hp) (t : Addr) (x y : Int) : Prop := XY H t x y ∧ (-Lo ≤ x ∧ x ≤ Lo) ∧ (-Lo ≤ y ∧ y ≤ Lo)
theorem PtIn.same {H H' : Hp} {t : Addr} {x y : Int} (e : Same H H') (h : PtIn H t x y) : PtIn H' t x y := ⟨e _ _ h.1, h.2⟩
def spIsPt : Sp := fun vs H Q _ => ∃ (t : Addr) (x y : Int), vs = [.ref t] ∧ PtIn H t x y ∧ ∀ H', Same H H' → Q (.bl true) H'
theorem all_true (n : Nat) : (List.replicate n true).all id = true := by
  induction n with
  | zero => rfl
  | succ n ih => rw [List.replicate_succ, List.all_cons, ih]; rfl
theorem ok_isPt {f fU : Addr} {fd fdU : FuncData} (F : FnP K "is_point" s_is_point f fd) (B : Bt mg) (GU : FnOk P w K mg base CX0 2 fU fdU ["value"] spCoord) (kU : PySem.W.keepIn K (.ref fU) = true) (bU : Binds K fdU ["value"] []) (gU : mg "is_coordinate" = some (.ref fU)) : FnOk P w K mg base CX0 3 f fd ["value"] spIsPt := by
  refine F.ok scIsPt (fun vs H Q E h => ?_) (fun cdv A outer s H vs Q E hr h => ?_)
  · obtain ⟨a, b, c, rfl, _⟩ := h
    rfl
  · obtain ⟨t, x, y, rfl, ⟨hT, hx, hy⟩, q⟩ := h
    refine ⟨_, pss_cons (ps_if (PW.pt (pw_or (pt_not (pt_val (pe_callB call_isi (by rfl) B.isi (by decide +kernel) (pa_cons (pv 0) (pa_cons (pe_bltn (v := .ty "tuple") (by rfl) B.tuple (by decide +kernel) rfl) pa_nil))))) (pw_or1 (pt_cmpR op_ne (pe_callB call_len_seq (by rfl) B.len PySem.boot_len (pa_cons (pv 0) pa_nil)) pe_int (nomark _))))) (pss_one (ps_ret pe_bl)) pss_nil)
      (pss_one (ps_ret (pe_and (pe_call GU hr (by rfl) gU kU bU .nil pass0 (pa_cons (pe_ix ix_tup (pv 0) pe_int (fun _ _ => rfl)) pa_nil)) (pe_one (pe_call GU hr (by rfl) gU kU bU .nil pass0 (pa_cons (pe_ix ix_tup (pv 0) pe_int (fun _ _ => rfl)) pa_nil)))))), ?_⟩
    refine ⟨_, rfl, _, _, _, _, true, rfl, .ty "tuple", .base (.tup hT), kit_ty (by decide +kernel), _, rfl, iteF ?_⟩
    refine ⟨_, rfl, t, _, rfl, .inr (SqT.of hT), rfl, _, rfl, iteF ?_⟩
    refine ⟨_, rfl, t, _, 0, .int x, rfl, rfl, SqT.of hT, atI_nat (j := 0) rfl, x, rfl, ?_⟩
    rw [decide_eq_true hx]
    refine ⟨_, rfl, iteT ?_⟩
    refine ⟨_, rfl, t, _, 1, .int y, rfl, rfl, SqT.of hT, atI_nat (j := 1) rfl, y, rfl, ?_⟩
    rw [decide_eq_true hy]
    exact q H (fun _ _ h => h)
theorem scChkPt : FnScope ["value"] ["value"] (defScope s_check_point) := ⟨rfl, rfl, rfl, by decide +kernel, rfl, by decide +kernel, by decide +kernel⟩
def spChkPt : Sp := fun vs H Q _ => ∃ (t : Addr) (x y : Int), vs = [.ref t] ∧ PtIn H t x y ∧ ∀ H', Same H H' → Q .non H'
theorem ok_chkPt {f fI : Addr} {fd fdI : FuncData} (F : FnP K "check_point" s_check_point f fd) (GI : FnOk P w K mg base CX0 3 fI fdI ["value"] spIsPt) (kI : PySem.W.keepIn K (.ref fI) = true) (bI : Binds K fdI ["value"] []) (gI : mg "is_point" = some (.ref fI)) : FnOk P w K mg base CX0 4 f fd ["value"] spChkPt := by
  refine F.ok scChkPt (fun vs H Q E h => ?_) (fun cdv A outer s H vs Q E hr h => ?_)
  · obtain ⟨a, b, c, rfl, _⟩ := h
    rfl
  · obtain ⟨t, x, y, rfl, hT, q⟩ := h
    refine ⟨_, pss_one (ps_if (pt_not (pt_val (pe_call GI hr (by rfl) gI kI bI .nil pass0 (pa_cons (pv 0) pa_nil)))) pss_never pss_nil), ?_⟩
    exact ⟨_, rfl, t, x, y, rfl, hT, fun H' e => ⟨_, rfl, iteF (q H' e)⟩⟩
end
end Q2

namespace Q2
open PySem PySem.Spec PyProof.Rows L2
/-! ### two keywords, the other way round -/
def sw {α : Type} : List α → List α → List α
  | [], [a, b] => [b, a]
  | _, _ => []
theorem sw_rel {vs zs : List V} {us ws : List Value} (h1 : Vals vs us) (h2 : Vals zs ws) : Vals (sw vs zs) (sw us ws) := by
  cases h1 with
  | nil =>
    cases h2 with
    | nil => exact .nil
    | cons a r =>
      cases r with
      | nil => exact .nil
      | cons b r2 =>
        cases r2 with
        | nil => exact .cons b (.cons a .nil)
        | cons c r3 => exact .nil
  | cons a r => exact .nil
theorem sw_two {us ws : List Value} (h : (sw us ws).length = 2) : ∃ a b, us = [] ∧ ws = [a, b] := by
  unfold sw at h
  split at h
  · exact ⟨_, _, rfl, rfl⟩
  · cases h
section
variable {P : Program} {w : World} {K : PySem.W.Frag} {mg : Str → Option Value} {base : Heap}
theorem kb_of {x : Str} {st : Stmt} {f : Addr} {fd : FuncData} {ps ks : List Str} (F : FnP K x st f fd) (hp : ps.length = 2)
    (h : ∀ (kV doc pm : Value) (an : Option Addr) (cdv ct a b : Value), bindArgs (PySem.W.fnOf x x (defArgs st) (defBody st) (defScope st) .none kV doc pm an cdv ct) ⟨[], ks.zip [a, b]⟩ = pure (ps.zip [b, a])) : KBinds K fd ps ks sw sw := by
  obtain ⟨oc, od, kV, doc, pm, an, cdv, ct, osl, rfl, lk, hcd⟩ := F.ex
  refine ⟨fun s us ws _ hl => ?_, sw_rel⟩
  rw [hp] at hl
  obtain ⟨a, b, rfl, rfl⟩ := sw_two hl
  exact .of_eq (h _ _ _ _ _ _ _ _)
end
end Q2

namespace Q2
open PySem PySem.Spec PyProof.Rows L2
/-- a pair greater than another one -/
def gtP (x y x' y' : Int) : Bool := decide (x' < x ∨ (x = x' ∧ y' < y))
def rGtP : R2 := fun v u H Q => ∃ (a b : Addr) (x y x' y' : Int), v = .ref a ∧ u = .ref b ∧ XY H a x y ∧ XY H b x' y' ∧ Q (.bl (gtP x y x' y')) H
section
variable {X : Cx}
theorem op_gtP (hu : X.A.units < cLine) : OpR X (compareOp .Gt) rGtP := by
  intro pins s σ H vv uu v u Q I rx ry h
  obtain ⟨a, b, x, y, x', y', rfl, rfl, ha, hb, q⟩ := h
  cases rx
  cases ry
  obtain ⟨tx, ty, p1⟩ := raw_pt I ha
  obtain ⟨tx', ty', p2⟩ := raw_pt I hb
  have R := Ob.RcOp.tuples_gt (A := X.A) (s := s) (e := fun j => match j with | 0 => x == x' | _ => y == y') (r := fun j => match j with | 0 => decide (x' < x) | _ => decide (y' < y)) p1 p2 hu (fun j h1 h2 => by
    match j, h1 with
    | 0, _ => exact SeqAt.EqAt.int_int _ _ _ _
    | 1, _ => exact SeqAt.EqAt.int_int _ _ _ _) (fun j h1 h2 _ => by
    match j, h1 with
    | 0, _ => exact Ob.RcOp.gt_int _ _ _ _
    | 1, _ => exact Ob.RcOp.gt_int _ _ _ _)
  have e : Ob.lexAt (fun j => match j with | 0 => x == x' | _ => y == y') (fun j => match j with | 0 => decide (x' < x) | _ => decide (y' < y)) (decide ((#[Value.int x tx, Value.int y ty] : Array Value).size > (#[Value.int x' tx', Value.int y' ty'] : Array Value).size)) 0 (min (#[Value.int x tx, Value.int y ty] : Array Value).size (#[Value.int x' tx', Value.int y' ty'] : Array Value).size) = gtP x y x' y' := by
    show (if (x == x') = true then (if (y == y') = true then decide (2 > 2) else decide (y' < y)) else decide (x' < x)) = gtP x y x' y'
    unfold gtP
    by_cases h1 : x = x'
    · subst h1
      by_cases h2 : y = y'
      · subst h2
        simp
      · simp [h2]
    · simp [h1]
  rw [e] at R
  exact R X.prog X.w X.xe (EP X pins σ Q) ⟨.bl _, H, I, rfl, q⟩
theorem call_repr_non : CallR X (.builtin "repr") (fun xs H Q => xs = [.non] ∧ Q (.str (Str.ofString "None")) H) := by
  intro pins s σ H xs us Q I r h
  obtain ⟨rfl, q⟩ := h
  cases r with
  | cons r1 r2 =>
    cases r2
    cases r1
    exact PySem.P.repr_of_none ⟨.str _, H, I.tok _, ⟨_, rfl⟩, q⟩
/-- repr of an int or None -/
def reprO : Option Int → Str
  | none => Str.ofString "None"
  | some i => toString i
def oV : Option Int → V
  | none => .non
  | some i => .int i
theorem call_reprO : CallR X (.builtin "repr") (fun xs H Q => ∃ o : Option Int, xs = [oV o] ∧ (∀ i, o = some i → i.natAbs.log2 < 1920) ∧ Q (.str (reprO o)) H) := by
  intro pins s σ H xs us Q I r h
  obtain ⟨o, rfl, ho, q⟩ := h
  cases o with
  | none => exact call_repr_non pins s σ H _ us Q I r ⟨rfl, q⟩
  | some i => exact SkE.call_repr_int pins s σ H _ us Q I r ⟨i, rfl, ho i rfl, q⟩
/-- two values that are None or ints -/
def rEqO : R2 := fun x y H Q => ∃ (a b : Option Int), x = oV a ∧ y = oV b ∧ Q (.bl (decide (a = b))) H
end
end Q2

namespace Q2
open PySem PySem.Spec PyProof.Rows L2
/-- the other built-ins -/
structure B1 (mg : Str → Option Value) : Prop where
  list : mg "list" = none
  set : mg "set" = none
  enum : mg "enumerate" = none
  sorted : mg "sorted" = none
def partM (x y x' y' : Int) : Option Int := if (x, y) = (x', y') then none else some ((if gtP x' y' x y = true then 1 else 0) + (if gtP y' x' y x = true then 2 else 0))
theorem room_dep {A : Around} {k : Nat} (hr : Room k A) : A.depth < recursionLimit := by have := hr.dp; omega
theorem room_un {A : Around} {k : Nat} (hr : Room k A) : A.units < cLine := by have := hr.un; omega
section
variable {P : Program} {w : World} {K : PySem.W.Frag} {mg : Str → Option Value} {base : Heap}
/-! ### y_key -/
theorem scYKey : FnScope ["point"] ["point"] (defScope s_y_key) := ⟨rfl, rfl, rfl, by decide +kernel, rfl, by decide +kernel, by decide +kernel⟩
theorem swaps_y : Swaps s_y_key := ⟨"point", _, _, _, _, _, _, _, _, _, _, _, scYKey, rfl, by decide, rfl, fun _ _ _ _ _ _ _ _ _ => rfl⟩
def spYKey : Sp := fun vs H Q _ => ∃ (t : Addr) (x y : Int), vs = [.ref t] ∧ XY H t x y ∧ ∀ p, H p = none → Q (.ref p) (upd H p (.tup [.int y, .int x]))
theorem ok_yKey {f : Addr} {fd : FuncData} (F : FnP K "y_key" s_y_key f fd) : FnOk P w K mg base CX0 1 f fd ["point"] spYKey := by
  refine F.ok scYKey (fun vs H Q E h => ?_) (fun cdv A outer s H vs Q E hr h => ?_)
  · obtain ⟨a, b, c, rfl, _⟩ := h
    rfl
  · obtain ⟨t, x, y, rfl, hT, q⟩ := h
    refine ⟨_, pss_one (ps_ret (pe_tup (pa_cons (pe_ix ix_tup (pv 0) pe_int (fun _ _ => rfl)) (pa_cons (pe_ix ix_tup (pv 0) pe_int (fun _ _ => rfl)) pa_nil)))), ?_⟩
    refine ⟨_, rfl, t, _, 1, .int y, rfl, rfl, SqT.of hT, atI_nat (j := 1) rfl, _, rfl, t, _, 0, .int x, rfl, rfl, SqT.of hT, atI_nat (j := 0) rfl, (by show 2 ≤ sizeLine; decide), fun p hp => ?_⟩
    exact q p hp
theorem partM_eq (x y x' y' : Int) : partM x y x' y' = if x < x' then some (if y ≤ y' then 3 else 1) else if x' < x then some (if y < y' then 2 else 0) else if y' = y then none else some (if y < y' then 3 else 0) := by
  unfold partM gtP
  simp only [decide_eq_true_eq, Prod.mk.injEq]
  by_cases h1 : x < x'
  · rw [if_neg (by omega), if_pos (by omega), if_pos h1]
    by_cases h2 : y ≤ y'
    · rw [if_pos (by omega), if_pos h2]; rfl
    · rw [if_neg (by omega), if_neg h2]; rfl
  · rw [if_neg h1]
    by_cases h3 : x' < x
    · rw [if_neg (by omega), if_neg (by omega), if_pos h3]
      by_cases h2 : y < y'
      · rw [if_pos (by omega), if_pos h2]; rfl
      · rw [if_neg (by omega), if_neg h2]; rfl
    · rw [if_neg h3]
      by_cases h4 : y' = y
      · rw [if_pos (by omega), if_pos h4]
      · rw [if_neg (by omega), if_neg h4]
        by_cases h2 : y < y'
        · rw [if_pos (by omega), if_pos (by omega), if_pos h2]; rfl
        · rw [if_neg (by omega), if_neg (by omega), if_neg h2]; rfl
/-! ### part_of, quarter -/
theorem scPart : FnScope ["root", "point", "x", "y"] ["root", "point"] (defScope s_part_of) := ⟨rfl, rfl, rfl, by decide +kernel, rfl, by decide +kernel, by decide +kernel⟩
def spPart : Sp := fun vs H Q _ => ∃ (t u : Addr) (x y x' y' : Int), vs = [.ref t, .ref u] ∧ PtIn H t x y ∧ PtIn H u x' y' ∧ ∀ H', Same H H' → Q (oV (partM x y x' y')) H'
theorem dp_in {H : Hp} {t : Addr} {x y : Int} (h : PtIn H t x y) : Dp K H (.ref t) (ptD (x, y)) := dp_pt (B := Lo) (q := (t, x, y)) h
theorem ok_part {f : Addr} {fd : FuncData} (F : FnP K "part_of" s_part_of f fd) : FnOk P w K mg base CX0 2 f fd ["root", "point"] spPart := by
  refine F.ok scPart (fun vs H Q E h => ?_) (fun cdv A outer s H vs Q E hr h => ?_)
  · obtain ⟨a, b, _, _, _, _, rfl, _⟩ := h
    rfl
  · obtain ⟨t, u, x, y, x', y', rfl, hT, hU, q⟩ := h
    refine ⟨_, pss_cons (ps_asg (pv 0) (pg_tup rfl (pgs_cons (pg_name (i := 2) scPart.nd rfl (.inl rfl)) (pgs_cons (pg_name (i := 3) scPart.nd rfl (.inl rfl)) pgs_nil))))
      (pss_cons (ps_if (pt_cmpR op_gt (pe_ix ix_tup (pv 1) pe_int (fun _ _ => rfl)) (pv 2) (nomark _)) (pss_one (ps_ret (pe_ifExp (pt_cmpR op_ge (pe_ix ix_tup (pv 1) pe_int (fun _ _ => rfl)) (pv 3) (nomark _)) pe_int pe_int))) pss_nil)
      (pss_cons (ps_if (pt_cmpR op_lt (pe_ix ix_tup (pv 1) pe_int (fun _ _ => rfl)) (pv 2) (nomark _)) (pss_one (ps_ret (pe_ifExp (pt_cmpR op_gt (pe_ix ix_tup (pv 1) pe_int (fun _ _ => rfl)) (pv 3) (nomark _)) pe_int pe_int))) pss_nil)
      (pss_cons (ps_if (pt_cmpR op_eq (pe_ix ix_tup (pv 1) pe_int (fun _ _ => rfl)) (pv 3) (nomark _)) (pss_one (ps_ret pe_non)) pss_nil)
      (pss_one (ps_ret (pe_ifExp (pt_cmpR op_gt (pe_ix ix_tup (pv 1) pe_int (fun _ _ => rfl)) (pv 3) (nomark _)) pe_int pe_int)))))), ?_⟩
    have q0 := q H (fun _ _ h => h)
    rw [partM_eq] at q0
    have a0 : ∀ {R : V → Hp → Prop}, R (.int x') H → R (.int x') H := fun h => h
    refine ⟨_, rfl, t, _, rfl, SqT.of hT.1, rfl, _, _, rfl, _, _, rfl, rfl, ?_⟩
    refine ⟨_, rfl, u, _, 0, .int x', rfl, rfl, SqT.of hU.1, atI_nat (j := 0) rfl, _, rfl, _, _, rfl, rfl, _, rfl, ite2 (fun d => ?_) (fun d => ?_)⟩
    · rw [if_pos (of_decide_eq_true d)] at q0
      refine ⟨_, rfl, u, _, 1, .int y', rfl, rfl, SqT.of hU.1, atI_nat (j := 1) rfl, _, rfl, _, _, rfl, rfl, _, rfl, ite2 (fun d2 => ?_) (fun d2 => ?_)⟩
      · rw [if_pos (of_decide_eq_true d2)] at q0
        exact q0
      · rw [if_neg (of_decide_eq_false (Bool.eq_false_iff.mpr d2))] at q0
        exact q0
    · rw [if_neg (of_decide_eq_false (Bool.eq_false_iff.mpr d))] at q0
      refine ⟨_, rfl, u, _, 0, .int x', rfl, rfl, SqT.of hU.1, atI_nat (j := 0) rfl, _, rfl, _, _, rfl, rfl, _, rfl, ite2 (fun d3 => ?_) (fun d3 => ?_)⟩
      · rw [if_pos (of_decide_eq_true d3)] at q0
        refine ⟨_, rfl, u, _, 1, .int y', rfl, rfl, SqT.of hU.1, atI_nat (j := 1) rfl, _, rfl, _, _, rfl, rfl, _, rfl, ite2 (fun d2 => ?_) (fun d2 => ?_)⟩
        · rw [if_pos (of_decide_eq_true d2)] at q0
          exact q0
        · rw [if_neg (of_decide_eq_false (Bool.eq_false_iff.mpr d2))] at q0
          exact q0
      · rw [if_neg (of_decide_eq_false (Bool.eq_false_iff.mpr d3))] at q0
        refine ⟨_, rfl, u, _, 1, .int y', rfl, rfl, SqT.of hU.1, atI_nat (j := 1) rfl, _, rfl, rfl, _, rfl, ?_⟩
        rw [dec_int]
        refine ite2 (fun d4 => ?_) (fun d4 => ?_)
        · rw [if_pos (of_decide_eq_true d4)] at q0
          exact q0
        · rw [if_neg (of_decide_eq_false (Bool.eq_false_iff.mpr d4))] at q0
          refine ⟨_, rfl, u, _, 1, .int y', rfl, rfl, SqT.of hU.1, atI_nat (j := 1) rfl, _, rfl, _, _, rfl, rfl, _, rfl, ite2 (fun d2 => ?_) (fun d2 => ?_)⟩
          · rw [if_pos (of_decide_eq_true d2)] at q0
            exact q0
          · rw [if_neg (of_decide_eq_false (Bool.eq_false_iff.mpr d2))] at q0
            exact q0
theorem scQuarter : FnScope ["root", "point"] ["root", "point"] (defScope s_quarter) := ⟨rfl, rfl, rfl, by decide +kernel, rfl, by decide +kernel, by decide +kernel⟩
theorem ok_quarter {f fC fP : Addr} {fd fdC fdP : FuncData} (F : FnP K "quarter" s_quarter f fd) (GC : FnOk P w K mg base CX0 4 fC fdC ["value"] spChkPt) (kC : PySem.W.keepIn K (.ref fC) = true) (bC : Binds K fdC ["value"] []) (gC : mg "check_point" = some (.ref fC))
    (GP : FnOk P w K mg base CX0 2 fP fdP ["root", "point"] spPart) (kP : PySem.W.keepIn K (.ref fP) = true) (bP : Binds K fdP ["root", "point"] []) (gP : mg "part_of" = some (.ref fP)) : FnOk P w K mg base CX0 5 f fd ["root", "point"] spPart := by
  refine F.ok scQuarter (fun vs H Q E h => ?_) (fun cdv A outer s H vs Q E hr h => ?_)
  · obtain ⟨a, b, _, _, _, _, rfl, _⟩ := h
    rfl
  · obtain ⟨t, u, x, y, x', y', rfl, hT, hU, q⟩ := h
    refine ⟨_, pss_cons (ps_expr (pe_call GC (hr.mono (by decide)) (by rfl) gC kC bC .nil pass0 (pa_cons (pv 0) pa_nil))) (pss_cons (ps_expr (pe_call GC (hr.mono (by decide)) (by rfl) gC kC bC .nil pass0 (pa_cons (pv 1) pa_nil)))
      (pss_one (ps_ret (pe_call GP (hr.mono (by decide)) (by rfl) gP kP bP .nil pass0 (pa_cons (pv 0) (pa_cons (pv 1) pa_nil)))))), ?_⟩
    refine ⟨_, rfl, t, x, y, rfl, hT, fun H1 e1 => ?_⟩
    refine ⟨_, rfl, u, x', y', rfl, hU.same e1, fun H2 e2 => ?_⟩
    have e12 := e1.trans e2
    exact ⟨_, rfl, _, rfl, t, u, x, y, x', y', rfl, hT.same e12, hU.same e12, fun H3 e3 => q H3 (e12.trans e3)⟩
/-! ### check_number -/
theorem scChkN : FnScope ["value", "least", "most", "name"] ["value", "least", "most", "name"] (defScope s_check_number) := ⟨rfl, rfl, rfl, by decide +kernel, rfl, by decide +kernel, by decide +kernel⟩
def spChkN : Sp := fun vs H Q _ => ∃ (v a b : Int) (nm : Str), vs = [.int v, .int a, .int b, .str nm] ∧ (a ≤ v ∧ v ≤ b) ∧ Q .non H
theorem ok_chkN {f fI : Addr} {fd fdI : FuncData} (F : FnP K "check_number" s_check_number f fd) (B : Bt mg) (FI : FnP K "is_integer" s_is_integer fI fdI) (bI : Binds K fdI ["value"] []) (gI : mg "is_integer" = some (.ref fI)) : FnOk P w K mg base CX0 2 f fd ["value", "least", "most", "name"] spChkN := by
  have GI : FnOk P w K mg base CX0 1 fI fdI ["value"] spIsInt := ok_isInt FI B
  refine F.ok scChkN (fun vs H Q E h => ?_) (fun cdv A outer s H vs Q E hr h => ?_)
  · obtain ⟨_, _, _, _, rfl, _⟩ := h
    rfl
  · obtain ⟨v, a, b, nm, rfl, ⟨h1, h2⟩, q⟩ := h
    refine ⟨_, pss_one (ps_if (PW.pt (pw_or (pt_not (pt_val (pe_callB call_isi (by rfl) B.isi (by decide +kernel) (pa_cons (pv 0) (pa_cons (pe_bltn (v := .ty "int") (by rfl) B.int (by decide +kernel) rfl) pa_nil))))) (pw_or (pt_val (pe_callB call_isi (by rfl) B.isi (by decide +kernel) (pa_cons (pv 0) (pa_cons (pe_bltn (v := .ty "bool") (by rfl) B.bool (by decide +kernel) rfl) pa_nil)))) (pw_or1 (pt_not (pt_chain op_le op_le (pv 1) (pv 0) (pv 2))))))) pss_never pss_nil), ?_⟩
    refine ⟨_, rfl, _, _, _, _, true, rfl, .ty "int", .base (.int v), kit_ty (by decide +kernel), _, rfl, iteF ?_⟩
    refine ⟨_, rfl, _, _, _, _, false, rfl, .ty "bool", .base (.int v), kit_ty (by decide +kernel), _, rfl, iteF ?_⟩
    refine ⟨_, rfl, _, rfl, _, _, rfl, rfl, _, rfl, ?_⟩
    rw [decide_eq_true h1]
    refine iteT ?_
    refine ⟨_, rfl, _, _, rfl, rfl, _, rfl, ?_⟩
    rw [decide_eq_true h2]
    exact iteF q
end
end Q2

namespace Q2
open PySem PySem.Spec PyProof.Rows L2
/-- a list or a tuple of points -/
def SeqP (H : Hp) (a : Addr) (qs : Pts) : Prop := H a = some (.lst (refsOf qs)) ∨ H a = some (.tup (refsOf qs))
theorem SeqP.same {H H' : Hp} {a : Addr} {qs : Pts} (e : Same H H') (h : SeqP H a qs) : SeqP H' a qs := h.imp (e _ _) (e _ _)
theorem SeqP.sq {K : PySem.W.Frag} {H : Hp} {a : Addr} {qs : Pts} (h : SeqP H a qs) : SqL K H a (refsOf qs) ∨ SqT K H a (refsOf qs) := h.imp SqL.of SqT.of
def AllP (H : Hp) (qs : Pts) : Prop := ∀ q ∈ qs, PtAt H Lo q
theorem AllP.same {H H' : Hp} {qs : Pts} (e : Same H H') (h : AllP H qs) : AllP H' qs := fun q hq => (h q hq).same e
theorem same_free {H H' : Hp} {p : Addr} (e : Same H H') (h : H' p = none) : H p = none := by
  cases q : H p with
  | none => rfl
  | some o =>
    rw [e _ _ q] at h
    cases h
theorem same_ex {S : Addr} {H H' : Hp} (hS : H S = none) (e : Ex S H H') : Same H H' := fun b o hb => e b o hb (ne_of_none hb hS)
theorem refs_at {qs : Pts} {i : Nat} {v : V} (h : (refsOf qs)[i]? = some v) : ∃ q, qs[i]? = some q ∧ v = .ref q.1 := by
  rw [List.getElem?_map] at h
  cases z : qs[i]? with
  | none => rw [z] at h; cases h
  | some q =>
    rw [z] at h
    exact ⟨q, rfl, (Option.some.inj h).symm⟩
/-- a point as a key -/
abbrev kOf (q : Addr × Int × Int) : Addr × List Int := (q.1, [q.2.1, q.2.2])
theorem out_of {qs : Pts} {i : Nat} {q : Addr × Int × Int} {L : List (Addr × List Int)} (hq : qs[i]? = some q) (nd : (qs.map (·.2)).Nodup) (pm : L.Perm ((qs.take i).map kOf)) : [q.2.1, q.2.2] ∉ L.map (·.2) := by
  intro h
  obtain ⟨p, hp, e⟩ := List.mem_map.mp h
  obtain ⟨r, hr, rfl⟩ := List.mem_map.mp (pm.mem_iff.mp hp)
  obtain ⟨hi, rfl⟩ := List.getElem?_eq_some_iff.mp hq
  have e2 : r.2 = qs[i].2 := by
    have e' : [r.2.1, r.2.2] = [qs[i].2.1, qs[i].2.2] := e
    injection e' with e1 e3
    injection e3 with e4 _
    exact Prod.ext e1 e4
  obtain ⟨j, hj, rfl⟩ := List.mem_iff_getElem.mp hr
  have hj2 : j < i := by
    rw [List.length_take] at hj
    omega
  rw [List.getElem_take] at e2
  have h3 := List.pairwise_iff_getElem.mp nd j i (by rw [List.length_map]; omega) (by rw [List.length_map]; exact hi) hj2
  apply h3
  rw [List.getElem_map, List.getElem_map]
  exact e2
theorem take_next {qs : Pts} {i : Nat} {q : Addr × Int × Int} {L L' : List (Addr × List Int)} (hq : qs[i]? = some q) (pm : L.Perm ((qs.take i).map kOf)) (pm' : L'.Perm (kOf q :: L)) : L'.Perm ((qs.take (i + 1)).map kOf) := by
  obtain ⟨hi, rfl⟩ := List.getElem?_eq_some_iff.mp hq
  rw [List.take_succ_eq_append_getElem hi, List.map_append]
  exact pm'.trans ((List.Perm.cons _ pm).trans (List.perm_append_singleton (kOf qs[i]) ((qs.take i).map kOf)).symm)
theorem enum_of {K : PySem.W.Frag} {H : Hp} {a : Addr} {qs : Pts} (h : SeqP H a qs) : ∃ J, EnumOf K H a (refsOf qs) J ∧ Walk J (refsOf qs).length (fun H' => H' a = H a) (YPair (fun i => some (.int (i : Nat))) (fun i => (refsOf qs)[i]?)) := by
  rcases h with h | h
  · exact ⟨_, .inl ⟨SqL.of h, rfl⟩, walk_enum.mono (fun H' e => SqL.of (e.trans h)) fun i H x H' _ _ y => y⟩
  · exact ⟨_, .inr ⟨SqT.of h, rfl⟩, walk_enumT.mono (fun H' e => SqT.of (e.trans h)) fun i H x H' _ _ y => y⟩
section
variable {P : Program} {w : World} {K : PySem.W.Frag} {mg : Str → Option Value} {base : Heap}
theorem seq_ty {H : Hp} {a : Addr} {qs : Pts} (h : SeqP H a qs) : ∃ t, TyX K H (.ref a) t ∧ PySem.W.kitAny K t [.type "list", .type "tuple"] = some true := by
  rcases h with h | h
  · exact ⟨.type "list", .base (.lst h), kitAny_cons (b := true) (kit_ty (by decide +kernel)) (fun z => nomatch z) (fun _ => rfl)⟩
  · exact ⟨.type "tuple", .base (.tup h), kitAny_cons (b := false) (kit_ty (by decide +kernel)) (fun _ => kitAny_cons (b := true) (kit_ty (by decide +kernel)) (fun z => nomatch z) (fun _ => rfl)) (fun z => nomatch z)⟩
theorem scChkPs : FnScope ["value", "seen", "index", "entry"] ["value"] (defScope s_check_points) := ⟨rfl, rfl, rfl, by decide +kernel, rfl, by decide +kernel, by decide +kernel⟩
def spChkPs : Sp := fun vs H Q _ => ∃ (a : Addr) (qs : Pts), vs = [.ref a] ∧ SeqP H a qs ∧ AllP H qs ∧ (qs.map (·.2)).Nodup ∧ qs.length ≤ 40 ∧ ∀ H', Same H H' → Q .non H'
theorem ok_chkPs {f fI : Addr} {fd fdI : FuncData} {tm : Tok} (F : FnP K "check_points" s_check_points f fd) (B : Bt mg) (C : B1 mg) (GI : FnOk P w K mg base CX0 3 fI fdI ["value"] spIsPt) (kI : PySem.W.keepIn K (.ref fI) = true) (bI : Binds K fdI ["value"] []) (gI : mg "is_point" = some (.ref fI))
    (gM : mg "MOST_POINTS" = some (.int 500 tm)) : FnOk P w K mg base CX0 4 f fd ["value"] spChkPs := by
  refine F.ok scChkPs (fun vs H Q E h => ?_) (fun cdv A outer s H vs Q E hr h => ?_)
  · obtain ⟨_, _, rfl, _⟩ := h
    rfl
  · obtain ⟨a, qs, rfl, hs, hp, nd, few, q⟩ := h
    refine ⟨_, pss_cons (ps_if (PW.pt (pw_or (pt_not (pt_val (pe_callB call_isiT (by rfl) B.isi (by decide +kernel) (pa_cons (pv 0) (pa_cons (pe_tup (pa_cons (pe_bltn (v := .ty "list") (by rfl) C.list (by decide +kernel) rfl) (pa_cons (pe_bltn (v := .ty "tuple") (by rfl) B.tuple (by decide +kernel) rfl) pa_nil))) pa_nil)))))
        (pw_or1 (pt_cmpR op_gt (pe_callB call_len_seq (by rfl) B.len PySem.boot_len (pa_cons (pv 0) pa_nil)) (pe_glob (v := .int 500) (by rfl) gM ⟨_, rfl⟩) (nomark _))))) pss_never pss_nil)
      (pss_cons (ps_set (i := 1) scChkPs.nd rfl (.inl rfl) (pe_callTy0 cr_set0T (by rfl) C.set (by decide +kernel)))
      (pss_one (ps_for PassesOwn.never rfl (pi_enumA (by rfl) C.enum (pa_cons (pv 0) pa_nil)) (pg_tup rfl (pgs_cons (pg_name (i := 2) scChkPs.nd rfl (.inl rfl)) (pgs_cons (pg_name (i := 3) scChkPs.nd rfl (.inl rfl)) pgs_nil)))
        (pss_cons (ps_if (PW.pt (pw_or (pt_not (pt_val (pe_call GI hr (by rfl) gI kI bI .nil pass0 (pa_cons (pv 3) pa_nil)))) (pw_or1 (pt_cmpR (op_outT (hu64 hr)) (pv 3) (pv 1) (by with_unfolding_all rfl))))) pss_never pss_nil)
        (pss_one (ps_expr (pe_addT (hu64 hr) (pv 1) (pa_cons (pv 3) pa_nil)))))))), ?_⟩
    refine ⟨_, rfl, (by show 2 ≤ sizeLine; decide), fun tp ntp => ?_⟩
    have s1 : Same H (upd H tp (.tup [.ty "list", .ty "tuple"])) := same_new ntp
    obtain ⟨t, ty, kt⟩ := seq_ty (K := K) (hs.same s1)
    refine ⟨_, tp, _, t, _, true, rfl, upd_same, .cons (.ty "list") (.cons (.ty "tuple") .nil), ty, kt, _, rfl, iteF ?_⟩
    refine ⟨_, rfl, a, _, rfl, (hs.same s1).sq, _, _, rfl, rfl, _, rfl, ?_⟩
    have hlen : (refsOf qs).length = qs.length := List.length_map ..
    rw [hlen, decide_eq_false (show ¬ ((500 : Int) < (qs.length : Nat)) by omega)]
    refine iteF ?_
    refine ⟨rfl, fun S nS => ?_⟩
    have s2 : Same (upd H tp (.tup [.ty "list", .ty "tuple"])) (upd (upd H tp (.tup [.ty "list", .ty "tuple"])) S (SetTO P w S [])) := same_new nS
    have s12 := s1.trans s2
    have hSn : H S = none := same_free s1 nS
    obtain ⟨J, eJ, wk⟩ := enum_of (K := K) (hs.same s12)
    refine ⟨_, rfl, a, _, J, rfl, eJ, for_it wk (fun i σ H3 => ∃ (y2 y3 : Option V) (L : List (Addr × List Int)), σ = [some (.ref a), some (.ref S), y2, y3] ∧ Same H H3 ∧ H3 S = some (SetTO P w S L) ∧ L.Perm ((qs.take i).map kOf)) ?_ ?_ ?_ ?_⟩
    · exact ⟨none, none, [], rfl, s12, upd_same, .nil⟩
    · rintro i σ H3 _ ⟨y2, y3, L, rfl, e3, _, _⟩
      rcases hs with hs | hs
      · rw [e3 _ _ hs, s12 _ _ hs]
      · rw [e3 _ _ hs, s12 _ _ hs]
    · rintro i v σ H3 H4 hi ⟨y2, y3, L, rfl, e3, hS3, pm⟩ ⟨T, vi, ve, rfl, nT, rfl, hvi, hve⟩
      obtain ⟨q0, hq0, rfl⟩ := refs_at hve
      have s4 : Same H3 (upd H3 T (.tup [vi, .ref q0.1])) := same_new nT
      have e4 := e3.trans s4
      have hP : PtIn (upd H3 T (.tup [vi, .ref q0.1])) q0.1 q0.2.1 q0.2.2 := (hp q0 (List.mem_of_getElem? hq0)).same e4
      refine ⟨T, _, rfl, SqT.of upd_same, rfl, _, _, rfl, _, _, rfl, rfl, ?_⟩
      refine ⟨_, rfl, q0.1, q0.2.1, q0.2.2, rfl, hP, fun H5 e5 => ⟨_, rfl, iteF ?_⟩⟩
      have e45 := e4.trans e5
      have hS5 : H5 S = some (SetTO P w S L) := e5 _ _ (s4 _ _ hS3)
      have hk : SqT K H5 q0.1 (([q0.2.1, q0.2.2] : List Int).map V.int) := SqT.of (hP.same e5).1
      have hL : ∀ p ∈ L, SqT K H5 p.1 (p.2.map V.int) := fun p hpL => by
        obtain ⟨r, hr2, rfl⟩ := List.mem_map.mp (pm.mem_iff.mp hpL)
        exact SqT.of ((hp r (List.mem_of_mem_take hr2)).same e45).1
      have out := out_of hq0 nd pm
      refine ⟨_, rfl, _, rfl, q0.1, S, _, L, rfl, rfl, hk, hS5, hL, out, _, rfl, iteF ?_⟩
      have hlL : L.length ≤ 40 := by
        rw [pm.length_eq, List.length_map, List.length_take]
        omega
      refine ⟨_, rfl, ⟨S, L, rfl, hS5, hL⟩, _, rfl, S, q0.1, _, L, rfl, rfl, hS5, hk, hL, out, (by omega), fun L' pm' => ?_⟩
      refine ⟨_, _, L', rfl, same_ex hSn ?_, upd_same, take_next hq0 pm pm'⟩
      intro b o hb hne
      rw [upd_ne hne]
      exact e45 b o hb
    · rintro σ H3 ⟨y2, y3, L, rfl, e3, _, _⟩
      exact q H3 e3
/-! ### ordered -/
theorem scOrdP : FnScope ["points", "axis"] ["points", "axis"] (defScope s_ordered) := ⟨rfl, rfl, rfl, by decide +kernel, rfl, by decide +kernel, by decide +kernel⟩
def sortM (ax : Int) (qs : Pts) : Pts := if ax = 1 then sortY qs else sortX qs
def spOrdP : Sp := fun vs H Q _ => ∃ (a : Addr) (qs : Pts) (ax : Int), vs = [.ref a, .int ax] ∧ (0 ≤ ax ∧ ax ≤ 1) ∧ SeqP H a qs ∧ AllP H qs ∧ (qs.map (·.2)).Nodup ∧ qs.length ≤ 40 ∧ ∀ H' p, Same H H' → H p = none → H' p = some (.lst (refsOf (sortM ax qs))) → Q (.ref p) H'
theorem ok_ordP {f fC fN fY : Addr} {fd fdC fdN fdY : FuncData} (F : FnP K "ordered" s_ordered f fd) (C : B1 mg) (GC : FnOk P w K mg base CX0 4 fC fdC ["value"] spChkPs) (kC : PySem.W.keepIn K (.ref fC) = true) (bC : Binds K fdC ["value"] []) (gC : mg "check_points" = some (.ref fC))
    (GN : FnOk P w K mg base CX0 2 fN fdN ["value", "least", "most", "name"] spChkN) (kN : PySem.W.keepIn K (.ref fN) = true) (bN : Binds K fdN ["value", "least", "most", "name"] []) (gN : mg "check_number" = some (.ref fN))
    (FY : FnP K "y_key" s_y_key fY fdY) (gY : mg "y_key" = some (.ref fY)) : FnOk P w K mg base CX0 5 f fd ["points", "axis"] spOrdP := by
  refine F.ok scOrdP (fun vs H Q E h => ?_) (fun cdv A outer s H vs Q E hr h => ?_)
  · obtain ⟨_, _, _, rfl, _⟩ := h
    rfl
  · obtain ⟨a, qs, ax, rfl, hax, hs, hp, nd, few, q⟩ := h
    refine ⟨_, pss_cons (ps_expr (pe_call GC (hr.mono (by decide)) (by rfl) gC kC bC .nil pass0 (pa_cons (pv 0) pa_nil)))
      (pss_cons (ps_expr (pe_call GN (hr.mono (by decide)) (by rfl) gN kN bN .nil pass0 (pa_cons (pv 1) (pa_cons pe_int (pa_cons pe_int (pa_cons pe_str pa_nil))))))
      (pss_cons (ps_if (pt_cmpR op_eq (pv 1) pe_int (nomark _)) (pss_one (ps_ret (pe_callBK (cr_sortK FY swaps_y (hu64 hr) (room_dep hr)) (by rfl) C.sorted (by decide +kernel) (pa_cons (pv 0) pa_nil) (pk_cons (pe_glob (v := .ref fY) (by rfl) gY rfl) pk_nil)))) pss_nil)
      (pss_one (ps_ret (pe_callB (cr_sortP (hu64 hr)) (by rfl) C.sorted (by decide +kernel) (pa_cons (pv 0) pa_nil)))))), ?_⟩
    refine ⟨_, rfl, a, qs, rfl, hs, hp, nd, few, fun H1 e1 => ?_⟩
    refine ⟨_, rfl, ax, 0, 1, _, rfl, hax, ?_⟩
    have tups : Tups H1 qs := fun q0 hq0 => e1 _ _ (hp q0 hq0).1
    refine ⟨_, rfl, rfl, _, rfl, ?_⟩
    rw [dec_int]
    have fin : ∀ p, H1 p = none → sortM ax qs = sortM ax qs → Q (.ref p) (upd H1 p (.lst (refsOf (sortM ax qs)))) := fun p np _ => q _ p (e1.trans (same_new np)) (same_free e1 np) upd_same
    unfold sortM at fin
    refine ite2 (fun d => ?_) (fun d => ?_)
    · refine ⟨_, rfl, a, qs, rfl, rfl, (hs.same e1).sq, tups, fun p np => ?_⟩
      have := fin p np rfl
      rw [if_pos (by simpa using d)] at this
      exact this
    · refine ⟨_, rfl, a, qs, rfl, (hs.same e1).sq, tups, fun p np => ?_⟩
      have := fin p np rfl
      rw [if_neg (by simpa using d)] at this
      exact this
end
end Q2

namespace Q2
open PySem PySem.Spec PyProof.Rows L2
/-! ### the order that the law means -/
def lessM (ln x y x' y' : Int) : Bool := if ln = 0 then gtP x' y' x y else gtP y' x' y x
def ltB (ln : Int) (q r : Addr × Int × Int) : Bool := lessM ln q.2.1 q.2.2 r.2.1 r.2.2
def cntB (ln : Int) (q : Addr × Int × Int) (acc : Pts) : Nat := (acc.filter fun r => ltB ln r q).length
def stepM (ln : Int) (acc : Pts) (q : Addr × Int × Int) : Pts := acc.take (cntB ln q acc) ++ [q] ++ acc.drop (cntB ln q acc)
def insAll (ln : Int) (qs : Pts) : Pts := qs.foldl (stepM ln) []
theorem lt_trans {ln : Int} {p q r : Addr × Int × Int} (h : ltB ln p q = true) (h' : ltB ln q r = true) : ltB ln p r = true := by
  unfold ltB lessM gtP at *
  split at h <;> rename_i z
  · rw [if_pos z] at h' ⊢
    have a := of_decide_eq_true h
    have b := of_decide_eq_true h'
    exact decide_eq_true (by omega)
  · rw [if_neg z] at h' ⊢
    have a := of_decide_eq_true h
    have b := of_decide_eq_true h'
    exact decide_eq_true (by omega)
theorem lt_asymm {ln : Int} {p q : Addr × Int × Int} (h : ltB ln p q = true) : ltB ln q p = false := by
  unfold ltB lessM gtP at *
  split at h <;> rename_i z
  · rw [if_pos z]
    have a := of_decide_eq_true h
    exact decide_eq_false (by omega)
  · rw [if_neg z]
    have a := of_decide_eq_true h
    exact decide_eq_false (by omega)
theorem lt_total {ln : Int} {p q : Addr × Int × Int} (h : p.2 ≠ q.2) : ltB ln p q = true ∨ ltB ln q p = true := by
  have h2 : p.2.1 ≠ q.2.1 ∨ p.2.2 ≠ q.2.2 := by
    by_cases e : p.2.1 = q.2.1
    · exact .inr fun e2 => h (Prod.ext e e2)
    · exact .inl e
  unfold ltB lessM gtP
  by_cases z : ln = 0
  · rw [if_pos z, if_pos z, decide_eq_true_eq, decide_eq_true_eq]
    omega
  · rw [if_neg z, if_neg z, decide_eq_true_eq, decide_eq_true_eq]
    omega
abbrev SrtB (ln : Int) (l : Pts) : Prop := l.Pairwise fun p q => ltB ln p q = true
theorem step_ok {ln : Int} {q : Addr × Int × Int} : ∀ {l : Pts}, SrtB ln l → (∀ p ∈ l, p.2 ≠ q.2) → SrtB ln (stepM ln l q) ∧ (stepM ln l q).Perm (q :: l)
  | [], _, _ => ⟨List.pairwise_singleton _ _, List.Perm.refl _⟩
  | a :: t, h, hn => by
    have ht := (List.pairwise_cons.mp h)
    by_cases e : ltB ln a q = true
    · obtain ⟨s, pm⟩ := step_ok (q := q) ht.2 (fun p hp => hn p (List.mem_cons_of_mem _ hp))
      have c : cntB ln q (a :: t) = cntB ln q t + 1 := by
        unfold cntB
        rw [List.filter_cons_of_pos (p := fun r => ltB ln r q) e, List.length_cons]
      have e2 : stepM ln (a :: t) q = a :: stepM ln t q := by
        unfold stepM
        rw [c, List.take_succ_cons, List.drop_succ_cons]
        rfl
      rw [e2]
      refine ⟨List.pairwise_cons.mpr ⟨fun b hb => ?_, s⟩, (List.Perm.cons a pm).trans (List.Perm.swap q a t)⟩
      rcases List.mem_cons.mp (pm.mem_iff.mp hb) with rfl | hb
      · exact e
      · exact ht.1 b hb
    · have e3 : ltB ln q a = true := (lt_total (hn a (List.mem_cons_self ..))).resolve_left e
      have all : ∀ b ∈ a :: t, ltB ln q b = true := fun b hb => by
        rcases List.mem_cons.mp hb with rfl | hb
        · exact e3
        · exact lt_trans e3 (ht.1 b hb)
      have c : cntB ln q (a :: t) = 0 := by
        unfold cntB
        rw [List.length_eq_zero_iff, List.filter_eq_nil_iff]
        intro b hb
        rw [lt_asymm (all b hb)]
        decide
      have e2 : stepM ln (a :: t) q = q :: a :: t := by
        unfold stepM
        rw [c]
        rfl
      rw [e2]
      exact ⟨List.pairwise_cons.mpr ⟨all, h⟩, List.Perm.refl _⟩
theorem ins_next {ln : Int} {qs : Pts} {i : Nat} {q : Addr × Int × Int} (hq : qs[i]? = some q) : insAll ln (qs.take (i + 1)) = stepM ln (insAll ln (qs.take i)) q := by
  obtain ⟨hi, rfl⟩ := List.getElem?_eq_some_iff.mp hq
  unfold insAll
  rw [List.take_succ_eq_append_getElem hi, List.foldl_append]
  rfl
theorem ins_ok {ln : Int} : ∀ (qs acc : Pts), SrtB ln acc → ((acc ++ qs).map (·.2)).Nodup → SrtB ln (qs.foldl (stepM ln) acc) ∧ (qs.foldl (stepM ln) acc).Perm (acc ++ qs)
  | [], acc, h, _ => ⟨h, by rw [List.append_nil]; exact List.Perm.refl _⟩
  | q :: qs, acc, h, nd => by
    have nd2 : ((acc.map (·.2)) ++ (q.2 :: qs.map (·.2))).Nodup := by rw [List.map_append] at nd; exact nd
    have hn : ∀ p ∈ acc, p.2 ≠ q.2 := fun p hp => (List.nodup_append.mp nd2).2.2 p.2 (List.mem_map.mpr ⟨p, hp, rfl⟩) q.2 (List.mem_cons_self ..)
    obtain ⟨s, pm⟩ := step_ok h hn
    have pm2 : (stepM ln acc q ++ qs).Perm (acc ++ q :: qs) := (pm.append_right qs).trans List.perm_middle.symm
    have nd3 : ((stepM ln acc q ++ qs).map (·.2)).Nodup := (pm2.map (·.2)).nodup_iff.mpr nd
    obtain ⟨s2, pm3⟩ := ins_ok qs (stepM ln acc q) s nd3
    exact ⟨s2, pm3.trans pm2⟩
theorem srt_unique {ln : Int} : ∀ {l m : Pts}, l.Perm m → SrtB ln l → SrtB ln m → l = m
  | [], m, pm, _, _ => (List.nil_perm.mp pm).symm
  | a :: l, [], pm, _, _ => by cases (List.perm_nil.mp pm)
  | a :: l, b :: m, pm, h, h' => by
    have hl := List.pairwise_cons.mp h
    have hm := List.pairwise_cons.mp h'
    have e : a = b := by
      rcases List.mem_cons.mp (pm.mem_iff.mp (List.mem_cons_self ..)) with e | ha
      · exact e
      · rcases List.mem_cons.mp (pm.mem_iff.mpr (List.mem_cons_self ..)) with e | hb
        · exact e.symm
        · have x1 := hm.1 a ha
          have x2 := lt_asymm (hl.1 b hb)
          rw [x1] at x2
          cases x2
    subst e
    rw [srt_unique (List.perm_cons a |>.mp pm) hl.2 hm.2]
theorem ltB_eq0 {p q : Addr × Int × Int} : PySem.W.dataLe false keyX p q = !ltB 0 q p := by
  rw [show PySem.W.dataLe false keyX p q = _ from dataLe_two (fun q => q.2.1) (fun q => q.2.2) p q]
  congr 1
  unfold ltB lessM gtP
  rw [if_pos rfl]
  exact decide_eq_decide.mpr (by omega)
theorem ltB_eq1 {p q : Addr × Int × Int} : PySem.W.dataLe false keyY p q = !ltB 1 q p := by
  rw [show PySem.W.dataLe false keyY p q = _ from dataLe_two (fun q => q.2.2) (fun q => q.2.1) p q]
  congr 1
  unfold ltB lessM gtP
  rw [if_neg (by decide)]
  exact decide_eq_decide.mpr (by omega)
theorem sort_ins {ln : Int} {le : (Addr × Int × Int) → (Addr × Int × Int) → Bool} (hle : ∀ p q, le p q = !ltB ln q p) {qs : Pts} (nd : (qs.map (·.2)).Nodup) : qs.mergeSort le = insAll ln qs := by
  have pm := List.mergeSort_perm qs le
  have h1 : (qs.mergeSort le).Pairwise (fun p q => le p q = true) := by
    refine List.pairwise_mergeSort (fun a b c h h' => ?_) (fun a b => ?_) qs
    · rw [hle] at *
      by_cases e : ltB ln c a = true
      · by_cases e2 : a.2 = b.2
        · have : ltB ln c b = true := by
            unfold ltB at e ⊢
            rw [← e2]
            exact e
          rw [this] at h'
          cases h'
        · rcases lt_total (ln := ln) e2 with e3 | e3
          · have := lt_trans e e3
            rw [this] at h'
            cases h'
          · rw [e3] at h
            cases h
      · simp at e
        rw [e]
        rfl
    · rw [hle, hle]
      cases e : ltB ln b a with
      | false => rfl
      | true => rw [lt_asymm e]; rfl
  have h2 : (qs.mergeSort le).Pairwise (fun p q => p.2 ≠ q.2) := by
    have := (pm.map (·.2)).nodup_iff.mpr nd
    exact List.pairwise_map.mp this
  have h3 : SrtB ln (qs.mergeSort le) := by
    refine (h1.and h2).imp fun {p q} h => ?_
    have := h.1
    rw [hle] at this
    rcases lt_total (ln := ln) h.2 with e | e
    · exact e
    · rw [e] at this
      cases this
  obtain ⟨s, pm2⟩ := ins_ok (ln := ln) qs [] List.Pairwise.nil (by simpa using nd)
  exact srt_unique (pm.trans pm2.symm) h3 s
theorem sortM_ins {ln : Int} (h : ln = 0 ∨ ln = 1) {qs : Pts} (nd : (qs.map (·.2)).Nodup) : sortM ln qs = insAll ln qs := by
  rcases h with rfl | rfl
  · exact sort_ins (fun p q => ltB_eq0) nd
  · exact sort_ins (fun p q => ltB_eq1) nd
end Q2

namespace Q2
open PySem PySem.Spec PyProof.Rows L2
theorem same_app {H H' : Hp} {D : Addr} {o : HO} (e : Same H H') (hD : H D = none) : Same H (upd H' D o) := fun b o' hb => by
  rw [upd_ne (ne_of_none hb hD)]
  exact e b o' hb
theorem cut_to {xs : List V} {n : Nat} (h : n ≤ xs.length) : cutV xs none (some (n : Int)) = xs.take n := by
  unfold cutV
  rw [HT.sIx_none, HT.sIx_nat, Nat.min_eq_left h, Nat.sub_zero, List.drop_zero]
theorem cut_from {xs : List V} {n : Nat} (h : n ≤ xs.length) : cutV xs (some (n : Int)) none = xs.drop n := by
  unfold cutV
  rw [HT.sIx_none, HT.sIx_nat, Nat.min_eq_left h]
  exact List.take_of_length_le (by rw [List.length_drop]; omega)
theorem cnt_le {ln : Int} {q : Addr × Int × Int} {acc : Pts} : cntB ln q acc ≤ acc.length := List.length_filter_le _ _
theorem step_len {ln : Int} {q : Addr × Int × Int} {acc : Pts} : (stepM ln acc q).length = acc.length + 1 := by
  have := @cnt_le ln q acc
  unfold stepM
  rw [List.length_append, List.length_append, List.length_take, List.length_drop, List.length_singleton]
  omega
theorem step_mem {ln : Int} {q r : Addr × Int × Int} {acc : Pts} (h : r ∈ stepM ln acc q) : r = q ∨ r ∈ acc := by
  unfold stepM at h
  rcases List.mem_append.mp h with h | h
  · rcases List.mem_append.mp h with h | h
    · exact .inr (List.mem_of_mem_take h)
    · exact .inl (List.mem_singleton.mp h)
  · exact .inr (List.mem_of_mem_drop h)
section
variable {P : Program} {w : World} {K : PySem.W.Frag} {mg : Str → Option Value} {base : Heap}
/-! ### _law_less -/
theorem scLess : FnScope ["_law_spot", "_law_second", "_law_lane"] ["_law_spot", "_law_second", "_law_lane"] (defScope s_law_less) := ⟨rfl, rfl, rfl, by decide +kernel, rfl, by decide +kernel, by decide +kernel⟩
def spLess : Sp := fun vs H Q _ => ∃ (t u : Addr) (ln x y x' y' : Int), vs = [.ref t, .ref u, .int ln] ∧ (ln = 0 ∨ ln = 1) ∧ XY H t x y ∧ XY H u x' y' ∧ Q (.bl (lessM ln x y x' y')) H
theorem ok_less {f : Addr} {fd : FuncData} (F : FnP K "_law_less" s_law_less f fd) : FnOk P w K mg base CX0 1 f fd ["_law_spot", "_law_second", "_law_lane"] spLess := by
  refine F.ok scLess (fun vs H Q E h => ?_) (fun cdv A outer s H vs Q E hr h => ?_)
  · obtain ⟨_, _, _, _, _, _, _, rfl, _⟩ := h
    rfl
  · obtain ⟨t, u, ln, x, y, x', y', rfl, hln, hT, hU, q⟩ := h
    refine ⟨_, pss_cons (ps_if (pt_cmpR op_ne (pe_ix ix_tup (pv 0) (pv 2) (fun _ _ => rfl)) (pe_ix ix_tup (pv 1) (pv 2) (fun _ _ => rfl)) (nomark _)) (pss_one (ps_ret (pe_cmpR op_lt (pe_ix ix_tup (pv 0) (pv 2) (fun _ _ => rfl)) (pe_ix ix_tup (pv 1) (pv 2) (fun _ _ => rfl)) (nomark _)))) pss_nil)
      (pss_one (ps_ret (pe_cmpR op_lt (pe_ix ix_tup (pv 0) (pe_op op_sub pe_int (pv 2)) (fun _ _ => rfl)) (pe_ix ix_tup (pv 1) (pe_op op_sub pe_int (pv 2)) (fun _ _ => rfl)) (nomark _)))), ?_⟩
    rcases hln with rfl | rfl
    · refine ⟨_, rfl, _, rfl, t, _, 0, .int x, rfl, rfl, SqT.of hT, atI_nat (j := 0) rfl, _, rfl, _, rfl, u, _, 0, .int x', rfl, rfl, SqT.of hU, atI_nat (j := 0) rfl, rfl, _, rfl, ?_⟩
      rw [dec_int]
      refine ite2 (fun d => ?_) (fun d => ?_)
      · refine ⟨_, rfl, _, rfl, t, _, 0, .int x, rfl, rfl, SqT.of hT, atI_nat (j := 0) rfl, _, rfl, _, rfl, u, _, 0, .int x', rfl, rfl, SqT.of hU, atI_nat (j := 0) rfl, _, _, rfl, rfl, ?_⟩
        have e : lessM 0 x y x' y' = decide (x < x') := by
          have : x ≠ x' := by simpa using d
          unfold lessM gtP
          rw [if_pos rfl]
          exact decide_eq_decide.mpr (by omega)
        rw [e] at q
        exact q
      · refine ⟨_, rfl, _, rfl, _, _, rfl, rfl, t, _, 1, .int y, rfl, rfl, SqT.of hT, atI_nat (j := 1) rfl, _, rfl, _, rfl, _, _, rfl, rfl, u, _, 1, .int y', rfl, rfl, SqT.of hU, atI_nat (j := 1) rfl, _, _, rfl, rfl, ?_⟩
        have e : lessM 0 x y x' y' = decide (y < y') := by
          have : x = x' := by simpa using d
          unfold lessM gtP
          rw [if_pos rfl]
          exact decide_eq_decide.mpr (by omega)
        rw [e] at q
        exact q
    · refine ⟨_, rfl, _, rfl, t, _, 1, .int y, rfl, rfl, SqT.of hT, atI_nat (j := 1) rfl, _, rfl, _, rfl, u, _, 1, .int y', rfl, rfl, SqT.of hU, atI_nat (j := 1) rfl, rfl, _, rfl, ?_⟩
      rw [dec_int]
      refine ite2 (fun d => ?_) (fun d => ?_)
      · refine ⟨_, rfl, _, rfl, t, _, 1, .int y, rfl, rfl, SqT.of hT, atI_nat (j := 1) rfl, _, rfl, _, rfl, u, _, 1, .int y', rfl, rfl, SqT.of hU, atI_nat (j := 1) rfl, _, _, rfl, rfl, ?_⟩
        have e : lessM 1 x y x' y' = decide (y < y') := by
          have : y ≠ y' := by simpa using d
          unfold lessM gtP
          rw [if_neg (by decide)]
          exact decide_eq_decide.mpr (by omega)
        rw [e] at q
        exact q
      · refine ⟨_, rfl, _, rfl, _, _, rfl, rfl, t, _, 0, .int x, rfl, rfl, SqT.of hT, atI_nat (j := 0) rfl, _, rfl, _, rfl, _, _, rfl, rfl, u, _, 0, .int x', rfl, rfl, SqT.of hU, atI_nat (j := 0) rfl, _, _, rfl, rfl, ?_⟩
        have e : lessM 1 x y x' y' = decide (x < x') := by
          have : y = y' := by simpa using d
          unfold lessM gtP
          rw [if_neg (by decide)]
          exact decide_eq_decide.mpr (by omega)
        rw [e] at q
        exact q
/-! ### _law_sorted -/
theorem scSrt : FnScope ["_law_spots_here", "_law_lane", "_law_found", "_law_spot", "_law_at", "_law_one"] ["_law_spots_here", "_law_lane"] (defScope s_law_sorted) := ⟨rfl, rfl, rfl, by decide +kernel, rfl, by decide +kernel, by decide +kernel⟩
def spSrt : Sp := fun vs H Q _ => ∃ (a : Addr) (qs : Pts) (ln : Int), vs = [.ref a, .int ln] ∧ (ln = 0 ∨ ln = 1) ∧ H a = some (.lst (refsOf qs)) ∧ AllP H qs ∧ qs.length ≤ 40 ∧ ∀ H' p, Same H H' → H p = none → H' p = some (.lst (refsOf (insAll ln qs))) → Q (.ref p) H'
theorem ok_srt {f fL : Addr} {fd fdL : FuncData} (F : FnP K "_law_sorted" s_law_sorted f fd) (B : Bt mg) (FL : FnP K "_law_less" s_law_less fL fdL) (bL : Binds K fdL ["_law_spot", "_law_second", "_law_lane"] []) (gL : mg "_law_less" = some (.ref fL)) : FnOk P w K mg base CX0 2 f fd ["_law_spots_here", "_law_lane"] spSrt := by
  have GL : FnOk P w K mg base CX0 1 fL fdL ["_law_spot", "_law_second", "_law_lane"] spLess := ok_less FL
  refine F.ok scSrt (fun vs H Q E h => ?_) (fun cdv A outer s H vs Q E hr h => ?_)
  · obtain ⟨_, _, _, rfl, _⟩ := h
    rfl
  · obtain ⟨a, qs, ln, rfl, hln, hs, hp, few, q⟩ := h
    refine ⟨_, pss_cons (ps_set (i := 2) scSrt.nd rfl (.inl rfl) (pe_lst pa_nil))
      (pss_cons (ps_for PassesOwn.never rfl (pi_list (pv 0)) (pg_name (i := 3) scSrt.nd rfl (.inr rfl))
        (pss_cons (ps_set (i := 4) scSrt.nd rfl (.inl rfl) (pe_callB call_len_seq (by rfl) B.len PySem.boot_len (pa_cons (pe_lc (own := [("_law_one", 5)]) (g := gName 5) rfl scSrt.nd (pi_list (pv 2)) (blkOk_by (N := ["_law_spots_here", "_law_lane", "_law_found", "_law_spot", "_law_at", "_law_one"]) (sc := defScope s_law_sorted) (by decide +kernel)) (fun _ _ _ _ _ => pg_name (i := 5) scSrt.nd rfl (Or.inl rfl))
            (fun _ _ _ _ _ => pts_one (pt_val (pe_call GL (hr.mono (by decide)) (by rfl) gL FL.kp bL .nil pass0 (pa_cons (pv 5) (pa_cons (pv 3) (pa_cons (pv 1) pa_nil))))))
            (fun _ _ _ _ _ => pv 5)) pa_nil)))
        (pss_one (ps_set (i := 2) scSrt.nd rfl (.inl rfl) (pe_op op_catL (pe_op op_catL (pe_slice sl_list (pv 2) po_none (po_some (pv 4))) (pe_lst (pa_cons (pv 3) pa_nil))) (pe_slice sl_list (pv 2) (po_some (pv 4)) po_none))))))
      (pss_one (ps_ret (pv 2)))), ?_⟩
    refine ⟨Nat.zero_le _, fun l0 n0 => ?_⟩
    have s0 : Same H (upd H l0 (.lst [])) := same_new n0
    refine ⟨_, rfl, a, rfl, ⟨_, SqL.of (s0 _ _ hs)⟩, for_list (xs := refsOf qs) (fun i σ H3 => ∃ (l : Addr) (y3 y4 y5 : Option V), σ = [some (.ref a), some (.int ln), some (.ref l), y3, y4, y5] ∧ Same H H3 ∧ H l = none ∧ H3 l = some (.lst (refsOf (insAll ln (qs.take i)))) ∧ (insAll ln (qs.take i)).length = i ∧ AllP H3 (insAll ln (qs.take i))) ?_ ?_ ?_ ?_⟩
    · exact ⟨l0, none, none, none, rfl, s0, n0, upd_same, rfl, fun q hq => (List.not_mem_nil hq).elim⟩
    · rintro i σ H3 _ ⟨l, y3, y4, y5, rfl, e3, _⟩
      exact SqL.of (e3 _ _ hs)
    · rintro i v σ H3 hv ⟨l, y3, y4, y5, rfl, e3, nl, hl, len, hA⟩
      obtain ⟨q0, hq0, rfl⟩ := refs_at hv
      have hi : i < qs.length := (List.getElem?_eq_some_iff.mp hq0).1
      have hP : PtAt H3 Lo q0 := (hp q0 (List.mem_of_getElem? hq0)).same e3
      generalize hacc : insAll ln (qs.take i) = acc at hl len hA
      refine ⟨_, rfl, l, rfl, ⟨_, SqL.of hl⟩, fun D hD => lc_it (walk_list (xs := refsOf acc)) (fun j H4 => Same H3 H4 ∧ H4 D = some (.lst (refsOf ((acc.take j).filter fun r => ltB ln r q0)))) ⟨same_new hD, upd_same⟩ (fun j H4 _ h4 => SqL.of (h4.1 _ _ hl)) ?_ ?_⟩
      · rintro j v H5 H4 hj ⟨e4, hD4⟩ ⟨rfl, hv5⟩
        obtain ⟨r, hr2, rfl⟩ := refs_at hv5
        have hjl : j < acc.length := (List.getElem?_eq_some_iff.mp hr2).1
        have hR : PtAt H4 Lo r := (hA r (List.mem_of_getElem? hr2)).same e4
        refine ⟨rfl, ?_⟩
        refine ⟨_, rfl, _, rfl, _, rfl, r.1, q0.1, ln, r.2.1, r.2.2, q0.2.1, q0.2.2, rfl, hln, hR.1, (hP.same e4).1, _, rfl, ?_⟩
        have et : acc.take (j + 1) = acc.take j ++ [r] := by
          obtain ⟨hj2, rfl⟩ := List.getElem?_eq_some_iff.mp hr2
          exact List.take_succ_eq_append_getElem hj2
        show (if ltB ln r q0 = true then _ else _)
        cases d : ltB ln r q0 with
        | true =>
          refine iteT ?_
          refine ⟨_, rfl, _, hD4, ?_, same_app e4 hD, ?_⟩
          · have := List.length_filter_le (fun r => ltB ln r q0) (acc.take j)
            rw [List.length_map]
            rw [List.length_take] at this
            exact small1000 (by omega)
          · rw [upd_same, et, List.filter_append, List.filter_cons_of_pos (p := fun r => ltB ln r q0) d]
            simp [refsOf]
        | false =>
          refine iteF ⟨e4, ?_⟩
          rw [hD4, et, List.filter_append, List.filter_cons_of_neg (p := fun r => ltB ln r q0) (by rw [d]; decide)]
          simp
      · rintro H4 ⟨e4, hD4⟩
        have hle := @cnt_le ln q0 acc
        have hrl : (refsOf acc).length = acc.length := List.length_map ..
        rw [hrl, List.take_length] at hD4
        have hn : (refsOf (acc.filter fun r => ltB ln r q0)).length = cntB ln q0 acc := List.length_map ..
        refine ⟨D, _, rfl, .inl (SqL.of hD4), ?_⟩
        rw [hn]
        have hl4 := e4 _ _ hl
        -- the first part
        refine ⟨_, rfl, _, rfl, _, rfl, l, _, rfl, SqL.of hl4, fun p1 n1 => ?_⟩
        rw [cut_to (by omega)]
        have s5 : Same H4 (upd H4 p1 (.lst ((refsOf acc).take (cntB ln q0 acc)))) := same_new n1
        refine ⟨_, rfl, (by show 1 ≤ sizeLine; decide), fun p2 n2 => ?_⟩
        have s6 : Same (upd H4 p1 (.lst ((refsOf acc).take (cntB ln q0 acc)))) (upd (upd H4 p1 (.lst ((refsOf acc).take (cntB ln q0 acc)))) p2 (.lst [.ref q0.1])) := same_new n2
        generalize hH6 : upd (upd H4 p1 (.lst ((refsOf acc).take (cntB ln q0 acc)))) p2 (.lst [.ref q0.1]) = H6 at s6
        have h61 : H6 p1 = some (.lst ((refsOf acc).take (cntB ln q0 acc))) := s6 _ _ upd_same
        have h62 : H6 p2 = some (.lst [.ref q0.1]) := by rw [← hH6]; exact upd_same
        refine ⟨p1, p2, _, _, rfl, rfl, SqL.of h61, SqL.of h62, ?_, fun p3 n3 => ?_⟩
        · rw [List.length_take, List.length_singleton]
          exact small40 (by omega)
        have s7 : Same H6 (upd H6 p3 (.lst ((refsOf acc).take (cntB ln q0 acc) ++ [.ref q0.1]))) := same_new n3
        have e57 := (s5.trans s6).trans s7
        refine ⟨_, rfl, _, rfl, _, rfl, l, _, rfl, SqL.of (e57 _ _ hl4), fun p4 n4 => ?_⟩
        rw [cut_from (by omega)]
        have s8 : Same (upd H6 p3 (.lst ((refsOf acc).take (cntB ln q0 acc) ++ [.ref q0.1]))) (upd (upd H6 p3 (.lst ((refsOf acc).take (cntB ln q0 acc) ++ [.ref q0.1]))) p4 (.lst ((refsOf acc).drop (cntB ln q0 acc)))) := same_new n4
        generalize hH8 : upd (upd H6 p3 (.lst ((refsOf acc).take (cntB ln q0 acc) ++ [.ref q0.1]))) p4 (.lst ((refsOf acc).drop (cntB ln q0 acc))) = H8 at s8
        have h83 : H8 p3 = some (.lst ((refsOf acc).take (cntB ln q0 acc) ++ [.ref q0.1])) := s8 _ _ upd_same
        have h84 : H8 p4 = some (.lst ((refsOf acc).drop (cntB ln q0 acc))) := by rw [← hH8]; exact upd_same
        refine ⟨p3, p4, _, _, rfl, rfl, SqL.of h83, SqL.of h84, ?_, fun p5 n5 => ?_⟩
        · rw [List.length_append, List.length_take, List.length_drop, List.length_singleton]
          exact small40 (by omega)
        have s9 : Same H8 (upd H8 p5 (.lst ((refsOf acc).take (cntB ln q0 acc) ++ [.ref q0.1] ++ (refsOf acc).drop (cntB ln q0 acc)))) := same_new n5
        have e39 : Same H3 _ := (e4.trans (e57.trans s8)).trans s9
        have hst : insAll ln (qs.take (i + 1)) = stepM ln acc q0 := by rw [ins_next hq0, hacc]
        refine ⟨p5, _, _, _, rfl, e3.trans e39, same_free (e3.trans (e4.trans (e57.trans s8))) n5, ?_, ?_, ?_⟩
        · rw [upd_same, hst]
          unfold stepM refsOf
          simp
        · rw [hst, step_len, len]
        · rw [hst]
          intro r hr2
          rcases step_mem hr2 with rfl | hr2
          · exact hP.same e39
          · exact (hA r hr2).same e39
    · rintro σ H3 ⟨l, y3, y4, y5, rfl, e3, nl, hl, len, hA⟩
      have hrl : (refsOf qs).length = qs.length := List.length_map ..
      rw [hrl, List.take_length] at hl
      exact ⟨_, rfl, q H3 l e3 nl hl⟩
end
end Q2

namespace Q2
open PySem PySem.Spec PyProof.Rows L2
theorem mem_cut {xs : List V} {lo hi : Option Int} {v : V} (h : v ∈ cutV xs lo hi) : v ∈ xs := by
  unfold cutV at h
  exact List.mem_of_mem_drop (List.mem_of_mem_take h)
theorem cells_int {ns : List Int} {lo hi : Option Int} {i : Nat} {v : V} (h : (cutV (ns.map V.int ++ [V.int 0]) lo hi)[i]? = some v) : ∃ n : Int, v = .int n := by
  have h1 := mem_cut (List.mem_of_getElem? h)
  rcases List.mem_append.mp h1 with h2 | h2
  · obtain ⟨n, _, rfl⟩ := List.mem_map.mp h2
    exact ⟨n, rfl⟩
  · exact ⟨0, List.mem_singleton.mp h2⟩
theorem ne_same (x : V) : (!decide (x = x)) = false := by rw [decide_eq_true rfl]; rfl
def dueV (x y x' y' : Int) : Int := (if gtP x' y' x y = true then 1 else 0) + (if gtP y' x' y x = true then 2 else 0)
theorem part_due (x y x' y' : Int) : partM x y x' y' = if (x, y) = (x', y') then none else some (dueV x y x' y') := rfl
theorem due_eq (x y x' y' : Int) : (if lessM 0 x y x' y' = true then (1 : Int) else 0) + 2 * (if lessM 1 x y x' y' = true then (1 : Int) else 0) = dueV x y x' y' := by
  unfold dueV lessM
  rw [if_pos rfl, if_neg (show ¬ (1 : Int) = 0 by decide)]
  cases gtP x' y' x y <;> cases gtP y' x' y x <;> decide
theorem due_small (x y x' y' : Int) : (dueV x y x' y').natAbs.log2 < 1920 := by
  unfold dueV
  cases gtP x' y' x y <;> cases gtP y' x' y x <;> decide
theorem part_small {x y x' y' i : Int} (h : partM x y x' y' = some i) : i.natAbs.log2 < 1920 := by
  rw [part_due] at h
  split at h
  · cases h
  · cases h
    exact due_small ..
theorem eqvAll_self : ∀ zs : List (Int × Int), PyData.eqvAll (zs.map ptD) (zs.map ptD) = true
  | [] => by simp [PyData.eqvAll]
  | z :: zs => by
    have h1 := ptD_eqv z z
    have h2 := eqvAll_self zs
    rw [List.map_cons]
    simp only [PyData.eqvAll]
    rw [h1, h2, decide_eq_true rfl]
    rfl
theorem eqv_self (zs : List (Int × Int)) : PyData.eqv (.list (zs.map ptD)) (.list (zs.map ptD)) = true := by
  simp only [PyData.eqv]
  exact eqvAll_self zs
theorem dp_list {K : PySem.W.Frag} {H : Hp} {a : Addr} {ps : Pts} (h : H a = some (.lst (refsOf ps))) (hp : AllP H ps) : Dp K H (.ref a) (.list ((ps.map (·.2)).map ptD)) := .lst (SqL.of h) (dp_pts hp)
theorem ins_all {ln : Int} {H : Hp} {qs : Pts} (nd : (qs.map (·.2)).Nodup) (h : AllP H qs) : AllP H (insAll ln qs) := fun q hq => by
  obtain ⟨_, pm⟩ := ins_ok (ln := ln) qs [] List.Pairwise.nil (by simpa using nd)
  have := pm.mem_iff.mp hq
  exact h q (by simpa using this)
theorem ins_len {ln : Int} {qs : Pts} (nd : (qs.map (·.2)).Nodup) : (insAll ln qs).length = qs.length := by
  obtain ⟨_, pm⟩ := ins_ok (ln := ln) qs [] List.Pairwise.nil (by simpa using nd)
  exact pm.length_eq
/-- what stands in the loops of one cell: the points, the cells -/
structure St1 (H : Hp) (a c : Addr) (qs : Pts) (xs : List V) : Prop where
  pl : H a = some (.lst (refsOf qs))
  pa : AllP H qs
  cl : H c = some (.lst xs)
theorem St1.same {H H' : Hp} {a c : Addr} {qs : Pts} {xs : List V} (h : St1 H a c qs xs) (e : Same H H') : St1 H' a c qs xs := ⟨e _ _ h.pl, h.pa.same e, e _ _ h.cl⟩
theorem St1.at {H : Hp} {a c : Addr} {qs : Pts} {xs : List V} (h : St1 H a c qs xs) {i : Nat} {v : V} (hv : (refsOf qs)[i]? = some v) : ∃ q : Addr × Int × Int, v = .ref q.1 ∧ PtIn H q.1 q.2.1 q.2.2 := by
  obtain ⟨q, hq, rfl⟩ := refs_at hv
  exact ⟨q, rfl, h.pa q (List.mem_of_getElem? hq)⟩
section
variable {P : Program} {w : World} {K : PySem.W.Frag} {mg : Str → Option Value} {base : Heap}
theorem scLaw : FnScope ["_law_script", "_law_cell", "_law_source_here", "_law_spots_here", "_law_spot", "_law_second", "_law_due", "_law_turn", "_law_heard"] ["_law_script"] (defScope s_law) := ⟨rfl, rfl, rfl, by decide +kernel, rfl, by decide +kernel, by decide +kernel⟩
def spLaw (K : PySem.W.Frag) : Sp := fun vs H Q _ => ∃ (a : Addr) (ns : List Int), vs = [.ref a] ∧ SqL K H a (ns.map V.int) ∧ ns.length ≤ 63 ∧ ∀ H', Q (.bl true) H'
theorem ok_law {f fS fP fL fR fQ fO : Addr} {fd fdS fdP fdL fdR fdQ fdO : FuncData} (F : FnP K "law" s_law f fd) (Bm : Bt mg)
    (GS : FnOk P w K mg base CX0 1 fS fdS ["_law_cell"] spSource) (kS : PySem.W.keepIn K (.ref fS) = true) (bS : Binds K fdS ["_law_cell"] []) (gS : mg "_law_source" = some (.ref fS))
    (GP : FnOk P w K mg base CX0 4 fP fdP ["_law_source_here", "_law_most"] spSpots) (kP : PySem.W.keepIn K (.ref fP) = true) (bP : Binds K fdP ["_law_source_here", "_law_most"] []) (gP : mg "_law_spots" = some (.ref fP))
    (GL : FnOk P w K mg base CX0 1 fL fdL ["_law_spot", "_law_second", "_law_lane"] spLess) (kL : PySem.W.keepIn K (.ref fL) = true) (bL : Binds K fdL ["_law_spot", "_law_second", "_law_lane"] []) (gL : mg "_law_less" = some (.ref fL))
    (GR : FnOk P w K mg base CX0 2 fR fdR ["_law_spots_here", "_law_lane"] spSrt) (kR : PySem.W.keepIn K (.ref fR) = true) (bR : Binds K fdR ["_law_spots_here", "_law_lane"] []) (gR : mg "_law_sorted" = some (.ref fR))
    (GQ : FnOk P w K mg base CX0 5 fQ fdQ ["root", "point"] spPart) (kQ : PySem.W.keepIn K (.ref fQ) = true) (bQ : Binds K fdQ ["root", "point"] []) (kbQ : KBinds K fdQ ["root", "point"] ["point", "root"] sw sw) (gQ : mg "quarter" = some (.ref fQ))
    (GO : FnOk P w K mg base CX0 5 fO fdO ["points", "axis"] spOrdP) (kO : PySem.W.keepIn K (.ref fO) = true) (bO : Binds K fdO ["points", "axis"] []) (kbO : KBinds K fdO ["points", "axis"] ["axis", "points"] sw sw) (gO : mg "ordered" = some (.ref fO)) :
    FnOk P w K mg base CX0 6 f fd ["_law_script"] (spLaw K) := by
  refine F.ok scLaw (fun vs H Q E h => ?_) (fun cdv A outer s H vs Q E hr h => ?_)
  · obtain ⟨_, _, rfl, _⟩ := h
    rfl
  · obtain ⟨a0, ns, rfl, hS0, hlen, q⟩ := h
    refine ⟨_, pss_cons (ps_for PassesOwn.never rfl (pi_list (pe_slice sl_list (pe_op op_catL (pv 0) (pe_lst (pa_cons pe_int pa_nil))) po_none (po_some pe_int))) (pg_name (i := 1) scLaw.nd rfl (.inl rfl))
        (pss_cons (ps_set (i := 2) scLaw.nd rfl (.inl rfl) (pe_call GS (hr.mono (by decide)) (by rfl) gS kS bS .nil pass0 (pa_cons (pv 1) pa_nil)))
        (pss_cons (ps_set (i := 3) scLaw.nd rfl (.inl rfl) (pe_call GP (hr.mono (by decide)) (by rfl) gP kP bP .nil pass0 (pa_cons (pv 2) (pa_cons pe_int pa_nil))))
        (pss_cons (ps_for PassesOwn.never rfl (pi_list (pv 3)) (pg_name (i := 4) scLaw.nd rfl (.inl rfl))
          (pss_one (ps_for PassesOwn.never rfl (pi_list (pv 3)) (pg_name (i := 5) scLaw.nd rfl (.inl rfl))
            (pss_cons (ps_set (i := 6) scLaw.nd rfl (.inl rfl) (pe_op op_add (pe_callTy call_int1 (by rfl) Bm.int (by decide +kernel) (pa_cons (pe_call GL (hr.mono (by decide)) (by rfl) gL kL bL .nil pass0 (pa_cons (pv 4) (pa_cons (pv 5) (pa_cons pe_int pa_nil)))) pa_nil))
                (pe_op op_mul pe_int (pe_callTy call_int1 (by rfl) Bm.int (by decide +kernel) (pa_cons (pe_call GL (hr.mono (by decide)) (by rfl) gL kL bL .nil pass0 (pa_cons (pv 4) (pa_cons (pv 5) (pa_cons pe_int pa_nil)))) pa_nil)))))
            (pss_cons (ps_if (pt_cmpR op_ne (pe_callB call_reprO (by rfl) Bm.repr (by decide +kernel) (pa_cons (pe_call GQ hr (by rfl) gQ kQ bQ .nil pass0 (pa_cons (pv 4) (pa_cons (pv 5) pa_nil))) pa_nil))
                (pe_callB call_reprO (by rfl) Bm.repr (by decide +kernel) (pa_cons (pe_ifExp (pt_cmpR (op_eqD (hu64 hr)) (pv 4) (pv 5) (nomark _)) pe_non (pv 6)) pa_nil)) (nomark _)) (pss_one (ps_ret pe_bl)) pss_nil)
            (pss_one (ps_if (pt_cmpR op_ne (pe_callK0 GQ hr (by rfl) gQ kQ kbQ pass0 (pk_cons (pv 5) (pk_cons (pv 4) pk_nil))) (pe_ifExp (pt_cmpR (op_eqD (hu64 hr)) (pv 4) (pv 5) (nomark _)) pe_non (pv 6)) (nomark _)) (pss_one (ps_ret pe_bl)) pss_nil)))))))
        (pss_one (ps_for PassesOwn.never rfl (pi_range1 (by rfl) Bm.range (pa_cons pe_int pa_nil)) (pg_name (i := 7) scLaw.nd rfl (.inl rfl))
          (pss_cons (ps_set (i := 8) scLaw.nd rfl (.inl rfl) (pe_call GO hr (by rfl) gO kO bO .nil pass0 (pa_cons (pv 3) (pa_cons (pv 7) pa_nil))))
          (pss_cons (ps_if (PW.pt (pw_or (pt_cmpR (op_neD (hu64 hr)) (pv 8) (pe_call GR (hr.mono (by decide)) (by rfl) gR kR bR .nil pass0 (pa_cons (pv 3) (pa_cons (pv 7) pa_nil))) (nomark _))
              (pw_or1 (pt_cmpR (op_neD (hu64 hr)) (pe_callK0 GO hr (by rfl) gO kO kbO pass0 (pk_cons (pv 7) (pk_cons (pe_callTy call_tuple_of (by rfl) Bm.tuple (by decide +kernel) (pa_cons (pv 3) pa_nil)) pk_nil))) (pv 8) (nomark _))))) (pss_one (ps_ret pe_bl)) pss_nil)
          (pss_cons (ps_expr (pe_bm PySem.F.plainAttrs_list PySem.F.slot_list_append PySem.F.type_list_append mt_append (pv 8) (pa_cons pe_non pa_nil)))
          (pss_one (ps_if (pt_cmpR (op_neD (hu64 hr)) (pe_call GO hr (by rfl) gO kO bO .nil pass0 (pa_cons (pv 3) (pa_cons (pv 7) pa_nil))) (pe_call GR (hr.mono (by decide)) (by rfl) gR kR bR .nil pass0 (pa_cons (pv 3) (pa_cons (pv 7) pa_nil))) (nomark _)) (pss_one (ps_ret pe_bl)) pss_nil)))))))))))
      (pss_one (ps_ret pe_bl)), ?_⟩
    -- (script + [0])[:6]
    refine ⟨_, rfl, (by show 1 ≤ sizeLine; decide), fun l0 n0 => ?_⟩
    refine ⟨a0, l0, _, _, rfl, rfl, (same_new n0).seq hS0, SqL.of upd_same, ?_, fun l1 n1 => ?_⟩
    · rw [List.length_map]
      exact small40 (by show ns.length + 1 ≤ 1000; omega)
    · refine ⟨6, rfl, l1, _, rfl, SqL.of upd_same, fun c nc => ?_⟩
      refine ⟨c, rfl, ⟨_, SqL.of upd_same⟩, for_list (xs := cutV (ns.map V.int ++ [V.int 0]) none (some 6)) (fun i σ H3 => ∃ y1 y2 y3 y4 y5 y6 y7 y8 : Option V, σ = [some (.ref a0), y1, y2, y3, y4, y5, y6, y7, y8] ∧ H3 c = some (.lst (cutV (ns.map V.int ++ [V.int 0]) none (some 6)))) ?_ ?_ ?_ ?_⟩
      · exact ⟨none, none, none, none, none, none, none, none, rfl, upd_same⟩
      · rintro i σ H3 hi ⟨_, _, _, _, _, _, _, _, rfl, h⟩
        exact SqL.of h
      · rintro i v σ H3 hv ⟨_, _, _, y4, y5, y6, y7, y8, rfl, hC⟩
        obtain ⟨n, rfl⟩ := cells_int hv
        refine ⟨_, rfl, n, rfl, fun s H4 e4 ns4 hS4 => ?_⟩
        have hcs : c ≠ s := fun e => by
          rw [e] at hC
          rw [ns4] at hC
          cases hC
        refine ⟨_, rfl, s, 12, rfl, hS4, by decide, by decide, fun a qs H5 hS5 e5 na hP5 nd hl5 => ?_⟩
        have few : qs.length ≤ 40 := hP5.2.1
        have st5 : St1 H5 a c qs (cutV (ns.map V.int ++ [V.int 0]) none (some 6)) := ⟨hP5.1, hP5.2.2, e5 _ _ (e4 _ _ hC) hcs⟩
        -- the pairs
        refine ⟨_, rfl, a, rfl, ⟨_, SqL.of st5.pl⟩, for_list (xs := refsOf qs) (fun i σ H6 => ∃ z4 z5 z6 : Option V, σ = [some (.ref a0), some (.int n), some (.ref s), some (.ref a), z4, z5, z6, y7, y8] ∧ St1 H6 a c qs (cutV (ns.map V.int ++ [V.int 0]) none (some 6))) ?_ ?_ ?_ ?_⟩
        · exact ⟨_, _, _, rfl, st5⟩
        · rintro i σ H6 _ ⟨_, _, _, rfl, st6⟩
          exact SqL.of st6.pl
        · rintro i v6 σ H6 hv6 ⟨z4, z5, z6, rfl, st6⟩
          obtain ⟨⟨t, x, y⟩, rfl, hT6⟩ := st6.at hv6
          refine ⟨_, rfl, a, rfl, ⟨_, SqL.of st6.pl⟩, for_list (xs := refsOf qs) (fun i σ H7 => ∃ z5 z6 : Option V, σ = [some (.ref a0), some (.int n), some (.ref s), some (.ref a), some (.ref t), z5, z6, y7, y8] ∧ St1 H7 a c qs (cutV (ns.map V.int ++ [V.int 0]) none (some 6)) ∧ PtIn H7 t x y) ?_ ?_ ?_ ?_⟩
          · exact ⟨_, _, rfl, st6, hT6⟩
          · rintro i σ H7 _ ⟨_, _, rfl, st7, _⟩
            exact SqL.of st7.pl
          · rintro j v7 σ H7 hv7 ⟨z5, z6, rfl, st7, hT⟩
            obtain ⟨⟨u, x', y'⟩, rfl, hU⟩ := st7.at hv7
            -- due
            refine ⟨_, rfl, _, rfl, t, u, 0, x, y, x', y', rfl, .inl rfl, hT.1, hU.1, .inr ⟨_, rfl, ?_⟩⟩
            refine ⟨_, rfl, _, rfl, t, u, 1, x, y, x', y', rfl, .inr rfl, hT.1, hU.1, .inr ⟨_, rfl, ?_⟩⟩
            refine ⟨_, _, rfl, rfl, .inl ⟨by decide, by decide⟩, _, _, rfl, rfl, ?_⟩
            -- repr
            refine ⟨_, rfl, _, rfl, t, u, x, y, x', y', rfl, hT, hU, fun H8 e8 => ⟨partM x y x' y', rfl, fun i h => part_small h, ?_⟩⟩
            have hT8 := hT.same e8
            have hU8 := hU.same e8
            refine ⟨_, rfl, _, rfl, ptD (x, y), ptD (x', y'), dp_in hT8, dp_in hU8, ptD_shaped _, ptD_shaped _, _, rfl, ?_⟩
            rw [ptD_eqv]
            by_cases e : (x, y) = (x', y')
            · rw [decide_eq_true e]
              have ep : partM x y x' y' = none := by rw [part_due, if_pos e]
              refine iteT ?_
              refine ⟨none, rfl, (fun i h => by cases h), ?_⟩
              rw [ep]
              refine ⟨rfl, _, rfl, ?_⟩
              rw [ne_same]
              refine iteF ?_
              refine ⟨_, rfl, _, rfl, t, u, x, y, x', y', rfl, hT8, hU8, fun H9 e9 => ?_⟩
              refine ⟨_, rfl, _, rfl, ptD (x, y), ptD (x', y'), dp_in (hT8.same e9), dp_in (hU8.same e9), ptD_shaped _, ptD_shaped _, _, rfl, ?_⟩
              rw [ptD_eqv, decide_eq_true e, ep]
              refine iteT ?_
              refine ⟨rfl, _, rfl, ?_⟩
              rw [show (!decide (oV none = V.non)) = false from rfl]
              refine iteF ?_
              exact ⟨_, _, rfl, st7.same (e8.trans e9), hT8.same e9⟩
            · rw [decide_eq_false e]
              have ep : partM x y x' y' = some ((if lessM 0 x y x' y' = true then (1 : Int) else 0) + 2 * (if lessM 1 x y x' y' = true then (1 : Int) else 0)) := by rw [part_due, if_neg e, due_eq]
              refine iteF ?_
              refine ⟨_, rfl, some _, rfl, fun i h => part_small (ep.trans h), ?_⟩
              rw [ep]
              refine ⟨rfl, _, rfl, ?_⟩
              rw [ne_same]
              refine iteF ?_
              refine ⟨_, rfl, _, rfl, t, u, x, y, x', y', rfl, hT8, hU8, fun H9 e9 => ?_⟩
              refine ⟨_, rfl, _, rfl, ptD (x, y), ptD (x', y'), dp_in (hT8.same e9), dp_in (hU8.same e9), ptD_shaped _, ptD_shaped _, _, rfl, ?_⟩
              rw [ptD_eqv, decide_eq_false e, ep]
              refine iteF ?_
              refine ⟨_, rfl, rfl, _, rfl, ?_⟩
              rw [show (!decide (oV (some ((if lessM 0 x y x' y' = true then (1 : Int) else 0) + 2 * (if lessM 1 x y x' y' = true then (1 : Int) else 0))) = V.int ((if lessM 0 x y x' y' = true then (1 : Int) else 0) + 2 * (if lessM 1 x y x' y' = true then (1 : Int) else 0)))) = false from ne_same _]
              refine iteF ?_
              exact ⟨_, _, rfl, st7.same (e8.trans e9), hT8.same e9⟩
          · rintro σ H7 ⟨z5, z6, rfl, st7, _⟩
            exact ⟨_, _, _, rfl, st7⟩
        · rintro σ H6 ⟨z4, z5, z6, rfl, st6⟩
          -- the orders
          refine ⟨2, rfl, (by decide), (by decide), for_range (n := 2) (fun i σ H7 => ∃ z7 z8 : Option V, σ = [some (.ref a0), some (.int n), some (.ref s), some (.ref a), z4, z5, z6, z7, z8] ∧ St1 H7 a c qs (cutV (ns.map V.int ++ [V.int 0]) none (some 6))) ?_ ?_ ?_⟩
          · exact ⟨_, _, rfl, st6⟩
          · rintro k σ H7 hk ⟨z7, z8, rfl, st7⟩
            have hln : ((0 : Int) + (k : Nat) = 0) ∨ ((0 : Int) + (k : Nat) = 1) := by omega
            generalize (0 : Int) + (k : Nat) = ln at hln ⊢
            have hax : 0 ≤ ln ∧ ln ≤ 1 := by omega
            refine ⟨_, rfl, _, rfl, a, qs, ln, rfl, hax, .inl st7.pl, st7.pa, nd, few, fun H8 p e8 np hp => ?_⟩
            rw [sortM_ins hln nd] at hp
            have st8 := st7.same e8
            refine ⟨_, rfl, _, rfl, _, rfl, a, qs, ln, rfl, hln, st8.pl, st8.pa, few, fun H9 p2 e9 np2 hp2 => ?_⟩
            have st9 := st8.same e9
            have hp9 := e9 _ _ hp
            refine ⟨_, _, dp_list hp9 (ins_all nd st9.pa), dp_list hp2 (ins_all nd st9.pa), ptDs_shaped _, ptDs_shaped _, _, rfl, ?_⟩
            rw [eqv_self]
            refine iteF ?_
            refine ⟨_, rfl, _, rfl, a, _, rfl, .inl ⟨SqL.of st9.pl, fun l nl => ?_⟩⟩
            have s10 : Same H9 (upd H9 l (.tup (refsOf qs))) := same_new nl
            have st10 := st9.same s10
            refine ⟨l, qs, ln, rfl, hax, .inr upd_same, st10.pa, nd, few, fun H11 p3 e11 np3 hp3 => ?_⟩
            rw [sortM_ins hln nd] at hp3
            have st11 := st10.same e11
            have hp11 := e11 _ _ (s10 _ _ hp9)
            refine ⟨_, rfl, _, _, dp_list hp3 (ins_all nd st11.pa), dp_list hp11 (ins_all nd st11.pa), ptDs_shaped _, ptDs_shaped _, _, rfl, ?_⟩
            rw [eqv_self]
            refine iteF ?_
            refine ⟨_, rfl, .inl ⟨rfl, _, .inl (.inl hp11)⟩, p, _, .non, rfl, rfl, hp11, ?_, ?_⟩
            · rw [List.length_map, ins_len nd]
              exact small1000 (by omega)
            have e12 : Same H7 (upd H11 p (.lst (refsOf (insAll ln qs) ++ [.non]))) := same_ex np fun b o hb hne => by
              rw [upd_ne hne]
              exact (((e8.trans e9).trans s10).trans e11) b o hb
            have st12 := st7.same e12
            refine ⟨_, rfl, _, rfl, a, qs, ln, rfl, hax, .inl st12.pl, st12.pa, nd, few, fun H13 p4 e13 np4 hp4 => ?_⟩
            rw [sortM_ins hln nd] at hp4
            have st13 := st12.same e13
            refine ⟨_, rfl, _, rfl, a, qs, ln, rfl, hln, st13.pl, st13.pa, few, fun H14 p5 e14 np5 hp5 => ?_⟩
            have st14 := st13.same e14
            refine ⟨_, _, dp_list (e14 _ _ hp4) (ins_all nd st14.pa), dp_list hp5 (ins_all nd st14.pa), ptDs_shaped _, ptDs_shaped _, _, rfl, ?_⟩
            rw [eqv_self]
            refine iteF ?_
            exact ⟨_, _, rfl, st14⟩
          · rintro σ H7 ⟨z7, z8, rfl, st7⟩
            exact ⟨_, _, _, _, _, _, _, _, rfl, st7.cl⟩
      · rintro σ H3 ⟨_, _, _, _, _, _, _, _, rfl, _⟩
        exact q H3
end
end Q2

namespace Q2
open PySem PySem.Spec PyProof.Rows L2
theorem all_mk {l : PySem.W.OpenLaw} {w : World} {K : PySem.W.Frag} {h : Heap} {mg : Str → Option Value} {fa f_is_integer f_is_coordinate f_is_point f_check_point f_check_points f_check_number f_y_key f_part_of f_quarter f_ordered f_law_mixed f_law_source f_law_take f_law_pick f_law_spots f_law_less f_law_sorted f_law : Addr} (X : K.In h) (G : h.Ns mainGlobals mg) (hfa : mg "law" = some (.ref fa))
    {od_is_integer an_is_integer : Option Addr} {sl_is_integer : Array (Option Value)} {oc_is_integer kV_is_integer dc_is_integer pm_is_integer cd_is_integer ct_is_integer : Value}
    {od_is_coordinate an_is_coordinate : Option Addr} {sl_is_coordinate : Array (Option Value)} {oc_is_coordinate kV_is_coordinate dc_is_coordinate pm_is_coordinate cd_is_coordinate ct_is_coordinate : Value}
    {od_is_point an_is_point : Option Addr} {sl_is_point : Array (Option Value)} {oc_is_point kV_is_point dc_is_point pm_is_point cd_is_point ct_is_point : Value}
    {od_check_point an_check_point : Option Addr} {sl_check_point : Array (Option Value)} {oc_check_point kV_check_point dc_check_point pm_check_point cd_check_point ct_check_point : Value}
    {od_check_points an_check_points : Option Addr} {sl_check_points : Array (Option Value)} {oc_check_points kV_check_points dc_check_points pm_check_points cd_check_points ct_check_points : Value}
    {od_check_number an_check_number : Option Addr} {sl_check_number : Array (Option Value)} {oc_check_number kV_check_number dc_check_number pm_check_number cd_check_number ct_check_number : Value}
    {od_y_key an_y_key : Option Addr} {sl_y_key : Array (Option Value)} {oc_y_key kV_y_key dc_y_key pm_y_key cd_y_key ct_y_key : Value}
    {od_part_of an_part_of : Option Addr} {sl_part_of : Array (Option Value)} {oc_part_of kV_part_of dc_part_of pm_part_of cd_part_of ct_part_of : Value}
    {od_quarter an_quarter : Option Addr} {sl_quarter : Array (Option Value)} {oc_quarter kV_quarter dc_quarter pm_quarter cd_quarter ct_quarter : Value}
    {od_ordered an_ordered : Option Addr} {sl_ordered : Array (Option Value)} {oc_ordered kV_ordered dc_ordered pm_ordered cd_ordered ct_ordered : Value}
    {od_law_mixed an_law_mixed : Option Addr} {sl_law_mixed : Array (Option Value)} {oc_law_mixed kV_law_mixed dc_law_mixed pm_law_mixed cd_law_mixed ct_law_mixed : Value}
    {od_law_source an_law_source : Option Addr} {sl_law_source : Array (Option Value)} {oc_law_source kV_law_source dc_law_source pm_law_source cd_law_source ct_law_source : Value}
    {od_law_take an_law_take : Option Addr} {sl_law_take : Array (Option Value)} {oc_law_take kV_law_take dc_law_take pm_law_take cd_law_take ct_law_take : Value}
    {od_law_pick an_law_pick : Option Addr} {sl_law_pick : Array (Option Value)} {oc_law_pick kV_law_pick dc_law_pick pm_law_pick cd_law_pick ct_law_pick : Value}
    {od_law_spots an_law_spots : Option Addr} {sl_law_spots : Array (Option Value)} {oc_law_spots kV_law_spots dc_law_spots pm_law_spots cd_law_spots ct_law_spots : Value}
    {od_law_less an_law_less : Option Addr} {sl_law_less : Array (Option Value)} {oc_law_less kV_law_less dc_law_less pm_law_less cd_law_less ct_law_less : Value}
    {od_law_sorted an_law_sorted : Option Addr} {sl_law_sorted : Array (Option Value)} {oc_law_sorted kV_law_sorted dc_law_sorted pm_law_sorted cd_law_sorted ct_law_sorted : Value}
    {od_law an_law : Option Addr} {sl_law : Array (Option Value)} {oc_law kV_law dc_law pm_law cd_law ct_law : Value}
    {tk_FARTHEST_COORDINATE : Tok}
    {tk_MOST_POINTS : Tok}
    (a_is_integer : PySem.W.nsIn K mainGlobals "is_integer" = some (some (.ref f_is_integer))) (l_is_integer : K.lookup f_is_integer = some ⟨oc_is_integer, od_is_integer, .func (PySem.W.fnOf "is_integer" "is_integer" (defArgs s_is_integer) (defBody s_is_integer) (defScope s_is_integer) .none kV_is_integer dc_is_integer pm_is_integer an_is_integer cd_is_integer ct_is_integer), sl_is_integer⟩) (c_is_integer : PySem.W.codeIn K cd_is_integer "is_integer" = true) (k_is_integer : PySem.W.keepIn K (.ref f_is_integer) = true)
    (a_is_coordinate : PySem.W.nsIn K mainGlobals "is_coordinate" = some (some (.ref f_is_coordinate))) (l_is_coordinate : K.lookup f_is_coordinate = some ⟨oc_is_coordinate, od_is_coordinate, .func (PySem.W.fnOf "is_coordinate" "is_coordinate" (defArgs s_is_coordinate) (defBody s_is_coordinate) (defScope s_is_coordinate) .none kV_is_coordinate dc_is_coordinate pm_is_coordinate an_is_coordinate cd_is_coordinate ct_is_coordinate), sl_is_coordinate⟩) (c_is_coordinate : PySem.W.codeIn K cd_is_coordinate "is_coordinate" = true) (k_is_coordinate : PySem.W.keepIn K (.ref f_is_coordinate) = true)
    (a_is_point : PySem.W.nsIn K mainGlobals "is_point" = some (some (.ref f_is_point))) (l_is_point : K.lookup f_is_point = some ⟨oc_is_point, od_is_point, .func (PySem.W.fnOf "is_point" "is_point" (defArgs s_is_point) (defBody s_is_point) (defScope s_is_point) .none kV_is_point dc_is_point pm_is_point an_is_point cd_is_point ct_is_point), sl_is_point⟩) (c_is_point : PySem.W.codeIn K cd_is_point "is_point" = true) (k_is_point : PySem.W.keepIn K (.ref f_is_point) = true)
    (a_check_point : PySem.W.nsIn K mainGlobals "check_point" = some (some (.ref f_check_point))) (l_check_point : K.lookup f_check_point = some ⟨oc_check_point, od_check_point, .func (PySem.W.fnOf "check_point" "check_point" (defArgs s_check_point) (defBody s_check_point) (defScope s_check_point) .none kV_check_point dc_check_point pm_check_point an_check_point cd_check_point ct_check_point), sl_check_point⟩) (c_check_point : PySem.W.codeIn K cd_check_point "check_point" = true) (k_check_point : PySem.W.keepIn K (.ref f_check_point) = true)
    (a_check_points : PySem.W.nsIn K mainGlobals "check_points" = some (some (.ref f_check_points))) (l_check_points : K.lookup f_check_points = some ⟨oc_check_points, od_check_points, .func (PySem.W.fnOf "check_points" "check_points" (defArgs s_check_points) (defBody s_check_points) (defScope s_check_points) .none kV_check_points dc_check_points pm_check_points an_check_points cd_check_points ct_check_points), sl_check_points⟩) (c_check_points : PySem.W.codeIn K cd_check_points "check_points" = true) (k_check_points : PySem.W.keepIn K (.ref f_check_points) = true)
    (a_check_number : PySem.W.nsIn K mainGlobals "check_number" = some (some (.ref f_check_number))) (l_check_number : K.lookup f_check_number = some ⟨oc_check_number, od_check_number, .func (PySem.W.fnOf "check_number" "check_number" (defArgs s_check_number) (defBody s_check_number) (defScope s_check_number) .none kV_check_number dc_check_number pm_check_number an_check_number cd_check_number ct_check_number), sl_check_number⟩) (c_check_number : PySem.W.codeIn K cd_check_number "check_number" = true) (k_check_number : PySem.W.keepIn K (.ref f_check_number) = true)
    (a_y_key : PySem.W.nsIn K mainGlobals "y_key" = some (some (.ref f_y_key))) (l_y_key : K.lookup f_y_key = some ⟨oc_y_key, od_y_key, .func (PySem.W.fnOf "y_key" "y_key" (defArgs s_y_key) (defBody s_y_key) (defScope s_y_key) .none kV_y_key dc_y_key pm_y_key an_y_key cd_y_key ct_y_key), sl_y_key⟩) (c_y_key : PySem.W.codeIn K cd_y_key "y_key" = true) (k_y_key : PySem.W.keepIn K (.ref f_y_key) = true)
    (a_part_of : PySem.W.nsIn K mainGlobals "part_of" = some (some (.ref f_part_of))) (l_part_of : K.lookup f_part_of = some ⟨oc_part_of, od_part_of, .func (PySem.W.fnOf "part_of" "part_of" (defArgs s_part_of) (defBody s_part_of) (defScope s_part_of) .none kV_part_of dc_part_of pm_part_of an_part_of cd_part_of ct_part_of), sl_part_of⟩) (c_part_of : PySem.W.codeIn K cd_part_of "part_of" = true) (k_part_of : PySem.W.keepIn K (.ref f_part_of) = true)
    (a_quarter : PySem.W.nsIn K mainGlobals "quarter" = some (some (.ref f_quarter))) (l_quarter : K.lookup f_quarter = some ⟨oc_quarter, od_quarter, .func (PySem.W.fnOf "quarter" "quarter" (defArgs s_quarter) (defBody s_quarter) (defScope s_quarter) .none kV_quarter dc_quarter pm_quarter an_quarter cd_quarter ct_quarter), sl_quarter⟩) (c_quarter : PySem.W.codeIn K cd_quarter "quarter" = true) (k_quarter : PySem.W.keepIn K (.ref f_quarter) = true)
    (a_ordered : PySem.W.nsIn K mainGlobals "ordered" = some (some (.ref f_ordered))) (l_ordered : K.lookup f_ordered = some ⟨oc_ordered, od_ordered, .func (PySem.W.fnOf "ordered" "ordered" (defArgs s_ordered) (defBody s_ordered) (defScope s_ordered) .none kV_ordered dc_ordered pm_ordered an_ordered cd_ordered ct_ordered), sl_ordered⟩) (c_ordered : PySem.W.codeIn K cd_ordered "ordered" = true) (k_ordered : PySem.W.keepIn K (.ref f_ordered) = true)
    (a_law_mixed : PySem.W.nsIn K mainGlobals "_law_mixed" = some (some (.ref f_law_mixed))) (l_law_mixed : K.lookup f_law_mixed = some ⟨oc_law_mixed, od_law_mixed, .func (PySem.W.fnOf "_law_mixed" "_law_mixed" (defArgs s_law_mixed) (defBody s_law_mixed) (defScope s_law_mixed) .none kV_law_mixed dc_law_mixed pm_law_mixed an_law_mixed cd_law_mixed ct_law_mixed), sl_law_mixed⟩) (c_law_mixed : PySem.W.codeIn K cd_law_mixed "_law_mixed" = true) (k_law_mixed : PySem.W.keepIn K (.ref f_law_mixed) = true)
    (a_law_source : PySem.W.nsIn K mainGlobals "_law_source" = some (some (.ref f_law_source))) (l_law_source : K.lookup f_law_source = some ⟨oc_law_source, od_law_source, .func (PySem.W.fnOf "_law_source" "_law_source" (defArgs s_law_source) (defBody s_law_source) (defScope s_law_source) .none kV_law_source dc_law_source pm_law_source an_law_source cd_law_source ct_law_source), sl_law_source⟩) (c_law_source : PySem.W.codeIn K cd_law_source "_law_source" = true) (k_law_source : PySem.W.keepIn K (.ref f_law_source) = true)
    (a_law_take : PySem.W.nsIn K mainGlobals "_law_take" = some (some (.ref f_law_take))) (l_law_take : K.lookup f_law_take = some ⟨oc_law_take, od_law_take, .func (PySem.W.fnOf "_law_take" "_law_take" (defArgs s_law_take) (defBody s_law_take) (defScope s_law_take) .none kV_law_take dc_law_take pm_law_take an_law_take cd_law_take ct_law_take), sl_law_take⟩) (c_law_take : PySem.W.codeIn K cd_law_take "_law_take" = true) (k_law_take : PySem.W.keepIn K (.ref f_law_take) = true)
    (a_law_pick : PySem.W.nsIn K mainGlobals "_law_pick" = some (some (.ref f_law_pick))) (l_law_pick : K.lookup f_law_pick = some ⟨oc_law_pick, od_law_pick, .func (PySem.W.fnOf "_law_pick" "_law_pick" (defArgs s_law_pick) (defBody s_law_pick) (defScope s_law_pick) .none kV_law_pick dc_law_pick pm_law_pick an_law_pick cd_law_pick ct_law_pick), sl_law_pick⟩) (c_law_pick : PySem.W.codeIn K cd_law_pick "_law_pick" = true) (k_law_pick : PySem.W.keepIn K (.ref f_law_pick) = true)
    (a_law_spots : PySem.W.nsIn K mainGlobals "_law_spots" = some (some (.ref f_law_spots))) (l_law_spots : K.lookup f_law_spots = some ⟨oc_law_spots, od_law_spots, .func (PySem.W.fnOf "_law_spots" "_law_spots" (defArgs s_law_spots) (defBody s_law_spots) (defScope s_law_spots) .none kV_law_spots dc_law_spots pm_law_spots an_law_spots cd_law_spots ct_law_spots), sl_law_spots⟩) (c_law_spots : PySem.W.codeIn K cd_law_spots "_law_spots" = true) (k_law_spots : PySem.W.keepIn K (.ref f_law_spots) = true)
    (a_law_less : PySem.W.nsIn K mainGlobals "_law_less" = some (some (.ref f_law_less))) (l_law_less : K.lookup f_law_less = some ⟨oc_law_less, od_law_less, .func (PySem.W.fnOf "_law_less" "_law_less" (defArgs s_law_less) (defBody s_law_less) (defScope s_law_less) .none kV_law_less dc_law_less pm_law_less an_law_less cd_law_less ct_law_less), sl_law_less⟩) (c_law_less : PySem.W.codeIn K cd_law_less "_law_less" = true) (k_law_less : PySem.W.keepIn K (.ref f_law_less) = true)
    (a_law_sorted : PySem.W.nsIn K mainGlobals "_law_sorted" = some (some (.ref f_law_sorted))) (l_law_sorted : K.lookup f_law_sorted = some ⟨oc_law_sorted, od_law_sorted, .func (PySem.W.fnOf "_law_sorted" "_law_sorted" (defArgs s_law_sorted) (defBody s_law_sorted) (defScope s_law_sorted) .none kV_law_sorted dc_law_sorted pm_law_sorted an_law_sorted cd_law_sorted ct_law_sorted), sl_law_sorted⟩) (c_law_sorted : PySem.W.codeIn K cd_law_sorted "_law_sorted" = true) (k_law_sorted : PySem.W.keepIn K (.ref f_law_sorted) = true)
    (a_law : PySem.W.nsIn K mainGlobals "law" = some (some (.ref f_law))) (l_law : K.lookup f_law = some ⟨oc_law, od_law, .func (PySem.W.fnOf "law" "law" (defArgs s_law) (defBody s_law) (defScope s_law) .none kV_law dc_law pm_law an_law cd_law ct_law), sl_law⟩) (c_law : PySem.W.codeIn K cd_law "law" = true) (k_law : PySem.W.keepIn K (.ref f_law) = true)
    (w_FARTHEST_COORDINATE : PySem.W.nsIn K mainGlobals "FARTHEST_COORDINATE" = some (some (.int Lo tk_FARTHEST_COORDINATE)))
    (w_MOST_POINTS : PySem.W.nsIn K mainGlobals "MOST_POINTS" = some (some (.int 500 tk_MOST_POINTS)))
    (z_int : PySem.W.nsIn K mainGlobals "int" = some none)
    (z_abs : PySem.W.nsIn K mainGlobals "abs" = some none)
    (z_len : PySem.W.nsIn K mainGlobals "len" = some none)
    (z_range : PySem.W.nsIn K mainGlobals "range" = some none)
    (z_isinstance : PySem.W.nsIn K mainGlobals "isinstance" = some none)
    (z_bool : PySem.W.nsIn K mainGlobals "bool" = some none)
    (z_tuple : PySem.W.nsIn K mainGlobals "tuple" = some none)
    (z_all : PySem.W.nsIn K mainGlobals "all" = some none)
    (z_repr : PySem.W.nsIn K mainGlobals "repr" = some none)
    (z_list : PySem.W.nsIn K mainGlobals "list" = some none)
    (z_set : PySem.W.nsIn K mainGlobals "set" = some none)
    (z_enumerate : PySem.W.nsIn K mainGlobals "enumerate" = some none)
    (z_sorted : PySem.W.nsIn K mainGlobals "sorted" = some none) :
    ∃ fd : FuncData, (∀ (s : Shared) (v : Value), BindsTo s fd ⟨[v], []⟩ [("_law_script", v)]) ∧ ∀ base : Heap, K.In base → base.Ns mainGlobals mg → FnOk l.prog w K mg base CX0 6 fa fd ["_law_script"] (spLaw K) := by
  have e := hfa.symm.trans (PySem.W.mg_of X G a_law)
  cases e
  have F_is_integer := fun_mk (st := s_is_integer) l_is_integer c_is_integer k_is_integer
  have b_is_integer := F_is_integer.binds (ps := ["value"]) fun _ _ _ _ _ _ us hl => match us, hl with | [_], _ => rfl
  have m_is_integer := PySem.W.mg_of X G a_is_integer
  have F_is_coordinate := fun_mk (st := s_is_coordinate) l_is_coordinate c_is_coordinate k_is_coordinate
  have b_is_coordinate := F_is_coordinate.binds (ps := ["value"]) fun _ _ _ _ _ _ us hl => match us, hl with | [_], _ => rfl
  have m_is_coordinate := PySem.W.mg_of X G a_is_coordinate
  have F_is_point := fun_mk (st := s_is_point) l_is_point c_is_point k_is_point
  have b_is_point := F_is_point.binds (ps := ["value"]) fun _ _ _ _ _ _ us hl => match us, hl with | [_], _ => rfl
  have m_is_point := PySem.W.mg_of X G a_is_point
  have F_check_point := fun_mk (st := s_check_point) l_check_point c_check_point k_check_point
  have b_check_point := F_check_point.binds (ps := ["value"]) fun _ _ _ _ _ _ us hl => match us, hl with | [_], _ => rfl
  have m_check_point := PySem.W.mg_of X G a_check_point
  have F_check_points := fun_mk (st := s_check_points) l_check_points c_check_points k_check_points
  have b_check_points := F_check_points.binds (ps := ["value"]) fun _ _ _ _ _ _ us hl => match us, hl with | [_], _ => rfl
  have m_check_points := PySem.W.mg_of X G a_check_points
  have F_check_number := fun_mk (st := s_check_number) l_check_number c_check_number k_check_number
  have b_check_number := F_check_number.binds (ps := ["value", "least", "most", "name"]) fun _ _ _ _ _ _ us hl => match us, hl with | [_, _, _, _], _ => rfl
  have m_check_number := PySem.W.mg_of X G a_check_number
  have F_y_key := fun_mk (st := s_y_key) l_y_key c_y_key k_y_key
  have b_y_key := F_y_key.binds (ps := ["point"]) fun _ _ _ _ _ _ us hl => match us, hl with | [_], _ => rfl
  have m_y_key := PySem.W.mg_of X G a_y_key
  have F_part_of := fun_mk (st := s_part_of) l_part_of c_part_of k_part_of
  have b_part_of := F_part_of.binds (ps := ["root", "point"]) fun _ _ _ _ _ _ us hl => match us, hl with | [_, _], _ => rfl
  have m_part_of := PySem.W.mg_of X G a_part_of
  have F_quarter := fun_mk (st := s_quarter) l_quarter c_quarter k_quarter
  have b_quarter := F_quarter.binds (ps := ["root", "point"]) fun _ _ _ _ _ _ us hl => match us, hl with | [_, _], _ => rfl
  have m_quarter := PySem.W.mg_of X G a_quarter
  have F_ordered := fun_mk (st := s_ordered) l_ordered c_ordered k_ordered
  have b_ordered := F_ordered.binds (ps := ["points", "axis"]) fun _ _ _ _ _ _ us hl => match us, hl with | [_, _], _ => rfl
  have m_ordered := PySem.W.mg_of X G a_ordered
  have F_law_mixed := fun_mk (st := s_law_mixed) l_law_mixed c_law_mixed k_law_mixed
  have b_law_mixed := F_law_mixed.binds (ps := ["_law_cell", "_law_draw"]) fun _ _ _ _ _ _ us hl => match us, hl with | [_, _], _ => rfl
  have m_law_mixed := PySem.W.mg_of X G a_law_mixed
  have F_law_source := fun_mk (st := s_law_source) l_law_source c_law_source k_law_source
  have b_law_source := F_law_source.binds (ps := ["_law_cell"]) fun _ _ _ _ _ _ us hl => match us, hl with | [_], _ => rfl
  have m_law_source := PySem.W.mg_of X G a_law_source
  have F_law_take := fun_mk (st := s_law_take) l_law_take c_law_take k_law_take
  have b_law_take := F_law_take.binds (ps := ["_law_source_here", "_law_bound"]) fun _ _ _ _ _ _ us hl => match us, hl with | [_, _], _ => rfl
  have m_law_take := PySem.W.mg_of X G a_law_take
  have F_law_pick := fun_mk (st := s_law_pick) l_law_pick c_law_pick k_law_pick
  have b_law_pick := F_law_pick.binds (ps := ["_law_source_here", "_law_some"]) fun _ _ _ _ _ _ us hl => match us, hl with | [_, _], _ => rfl
  have m_law_pick := PySem.W.mg_of X G a_law_pick
  have F_law_spots := fun_mk (st := s_law_spots) l_law_spots c_law_spots k_law_spots
  have b_law_spots := F_law_spots.binds (ps := ["_law_source_here", "_law_most"]) fun _ _ _ _ _ _ us hl => match us, hl with | [_, _], _ => rfl
  have m_law_spots := PySem.W.mg_of X G a_law_spots
  have F_law_less := fun_mk (st := s_law_less) l_law_less c_law_less k_law_less
  have b_law_less := F_law_less.binds (ps := ["_law_spot", "_law_second", "_law_lane"]) fun _ _ _ _ _ _ us hl => match us, hl with | [_, _, _], _ => rfl
  have m_law_less := PySem.W.mg_of X G a_law_less
  have F_law_sorted := fun_mk (st := s_law_sorted) l_law_sorted c_law_sorted k_law_sorted
  have b_law_sorted := F_law_sorted.binds (ps := ["_law_spots_here", "_law_lane"]) fun _ _ _ _ _ _ us hl => match us, hl with | [_, _], _ => rfl
  have m_law_sorted := PySem.W.mg_of X G a_law_sorted
  have F_law := fun_mk (st := s_law) l_law c_law k_law
  have m_FARTHEST_COORDINATE := PySem.W.mg_of X G w_FARTHEST_COORDINATE
  have m_MOST_POINTS := PySem.W.mg_of X G w_MOST_POINTS
  have n_int := PySem.W.mg_none_of X G z_int
  have n_abs := PySem.W.mg_none_of X G z_abs
  have n_len := PySem.W.mg_none_of X G z_len
  have n_range := PySem.W.mg_none_of X G z_range
  have n_isinstance := PySem.W.mg_none_of X G z_isinstance
  have n_bool := PySem.W.mg_none_of X G z_bool
  have n_tuple := PySem.W.mg_none_of X G z_tuple
  have n_all := PySem.W.mg_none_of X G z_all
  have n_repr := PySem.W.mg_none_of X G z_repr
  have n_list := PySem.W.mg_none_of X G z_list
  have n_set := PySem.W.mg_none_of X G z_set
  have n_enumerate := PySem.W.mg_none_of X G z_enumerate
  have n_sorted := PySem.W.mg_none_of X G z_sorted
  refine ⟨PySem.W.fnOf "law" "law" (defArgs s_law) (defBody s_law) (defScope s_law) .none kV_law dc_law pm_law an_law cd_law ct_law, fun s v => .of_eq rfl, fun base _ _ => ?_⟩
  have B : Bt mg := ⟨n_int, n_abs, n_len, n_range, n_isinstance, n_bool, n_tuple, n_all, n_repr⟩
  have C : B1 mg := ⟨n_list, n_set, n_enumerate, n_sorted⟩
  have G_take := ok_take (P := l.prog) (w := w) (base := base) F_law_take B F_law_mixed b_law_mixed m_law_mixed
  have G_pick := ok_pick (fM := f_law_mixed) (fdM := PySem.W.fnOf "law" "law" (defArgs s_law) (defBody s_law) (defScope s_law) .none kV_law dc_law pm_law an_law cd_law ct_law) F_law_pick B G_take F_law_take.kp b_law_take m_law_take
  have G_spots := ok_spots F_law_spots B G_take F_law_take.kp b_law_take m_law_take G_pick F_law_pick.kp b_law_pick m_law_pick
  have G_up := ok_coord (P := l.prog) (w := w) (base := base) F_is_coordinate B F_is_integer b_is_integer m_is_integer m_FARTHEST_COORDINATE
  have G_pt := ok_isPt F_is_point B G_up F_is_coordinate.kp b_is_coordinate m_is_coordinate
  have G_cp := ok_chkPt F_check_point G_pt F_is_point.kp b_is_point m_is_point
  have G_cps := ok_chkPs F_check_points B C G_pt F_is_point.kp b_is_point m_is_point m_MOST_POINTS
  have G_cn := ok_chkN (P := l.prog) (w := w) (base := base) F_check_number B F_is_integer b_is_integer m_is_integer
  have G_pa := ok_part (P := l.prog) (w := w) (mg := mg) (base := base) F_part_of
  have G_qu := ok_quarter F_quarter G_cp F_check_point.kp b_check_point m_check_point G_pa F_part_of.kp b_part_of m_part_of
  have G_or := ok_ordP F_ordered C G_cps F_check_points.kp b_check_points m_check_points G_cn F_check_number.kp b_check_number m_check_number F_y_key m_y_key
  have G_ls := ok_srt (P := l.prog) (w := w) (base := base) F_law_sorted B F_law_less b_law_less m_law_less
  have kb_qu := kb_of (ps := ["root", "point"]) (ks := ["point", "root"]) F_quarter rfl fun _ _ _ _ _ _ _ _ => rfl
  have kb_or := kb_of (ps := ["points", "axis"]) (ks := ["axis", "points"]) F_ordered rfl fun _ _ _ _ _ _ _ _ => rfl
  exact ok_law F_law B (ok_source F_law_source B) F_law_source.kp b_law_source m_law_source G_spots F_law_spots.kp b_law_spots m_law_spots (ok_less F_law_less) F_law_less.kp b_law_less m_law_less
    G_ls F_law_sorted.kp b_law_sorted m_law_sorted G_qu F_quarter.kp b_quarter kb_qu m_quarter G_or F_ordered.kp b_ordered kb_or m_ordered
end Q2
open PySem PySem.W PyProof.Rows
set_option maxHeartbeats 0 in
theorem PySem.Challenge.cw_planesplits_k01_parts_and_orders_holds : PySem.Challenge.rw_planesplits_k01_parts_and_orders.Holds := by
  w_on; o_law; k_head; (case hw => w_witness2)
  k_fill
  refine L2.walk_of (l := PySem.Challenge.rw_planesplits_k01_parts_and_orders) (n := 63) (k := 6) (x := "_law_script") (CX := fun _ => L2.CX0) (sp := fun w => Q2.spLaw _) rfl (by decide) rfl ⟨rfl, by decide, by decide⟩ (fun w h Y => PySem.W.kIn_of Y) ?F (fun _ _ a ns hl _ hS => ⟨a, ns, rfl, hS, hl, fun _ => rfl⟩) (fun _ _ _ _ _ h => h)
  case F =>
    intro w mg fa h KX G hmg
    refine' Q2.all_mk KX G hmg ?a_is_integer ?l_is_integer ?c_is_integer ?k_is_integer ?a_is_coordinate ?l_is_coordinate ?c_is_coordinate ?k_is_coordinate ?a_is_point ?l_is_point ?c_is_point ?k_is_point ?a_check_point ?l_check_point ?c_check_point ?k_check_point ?a_check_points ?l_check_points ?c_check_points ?k_check_points ?a_check_number ?l_check_number ?c_check_number ?k_check_number ?a_y_key ?l_y_key ?c_y_key ?k_y_key ?a_part_of ?l_part_of ?c_part_of ?k_part_of ?a_quarter ?l_quarter ?c_quarter ?k_quarter ?a_ordered ?l_ordered ?c_ordered ?k_ordered ?a_law_mixed ?l_law_mixed ?c_law_mixed ?k_law_mixed ?a_law_source ?l_law_source ?c_law_source ?k_law_source ?a_law_take ?l_law_take ?c_law_take ?k_law_take ?a_law_pick ?l_law_pick ?c_law_pick ?k_law_pick ?a_law_spots ?l_law_spots ?c_law_spots ?k_law_spots ?a_law_less ?l_law_less ?c_law_less ?k_law_less ?a_law_sorted ?l_law_sorted ?c_law_sorted ?k_law_sorted ?a_law ?l_law ?c_law ?k_law ?w_FARTHEST_COORDINATE ?w_MOST_POINTS ?z_int ?z_abs ?z_len ?z_range ?z_isinstance ?z_bool ?z_tuple ?z_all ?z_repr ?z_list ?z_set ?z_enumerate ?z_sorted
    (case a_is_integer => k_is)
    (case l_is_integer => k_is)
    (case c_is_integer => k_is)
    (case k_is_integer => k_is)
    (case a_is_coordinate => k_is)
    (case l_is_coordinate => k_is)
    (case c_is_coordinate => k_is)
    (case k_is_coordinate => k_is)
    (case a_is_point => k_is)
    (case l_is_point => k_is)
    (case c_is_point => k_is)
    (case k_is_point => k_is)
    (case a_check_point => k_is)
    (case l_check_point => k_is)
    (case c_check_point => k_is)
    (case k_check_point => k_is)
    (case a_check_points => k_is)
    (case l_check_points => k_is)
    (case c_check_points => k_is)
    (case k_check_points => k_is)
    (case a_check_number => k_is)
    (case l_check_number => k_is)
    (case c_check_number => k_is)
    (case k_check_number => k_is)
    (case a_y_key => k_is)
    (case l_y_key => k_is)
    (case c_y_key => k_is)
    (case k_y_key => k_is)
    (case a_part_of => k_is)
    (case l_part_of => k_is)
    (case c_part_of => k_is)
    (case k_part_of => k_is)
    (case a_quarter => k_is)
    (case l_quarter => k_is)
    (case c_quarter => k_is)
    (case k_quarter => k_is)
    (case a_ordered => k_is)
    (case l_ordered => k_is)
    (case c_ordered => k_is)
    (case k_ordered => k_is)
    (case a_law_mixed => k_is)
    (case l_law_mixed => k_is)
    (case c_law_mixed => k_is)
    (case k_law_mixed => k_is)
    (case a_law_source => k_is)
    (case l_law_source => k_is)
    (case c_law_source => k_is)
    (case k_law_source => k_is)
    (case a_law_take => k_is)
    (case l_law_take => k_is)
    (case c_law_take => k_is)
    (case k_law_take => k_is)
    (case a_law_pick => k_is)
    (case l_law_pick => k_is)
    (case c_law_pick => k_is)
    (case k_law_pick => k_is)
    (case a_law_spots => k_is)
    (case l_law_spots => k_is)
    (case c_law_spots => k_is)
    (case k_law_spots => k_is)
    (case a_law_less => k_is)
    (case l_law_less => k_is)
    (case c_law_less => k_is)
    (case k_law_less => k_is)
    (case a_law_sorted => k_is)
    (case l_law_sorted => k_is)
    (case c_law_sorted => k_is)
    (case k_law_sorted => k_is)
    (case a_law => k_is)
    (case l_law => k_is)
    (case c_law => k_is)
    (case k_law => k_is)
    (case w_FARTHEST_COORDINATE => k_is)
    (case w_MOST_POINTS => k_is)
    (case z_int => k_is)
    (case z_abs => k_is)
    (case z_len => k_is)
    (case z_range => k_is)
    (case z_isinstance => k_is)
    (case z_bool => k_is)
    (case z_tuple => k_is)
    (case z_all => k_is)
    (case z_repr => k_is)
    (case z_list => k_is)
    (case z_set => k_is)
    (case z_enumerate => k_is)
    (case z_sorted => k_is)

