import PyProof.Rows.All
import Wide.All
import OpenK.AllK
import Wide.FinOn
import HandS.ForMost
import HandS.Wide
import HandS.Deep
import HandS.IsInst
import HandS.Walk
import HandS.TupSets
import KE.SortKeyHeap
import HandS.SortKw
import KE.GoesEnum
import KE.GoesMore
import HandS.TupLe
import HandS.RaiseMore
import HandS.RevRange
import HandS.NoneIn
import HandS.Steps
import HandS.TupAny
import PySem.Challenge.RW_planesplits_k07_trees_built
set_option Elab.async false
set_option linter.all false
set_option maxRecDepth 100000
set_option maxHeartbeats 4000000
namespace Q2
open PySem PySem.Spec PyProof.Rows L2
/-! ### rules that the layer lacks -/
section
variable {X : Cx}
/-- x ** n of great ints -/
def CPowW (i j : Int) : Prop := 0 ≤ j ∧ (Builtin.Int.intBits i : Int) * j ≤ 2 ^ 27
theorem op_powW : OpR X (binaryOp .Pow) (rI CPowW fun i j => .int (i ^ j.toNat)) := opI fun _ _ _ _ _ _ _ hc q => pow_int hc.1 hc.2 q
theorem powW2 {i : Int} (h : i.natAbs < 2 ^ 1000) : CPowW i 2 := by
  have h1 := PySem.Flt.log2_lt_of (by decide : 0 < 1000) h
  have h2 : Builtin.Int.intBits i ≤ i.natAbs.log2 + 1 := by
    unfold Builtin.Int.intBits
    split <;> omega
  refine ⟨by decide, ?_⟩
  have h3 : ((2 : Int) ^ 27) = 134217728 := by decide
  rw [h3]
  omega
/-- list + list, either of which may be read only -/
def rCatL (K : PySem.W.Frag) : R2 := fun x y H Q => ∃ l b xs zs, x = .ref l ∧ y = .ref b ∧ SqL K H l xs ∧ SqL K H b zs ∧ xs.length + zs.length ≤ sizeLine ∧ ∀ p, H p = none → Q (.ref p) (upd H p (.lst (xs ++ zs)))
theorem op_catL : OpR X (binaryOp .Add) (rCatL X.K) := by
  intro pins s σ H x y v u Q I rx ry h
  obtain ⟨l, b, xs, zs, rfl, rfl, hH, hB, hz, q⟩ := h
  cases rx
  cases ry
  obtain ⟨its, r, ⟨⟨cls, dd, data, sl⟩, n, ho, hc, hdn, hdt⟩, hl⟩ := I.list hH
  obtain ⟨its2, r2, ⟨⟨cls2, dd2, data2, sl2⟩, n2, ho2, hc2, hdn2, hdt2⟩, hl2⟩ := I.list hB
  simp only at hc hdt hc2 hdt2
  subst hc hdt hc2 hdt2
  have e1 := r.length
  have e2 := r2.length
  refine concat_meets ⟨_, ho, rfl⟩ ⟨_, ho2, rfl⟩ noFill_list_add seq_list_add PySem.F.slot_list_add PySem.F.entry_list_add (PySem.F.args_list_add_2 _ _) (list_addW l b its.toArray its2.toArray n n2 dd dd2 sl sl2 (by simp only [List.size_toArray]; omega)) ⟨ho, ho2, ?_⟩
  have ea : its.toArray ++ its2.toArray = (its ++ its2).toArray := by simp
  rw [ea]
  exact ⟨.ref _, _, I.lnew (t' := s.toks) (r.append r2) (by rw [List.length_append]; omega), rfl, q _ I.fresh⟩
/-- repr of a bool -/
def bStr (b : Bool) : Str := if b then "True" else "False"
theorem call_repr_bool : CallR X (.builtin "repr") (fun xs H Q => ∃ b, xs = [.bl b] ∧ Q (.str (bStr b)) H) := by
  intro pins s σ H xs us Q I r h
  obtain ⟨b, rfl, q⟩ := h
  cases r with
  | cons r1 r2 =>
    cases r2
    cases r1
    exact PySem.P.repr_of_bool ⟨.str _, H, I.tok _, ⟨_, rfl⟩, q⟩
section
variable {CX : CXT} {k : Nat} {f : Addr} {fd : FuncData} {ps ks : List Str} {sp : Sp} {E : XK} {x : Str} {p pos : Pos} {kws : List Keyword} {tk : TA} {g : List Value → List Value → List Value} {gV : List V → List V → List V}
/-- f(k = v, ..) -/
theorem pe_callK0 (F : FnOk X.prog X.w X.K X.mg X.base CX k f fd ps sp) (hr : Room k X.A) (hg : Gl X x) (hm : X.mg x = some (.ref f)) (hk : PySem.W.keepIn X.K (.ref f) = true) (hb : KBinds X.K fd ps ks g gV) (hx : Passes CX X E)
    (hkw : PK X kws tk) (hall : (backToKw pos (keywordEach kws X.env)).all (·.1.isSome) = true := by rfl) (hks : (backToKw pos (keywordEach kws X.env)).filterMap (·.1) = ks := by rfl)
    (hdb : (x == ("__debug__" : Str)) = false := by decide)
    (hpl : ((backTo pos (starEach [] X.env)).any (·.1) || (backToKw pos (keywordEach kws X.env)).any (·.1.isNone)) = false := by rfl) :
    PE X (.Call (.Name x p) [] kws pos) (tCallK sp gV E tNil tk) := by
  refine ⟨fun pins s σ H Q I h => ?_⟩
  refine wpAny_Call_Name_kw (ld_glob I hg hm ?_ hdb)
  refine PySem.W.callWith_KW0 (h₀ := X.base) I.ok.mod.kin hk hall ?_ hpl
  refine thn (hkw.run pos pins s σ H _ I h) fun ws s2 ⟨zs, H2, I2, rz, q2⟩ => ⟨I2.kIn, ?_⟩
  rw [hks]
  exact run_fnk F hr hb hx I2 .nil rz q2
end
end
/-! ### heaps -/
/-- all that was tracked stands, but what is at s -/
def Ex (s : Addr) (H H' : Hp) : Prop := ∀ b o, H b = some o → b ≠ s → H' b = some o
theorem Ex.refl (s : Addr) (H : Hp) : Ex s H H := fun _ _ h _ => h
theorem Ex.trans {s : Addr} {H H1 H2 : Hp} (a : Ex s H H1) (b : Ex s H1 H2) : Ex s H H2 := fun c o h n => b c o (a c o h n) n
theorem Ex.same {s : Addr} {H H' : Hp} (e : Same H H') : Ex s H H' := fun b o h _ => e b o h
theorem Ex.put {s : Addr} {H : Hp} {o : HO} : Ex s H (upd H s o) := fun b o' h n => by rw [upd_ne n]; exact h
theorem same_new {H : Hp} {p : Addr} {o : HO} (h : H p = none) : Same H (upd H p o) := fun b x e => by
  rw [upd_ne (ne_of_none e h)]
  exact e
/-- the source: a list of three ints, the first not negative -/
def Src (H : Hp) (s : Addr) : Prop := ∃ a b c : Int, 0 ≤ a ∧ H s = some (.lst [.int a, .int b, .int c])
theorem Src.same {H H' : Hp} {s : Addr} (e : Same H H') (h : Src H s) : Src H' s := by
  obtain ⟨a, b, c, h0, h⟩ := h
  exact ⟨a, b, c, h0, e _ _ h⟩
theorem Src.ne {H : Hp} {s p : Addr} (h : Src H s) (hp : H p = none) : p ≠ s := by
  obtain ⟨a, b, c, h0, h⟩ := h
  exact (ne_of_none h hp).symm
/-- points that stand in the heap -/
abbrev Pts := List (Addr × Int × Int)
def PtAt (H : Hp) (B : Int) (q : Addr × Int × Int) : Prop := H q.1 = some (.tup [.int q.2.1, .int q.2.2]) ∧ (-B ≤ q.2.1 ∧ q.2.1 ≤ B) ∧ (-B ≤ q.2.2 ∧ q.2.2 ≤ B)
def Spots (H : Hp) (B : Int) (a : Addr) (ps : Pts) : Prop := H a = some (.lst (ps.map fun q => V.ref q.1)) ∧ ps.length ≤ 40 ∧ ∀ q ∈ ps, PtAt H B q
theorem PtAt.same {H H' : Hp} {B : Int} {q : Addr × Int × Int} (e : Same H H') (h : PtAt H B q) : PtAt H' B q := ⟨e _ _ h.1, h.2⟩
theorem PtAt.ex {H H' : Hp} {B : Int} {s : Addr} {q : Addr × Int × Int} (hs : Src H s) (e : Ex s H H') (h : PtAt H B q) : PtAt H' B q := by
  obtain ⟨a, b, c, h0, hs⟩ := hs
  exact ⟨e _ _ h.1 (ne_of h.1 hs (by intro z; cases z)), h.2⟩
theorem Spots.same {H H' : Hp} {B : Int} {a : Addr} {ps : Pts} (e : Same H H') (h : Spots H B a ps) : Spots H' B a ps := ⟨e _ _ h.1, h.2.1, fun q hq => (h.2.2 q hq).same e⟩
theorem Spots.ex {H H' : Hp} {B : Int} {s a : Addr} {ps : Pts} (hs : Src H s) (n : a ≠ s) (e : Ex s H H') (h : Spots H B a ps) : Spots H' B a ps := ⟨e _ _ h.1 n, h.2.1, fun q hq => (h.2.2 q hq).ex hs e⟩
theorem small40 {n : Nat} (h : n ≤ 1000) : n ≤ sizeLine := Nat.le_of_lt (small1000 h)
/-! ### a tuple's equality as data -/
def ptD (z : Int × Int) : PyData := .tuple [.int z.1, .int z.2]
theorem ptD_lay (z : Int × Int) : (ptD z).canLay0 = true := by simp [ptD, PyData.canLay0, PyData.canLayAll0]
theorem ptD_depth (z : Int × Int) : (ptD z).depth = 1 := by simp [ptD, PyData.depth, PyData.depthAll]
theorem ptDs_lay : ∀ zs : List (Int × Int), PyData.canLayAll0 (zs.map ptD) = true
  | [] => by simp [PyData.canLayAll0]
  | z :: zs => by simp [PyData.canLayAll0, ptD_lay z, ptDs_lay zs]
theorem ptDs_depth : ∀ zs : List (Int × Int), PyData.depthAll (zs.map ptD) ≤ 2
  | [] => by simp [PyData.depthAll]
  | z :: zs => by
    have h1 := ptDs_depth zs
    have h2 := ptD_depth z
    simp only [List.map_cons, PyData.depthAll]
    omega
theorem ptD_shaped (z : Int × Int) : SeqAt.shaped (ptD z) = true := by
  have h := ptD_depth z
  show ((ptD z).canLay0 && decide ((ptD z).depth ≤ 64)) = true
  rw [Bool.and_eq_true]
  exact ⟨ptD_lay z, decide_eq_true (by omega)⟩
theorem ptDs_shaped (zs : List (Int × Int)) : SeqAt.shaped (.list (zs.map ptD)) = true := by
  have h1 := ptDs_depth zs
  have h2 : PyData.depth (.list (zs.map ptD)) ≤ 64 := by
    simp only [PyData.depth]
    omega
  show (PyData.canLay0 (.list (zs.map ptD)) && decide (PyData.depth (.list (zs.map ptD)) ≤ 64)) = true
  rw [Bool.and_eq_true]
  exact ⟨by simp only [PyData.canLay0]; exact ptDs_lay zs, decide_eq_true h2⟩
theorem ptD_eqv (z w : Int × Int) : PyData.eqv (ptD z) (ptD w) = decide (z = w) := by
  obtain ⟨a, b⟩ := z
  obtain ⟨a', b'⟩ := w
  have e : PyData.eqv (ptD (a, b)) (ptD (a', b')) = ((a == a') && ((b == b') && true)) := by simp only [ptD, PyData.eqv, PyData.eqvAll]
  rw [e]
  by_cases h : a = a'
  · by_cases h2 : b = b'
    · subst h h2
      simp
    · simp [h, h2]
  · simp [h]
theorem dp_pt {K : PySem.W.Frag} {H : Hp} {B : Int} {q : Addr × Int × Int} (h : PtAt H B q) : Dp K H (.ref q.1) (ptD q.2) := .tup (SqT.of h.1) (.cons (.int _) (.cons (.int _) .nil))
theorem dp_pts {K : PySem.W.Frag} {H : Hp} {B : Int} : ∀ {ps : Pts}, (∀ q ∈ ps, PtAt H B q) → DpAll K H (ps.map fun q => V.ref q.1) ((ps.map (·.2)).map ptD)
  | [], _ => .nil
  | q :: ps, h => .cons (dp_pt (h q (List.mem_cons_self ..))) (dp_pts fun z hz => h z (List.mem_cons_of_mem _ hz))
theorem dp_spots {K : PySem.W.Frag} {H : Hp} {B : Int} {a : Addr} {ps : Pts} (h : Spots H B a ps) : Dp K H (.ref a) (.list ((ps.map (·.2)).map ptD)) := .lst (SqL.of h.1) (dp_pts h.2.2)
theorem any_pt (zs : List (Int × Int)) (w : Int × Int) : ((zs.map ptD).any fun z => PyData.eqv z (ptD w)) = decide (w ∈ zs) := by
  induction zs with
  | nil => simp
  | cons z zs ih =>
    rw [List.map_cons, List.any_cons, ih, ptD_eqv]
    by_cases h : z = w
    · subst h
      simp
    · have h' : ¬ w = z := fun e => h e.symm
      simp [h, h']
end Q2

namespace Q2
open PySem PySem.Spec PyProof.Rows L2
section
variable {P : Program} {w : World} {A : Around} {E : Value → Shared → Prop} {s : Shared} {a : Addr} {L : List (Addr × List Int)} {es : Array (Int × Value)} {ep : Nat} {t : SetTable}
/-- the search of a key that is no member comes to the first empty slot, whatever its hash meets on the way -/
theorem free_from (R : SetTR P w s.heap a L es ep t) {x : Addr} {k : List Int} (kx : IsT P w s.heap k x) (un : A.units < cLine) (out : k ∉ L.map (·.2)) {K : Nat} (lessK : K < 10 * SetTable.turns t.mask)
    (gapK : way t.mask (thash P w k) K ∉ t.place.toList) (fullK : ∀ c, c < K → way t.mask (thash P w k) c ∈ t.place.toList) {Q : SetFound → Shared → Prop} (win : Q (.free (way t.mask (thash P w k) K) false) s) :
    ∀ (f c : Nat) (stand : Option SetTable.Probe), stand.getD (t.probeStart (thash P w k)) = nth t.mask (runAt t.mask (SetTable.bits (thash P w k) % (t.mask + 1)) (SetTable.bits (thash P w k))) c → c ≤ K → K - c < f →
      wpAny (model P w) A (setSearchFrom a (.ref x) (thash P w k) false f stand) Q E s
  | 0, c, stand, _, _, less => absurd less (Nat.not_lt_zero _)
  | f + 1, c, stand, here, cK, less => by
    obtain ⟨ob, hob, exact_, dat⟩ := R.ob
    rw [setSearchFrom_succ]
    refine wpAny_bind ((wpAny_setState_of hob dat R.fits) ?_)
    dsimp only
    refine (wp_if_neg R.gw) ?_
    try refine (wpAny_bind (wpAny_pure ?_))
    -- the probe, c steps on
    generalize base0 : runAt t.mask (SetTable.bits (thash P w k) % (t.mask + 1)) (SetTable.bits (thash P w k)) = p0 at here
    have noDummy : ∀ (n : Nat) (p : SetTable.Probe), p.dummy = none → (nth t.mask p n).dummy = none := fun n => by
      induction n with
      | zero => exact fun p h => h
      | succ n ih => exact fun p h => ih (adv t.mask p) (by unfold adv; split <;> exact h)
    have d0 : p0.dummy = none := by rw [← base0]; rfl
    have go_on : ∀ q, nth t.mask (nth t.mask p0 c) q = nth t.mask p0 (c + q) := fun q => (nth_add t.mask c p0 q).symm
    have at_ : ∀ q, (nth t.mask p0 q).j = way t.mask (thash P w k) q := fun q => by rw [← base0]
    have at2 : ∀ q, (nth t.mask (nth t.mask p0 c) q).j = way t.mask (thash P w k) (c + q) := fun q => by rw [go_on, at_]
    have found := go_spec t R.tab.ris R.tab.dm (fun i => (es[i]?.map (·.1)).getD 0) (thash P w k) (10 * SetTable.turns t.mask) (K - c) (nth t.mask p0 c) (noDummy c p0 d0) (Nat.lt_of_le_of_lt (Nat.sub_le K c) lessK)
      (fun q hq => by rw [at2]; exact fullK (c + q) (Nat.add_lt_of_lt_sub' hq)) (by rw [at2, Nat.add_sub_cancel' cK]; exact gapK)
    rcases found with ⟨q, i, hq, slot, _, _, ans⟩ | ⟨_, ans⟩
    · have ans2 : t.probe (fun i => (es[i]?.map (·.1)).getD 0) (thash P w k) (stand.getD (t.probeStart (thash P w k))) = some (.candidate (way t.mask (thash P w k) (c + q)) i (nth t.mask p0 (c + (q + 1)))) := by
        rw [here, ← at2, ← go_on]
        exact ans
      rw [ans2]
      dsimp only
      rw [at2] at slot
      have small : i < L.length := by
        have y1 : i < t.place.toList.length := (List.getElem?_eq_some_iff.mp slot).1
        have y2 := R.tab.sz
        rw [List.length_map] at y2
        rw [Array.length_toList] at y1
        omega
      obtain ⟨p, hp⟩ : ∃ p, L[i]? = some p := ⟨L[i], List.getElem?_eq_getElem small⟩
      have pin : p ∈ L := List.mem_of_getElem? hp
      have other : p.2 ≠ k := fun e => out (List.mem_map.mpr ⟨p, pin, e⟩)
      have behind : wpAny (model P w) A (searchRest a (.ref x) (thash P w k) false f es t (way t.mask (thash P w k) (c + q)) i (nth t.mask p0 (c + (q + 1)))) Q E s := by
        unfold searchRest
        rw [R.entry hp]
        dsimp only
        refine wpAny_bind (wpAny_holding ((wpAny_eqBool_tuple un (R.tup p pin) kx) ?_))
        refine wpAny_bind ((wpAny_setState_of hob dat R.fits) ?_)
        dsimp only
        refine (wp_if_neg (by simp)) ?_
        try refine (wpAny_bind (wpAny_pure ?_))
        rw [sameMem]
        dsimp only
        have live := slot_live R.tab.ris slot
        simp only [if_true, live, R.entry hp]
        refine wpAny_bind (wpAny_isSame_ref_self (wpAny_bind (wpAny_pure ?_)))
        simp only [if_true]
        refine (wp_if_neg (by simp [other])) ?_
        refine free_from R kx un out lessK gapK fullK win f (c + (q + 1)) (some (nth t.mask p0 (c + (q + 1)))) ?_ (by omega) (by omega)
        rw [base0]
        rfl
      by_cases led : t.led = true
      · refine (wp_if_neg (by simp [led])) ?_
        try refine (wpAny_bind (wpAny_pure ?_))
        exact behind
      · refine (wp_if_pos (by simp [led])) ?_
        refine wpAny_bind ((seen_tup kx fun y hy => ?_) ?_)
        · obtain ⟨e, he, ee⟩ := List.mem_map.mp hy
          have e1 : e ∈ es ∧ e.1 = thash P w k := by simpa using he
          have e2 : e ∈ es.toList := by simpa using e1.1
          rw [R.rows] at e2
          obtain ⟨p2, m2, rfl⟩ := List.mem_map.mp e2
          exact ⟨p2.2, p2.1, ee.symm, R.tup p2 m2⟩
        · refine (wp_if_neg (by decide)) ?_
          try refine (wpAny_bind (wpAny_pure ?_))
          exact behind
    · have ans2 : t.probe (fun i => (es[i]?.map (·.1)).getD 0) (thash P w k) (stand.getD (t.probeStart (thash P w k))) = some (.empty (way t.mask (thash P w k) K) none) := by
        have e2 : way t.mask (thash P w k) K = (nth t.mask (nth t.mask p0 c) (K - c)).j := by rw [at2, Nat.add_sub_cancel' cK]
        rw [here, e2]
        exact ans
      rw [ans2]
      dsimp only
      exact wpAny_pure win
/-- the key is not there -/
theorem find_out (R : SetTR P w s.heap a L es ep t) {x : Addr} {k : List Int} (kx : IsT P w s.heap k x) (un : A.units < cLine) (out : k ∉ L.map (·.2)) {Q : Option Nat → Shared → Prop} (win : Q none s) :
    wpAny (model P w) A (setFind a (.ref x) (thash P w k)) Q E s := by
  obtain ⟨ob, hob, exact_, dat⟩ := R.ob
  have room_ := R.room
  obtain ⟨K, lessK, gapK, fullK⟩ := R.tab.first (by rw [List.length_map]; omega) (thash P w k)
  have few : K < 100000 := by
    have : 10 * SetTable.turns t.mask ≤ 1420 := by
      unfold SetTable.turns
      rcases R.tab.mok with e | e | e <;> omega
    omega
  unfold setFind
  rw [show (100000 : Nat) = 99999 + 1 from rfl]
  unfold setFindIn
  refine wpAny_bind ((wpAny_setState_of hob dat R.fits) ?_)
  dsimp only
  refine (wp_if_neg (by simp [byScan, Value.scannable])) ?_
  try refine (wpAny_bind (wpAny_pure ?_))
  unfold setSearch
  refine wpAny_bind (free_from R kx un out lessK gapK fullK ?_ 100000 0 none rfl (Nat.zero_le _) (by omega))
  dsimp only
  exact wpAny_pure win
end
section
variable {X : Cx}
theorem cr_set0T : CallR X (.type "set") (fun xs H Q => xs = [] ∧ ∀ p, H p = none → Q (.ref p) (upd H p (SetTO X.prog X.w p []))) := by
  intro pins s σ H xs us Q I r h
  obtain ⟨rfl, q⟩ := h
  cases r
  refine setR_new fun _ => ?_
  exact ⟨.ref _, upd H s.heap.objs.size (SetTO X.prog X.w s.heap.objs.size []), I.laid (t' := s.toks) (fun b u e => Heap.get?_push_of_some _ e) (Nat.le_refl _) (setTO_new (setTR_fresh (Heap.get?_push_size _ rfl)).t0), rfl, q _ (I.hok.fresh (Nat.le_refl _))⟩
theorem setT_full {pins : List (Addr × Obj)} {σ : L2.St} {H : Hp} {s : Shared} {a : Addr} {L : List (Addr × List Int)} (I : Inv X pins σ H s) (h : H a = some (SetTO X.prog X.w a L)) (ht : ∀ p ∈ L, SqT X.K H p.1 (p.2.map V.int)) : ∃ es ep t, SetTR X.prog X.w s.heap a L es ep t := by
  have o := I.hok a _ h
  have z : SetT0 X.prog X.w s.heap a L := o.1
  exact z.full fun p hp => I.isT (ht p hp)
/-- t in found, which it is not -/
def rOutT (K : PySem.W.Frag) (P : Program) (w : World) : R2 := fun x y H Q => ∃ (b a : Addr) (k : List Int) (L : List (Addr × List Int)), x = .ref b ∧ y = .ref a ∧ SqT K H b (k.map V.int) ∧ H a = some (SetTO P w a L) ∧ (∀ p ∈ L, SqT K H p.1 (p.2.map V.int)) ∧ k ∉ L.map (·.2) ∧ Q (.bl false) H
theorem op_outT (un : X.A.units + 64 < cLine) : OpR X (compareOp .In) (rOutT X.K X.prog X.w) := by
  intro pins s σ H x y v u Q I rx ry h
  obtain ⟨b, a, k, L, rfl, rfl, hk, ha, hL, out, q⟩ := h
  cases rx
  cases ry
  obtain ⟨es, ep, t, R⟩ := setT_full I ha hL
  obtain ⟨ob, hob, ex, dat⟩ := R.ob
  have ty : s.TypeIs (.ref a) "set" := ⟨ob, hob, ex.1⟩
  show wpAny _ _ (do return Value.bool (← contains (.ref a) (.ref b))) _ _ s
  refine (wpAny_bind ?_)
  unfold contains
  try with_reducible refine (wpAny_holding ?_)
  refine wpAny_bind ((wpAny_specialOf ty PySem.F.slot_set_contains.lookup) ?_)
  show wpAny _ _ (if (some (Value.builtin "set.__contains__") == some Value.none) = true then _ else _) _ _ s
  rw [if_neg (show ¬ _ by rw [beq_builtin_none]; exact Bool.false_ne_true)]
  refine wpAny_bind ((wpAny_callSpecialUnlessNone?_slot (name := Str.ofString "__contains__") ty PySem.F.slot_set_contains)
    (wpAny_call_entry PySem.F.slot_set_contains ty entry_set_contains (ha := PySem.F.args_set_contains_2 _ _) ?_))
  unfold Builtin.«frozenset.__contains__» Builtin.Frozenset.oneOther
  simp only [List.isEmpty_nil, bind_assoc]
  unfold Builtin.Frozenset.addrOf Builtin.Frozenset.withSetAsKey setContains
  refine (wpAny_bind (wpAny_pure ?_))
  try dsimp only
  refine (wpAny_bind (wpAny_pure ?_))
  try dsimp only
  refine (wpAny_bind (wpAny_tryCatch ?_))
  refine (wpAny_holding ?_)
  have kx := I.isT hk
  refine wpAny_bind ((wpAny_pyHash_tuple (by show X.A.units + 1 < cLine; omega) kx) ?_)
  refine wpAny_bind (find_out (s := { s with toks := s.toks + (k.length + 1) }) R kx (by show X.A.units + 1 < cLine; omega) out ?_)
  refine (wpAny_pure ?_)
  show wpAny _ _ (ret (Value.bool false)) _ _ _
  exact wpAny_pure ⟨_, rfl, wpAny_truthy_bool (wpAny_pure ⟨.bl false, H, I.tok _, rfl, q⟩)⟩
/-- found.add(t), a new member -/
def rAddT (K : PySem.W.Frag) (P : Program) (w : World) : V → List V → Hp → VK → Prop := fun x xs H Q => ∃ (a b : Addr) (k : List Int) (L : List (Addr × List Int)), x = V.ref a ∧ xs = [V.ref b] ∧ H a = some (SetTO P w a L) ∧ SqT K H b (k.map V.int) ∧ (∀ p ∈ L, SqT K H p.1 (p.2.map V.int)) ∧ k ∉ L.map (·.2) ∧ L.length + 1 < 64 ∧
  ∀ L', L'.Perm ((b, k) :: L) → Q .non (upd H a (SetTO P w a L'))
theorem mt_addT (un : X.A.units + 64 < cLine) : MtR X "set.add" (rAddT X.K X.prog X.w) := by
  intro pins s σ H x xs v us Q I rx rxs h
  obtain ⟨a, b, k, L, rfl, rfl, ha, hk, hL, out, few, q⟩ := h
  cases rx
  cases rxs with
  | cons ry rt =>
    cases rt
    cases ry
    obtain ⟨es, ep, t, R⟩ := setT_full I ha hL
    obtain ⟨ob, hob, ex, dat⟩ := R.ob
    have ty : s.TypeIs (.ref a) "set" := ⟨ob, hob, ex.1⟩
    have kx := I.isT hk
    refine wpAny_call_entry PySem.F.slot_set_add ty PySem.F.entry_set_add (ha := PySem.F.args_set_add_2 _ _) ?_
    unfold Builtin.«set.add» Builtin.Frozenset.oneOther
    simp only [List.isEmpty_nil, bind_assoc]
    unfold Builtin.Frozenset.addrOf setAdd
    refine (wpAny_bind (wpAny_pure ?_))
    try dsimp only
    refine (wpAny_bind (wpAny_pure ?_))
    try dsimp only
    refine (wpAny_bind ?_)
    refine (wpAny_holding ?_)
    refine wpAny_bind ((wpAny_pyHash_tuple (by show X.A.units + 1 < cLine; omega) kx) ?_)
    refine add_at (s := { s with toks := s.toks + (k.length + 1) }) R kx (by show X.A.units + 1 < cLine; omega) few fun bb h' L' es' ep' t' sb R' _ pm => ?_
    show wpAny _ _ (ret Value.none) _ _ _
    have he : ∃ u, h'.get? a = some u := by
      obtain ⟨o, ho, _⟩ := R'.ob
      exact ⟨o, ho⟩
    refine wpAny_pure ⟨_, rfl, .non, upd H a (SetTO X.prog X.w a L'), ?_, rfl, q L' (pm out)⟩
    exact I.write (e := a) (t' := s.toks + (k.length + 1)) (by rw [ha]; trivial) (.inl rfl) (fun c u hc hu => (sb.2 c hc).trans hu) he (setTO_new R'.t0)
def tAddT (K : PySem.W.Frag) (P : Program) (w : World) (to : TE) (t : TA) : TE := fun σ H Q => to σ H fun x H1 => (∃ a L, x = V.ref a ∧ H1 a = some (SetTO P w a L) ∧ ∀ p ∈ L, SqT K H1 p.1 (p.2.map V.int)) ∧ t σ H1 fun xs H2 => rAddT K P w x xs H2 Q
variable {o e : Expr} {es : List Expr} {to : TE} {t : TA} {apos cpos : Pos}
theorem pe_addT (un : X.A.units + 64 < cLine) (ho : PE X o to) (ha : PA X (e :: es) t)
    (hbase : attributeBase o "add" X.env (eval o X.env) = eval o X.env := by rfl)
    (hfew : ((backTo cpos (starEach (e :: es) X.env)).all (fun x => !x.1) && (backToKw cpos (keywordEach [] X.env)).all (fun x => x.1.isSome) && decide ((e :: es).length + ([] : List Keyword).length + (if ([] : List Keyword).isEmpty then 0 else 1) < 30)) = true := by rfl)
    (hline : (apos.endLine == cpos.line) = true := by rfl) (hstar : starEach (e :: es) X.env = (false, eval e X.env) :: starEach es X.env := by rfl) (hplain : (backTo cpos (starEach es X.env)).any (·.1) = false := by rfl) :
    PE X (.Call (.Attribute o "add" apos) (e :: es) [] cpos) (tAddT X.K X.prog X.w to t) := by
  refine ⟨fun pins s σ H Q I h => ?_⟩
  refine (wpAny_Call_method_late hbase hfew hline rfl) (thn (ho.run pins s σ H _ I h) fun v s1 ⟨x, H1, I1, r1, ty, q1⟩ => ?_)
  obtain ⟨a, L, rfl, hL, hp⟩ := ty
  obtain ⟨tes, ep, tt, R⟩ := setT_full I1 hL hp
  obtain ⟨ob, hob, ex, dat⟩ := R.ob
  cases r1
  refine ⟨"set", "set.add", PySem.F.plainAttrs_set, PySem.F.slot_set_add, PySem.F.type_set_add, ⟨ob, hob, ex.1⟩, ?_, ?_⟩
  · intro a1 e1
    cases e1
    exact ⟨ob, hob, ex.2.1⟩
  · have run := ha.run cpos pins s1 σ H1 _ I1 q1
    rw [hstar] at run ⊢
    refine Calls.callWith_builtin (by show (false || (backTo cpos (starEach es X.env)).any (·.1)) = false; rw [hplain]; rfl) (Calls.evalArgs_plain ?_)
    exact thn run fun us s2 ⟨vs, H2, I2, r2, q2⟩ => mt_addT un pins s2 σ H2 (.ref a) vs (.ref a) us Q I2 rfl r2 q2
end
end Q2

namespace Q2
open PySem PySem.W PySem.Spec PySem.Calls PyProof.Rows
section
variable {prog : Program} {w : World} {A : Around} {E : Value → Shared → Prop} {s : Shared} {vs : List Value}
theorem collect_tupl {t : Addr} {Q : List Value → Shared → Prop} (tup : IsTup s.heap t vs.toArray) (small : vs.length ≤ sizeLine)
    (win : Q vs { s with heap := (s.heap.push (seqObj "list" #[] 0)).update s.heap.objs.size (Obj.mapSeq (· ++ vs.toArray)) }) : wpAny (model prog w) A (collect (.ref t)) Q E s := by
  obtain ⟨o, here, cls, n, dat⟩ := id tup
  unfold collect
  refine wpAny_bind (wpAny_runValue (codeAny_builtin (entry_proto_collect') ?_))
  show wpAny _ _ (do again (.builtin "list.__iadd__" ⟨[← newList [], .ref t], []⟩)) _ _ s
  refine wpAny_bind (wpAny_newList (wpAny_pure ⟨(Code.quiet_builtin _ (by decide +kernel)), codeAny_builtin (entry_list_iadd') ?_⟩))
  show wpAny _ _ (Builtin.List.listExtendWith (.ref s.heap.objs.size) (.ref t) (.ref s.heap.objs.size)) _ _ { s with heap := s.heap.push (seqObj "list" #[] 0) }
  unfold Builtin.List.listExtendWith
  have there : (s.heap.push (seqObj "list" #[] 0)).get? t = some o := Heap.get?_push_of_some _ here
  refine wpAny_bind ((wpAny_typeOf (T := "tuple") (show ({ s with heap := s.heap.push (seqObj "list" #[] 0) } : Shared).TypeIs (.ref t) "tuple" from ⟨o, there, cls⟩)) ?_)
  have same2 : (Value.type "tuple" == Value.type "tuple") = true := by rfl
  rw [if_pos (show _ by rw [same2]; simp)]
  refine wpAny_bind ((listItems_at there dat) ?_)
  refine wpAny_bind ((listItems_at (xs := #[]) (n := 0) (Heap.get?_push_size _ rfl) rfl) ?_)
  rw [if_neg (show ¬ _ by simp)]
  refine wpAny_bind (listUpdate_at (xs := #[]) (n := 0) (Heap.get?_push_size _ rfl) rfl ?_ (Nat.zero_le _) (show (#[] ++ vs.toArray).size ≤ sizeLine + 1 by simp only [Array.size_append, List.size_toArray, List.length_nil]; omega))
  refine (wpAny_pure ?_)
  show wpAny (model prog w) A (do
      let ob ← load s.heap.objs.size
      match ob.data with
      | .seq xs _ => pure xs.toList
      | _ => unsupported "internal:collect") Q E { s with heap := (s.heap.push (seqObj "list" #[] 0)).update s.heap.objs.size (Obj.mapSeq (· ++ vs.toArray)) }
  refine wpAny_bind ((wpAny_load (get?_update_seq (Heap.get?_push_size _ rfl) _)) ?_)
  show wpAny _ _ (pure ((#[] : Array Value) ++ vs.toArray).toList) Q E _
  have e : ((#[] : Array Value) ++ vs.toArray).toList = vs := by simp
  rw [e]
  exact wpAny_pure win
/-- sorted(x, ..) of a list or a tuple, by what list.sort does to a new list of its items -/
theorem sorted_seq {l : Addr} {kw : List (Str × Value)} {Q : Value → Shared → Prop} (seq : s.heap.IsList l vs.toArray ∨ IsTup s.heap l vs.toArray) (small : vs.length ≤ sizeLine) (args1 : argsOk "sorted" ⟨[.ref l], kw⟩) (args2 : ∀ x, argsOk "list.sort" ⟨[.ref x], kw⟩)
    (sorts : ∀ E' : Value → Shared → Prop, wpAny (model prog w) A.in1.in1 (Builtin.«list.sort» ⟨[.ref (s.heap.objs.size + 1)], kw⟩) (fun f s' => f = .done (.ret .none) ∧ Q (.ref (s.heap.objs.size + 1)) s') E' { s with heap := copyHeap s.heap vs }) :
    wpAny (model prog w) A (call (.builtin "sorted") [.ref l] kw) Q E s := by
  rcases seq with h | h
  · exact sorted_of_sort h small args1 args2 sorts
  · refine call_function_entry_kw (kind_sorted) plain_sorted entry_sorted args1 ?_
    unfold Builtin.«sorted»
    refine wpAny_bind (m := checkCount "sorted" 1 1 _) ((wpAny_pure ?_))
    refine wpAny_bind (collect_tupl h small ?_)
    refine wpAny_bind ((wpAny_newList ?_ small))
    have big : ((s.heap.push (seqObj "list" #[] 0)).update s.heap.objs.size (Obj.mapSeq (· ++ vs.toArray))).objs.size = s.heap.objs.size + 1 := (Heap.size_update ..).trans (size_push' ..)
    show wpAny _ _ _ _ _ { s with heap := copyHeap s.heap vs }
    rw [big]
    refine wpAny_bind (wpAny_holding ((wpAny_call_entry_kw slot_list_sort ⟨_, copyHeap_at s.heap vs, rfl⟩ entry_list_sort ?here (args2 _))))
    case here =>
      refine wpAny_mono (sorts _) (fun f s' hf => ?_) fun _ _ e => e
      exact ⟨_, hf.1, wpAny_pure ⟨_, rfl, hf.2⟩⟩
variable {β : Type} {bs : List β} {enc : β → PyData} {R : Value → β → Prop}
theorem sorted_plain {l : Addr} {Q : Value → Shared → Prop} (seq : s.heap.IsList l vs.toArray ∨ IsTup s.heap l vs.toArray) (e : EachIs R vs bs) (er : EachIs (fun v b => ∃ as, Reads s.heap v (enc b) as) vs bs) (al : AllAlike (bs.map enc)) (so : Sortable (bs.map enc)) (small : bs.length ≤ sizeLine)
    (un : ∀ b, b ∈ bs → A.units + 2 + (enc b).depth < cLine) (win : ∀ out, out.length = bs.length → EachIs R out (bs.mergeSort (dataLe false enc)) → Q (.ref (s.heap.objs.size + 1)) { s with heap := sortedAll s.heap vs (List.toArray out) }) :
    wpAny (model prog w) A (call (.builtin "sorted") [.ref l]) Q E s := by
  have er2 : EachIs (fun v b => ∃ as, Reads (sortingHeap (copyHeap s.heap vs) (s.heap.objs.size + 1) vs) v (enc b) as) vs bs := er.mono fun _ _ ⟨as, r⟩ => ⟨as, PyProof.Rows.Reads.keeps (fun _ _ => sorting_copy_old) r⟩
  have lenv : vs.length ≤ sizeLine := by rw [e.length]; exact small
  refine sorted_seq seq lenv (args_sorted1 _) (fun _ => args_list_sort _) fun E' => ?_
  refine list_sort_vals (s := { s with heap := copyHeap s.heap vs }) (copyHeap_at s.heap vs) (SortsAt.data (s := { s with heap := sortingHeap (copyHeap s.heap vs) (s.heap.objs.size + 1) vs }) (each_map (R := fun v d => ∃ as, Reads (sortingHeap (copyHeap s.heap vs) (s.heap.objs.size + 1) vs) v d as) enc er2) al so (bound_map un)) lenv ⟨rfl, ?_⟩
  exact win _ (by rw [sortVals_length false rfl]; exact e.length) (sortVals_data false e er2 al)
theorem sorted_keyed {l : Addr} {f : Value} {kw : List (Str × Value)} {Q : Value → Shared → Prop} (k : β → PyData) (seq : s.heap.IsList l vs.toArray ∨ IsTup s.heap l vs.toArray) (e : EachIs R vs bs) (al : AllAlike (bs.map k)) (so : Sortable (bs.map k)) (small : bs.length ≤ sizeLine)
    (un : ∀ x, x ∈ bs → A.units + 2 + (k x).depth < cLine) (args1 : argsOk "sorted" ⟨[.ref l], kw⟩) (args2 : ∀ x, argsOk "list.sort" ⟨[.ref x], kw⟩) (tree : ∀ x, Builtin.«list.sort» ⟨[.ref x], kw⟩ = ksk_tree x f false)
    (turn : ∀ (v : Value) (x : β), R v x → x ∈ bs → ∀ (h : Heap) (tk : Nat), (∀ b o, s.heap.get? b = some o → h.get? b = some o) →
      wpAny (model prog w) A.in1.in1 (call f [v]) (KeyPure (k x) { s with heap := h, toks := tk }) (fun _ _ => False) { s with heap := h, toks := tk })
    (win : ∀ out c h' tk, (∀ b o, s.heap.get? b = some o → h'.get? b = some o) → s.heap.get? (s.heap.objs.size + 1) = none → h'.get? (s.heap.objs.size + 1) = some (seqObj "list" (List.toArray out) c) → out.length = bs.length → EachIs R out (bs.mergeSort (dataLe false k)) →
      Q (.ref (s.heap.objs.size + 1)) { s with heap := h', toks := tk }) : wpAny (model prog w) A (call (.builtin "sorted") [.ref l] kw) Q E s := by
  have fresh : s.heap.get? (s.heap.objs.size + 1) = none := Heap.get?_none_of_le (Nat.le_succ _)
  have over : ∀ {g : Heap}, KeepsBut (s.heap.objs.size + 1) (copyHeap s.heap vs) g → ∀ b o, s.heap.get? b = some o → g.get? b = some o := fun {g} kp b o q => kp b o (Nat.ne_of_lt (Nat.lt_succ_of_lt (Heap.lt_size q))) (copyHeap_old q)
  have lens : (bs.map k).length = vs.length := by rw [List.length_map]; exact e.length.symm
  have lenv : vs.length ≤ sizeLine := by rw [e.length]; exact small
  refine sorted_seq seq lenv args1 args2 fun E' => ?_
  rw [tree]
  refine keyH_tree (kz := bs.map k) (s := { s with heap := copyHeap s.heap vs }) (copyHeap_at s.heap vs) lens lenv al so (bound_map (A := A.in1.in1) un) (keyH_turns (s := { s with heap := copyHeap s.heap vs }) e fun v x hR hx h tk kp => turn v x hR hx h tk (over kp)) fun h' tk out c kp hD ko => ⟨rfl, ?_⟩
  exact win out c h' tk (over kp) fresh hD ((ko.length lens).trans e.length) (keyedOut_each k ko e)
end
end Q2

namespace Q2
open PySem PySem.Spec PyProof.Rows L2
section
variable {prog : Program} {w : World} {A : Around} {E : Value → Shared → Prop} {s : Shared}
theorem raw_item {env : Env} {m : Str → Option Value} {t : Addr} {u0 u1 v : Value} {k : Nat} {x : Str} {p1 p2 p3 : Pos} {j1 : Nat} {Q : Value → Shared → Prop} (kind : env.scope.kind = .function) (loc : env.kindOf x = some .local) (ns : s.heap.Ns env.locals m) (mx : m x = some (.ref t))
    (tup : IsTup s.heap t #[u0, u1]) (hk : k < 2) (hv : #[u0, u1][k]? = some v) (hd : (x == ("__debug__" : Str)) = false) (win : Q v { s with toks := s.toks + 1 }) :
    wpAny (model prog w) A (eval (.Subscript (.Name x p1) (.Constant (.int (k : Int)) j1 p2) p3) env) Q E s := by
  refine Subscript_ (wpAny_Name (wpAny_loadName_local kind loc ns mx ?_) hd)
  refine wpAny_Constant_int ?_
  exact subscriptTail_builtinR (s := { s with toks := s.toks + 1 }) (x := v) (IsTup.typeIs (s := { s with toks := s.toks + 1 }) tup) PyProof.Rows.slot_tuple_getitem.lookup
    (PyProof.Rows.getItem_tuple (s := { s with toks := s.toks + 1 }) (j := k) (Q := fun r s' => r = v ∧ Q r s') tup (by omega) (by omega) (seqIndex_of (by omega) (by show (k : Int) < ((2 : Nat) : Int); omega)) hv ⟨rfl, win⟩) rfl
/-- return (p[1], p[0]) -/
theorem raw_swap {env : Env} {m : Str → Option Value} {t : Addr} {u0 u1 : Value} {x : Str} {p1 p2 p3 p4 p5 p6 p7 p8 : Pos} {j1 j2 k7 : Nat} {Q : Flow → Shared → Prop} (kind : env.scope.kind = .function) (loc : env.kindOf x = some .local) (ns : s.heap.Ns env.locals m) (mx : m x = some (.ref t))
    (tup : IsTup s.heap t #[u0, u1]) (hd : (x == ("__debug__" : Str)) = false) (win : Q (.ret (.ref s.heap.objs.size)) { s with heap := s.heap.push { cls := .type "tuple", data := .seq #[u1, u0] }, toks := s.toks + 1 + 1 }) :
    wpAny (model prog w) A (execs [.Return (some (.Tuple [.Subscript (.Name x p1) (.Constant (.int 1) j1 p2) p3, .Subscript (.Name x p4) (.Constant (.int 0) j2 p5) p6] k7 p7)) p8] env) Q E s := by
  refine wpAny_execs_cons (wpAny_Return_some (wpAny_Tuple_spliced ?_))
  show wpAny _ _ (spliced [(false, eval (.Subscript (.Name x p1) (.Constant (.int 1) j1 p2) p3) env), (false, eval (.Subscript (.Name x p4) (.Constant (.int 0) j2 p5) p6) env)]) _ _ _
  refine Calls.spliced_cons (raw_item (k := 1) kind loc ns mx tup (by decide) rfl hd ?_)
  refine Calls.spliced_cons (raw_item (s := { s with toks := s.toks + 1 }) (k := 0) kind loc ns mx tup (by decide) rfl hd ?_)
  refine Calls.spliced_nil ⟨by show 2 ≤ sizeLine; decide, ?_⟩
  exact win
end
/-- how a def that swaps the two places of its argument is written -/
def Swaps (st : Stmt) : Prop := ∃ (x : Str) (p1 p2 p3 p4 p5 p6 p7 p8 : Pos) (j1 j2 k7 : Nat), FnScope [x] [x] (defScope st) ∧ (defScope st).names.lookup x = some .local ∧ (x == ("__debug__" : Str)) = false ∧
  defBody st = [.Return (some (.Tuple [.Subscript (.Name x p1) (.Constant (.int 1) j1 p2) p3, .Subscript (.Name x p4) (.Constant (.int 0) j2 p5) p6] k7 p7)) p8] ∧
  ∀ (kV doc pm : Value) (an : Option Addr) (cdv ct u : Value) (nm q : Str), bindArgs (PySem.W.fnOf nm q (defArgs st) (defBody st) (defScope st) .none kV doc pm an cdv ct) ⟨[u], []⟩ = pure [(x, u)]
/-- the call, on the bare heap -/
theorem swap_call {P : Program} {w : World} {K : PySem.W.Frag} {mg : Str → Option Value} {base : Heap} {A : Around} {outer : List Env} {s : Shared} {H : Hp} {nm : Str} {st : Stmt} {f : Addr} {fd : FuncData} (F : Fun K nm nm st f fd) (S : Swaps st) (e0 : Env0 P w K mg base A outer s H) (room : A.depth < recursionLimit)
    {t : Addr} {x y : Int} {tx ty : Tok} (tup : IsTup s.heap t #[.int x tx, .int y ty]) : wpAny (model P w) A (call (.ref f) [.ref t]) (PySem.W.KeyPure (.tuple [.int y, .int x]) s) (fun _ _ => False) s := by
  obtain ⟨oc, od, kV, doc, pm, an, cdv, ct, osl, rfl, lk, hcd⟩ := F.ex
  obtain ⟨nx, p1, p2, p3, p4, p5, p6, p7, p8, j1, j2, k7, sc, loc, hd, body, bind⟩ := S
  have KX : K.In s.heap := e0.mod.kin.keeps fun b o e => (e0.bs b o e).1
  have lim : s.heap.NoLimit := e0.mod.nolimit.keeps fun b o e => (e0.bs b o e).1
  refine wpAny_call (codeAny_call_function room (KX _ _ lk) rfl sc.co sc.gen rfl (PySem.W.codeRec_of KX hcd) (wpAny_of_eq (bind _ _ _ _ _ _ _ _ _) ?_))
  refine wpAny_newFunctionEnv_cells sc.kind (fun z hz => by rw [List.mem_singleton.mp hz]; exact .inl loc) fun env he s1 inc => ?_
  subst he
  refine ⟨lim.keeps inc.toInCall.keep, codeAny_func ?_⟩
  obtain ⟨h1, tk, rfl, keep⟩ := inc.done
  show wpAny _ _ (execs (defBody st) _) _ _ _
  rw [body]
  have tup1 : IsTup h1 t #[.int x tx, .int y ty] := by
    obtain ⟨o, ho, r⟩ := tup
    exact ⟨o, keep _ _ ho, r⟩
  refine raw_swap (x := nx) (t := t) (m := _) sc.kind loc inc.toInCall.ns ?_ tup1 hd ?_
  · show bindL _ [(nx, Value.ref t)] (fun _ => none) nx = some (.ref t)
    have kl : (newEnv (defScope st) s.heap.objs.size mainGlobals (cellsFrom (s.heap.objs.size + 1) (defScope st).names []) (nm ++ ".<locals>.") (some f) cdv none builtinsNs).kindOf nx = some .local := loc
    simp [bindL, kl]
  · refine ⟨_, _, rfl, fun b o hb => Heap.get?_push_of_some _ (keep b o hb), ?_⟩
    exact .tuple (Heap.get?_push_size _ rfl) rfl rfl (.cons (as := []) (.int y ty) (.cons (as := []) (.int x tx) .nil))
end Q2

namespace Q2
open PySem PySem.Spec PyProof.Rows L2
/-! ### sorted of points -/
abbrev keyX (q : Addr × Int × Int) : PyData := .tuple [.int q.2.1, .int q.2.2]
abbrev keyY (q : Addr × Int × Int) : PyData := .tuple [.int q.2.2, .int q.2.1]
abbrev sortX (qs : Pts) : Pts := qs.mergeSort (PySem.W.dataLe false keyX)
abbrev sortY (qs : Pts) : Pts := qs.mergeSort (PySem.W.dataLe false keyY)
abbrev refsOf (qs : Pts) : List V := qs.map fun q => V.ref q.1
def Tups (H : Hp) (qs : Pts) : Prop := ∀ q ∈ qs, H q.1 = some (.tup [.int q.2.1, .int q.2.2])
theorem each_refs : ∀ {qs : Pts} {us : List Value}, Vals (refsOf qs) us → PySem.W.EachIs (fun v (q : Addr × Int × Int) => v = Value.ref q.1) us qs
  | [], _, .nil => .nil
  | q :: qs, _, .cons r t => .cons (show _ = Value.ref q.1 from r) (each_refs t)
theorem vals_refs : ∀ {qs : Pts} {us : List Value}, PySem.W.EachIs (fun v (q : Addr × Int × Int) => v = Value.ref q.1) us qs → Vals (refsOf qs) us
  | _, _, .nil => .nil
  | _, _, .cons h t => .cons (show RelV (V.ref _) _ from h) (vals_refs t)
theorem each_of {R : Value → (Addr × Int × Int) → Prop} : ∀ {qs : Pts} {us : List Value}, PySem.W.EachIs (fun v (q : Addr × Int × Int) => v = Value.ref q.1) us qs → (∀ q ∈ qs, R (.ref q.1) q) → PySem.W.EachIs R us qs
  | _, _, .nil, _ => .nil
  | _, _, .cons h t, k => .cons (by rw [h]; exact k _ (List.mem_cons_self ..)) (each_of t fun q hq => k q (List.mem_cons_of_mem _ hq))
theorem alike_pts (f g : (Addr × Int × Int) → Int) (qs : Pts) : PySem.W.AllAlike (qs.map fun q => .tuple [.int (f q), .int (g q)]) := by
  intro d hd d' hd'
  obtain ⟨q, _, rfl⟩ := List.mem_map.mp hd
  obtain ⟨r, _, rfl⟩ := List.mem_map.mp hd'
  simp [PySem.W.alike, PySem.W.alikeAll]
theorem sortable_pts (f g : (Addr × Int × Int) → Int) (qs : Pts) : PySem.W.Sortable (qs.map fun q => .tuple [.int (f q), .int (g q)]) := .inl fun d hd => by
  obtain ⟨q, _, rfl⟩ := List.mem_map.mp hd
  exact ⟨_, _, rfl⟩
theorem depth_pt (a b : Int) : (PyData.tuple [.int a, .int b]).depth = 1 := ptD_depth (a, b)
section
variable {X : Cx}
theorem raw_pt {pins : List (Addr × Obj)} {σ : L2.St} {H : Hp} {s : Shared} (I : Inv X pins σ H s) {t : Addr} {x y : Int} (h : H t = some (.tup [.int x, .int y])) : ∃ tx ty, IsTup s.heap t #[.int x tx, .int y ty] := by
  obtain ⟨its, r, tup, _⟩ := I.tuple (SqT.of h)
  cases r with
  | cons r1 rr =>
    cases rr with
    | cons r2 rn =>
      cases rn
      obtain ⟨tx, rfl⟩ := r1
      obtain ⟨ty, rfl⟩ := r2
      exact ⟨tx, ty, tup⟩
theorem raw_seq {pins : List (Addr × Obj)} {σ : L2.St} {H : Hp} {s : Shared} (I : Inv X pins σ H s) {a : Addr} {xs : List V} (h : SqL X.K H a xs ∨ SqT X.K H a xs) : ∃ its : List Value, Vals xs its ∧ (s.heap.IsList a its.toArray ∨ IsTup s.heap a its.toArray) ∧ xs.length ≤ sizeLine := by
  rcases h with h | h
  · obtain ⟨its, r, p, z⟩ := I.list h
    exact ⟨its, r, .inl p.isList, z⟩
  · obtain ⟨its, r, p, z⟩ := I.tuple h
    exact ⟨its, r, .inr p, z⟩
/-- sorted(points) -/
def rSortP (K : PySem.W.Frag) : List V → Hp → VK → Prop := fun vs H Q => ∃ (a : Addr) (qs : Pts), vs = [V.ref a] ∧ (SqL K H a (refsOf qs) ∨ SqT K H a (refsOf qs)) ∧ Tups H qs ∧ ∀ p, H p = none → Q (.ref p) (upd H p (.lst (refsOf (sortX qs))))
theorem cr_sortP (un : X.A.units + 64 < cLine) : CallR X (.builtin "sorted") (rSortP X.K) := by
  intro pins s σ H vs us Q I r h
  obtain ⟨a, qs, rfl, hs, ht, q⟩ := h
  obtain rfl := Vals.ref1 r
  obtain ⟨its, rv, seq, hz⟩ := raw_seq I hs
  rw [List.length_map] at hz
  refine sorted_plain (bs := qs) (enc := keyX) seq (each_refs rv) (each_of (each_refs rv) fun p hp => ?_) (alike_pts _ _ qs) (sortable_pts _ _ qs) hz (fun p hp => ?_) fun out hl e => ?_
  · obtain ⟨tx, ty, o, ho, hc, n, hd⟩ := raw_pt I (ht p hp)
    exact ⟨[], .tuple ho hc hd (.cons (as := []) (.int _ tx) (.cons (as := []) (.int _ ty) .nil))⟩
  · have := depth_pt p.2.1 p.2.2
    show X.A.units + 2 + (PyData.tuple [.int p.2.1, .int p.2.2]).depth < cLine
    omega
  · obtain ⟨ep, he⟩ := PyProof.Rows.sortedAll_at s.heap its (List.toArray out)
    refine ⟨.ref _, upd H (s.heap.objs.size + 1) (.lst (refsOf (sortX qs))), I.laid (t' := s.toks) (fun _ _ => PyProof.Rows.sortedAll_old) (Nat.le_succ _) ⟨?_, out, ep, vals_refs e, he⟩, rfl, q _ (I.hok.fresh (Nat.le_succ _))⟩
    rw [List.length_map, List.length_mergeSort]
    exact hz
/-- sorted(points, key=f), f swaps the two places -/
def rSortK (K : PySem.W.Frag) (f : Addr) : List V → List V → Hp → VK → Prop := fun vs zs H Q => ∃ (a : Addr) (qs : Pts), vs = [V.ref a] ∧ zs = [.ref f] ∧ (SqL K H a (refsOf qs) ∨ SqT K H a (refsOf qs)) ∧ Tups H qs ∧ ∀ p, H p = none → Q (.ref p) (upd H p (.lst (refsOf (sortY qs))))
theorem cr_sortK {nm : Str} {st : Stmt} {f : Addr} {fd : FuncData} (F : Fun X.K nm nm st f fd) (S : Swaps st) (un : X.A.units + 64 < cLine) (room : X.A.depth < recursionLimit) : CallRK X (.builtin "sorted") [Str.ofString "key"] (rSortK X.K f) := by
  intro pins s σ H vs zs us ws Q I r rz h
  obtain ⟨a, qs, rfl, rfl, hs, ht, q⟩ := h
  obtain rfl := Vals.ref1 r
  obtain rfl := Vals.ref1 rz
  obtain ⟨its, rv, seq, hz⟩ := raw_seq I hs
  rw [List.length_map] at hz
  refine sorted_keyed (bs := qs) (f := .ref f) (kw := [(Str.ofString "key", .ref f)]) keyY seq (each_refs rv) (alike_pts _ _ qs) (sortable_pts _ _ qs) hz (fun p hp => ?_) (PyProof.Rows.ksk_s1 _ _) (fun _ => PyProof.Rows.ksk_l1 _ _) (fun x => PyProof.Rows.ksk_t1 f x) (fun v p hv hp h tk keep => ?_) fun out c h' tk keep fresh hD hl e => ?_
  · have := depth_pt p.2.2 p.2.1
    show X.A.units + 2 + (PyData.tuple [.int p.2.2, .int p.2.1]).depth < cLine
    omega
  · rw [hv]
    obtain ⟨tx, ty, o, ho, hr⟩ := raw_pt I (ht p hp)
    have I2 : Inv X pins σ H { s with heap := h, toks := tk } := I.kept keep
    exact swap_call F S I2.env0.in1.in1 room ⟨o, keep _ _ ho, hr⟩
  · refine ⟨.ref _, upd H (s.heap.objs.size + 1) (.lst (refsOf (sortY qs))), I.laid (t' := tk) keep (Nat.le_succ _) ⟨?_, out, c, vals_refs e, hD⟩, rfl, q _ (I.hok.fresh (Nat.le_succ _))⟩
    rw [List.length_map, List.length_mergeSort]
    exact hz
end
/-! ### the order -/
theorem dataLe_two (f g : (Addr × Int × Int) → Int) (q r : Addr × Int × Int) : PySem.W.dataLe false (fun q => .tuple [.int (f q), .int (g q)]) q r = !decide (f r < f q ∨ (f r = f q ∧ g r < g q)) := by
  show (!PyProof.Rows.lexLt PyProof.Rows.itemOrd (PySem.W.keyToks (.tuple [.int (f r), .int (g r)])) (PySem.W.keyToks (.tuple [.int (f q), .int (g q)]))) = _
  congr 1
  simp only [PySem.W.keyToks, PySem.W.keyToksAll, List.cons_append, List.nil_append, PyProof.Rows.lexLt, PyProof.Rows.itemLt]
  by_cases h1 : f r < f q
  · simp [h1]
  · by_cases h2 : f r = f q
    · simp [h2]
    · have h3 : f q < f r := by omega
      simp [h1, h2, h3]
end Q2

namespace Q2
open PySem PySem.W PySem.Spec PySem.Calls PyProof.Rows
/-! ### enumerate(t) of a tuple, one argument -/
theorem meets_enum1 {v : Value} {o : Obj} {B0 : Heap → Prop} (B : Begins v o B0) :
    Meets (Builtin.«enumerate.__new__» ⟨[.type "enumerate", v], []⟩) (fun _ R s => B0 s.heap ∧ R (.ok (.ret (.ref (s.heap.push o).objs.size))) { s with heap := (s.heap.push o).push { cls := .type "enumerate", data := .fields #[.none, .bool false, .ref s.heap.objs.size, rawInt 0, .none, .none] } }) :=
  .of_wp fun prog w A R s both => by
    obtain ⟨hp, g, d, tk, os⟩ := s
    obtain ⟨b0, fin⟩ := both
    have sub1 := sub_enumerate
    have begin1 : ∀ {A' : Around} {E : Value → Shared → Prop} {Q : Value → Shared → Prop}, Q (.ref hp.objs.size) ⟨hp.push o, g, d, tk, os⟩ → wpAny (model prog w) A' (pyIter v) Q E ⟨hp, g, d, tk, os⟩ := fun q => B.iter prog w _ _ ⟨hp, g, d, tk, os⟩ _ b0 q
    wp_walk using begin1
    refine wpAny_stack_any fun st => (wpAny_pure ?_)
    split
    · rename_i c _ _ _ _ _
      cases (c == Value.type "enumerate") <;> (wp_walk using begin1; exact ⟨_, rfl, fin⟩)
    · wp_walk using begin1
      exact ⟨_, rfl, fin⟩
section
variable {prog : Program} {w : World} {A : Around} {E : Value → Shared → Prop} {s : Shared}
theorem enum_tup {t : Addr} {items : Array Value} {Q : Value → Shared → Prop} (ht : s.heap.IsTuple t items)
    (win : ∀ h', IsEnum h' (s.heap.objs.size + 1) s.heap.objs.size 0 .none → h'.IsTupleIter s.heap.objs.size t 0 → (∀ b o, s.heap.get? b = some o → h'.get? b = some o) → Q (.ref (s.heap.objs.size + 1)) { s with heap := h' }) :
    wpAny (model prog w) A (call (.type "enumerate") [.ref t]) Q E s := by
  refine callType_new F.called_enumerate (by decide) (F.typeCall_enumerate_1 _) (F.newCall_enumerate_1 _) (fun obj => F.args_object_init_2 obj _) F.entry_enumerate_new (meets_enum1 (begins_tuple t items)) ⟨ht, ?_⟩
  have z1 : (s.heap.push { cls := .type "tuple_iterator", data := .fields #[.ref t, .int 0 0] }).objs.size = s.heap.objs.size + 1 := Heap.size_push ..
  show _ ∧ _
  rw [z1]
  have en : IsEnum ((s.heap.push { cls := .type "tuple_iterator", data := .fields #[.ref t, .int 0 0] }).push { cls := .type "enumerate", data := .fields #[.none, .bool false, .ref s.heap.objs.size, rawInt 0, .none, .none] }) (s.heap.objs.size + 1) s.heap.objs.size 0 .none := by
    have z2 := Heap.get?_push_size (s.heap.push { cls := .type "tuple_iterator", data := .fields #[.ref t, .int 0 0] }) (o := { cls := .type "enumerate", data := .fields #[.none, .bool false, .ref s.heap.objs.size, rawInt 0, .none, .none] }) rfl
    rw [z1] at z2
    exact z2
  exact ⟨⟨_, en, rfl⟩, win _ en ⟨_, Heap.get?_push_of_some _ (Heap.get?_push_size _ rfl), rfl, rfl⟩ fun b o x => Heap.get?_push_of_some _ (Heap.get?_push_of_some _ x)⟩
end
end Q2
namespace Q2
open PySem PySem.Spec PyProof.Rows L2
/-- the tuple at a, each item in a new pair -/
def ItET (K : PySem.W.Frag) (a : Addr) : It :=
  ⟨fun i H => ∃ (xs : List V) (x : V), SqT K H a xs ∧ xs[i]? = some x, fun i H v H' => ∃ T x, v = .ref T ∧ H T = none ∧ H' = upd H T (.tup [.int (i : Nat), x]) ∧ ∀ xs, SqT K H a xs → xs[i]? = some x, fun i H => ∃ xs : List V, SqT K H a xs ∧ xs.length ≤ i⟩
theorem draws_end {prog : Program} {w : World} {A : Around} (calm : A.handled = none) (it t : Addr) (items : Array Value) (i : Nat) (over : items[i]? = none) :
    PySem.Draws prog w A it [it, t] 0 (fun _ _ => False) (fun _ h => h.IsTupleIter it t i ∧ h.IsTuple t items) where
  live := fun _ _ st => let ⟨o, ho, _⟩ := st.1; ⟨o, ho⟩
  frame := fun _ _ _ st hk => ⟨st.1.at fun o e => hk it (by simp) o e, st.2.at fun o e => hk t (by simp) o e⟩
  item := fun j s Q E hj => absurd hj (Nat.not_lt_zero j)
  done := fun s Q E st hE => wpAny_nextOf_tuple_end calm st.1 st.2 over hE
theorem turn_enumT {P : Program} {w : World} {K : PySem.W.Frag} {elts : List Expr} {kk : Nat} {tpos : Pos} (a e it : Addr) :
    Turn P w K (.Tuple elts kk tpos) (ItET K a) [e, it] e (fun i h => (∃ old, IsEnum h e it ((i : Nat) : Int) old) ∧ h.IsTupleIter it a i ∧ e ≠ it) where
  mem := by simp
  obj := fun i h st b hb => by
    obtain ⟨⟨old, en⟩, ⟨o, ho, hc, hd⟩, _⟩ := st
    rcases (show b = e ∨ b = it by simpa using hb) with z | z
    · rw [z]
      exact ⟨_, en, fun v q => nomatch q⟩
    · rw [z]
      exact ⟨o, ho, fun v q => by rw [hd] at q; cases q⟩
  keep := fun i h h' st k => let ⟨⟨old, en⟩, hi, hne⟩ := st; ⟨⟨old, k e (by simp) _ en⟩, hi.at fun o q => k it (by simp) o q, hne⟩
  item := by
    intro X hP hw hK hc i pins s σ H E I hf st hg
    subst hP hw hK
    obtain ⟨⟨old, en⟩, hit, hne⟩ := st
    obtain ⟨xs, x, hq, hx⟩ := hg
    obtain ⟨its, rv, tup, _⟩ := I.tuple hq
    obtain ⟨u, hu, ru⟩ := rv.get hx
    have lts : i < its.toArray.size := by
      have := (List.getElem?_eq_some_iff.mp hu).1
      simpa using this
    have le : e < s.heap.objs.size := Heap.lt_size en
    have li : it < s.heap.objs.size := by obtain ⟨_, q, _⟩ := hit; exact Heap.lt_size q
    have ati : a ≠ it := fun z => by
      obtain ⟨o1, h1, c1, _⟩ := hit
      obtain ⟨o2, h2, c2, _⟩ := tup
      rw [z, h1] at h2
      cases h2
      rw [c1] at c2
      exact absurd c2 (by decide)
    have ate : a ≠ e := fun z => by
      obtain ⟨o2, h2, c2, _⟩ := tup
      rw [z, show s.heap.get? e = _ from en] at h2
      cases h2
      injection c2 with c3
      exact absurd c3 (by decide)
    refine PySem.wpAny_pyNext_enum_itemD (PySem.Draws.tuple (A := X.A.in1) (show X.A.in1.handled = none from I.ok.hd hc) it a ati its.toArray) en ⟨hit, tup⟩ lts hne (by simp; exact ⟨hne, fun z => ate z.symm⟩) fun y h' tk hy ho st' hT hsz hk => ?_
    have ey : y = u := by
      have h0 : its.toArray[i]? = some y := hy
      have h1 : its.toArray[i]? = some u := by simpa using hu
      rw [h0] at h1
      exact Option.some.inj h1
    subst ey
    refine ⟨_, rfl, wpAny_letOwnedTupleGo_enum (s := { s with heap := h', toks := tk + 1 }) ho fun h'' he' sb => ?_⟩
    have hT2 : h''.get? s.heap.objs.size = some { cls := .type "tuple", data := .seq #[.int i tk, y] } := (sb.2 _ (Nat.ne_of_gt le)).trans hT
    have new : ObjOk X.prog X.w (upd H s.heap.objs.size (.tup [.int (i : Nat), x])) h'' s.heap.objs.size (.tup [.int (i : Nat), x]) := ⟨by show 2 ≤ sizeLine; decide, [.int i tk, y], .cons ⟨_, rfl⟩ (.cons ru .nil), ⟨_, hT2, rfl, _, rfl⟩⟩
    have I1 : Inv X pins σ (upd H s.heap.objs.size (.tup [.int (i : Nat), x])) { s with heap := h'', toks := tk + 1 } :=
      I.turnedNew (ch := [e, it]) (fun b ob hb q => (sb.2 b (fun z => hb (by simp [z]))).trans (hk b ob (fun z => hb (by simp [z])) (fun z => hb (by simp [z])) q)) hf (Nat.le_refl _) new
    refine ⟨.ref s.heap.objs.size, _, I1, rfl, ⟨_, x, rfl, I.hok.fresh (Nat.le_refl _), rfl, fun ys hy2 => by rw [I.tuple_inj hy2 hq]; exact hx⟩, ⟨⟨y, ?_⟩, st'.1.at fun o q => (sb.2 it (Ne.symm hne)).trans q, hne⟩, fun b hb => ?_⟩
    · rw [show ((i + 1 : Nat) : Int) = (i : Int) + 1 by omega]
      exact he'
    · have hb' : b < s.heap.objs.size := by
        rcases (show b = e ∨ b = it by simpa using hb) with z | z
        · rw [z]; exact le
        · rw [z]; exact li
      rw [upd_ne (Nat.ne_of_lt hb')]
      exact (hf b hb).1
  done := by
    intro X hP hw hK hc i pins s σ H E I hf st hg
    subst hP hw hK
    obtain ⟨⟨old, en⟩, hit, hne⟩ := st
    obtain ⟨xs, hq, hx⟩ := hg
    obtain ⟨its, rv, tup, _⟩ := I.tuple hq
    obtain ⟨f0, f1, f2, f3, f4, f5⟩ := hf it (by simp)
    have hl := rv.length
    exact PySem.wpAny_pyNext_enum_endD (n := 0) (draws_end (A := X.A.in1) (show X.A.in1.handled = none from I.ok.hd hc) it a its.toArray i (by simp; omega)) en ⟨hit, tup⟩ fun h' eb => ⟨rfl, I.turned (t' := s.toks) (fun b o hb q => eb b o hb q) f0 f1 f3 f4 f5⟩
  self := fun A i s Q E st h => let ⟨⟨_, en⟩, _⟩ := st; wpAny_pyIter_enum en h
/-- enumerate of a list or a tuple -/
def EnumOf (K : PySem.W.Frag) (H : Hp) (a : Addr) (xs : List V) (J : It) : Prop := (SqL K H a xs ∧ J = Ite K a) ∨ (SqT K H a xs ∧ J = ItET K a)
def iEnumA (K : PySem.W.Frag) (ta : TA) : TI := fun σ H R => ta σ H fun vs H1 => ∃ a xs J, vs = [.ref a] ∧ EnumOf K H1 a xs J ∧ R J H1
theorem pi_enumA {X : Cx} {e : Expr} {ta : TA} {p pos tpos : Pos} {elts : List Expr} {kk : Nat} (hg : Gl X "enumerate") (hm : X.mg "enumerate" = none) (ha : PA X [e] ta) (hs : starEach [e] X.env = [(false, eval e X.env)] := by rfl) :
    PI X (.Tuple elts kk tpos) (.Call (.Name "enumerate" p) [e] [] pos) (iEnumA X.K ta) := by
  refine ⟨fun pins s σ H R I h => ?_⟩
  refine Call_ (ld_blt I hg hm boot_enumerate (PyProof.Rows.callWith_type1 (thn (ha.run pos pins s σ H _ I h) fun us s1 ⟨vs, H1, I1, r1, q1⟩ => ?_) hs rfl))
  obtain ⟨a, xs, J, rfl, hq, q⟩ := q1
  obtain rfl := Vals.ref1 r1
  have fp : ∀ b ∈ [s1.heap.objs.size + 1, s1.heap.objs.size], FpOk X pins H1 b := fun b hb => by
    have hle : s1.heap.objs.size ≤ b := by
      rcases (show b = s1.heap.objs.size + 1 ∨ b = s1.heap.objs.size by simpa using hb) with z | z
      · rw [z]; exact Nat.le_add_right _ _
      · rw [z]; exact Nat.le_refl _
    exact I1.fpOk hle (I1.hok.fresh hle)
  rcases hq with ⟨hq, rfl⟩ | ⟨hq, rfl⟩
  · obtain ⟨its, rv, p', hz⟩ := I1.list hq
    refine call_enumerate_list p'.isList fun h' he hit hsz hk => wpAny_pyIter_enum he ?_
    have I2 : Inv X pins σ H1 { s1 with heap := h' } := I1.kept (t' := s1.toks) hk
    exact ⟨s1.heap.objs.size + 1, [s1.heap.objs.size + 1, s1.heap.objs.size], _, _, H1, rfl, I2, turn_enum a (s1.heap.objs.size + 1) s1.heap.objs.size, ⟨⟨.none, he⟩, hit, Nat.succ_ne_self _⟩, fp, q⟩
  · obtain ⟨its, rv, p', hz⟩ := I1.tuple hq
    refine enum_tup p' fun h' he hit hk => wpAny_pyIter_enum he ?_
    have I2 : Inv X pins σ H1 { s1 with heap := h' } := I1.kept (t' := s1.toks) hk
    exact ⟨s1.heap.objs.size + 1, [s1.heap.objs.size + 1, s1.heap.objs.size], _, _, H1, rfl, I2, turn_enumT a (s1.heap.objs.size + 1) s1.heap.objs.size, ⟨⟨.none, he⟩, hit, Nat.succ_ne_self _⟩, fp, q⟩
theorem walk_enumT {K : PySem.W.Frag} {a : Addr} {xs : List V} : Walk (ItET K a) xs.length (fun H => SqT K H a xs) (YPair (fun i => some (.int (i : Nat))) (fun i => xs[i]?)) where
  goes := fun i H hi hq => ⟨xs, xs[i], hq, List.getElem?_eq_getElem hi⟩
  stops := fun H hq => ⟨xs, hq, Nat.le_refl _⟩
  yields := fun i H v H' hi hq y => by
    obtain ⟨T, x, h1, h2, h3, h4⟩ := y
    exact ⟨T, _, x, h1, h2, h3, rfl, h4 xs hq⟩
end Q2

namespace Q2
open PySem PySem.Spec PyProof.Rows L2
def top (i : Nat) : Stmt := PySem.Challenge.pw_planesplits_k07_trees_built.main.body.getD i (.Pass ⟨0, 0, 0, 0⟩)
abbrev s_is_integer : Stmt := top 6
abbrev s_is_coordinate : Stmt := top 7
abbrev s_is_point : Stmt := top 8
abbrev s_check_points : Stmt := top 9
abbrev s_y_key : Stmt := top 12
abbrev s_part_of : Stmt := top 13
abbrev s_rows_by_steps : Stmt := top 16
abbrev s_masks_around : Stmt := top 17
abbrev s_masks_on_axes : Stmt := top 18
abbrev s_rows_by_masks : Stmt := top 19
abbrev s_quarter_of_rows : Stmt := top 20
abbrev s_grown : Stmt := top 21
abbrev s_is_node : Stmt := top 25
abbrev s_narrowed : Stmt := top 26
abbrev s_fault_of : Stmt := top 27
abbrev s_built : Stmt := top 28
abbrev s_is_quarter : Stmt := top 29
abbrev s_law_mixed : Stmt := top 31
abbrev s_law_source : Stmt := top 32
abbrev s_law_take : Stmt := top 33
abbrev s_law_pick : Stmt := top 34
abbrev s_law_spots : Stmt := top 35
abbrev s_law_end : Stmt := top 36
abbrev s_law_box : Stmt := top 37
abbrev s_law_holds : Stmt := top 38
abbrev s_law_side : Stmt := top 39
abbrev s_law_grown : Stmt := top 40
abbrev s_law : Stmt := top 41
end Q2


namespace Q2
open PySem PySem.Spec PyProof.Rows L2
/-! ### the built-ins that stand as they were -/
structure Bt (mg : Str → Option Value) : Prop where
  int : mg "int" = none
  abs : mg "abs" = none
  len : mg "len" = none
  range : mg "range" = none
  isi : mg "isinstance" = none
  bool : mg "bool" = none
  tuple : mg "tuple" = none
  all : mg "all" = none
  repr : mg "repr" = none
abbrev Lo : Int := 1000000000000000000000000000000
abbrev FnP (K : PySem.W.Frag) (x : Str) (st : Stmt) (f : Addr) (fd : FuncData) : Prop := Fun K x x st f fd
theorem mod_rng {m : Int} (x : Int) (h : 0 < m) (hm : m ≤ 2147483647) : 0 ≤ x % m ∧ x % m ≤ 2147483646 := by
  have h1 := Int.emod_nonneg x (by omega : m ≠ 0)
  have h2 := Int.emod_lt_of_pos x h
  omega
theorem cmul_l {i j : Int} (h : 0 ≤ i ∧ i ≤ 4294967296) : CMul i j := .inl ⟨by omega, by omega⟩
theorem cdiv_w {i j : Int} (h : 0 < j) (h2 : j ≤ 10000000000000000000000000000000000000000) : CDivW i j := wide_div (b := 200) h (by omega) (by decide) (by decide)
section
variable {P : Program} {w : World} {K : PySem.W.Frag} {mg : Str → Option Value} {base : Heap}
/-! ### _law_mixed -/
theorem scMixed : FnScope ["_law_cell", "_law_draw", "_law_figure"] ["_law_cell", "_law_draw"] (defScope s_law_mixed) := ⟨rfl, rfl, rfl, by decide +kernel, rfl, by decide +kernel, by decide +kernel⟩
def spMixed : Sp := fun vs H Q _ => ∃ a b : Int, vs = [.int a, .int b] ∧ ∀ d : Int, 0 ≤ d → Q (.int d) H
theorem ok_mixed {f : Addr} {fd : FuncData} (F : FnP K "_law_mixed" s_law_mixed f fd) (B : Bt mg) : FnOk P w K mg base CX0 1 f fd ["_law_cell", "_law_draw"] spMixed := by
  refine F.ok scMixed (fun vs H Q E h => ?_) (fun cdv A outer s H vs Q E hr h => ?_)
  · obtain ⟨a, b, rfl, _⟩ := h
    rfl
  · obtain ⟨a, b, rfl, q⟩ := h
    refine ⟨_, pss_cons (ps_set (i := 2) scMixed.nd rfl (.inl rfl) (pe_op op_mod (pe_callTy call_int1 (by rfl) B.int (by decide +kernel) (pa_cons (pe_op op_mul (pe_op op_add (pe_op op_mod (pe_callTy call_int1 (by rfl) B.int (by decide +kernel) (pa_cons (pv 0) pa_nil)) pe_int) pe_int) (pe_op op_add (pe_op op_mul (pv 1) pe_int) pe_int)) pa_nil)) pe_int))
      (pss_cons (ps_set (i := 2) scMixed.nd rfl (.inl rfl) (pe_op op_mod (pe_callTy call_int1 (by rfl) B.int (by decide +kernel) (pa_cons (pe_op op_mul (pe_op op_add (pv 2) (pe_op op_mul (pe_op op_mod (pe_callTy call_int1 (by rfl) B.int (by decide +kernel) (pa_cons (pe_op op_fdivW (pv 0) pe_int) pa_nil)) pe_int) (pe_op op_add (pv 1) pe_int))) pe_int) pa_nil)) pe_int))
      (pss_cons (ps_set (i := 2) scMixed.nd rfl (.inl rfl) (pe_op op_mod (pe_callTy call_int1 (by rfl) B.int (by decide +kernel) (pa_cons (pe_op op_mul (pv 2) (pe_op op_add (pe_op op_add (pe_op op_fdiv (pv 2) pe_int) pe_int) (pv 1))) pa_nil)) pe_int))
      (pss_one (ps_ret (pe_op op_mod (pe_callTy call_int1 (by rfl) B.int (by decide +kernel) (pa_cons (pe_op op_mul (pv 2) (pe_op op_add (pe_op op_fdiv (pv 2) pe_int) pe_int)) pa_nil)) pe_int))))), ?_⟩
    -- the first figure
    have m0 := mod_rng (m := 2147483646) a (by decide) (by decide)
    refine ⟨_, rfl, .inl ⟨_, rfl, _, _, rfl, rfl, (by decide : (0 : Int) < 2147483646), _, _, rfl, rfl, _, rfl, _, _, rfl, rfl, .inr ⟨by decide, by decide⟩, _, _, rfl, rfl, _, _, rfl, rfl, cmul_l (by omega), .inl ⟨_, rfl, _, _, rfl, rfl, (by decide : (0 : Int) < 2147483647), ?_⟩⟩⟩
    have m1 := mod_rng (m := 2147483647) ((a % 2147483646 + 1) * (b * 7919 + 104729)) (by decide) (by decide)
    generalize ((a % 2147483646 + 1) * (b * 7919 + 104729)) % 2147483647 = g1 at m1 ⊢
    -- the second
    have m2 := mod_rng (m := 1000003) (a / 2147483646) (by decide) (by decide)
    refine ⟨_, rfl, _, rfl, _, _, rfl, rfl, cdiv_w (by decide) (by decide), .inl ⟨_, rfl, _, _, rfl, rfl, (by decide : (0 : Int) < 1000003), _, rfl, _, _, rfl, rfl, _, _, rfl, rfl, cmul_l (by omega), _, _, rfl, rfl, _, _, rfl, rfl, .inr ⟨by decide, by decide⟩, .inl ⟨_, rfl, _, _, rfl, rfl, (by decide : (0 : Int) < 2147483629), ?_⟩⟩⟩
    have m3 := mod_rng (m := 2147483629) ((g1 + a / 2147483646 % 1000003 * (b + 31)) * 48271) (by decide) (by decide)
    generalize ((g1 + a / 2147483646 % 1000003 * (b + 31)) * 48271) % 2147483629 = g2 at m3 ⊢
    -- the third
    refine ⟨_, rfl, _, rfl, _, _, rfl, rfl, ⟨by decide, by decide⟩, _, _, rfl, rfl, _, rfl, _, _, rfl, rfl, _, _, rfl, rfl, cmul_l (by omega), .inl ⟨_, rfl, _, _, rfl, rfl, (by decide : (0 : Int) < 2147483587), ?_⟩⟩
    have m4 := mod_rng (m := 2147483587) (g2 * (g2 / 1013 + 69621 + b)) (by decide) (by decide)
    generalize (g2 * (g2 / 1013 + 69621 + b)) % 2147483587 = g3 at m4 ⊢
    refine ⟨_, rfl, _, rfl, _, _, rfl, rfl, ⟨by decide, by decide⟩, _, _, rfl, rfl, _, _, rfl, rfl, cmul_l (by omega), .inl ⟨_, rfl, _, _, rfl, rfl, (by decide : (0 : Int) < 2147483563), ?_⟩⟩
    exact q _ (Int.emod_nonneg _ (by decide))
/-! ### _law_source -/
theorem scSource : FnScope ["_law_cell"] ["_law_cell"] (defScope s_law_source) := ⟨rfl, rfl, rfl, by decide +kernel, rfl, by decide +kernel, by decide +kernel⟩
def spSource : Sp := fun vs H Q _ => ∃ n : Int, vs = [.int n] ∧ ∀ s H', Same H H' → H s = none → Src H' s → Q (.ref s) H'
theorem ok_source {f : Addr} {fd : FuncData} (F : FnP K "_law_source" s_law_source f fd) (B : Bt mg) : FnOk P w K mg base CX0 1 f fd ["_law_cell"] spSource := by
  refine F.ok scSource (fun vs H Q E h => ?_) (fun cdv A outer s H vs Q E hr h => ?_)
  · obtain ⟨a, rfl, _⟩ := h
    rfl
  · obtain ⟨a, rfl, q⟩ := h
    refine ⟨_, pss_cons (ps_if (pt_cmpR op_ge (pe_callB call_abs (by rfl) B.abs (by decide +kernel) (pa_cons (pv 0) pa_nil)) (pe_op op_pow pe_int pe_int) (nomark _))
        (pss_one (ps_ret (pe_lst (pa_cons (pe_callB call_abs (by rfl) B.abs (by decide +kernel) (pa_cons (pv 0) pa_nil)) (pa_cons (pe_callB call_abs (by rfl) B.abs (by decide +kernel) (pa_cons (pv 0) pa_nil)) (pa_cons pe_int pa_nil)))))) pss_nil)
      (pss_one (ps_ret (pe_lst (pa_cons pe_int (pa_cons (pe_callB call_abs (by rfl) B.abs (by decide +kernel) (pa_cons (pv 0) pa_nil)) (pa_cons pe_int pa_nil)))))), ?_⟩
    have h0 : (0 : Int) ≤ (if a < 0 then -a else a) := by split <;> omega
    refine ⟨_, rfl, _, rfl, _, _, rfl, rfl, ⟨by decide, by decide, by decide⟩, _, _, rfl, rfl, _, rfl, ite2 (fun _ => ?_) (fun _ => ?_)⟩
    · refine ⟨_, rfl, _, rfl, _, rfl, _, rfl, (by show 3 ≤ sizeLine; decide), fun l hl => ?_⟩
      exact q l _ (same_new hl) hl ⟨_, _, _, h0, upd_same⟩
    · refine ⟨_, rfl, _, rfl, (by show 3 ≤ sizeLine; decide), fun l hl => ?_⟩
      exact q l _ (same_new hl) hl ⟨_, _, _, Int.le_refl _, upd_same⟩
/-! ### _law_take -/
theorem scTake : FnScope ["_law_source_here", "_law_bound", "_law_drawn"] ["_law_source_here", "_law_bound"] (defScope s_law_take) := ⟨rfl, rfl, rfl, by decide +kernel, rfl, by decide +kernel, by decide +kernel⟩
def spTake : Sp := fun vs H Q _ => ∃ (s : Addr) (n : Int), vs = [.ref s, .int n] ∧ Src H s ∧ 0 < n ∧ n ≤ 10000000000000000000000000000000000000000 ∧ ∀ (d : Int) H', 0 ≤ d → d < n → Src H' s → Ex s H H' → Q (.int d) H'
theorem ok_take {f fM : Addr} {fd fdM : FuncData} (F : FnP K "_law_take" s_law_take f fd) (B : Bt mg) (FM : FnP K "_law_mixed" s_law_mixed fM fdM) (bM : Binds K fdM ["_law_cell", "_law_draw"] []) (gM : mg "_law_mixed" = some (.ref fM)) : FnOk P w K mg base CX0 2 f fd ["_law_source_here", "_law_bound"] spTake := by
  have GM : FnOk P w K mg base CX0 1 fM fdM ["_law_cell", "_law_draw"] spMixed := ok_mixed FM B
  refine F.ok scTake (fun vs H Q E h => ?_) (fun cdv A outer s H vs Q E hr h => ?_)
  · obtain ⟨a, b, rfl, _⟩ := h
    rfl
  · obtain ⟨p, n, rfl, ⟨a, b, c, h0, hS⟩, n0, n1, q⟩ := h
    refine ⟨_, pss_cons (ps_if (pt_cmpR op_gt (pe_ix ix_list (pv 0) pe_int (fun _ _ => rfl)) pe_int (nomark _))
        (pss_cons (ps_set (i := 2) scTake.nd rfl (.inl rfl) (pe_op op_mod (pe_callTy call_int1 (by rfl) B.int (by decide +kernel) (pa_cons (pe_ix ix_list (pv 0) pe_int (fun _ _ => rfl)) pa_nil)) (pv 1)))
        (pss_cons (ps_asg (pe_op op_fdivW (pe_ix ix_list (pv 0) pe_int (fun _ _ => rfl)) (pv 1)) (pg_sub (pv 0) pe_int set_list))
        (pss_one (ps_ret (pv 2))))) pss_nil)
      (pss_cons (ps_asg (pe_op op_add (pe_ix ix_list (pv 0) pe_int (fun _ _ => rfl)) pe_int) (pg_sub (pv 0) pe_int set_list))
      (pss_one (ps_ret (pe_op op_mod (pe_callTy call_int1 (by rfl) B.int (by decide +kernel) (pa_cons (pe_call GM hr (by rfl) gM FM.kp bM .nil pass0 (pa_cons (pe_ix ix_list (pv 0) pe_int (fun _ _ => rfl)) (pa_cons (pe_ix ix_list (pv 0) pe_int (fun _ _ => rfl)) pa_nil))) pa_nil)) (pv 1))))), ?_⟩
    refine ⟨_, rfl, p, _, 0, .int a, rfl, rfl, SqL.of hS, atI_nat (j := 0) rfl, _, _, rfl, rfl, _, rfl, ite2 (fun e => ?_) (fun e => ?_)⟩
    · have ea : 0 < a := of_decide_eq_true e
      refine ⟨_, rfl, p, _, 0, .int a, rfl, rfl, SqL.of hS, atI_nat (j := 0) rfl, .inl ⟨_, rfl, _, rfl, _, _, rfl, rfl, n0, ?_⟩⟩
      refine ⟨_, rfl, p, _, 0, .int a, rfl, rfl, SqL.of hS, atI_nat (j := 0) rfl, _, rfl, _, _, rfl, rfl, cdiv_w n0 n1, _, rfl, p, _, 0, 0, rfl, rfl, hS, rfl, ?_⟩
      exact ⟨_, rfl, q _ _ (Int.emod_nonneg _ (by omega)) (Int.emod_lt_of_pos _ n0) ⟨_, b, c, Int.ediv_nonneg h0 (by omega), upd_same⟩ Ex.put⟩
    · refine ⟨_, rfl, p, _, 2, .int c, rfl, rfl, SqL.of hS, atI_nat (j := 2) rfl, _, _, rfl, rfl, _, rfl, p, _, 2, 2, rfl, rfl, hS, rfl, ?_⟩
      refine ⟨_, rfl, p, _, 1, .int b, rfl, rfl, SqL.of upd_same, atI_nat (j := 1) rfl, _, rfl, p, _, 2, .int (c + 1), rfl, rfl, SqL.of upd_same, atI_nat (j := 2) rfl, b, c + 1, rfl, fun d hd => ?_⟩
      refine .inl ⟨_, rfl, _, rfl, _, _, rfl, rfl, n0, ?_⟩
      exact q _ _ (Int.emod_nonneg _ (by omega)) (Int.emod_lt_of_pos _ n0) ⟨a, b, c + 1, h0, upd_same⟩ Ex.put
/-! ### _law_pick -/
theorem scPick : FnScope ["_law_source_here", "_law_some"] ["_law_source_here", "_law_some"] (defScope s_law_pick) := ⟨rfl, rfl, rfl, by decide +kernel, rfl, by decide +kernel, by decide +kernel⟩
def spPick : Sp := fun vs H Q _ => ∃ (s l : Addr) (xs : List V), vs = [.ref s, .ref l] ∧ Src H s ∧ l ≠ s ∧ H l = some (.lst xs) ∧ xs ≠ [] ∧ xs.length ≤ 1000 ∧ ∀ v H', v ∈ xs → Src H' s → Ex s H H' → Q v H'
theorem ok_pick {f fT fM : Addr} {fd fdT fdM : FuncData} (F : FnP K "_law_pick" s_law_pick f fd) (B : Bt mg) (GT : FnOk P w K mg base CX0 2 fT fdT ["_law_source_here", "_law_bound"] spTake) (kT : PySem.W.keepIn K (.ref fT) = true) (bT : Binds K fdT ["_law_source_here", "_law_bound"] []) (gT : mg "_law_take" = some (.ref fT)) : FnOk P w K mg base CX0 3 f fd ["_law_source_here", "_law_some"] spPick := by
  refine F.ok scPick (fun vs H Q E h => ?_) (fun cdv A outer s H vs Q E hr h => ?_)
  · obtain ⟨a, b, xs, rfl, _⟩ := h
    rfl
  · obtain ⟨p, l, xs, rfl, hS, hne, hl, hx, hlen, q⟩ := h
    refine ⟨_, pss_one (ps_ret (pe_ix ix_list (pv 1) (pe_call GT hr (by rfl) gT kT bT .nil pass0 (pa_cons (pv 0) (pa_cons (pe_callB call_len_seq (by rfl) B.len PySem.boot_len (pa_cons (pv 1) pa_nil)) pa_nil))) (fun _ _ => rfl))), ?_⟩
    have hpos : 0 < xs.length := List.length_pos_iff.mpr hx
    refine ⟨_, rfl, _, rfl, _, rfl, l, xs, rfl, .inl (SqL.of hl), p, (xs.length : Int), rfl, hS, (by omega), (by omega), fun d H' d0 d1 hS' e => ?_⟩
    have hl' : H' l = some (.lst xs) := e _ _ hl hne
    have hd : d.toNat < xs.length := by omega
    refine ⟨l, xs, d, xs[d.toNat], rfl, rfl, SqL.of hl', at_of (j := d.toNat) (by omega) (List.getElem?_eq_getElem hd), ?_⟩
    exact q _ _ (List.getElem_mem hd) hS' e
end
end Q2

namespace Q2
open PySem PySem.Spec PyProof.Rows L2
theorem Ex.free {s p : Addr} {H H' : Hp} (hs : Src H' s) (e : Ex s H H') (h : H' p = none) : H p = none := by
  cases q : H p with
  | none => rfl
  | some o =>
    have n : p ≠ s := hs.ne h
    rw [e _ _ q n] at h
    cases h
theorem hu65 {A : Around} {k : Nat} (hr : Room k A) : A.units + 65 < cLine := by have := hr.un; omega
theorem hu64 {A : Around} {k : Nat} (hr : Room k A) : A.units + 64 < cLine := by have := hr.un; omega
section
variable {P : Program} {w : World} {K : PySem.W.Frag} {mg : Str → Option Value} {base : Heap}
/-! ### _law_spots -/
theorem scSpots : FnScope ["_law_source_here", "_law_most", "_law_many", "_law_wide", "_law_found", "_law_turn", "_law_spot"] ["_law_source_here", "_law_most"] (defScope s_law_spots) := ⟨rfl, rfl, rfl, by decide +kernel, rfl, by decide +kernel, by decide +kernel⟩
def spSpots : Sp := fun vs H Q _ => ∃ (s : Addr) (n : Int), vs = [.ref s, .int n] ∧ Src H s ∧ 0 ≤ n ∧ n ≤ 40 ∧ ∀ (a : Addr) (ps : Pts) H', Src H' s → Ex s H H' → H a = none → Spots H' Lo a ps → (ps.map (·.2)).Nodup → (ps.length : Int) ≤ n → Q (.ref a) H'
theorem wide_of {v : V} (h : v ∈ [V.int 3, V.int 6, V.int 20, V.int ((10 : Int) ^ (9 : Int).toNat), V.int ((10 : Int) ^ (30 : Int).toNat)]) : ∃ z : Int, v = .int z ∧ 0 < z ∧ z ≤ Lo := by
  simp only [List.mem_cons, List.not_mem_nil, or_false] at h
  rcases h with rfl | rfl | rfl | rfl | rfl
  · exact ⟨_, rfl, by decide, by decide⟩
  · exact ⟨_, rfl, by decide, by decide⟩
  · exact ⟨_, rfl, by decide, by decide⟩
  · exact ⟨_, rfl, by decide, by decide⟩
  · exact ⟨_, rfl, by decide, by decide⟩
theorem ok_spots {f fT fP : Addr} {fd fdT fdP : FuncData} (F : FnP K "_law_spots" s_law_spots f fd) (B : Bt mg) (GT : FnOk P w K mg base CX0 2 fT fdT ["_law_source_here", "_law_bound"] spTake) (kT : PySem.W.keepIn K (.ref fT) = true) (bT : Binds K fdT ["_law_source_here", "_law_bound"] []) (gT : mg "_law_take" = some (.ref fT))
    (GP : FnOk P w K mg base CX0 3 fP fdP ["_law_source_here", "_law_some"] spPick) (kP : PySem.W.keepIn K (.ref fP) = true) (bP : Binds K fdP ["_law_source_here", "_law_some"] []) (gP : mg "_law_pick" = some (.ref fP)) : FnOk P w K mg base CX0 4 f fd ["_law_source_here", "_law_most"] spSpots := by
  refine F.ok scSpots (fun vs H Q E h => ?_) (fun cdv A outer s H vs Q E hr h => ?_)
  · obtain ⟨a, b, rfl, _⟩ := h
    rfl
  · obtain ⟨p, n, rfl, hS, n0, n1, q⟩ := h
    refine ⟨_, pss_cons (ps_par (i := 2) (j := 3) rfl scSpots.nd rfl rfl (by decide) rfl rfl
        (pa_cons (pe_call GT (hr.mono (by decide)) (by rfl) gT kT bT .nil pass0 (pa_cons (pv 0) (pa_cons (pe_op op_add (pv 1) pe_int) pa_nil)))
        (pa_cons (pe_call GP hr (by rfl) gP kP bP .nil pass0 (pa_cons (pv 0) (pa_cons (pe_lst (pa_cons pe_int (pa_cons pe_int (pa_cons pe_int (pa_cons (pe_op op_pow pe_int pe_int) (pa_cons (pe_op op_pow pe_int pe_int) pa_nil)))))) pa_nil))) pa_nil)) rfl)
      (pss_cons (ps_set (i := 4) scSpots.nd rfl (.inl rfl) (pe_lst pa_nil))
      (pss_cons (ps_for PassesOwn.never rfl (pi_range1 (by rfl) B.range (pa_cons (pv 2) pa_nil)) (pg_name (i := 5) scSpots.nd rfl (.inl rfl))
        (pss_cons (ps_set (i := 6) scSpots.nd rfl (.inl rfl) (pe_tup
            (pa_cons (pe_op op_sub (pe_call GT (hr.mono (by decide)) (by rfl) gT kT bT .nil pass0 (pa_cons (pv 0) (pa_cons (pe_op op_add (pe_op op_mul pe_int (pv 3)) pe_int) pa_nil))) (pv 3))
            (pa_cons (pe_op op_sub (pe_call GT (hr.mono (by decide)) (by rfl) gT kT bT .nil pass0 (pa_cons (pv 0) (pa_cons (pe_op op_add (pe_op op_mul pe_int (pv 3)) pe_int) pa_nil))) (pv 3)) pa_nil))))
        (pss_one (ps_set (i := 4) scSpots.nd rfl (.inl rfl) (pe_op op_cat (pv 4) (pe_op op_rep (pe_lst (pa_cons (pv 6) pa_nil)) (pe_callTy call_int1 (by rfl) B.int (by decide +kernel) (pa_cons (pe_cmpR (op_notInD (hu65 hr)) (pv 6) (pv 4) (by rfl)) pa_nil))))))))
      (pss_one (ps_ret (pv 4))))), ?_⟩
    -- many, wide
    refine ⟨_, rfl, _, rfl, _, _, rfl, rfl, p, n + 1, rfl, hS, by omega, by omega, fun many H1 m0 m1 hS1 e1 => ?_⟩
    refine ⟨_, rfl, _, _, rfl, rfl, ⟨by decide, by decide, by decide⟩, _, _, rfl, rfl, ⟨by decide, by decide, by decide⟩, (by show 5 ≤ sizeLine; decide), fun l hl => ?_⟩
    refine ⟨p, l, _, rfl, hS1.same (same_new hl), hS1.ne hl, upd_same, List.cons_ne_nil _ _, (by show 5 ≤ 1000; decide), fun v H2 hv hS2 e2 => ?_⟩
    obtain ⟨z, rfl, z0, z1⟩ := wide_of hv
    have e12 : Ex p H H2 := (e1.trans (Ex.same (same_new hl))).trans e2
    refine ⟨_, _, rfl, Nat.zero_le _, fun a ha => ?_⟩
    have fa : H a = none := e12.free hS2 ha
    refine ⟨_, rfl, many, rfl, by omega, by omega, for_range (n := many.toNat) (fun i σ H3 => ∃ (b : Addr) (ps : Pts) (y5 y6 : Option V), σ = [some (.ref p), some (.int n), some (.int many), some (.int z), some (.ref b), y5, y6] ∧ Src H3 p ∧ Ex p H H3 ∧ H b = none ∧ Spots H3 Lo b ps ∧ (ps.map (·.2)).Nodup ∧ ps.length ≤ i) ?_ ?_ ?_⟩
    · exact ⟨a, [], none, none, rfl, hS2.same (same_new ha), e12.trans (Ex.same (same_new ha)), fa, ⟨upd_same, Nat.zero_le _, fun q hq => (List.not_mem_nil hq).elim⟩, List.nodup_nil, Nat.le_refl _⟩
    · rintro i σ H3 hi ⟨b, ps, y5, y6, rfl, hS3, e3, fb, hP, hnd, hl3⟩
      have hz : (2 : Int) * z + 1 ≤ 10000000000000000000000000000000000000000 := by
        have z1' : z ≤ 1000000000000000000000000000000 := z1
        omega
      refine ⟨_, rfl, _, rfl, _, _, rfl, rfl, .inl ⟨by decide, by decide⟩, _, _, rfl, rfl, p, _, rfl, hS3, by omega, hz, fun x H4 x0 x1 hS4 e4 => ?_⟩
      refine ⟨_, rfl, _, _, rfl, rfl, _, rfl, _, rfl, _, _, rfl, rfl, .inl ⟨by decide, by decide⟩, _, _, rfl, rfl, p, _, rfl, hS4, by omega, hz, fun y H5 y0 y1 hS5 e5 => ?_⟩
      refine ⟨_, rfl, _, _, rfl, rfl, (by show 2 ≤ sizeLine; decide), fun t ht => ?_⟩
      have hbp : b ≠ p := fun e => by
        obtain ⟨_, _, _, _, h⟩ := hS
        rw [e, h] at fb
        cases fb
      have hP5 : Spots H5 Lo b ps := hP.ex hS3 hbp (e4.trans e5)
      have hP6 := hP5.same (same_new (o := .tup [.int (x - z), .int (y - z)]) ht)
      have hq : PtAt (upd H5 t (.tup [.int (x - z), .int (y - z)])) Lo (t, x - z, y - z) := ⟨upd_same, ⟨by have z1' : z ≤ 1000000000000000000000000000000 := z1; show -1000000000000000000000000000000 ≤ x - z ∧ x - z ≤ 1000000000000000000000000000000; omega, by have z1' : z ≤ 1000000000000000000000000000000 := z1; show -1000000000000000000000000000000 ≤ y - z ∧ y - z ≤ 1000000000000000000000000000000; omega⟩⟩
      refine ⟨_, rfl, _, rfl, (by show 1 ≤ sizeLine; decide), fun l6 hl6 => ?_⟩
      have s6 : Same (upd H5 t (.tup [.int (x - z), .int (y - z)])) (upd (upd H5 t (.tup [.int (x - z), .int (y - z)])) l6 (.lst [.ref t])) := same_new hl6
      refine ⟨_, rfl, _, rfl, ptD (x - z, y - z), _, dp_pt (hq.same s6), dp_spots (hP6.same s6), ptD_shaped _, ptDs_shaped _, ?_⟩
      rw [any_pt]
      refine .inr ⟨_, rfl, l6, _, [.ref t], rfl, rfl, upd_same, ?_, ?_, ?_, fun l7 hl7 => ?_⟩
      · split <;> decide
      · split <;> decide
      · have : (if (!decide ((x - z, y - z) ∈ ps.map (·.2))) = true then (1 : Int) else 0).toNat ≤ 1 := by split <;> decide
        exact Nat.le_trans (Nat.mul_le_mul_left 1 this) (by decide)
      · have s7 : Same (upd (upd H5 t (.tup [.int (x - z), .int (y - z)])) l6 (.lst [.ref t])) (upd (upd (upd H5 t (.tup [.int (x - z), .int (y - z)])) l6 (.lst [.ref t])) l7 (.lst (List.replicate (if (!decide ((x - z, y - z) ∈ ps.map (·.2))) = true then (1 : Int) else 0).toNat [V.ref t]).flatten)) := same_new hl7
        have hP7 := (hP6.same s6).same s7
        refine ⟨b, l7, _, _, rfl, rfl, hP7.1, upd_same, ?_, fun l8 hl8 => ?_⟩
        · have h1 := hP.2.1
          have h2 : ((List.replicate (if (!decide ((x - z, y - z) ∈ ps.map (·.2))) = true then (1 : Int) else 0).toNat [V.ref t]).flatten).length ≤ 1 := by
            split <;> simp
          rw [List.length_map]
          exact small40 (by omega)
        · have s8 := same_new (o := .lst ((ps.map fun q => V.ref q.1) ++ (List.replicate (if (!decide ((x - z, y - z) ∈ ps.map (·.2))) = true then (1 : Int) else 0).toNat [V.ref t]).flatten)) hl8
          have hS8 : Src _ p := (((hS5.same (same_new (o := .tup [.int (x - z), .int (y - z)]) ht)).same s6).same s7).same s8
          have e8 : Ex p H _ := ((((e3.trans (e4.trans e5)).trans (Ex.same (same_new (o := .tup [.int (x - z), .int (y - z)]) ht))).trans (Ex.same s6)).trans (Ex.same s7)).trans (Ex.same s8)
          have f8 : H l8 = none := Ex.free ((((hS5.same (same_new (o := .tup [.int (x - z), .int (y - z)]) ht)).same s6).same s7)) ((((e3.trans (e4.trans e5)).trans (Ex.same (same_new (o := .tup [.int (x - z), .int (y - z)]) ht))).trans (Ex.same s6)).trans (Ex.same s7)) hl8
          have hq8 := ((hq.same s6).same s7).same s8
          have hP8 := hP7.same s8
          by_cases hin : (x - z, y - z) ∈ ps.map (·.2)
          · refine ⟨l8, ps, _, _, rfl, hS8, e8, f8, ⟨?_, hP8.2⟩, hnd, by omega⟩
            rw [upd_same, decide_eq_true hin]
            simp
          · refine ⟨l8, ps ++ [(t, x - z, y - z)], _, _, rfl, hS8, e8, f8, ⟨?_, ?_, ?_⟩, ?_, ?_⟩
            · rw [upd_same, decide_eq_false hin]
              simp
            · rw [List.length_append, List.length_singleton]
              have : many ≤ 40 := by omega
              omega
            · intro r hr'
              rcases List.mem_append.mp hr' with h | h
              · exact hP8.2.2 r h
              · rw [List.mem_singleton.mp h]
                exact hq8
            · rw [List.map_append]
              exact nd_snoc hnd hin
            · rw [List.length_append, List.length_singleton]
              omega
    · rintro σ H3 ⟨b, ps, y5, y6, rfl, hS3, e3, fb, hP, hnd, hl3⟩
      exact ⟨_, rfl, q b ps H3 hS3 e3 fb hP hnd (by omega)⟩
end
end Q2

namespace Q2
open PySem PySem.Spec PyProof.Rows L2
def XY (H : Hp) (t : Addr) (x y : Int) : Prop := H t = some (.tup [.int x, .int y])
def absI (i : Int) : Int := if i < 0 then -i else i
theorem abs_le {i m : Int} (h : -m ≤ i ∧ i ≤ m) : decide (absI i ≤ m) = true := decide_eq_true (by unfold absI; split <;> omega)
section
variable {P : Program} {w : World} {K : PySem.W.Frag} {mg : Str → Option Value} {base : Heap}
/-! ### is_integer, is_coordinate -/
theorem scIsInt : FnScope ["value"] ["value"] (defScope s_is_integer) := ⟨rfl, rfl, rfl, by decide +kernel, rfl, by decide +kernel, by decide +kernel⟩
def spIsInt : Sp := fun vs H Q _ => ∃ i : Int, vs = [.int i] ∧ Q (.bl true) H
theorem ok_isInt {f : Addr} {fd : FuncData} (F : FnP K "is_integer" s_is_integer f fd) (B : Bt mg) : FnOk P w K mg base CX0 1 f fd ["value"] spIsInt := by
  refine F.ok scIsInt (fun vs H Q E h => ?_) (fun cdv A outer s H vs Q E hr h => ?_)
  · obtain ⟨a, rfl, _⟩ := h
    rfl
  · obtain ⟨i, rfl, q⟩ := h
    refine ⟨_, pss_one (ps_ret (pe_and (pe_callB call_isi (by rfl) B.isi (by decide +kernel) (pa_cons (pv 0) (pa_cons (pe_bltn (v := .ty "int") (by rfl) B.int (by decide +kernel) rfl) pa_nil)))
      (pe_one (pe_not (pe_callB call_isi (by rfl) B.isi (by decide +kernel) (pa_cons (pv 0) (pa_cons (pe_bltn (v := .ty "bool") (by rfl) B.bool (by decide +kernel) rfl) pa_nil))))))), ?_⟩
    refine ⟨_, rfl, _, _, _, _, true, rfl, .ty "int", .base (.int i), kit_ty (by decide +kernel), _, rfl, iteT ?_⟩
    exact ⟨_, rfl, _, _, _, _, false, rfl, .ty "bool", .base (.int i), kit_ty (by decide +kernel), _, rfl, q⟩
theorem scCoord : FnScope ["value"] ["value"] (defScope s_is_coordinate) := ⟨rfl, rfl, rfl, by decide +kernel, rfl, by decide +kernel, by decide +kernel⟩
def spCoord : Sp := fun vs H Q _ => ∃ i : Int, vs = [.int i] ∧ Q (.bl (decide (-Lo ≤ i ∧ i ≤ Lo))) H
theorem ok_coord {f fI : Addr} {fd fdI : FuncData} {tc : Tok} (F : FnP K "is_coordinate" s_is_coordinate f fd) (B : Bt mg) (FI : FnP K "is_integer" s_is_integer fI fdI) (bI : Binds K fdI ["value"] []) (gI : mg "is_integer" = some (.ref fI))
    (gC : mg "FARTHEST_COORDINATE" = some (.int Lo tc)) : FnOk P w K mg base CX0 2 f fd ["value"] spCoord := by
  have GI : FnOk P w K mg base CX0 1 fI fdI ["value"] spIsInt := ok_isInt FI B
  refine F.ok scCoord (fun vs H Q E h => ?_) (fun cdv A outer s H vs Q E hr h => ?_)
  · obtain ⟨a, rfl, _⟩ := h
    rfl
  · obtain ⟨i, rfl, q⟩ := h
    refine ⟨_, pss_one (ps_ret (pe_and (pe_call GI hr (by rfl) gI FI.kp bI .nil pass0 (pa_cons (pv 0) pa_nil)) (pe_one (pe_chain op_le op_le (pe_un un_neg (pe_glob (v := .int Lo) (by rfl) gC ⟨_, rfl⟩)) (pv 0) (pe_glob (v := .int Lo) (by rfl) gC ⟨_, rfl⟩))))), ?_⟩
    refine ⟨_, rfl, i, rfl, _, rfl, iteT ?_⟩
    refine ⟨_, rfl, _, rfl, _, _, rfl, rfl, _, rfl, ?_⟩
    by_cases h1 : -Lo ≤ i
    · rw [decide_eq_true h1]
      refine iteT ⟨_, _, rfl, rfl, ?_⟩
      have e : decide (-Lo ≤ i ∧ i ≤ Lo) = decide (i ≤ Lo) := decide_eq_decide.mpr ⟨fun h => h.2, fun h => ⟨h1, h⟩⟩
      rw [e] at q
      exact q
    · rw [decide_eq_false h1]
      have e : decide (-Lo ≤ i ∧ i ≤ Lo) = false := decide_eq_false fun h => h1 h.1
      rw [e] at q
      exact iteF q
/-! ### is_point, check_point -/
theorem scIsPt : FnScope ["value"] ["value"] (defScope s_is_point) := ⟨rfl, rfl, rfl, by decide +kernel, rfl, by decide +kernel, by decide +kernel⟩
def PtIn (H : Hp) (t : Addr) (x y : Int) : Prop := XY H t x y ∧ (-Lo ≤ x ∧ x ≤ Lo) ∧ (-Lo ≤ y ∧ y ≤ Lo)
theorem PtIn.same {H H' : Hp} {t : Addr} {x y : Int} (e : Same H H') (h : PtIn H t x y) : PtIn H' t x y := ⟨e _ _ h.1, h.2⟩
def spIsPt : Sp := fun vs H Q _ => ∃ (t : Addr) (x y : Int), vs = [.ref t] ∧ PtIn H t x y ∧ ∀ H', Same H H' → Q (.bl true) H'
theorem all_true (n : Nat) : (List.replicate n true).all id = true := by
  induction n with
  | zero => rfl
  | succ n ih => rw [List.replicate_succ, List.all_cons, ih]; rfl
/-- a point that is read: tracked, or written -/
def PtR (K : PySem.W.Frag) (H : Hp) (a : Addr) (p : Int × Int) : Prop := SqT K H a [.int p.1, .int p.2]
def PtB (p : Int × Int) : Prop := (-Lo ≤ p.1 ∧ p.1 ≤ Lo) ∧ (-Lo ≤ p.2 ∧ p.2 ≤ Lo)
theorem ty_tup {K : PySem.W.Frag} {H : Hp} {a : Addr} {xs : List V} (h : SqT K H a xs) : TyX K H (.ref a) (.type "tuple") := by
  rcases h with (h | ⟨o, h⟩) | ⟨o, its, n, h1, h2, _⟩
  · exact .base (.tup h)
  · exact .fTuple h
  · exact .kTuple h1 h2
def spIsPtR (K : PySem.W.Frag) : Sp := fun vs H Q _ => ∃ (t : Addr) (p : Int × Int), vs = [.ref t] ∧ PtR K H t p ∧ PtB p ∧ Q (.bl true) H
theorem ok_isPtR {f fU : Addr} {fd fdU : FuncData} (F : FnP K "is_point" s_is_point f fd) (B : Bt mg) (GU : FnOk P w K mg base CX0 2 fU fdU ["value"] spCoord) (kU : PySem.W.keepIn K (.ref fU) = true) (bU : Binds K fdU ["value"] []) (gU : mg "is_coordinate" = some (.ref fU)) : FnOk P w K mg base CX0 3 f fd ["value"] (spIsPtR K) := by
  refine F.ok scIsPt (fun vs H Q E h => ?_) (fun cdv A outer s H vs Q E hr h => ?_)
  · obtain ⟨a, b, rfl, _⟩ := h
    rfl
  · obtain ⟨t, ⟨x, y⟩, rfl, hT, ⟨hx, hy⟩, q⟩ := h
    refine ⟨_, pss_cons (ps_if (PW.pt (pw_or (pt_not (pt_val (pe_callB call_isi (by rfl) B.isi (by decide +kernel) (pa_cons (pv 0) (pa_cons (pe_bltn (v := .ty "tuple") (by rfl) B.tuple (by decide +kernel) rfl) pa_nil))))) (pw_or1 (pt_cmpR op_ne (pe_callB call_len_seq (by rfl) B.len PySem.boot_len (pa_cons (pv 0) pa_nil)) pe_int (nomark _))))) (pss_one (ps_ret pe_bl)) pss_nil)
      (pss_one (ps_ret (pe_and (pe_call GU hr (by rfl) gU kU bU .nil pass0 (pa_cons (pe_ix ix_tup (pv 0) pe_int (fun _ _ => rfl)) pa_nil)) (pe_one (pe_call GU hr (by rfl) gU kU bU .nil pass0 (pa_cons (pe_ix ix_tup (pv 0) pe_int (fun _ _ => rfl)) pa_nil)))))), ?_⟩
    refine ⟨_, rfl, _, _, _, _, true, rfl, .ty "tuple", ty_tup hT, kit_ty (by decide +kernel), _, rfl, iteF ?_⟩
    refine ⟨_, rfl, t, _, rfl, .inr (hT), rfl, _, rfl, iteF ?_⟩
    refine ⟨_, rfl, t, _, 0, .int x, rfl, rfl, hT, atI_nat (j := 0) rfl, x, rfl, ?_⟩
    rw [decide_eq_true hx]
    refine ⟨_, rfl, iteT ?_⟩
    refine ⟨_, rfl, t, _, 1, .int y, rfl, rfl, hT, atI_nat (j := 1) rfl, y, rfl, ?_⟩
    rw [decide_eq_true hy]
    exact q
theorem ok_isPt {f fU : Addr} {fd fdU : FuncData} (F : FnP K "is_point" s_is_point f fd) (B : Bt mg) (GU : FnOk P w K mg base CX0 2 fU fdU ["value"] spCoord) (kU : PySem.W.keepIn K (.ref fU) = true) (bU : Binds K fdU ["value"] []) (gU : mg "is_coordinate" = some (.ref fU)) : FnOk P w K mg base CX0 3 f fd ["value"] spIsPt :=
  (ok_isPtR F B GU kU bU gU).imp fun vs H Q E ⟨t, x, y, e, h, q⟩ => ⟨t, (x, y), e, SqT.of h.1, h.2, q H (fun _ _ h => h)⟩
end
end Q2

namespace Q2
open PySem PySem.Spec PyProof.Rows L2
/-! ### two keywords, the other way round -/
def sw {α : Type} : List α → List α → List α
  | [], [a, b] => [b, a]
  | _, _ => []
theorem sw_rel {vs zs : List V} {us ws : List Value} (h1 : Vals vs us) (h2 : Vals zs ws) : Vals (sw vs zs) (sw us ws) := by
  cases h1 with
  | nil =>
    cases h2 with
    | nil => exact .nil
    | cons a r =>
      cases r with
      | nil => exact .nil
      | cons b r2 =>
        cases r2 with
        | nil => exact .cons b (.cons a .nil)
        | cons c r3 => exact .nil
  | cons a r => exact .nil
theorem sw_two {us ws : List Value} (h : (sw us ws).length = 2) : ∃ a b, us = [] ∧ ws = [a, b] := by
  unfold sw at h
  split at h
  · exact ⟨_, _, rfl, rfl⟩
  · cases h
section
variable {P : Program} {w : World} {K : PySem.W.Frag} {mg : Str → Option Value} {base : Heap}
theorem kb_of {x : Str} {st : Stmt} {f : Addr} {fd : FuncData} {ps ks : List Str} (F : FnP K x st f fd) (hp : ps.length = 2)
    (h : ∀ (kV doc pm : Value) (an : Option Addr) (cdv ct a b : Value), bindArgs (PySem.W.fnOf x x (defArgs st) (defBody st) (defScope st) .none kV doc pm an cdv ct) ⟨[], ks.zip [a, b]⟩ = pure (ps.zip [b, a])) : KBinds K fd ps ks sw sw := by
  obtain ⟨oc, od, kV, doc, pm, an, cdv, ct, osl, rfl, lk, hcd⟩ := F.ex
  refine ⟨fun s us ws _ hl => ?_, sw_rel⟩
  rw [hp] at hl
  obtain ⟨a, b, rfl, rfl⟩ := sw_two hl
  exact .of_eq (h _ _ _ _ _ _ _ _)
end
end Q2

namespace Q2
open PySem PySem.Spec PyProof.Rows L2
/-- a pair greater than another one -/
def gtP (x y x' y' : Int) : Bool := decide (x' < x ∨ (x = x' ∧ y' < y))
def rGtP : R2 := fun v u H Q => ∃ (a b : Addr) (x y x' y' : Int), v = .ref a ∧ u = .ref b ∧ XY H a x y ∧ XY H b x' y' ∧ Q (.bl (gtP x y x' y')) H
section
variable {X : Cx}
theorem op_gtP (hu : X.A.units < cLine) : OpR X (compareOp .Gt) rGtP := by
  intro pins s σ H vv uu v u Q I rx ry h
  obtain ⟨a, b, x, y, x', y', rfl, rfl, ha, hb, q⟩ := h
  cases rx
  cases ry
  obtain ⟨tx, ty, p1⟩ := raw_pt I ha
  obtain ⟨tx', ty', p2⟩ := raw_pt I hb
  have R := Ob.RcOp.tuples_gt (A := X.A) (s := s) (e := fun j => match j with | 0 => x == x' | _ => y == y') (r := fun j => match j with | 0 => decide (x' < x) | _ => decide (y' < y)) p1 p2 hu (fun j h1 h2 => by
    match j, h1 with
    | 0, _ => exact SeqAt.EqAt.int_int _ _ _ _
    | 1, _ => exact SeqAt.EqAt.int_int _ _ _ _) (fun j h1 h2 _ => by
    match j, h1 with
    | 0, _ => exact Ob.RcOp.gt_int _ _ _ _
    | 1, _ => exact Ob.RcOp.gt_int _ _ _ _)
  have e : Ob.lexAt (fun j => match j with | 0 => x == x' | _ => y == y') (fun j => match j with | 0 => decide (x' < x) | _ => decide (y' < y)) (decide ((#[Value.int x tx, Value.int y ty] : Array Value).size > (#[Value.int x' tx', Value.int y' ty'] : Array Value).size)) 0 (min (#[Value.int x tx, Value.int y ty] : Array Value).size (#[Value.int x' tx', Value.int y' ty'] : Array Value).size) = gtP x y x' y' := by
    show (if (x == x') = true then (if (y == y') = true then decide (2 > 2) else decide (y' < y)) else decide (x' < x)) = gtP x y x' y'
    unfold gtP
    by_cases h1 : x = x'
    · subst h1
      by_cases h2 : y = y'
      · subst h2
        simp
      · simp [h2]
    · simp [h1]
  rw [e] at R
  exact R X.prog X.w X.xe (EP X pins σ Q) ⟨.bl _, H, I, rfl, q⟩
theorem call_repr_non : CallR X (.builtin "repr") (fun xs H Q => xs = [.non] ∧ Q (.str (Str.ofString "None")) H) := by
  intro pins s σ H xs us Q I r h
  obtain ⟨rfl, q⟩ := h
  cases r with
  | cons r1 r2 =>
    cases r2
    cases r1
    exact PySem.P.repr_of_none ⟨.str _, H, I.tok _, ⟨_, rfl⟩, q⟩
/-- repr of an int or None -/
def reprO : Option Int → Str
  | none => Str.ofString "None"
  | some i => toString i
def oV : Option Int → V
  | none => .non
  | some i => .int i
theorem call_reprO : CallR X (.builtin "repr") (fun xs H Q => ∃ o : Option Int, xs = [oV o] ∧ (∀ i, o = some i → i.natAbs.log2 < 1920) ∧ Q (.str (reprO o)) H) := by
  intro pins s σ H xs us Q I r h
  obtain ⟨o, rfl, ho, q⟩ := h
  cases o with
  | none => exact call_repr_non pins s σ H _ us Q I r ⟨rfl, q⟩
  | some i => exact SkE.call_repr_int pins s σ H _ us Q I r ⟨i, rfl, ho i rfl, q⟩
/-- two values that are None or ints -/
def rEqO : R2 := fun x y H Q => ∃ (a b : Option Int), x = oV a ∧ y = oV b ∧ Q (.bl (decide (a = b))) H
end
end Q2

namespace Q2
open PySem PySem.Spec PyProof.Rows L2
/-- the other built-ins -/
structure B1 (mg : Str → Option Value) : Prop where
  list : mg "list" = none
  set : mg "set" = none
  enum : mg "enumerate" = none
  sorted : mg "sorted" = none
def partM (x y x' y' : Int) : Option Int := if (x, y) = (x', y') then none else some ((if gtP x' y' x y = true then 1 else 0) + (if gtP y' x' y x = true then 2 else 0))
theorem room_dep {A : Around} {k : Nat} (hr : Room k A) : A.depth < recursionLimit := by have := hr.dp; omega
theorem room_un {A : Around} {k : Nat} (hr : Room k A) : A.units < cLine := by have := hr.un; omega
section
variable {P : Program} {w : World} {K : PySem.W.Frag} {mg : Str → Option Value} {base : Heap}
/-! ### y_key -/
theorem scYKey : FnScope ["point"] ["point"] (defScope s_y_key) := ⟨rfl, rfl, rfl, by decide +kernel, rfl, by decide +kernel, by decide +kernel⟩
def spYKeyR (K : PySem.W.Frag) : Sp := fun vs H Q _ => ∃ (t : Addr) (p : Int × Int), vs = [.ref t] ∧ PtR K H t p ∧ ∀ a, H a = none → Q (.ref a) (upd H a (.tup [.int p.2, .int p.1]))
def spYKey : Sp := fun vs H Q _ => ∃ (t : Addr) (x y : Int), vs = [.ref t] ∧ XY H t x y ∧ ∀ p, H p = none → Q (.ref p) (upd H p (.tup [.int y, .int x]))
theorem ok_yKeyR {f : Addr} {fd : FuncData} (F : FnP K "y_key" s_y_key f fd) : FnOk P w K mg base CX0 1 f fd ["point"] (spYKeyR K) := by
  refine F.ok scYKey (fun vs H Q E h => ?_) (fun cdv A outer s H vs Q E hr h => ?_)
  · obtain ⟨a, b, rfl, _⟩ := h
    rfl
  · obtain ⟨t, ⟨x, y⟩, rfl, hT, q⟩ := h
    refine ⟨_, pss_one (ps_ret (pe_tup (pa_cons (pe_ix ix_tup (pv 0) pe_int (fun _ _ => rfl)) (pa_cons (pe_ix ix_tup (pv 0) pe_int (fun _ _ => rfl)) pa_nil)))), ?_⟩
    refine ⟨_, rfl, t, _, 1, .int y, rfl, rfl, hT, atI_nat (j := 1) rfl, _, rfl, t, _, 0, .int x, rfl, rfl, hT, atI_nat (j := 0) rfl, (by show 2 ≤ sizeLine; decide), fun p hp => ?_⟩
    exact q p hp
theorem ok_yKey {f : Addr} {fd : FuncData} (F : FnP K "y_key" s_y_key f fd) : FnOk P w K mg base CX0 1 f fd ["point"] spYKey :=
  (ok_yKeyR F).imp fun vs H Q E ⟨t, x, y, e, h, q⟩ => ⟨t, (x, y), e, SqT.of h, q⟩
theorem partM_eq (x y x' y' : Int) : partM x y x' y' = if x < x' then some (if y ≤ y' then 3 else 1) else if x' < x then some (if y < y' then 2 else 0) else if y' = y then none else some (if y < y' then 3 else 0) := by
  unfold partM gtP
  simp only [decide_eq_true_eq, Prod.mk.injEq]
  by_cases h1 : x < x'
  · rw [if_neg (by omega), if_pos (by omega), if_pos h1]
    by_cases h2 : y ≤ y'
    · rw [if_pos (by omega), if_pos h2]; rfl
    · rw [if_neg (by omega), if_neg h2]; rfl
  · rw [if_neg h1]
    by_cases h3 : x' < x
    · rw [if_neg (by omega), if_neg (by omega), if_pos h3]
      by_cases h2 : y < y'
      · rw [if_pos (by omega), if_pos h2]; rfl
      · rw [if_neg (by omega), if_neg h2]; rfl
    · rw [if_neg h3]
      by_cases h4 : y' = y
      · rw [if_pos (by omega), if_pos h4]
      · rw [if_neg (by omega), if_neg h4]
        by_cases h2 : y < y'
        · rw [if_pos (by omega), if_pos (by omega), if_pos h2]; rfl
        · rw [if_neg (by omega), if_neg (by omega), if_neg h2]; rfl
/-! ### part_of, quarter -/
theorem scPart : FnScope ["root", "point", "x", "y"] ["root", "point"] (defScope s_part_of) := ⟨rfl, rfl, rfl, by decide +kernel, rfl, by decide +kernel, by decide +kernel⟩
def spPart : Sp := fun vs H Q _ => ∃ (t u : Addr) (x y x' y' : Int), vs = [.ref t, .ref u] ∧ PtIn H t x y ∧ PtIn H u x' y' ∧ ∀ H', Same H H' → Q (oV (partM x y x' y')) H'
theorem dp_in {H : Hp} {t : Addr} {x y : Int} (h : PtIn H t x y) : Dp K H (.ref t) (ptD (x, y)) := dp_pt (B := Lo) (q := (t, x, y)) h
def spPartR (K : PySem.W.Frag) : Sp := fun vs H Q _ => ∃ (t u : Addr) (p p' : Int × Int), vs = [.ref t, .ref u] ∧ PtR K H t p ∧ PtR K H u p' ∧ Q (oV (partM p.1 p.2 p'.1 p'.2)) H
theorem ok_partR {f : Addr} {fd : FuncData} (F : FnP K "part_of" s_part_of f fd) : FnOk P w K mg base CX0 2 f fd ["root", "point"] (spPartR K) := by
  refine F.ok scPart (fun vs H Q E h => ?_) (fun cdv A outer s H vs Q E hr h => ?_)
  · obtain ⟨a, b, _, _, rfl, _⟩ := h
    rfl
  · obtain ⟨t, u, ⟨x, y⟩, ⟨x', y'⟩, rfl, hT, hU, q⟩ := h
    refine ⟨_, pss_cons (ps_asg (pv 0) (pg_tup rfl (pgs_cons (pg_name (i := 2) scPart.nd rfl (.inl rfl)) (pgs_cons (pg_name (i := 3) scPart.nd rfl (.inl rfl)) pgs_nil))))
      (pss_cons (ps_if (pt_cmpR op_gt (pe_ix ix_tup (pv 1) pe_int (fun _ _ => rfl)) (pv 2) (nomark _)) (pss_one (ps_ret (pe_ifExp (pt_cmpR op_ge (pe_ix ix_tup (pv 1) pe_int (fun _ _ => rfl)) (pv 3) (nomark _)) pe_int pe_int))) pss_nil)
      (pss_cons (ps_if (pt_cmpR op_lt (pe_ix ix_tup (pv 1) pe_int (fun _ _ => rfl)) (pv 2) (nomark _)) (pss_one (ps_ret (pe_ifExp (pt_cmpR op_gt (pe_ix ix_tup (pv 1) pe_int (fun _ _ => rfl)) (pv 3) (nomark _)) pe_int pe_int))) pss_nil)
      (pss_cons (ps_if (pt_cmpR op_eq (pe_ix ix_tup (pv 1) pe_int (fun _ _ => rfl)) (pv 3) (nomark _)) (pss_one (ps_ret pe_non)) pss_nil)
      (pss_one (ps_ret (pe_ifExp (pt_cmpR op_gt (pe_ix ix_tup (pv 1) pe_int (fun _ _ => rfl)) (pv 3) (nomark _)) pe_int pe_int)))))), ?_⟩
    have q0 : Q (oV (partM x y x' y')) H := q
    rw [partM_eq] at q0
    have a0 : ∀ {R : V → Hp → Prop}, R (.int x') H → R (.int x') H := fun h => h
    refine ⟨_, rfl, t, _, rfl, hT, rfl, _, _, rfl, _, _, rfl, rfl, ?_⟩
    refine ⟨_, rfl, u, _, 0, .int x', rfl, rfl, hU, atI_nat (j := 0) rfl, _, rfl, _, _, rfl, rfl, _, rfl, ite2 (fun d => ?_) (fun d => ?_)⟩
    · rw [if_pos (of_decide_eq_true d)] at q0
      refine ⟨_, rfl, u, _, 1, .int y', rfl, rfl, hU, atI_nat (j := 1) rfl, _, rfl, _, _, rfl, rfl, _, rfl, ite2 (fun d2 => ?_) (fun d2 => ?_)⟩
      · rw [if_pos (of_decide_eq_true d2)] at q0
        exact q0
      · rw [if_neg (of_decide_eq_false (Bool.eq_false_iff.mpr d2))] at q0
        exact q0
    · rw [if_neg (of_decide_eq_false (Bool.eq_false_iff.mpr d))] at q0
      refine ⟨_, rfl, u, _, 0, .int x', rfl, rfl, hU, atI_nat (j := 0) rfl, _, rfl, _, _, rfl, rfl, _, rfl, ite2 (fun d3 => ?_) (fun d3 => ?_)⟩
      · rw [if_pos (of_decide_eq_true d3)] at q0
        refine ⟨_, rfl, u, _, 1, .int y', rfl, rfl, hU, atI_nat (j := 1) rfl, _, rfl, _, _, rfl, rfl, _, rfl, ite2 (fun d2 => ?_) (fun d2 => ?_)⟩
        · rw [if_pos (of_decide_eq_true d2)] at q0
          exact q0
        · rw [if_neg (of_decide_eq_false (Bool.eq_false_iff.mpr d2))] at q0
          exact q0
      · rw [if_neg (of_decide_eq_false (Bool.eq_false_iff.mpr d3))] at q0
        refine ⟨_, rfl, u, _, 1, .int y', rfl, rfl, hU, atI_nat (j := 1) rfl, _, rfl, rfl, _, rfl, ?_⟩
        rw [dec_int]
        refine ite2 (fun d4 => ?_) (fun d4 => ?_)
        · rw [if_pos (of_decide_eq_true d4)] at q0
          exact q0
        · rw [if_neg (of_decide_eq_false (Bool.eq_false_iff.mpr d4))] at q0
          refine ⟨_, rfl, u, _, 1, .int y', rfl, rfl, hU, atI_nat (j := 1) rfl, _, rfl, _, _, rfl, rfl, _, rfl, ite2 (fun d2 => ?_) (fun d2 => ?_)⟩
          · rw [if_pos (of_decide_eq_true d2)] at q0
            exact q0
          · rw [if_neg (of_decide_eq_false (Bool.eq_false_iff.mpr d2))] at q0
            exact q0
theorem ok_part {f : Addr} {fd : FuncData} (F : FnP K "part_of" s_part_of f fd) : FnOk P w K mg base CX0 2 f fd ["root", "point"] spPart :=
  (ok_partR F).imp fun vs H Q E ⟨t, u, x, y, x', y', e, h, h', q⟩ => ⟨t, u, (x, y), (x', y'), e, SqT.of h.1, SqT.of h'.1, q H (fun _ _ h => h)⟩
end
end Q2

namespace Q2
open PySem PySem.Spec PyProof.Rows L2
/-- a list or a tuple of points -/
def SeqP (H : Hp) (a : Addr) (qs : Pts) : Prop := H a = some (.lst (refsOf qs)) ∨ H a = some (.tup (refsOf qs))
theorem SeqP.same {H H' : Hp} {a : Addr} {qs : Pts} (e : Same H H') (h : SeqP H a qs) : SeqP H' a qs := h.imp (e _ _) (e _ _)
theorem SeqP.sq {K : PySem.W.Frag} {H : Hp} {a : Addr} {qs : Pts} (h : SeqP H a qs) : SqL K H a (refsOf qs) ∨ SqT K H a (refsOf qs) := h.imp SqL.of SqT.of
def AllP (H : Hp) (qs : Pts) : Prop := ∀ q ∈ qs, PtAt H Lo q
theorem AllP.same {H H' : Hp} {qs : Pts} (e : Same H H') (h : AllP H qs) : AllP H' qs := fun q hq => (h q hq).same e
theorem same_free {H H' : Hp} {p : Addr} (e : Same H H') (h : H' p = none) : H p = none := by
  cases q : H p with
  | none => rfl
  | some o =>
    rw [e _ _ q] at h
    cases h
theorem same_ex {S : Addr} {H H' : Hp} (hS : H S = none) (e : Ex S H H') : Same H H' := fun b o hb => e b o hb (ne_of_none hb hS)
theorem refs_at {qs : Pts} {i : Nat} {v : V} (h : (refsOf qs)[i]? = some v) : ∃ q, qs[i]? = some q ∧ v = .ref q.1 := by
  rw [List.getElem?_map] at h
  cases z : qs[i]? with
  | none => rw [z] at h; cases h
  | some q =>
    rw [z] at h
    exact ⟨q, rfl, (Option.some.inj h).symm⟩
/-- a point as a key -/
abbrev kOf (q : Addr × Int × Int) : Addr × List Int := (q.1, [q.2.1, q.2.2])
theorem out_of {qs : Pts} {i : Nat} {q : Addr × Int × Int} {L : List (Addr × List Int)} (hq : qs[i]? = some q) (nd : (qs.map (·.2)).Nodup) (pm : L.Perm ((qs.take i).map kOf)) : [q.2.1, q.2.2] ∉ L.map (·.2) := by
  intro h
  obtain ⟨p, hp, e⟩ := List.mem_map.mp h
  obtain ⟨r, hr, rfl⟩ := List.mem_map.mp (pm.mem_iff.mp hp)
  obtain ⟨hi, rfl⟩ := List.getElem?_eq_some_iff.mp hq
  have e2 : r.2 = qs[i].2 := by
    have e' : [r.2.1, r.2.2] = [qs[i].2.1, qs[i].2.2] := e
    injection e' with e1 e3
    injection e3 with e4 _
    exact Prod.ext e1 e4
  obtain ⟨j, hj, rfl⟩ := List.mem_iff_getElem.mp hr
  have hj2 : j < i := by
    rw [List.length_take] at hj
    omega
  rw [List.getElem_take] at e2
  have h3 := List.pairwise_iff_getElem.mp nd j i (by rw [List.length_map]; omega) (by rw [List.length_map]; exact hi) hj2
  apply h3
  rw [List.getElem_map, List.getElem_map]
  exact e2
theorem take_next {qs : Pts} {i : Nat} {q : Addr × Int × Int} {L L' : List (Addr × List Int)} (hq : qs[i]? = some q) (pm : L.Perm ((qs.take i).map kOf)) (pm' : L'.Perm (kOf q :: L)) : L'.Perm ((qs.take (i + 1)).map kOf) := by
  obtain ⟨hi, rfl⟩ := List.getElem?_eq_some_iff.mp hq
  rw [List.take_succ_eq_append_getElem hi, List.map_append]
  exact pm'.trans ((List.Perm.cons _ pm).trans (List.perm_append_singleton (kOf qs[i]) ((qs.take i).map kOf)).symm)
theorem enum_of {K : PySem.W.Frag} {H : Hp} {a : Addr} {qs : Pts} (h : SeqP H a qs) : ∃ J, EnumOf K H a (refsOf qs) J ∧ Walk J (refsOf qs).length (fun H' => H' a = H a) (YPair (fun i => some (.int (i : Nat))) (fun i => (refsOf qs)[i]?)) := by
  rcases h with h | h
  · exact ⟨_, .inl ⟨SqL.of h, rfl⟩, walk_enum.mono (fun H' e => SqL.of (e.trans h)) fun i H x H' _ _ y => y⟩
  · exact ⟨_, .inr ⟨SqT.of h, rfl⟩, walk_enumT.mono (fun H' e => SqT.of (e.trans h)) fun i H x H' _ _ y => y⟩
section
variable {P : Program} {w : World} {K : PySem.W.Frag} {mg : Str → Option Value} {base : Heap}
theorem seq_ty {H : Hp} {a : Addr} {qs : Pts} (h : SeqP H a qs) : ∃ t, TyX K H (.ref a) t ∧ PySem.W.kitAny K t [.type "list", .type "tuple"] = some true := by
  rcases h with h | h
  · exact ⟨.type "list", .base (.lst h), kitAny_cons (b := true) (kit_ty (by decide +kernel)) (fun z => nomatch z) (fun _ => rfl)⟩
  · exact ⟨.type "tuple", .base (.tup h), kitAny_cons (b := false) (kit_ty (by decide +kernel)) (fun _ => kitAny_cons (b := true) (kit_ty (by decide +kernel)) (fun z => nomatch z) (fun _ => rfl)) (fun z => nomatch z)⟩
theorem scChkPs : FnScope ["value", "seen", "index", "entry"] ["value"] (defScope s_check_points) := ⟨rfl, rfl, rfl, by decide +kernel, rfl, by decide +kernel, by decide +kernel⟩
def spChkPs : Sp := fun vs H Q _ => ∃ (a : Addr) (qs : Pts), vs = [.ref a] ∧ SeqP H a qs ∧ AllP H qs ∧ (qs.map (·.2)).Nodup ∧ qs.length ≤ 40 ∧ ∀ H', Same H H' → Q .non H'
theorem ok_chkPs {f fI : Addr} {fd fdI : FuncData} {tm : Tok} (F : FnP K "check_points" s_check_points f fd) (B : Bt mg) (C : B1 mg) (GI : FnOk P w K mg base CX0 3 fI fdI ["value"] spIsPt) (kI : PySem.W.keepIn K (.ref fI) = true) (bI : Binds K fdI ["value"] []) (gI : mg "is_point" = some (.ref fI))
    (gM : mg "MOST_POINTS" = some (.int 500 tm)) : FnOk P w K mg base CX0 4 f fd ["value"] spChkPs := by
  refine F.ok scChkPs (fun vs H Q E h => ?_) (fun cdv A outer s H vs Q E hr h => ?_)
  · obtain ⟨_, _, rfl, _⟩ := h
    rfl
  · obtain ⟨a, qs, rfl, hs, hp, nd, few, q⟩ := h
    refine ⟨_, pss_cons (ps_if (PW.pt (pw_or (pt_not (pt_val (pe_callB call_isiT (by rfl) B.isi (by decide +kernel) (pa_cons (pv 0) (pa_cons (pe_tup (pa_cons (pe_bltn (v := .ty "list") (by rfl) C.list (by decide +kernel) rfl) (pa_cons (pe_bltn (v := .ty "tuple") (by rfl) B.tuple (by decide +kernel) rfl) pa_nil))) pa_nil)))))
        (pw_or1 (pt_cmpR op_gt (pe_callB call_len_seq (by rfl) B.len PySem.boot_len (pa_cons (pv 0) pa_nil)) (pe_glob (v := .int 500) (by rfl) gM ⟨_, rfl⟩) (nomark _))))) pss_never pss_nil)
      (pss_cons (ps_set (i := 1) scChkPs.nd rfl (.inl rfl) (pe_callTy0 cr_set0T (by rfl) C.set (by decide +kernel)))
      (pss_one (ps_for PassesOwn.never rfl (pi_enumA (by rfl) C.enum (pa_cons (pv 0) pa_nil)) (pg_tup rfl (pgs_cons (pg_name (i := 2) scChkPs.nd rfl (.inl rfl)) (pgs_cons (pg_name (i := 3) scChkPs.nd rfl (.inl rfl)) pgs_nil)))
        (pss_cons (ps_if (PW.pt (pw_or (pt_not (pt_val (pe_call GI hr (by rfl) gI kI bI .nil pass0 (pa_cons (pv 3) pa_nil)))) (pw_or1 (pt_cmpR (op_outT (hu64 hr)) (pv 3) (pv 1) (by with_unfolding_all rfl))))) pss_never pss_nil)
        (pss_one (ps_expr (pe_addT (hu64 hr) (pv 1) (pa_cons (pv 3) pa_nil)))))))), ?_⟩
    refine ⟨_, rfl, (by show 2 ≤ sizeLine; decide), fun tp ntp => ?_⟩
    have s1 : Same H (upd H tp (.tup [.ty "list", .ty "tuple"])) := same_new ntp
    obtain ⟨t, ty, kt⟩ := seq_ty (K := K) (hs.same s1)
    refine ⟨_, tp, _, t, _, true, rfl, upd_same, .cons (.ty "list") (.cons (.ty "tuple") .nil), ty, kt, _, rfl, iteF ?_⟩
    refine ⟨_, rfl, a, _, rfl, (hs.same s1).sq, _, _, rfl, rfl, _, rfl, ?_⟩
    have hlen : (refsOf qs).length = qs.length := List.length_map ..
    rw [hlen, decide_eq_false (show ¬ ((500 : Int) < (qs.length : Nat)) by omega)]
    refine iteF ?_
    refine ⟨rfl, fun S nS => ?_⟩
    have s2 : Same (upd H tp (.tup [.ty "list", .ty "tuple"])) (upd (upd H tp (.tup [.ty "list", .ty "tuple"])) S (SetTO P w S [])) := same_new nS
    have s12 := s1.trans s2
    have hSn : H S = none := same_free s1 nS
    obtain ⟨J, eJ, wk⟩ := enum_of (K := K) (hs.same s12)
    refine ⟨_, rfl, a, _, J, rfl, eJ, for_it wk (fun i σ H3 => ∃ (y2 y3 : Option V) (L : List (Addr × List Int)), σ = [some (.ref a), some (.ref S), y2, y3] ∧ Same H H3 ∧ H3 S = some (SetTO P w S L) ∧ L.Perm ((qs.take i).map kOf)) ?_ ?_ ?_ ?_⟩
    · exact ⟨none, none, [], rfl, s12, upd_same, .nil⟩
    · rintro i σ H3 _ ⟨y2, y3, L, rfl, e3, _, _⟩
      rcases hs with hs | hs
      · rw [e3 _ _ hs, s12 _ _ hs]
      · rw [e3 _ _ hs, s12 _ _ hs]
    · rintro i v σ H3 H4 hi ⟨y2, y3, L, rfl, e3, hS3, pm⟩ ⟨T, vi, ve, rfl, nT, rfl, hvi, hve⟩
      obtain ⟨q0, hq0, rfl⟩ := refs_at hve
      have s4 : Same H3 (upd H3 T (.tup [vi, .ref q0.1])) := same_new nT
      have e4 := e3.trans s4
      have hP : PtIn (upd H3 T (.tup [vi, .ref q0.1])) q0.1 q0.2.1 q0.2.2 := (hp q0 (List.mem_of_getElem? hq0)).same e4
      refine ⟨T, _, rfl, SqT.of upd_same, rfl, _, _, rfl, _, _, rfl, rfl, ?_⟩
      refine ⟨_, rfl, q0.1, q0.2.1, q0.2.2, rfl, hP, fun H5 e5 => ⟨_, rfl, iteF ?_⟩⟩
      have e45 := e4.trans e5
      have hS5 : H5 S = some (SetTO P w S L) := e5 _ _ (s4 _ _ hS3)
      have hk : SqT K H5 q0.1 (([q0.2.1, q0.2.2] : List Int).map V.int) := SqT.of (hP.same e5).1
      have hL : ∀ p ∈ L, SqT K H5 p.1 (p.2.map V.int) := fun p hpL => by
        obtain ⟨r, hr2, rfl⟩ := List.mem_map.mp (pm.mem_iff.mp hpL)
        exact SqT.of ((hp r (List.mem_of_mem_take hr2)).same e45).1
      have out := out_of hq0 nd pm
      refine ⟨_, rfl, _, rfl, q0.1, S, _, L, rfl, rfl, hk, hS5, hL, out, _, rfl, iteF ?_⟩
      have hlL : L.length ≤ 40 := by
        rw [pm.length_eq, List.length_map, List.length_take]
        omega
      refine ⟨_, rfl, ⟨S, L, rfl, hS5, hL⟩, _, rfl, S, q0.1, _, L, rfl, rfl, hS5, hk, hL, out, (by omega), fun L' pm' => ?_⟩
      refine ⟨_, _, L', rfl, same_ex hSn ?_, upd_same, take_next hq0 pm pm'⟩
      intro b o hb hne
      rw [upd_ne hne]
      exact e45 b o hb
    · rintro σ H3 ⟨y2, y3, L, rfl, e3, _, _⟩
      exact q H3 e3
end
end Q2

namespace Q2
/-! ### trees of numbers, and the rows that tell them -/
inductive IT where
  | nil : IT
  | node (k : Nat) (ch : Fin 4 → IT) : IT
namespace IT
def rt (m : Nat) : IT → Nat
  | nil => m
  | node k _ => k
def Mem (m : Nat) : IT → Prop
  | nil => False
  | node k ch => m = k ∨ ∃ j, Mem m (ch j)
/-- all below a node have greater numbers, and no number stands twice -/
def Asc : IT → Prop
  | nil => True
  | node k ch => (∀ j m, Mem m (ch j) → k < m) ∧ (∀ i j m, Mem m (ch i) → Mem m (ch j) → i = j) ∧ ∀ j, Asc (ch j)
def Rep (rows : List (List Nat)) (m : Nat) : IT → Prop
  | nil => True
  | node k ch => rows[k]? = some [(ch 0).rt m, (ch 1).rt m, (ch 2).rt m, (ch 3).rt m] ∧ ∀ j, Rep rows m (ch j)
def ins (f : Nat → Nat → Fin 4) (n : Nat) : IT → IT
  | nil => node n fun _ => nil
  | node k ch => node k fun j => if j = f k n then ins f n (ch j) else ch j
def isNil : IT → Bool
  | nil => true
  | node _ _ => false
/-- where a number is hung: at which one, as which part -/
def tgt (f : Nat → Nat → Fin 4) (n : Nat) : IT → Nat × Fin 4
  | nil => (0, 0)
  | node k ch => if (ch (f k n)).isNil = true then (k, f k n) else tgt f n (ch (f k n))
theorem mem_ins {f : Nat → Nat → Fin 4} {n m : Nat} : ∀ {t : IT}, Mem m (ins f n t) ↔ m = n ∨ Mem m t
  | nil => by simp [ins, Mem]
  | node k ch => by
    simp only [ins, Mem]
    constructor
    · rintro (h | ⟨j, h⟩)
      · exact .inr (.inl h)
      · by_cases e : j = f k n
        · rw [if_pos e] at h
          rcases mem_ins.mp h with h | h
          · exact .inl h
          · exact .inr (.inr ⟨j, h⟩)
        · rw [if_neg e] at h
          exact .inr (.inr ⟨j, h⟩)
    · rintro (h | h | ⟨j, h⟩)
      · exact .inr ⟨f k n, by rw [if_pos rfl]; exact mem_ins.mpr (.inl h)⟩
      · exact .inl h
      · refine .inr ⟨j, ?_⟩
        by_cases e : j = f k n
        · rw [if_pos e]
          exact mem_ins.mpr (.inr h)
        · rw [if_neg e]
          exact h
theorem asc_ins {f : Nat → Nat → Fin 4} {n : Nat} : ∀ {t : IT}, Asc t → (∀ m, Mem m t → m < n) → Asc (ins f n t)
  | nil, _, _ => ⟨fun _ _ h => h.elim, fun _ _ _ h => h.elim, fun _ => trivial⟩
  | node k ch, ⟨h1, h2, h3⟩, hn => by
    have lt : ∀ {j m}, Mem m (ch j) → m < n := fun h => hn _ (.inr ⟨_, h⟩)
    have kn : k < n := hn k (.inl rfl)
    have key : ∀ {j m}, Mem m (if j = f k n then ins f n (ch j) else ch j) → (m = n ∧ j = f k n) ∨ Mem m (ch j) := fun {j m} h => by
      by_cases e : j = f k n
      · rw [if_pos e] at h
        rcases mem_ins.mp h with h | h
        · exact .inl ⟨h, e⟩
        · exact .inr h
      · rw [if_neg e] at h
        exact .inr h
    refine ⟨fun j m h => ?_, fun i j m hi hj => ?_, fun j => ?_⟩
    · rcases key h with ⟨rfl, _⟩ | h
      · exact kn
      · exact h1 j m h
    · rcases key hi with ⟨e, ei⟩ | hi
      · rcases key hj with ⟨_, ej⟩ | hj
        · rw [ei, ej]
        · have := lt hj
          omega
      · rcases key hj with ⟨e, _⟩ | hj
        · have := lt hi
          omega
        · exact h2 i j m hi hj
    · by_cases e : j = f k n
      · show Asc (if j = f k n then ins f n (ch j) else ch j)
        rw [if_pos e]
        exact asc_ins (h3 j) fun m h => lt h
      · show Asc (if j = f k n then ins f n (ch j) else ch j)
        rw [if_neg e]
        exact h3 j
theorem rt_mem {m : Nat} : ∀ {t : IT}, t.isNil = false → Mem (t.rt m) t
  | nil, h => by cases h
  | node k ch, _ => .inl rfl
theorem rt_nil {m : Nat} : ∀ {t : IT}, t.isNil = true → t.rt m = m
  | nil, _ => rfl
  | node k ch, h => by cases h
theorem rt_ins {f : Nat → Nat → Fin 4} {n m : Nat} : ∀ {t : IT}, (ins f n t).rt m = if t.isNil = true then n else t.rt m
  | nil => rfl
  | node k ch => rfl
theorem tgt_mem {f : Nat → Nat → Fin 4} {n : Nat} : ∀ {t : IT}, t.isNil = false → Mem (tgt f n t).1 t
  | nil, h => by cases h
  | node k ch, _ => by
    unfold tgt
    split
    · exact .inl rfl
    · rename_i h
      exact .inr ⟨f k n, tgt_mem (by simpa using h)⟩
/-- the rows with a number more, hung at a part -/
structure Hung (rows rows' : List (List Nat)) (kp : Nat × Fin 4) (n m : Nat) : Prop where
  old : ∀ k r, rows[k]? = some r → rows'[k]? = some (if k = kp.1 then r.set kp.2 n else r)
  new : rows'[n]? = some [m, m, m, m]
theorem rep_other {rows rows' : List (List Nat)} {m : Nat} {kp : Nat × Fin 4} {n : Nat} (H : Hung rows rows' kp n m) : ∀ {t : IT}, ¬ Mem kp.1 t → Rep rows m t → Rep rows' m t
  | nil, _, _ => trivial
  | node k ch, hm, ⟨h1, h2⟩ => by
    refine ⟨?_, fun j => rep_other H (fun h => hm (.inr ⟨j, h⟩)) (h2 j)⟩
    rw [H.old k _ h1, if_neg (fun e => hm (.inl e.symm))]
theorem isNil_eq {t : IT} (h : t.isNil = true) : t = nil := by
  cases t with
  | nil => rfl
  | node _ _ => cases h
theorem rep_hang {f : Nat → Nat → Fin 4} {rows rows' : List (List Nat)} {m n : Nat} : ∀ {t : IT}, Hung rows rows' (tgt f n t) n m → t.isNil = false → Asc t → Rep rows m t → Rep rows' m (ins f n t)
  | nil, _, h, _, _ => by cases h
  | node k ch, H, _, ⟨h1, h2, h3⟩, ⟨r1, r2⟩ => by
    have kn : ∀ j, ¬ Mem k (ch j) := fun j h => by have := h1 j k h; omega
    unfold tgt at H
    have key : ∀ j, (if j = f k n then ins f n (ch j) else ch j).rt m = if j = f k n then (if (ch (f k n)).isNil = true then n else (ch j).rt m) else (ch j).rt m := fun j => by
      by_cases q : j = f k n
      · rw [if_pos q, if_pos q, rt_ins, q]
      · rw [if_neg q, if_neg q]
    by_cases e : (ch (f k n)).isNil = true
    · rw [if_pos e] at H
      refine ⟨?_, fun j => ?_⟩
      · rw [H.old k _ r1, if_pos rfl, key, key, key, key, if_pos e, if_pos e, if_pos e, if_pos e]
        show some (List.set [(ch 0).rt m, (ch 1).rt m, (ch 2).rt m, (ch 3).rt m] (f k n) n) = _
        generalize f k n = p
        match p with
        | 0 => rfl
        | 1 => rfl
        | 2 => rfl
        | 3 => rfl
      · show Rep _ m (if j = f k n then ins f n (ch j) else ch j)
        by_cases q : j = f k n
        · rw [if_pos q, q, isNil_eq e]
          exact ⟨H.new, fun _ => trivial⟩
        · rw [if_neg q]
          exact rep_other H (kn j) (r2 j)
    · rw [if_neg e] at H
      have e' : (ch (f k n)).isNil = false := by simpa using e
      have tm := tgt_mem (f := f) (n := n) e'
      refine ⟨?_, fun j => ?_⟩
      · rw [H.old k _ r1, if_neg (fun h => kn (f k n) (Eq.mpr (congrArg (fun z => Mem z (ch (f k n))) h) tm)), key, key, key, key, if_neg e, if_neg e, if_neg e, if_neg e]
        simp only [ite_self]
      · show Rep _ m (if j = f k n then ins f n (ch j) else ch j)
        by_cases q : j = f k n
        · rw [if_pos q, q]
          exact rep_hang H e' (h3 _) (r2 _)
        · rw [if_neg q]
          exact rep_other H (fun h => q (h2 _ _ _ h tm)) (r2 j)
/-! ### the tree that comes of dividing at the first one -/
def grow (f : Nat → Nat → Fin 4) : Nat → List Nat → IT
  | 0, _ => nil
  | _ + 1, [] => nil
  | n + 1, k :: r => node k fun j => grow f n (r.filter fun m => decide (f k m = j))
theorem grow_snoc {f : Nat → Nat → Fin 4} {a : Nat} : ∀ (n : Nat) (l : List Nat), l.length + 1 ≤ n → grow f n (l ++ [a]) = ins f a (grow f n l)
  | 0, l, h => by omega
  | n + 1, [], h => by
    show node a (fun j => grow f n _) = node a fun _ => nil
    congr 1
    funext j
    cases n <;> rfl
  | n + 1, k :: r, h => by
    show node k _ = node k _
    congr 1
    funext j
    show grow f n ((r ++ [a]).filter _) = if j = f k a then ins f a (grow f n (r.filter _)) else grow f n (r.filter _)
    rw [List.filter_append]
    have hl : (r.filter fun m => decide (f k m = j)).length ≤ r.length := List.length_filter_le ..
    have h' : r.length + 1 + 1 ≤ n + 1 := h
    by_cases q : j = f k a
    · have e : [a].filter (fun m => decide (f k m = j)) = [a] := by simp [q]
      rw [if_pos q, e, grow_snoc n _ (by omega)]
    · have e : [a].filter (fun m => decide (f k m = j)) = [] := by simp [show ¬ f k a = j from fun h => q h.symm]
      rw [if_neg q, e, List.append_nil]
theorem grow_fuel {f : Nat → Nat → Fin 4} : ∀ (n n' : Nat) (l : List Nat), l.length ≤ n → l.length ≤ n' → grow f n l = grow f n' l
  | 0, 0, _, _, _ => rfl
  | 0, n' + 1, [], _, _ => rfl
  | n + 1, 0, [], _, _ => rfl
  | n + 1, n' + 1, [], _, _ => rfl
  | 0, _, k :: r, h, _ => by simp at h
  | _, 0, k :: r, _, h => by simp at h
  | n + 1, n' + 1, k :: r, h, h' => by
    show node k _ = node k _
    congr 1
    funext j
    have hl : (r.filter fun m => decide (f k m = j)).length ≤ r.length := List.length_filter_le ..
    simp only [List.length_cons] at h h'
    exact grow_fuel n n' _ (by omega) (by omega)
theorem mem_grow {f : Nat → Nat → Fin 4} {m : Nat} : ∀ (n : Nat) (l : List Nat), Mem m (grow f n l) → m ∈ l
  | 0, _, h => h.elim
  | _ + 1, [], h => h.elim
  | n + 1, k :: r, h => by
    rcases h with h | ⟨j, h⟩
    · rw [h]
      exact List.mem_cons_self ..
    · exact List.mem_cons_of_mem _ (List.mem_filter.mp (mem_grow n _ h)).1
end IT
/-! ### trees of points -/
inductive QT where
  | nil : QT
  | node (p : Int × Int) (ch : Fin 4 → QT) : QT
namespace QT
def growQ (f : Int × Int → Int × Int → Fin 4) : Nat → List (Int × Int) → QT
  | 0, _ => nil
  | _ + 1, [] => nil
  | n + 1, k :: r => node k fun j => growQ f n (r.filter fun m => decide (f k m = j))
def ofI (p : Nat → Int × Int) : IT → QT
  | .nil => nil
  | .node k ch => node (p k) fun j => ofI p (ch j)
theorem ofI_grow {f : Int × Int → Int × Int → Fin 4} {p : Nat → Int × Int} : ∀ (n : Nat) (l : List Nat), ofI p (IT.grow (fun a b => f (p a) (p b)) n l) = growQ f n (l.map p)
  | 0, _ => rfl
  | _ + 1, [] => rfl
  | n + 1, k :: r => by
    show node (p k) _ = node (p k) _
    congr 1
    funext j
    rw [List.filter_map]
    exact ofI_grow n _
end QT
end Q2

namespace Q2
open PySem PySem.Spec PyProof.Rows L2
/-! ### trees as data -/
def sideF (p q : Int × Int) : Fin 4 := ⟨(if gtP q.1 q.2 p.1 p.2 = true then 1 else 0) + (if gtP q.2 q.1 p.2 p.1 = true then 2 else 0), by split <;> split <;> decide⟩
theorem partM_side {p q : Int × Int} (h : p ≠ q) : partM p.1 p.2 q.1 q.2 = some ((sideF p q).val : Int) := by
  unfold partM sideF
  rw [if_neg (fun e => h e)]
  dsimp only
  by_cases h1 : gtP q.1 q.2 p.1 p.2 = true
  · by_cases h2 : gtP q.2 q.1 p.2 p.1 = true
    · simp only [if_pos h1, if_pos h2]; rfl
    · simp only [if_pos h1, if_neg h2]; rfl
  · by_cases h2 : gtP q.2 q.1 p.2 p.1 = true
    · simp only [if_neg h1, if_pos h2]; rfl
    · simp only [if_neg h1, if_neg h2]; rfl
def qD : QT → PyData
  | .nil => .none
  | .node p ch => .tuple [ptD p, .tuple [qD (ch 0), qD (ch 1), qD (ch 2), qD (ch 3)]]
namespace QT
def ht : QT → Nat
  | nil => 0
  | node _ ch => 1 + max (max (ht (ch 0)) (ht (ch 1))) (max (ht (ch 2)) (ht (ch 3)))
def size : QT → Nat
  | nil => 0
  | node _ ch => 1 + (size (ch 0) + size (ch 1) + size (ch 2) + size (ch 3))
theorem grow_ht {f : Int × Int → Int × Int → Fin 4} : ∀ (n : Nat) (l : List (Int × Int)), (growQ f n l).ht ≤ l.length
  | 0, _ => Nat.zero_le _
  | _ + 1, [] => Nat.le_refl _
  | n + 1, k :: r => by
    have h : ∀ j : Fin 4, (growQ f n (r.filter fun m => decide (f k m = j))).ht ≤ r.length := fun j => Nat.le_trans (grow_ht n _) (List.length_filter_le ..)
    simp only [growQ, ht, List.length_cons]
    have h0 := h 0
    have h1 := h 1
    have h2 := h 2
    have h3 := h 3
    omega
end QT
theorem qD_lay : ∀ t : QT, (qD t).canLay0 = true
  | .nil => by simp [qD, PyData.canLay0]
  | .node p ch => by simp [qD, PyData.canLay0, PyData.canLayAll0, ptD_lay, qD_lay (ch 0), qD_lay (ch 1), qD_lay (ch 2), qD_lay (ch 3)]
theorem qD_depth : ∀ t : QT, (qD t).depth ≤ 2 * t.ht
  | .nil => by simp [qD, PyData.depth]
  | .node p ch => by
    have h0 := qD_depth (ch 0)
    have h1 := qD_depth (ch 1)
    have h2 := qD_depth (ch 2)
    have h3 := qD_depth (ch 3)
    have hp := ptD_depth p
    simp only [qD, PyData.depth, PyData.depthAll, QT.ht]
    omega
theorem qD_shaped {t : QT} (h : t.ht ≤ 32) : SeqAt.shaped (qD t) = true := by
  have h2 := qD_depth t
  show ((qD t).canLay0 && decide ((qD t).depth ≤ 64)) = true
  rw [Bool.and_eq_true]
  exact ⟨qD_lay t, decide_eq_true (by omega)⟩
theorem ptD_refl (p : Int × Int) : PyData.eqv (ptD p) (ptD p) = true := by rw [ptD_eqv]; exact decide_eq_true rfl
theorem qD_refl : ∀ t : QT, PyData.eqv (qD t) (qD t) = true
  | .nil => by simp [qD, PyData.eqv]
  | .node p ch => by simp [qD, PyData.eqv, PyData.eqvAll, ptD_refl p, qD_refl (ch 0), qD_refl (ch 1), qD_refl (ch 2), qD_refl (ch 3)]
/-! ### data stay where what was tracked stays -/
theorem Rd.same {H H' : Hp} {a : Addr} {o : HO} (e : Same H H') (h : Rd H a o) : Rd H' a o := by
  rcases h with h | ⟨ob, h⟩
  · exact .inl (e _ _ h)
  · exact .inr ⟨ob, e _ _ h⟩
theorem SqT.same {K : PySem.W.Frag} {H H' : Hp} {a : Addr} {xs : List V} (e : Same H H') (h : SqT K H a xs) : SqT K H' a xs := h.imp (Rd.same e) id
theorem SqL.same {K : PySem.W.Frag} {H H' : Hp} {a : Addr} {xs : List V} (e : Same H H') (h : SqL K H a xs) : SqL K H' a xs := h.imp (Rd.same e) id
mutual
theorem Dp.same {K : PySem.W.Frag} {H H' : Hp} (e : Same H H') : ∀ {v : V} {d : PyData}, Dp K H v d → Dp K H' v d
  | _, _, .non => .non
  | _, _, .bl b => .bl b
  | _, _, .int i => .int i
  | _, _, .str x => .str x
  | _, _, .lst h a => .lst (SqL.same e h) (DpAll.same e a)
  | _, _, .tup h a => .tup (SqT.same e h) (DpAll.same e a)
theorem DpAll.same {K : PySem.W.Frag} {H H' : Hp} (e : Same H H') : ∀ {vs : List V} {ds : List PyData}, DpAll K H vs ds → DpAll K H' vs ds
  | _, _, .nil => .nil
  | _, _, .cons h a => .cons (Dp.same e h) (DpAll.same e a)
end
theorem dp_ptR {K : PySem.W.Frag} {H : Hp} {v : V} {p : Int × Int} (h : Dp K H v (ptD p)) : ∃ a, v = .ref a ∧ PtR K H a p := by
  obtain ⟨x, y⟩ := p
  unfold ptD at h
  cases h with
  | tup hs ha =>
    rename_i a xs
    cases ha with
    | cons h1 h2 =>
      cases h2 with
      | cons h3 h4 =>
        cases h4
        cases h1
        cases h3
        exact ⟨a, rfl, hs⟩
/-- a node, taken apart -/
theorem dp_node {K : PySem.W.Frag} {H : Hp} {v : V} {p : Int × Int} {ch : Fin 4 → QT} (h : Dp K H v (qD (.node p ch))) :
    ∃ (a b c : Addr) (v0 v1 v2 v3 : V), v = .ref a ∧ SqT K H a [.ref b, .ref c] ∧ PtR K H b p ∧ SqT K H c [v0, v1, v2, v3] ∧ Dp K H v0 (qD (ch 0)) ∧ Dp K H v1 (qD (ch 1)) ∧ Dp K H v2 (qD (ch 2)) ∧ Dp K H v3 (qD (ch 3)) := by
  unfold qD at h
  cases h with
  | tup hs ha =>
    rename_i a xs
    cases ha with
    | cons h1 h2 =>
      cases h2 with
      | cons h3 h4 =>
        cases h4
        obtain ⟨b, rfl, hb⟩ := dp_ptR h1
        cases h3 with
        | tup hc hcs =>
          rename_i c ys
          cases hcs with
          | cons d0 r =>
            cases r with
            | cons d1 r =>
              cases r with
              | cons d2 r =>
                cases r with
                | cons d3 r =>
                  cases r
                  exact ⟨a, b, c, _, _, _, _, rfl, hs, hb, hc, d0, d1, d2, d3⟩
theorem dp_mk {K : PySem.W.Frag} {H : Hp} {a b c : Addr} {v0 v1 v2 v3 : V} {p : Int × Int} {ch : Fin 4 → QT} (hs : SqT K H a [.ref b, .ref c]) (hb : PtR K H b p) (hc : SqT K H c [v0, v1, v2, v3])
    (h0 : Dp K H v0 (qD (ch 0))) (h1 : Dp K H v1 (qD (ch 1))) (h2 : Dp K H v2 (qD (ch 2))) (h3 : Dp K H v3 (qD (ch 3))) : Dp K H (.ref a) (qD (.node p ch)) := by
  unfold qD
  exact .tup hs (.cons (.tup hb (.cons (.int _) (.cons (.int _) .nil))) (.cons (.tup hc (.cons h0 (.cons h1 (.cons h2 (.cons h3 .nil))))) .nil))
theorem dp_nil {K : PySem.W.Frag} {H : Hp} {v : V} (h : Dp K H v (qD .nil)) : v = .non := by
  unfold qD at h
  cases h
  rfl
theorem dp_nonil {K : PySem.W.Frag} {H : Hp} {v : V} {p : Int × Int} {ch : Fin 4 → QT} (h : Dp K H v (qD (.node p ch))) : v ≠ .non := by
  obtain ⟨a, _, _, _, _, _, _, rfl, _⟩ := dp_node h
  intro z
  cases z
end Q2

namespace Q2
open PySem PySem.Spec PyProof.Rows L2
/-! ### rows that grow, step by step -/
def fI (qs : Pts) (a b : Nat) : Fin 4 := sideF ((qs.map (·.2)).getD a (0, 0)) ((qs.map (·.2)).getD b (0, 0))
abbrev ITg (qs : Pts) (i : Nat) : IT := IT.grow (fI qs) i (List.range i)
theorem itg_succ (qs : Pts) (i : Nat) : ITg qs (i + 1) = IT.ins (fI qs) i (ITg qs i) := by
  unfold ITg
  rw [List.range_succ, IT.grow_snoc (i + 1) _ (by rw [List.length_range]; omega), IT.grow_fuel (i + 1) i _ (by rw [List.length_range]; omega) (by rw [List.length_range]; omega)]
theorem itg_mem {qs : Pts} {i k : Nat} (h : IT.Mem k (ITg qs i)) : k < i := List.mem_range.mp (IT.mem_grow i _ h)
theorem itg_asc (qs : Pts) : ∀ i, IT.Asc (ITg qs i)
  | 0 => trivial
  | i + 1 => by
    rw [itg_succ]
    exact IT.asc_ins (itg_asc qs i) fun m h => itg_mem h
theorem itg_rt (qs : Pts) (m : Nat) : ∀ i, 0 < i → (ITg qs i).isNil = false ∧ (ITg qs i).rt m = 0
  | 0, h => absurd h (Nat.lt_irrefl _)
  | 1, _ => ⟨rfl, rfl⟩
  | i + 2, _ => by
    obtain ⟨h1, h2⟩ := itg_rt qs m (i + 1) (Nat.succ_pos _)
    rw [itg_succ, IT.rt_ins, h1, if_neg (by decide), h2]
    refine ⟨?_, rfl⟩
    cases e : ITg qs (i + 1) with
    | nil => rw [e] at h1; cases h1
    | node _ _ => rfl
abbrev iV (k : Nat) : V := .int (k : Int)
/-- rows in the heap: the list at R of the lists at rs, none of which stood before -/
structure RowsAt (H0 H : Hp) (R : Addr) (rs : List Addr) (M : List (List Nat)) : Prop where
  lst : H R = some (.lst (rs.map V.ref))
  len : rs.length = M.length
  row : ∀ (i : Nat) (r : Addr) (row : List Nat), rs[i]? = some r → M[i]? = some row → H r = some (.lst (row.map iV))
  nd : rs.Nodup
  ne : R ∉ rs
  fr : H0 R = none
  frs : ∀ r ∈ rs, H0 r = none
/-- each row has four numbers, none of which is greater than many -/
def Rows4 (M : List (List Nat)) (m : Nat) : Prop := ∀ row ∈ M, row.length = 4 ∧ ∀ k ∈ row, k ≤ m
theorem RowsAt.same {H0 H H' : Hp} {R : Addr} {rs : List Addr} {M : List (List Nat)} (e : Same H H') (h : RowsAt H0 H R rs M) : RowsAt H0 H' R rs M :=
  ⟨e _ _ h.lst, h.len, fun i r row h1 h2 => e _ _ (h.row i r row h1 h2), h.nd, h.ne, h.fr, h.frs⟩
theorem RowsAt.get {H0 H : Hp} {R : Addr} {rs : List Addr} {M : List (List Nat)} (h : RowsAt H0 H R rs M) {i : Nat} (hi : i < M.length) : ∃ r row, rs[i]? = some r ∧ M[i]? = some row ∧ H r = some (.lst (row.map iV)) := by
  have hi' : i < rs.length := by rw [h.len]; exact hi
  exact ⟨rs[i], M[i], List.getElem?_eq_getElem hi', List.getElem?_eq_getElem hi, h.row i _ _ (List.getElem?_eq_getElem hi') (List.getElem?_eq_getElem hi)⟩
/-- a row changed -/
theorem RowsAt.set {H0 H : Hp} {R : Addr} {rs : List Addr} {M : List (List Nat)} (h : RowsAt H0 H R rs M) {k : Nat} {r : Addr} {row' : List Nat} (hr : rs[k]? = some r) : RowsAt H0 (upd H r (.lst (row'.map iV))) R rs (M.set k row') := by
  obtain ⟨hk, hrk⟩ := List.getElem?_eq_some_iff.mp hr
  have rin : r ∈ rs := List.mem_of_getElem? hr
  refine ⟨?_, by rw [List.length_set]; exact h.len, fun i r2 row2 h1 h2 => ?_, h.nd, h.ne, h.fr, h.frs⟩
  · rw [upd_ne (fun z => h.ne (by rw [z]; exact rin))]
    exact h.lst
  · by_cases e : i = k
    · subst e
      rw [h1] at hr
      cases hr
      rw [List.getElem?_set_self (by rw [← h.len]; exact hk)] at h2
      cases h2
      exact upd_same
    · rw [List.getElem?_set_ne (fun z => e z.symm)] at h2
      rw [upd_ne]
      · exact h.row i r2 row2 h1 h2
      · intro z
        obtain ⟨hi, hri⟩ := List.getElem?_eq_some_iff.mp h1
        have := List.pairwise_iff_getElem.mp h.nd
        rcases Nat.lt_or_gt_of_ne e with lt | gt
        · exact this i k hi hk lt (by rw [hri, hrk, z])
        · exact this k i hk hi gt (by rw [hri, hrk, z])
/-- a row more -/
theorem RowsAt.snoc {H0 H : Hp} {R l : Addr} {rs : List Addr} {M : List (List Nat)} {row : List Nat} (h : RowsAt H0 H R rs M) (hl : H l = none) (s : ∀ b o, H0 b = some o → H b = some o) : RowsAt H0 (upd (upd H l (.lst (row.map iV))) R (.lst (rs.map V.ref ++ [V.ref l]))) R (rs ++ [l]) (M ++ [row]) := by
  have lR : l ≠ R := fun z => by rw [z, h.lst] at hl; cases hl
  have lrs : l ∉ rs := fun z => by
    obtain ⟨i, hi⟩ := List.getElem?_of_mem z
    obtain ⟨hi2, _⟩ := List.getElem?_eq_some_iff.mp hi
    have := h.row i l _ hi (List.getElem?_eq_getElem (by rw [← h.len]; exact hi2))
    rw [hl] at this
    cases this
  have l0 : H0 l = none := by
    cases q : H0 l with
    | none => rfl
    | some o => rw [s _ _ q] at hl; cases hl
  refine ⟨by rw [upd_same]; simp, by simp [h.len], fun i r2 row2 h1 h2 => ?_, ?_, ?_, h.fr, ?_⟩
  · have hr2 : r2 ∈ rs ++ [l] := List.mem_of_getElem? h1
    have r2R : r2 ≠ R := fun z => by
      rw [z] at hr2
      rcases List.mem_append.mp hr2 with q | q
      · exact h.ne q
      · exact lR (List.mem_singleton.mp q).symm
    rw [upd_ne r2R]
    by_cases e : i < rs.length
    · rw [List.getElem?_append_left e] at h1
      rw [List.getElem?_append_left (by rw [← h.len]; exact e)] at h2
      rw [upd_ne (fun z => lrs (by rw [← z]; exact List.mem_of_getElem? h1))]
      exact h.row i r2 row2 h1 h2
    · rw [List.getElem?_append_right (by omega)] at h1
      rw [List.getElem?_append_right (by rw [← h.len]; omega)] at h2
      rw [← h.len] at h2
      generalize i - rs.length = j at h1 h2
      match j with
      | 0 =>
        cases h1
        cases h2
        exact upd_same
      | j + 1 => simp at h1
  · exact nd_snoc h.nd lrs
  · intro z
    rcases List.mem_append.mp z with q | q
    · exact h.ne q
    · exact lR (List.mem_singleton.mp q).symm
  · intro r hr
    rcases List.mem_append.mp hr with q | q
    · exact h.frs r q
    · rw [List.mem_singleton.mp q]
      exact l0
/-- the model of a turn -/
theorem hung_of {M : List (List Nat)} {n i k : Nat} {p : Fin 4} {row : List Nat} (hM : M.length = i) (hk : k < i) (hr : M[k]? = some row) : IT.Hung M (M.set k (row.set p i) ++ [[n, n, n, n]]) (k, p) i n := by
  refine ⟨fun k' r h => ?_, ?_⟩
  · obtain ⟨hk', _⟩ := List.getElem?_eq_some_iff.mp h
    rw [List.getElem?_append_left (by rw [List.length_set]; exact hk')]
    by_cases e : k' = k
    · subst e
      rw [if_pos rfl, List.getElem?_set_self hk']
      rw [h] at hr
      cases hr
      rfl
    · rw [if_neg e, List.getElem?_set_ne (fun z => e z.symm)]
      exact h
  · rw [List.getElem?_append_right (by rw [List.length_set]; omega), List.length_set, hM, Nat.sub_self]
    rfl
theorem rows4_set {M : List (List Nat)} {n k i : Nat} {p : Fin 4} {row : List Nat} (h : Rows4 M n) (hr : M[k]? = some row) (hi : i ≤ n) : Rows4 (M.set k (row.set p i) ++ [[n, n, n, n]]) n := by
  intro r hr2
  rcases List.mem_append.mp hr2 with q | q
  · rcases List.mem_or_eq_of_mem_set q with q | rfl
    · exact h r q
    · obtain ⟨l, b⟩ := h row (List.mem_of_getElem? hr)
      refine ⟨by rw [List.length_set]; exact l, fun x hx => ?_⟩
      rcases List.mem_or_eq_of_mem_set hx with q | rfl
      · exact b x q
      · exact hi
  · rw [List.mem_singleton.mp q]
    refine ⟨rfl, fun x hx => ?_⟩
    simp at hx
    omega
/-- points of a list or a tuple, read by place -/
abbrev rIxS2 (K : PySem.W.Frag) : R2 := fun x y H Q => rIxL K x y H Q ∨ rIxT K x y H Q
theorem ix_seq2 {X : Cx} : IxR X (rIxS2 X.K) := IxR.or ix_list ix_tup
theorem ix_pts {K : PySem.W.Frag} {H : Hp} {a : Addr} {qs : Pts} {i : Nat} {q : Addr × Int × Int} {Q : VK} (h : SeqP H a qs) (hi : qs[i]? = some q) (k : Q (.ref q.1) H) : rIxS2 K (.ref a) (iV i) H Q := by
  have e : (refsOf qs)[i]? = some (V.ref q.1) := by rw [List.getElem?_map, hi]; rfl
  rcases h with h | h
  · exact .inl ⟨a, _, _, _, rfl, rfl, SqL.of h, atI_nat e, k⟩
  · exact .inr ⟨a, _, _, _, rfl, rfl, SqT.of h, atI_nat e, k⟩
theorem fI_side {qs : Pts} {k i : Nat} {q r : Addr × Int × Int} (hk : qs[k]? = some q) (hi : qs[i]? = some r) : fI qs k i = sideF q.2 r.2 := by
  unfold fI
  rw [List.getD_eq_getElem?_getD, List.getD_eq_getElem?_getD, List.getElem?_map, List.getElem?_map, hk, hi]
  rfl
end Q2

namespace Q2
open PySem PySem.Spec PyProof.Rows L2
theorem pts_ne {qs : Pts} {i k : Nat} {q r : Addr × Int × Int} (nd : (qs.map (·.2)).Nodup) (hk : qs[k]? = some q) (hi : qs[i]? = some r) (lt : k < i) : q.2 ≠ r.2 := by
  obtain ⟨hk', rfl⟩ := List.getElem?_eq_some_iff.mp hk
  obtain ⟨hi', rfl⟩ := List.getElem?_eq_some_iff.mp hi
  have h3 := List.pairwise_iff_getElem.mp nd k i (by rw [List.length_map]; omega) (by rw [List.length_map]; exact hi') lt
  rw [List.getElem_map, List.getElem_map] at h3
  exact h3
theorem four_at {row : List Nat} (h : row.length = 4) (p : Fin 4) : ∃ k, row[p.val]? = some k ∧ k ∈ row := by
  have : p.val < row.length := by have := p.isLt; omega
  exact ⟨row[p.val], List.getElem?_eq_getElem this, List.getElem_mem this⟩
section
variable {P : Program} {w : World} {K : PySem.W.Frag} {mg : Str → Option Value} {base : Heap}
/-! ### rows_by_steps -/
theorem scRows : FnScope ["points", "many", "rows", "number", "point", "at", "row", "part"] ["points"] (defScope s_rows_by_steps) := ⟨rfl, rfl, rfl, by decide +kernel, rfl, by decide +kernel, by decide +kernel⟩
def spRows : Sp := fun vs H Q _ => ∃ (a : Addr) (qs : Pts), vs = [.ref a] ∧ SeqP H a qs ∧ AllP H qs ∧ (qs.map (·.2)).Nodup ∧ qs.length ≤ 1000 ∧
  ∀ H' R rs M, Same H H' → RowsAt H H' R rs M → M.length = qs.length → Rows4 M qs.length → IT.Rep M qs.length (ITg qs qs.length) → Q (.ref R) H'
/-- what stands in the slots, and in the heap, while points are put in -/
structure StepI (H0 : Hp) (a R : Addr) (qs : Pts) (i : Nat) (H : Hp) (rs : List Addr) (M : List (List Nat)) : Prop where
  same : Same H0 H
  rows : RowsAt H0 H R rs M
  len : M.length = i
  four : Rows4 M qs.length
  rep : IT.Rep M qs.length (ITg qs i)
def itSz : IT → Nat
  | .nil => 0
  | .node _ ch => 1 + (itSz (ch 0) + itSz (ch 1) + itSz (ch 2) + itSz (ch 3))
theorem itSz_lt (k : Nat) (ch : Fin 4 → IT) (p : Fin 4) : itSz (ch p) < itSz (.node k ch) := by
  show itSz (ch p) < 1 + (itSz (ch 0) + itSz (ch 1) + itSz (ch 2) + itSz (ch 3))
  match p with
  | 0 => omega
  | 1 => omega
  | 2 => omega
  | 3 => omega
theorem four_map {α β : Type} (g : α → β) (f : Fin 4 → α) (p : Fin 4) : ([f 0, f 1, f 2, f 3].map g)[p.val]? = some (g (f p)) := by
  match p with
  | 0 => rfl
  | 1 => rfl
  | 2 => rfl
  | 3 => rfl
theorem ixN_lt {n j : Nat} (h : j < n) : ixN n (j : Int) = some j := by
  unfold ixN
  rw [if_pos (by omega), if_pos (by omega)]
  rfl
/-- on the way down -/
def WayI (H0 : Hp) (a R : Addr) (qs : Pts) (i : Nat) (q0 : Addr) (rs : List Addr) (M : List (List Nat)) (m : Nat) (σ : L2.St) (H5 : Hp) : Prop :=
  ∃ (t : IT) (y6 y7 : Option V), σ = [some (.ref a), some (iV qs.length), some (.ref R), some (.int (i : Nat)), some (.ref q0), some (iV (t.rt qs.length)), y6, y7] ∧ StepI H0 a R qs i H5 rs M ∧ itSz t = m ∧
    (0 < i → IT.Rep M qs.length t ∧ (∀ k, IT.Mem k t → k < i) ∧ (t.isNil = false → IT.tgt (fI qs) i t = IT.tgt (fI qs) i (ITg qs i)) ∧
      (t.isNil = true → ∃ r, rs[(IT.tgt (fI qs) i (ITg qs i)).1]? = some r ∧ y6 = some (.ref r) ∧ y7 = some (iV (IT.tgt (fI qs) i (ITg qs i)).2.val)))
theorem ok_rows {f fP : Addr} {fd fdP : FuncData} (F : FnP K "rows_by_steps" s_rows_by_steps f fd) (B : Bt mg) (C : B1 mg) (GP : FnOk P w K mg base CX0 2 fP fdP ["root", "point"] spPart) (kP : PySem.W.keepIn K (.ref fP) = true) (bP : Binds K fdP ["root", "point"] []) (gP : mg "part_of" = some (.ref fP)) : FnOk P w K mg base CX0 3 f fd ["points"] spRows := by
  refine F.ok scRows (fun vs H Q E h => ?_) (fun cdv A outer s H vs Q E hr h => ?_)
  · obtain ⟨_, _, rfl, _⟩ := h
    rfl
  · obtain ⟨a, qs, rfl, hs, hp, nd, few, q⟩ := h
    refine ⟨_, pss_cons (ps_set (i := 1) scRows.nd rfl (.inl rfl) (pe_callB call_len_seq (by rfl) B.len PySem.boot_len (pa_cons (pv 0) pa_nil)))
      (pss_cons (ps_set (i := 2) scRows.nd rfl (.inl rfl) (pe_lst pa_nil))
      (pss_cons (ps_for PassesOwn.never rfl (pi_enumA (by rfl) C.enum (pa_cons (pv 0) pa_nil)) (pg_tup rfl (pgs_cons (pg_name (i := 3) scRows.nd rfl (.inl rfl)) (pgs_cons (pg_name (i := 4) scRows.nd rfl (.inl rfl)) pgs_nil)))
        (pss_cons (ps_set (i := 5) scRows.nd rfl (.inl rfl) pe_int)
        (pss_cons (ps_while PassesOwn.never (pt_cmpR op_lt (pv 5) (pv 3) (nomark _))
          (pss_cons (ps_set (i := 6) scRows.nd rfl (.inl rfl) (pe_ix ix_list (pv 2) (pv 5) (fun _ _ => rfl)))
          (pss_cons (ps_set (i := 7) scRows.nd rfl (.inl rfl) (pe_call GP hr (by rfl) gP kP bP .nil pass0 (pa_cons (pe_ix ix_seq2 (pv 0) (pv 5) (fun _ _ => rfl)) (pa_cons (pv 4) pa_nil))))
          (pss_one (ps_set (i := 5) scRows.nd rfl (.inl rfl) (pe_ix ix_list (pv 6) (pv 7) (fun _ _ => rfl)))))))
        (pss_cons (ps_if (pt_cmpR op_gt (pv 3) pe_int (nomark _)) (pss_one (ps_asg (pv 3) (pg_sub (pv 6) (pv 7) set_list))) pss_nil)
        (pss_one (ps_expr (pe_bm PySem.F.plainAttrs_list PySem.F.slot_list_append PySem.F.type_list_append mt_append (pv 2) (pa_cons (pe_lst (pa_cons (pv 1) (pa_cons (pv 1) (pa_cons (pv 1) (pa_cons (pv 1) pa_nil))))) pa_nil))))))))
      (pss_one (ps_ret (pv 2))))), ?_⟩
    have hlen : (refsOf qs).length = qs.length := List.length_map ..
    refine ⟨_, rfl, a, _, rfl, hs.sq, ?_⟩
    rw [hlen]
    refine ⟨(by decide), fun R nR => ?_⟩
    have s1 : Same H (upd H R (.lst [])) := same_new nR
    obtain ⟨J, eJ, wk⟩ := enum_of (K := K) (hs.same s1)
    refine ⟨_, rfl, a, _, J, rfl, eJ, for_it wk (fun i σ H3 => ∃ (y3 y4 y5 y6 y7 : Option V) (rs : List Addr) (M : List (List Nat)), σ = [some (.ref a), some (iV qs.length), some (.ref R), y3, y4, y5, y6, y7] ∧ StepI H a R qs i H3 rs M) ?_ ?_ ?_ ?_⟩
    · refine ⟨none, none, none, none, none, [], [], rfl, s1, ⟨upd_same, rfl, fun i r row h => by simp at h, List.nodup_nil, by simp, nR, fun r h => by simp at h⟩, rfl, fun r h => by simp at h, trivial⟩
    · rintro i σ H3 _ ⟨_, _, _, _, _, rs, M, rfl, I⟩
      rcases hs with hs | hs
      · rw [I.same _ _ hs, s1 _ _ hs]
      · rw [I.same _ _ hs, s1 _ _ hs]
    · rintro i v σ H3 H4 hi ⟨y3, y4, y5, y6, y7, rs, M, rfl, I⟩ ⟨T, vi, ve, rfl, nT, rfl, hvi, hve⟩
      obtain ⟨q0, hq0, rfl⟩ := refs_at hve
      cases hvi
      rw [hlen] at hi
      have s4 : Same H3 (upd H3 T (.tup [.int (i : Nat), .ref q0.1])) := same_new nT
      have I4 : StepI H a R qs i (upd H3 T (.tup [.int (i : Nat), .ref q0.1])) rs M := ⟨I.same.trans s4, I.rows.same s4, I.len, I.four, I.rep⟩
      refine ⟨T, _, rfl, SqT.of upd_same, rfl, _, _, rfl, _, _, rfl, rfl, ?_⟩
      generalize upd H3 T (.tup [.int (i : Nat), .ref q0.1]) = H4 at I4 ⊢
      clear I s4 nT
      -- the way down
      obtain ⟨t0, e0, c0⟩ : ∃ t : IT, t.rt qs.length = 0 ∧ (0 < i → t = ITg qs i) := if h : 0 < i then ⟨_, (itg_rt qs _ i h).2, fun _ => rfl⟩ else ⟨.node 0 fun _ => .nil, rfl, fun h' => absurd h' h⟩
      have sq5 : ∀ H5, StepI H a R qs i H5 rs M → SeqP H5 a qs := fun H5 I5 => hs.same I5.same
      refine ⟨WayI H a R qs i q0.1 rs M, ⟨itSz t0, t0, y6, y7, ?_, I4, rfl, fun h => ⟨?_, ?_, ?_, ?_⟩⟩, ?_⟩
      · rw [e0]
        rfl
      · rw [c0 h]
        exact I4.rep
      · rw [c0 h]
        exact fun k hk => itg_mem hk
      · rw [c0 h]
        exact fun _ => rfl
      · rw [c0 h, (itg_rt qs qs.length i h).1]
        exact fun z => nomatch z
      · rintro m σ H5 ⟨t, z6, z7, rfl, I5, hm, c1⟩
        refine ⟨_, rfl, _, rfl, _, _, rfl, rfl, _, rfl, ite2 (fun d => ?_) (fun d => ?_)⟩
        · -- a turn
          have lt : t.rt qs.length < i := by have := of_decide_eq_true d; omega
          have i0 : 0 < i := by omega
          obtain ⟨c2, c3, c4, c5⟩ := c1 i0
          cases t with
          | nil => exact absurd lt (by show ¬ qs.length < i; omega)
          | node k ch =>
            have hk : k < i := lt
            obtain ⟨rk, r2⟩ := c2
            obtain ⟨r, row, hr1, hr2, hr3⟩ := I5.rows.get (i := k) (by rw [I5.len]; exact hk)
            rw [rk] at hr2
            cases hr2
            have hqk : qs[k]? = some qs[k] := List.getElem?_eq_getElem (by omega)
            have e1 : (rs.map V.ref)[k]? = some (V.ref r) := by rw [List.getElem?_map, hr1]; rfl
            refine ⟨fun σ' H' => ∃ m', m' < m ∧ WayI H a R qs i q0.1 rs M m' σ' H', fun _ _ h => h, ?_⟩
            refine ⟨_, rfl, _, rfl, R, _, _, _, rfl, rfl, SqL.of I5.rows.lst, atI_nat (j := k) e1, ?_⟩
            refine ⟨_, rfl, _, rfl, ix_pts (sq5 H5 I5) hqk ⟨_, rfl, qs[k].1, q0.1, qs[k].2.1, qs[k].2.2, q0.2.1, q0.2.2, rfl, (hp _ (List.mem_of_getElem? hqk)).same I5.same, (hp _ (List.mem_of_getElem? hq0)).same I5.same, fun H6 e6 => ?_⟩⟩
            rw [partM_side (pts_ne nd hqk hq0 hk), ← fI_side hqk hq0]
            have I6 : StepI H a R qs i H6 rs M := ⟨I5.same.trans e6, I5.rows.same e6, I5.len, I5.four, I5.rep⟩
            refine ⟨_, rfl, _, rfl, r, _, _, _, rfl, rfl, SqL.of (e6 _ _ hr3), atI_nat (j := (fI qs k i).val) (four_map iV (fun j => (ch j).rt qs.length) (fI qs k i)), ?_⟩
            refine ⟨_, (by rw [← hm]; exact itSz_lt k ch (fI qs k i)), ch (fI qs k i), some (.ref r), some (iV (fI qs k i).val), rfl, I6, rfl, fun _ => ⟨r2 _, fun k' h' => c3 k' (.inr ⟨_, h'⟩), fun nn => ?_, fun nn => ?_⟩⟩
            · rw [← c4 rfl]
              show _ = IT.tgt (fI qs) i (.node k ch)
              unfold IT.tgt
              rw [nn, if_neg (by decide)]
              cases z : ch (fI qs k i) with
              | nil => rw [z] at nn; cases nn
              | node k2 ch2 => rw [IT.tgt]
            · have e2 : IT.tgt (fI qs) i (ITg qs i) = (k, fI qs k i) := by
                rw [← c4 rfl]
                show IT.tgt (fI qs) i (.node k ch) = _
                unfold IT.tgt
                rw [nn, if_pos rfl]
              rw [e2]
              exact ⟨r, hr1, rfl, rfl⟩
        · -- the end of the way
          have ge : i ≤ t.rt qs.length := by
            have := of_decide_eq_false (Bool.eq_false_iff.mpr d)
            omega
          have fin : ∀ (H6 : Hp) (y5 y6 y7 : Option V) (M' : List (List Nat)), Same H H6 → RowsAt H H6 R rs M' → M'.length = i → Rows4 (M' ++ [[qs.length, qs.length, qs.length, qs.length]]) qs.length →
              IT.Rep (M' ++ [[qs.length, qs.length, qs.length, qs.length]]) qs.length (ITg qs (i + 1)) → ∀ l, H6 l = none →
              ∃ (y3 y4 y5' y6' y7' : Option V) (rs' : List Addr) (M'' : List (List Nat)), [some (V.ref a), some (iV qs.length), some (.ref R), some (.int (i : Nat)), some (.ref q0.1), y5, y6, y7] = [some (.ref a), some (iV qs.length), some (.ref R), y3, y4, y5', y6', y7'] ∧
                StepI H a R qs (i + 1) (upd (upd H6 l (.lst ([qs.length, qs.length, qs.length, qs.length].map iV))) R (.lst (rs.map V.ref ++ [V.ref l]))) rs' M'' := by
            intro H6 y5 y6 y7 M' e6 hR hl h4 hrep l nl
            have ln : H l = none := same_free e6 nl
            refine ⟨_, _, _, _, _, rs ++ [l], M' ++ [[qs.length, qs.length, qs.length, qs.length]], rfl, ?_, hR.snoc nl e6, by simp [hl], h4, hrep⟩
            intro b o hb
            rw [upd_ne (ne_of_none hb nR), upd_ne (ne_of_none hb ln)]
            exact e6 b o hb
          have szM : ∀ M' : List (List Nat), M'.length = i → i < sizeLine := fun _ _ => small1000 (by omega)
          by_cases i0 : 0 < i
          · obtain ⟨c2, c3, c4, c5⟩ := c1 i0
            have hnil : t.isNil = true := by
              cases t with
              | nil => rfl
              | node k ch => exact absurd (c3 k (.inl rfl)) (by have : i ≤ k := ge; omega)
            obtain ⟨r, hr1, rfl, rfl⟩ := c5 hnil
            have tm := IT.tgt_mem (f := fI qs) (n := i) (itg_rt qs qs.length i i0).1
            generalize hkp : IT.tgt (fI qs) i (ITg qs i) = kp at hr1 tm
            obtain ⟨k, p⟩ := kp
            have hk : k < i := itg_mem tm
            obtain ⟨r', row, hr1', hr2, hr3⟩ := I5.rows.get (i := k) (by rw [I5.len]; exact hk)
            rw [hr1] at hr1'
            cases hr1'
            obtain ⟨l4, b4⟩ := I5.four row (List.mem_of_getElem? hr2)
            have pl : p.val < (row.map iV).length := by rw [List.length_map, l4]; exact p.isLt
            refine ⟨_, rfl, _, _, rfl, rfl, _, rfl, ?_⟩
            rw [decide_eq_true (show (0 : Int) < (i : Nat) by omega)]
            refine iteT ?_
            refine ⟨_, rfl, _, rfl, _, rfl, r, _, _, p.val, rfl, rfl, hr3, ixN_lt pl, ?_⟩
            have em : (row.map iV).set p.val (.int (i : Nat)) = (row.set p.val i).map iV := by rw [List.map_set]
            rw [em]
            have h0r : H r = none := I5.rows.frs r (List.mem_of_getElem? hr1)
            have R6 : RowsAt H (upd H5 r (.lst ((row.set p.val i).map iV))) R rs (M.set k (row.set p.val i)) := I5.rows.set hr1
            have e6 : Same H (upd H5 r (.lst ((row.set p.val i).map iV))) := fun b o hb => by
              rw [upd_ne (ne_of_none hb h0r)]
              exact I5.same b o hb
            have hl6 : (M.set k (row.set p.val i)).length = i := by rw [List.length_set]; exact I5.len
            have hr4 := rows4_set (p := p) I5.four hr2 (show i ≤ qs.length by omega)
            have hrep : IT.Rep (M.set k (row.set p.val i) ++ [[qs.length, qs.length, qs.length, qs.length]]) qs.length (ITg qs (i + 1)) := by
              rw [itg_succ]
              refine IT.rep_hang ?_ (itg_rt qs qs.length i i0).1 (itg_asc qs i) I5.rep
              rw [hkp]
              exact hung_of I5.len hk hr2
            generalize upd H5 r (.lst ((row.set p.val i).map iV)) = H6 at R6 e6 ⊢
            generalize M.set k (row.set p.val i) = M6 at R6 hl6 hr4 hrep
            refine ⟨_, rfl, .inl ⟨rfl, _, SqL.of R6.lst⟩, _, rfl, _, rfl, _, rfl, _, rfl, (by show 4 ≤ sizeLine; decide), fun l nl => ⟨R, _, _, rfl, rfl, (by rw [upd_ne (ne_of_none R6.lst nl)]; exact R6.lst), (by rw [List.length_map, R6.len]; exact (hl6 ▸ szM M6 hl6)), ?_⟩⟩
            exact fin H6 _ _ _ M6 e6 R6 hl6 hr4 hrep l nl
          · have i0' : i = 0 := by omega
            subst i0'
            refine ⟨_, rfl, _, _, rfl, rfl, _, rfl, iteF ?_⟩
            have hM : M = [] := List.length_eq_zero_iff.mp I5.len
            refine ⟨_, rfl, .inl ⟨rfl, _, SqL.of I5.rows.lst⟩, _, rfl, _, rfl, _, rfl, _, rfl, (by show 4 ≤ sizeLine; decide), fun l nl => ⟨R, _, _, rfl, rfl, (by rw [upd_ne (ne_of_none I5.rows.lst nl)]; exact I5.rows.lst), (by rw [List.length_map, I5.rows.len]; exact (I5.len ▸ szM M I5.len)), ?_⟩⟩
            refine fin H5 _ _ _ M I5.same I5.rows I5.len ?_ ?_ l nl
            · subst hM
              intro row hrow
              rw [List.mem_singleton.mp hrow]
              refine ⟨rfl, fun x hx => ?_⟩
              simp at hx
              omega
            · subst hM
              exact ⟨rfl, fun _ => trivial⟩
    · rintro σ H3 ⟨y3, y4, y5, y6, y7, rs, M, rfl, I⟩
      rw [hlen] at I
      exact ⟨_, rfl, q H3 R rs M I.same I.rows I.len I.four I.rep⟩
end
end Q2

namespace Q2
open PySem PySem.Spec PyProof.Rows L2
def tNeverE : TE := fun _ _ _ => False
theorem pe_never {X : Cx} {e : Expr} : PE X e tNeverE := ⟨fun _ _ _ _ _ _ h => h.elim⟩
/-! ### trees of rows -/
def Sub (s : IT) : IT → Prop
  | .nil => s = .nil
  | .node k ch => s = .node k ch ∨ ∃ j, Sub s (ch j)
theorem sub_refl : ∀ t : IT, Sub t t
  | .nil => rfl
  | .node _ _ => .inl rfl
theorem sub_rep {s : IT} {M : List (List Nat)} {m : Nat} : ∀ {t : IT}, Sub s t → IT.Rep M m t → IT.Rep M m s
  | .nil, h, _ => by rw [h]; trivial
  | .node k ch, h, r => by
    rcases h with h | ⟨j, h⟩
    · rw [h]; exact r
    · exact sub_rep h (r.2 j)
theorem sub_asc {s : IT} : ∀ {t : IT}, Sub s t → IT.Asc t → IT.Asc s
  | .nil, h, _ => by rw [h]; trivial
  | .node k ch, h, r => by
    rcases h with h | ⟨j, h⟩
    · rw [h]; exact r
    · exact sub_asc h (r.2.2 j)
theorem sub_mem {s : IT} {x : Nat} : ∀ {t : IT}, Sub s t → IT.Mem x s → IT.Mem x t
  | .nil, h, m => by rw [h] at m; exact m
  | .node k ch, h, m => by
    rcases h with h | ⟨j, h⟩
    · rw [h] at m; exact m
    · exact .inr ⟨j, sub_mem h m⟩
theorem sub_child {k : Nat} {ch : Fin 4 → IT} {p : Fin 4} : ∀ {t : IT}, Sub (.node k ch) t → Sub (ch p) t
  | .nil, h => by cases h
  | .node k' ch', h => by
    rcases h with h | ⟨j, h⟩
    · cases h
      exact .inr ⟨p, sub_refl _⟩
    · exact .inr ⟨j, sub_child h⟩
def pI (qs : Pts) (k : Nat) : Int × Int := (qs.map (·.2)).getD k (0, 0)
def treeQ (qs : List (Int × Int)) : QT := QT.growQ sideF qs.length qs
theorem ofI_itg (qs : Pts) : QT.ofI (pI qs) (ITg qs qs.length) = treeQ (qs.map (·.2)) := by
  have h := QT.ofI_grow (f := sideF) (p := pI qs) qs.length (List.range qs.length)
  have e : (List.range qs.length).map (pI qs) = qs.map (·.2) := by
    apply List.ext_getElem
    · simp
    · intro i h1 h2
      simp only [List.getElem_map, List.getElem_range]
      unfold pI
      rw [List.getD_eq_getElem?_getD, List.getElem?_eq_getElem h2, Option.getD_some, List.getElem_map]
  rw [e] at h
  unfold treeQ
  rw [List.length_map]
  exact h
/-- the list of the trees from a number on -/
structure TreesAt (K : PySem.W.Frag) (H0 H : Hp) (L : Addr) (TR : List V) (qs : Pts) (T : IT) (j : Nat) : Prop where
  lst : H L = some (.lst TR)
  len : TR.length = qs.length + 1
  fr : H0 L = none
  got : ∀ t : IT, Sub t T → (t.isNil = false → j ≤ t.rt qs.length) → ∃ v, TR[t.rt qs.length]? = some v ∧ Dp K H v (qD (QT.ofI (pI qs) t))
theorem sub_bound {qs : Pts} {t T : IT} (s : Sub t T) (h : ∀ k, IT.Mem k T → k < qs.length) : t.rt qs.length ≤ qs.length := by
  cases t with
  | nil => exact Nat.le_refl _
  | node k ch => exact Nat.le_of_lt (h k (sub_mem s (.inl rfl)))
/-- what were tuples are tuples still -/
def SameT (H H' : Hp) : Prop := ∀ a xs, Rd H a (.tup xs) → Rd H' a (.tup xs)
theorem SameT.of {H H' : Hp} (e : Same H H') : SameT H H' := fun _ _ h => Rd.same e h
theorem SameT.trans {H H' H2 : Hp} (a : SameT H H') (b : SameT H' H2) : SameT H H2 := fun x xs h => b x xs (a x xs h)
theorem SameT.put {H : Hp} {L : Addr} {xs : List V} {o : HO} (h : H L = some (.lst xs)) : SameT H (upd H L o) := fun a ys r => by
  rcases r with r | ⟨ob, r⟩
  · exact .inl (by rw [upd_ne (ne_of r h (by intro z; cases z))]; exact r)
  · exact .inr ⟨ob, by rw [upd_ne (ne_of r h (by intro z; cases z))]; exact r⟩
theorem SqT.sameT {K : PySem.W.Frag} {H H' : Hp} {a : Addr} {xs : List V} (e : SameT H H') (h : SqT K H a xs) : SqT K H' a xs := h.imp (e a xs) id
theorem dpQ_sameT {K : PySem.W.Frag} {H H' : Hp} (e : SameT H H') : ∀ {t : QT} {v : V}, Dp K H v (qD t) → Dp K H' v (qD t)
  | .nil, v, h => by
    rw [dp_nil h]
    unfold qD
    exact .non
  | .node p ch, v, h => by
    obtain ⟨a, b, c, v0, v1, v2, v3, rfl, hs, hb, hc, h0, h1, h2, h3⟩ := dp_node h
    exact dp_mk (SqT.sameT e hs) (SqT.sameT e hb) (SqT.sameT e hc) (dpQ_sameT e h0) (dpQ_sameT e h1) (dpQ_sameT e h2) (dpQ_sameT e h3)
theorem RowsAt.other {H0 H : Hp} {R L : Addr} {rs : List Addr} {M : List (List Nat)} {o : HO} (h : RowsAt H0 H R rs M) (h1 : L ≠ R) (h2 : L ∉ rs) : RowsAt H0 (upd H L o) R rs M :=
  ⟨by rw [upd_ne h1.symm]; exact h.lst, h.len, fun i r row hr hm => by rw [upd_ne (fun z => h2 (by rw [← z]; exact List.mem_of_getElem? hr))]; exact h.row i r row hr hm, h.nd, h.ne, h.fr, h.frs⟩
theorem four_of {α : Type} {row : List α} (h : row.length = 4) : ∃ a b c d, row = [a, b, c, d] := by
  match row, h with
  | [a, b, c, d], _ => exact ⟨a, b, c, d, rfl⟩
section
variable {P : Program} {w : World} {K : PySem.W.Frag} {mg : Str → Option Value} {base : Heap}
/-! ### quarter_of_rows, grown -/
theorem scQoR : FnScope ["points", "rows", "many", "trees", "number", "part0", "part1", "part2", "part3"] ["points", "rows", "many"] (defScope s_quarter_of_rows) := ⟨rfl, rfl, rfl, by decide +kernel, rfl, by decide +kernel, by decide +kernel⟩
def spQoR (K : PySem.W.Frag) : Sp := fun vs H1 Q _ => ∃ (H : Hp) (a R : Addr) (qs : Pts) (rs : List Addr) (M : List (List Nat)), vs = [.ref a, .ref R, iV qs.length] ∧ Same H H1 ∧ SeqP H a qs ∧ AllP H qs ∧ qs.length < 32 ∧ RowsAt H H1 R rs M ∧ M.length = qs.length ∧ Rows4 M qs.length ∧ IT.Rep M qs.length (ITg qs qs.length) ∧
  ∀ H' v, Same H H' → Dp K H' v (qD (treeQ (qs.map (·.2)))) → Q v H'
theorem ok_qor {f : Addr} {fd : FuncData} (F : FnP K "quarter_of_rows" s_quarter_of_rows f fd) (B : Bt mg) (Rv : mg "reversed" = none) : FnOk P w K mg base CX0 1 f fd ["points", "rows", "many"] (spQoR K) := by
  refine F.ok scQoR (fun vs H1 Q E h => ?_) (fun cdv A outer s H1 vs Q E hr h => ?_)
  · obtain ⟨_, _, _, _, _, _, rfl, _⟩ := h
    rfl
  · obtain ⟨H, a, R, qs, rs, M, rfl, e1, hs, hp, few, hR, hM, h4, hrep, q⟩ := h
    refine ⟨_, pss_cons (ps_set (i := 3) scQoR.nd rfl (.inl rfl) (pe_op op_rep (pe_lst (pa_cons pe_non pa_nil)) (pe_op op_add (pe_callB call_len_seq (by rfl) B.len PySem.boot_len (pa_cons (pv 0) pa_nil)) pe_int)))
      (pss_cons (ps_for PassesOwn.never rfl (pi_revR (by rfl) Rv (prg_1 (by rfl) B.range (pv 2))) (pg_name (i := 4) scQoR.nd rfl (.inl rfl))
        (pss_cons (ps_asg (pe_ix ix_list (pv 1) (pv 4) (fun _ _ => rfl)) (pg_unl rfl (pgs_cons (pg_name (i := 5) scQoR.nd rfl (.inl rfl)) (pgs_cons (pg_name (i := 6) scQoR.nd rfl (.inl rfl)) (pgs_cons (pg_name (i := 7) scQoR.nd rfl (.inl rfl)) (pgs_cons (pg_name (i := 8) scQoR.nd rfl (.inl rfl)) pgs_nil))))))
        (pss_one (ps_asg (pe_tup (pa_cons (pe_ix ix_seq2 (pv 0) (pv 4) (fun _ _ => rfl)) (pa_cons (pe_tup (pa_cons (pe_ix ix_list (pv 3) (pv 5) (fun _ _ => rfl)) (pa_cons (pe_ix ix_list (pv 3) (pv 6) (fun _ _ => rfl)) (pa_cons (pe_ix ix_list (pv 3) (pv 7) (fun _ _ => rfl)) (pa_cons (pe_ix ix_list (pv 3) (pv 8) (fun _ _ => rfl)) pa_nil))))) pa_nil))) (pg_sub (pv 3) (pv 4) set_list)))))
      (pss_one (ps_ret (pe_ix ix_list (pv 3) pe_int (fun _ _ => rfl))))), ?_⟩
    have hlen : (refsOf qs).length = qs.length := List.length_map ..
    have e1s : SeqP H1 a qs := hs.same e1
    refine ⟨(by decide), fun l1 nl1 => ?_⟩
    have s2 : Same H1 (upd H1 l1 (.lst [.non])) := same_new nl1
    refine ⟨_, rfl, a, _, rfl, (e1s.same s2).sq, _, _, rfl, rfl, l1, _, _, rfl, rfl, upd_same, (by rw [hlen]; omega), (by rw [hlen]; omega), (by rw [hlen]; exact small1000 (by simp; omega)), fun L nL => ?_⟩
    have eL : (List.replicate (((refsOf qs).length : Int) + 1).toNat [V.non]).flatten = List.replicate (qs.length + 1) V.non := by
      rw [hlen, show ((qs.length : Nat) : Int) + 1 = ((qs.length + 1 : Nat) : Int) from rfl, Int.toNat_natCast, List.flatten_replicate_singleton]
    rw [eL]
    have s3 : Same (upd H1 l1 (.lst [.non])) (upd (upd H1 l1 (.lst [.non])) L (.lst (List.replicate (qs.length + 1) V.non))) := same_new nL
    have s23 := s2.trans s3
    have e3 := e1.trans s23
    have hR3 := hR.same s23
    have hL3 : (upd (upd H1 l1 (.lst [.non])) L (.lst (List.replicate (qs.length + 1) V.non))) L = some (.lst (List.replicate (qs.length + 1) V.non)) := upd_same
    have LR : L ≠ R := (ne_of_none (s2 _ _ hR.lst) nL).symm
    have Lrs : L ∉ rs := fun z => by
      obtain ⟨i, hi⟩ := List.getElem?_of_mem z
      obtain ⟨hi2, _⟩ := List.getElem?_eq_some_iff.mp hi
      have := s2 _ _ (hR.row i L _ hi (List.getElem?_eq_getElem (by rw [← hR.len]; exact hi2)))
      rw [nL] at this
      cases this
    have L0 : H L = none := same_free e1 (same_free s2 nL)
    generalize upd (upd H1 l1 (.lst [.non])) L (.lst (List.replicate (qs.length + 1) V.non)) = H3 at s23 e3 hR3 hL3 ⊢
    have hasc := itg_asc qs qs.length
    have hmem : ∀ k, IT.Mem k (ITg qs qs.length) → k < qs.length := fun k h => itg_mem h
    refine ⟨_, rfl, _, rfl, (by omega), (by omega), (by omega), (by omega), ?_⟩
    have en : (((qs.length : Nat) : Int) - 0).toNat = qs.length := by omega
    rw [en]
    refine for_it walk_rangeC (fun i σ H4 => ∃ (y3 y4 y5 y6 y7 : Option V) (TR : List V), σ = [some (.ref a), some (.ref R), some (iV qs.length), some (.ref L), y3, y4, y5, y6, y7] ∧ Same H H4 ∧ RowsAt H H4 R rs M ∧ TreesAt K H H4 L TR qs (ITg qs qs.length) (qs.length - i)) ?_ (fun _ _ _ _ _ => trivial) ?_ ?_
    · refine ⟨none, none, none, none, none, _, rfl, e3, hR3, hL3, by rw [List.length_replicate], L0, fun t st ht => ?_⟩
      have : t.isNil = true := by
        cases t with
        | nil => rfl
        | node k ch =>
          have h1 := ht rfl
          have h2 := hmem k (sub_mem st (.inl rfl))
          have h3 : qs.length - 0 ≤ k := h1
          omega
      rw [IT.isNil_eq this]
      exact ⟨.non, by rw [List.getElem?_replicate]; exact if_pos (by show qs.length < qs.length + 1; omega), by unfold QT.ofI qD; exact .non⟩
    · rintro i v σ H5 H4 hi ⟨y3, y4, y5, y6, y7, TR, rfl, e4, hR4, tr⟩ ⟨rfl, hv⟩
      obtain ⟨j, hj⟩ : ∃ j, qs.length = i + 1 + j := ⟨qs.length - (i + 1), by omega⟩
      have ev : v = iV j := by
        rw [hv]
        have z : (0 + (qs.length : Int) - 1 + (i : Int) * (-1) : Int) = (j : Int) := by omega
        exact congrArg V.int z
      subst ev
      have jl : j < qs.length := by omega
      obtain ⟨r, row, hr1, hr2, hr3⟩ := hR4.get (i := j) (by rw [hM]; exact jl)
      obtain ⟨l4, b4⟩ := h4 row (List.mem_of_getElem? hr2)
      obtain ⟨k0, k1, k2, k3, rfl⟩ := four_of l4
      have er : (rs.map V.ref)[j]? = some (V.ref r) := by rw [List.getElem?_map, hr1]; rfl
      have lt : ∀ {k}, k ∈ [k0, k1, k2, k3] → k < TR.length := fun h => by have := b4 _ h; rw [tr.len]; omega
      have g0 : TR[k0]? = some (TR[k0]'(lt (by simp))) := List.getElem?_eq_getElem _
      have g1 : TR[k1]? = some (TR[k1]'(lt (by simp))) := List.getElem?_eq_getElem _
      have g2 : TR[k2]? = some (TR[k2]'(lt (by simp))) := List.getElem?_eq_getElem _
      have g3 : TR[k3]? = some (TR[k3]'(lt (by simp))) := List.getElem?_eq_getElem _
      generalize TR[k0]'(lt (by simp)) = v0 at g0
      generalize TR[k1]'(lt (by simp)) = v1 at g1
      generalize TR[k2]'(lt (by simp)) = v2 at g2
      generalize TR[k3]'(lt (by simp)) = v3 at g3
      have hqj : qs[j]? = some qs[j] := List.getElem?_eq_getElem jl
      have hqin : qs[j] ∈ qs := List.getElem_mem jl
      generalize qs[j] = qj at hqj hqin
      refine ⟨_, rfl, _, rfl, R, _, _, _, rfl, rfl, SqL.of hR4.lst, atI_nat (j := j) er, r, _, rfl, SqL.of hr3, rfl, _, _, rfl, _, _, rfl, _, _, rfl, _, _, rfl, rfl, ?_⟩
      refine ⟨_, rfl, _, rfl, ix_pts (hs.same e4) hqj ?_⟩
      refine ⟨_, rfl, _, rfl, L, _, _, v0, rfl, rfl, SqL.of tr.lst, atI_nat g0, _, rfl, _, rfl, L, _, _, v1, rfl, rfl, SqL.of tr.lst, atI_nat g1, _, rfl, _, rfl, L, _, _, v2, rfl, rfl, SqL.of tr.lst, atI_nat g2, _, rfl, _, rfl, L, _, _, v3, rfl, rfl, SqL.of tr.lst, atI_nat g3, (by show 4 ≤ sizeLine; decide), fun c nc => ?_⟩
      refine ⟨(by show 2 ≤ sizeLine; decide), fun d ndd => ?_⟩
      have s5 : Same H4 (upd H4 c (.tup [v0, v1, v2, v3])) := same_new nc
      have s6 : Same (upd H4 c (.tup [v0, v1, v2, v3])) (upd (upd H4 c (.tup [v0, v1, v2, v3])) d (.tup [.ref qj.1, .ref c])) := same_new ndd
      have s56 := s5.trans s6
      have hL6 := s56 _ _ tr.lst
      have hc6 : (upd (upd H4 c (.tup [v0, v1, v2, v3])) d (.tup [.ref qj.1, .ref c])) c = some (.tup [v0, v1, v2, v3]) := s6 _ _ upd_same
      have hd6 : (upd (upd H4 c (.tup [v0, v1, v2, v3])) d (.tup [.ref qj.1, .ref c])) d = some (.tup [.ref qj.1, .ref c]) := upd_same
      have hR6 := hR4.same s56
      have e6 := e4.trans s56
      refine ⟨_, rfl, _, rfl, L, _, _, j, rfl, rfl, hL6, ixN_lt (by rw [tr.len]; omega), ?_⟩
      clear s5 s6 nc ndd
      generalize upd (upd H4 c (.tup [v0, v1, v2, v3])) d (.tup [.ref qj.1, .ref c]) = H6 at s56 hL6 hc6 hd6 hR6 e6 ⊢
      have st7 : SameT H4 (upd H6 L (.lst (TR.set j (.ref d)))) := (SameT.of s56).trans (SameT.put hL6)
      have e7 : Same H (upd H6 L (.lst (TR.set j (.ref d)))) := fun b o hb => by
        rw [upd_ne (ne_of_none hb L0)]
        exact e6 b o hb
      have hc7 : SqT K (upd H6 L (.lst (TR.set j (.ref d)))) c [v0, v1, v2, v3] := SqT.of (by rw [upd_ne (ne_of hc6 hL6 (by intro z; cases z))]; exact hc6)
      have hd7 : SqT K (upd H6 L (.lst (TR.set j (.ref d)))) d [.ref qj.1, .ref c] := SqT.of (by rw [upd_ne (ne_of hd6 hL6 (by intro z; cases z))]; exact hd6)
      have hq7 : PtR K (upd H6 L (.lst (TR.set j (.ref d)))) qj.1 qj.2 := SqT.of ((hp qj hqin).same e7).1
      refine ⟨_, _, _, _, _, TR.set j (.ref d), rfl, e7, hR6.other LR Lrs, upd_same, by rw [List.length_set]; exact tr.len, L0, fun t st nn => ?_⟩
      have old : t.rt qs.length ≠ j → (t.isNil = false → qs.length - i ≤ t.rt qs.length) → ∃ v, (TR.set j (.ref d))[t.rt qs.length]? = some v ∧ Dp K (upd H6 L (.lst (TR.set j (.ref d)))) v (qD (QT.ofI (pI qs) t)) := fun ne hh => by
        obtain ⟨v, h1, h2⟩ := tr.got t st hh
        exact ⟨v, by rw [List.getElem?_set_ne (fun z => ne z.symm)]; exact h1, dpQ_sameT st7 h2⟩
      cases t with
      | nil => exact old (by show qs.length ≠ j; omega) (fun z => nomatch z)
      | node k ch =>
        have hk : qs.length - (i + 1) ≤ k := nn rfl
        by_cases e : k = j
        · subst e
          have hrep' := (sub_rep st hrep).1
          rw [hr2] at hrep'
          have hrow := Option.some.inj hrep'
          have as := (sub_asc st hasc).1
          have child : ∀ p : Fin 4, ∃ v, TR[(ch p).rt qs.length]? = some v ∧ Dp K (upd H6 L (.lst (TR.set k (.ref d)))) v (qD (QT.ofI (pI qs) (ch p))) := fun p => by
            obtain ⟨v, h1, h2⟩ := tr.got (ch p) (sub_child st) fun z => by
              have := as p _ (IT.rt_mem (m := qs.length) z)
              omega
            exact ⟨v, h1, dpQ_sameT st7 h2⟩
          injection hrow with q0 hrow
          injection hrow with q1 hrow
          injection hrow with q2 hrow
          injection hrow with q3 hrow
          have c0 := child 0
          have c1 := child 1
          have c2 := child 2
          have c3 := child 3
          rw [← q0, g0] at c0
          rw [← q1, g1] at c1
          rw [← q2, g2] at c2
          rw [← q3, g3] at c3
          obtain ⟨_, z0, d0⟩ := c0
          obtain ⟨_, z1, d1⟩ := c1
          obtain ⟨_, z2, d2⟩ := c2
          obtain ⟨_, z3, d3⟩ := c3
          cases z0
          cases z1
          cases z2
          cases z3
          refine ⟨.ref d, List.getElem?_set_self (by rw [tr.len]; omega), ?_⟩
          have ep : pI qs k = qj.2 := by
            unfold pI
            rw [List.getD_eq_getElem?_getD, List.getElem?_map, hqj]
            rfl
          show Dp K _ _ (qD (.node (pI qs k) fun j => QT.ofI (pI qs) (ch j)))
          rw [ep]
          exact dp_mk hd7 hq7 hc7 d0 d1 d2 d3
        · exact old e (fun _ => by show qs.length - i ≤ k; omega)
    · rintro σ H4 ⟨y3, y4, y5, y6, y7, TR, rfl, e4, hR4, tr⟩
      have root : (ITg qs qs.length).rt qs.length = 0 := by
        rcases Nat.eq_zero_or_pos qs.length with z | z
        · rw [z]
          rfl
        · exact (itg_rt qs _ _ z).2
      obtain ⟨v, h1, h2⟩ := tr.got _ (sub_refl _) fun _ => by omega
      rw [root] at h1
      rw [ofI_itg] at h2
      exact ⟨_, rfl, L, _, 0, v, rfl, rfl, SqL.of tr.lst, atI_nat (j := 0) h1, q H4 v e4 h2⟩
theorem scGrown : FnScope ["points", "rows"] ["points"] (defScope s_grown) := ⟨rfl, rfl, rfl, by decide +kernel, rfl, by decide +kernel, by decide +kernel⟩
def spGrown (K : PySem.W.Frag) : Sp := fun vs H Q _ => ∃ (a : Addr) (qs : Pts), vs = [.ref a] ∧ SeqP H a qs ∧ AllP H qs ∧ (qs.map (·.2)).Nodup ∧ qs.length < 32 ∧
  ∀ H' v, Same H H' → Dp K H' v (qD (treeQ (qs.map (·.2)))) → Q v H'
theorem ok_grown {f fR fQ : Addr} {fd fdR fdQ : FuncData} {tm : Tok} (F : FnP K "grown" s_grown f fd) (B : Bt mg) (GR : FnOk P w K mg base CX0 3 fR fdR ["points"] spRows) (kR : PySem.W.keepIn K (.ref fR) = true) (bR : Binds K fdR ["points"] []) (gR : mg "rows_by_steps" = some (.ref fR))
    (GQ : FnOk P w K mg base CX0 1 fQ fdQ ["points", "rows", "many"] (spQoR K)) (kQ : PySem.W.keepIn K (.ref fQ) = true) (bQ : Binds K fdQ ["points", "rows", "many"] []) (gQ : mg "quarter_of_rows" = some (.ref fQ))
    (gM : mg "MANY_POINTS" = some (.int 32 tm)) : FnOk P w K mg base CX0 4 f fd ["points"] (spGrown K) := by
  refine F.ok scGrown (fun vs H Q E h => ?_) (fun cdv A outer s H vs Q E hr h => ?_)
  · obtain ⟨_, _, rfl, _⟩ := h
    rfl
  · obtain ⟨a, qs, rfl, hs, hp, nd, few, q⟩ := h
    refine ⟨_, pss_cons (ps_set (i := 1) scGrown.nd rfl (.inl rfl) (pe_ifExp (pt_cmpR op_lt (pe_callB call_len_seq (by rfl) B.len PySem.boot_len (pa_cons (pv 0) pa_nil)) (pe_glob (v := .int 32) (by rfl) gM ⟨_, rfl⟩) (nomark _)) (pe_call GR hr (by rfl) gR kR bR .nil pass0 (pa_cons (pv 0) pa_nil)) pe_never))
      (pss_one (ps_ret (pe_call GQ (hr.mono (by decide)) (by rfl) gQ kQ bQ .nil pass0 (pa_cons (pv 0) (pa_cons (pv 1) (pa_cons (pe_callB call_len_seq (by rfl) B.len PySem.boot_len (pa_cons (pv 0) pa_nil)) pa_nil)))))), ?_⟩
    have hlen : (refsOf qs).length = qs.length := List.length_map ..
    refine ⟨_, rfl, a, _, rfl, hs.sq, _, _, rfl, rfl, _, rfl, ?_⟩
    rw [hlen, decide_eq_true (show ((qs.length : Nat) : Int) < 32 by omega)]
    refine iteT ⟨_, rfl, a, qs, rfl, hs, hp, nd, by omega, fun H1 R rs M e1 hR hM h4 hrep => ?_⟩
    refine ⟨_, rfl, _, rfl, _, rfl, a, _, rfl, (hs.same e1).sq, H, a, R, qs, rs, M, (by rw [hlen]; rfl), e1, hs, hp, few, hR, hM, h4, hrep, q⟩
end
end Q2

namespace Q2
open PySem PySem.Spec PyProof.Rows L2
/-! ### keys of a tree -/
def ltK (a b : Int × Int) : Bool := decide (a.1 < b.1 ∨ (a.1 = b.1 ∧ a.2 < b.2))
def yk (p : Int × Int) : Int × Int := (p.2, p.1)
def isHi (j : Fin 4) : Bool := decide (j.val % 2 = 1)
def isUp (j : Fin 4) : Bool := decide (2 ≤ j.val)
theorem ltK_gt (p q : Int × Int) : gtP q.1 q.2 p.1 p.2 = ltK p q := by
  unfold gtP ltK
  exact decide_eq_decide.mpr (by omega)
theorem isHi_side (p q : Int × Int) : isHi (sideF p q) = ltK p q := by
  show decide (((if gtP q.1 q.2 p.1 p.2 = true then 1 else 0) + (if gtP q.2 q.1 p.2 p.1 = true then 2 else 0) : Nat) % 2 = 1) = ltK p q
  rw [ltK_gt]
  cases ltK p q <;> cases gtP q.2 q.1 p.2 p.1 <;> rfl
theorem isUp_side (p q : Int × Int) : isUp (sideF p q) = ltK (yk p) (yk q) := by
  show decide (2 ≤ ((if gtP q.1 q.2 p.1 p.2 = true then 1 else 0) + (if gtP q.2 q.1 p.2 p.1 = true then 2 else 0) : Nat)) = ltK (yk p) (yk q)
  rw [show gtP q.2 q.1 p.2 p.1 = ltK (yk p) (yk q) from ltK_gt (yk p) (yk q)]
  cases gtP q.1 q.2 p.1 p.2 <;> cases ltK (yk p) (yk q) <;> rfl
theorem ltK_flip {p q : Int × Int} (h : q ≠ p) (h2 : ltK p q = false) : ltK q p = true := by
  unfold ltK at *
  have := of_decide_eq_false h2
  apply decide_eq_true
  have h3 : q.1 ≠ p.1 ∨ q.2 ≠ p.2 := by
    by_cases e : q.1 = p.1
    · exact .inr fun e2 => h (Prod.ext e e2)
    · exact .inl e
  omega
theorem yk_ne {p q : Int × Int} (h : q ≠ p) : yk q ≠ yk p := fun e => h (by
  have h1 : q.2 = p.2 := congrArg Prod.fst e
  have h2 : q.1 = p.1 := congrArg Prod.snd e
  exact Prod.ext h2 h1)
structure Ks where
  x : Int × Int
  y : Int × Int
  x2 : Int × Int
  y2 : Int × Int
def Ks.has (k : Ks) (p : Int × Int) : Prop := ltK k.x p = true ∧ ltK p k.x2 = true ∧ ltK k.y (yk p) = true ∧ ltK (yk p) k.y2 = true
def Ks.nar (k : Ks) (p : Int × Int) (j : Fin 4) : Ks := ⟨if isHi j = true then p else k.x, if isUp j = true then yk p else k.y, if isHi j = true then k.x2 else p, if isUp j = true then k.y2 else yk p⟩
def InK : QT → Ks → Prop
  | .nil, _ => True
  | .node p ch, k => k.has p ∧ ∀ j, InK (ch j) (k.nar p j)
theorem has_nar {k : Ks} {p q : Int × Int} (hq : k.has q) (ne : q ≠ p) : (k.nar p (sideF p q)).has q := by
  obtain ⟨h1, h2, h3, h4⟩ := hq
  unfold Ks.nar Ks.has
  rw [isHi_side, isUp_side]
  dsimp only
  cases e : ltK p q with
  | true =>
    cases e2 : ltK (yk p) (yk q) with
    | true => exact ⟨e, h2, e2, h4⟩
    | false => exact ⟨e, h2, h3, ltK_flip (yk_ne ne) e2⟩
  | false =>
    cases e2 : ltK (yk p) (yk q) with
    | true => exact ⟨h1, ltK_flip ne e, e2, h4⟩
    | false => exact ⟨h1, ltK_flip ne e, h3, ltK_flip (yk_ne ne) e2⟩
theorem inK_grow : ∀ (n : Nat) (l : List (Int × Int)) (k : Ks), l.Nodup → (∀ q ∈ l, k.has q) → InK (QT.growQ sideF n l) k
  | 0, _, _, _, _ => trivial
  | _ + 1, [], _, _, _ => trivial
  | n + 1, p :: r, k, nd, h => by
    have nd2 := List.nodup_cons.mp nd
    refine ⟨h p (List.mem_cons_self ..), fun j => inK_grow n _ _ (nd2.2.filter _) fun q hq => ?_⟩
    obtain ⟨hm, hs⟩ := List.mem_filter.mp hq
    have e : sideF p q = j := of_decide_eq_true hs
    rw [← e]
    exact has_nar (h q (List.mem_cons_of_mem _ hm)) fun z => nd2.1 (by rw [← z]; exact hm)
def BdQ : QT → Prop
  | .nil => True
  | .node p ch => PtB p ∧ ∀ j, BdQ (ch j)
theorem bd_grow {f : Int × Int → Int × Int → Fin 4} : ∀ (n : Nat) (l : List (Int × Int)), (∀ q ∈ l, PtB q) → BdQ (QT.growQ f n l)
  | 0, _, _ => trivial
  | _ + 1, [], _ => trivial
  | n + 1, p :: r, h => ⟨h p (List.mem_cons_self ..), fun j => bd_grow n _ fun q hq => h q (List.mem_cons_of_mem _ (List.mem_filter.mp hq).1)⟩
theorem four_filter {α : Type} (g : α → Fin 4) : ∀ r : List α, (r.filter fun m => decide (g m = 0)).length + (r.filter fun m => decide (g m = 1)).length + (r.filter fun m => decide (g m = 2)).length + (r.filter fun m => decide (g m = 3)).length = r.length
  | [] => rfl
  | a :: r => by
    have ih := four_filter g r
    simp only [List.filter_cons, List.length_cons]
    have h : g a = 0 ∨ g a = 1 ∨ g a = 2 ∨ g a = 3 := by
      generalize g a = p
      match p with
      | 0 => exact .inl rfl
      | 1 => exact .inr (.inl rfl)
      | 2 => exact .inr (.inr (.inl rfl))
      | 3 => exact .inr (.inr (.inr rfl))
    rcases h with h | h | h | h
    all_goals
      rw [h]
      simp
      omega
theorem size_grow {f : Int × Int → Int × Int → Fin 4} : ∀ (n : Nat) (l : List (Int × Int)), (QT.growQ f n l).size ≤ l.length
  | 0, _ => Nat.zero_le _
  | _ + 1, [] => Nat.le_refl _
  | n + 1, p :: r => by
    have h := four_filter (f p) r
    have h0 := size_grow (f := f) n (r.filter fun m => decide (f p m = 0))
    have h1 := size_grow (f := f) n (r.filter fun m => decide (f p m = 1))
    have h2 := size_grow (f := f) n (r.filter fun m => decide (f p m = 2))
    have h3 := size_grow (f := f) n (r.filter fun m => decide (f p m = 3))
    simp only [QT.growQ, QT.size, List.length_cons]
    omega
/-! ### tuples of two, compared -/
def rLtK (K : PySem.W.Frag) : R2 := fun x y H Q => ∃ (a b : Addr) (p q : Int × Int), x = .ref a ∧ y = .ref b ∧ PtR K H a p ∧ PtR K H b q ∧ Q (.bl (ltK p q)) H
section
variable {X : Cx}
theorem raw_ptR {pins : List (Addr × Obj)} {σ : L2.St} {H : Hp} {s : Shared} {a : Addr} {p : Int × Int} (I : Inv X pins σ H s) (h : PtR X.K H a p) : ∃ tx ty, s.heap.IsTuple a #[.int p.1 tx, .int p.2 ty] := by
  obtain ⟨its, r1, p1, _⟩ := I.tuple h
  cases r1 with
  | cons rx rr =>
    cases rr with
    | cons ry rn =>
      cases rn
      obtain ⟨tx, rfl⟩ := rx
      obtain ⟨ty, rfl⟩ := ry
      exact ⟨tx, ty, p1⟩
theorem op_ltK (hu : X.A.units < cLine) : OpR X (compareOp .Lt) (rLtK X.K) := by
  intro pins s σ H vv uu v u Q I rx ry h
  obtain ⟨a, b, ⟨x, y⟩, ⟨x', y'⟩, rfl, rfl, ha, hb, q⟩ := h
  cases rx
  cases ry
  obtain ⟨tx, ty, p1⟩ := raw_ptR I ha
  obtain ⟨tx', ty', p2⟩ := raw_ptR I hb
  have R := Ob.RcOp.tuples_lt (A := X.A) (s := s) (e := fun j => match j with | 0 => x == x' | _ => y == y') (r := fun j => match j with | 0 => decide (x < x') | _ => decide (y < y')) p1 p2 hu (fun j h1 h2 => by
    match j, h1 with
    | 0, _ => exact SeqAt.EqAt.int_int _ _ _ _
    | 1, _ => exact SeqAt.EqAt.int_int _ _ _ _) (fun j h1 h2 _ => by
    match j, h1 with
    | 0, _ => exact Ob.RcOp.lt_int _ _ _ _
    | 1, _ => exact Ob.RcOp.lt_int _ _ _ _)
  have e : Ob.lexAt (fun j => match j with | 0 => x == x' | _ => y == y') (fun j => match j with | 0 => decide (x < x') | _ => decide (y < y')) (decide ((#[Value.int x tx, Value.int y ty] : Array Value).size < (#[Value.int x' tx', Value.int y' ty'] : Array Value).size)) 0 (min (#[Value.int x tx, Value.int y ty] : Array Value).size (#[Value.int x' tx', Value.int y' ty'] : Array Value).size) = ltK (x, y) (x', y') := by
    show (if (x == x') = true then (if (y == y') = true then decide (2 < 2) else decide (y < y')) else decide (x < x')) = ltK (x, y) (x', y')
    unfold ltK
    by_cases h1 : x = x'
    · subst h1
      by_cases h2 : y = y'
      · subst h2
        simp
      · simp [h2]
    · simp [h1]
  rw [e] at R
  exact R X.prog X.w X.xe (EP X pins σ Q) ⟨.bl _, H, I, rfl, q⟩
end
section
variable {P : Program} {w : World} {K : PySem.W.Frag} {mg : Str → Option Value} {base : Heap}
/-! ### is_node -/
theorem scIsNode : FnScope ["value"] ["value"] (defScope s_is_node) := ⟨rfl, rfl, rfl, by decide +kernel, rfl, by decide +kernel, by decide +kernel⟩
def spIsNode (K : PySem.W.Frag) : Sp := fun vs H Q _ => ∃ (v : V) (p : Int × Int) (ch : Fin 4 → QT), vs = [v] ∧ Dp K H v (qD (.node p ch)) ∧ PtB p ∧ Q (.bl true) H
theorem ok_isNode {f fI : Addr} {fd fdI : FuncData} (F : FnP K "is_node" s_is_node f fd) (B : Bt mg) (GI : FnOk P w K mg base CX0 3 fI fdI ["value"] (spIsPtR K)) (kI : PySem.W.keepIn K (.ref fI) = true) (bI : Binds K fdI ["value"] []) (gI : mg "is_point" = some (.ref fI)) : FnOk P w K mg base CX0 4 f fd ["value"] (spIsNode K) := by
  refine F.ok scIsNode (fun vs H Q E h => ?_) (fun cdv A outer s H vs Q E hr h => ?_)
  · obtain ⟨a, _, _, rfl, _⟩ := h
    rfl
  · obtain ⟨v, p, ch, rfl, hd, hb, q⟩ := h
    obtain ⟨a, b, c, v0, v1, v2, v3, rfl, hs, hp, hc, _, _, _, _⟩ := dp_node hd
    refine ⟨_, pss_cons (ps_if (PW.pt (pw_or (pt_not (pt_val (pe_callB call_isi (by rfl) B.isi (by decide +kernel) (pa_cons (pv 0) (pa_cons (pe_bltn (v := .ty "tuple") (by rfl) B.tuple (by decide +kernel) rfl) pa_nil))))) (pw_or1 (pt_cmpR op_ne (pe_callB call_len_seq (by rfl) B.len PySem.boot_len (pa_cons (pv 0) pa_nil)) pe_int (nomark _))))) (pss_one (ps_ret pe_bl)) pss_nil)
      (pss_one (ps_ret (pe_and (pe_call GI hr (by rfl) gI kI bI .nil pass0 (pa_cons (pe_ix ix_tup (pv 0) pe_int (fun _ _ => rfl)) pa_nil)) (pe_and (pe_callB call_isi (by rfl) B.isi (by decide +kernel) (pa_cons (pe_ix ix_tup (pv 0) pe_int (fun _ _ => rfl)) (pa_cons (pe_bltn (v := .ty "tuple") (by rfl) B.tuple (by decide +kernel) rfl) pa_nil))) (pe_one (pe_cmpR op_eq (pe_callB call_len_seq (by rfl) B.len PySem.boot_len (pa_cons (pe_ix ix_tup (pv 0) pe_int (fun _ _ => rfl)) pa_nil)) pe_int (nomark _))))))), ?_⟩
    refine ⟨_, rfl, _, _, _, _, true, rfl, .ty "tuple", ty_tup hs, kit_ty (by decide +kernel), _, rfl, iteF ?_⟩
    refine ⟨_, rfl, a, _, rfl, .inr hs, rfl, _, rfl, iteF ?_⟩
    refine ⟨_, rfl, a, _, 0, .ref b, rfl, rfl, hs, atI_nat (j := 0) rfl, b, p, rfl, hp, hb, _, rfl, iteT ?_⟩
    refine ⟨_, rfl, a, _, 1, .ref c, rfl, rfl, hs, atI_nat (j := 1) rfl, _, _, _, _, true, rfl, .ty "tuple", ty_tup hc, kit_ty (by decide +kernel), _, rfl, iteT ?_⟩
    exact ⟨_, rfl, a, _, 1, .ref c, rfl, rfl, hs, atI_nat (j := 1) rfl, c, _, rfl, .inr hc, rfl, q⟩
/-! ### narrowed -/
theorem scNar : FnScope ["ends", "split", "part", "x", "y", "x2", "y2"] ["ends", "split", "part"] (defScope s_narrowed) := ⟨rfl, rfl, rfl, by decide +kernel, rfl, by decide +kernel, by decide +kernel⟩
def narV (j : Fin 4) (e0 e1 e2 e3 s0 s1 : V) : List V := [if isHi j = true then s0 else e0, if isUp j = true then s1 else e1, if isHi j = true then e2 else s0, if isUp j = true then e3 else s1]
def spNar (K : PySem.W.Frag) : Sp := fun vs H Q _ => ∃ (e s : Addr) (j : Fin 4) (e0 e1 e2 e3 s0 s1 : V), vs = [.ref e, .ref s, iV j.val] ∧ SqT K H e [e0, e1, e2, e3] ∧ SqT K H s [s0, s1] ∧
  ∀ H' p, Same H H' → H p = none → H' p = some (.tup (narV j e0 e1 e2 e3 s0 s1)) → Q (.ref p) H'
theorem ok_nar {f : Addr} {fd : FuncData} (F : FnP K "narrowed" s_narrowed f fd) : FnOk P w K mg base CX0 1 f fd ["ends", "split", "part"] (spNar K) := by
  refine F.ok scNar (fun vs H Q E h => ?_) (fun cdv A outer s H vs Q E hr h => ?_)
  · obtain ⟨_, _, _, _, _, _, _, _, _, rfl, _⟩ := h
    rfl
  · obtain ⟨e, sp, j, e0, e1, e2, e3, s0, s1, rfl, he, hs, q⟩ := h
    refine ⟨_, pss_cons (ps_asg (pv 0) (pg_tup rfl (pgs_cons (pg_name (i := 3) scNar.nd rfl (.inl rfl)) (pgs_cons (pg_name (i := 4) scNar.nd rfl (.inl rfl)) (pgs_cons (pg_name (i := 5) scNar.nd rfl (.inl rfl)) (pgs_cons (pg_name (i := 6) scNar.nd rfl (.inl rfl)) pgs_nil))))))
      (pss_cons (ps_if (pt_cmpR op_in_seq (pv 2) (pe_tup (pa_cons pe_int (pa_cons pe_int pa_nil))) (by rfl)) (pss_one (ps_set (i := 3) scNar.nd rfl (.inl rfl) (pe_ix ix_tup (pv 1) pe_int (fun _ _ => rfl)))) (pss_one (ps_set (i := 5) scNar.nd rfl (.inl rfl) (pe_ix ix_tup (pv 1) pe_int (fun _ _ => rfl)))))
      (pss_cons (ps_if (pt_cmpR op_in_seq (pv 2) (pe_tup (pa_cons pe_int (pa_cons pe_int pa_nil))) (by rfl)) (pss_one (ps_set (i := 4) scNar.nd rfl (.inl rfl) (pe_ix ix_tup (pv 1) pe_int (fun _ _ => rfl)))) (pss_one (ps_set (i := 6) scNar.nd rfl (.inl rfl) (pe_ix ix_tup (pv 1) pe_int (fun _ _ => rfl)))))
      (pss_one (ps_ret (pe_tup (pa_cons (pv 3) (pa_cons (pv 4) (pa_cons (pv 5) (pa_cons (pv 6) pa_nil))))))))), ?_⟩
    refine ⟨_, rfl, e, _, rfl, he, rfl, _, _, rfl, _, _, rfl, _, _, rfl, _, _, rfl, rfl, ?_⟩
    refine ⟨_, rfl, (by show 2 ≤ sizeLine; decide), fun t1 n1 => ?_⟩
    have s1' : Same H (upd H t1 (.tup [.int 1, .int 3])) := same_new n1
    refine ⟨t1, _, rfl, .inr (SqT.of upd_same), rfl, rfl, ?_⟩
    have hs1 := SqT.same s1' hs
    generalize upd H t1 (.tup [.int 1, .int 3]) = H1 at s1' hs1 ⊢
    have fin : ∀ t2, H1 t2 = none → Same H (upd H1 t2 (.tup [.int 2, .int 3])) ∧ SqT K (upd H1 t2 (.tup [.int 2, .int 3])) sp [s0, s1] := fun t2 n2 => ⟨s1'.trans (same_new n2), SqT.same (same_new n2) hs1⟩
    have last : ∀ t2 p, H1 t2 = none → (upd H1 t2 (.tup [.int 2, .int 3])) p = none → ∀ vs, vs = narV j e0 e1 e2 e3 s0 s1 → Q (.ref p) (upd (upd H1 t2 (.tup [.int 2, .int 3])) p (.tup vs)) := fun t2 p n2 np vs e => by
      subst e
      exact q _ p ((fin t2 n2).1.trans (same_new np)) (same_free (fin t2 n2).1 np) upd_same
    match j with
    | 0 =>
      refine ⟨_, rfl, iteF ?_⟩
      refine ⟨_, rfl, sp, _, 0, s0, rfl, rfl, hs1, atI_nat (j := 0) rfl, ?_⟩
      refine ⟨_, rfl, (by show 2 ≤ sizeLine; decide), fun t2 n2 => ⟨t2, _, rfl, .inr (SqT.of upd_same), rfl, rfl, _, rfl, iteF ?_⟩⟩
      refine ⟨_, rfl, sp, _, 1, s1, rfl, rfl, (fin t2 n2).2, atI_nat (j := 1) rfl, ?_⟩
      exact ⟨_, rfl, _, rfl, _, rfl, _, rfl, (by show 4 ≤ sizeLine; decide), fun p np => last t2 p n2 np _ rfl⟩
    | 1 =>
      refine ⟨_, rfl, iteT ?_⟩
      refine ⟨_, rfl, sp, _, 0, s0, rfl, rfl, hs1, atI_nat (j := 0) rfl, ?_⟩
      refine ⟨_, rfl, (by show 2 ≤ sizeLine; decide), fun t2 n2 => ⟨t2, _, rfl, .inr (SqT.of upd_same), rfl, rfl, _, rfl, iteF ?_⟩⟩
      refine ⟨_, rfl, sp, _, 1, s1, rfl, rfl, (fin t2 n2).2, atI_nat (j := 1) rfl, ?_⟩
      exact ⟨_, rfl, _, rfl, _, rfl, _, rfl, (by show 4 ≤ sizeLine; decide), fun p np => last t2 p n2 np _ rfl⟩
    | 2 =>
      refine ⟨_, rfl, iteF ?_⟩
      refine ⟨_, rfl, sp, _, 0, s0, rfl, rfl, hs1, atI_nat (j := 0) rfl, ?_⟩
      refine ⟨_, rfl, (by show 2 ≤ sizeLine; decide), fun t2 n2 => ⟨t2, _, rfl, .inr (SqT.of upd_same), rfl, rfl, _, rfl, iteT ?_⟩⟩
      refine ⟨_, rfl, sp, _, 1, s1, rfl, rfl, (fin t2 n2).2, atI_nat (j := 1) rfl, ?_⟩
      exact ⟨_, rfl, _, rfl, _, rfl, _, rfl, (by show 4 ≤ sizeLine; decide), fun p np => last t2 p n2 np _ rfl⟩
    | 3 =>
      refine ⟨_, rfl, iteT ?_⟩
      refine ⟨_, rfl, sp, _, 0, s0, rfl, rfl, hs1, atI_nat (j := 0) rfl, ?_⟩
      refine ⟨_, rfl, (by show 2 ≤ sizeLine; decide), fun t2 n2 => ⟨t2, _, rfl, .inr (SqT.of upd_same), rfl, rfl, _, rfl, iteT ?_⟩⟩
      refine ⟨_, rfl, sp, _, 1, s1, rfl, rfl, (fin t2 n2).2, atI_nat (j := 1) rfl, ?_⟩
      exact ⟨_, rfl, _, rfl, _, rfl, _, rfl, (by show 4 ≤ sizeLine; decide), fun p np => last t2 p n2 np _ rfl⟩
end
end Q2

namespace Q2
open PySem PySem.Spec PyProof.Rows L2
/-! ### fault_of -/
abbrev KsV (x y x2 y2 : Addr) : List V := [.ref x, .ref y, .ref x2, .ref y2]
/-- keys in the heap -/
def KsAt (K : PySem.W.Frag) (H : Hp) (x y x2 y2 : Addr) (k : Ks) : Prop := PtR K H x k.x ∧ PtR K H y k.y ∧ PtR K H x2 k.x2 ∧ PtR K H y2 k.y2
/-- what lies on the pile -/
def Ent (K : PySem.W.Frag) (D : Nat) (H : Hp) (e : Addr) (t : QT) : Prop :=
  ∃ (v : V) (pa ka x y x2 y2 : Addr) (ps : List V) (k : Ks), SqT K H e [v, .ref pa, .ref ka] ∧ Dp K H v (qD t) ∧ SqT K H pa ps ∧ ps.length + t.ht ≤ D ∧ SqT K H ka (KsV x y x2 y2) ∧ KsAt K H x y x2 y2 k ∧ InK t k ∧ BdQ t
theorem KsAt.sameT {K : PySem.W.Frag} {H H' : Hp} {x y x2 y2 : Addr} {k : Ks} (e : SameT H H') (h : KsAt K H x y x2 y2 k) : KsAt K H' x y x2 y2 k := ⟨SqT.sameT e h.1, SqT.sameT e h.2.1, SqT.sameT e h.2.2.1, SqT.sameT e h.2.2.2⟩
theorem Ent.sameT {K : PySem.W.Frag} {D : Nat} {H H' : Hp} {e : Addr} {t : QT} (s : SameT H H') (h : Ent K D H e t) : Ent K D H' e t := by
  obtain ⟨v, pa, ka, x, y, x2, y2, ps, k, h1, h2, h3, h4, h5, h6, h7, h8⟩ := h
  exact ⟨v, pa, ka, x, y, x2, y2, ps, k, SqT.sameT s h1, dpQ_sameT s h2, SqT.sameT s h3, h4, SqT.sameT s h5, h6.sameT s, h7, h8⟩
abbrev Pile := List (Addr × QT)
def qsum (es : Pile) : Nat := (es.map fun e => e.2.size).sum
def wsum (es : Pile) : Nat := (es.map fun e => 5 * e.2.size + 1).sum
abbrev refsE (es : Pile) : List V := es.map fun e => V.ref e.1
def nonnil : QT → Bool
  | .nil => false
  | .node _ _ => true
def chs (ch : Fin 4 → QT) : List QT := [ch 3, ch 2, ch 1, ch 0]
theorem sums_nonnil : ∀ l : List QT, ((l.filter nonnil).map QT.size).sum = (l.map QT.size).sum
  | [] => rfl
  | .nil :: l => by
    rw [List.filter_cons_of_neg (by decide), sums_nonnil l, List.map_cons, List.sum_cons]
    show _ = 0 + _
    omega
  | .node p ch :: l => by
    rw [List.filter_cons_of_pos (by rfl), List.map_cons, List.sum_cons, List.map_cons, List.sum_cons, sums_nonnil l]
theorem qsum_snd (es : Pile) : qsum es = ((es.map (·.2)).map QT.size).sum := by
  unfold qsum
  rw [List.map_map]
  rfl
theorem wsum_snd : ∀ es : Pile, wsum es = 5 * qsum es + es.length
  | [] => rfl
  | e :: es => by
    have ih := wsum_snd es
    unfold wsum qsum at *
    simp only [List.map_cons, List.sum_cons, List.length_cons]
    omega
theorem qsum_snoc (es : Pile) (e : Addr × QT) : qsum (es ++ [e]) = qsum es + e.2.size := by
  unfold qsum
  simp
theorem qsum_app (es fs : Pile) : qsum (es ++ fs) = qsum es + qsum fs := by
  unfold qsum
  simp
theorem chs_sum (ch : Fin 4 → QT) : ((chs ch).map QT.size).sum = (ch 0).size + (ch 1).size + (ch 2).size + (ch 3).size := by
  unfold chs
  simp only [List.map_cons, List.map_nil, List.sum_cons, List.sum_nil]
  omega
theorem ht_size : ∀ t : QT, t.ht ≤ t.size
  | .nil => Nat.le_refl _
  | .node p ch => by
    have h0 := ht_size (ch 0)
    have h1 := ht_size (ch 1)
    have h2 := ht_size (ch 2)
    have h3 := ht_size (ch 3)
    simp only [QT.ht, QT.size]
    omega
theorem ht_child (p : Int × Int) (ch : Fin 4 → QT) (j : Fin 4) : (ch j).ht + 1 ≤ (QT.node p ch).ht := by
  simp only [QT.ht]
  match j with
  | 0 => omega
  | 1 => omega
  | 2 => omega
  | 3 => omega
def K31 : Ks := ⟨(-10000000000000000000000000000000, 0), (-10000000000000000000000000000000, 0), (10000000000000000000000000000000, 0), (10000000000000000000000000000000, 0)⟩
theorem k31_has {p : Int × Int} (h : PtB p) : K31.has p := by
  obtain ⟨⟨h1, h2⟩, h3, h4⟩ := h
  have hL : Lo = 1000000000000000000000000000000 := rfl
  refine ⟨decide_eq_true (.inl ?_), decide_eq_true (.inl ?_), decide_eq_true (.inl ?_), decide_eq_true (.inl ?_)⟩
  · show (-10000000000000000000000000000000 : Int) < p.1; omega
  · show p.1 < (10000000000000000000000000000000 : Int); omega
  · show (-10000000000000000000000000000000 : Int) < p.2; omega
  · show p.2 < (10000000000000000000000000000000 : Int); omega
theorem nar_at {K : PySem.W.Frag} {H : Hp} {x y x2 y2 b c : Addr} {k : Ks} {p : Int × Int} (h : KsAt K H x y x2 y2 k) (hb : PtR K H b p) (hc : PtR K H c (yk p)) (j : Fin 4) :
    ∃ x' y' x2' y2', narV j (.ref x) (.ref y) (.ref x2) (.ref y2) (.ref b) (.ref c) = KsV x' y' x2' y2' ∧ KsAt K H x' y' x2' y2' (k.nar p j) := by
  obtain ⟨h1, h2, h3, h4⟩ := h
  unfold narV KsAt Ks.nar
  dsimp only
  cases isHi j <;> cases isUp j
  · exact ⟨x, y, b, c, rfl, h1, h2, hb, hc⟩
  · exact ⟨x, c, b, y2, rfl, h1, hc, hb, h4⟩
  · exact ⟨b, y, x2, c, rfl, hb, h2, h3, hc⟩
  · exact ⟨b, c, x2, y2, rfl, hb, hc, h3, h4⟩
theorem part_turn (ch : Fin 4 → QT) : ∀ i, i < 4 → ∃ j : Fin 4, ([.int 3, .int 2, .int 1, .int 0] : List V)[i]? = some (iV j.val) ∧ (chs ch).take (i + 1) = (chs ch).take i ++ [ch j]
  | 0, _ => ⟨3, rfl, rfl⟩
  | 1, _ => ⟨2, rfl, rfl⟩
  | 2, _ => ⟨1, rfl, rfl⟩
  | 3, _ => ⟨0, rfl, rfl⟩
  | n + 4, h => by omega
theorem part_val {K : PySem.W.Frag} {H : Hp} {v0 v1 v2 v3 : V} {ch : Fin 4 → QT} (h0 : Dp K H v0 (qD (ch 0))) (h1 : Dp K H v1 (qD (ch 1))) (h2 : Dp K H v2 (qD (ch 2))) (h3 : Dp K H v3 (qD (ch 3))) (j : Fin 4) :
    ∃ v, ([v0, v1, v2, v3] : List V)[j.val]? = some v ∧ Dp K H v (qD (ch j)) := by
  match j with
  | 0 => exact ⟨v0, rfl, h0⟩
  | 1 => exact ⟨v1, rfl, h1⟩
  | 2 => exact ⟨v2, rfl, h2⟩
  | 3 => exact ⟨v3, rfl, h3⟩
/-- a tuple and a tuple, whichever of them is empty -/
def rCatS (K : PySem.W.Frag) : R2 := fun x y H Q => ∃ a b xs ys, x = .ref a ∧ y = .ref b ∧ SqT K H a xs ∧ SqT K H b ys ∧ xs.length + ys.length ≤ sizeLine ∧ ∀ H' p, Same H H' → SqT K H' p (xs ++ ys) → Q (.ref p) H'
theorem op_catS {X : Cx} : OpR X (binaryOp .Add) (rCatS X.K) := by
  intro pins s σ H x y v u Q I rx ry h
  obtain ⟨a, b, xs, ys, rfl, rfl, ha, hb, hz, q⟩ := h
  refine op_catA pins s σ H _ _ v u Q I rx ry ⟨a, b, xs, ys, rfl, rfl, ha, hb, hz, fun e => ?_, fun _ e => ?_, fun _ _ p np => ?_⟩
  · subst e
    exact q H b (fun _ _ h => h) hb
  · subst e
    exact q H a (fun _ _ h => h) (by rw [List.append_nil]; exact ha)
  · exact q _ p (same_new np) (SqT.of upd_same)
section
variable {P : Program} {w : World} {K : PySem.W.Frag} {mg : Str → Option Value} {base : Heap}
theorem scFault : FnScope ["value", "many", "pile", "thing", "path", "keys", "point", "parts", "split", "x", "y", "x2", "y2", "part"] ["value"] (defScope s_fault_of) := ⟨rfl, rfl, rfl, by decide +kernel, rfl, by decide +kernel, by decide +kernel⟩
def spFault (K : PySem.W.Frag) : Sp := fun vs H Q _ => ∃ (v : V) (t : QT), vs = [v] ∧ Dp K H v (qD t) ∧ InK t K31 ∧ BdQ t ∧ t.size ≤ 500 ∧ ∀ H', Same H H' → Q .non H'
def PileI (K : PySem.W.Frag) (H0 : Hp) (Pa : Addr) (N : Nat) (v0 : V) (m : Nat) (σ : L2.St) (H : Hp) : Prop :=
  ∃ (es : Pile) (mn : Nat) (s3 s4 s5 s6 s7 s8 s9 s10 s11 s12 s13 : Option V), σ = [some v0, some (iV mn), some (.ref Pa), s3, s4, s5, s6, s7, s8, s9, s10, s11, s12, s13] ∧ Same H0 H ∧ H Pa = some (.lst (refsE es)) ∧
    (∀ e ∈ es, Ent K 500 H e.1 e.2) ∧ mn + qsum es = N ∧ es.length ≤ 4 * mn + 1 ∧ wsum es = m
structure FaultC (K : PySem.W.Frag) (mg : Str → Option Value) (aK aL b0 b1 b2 b3 : Addr) (tm : Tok) : Prop where
  gK : mg "ALL_KEYS" = some (.ref aK)
  kK : ∀ H, SqT K H aK (KsV b0 b1 b2 b3)
  kb : ∀ H, KsAt K H b0 b1 b2 b3 K31
  gL : mg "LAST_PART_FIRST" = some (.ref aL)
  kL : ∀ H, SqT K H aL [.int 3, .int 2, .int 1, .int 0]
  gN : mg "MOST_NODES" = some (.int 500 tm)
theorem ok_fault {f fN fY fA : Addr} {fd fdN fdY fdA : FuncData} {aK aL b0 b1 b2 b3 : Addr} {tm : Tok} (F : FnP K "fault_of" s_fault_of f fd) (C : FaultC K mg aK aL b0 b1 b2 b3 tm)
    (GN : FnOk P w K mg base CX0 4 fN fdN ["value"] (spIsNode K)) (kN : PySem.W.keepIn K (.ref fN) = true) (bN : Binds K fdN ["value"] []) (gN : mg "is_node" = some (.ref fN))
    (GY : FnOk P w K mg base CX0 1 fY fdY ["point"] (spYKeyR K)) (kY : PySem.W.keepIn K (.ref fY) = true) (bY : Binds K fdY ["point"] []) (gY : mg "y_key" = some (.ref fY))
    (GA : FnOk P w K mg base CX0 1 fA fdA ["ends", "split", "part"] (spNar K)) (kA : PySem.W.keepIn K (.ref fA) = true) (bA : Binds K fdA ["ends", "split", "part"] []) (gA : mg "narrowed" = some (.ref fA)) :
    FnOk P w K mg base CX0 5 f fd ["value"] (spFault K) := by
  refine F.ok scFault (fun vs H Q E h => ?_) (fun cdv A outer s H vs Q E hr h => ?_)
  · obtain ⟨_, _, rfl, _⟩ := h
    rfl
  · obtain ⟨v0, t0, rfl, hd0, hk0, hb0, hn0, q⟩ := h
    have hu := room_un hr
    refine ⟨_, pss_cons (ps_set (i := 1) scFault.nd rfl (.inl rfl) (pe_int))
        (pss_cons (ps_set (i := 2) scFault.nd rfl (.inl rfl) (pe_lst (pa_cons (pe_tup (pa_cons (pv 0) (pa_cons (pe_tup pa_nil) (pa_cons (pe_glob (v := .ref aK) (by rfl) C.gK rfl) pa_nil)))) pa_nil)))
        (pss_cons (ps_while PassesOwn.never (pt_truth (pv 2) (fun _ => rfl)) (pss_cons (ps_asg (pe_bm0 PySem.F.plainAttrs_list PySem.F.slot_list_pop PySem.F.type_list_pop mt_pop (pv 2)) (pg_tup rfl (pgs_cons (pg_name (i := 3) scFault.nd rfl (.inl rfl)) (pgs_cons (pg_name (i := 4) scFault.nd rfl (.inl rfl)) (pgs_cons (pg_name (i := 5) scFault.nd rfl (.inl rfl)) pgs_nil)))))
        (pss_cons (ps_if (pt_cmp (pc_isN (pv 3))) (pss_one ps_continue) pss_nil)
        (pss_cons (ps_aug (i := 1) scFault.nd rfl (.inl rfl) pe_int iop_add)
        (pss_cons (ps_if (PW.pt (pw_or (pt_cmpR op_gt (pv 1) (pe_glob (v := .int 500) (by rfl) C.gN ⟨_, rfl⟩) (nomark _)) (pw_or1 (pt_not (pt_val (pe_call GN (hr) (by rfl) gN kN bN .nil pass0 (pa_cons (pv 3) pa_nil))))))) (pss_never) pss_nil)
        (pss_cons (ps_asg (pv 3) (pg_tup rfl (pgs_cons (pg_name (i := 6) scFault.nd rfl (.inl rfl)) (pgs_cons (pg_name (i := 7) scFault.nd rfl (.inl rfl)) pgs_nil))))
        (pss_cons (ps_set (i := 8) scFault.nd rfl (.inl rfl) (pe_tup (pa_cons (pv 6) (pa_cons (pe_call GY (hr.mono (by decide)) (by rfl) gY kY bY .nil pass0 (pa_cons (pv 6) pa_nil)) pa_nil))))
        (pss_cons (ps_asg (pv 5) (pg_tup rfl (pgs_cons (pg_name (i := 9) scFault.nd rfl (.inl rfl)) (pgs_cons (pg_name (i := 10) scFault.nd rfl (.inl rfl)) (pgs_cons (pg_name (i := 11) scFault.nd rfl (.inl rfl)) (pgs_cons (pg_name (i := 12) scFault.nd rfl (.inl rfl)) pgs_nil))))))
        (pss_cons (ps_if (PW.pt (pw_or (pt_not (pt_chain (op_ltK hu) (op_ltK hu) (pv 9) (pv 6) (pv 11))) (pw_or1 (pt_not (pt_chain (op_ltK hu) (op_ltK hu) (pv 10) (pe_ix ix_tup (pv 8) (pe_int) (fun _ _ => rfl)) (pv 12)))))) (pss_never) pss_nil)
        (pss_one (ps_for PassesOwn.never rfl (pi_tup (pe_glob (v := .ref aL) (by rfl) C.gL rfl)) (pg_name (i := 13) scFault.nd rfl (.inl rfl)) (pss_one (ps_if (pt_cmp (pc_notN (pe_ix ix_tup (pv 7) (pv 13) (fun _ _ => rfl)))) (pss_one (ps_expr (pe_bm PySem.F.plainAttrs_list PySem.F.slot_list_append PySem.F.type_list_append mt_append (pv 2) (pa_cons (pe_tup (pa_cons (pe_ix ix_tup (pv 7) (pv 13) (fun _ _ => rfl)) (pa_cons (pe_op op_catS (pv 4) (pe_tup (pa_cons (pv 13) pa_nil))) (pa_cons (pe_call GA (hr.mono (by decide)) (by rfl) gA kA bA .nil pass0 (pa_cons (pv 5) (pa_cons (pv 8) (pa_cons (pv 13) pa_nil)))) pa_nil)))) pa_nil)))) pss_nil)))))))))))))
        (pss_one (ps_ret pe_non)))), ?_⟩
    refine ⟨_, rfl, (by show 0 ≤ sizeLine; decide), fun pt npt => ⟨(by show 3 ≤ sizeLine; decide), fun e0 ne0 => ⟨(by show 1 ≤ sizeLine; decide), fun Pa nPa => ?_⟩⟩⟩
    have s1 : Same H (upd H pt (.tup [])) := same_new npt
    have s2 : Same (upd H pt (.tup [])) (upd (upd H pt (.tup [])) e0 (.tup [v0, .ref pt, .ref aK])) := same_new ne0
    have s3 : Same (upd (upd H pt (.tup [])) e0 (.tup [v0, .ref pt, .ref aK])) (upd (upd (upd H pt (.tup [])) e0 (.tup [v0, .ref pt, .ref aK])) Pa (.lst [.ref e0])) := same_new nPa
    have s23 := s2.trans s3
    have s123 := s1.trans s23
    have P0 : H Pa = none := same_free (s1.trans s2) nPa
    have hpt := s23 _ _ (upd_same (H := H) (a := pt) (o := .tup []))
    have he0 := s3 _ _ (upd_same (H := upd H pt (.tup [])) (a := e0) (o := .tup [v0, .ref pt, .ref aK]))
    have hPa0 : (upd (upd (upd H pt (.tup [])) e0 (.tup [v0, .ref pt, .ref aK])) Pa (.lst [.ref e0])) Pa = some (.lst [.ref e0]) := upd_same
    generalize upd (upd (upd H pt (.tup [])) e0 (.tup [v0, .ref pt, .ref aK])) Pa (.lst [.ref e0]) = H3 at s123 hpt he0 hPa0 ⊢
    clear s1 s2 s3 s23 nPa ne0 npt
    have hh0 := ht_size t0
    refine ⟨PileI K H Pa t0.size v0, ⟨_, [(e0, t0)], 0, none, none, none, none, none, none, none, none, none, none, none, rfl, s123, hPa0, ?_, ?_, ?_, rfl⟩, ?_⟩
    · intro e he
      rw [List.mem_singleton.mp he]
      exact ⟨v0, pt, aK, b0, b1, b2, b3, [], K31, SqT.of he0, Dp.same s123 hd0, SqT.of hpt, by simp; omega, C.kK _, C.kb _, hk0, hb0⟩
    · unfold qsum
      simp
    · simp
    · rintro m σ H4 ⟨es, mn, z3, z4, z5, z6, z7, z8, z9, z10, z11, z12, z13, rfl, e4, hP, hE, hN, hL, hm⟩
      refine ⟨_, rfl, _, .inl ⟨_, SqL.of hP, rfl⟩, ?_⟩
      rcases List.eq_nil_or_concat es with rfl | ⟨es', e, rfl⟩
      · exact iteF (q H4 e4)
      · rw [List.concat_eq_append] at hP hE hN hL hm
        rw [List.concat_eq_append]
        have emp : (!(refsE (es' ++ [e])).isEmpty) = true := by simp
        rw [emp]
        refine iteT ⟨fun σ' H' => ∃ m', m' < m ∧ PileI K H Pa t0.size v0 m' σ' H', fun _ _ h => h, ?_⟩
        have hlast : (refsE (es' ++ [e]))[(refsE (es' ++ [e])).length - 1]? = some (.ref e.1) := by simp
        have hdrop : (refsE (es' ++ [e])).dropLast = refsE es' := by simp
        refine ⟨_, rfl, .inl ⟨rfl, _, SqL.of hP⟩, Pa, _, .ref e.1, rfl, rfl, hP, hlast, ?_⟩
        rw [hdrop]
        have st5 : SameT H4 (upd H4 Pa (.lst (refsE es'))) := SameT.put hP
        have e5 : Same H (upd H4 Pa (.lst (refsE es'))) := fun b o hb => by
          rw [upd_ne (ne_of_none hb P0)]
          exact e4 b o hb
        have hP5 : (upd H4 Pa (.lst (refsE es'))) Pa = some (.lst (refsE es')) := upd_same
        have hE5 : ∀ x ∈ es' ++ [e], Ent K 500 (upd H4 Pa (.lst (refsE es'))) x.1 x.2 := fun x hx => (hE x hx).sameT st5
        generalize upd H4 Pa (.lst (refsE es')) = H5 at e5 hP5 hE5 ⊢
        have hE' : ∀ x ∈ es', Ent K 500 H5 x.1 x.2 := fun x hx => hE5 x (List.mem_append.mpr (.inl hx))
        obtain ⟨v, pa, ka, x, y, x2, y2, ps, k, h1, h2, h3, h4, h5, h6, h7, h8⟩ := hE5 e (List.mem_append.mpr (.inr (List.mem_singleton.mpr rfl)))
        have hlen1 : (es' ++ [e]).length = es'.length + 1 := by simp
        have hq1 := qsum_snoc es' e
        have hw1 := wsum_snd (es' ++ [e])
        have hw2 := wsum_snd es'
        rw [hlen1] at hL hw1
        refine ⟨e.1, _, rfl, h1, rfl, _, _, rfl, _, _, rfl, _, _, rfl, rfl, ?_⟩
        obtain ⟨ea, et⟩ := e
        cases et with
        | nil =>
          have hv := dp_nil h2
          subst hv
          refine ⟨_, rfl, _, rfl, iteT ?_⟩
          refine ⟨wsum es', ?_, es', mn, _, _, _, _, _, _, _, _, _, _, _, rfl, e5, hP5, hE', ?_, by omega, rfl⟩
          · have : qsum (es' ++ [(ea, .nil)]) = qsum es' + 0 := hq1
            omega
          · have : qsum (es' ++ [(ea, .nil)]) = qsum es' + 0 := hq1
            omega
        | node p ch =>
          have hv := dp_nonil h2
          have hsz : (QT.node p ch).size = 1 + ((ch 0).size + (ch 1).size + (ch 2).size + (ch 3).size) := rfl
          have hq2 : qsum (es' ++ [(ea, .node p ch)]) = qsum es' + (QT.node p ch).size := hq1
          refine ⟨_, rfl, _, rfl, ?_⟩
          rw [decide_eq_false hv]
          refine iteF ?_
          refine ⟨_, rfl, _, _, rfl, rfl, ?_⟩
          have en : iV mn = iV mn := rfl
          refine ⟨_, rfl, _, _, rfl, rfl, _, rfl, ?_⟩
          rw [decide_eq_false (show ¬ ((500 : Int) < (mn : Int) + 1) by omega)]
          refine iteF ?_
          refine ⟨_, rfl, v, p, ch, rfl, h2, h8.1, _, rfl, iteF ?_⟩
          obtain ⟨a, b, c, v0', v1, v2, v3, rfl, hs, hp, hc, d0, d1, d2, d3⟩ := dp_node h2
          refine ⟨_, rfl, a, _, rfl, hs, rfl, _, _, rfl, _, _, rfl, rfl, ?_⟩
          refine ⟨_, rfl, _, rfl, b, p, rfl, hp, fun ya nya => ⟨(by show 2 ≤ sizeLine; decide), fun sa nsa => ?_⟩⟩
          have s6 : Same H5 (upd H5 ya (.tup [.int p.2, .int p.1])) := same_new nya
          have s7 : Same (upd H5 ya (.tup [.int p.2, .int p.1])) (upd (upd H5 ya (.tup [.int p.2, .int p.1])) sa (.tup [.ref b, .ref ya])) := same_new nsa
          have s67 := s6.trans s7
          have hya : PtR K (upd (upd H5 ya (.tup [.int p.2, .int p.1])) sa (.tup [.ref b, .ref ya])) ya (yk p) := SqT.of (s7 _ _ upd_same)
          have hsa : SqT K (upd (upd H5 ya (.tup [.int p.2, .int p.1])) sa (.tup [.ref b, .ref ya])) sa [.ref b, .ref ya] := SqT.of upd_same
          clear s6 s7
          generalize upd (upd H5 ya (.tup [.int p.2, .int p.1])) sa (.tup [.ref b, .ref ya]) = H6 at s67 hya hsa ⊢
          have st6 := SameT.of s67
          have e6 := e5.trans s67
          have hP6 := s67 _ _ hP5
          have hE6 : ∀ x ∈ es', Ent K 500 H6 x.1 x.2 := fun x hx => (hE' x hx).sameT st6
          have k6 := SqT.sameT st6 h5
          have ks6 := h6.sameT st6
          have c6 := SqT.sameT st6 hc
          have p6 : PtR K H6 b p := SqT.sameT st6 hp
          have pa6 := SqT.sameT st6 h3
          have dd0 := dpQ_sameT st6 d0
          have dd1 := dpQ_sameT st6 d1
          have dd2 := dpQ_sameT st6 d2
          have dd3 := dpQ_sameT st6 d3
          obtain ⟨⟨hk1, hk2, hk3, hk4⟩, hkc⟩ := h7
          refine ⟨_, rfl, ka, _, rfl, k6, rfl, _, _, rfl, _, _, rfl, _, _, rfl, _, _, rfl, rfl, ?_⟩
          refine ⟨_, rfl, _, rfl, x, b, k.x, p, rfl, rfl, ks6.1, p6, _, rfl, ?_⟩
          rw [hk1]
          refine iteT ⟨_, rfl, b, x2, p, k.x2, rfl, rfl, p6, ks6.2.2.1, _, rfl, ?_⟩
          rw [hk2]
          refine iteF ?_
          refine ⟨_, rfl, _, rfl, sa, _, 1, .ref ya, rfl, rfl, hsa, atI_nat (j := 1) rfl, y, ya, k.y, yk p, rfl, rfl, ks6.2.1, hya, _, rfl, ?_⟩
          rw [hk3]
          refine iteT ⟨_, rfl, ya, y2, yk p, k.y2, rfl, rfl, hya, ks6.2.2.2, _, rfl, ?_⟩
          rw [hk4]
          refine iteF ?_
          -- the parts
          refine ⟨aL, rfl, ⟨_, C.kL _⟩, for_it (walk_tup (xs := [.int 3, .int 2, .int 1, .int 0])) (fun i σ H7 => ∃ (fs : Pile) (z13 : Option V), σ = [some v0, some (.int ((mn : Int) + 1)), some (.ref Pa), some (.ref a), some (.ref pa), some (.ref ka), some (.ref b), some (.ref c), some (.ref sa), some (.ref x), some (.ref y), some (.ref x2), some (.ref y2), z13] ∧
            Same H H7 ∧ SameT H6 H7 ∧ H7 Pa = some (.lst (refsE (es' ++ fs))) ∧ (∀ e ∈ es' ++ fs, Ent K 500 H7 e.1 e.2) ∧ fs.map (·.2) = ((chs ch).take i).filter nonnil) ?_ (fun _ _ _ _ _ => C.kL _) ?_ ?_⟩
          · exact ⟨[], _, rfl, e6, fun _ _ h => h, by rw [List.append_nil]; exact hP6, by rw [List.append_nil]; exact hE6, rfl⟩
          · rintro i vv σ H8 H7 hi ⟨fs, z13, rfl, e7, st7, hP7, hE7, hf⟩ ⟨rfl, hv2⟩
            obtain ⟨j, hj1, hj2⟩ := part_turn ch i hi
            rw [hj1] at hv2
            cases hv2
            obtain ⟨pw, hpw, dpw⟩ := part_val (dpQ_sameT st7 dd0) (dpQ_sameT st7 dd1) (dpQ_sameT st7 dd2) (dpQ_sameT st7 dd3) j
            have c7 := SqT.sameT st7 c6
            have hlf : fs.length ≤ 4 := by
              have h1 : (((chs ch).take i).filter nonnil).length ≤ ((chs ch).take i).length := List.length_filter_le ..
              have h2 : ((chs ch).take i).length ≤ 4 := by
                rw [List.length_take]
                exact Nat.min_le_right _ _
              rw [← hf, List.length_map] at h1
              omega
            refine ⟨_, rfl, _, rfl, c, _, _, pw, rfl, rfl, c7, atI_nat (j := j.val) hpw, _, rfl, ?_⟩
            cases hcj : ch j with
            | nil =>
              rw [hcj] at dpw
              have := dp_nil dpw
              subst this
              refine iteF ⟨fs, _, rfl, e7, st7, hP7, hE7, ?_⟩
              rw [hj2, List.filter_append, hcj, hf]
              show _ = _ ++ []
              rw [List.append_nil]
            | node p' ch' =>
              have nn : (!decide (pw = V.non)) = true := by
                rw [hcj] at dpw
                rw [decide_eq_false (dp_nonil dpw)]
                rfl
              rw [nn]
              have hh := ht_child p ch j
              have hpl : ps.length + 1 ≤ sizeLine := Nat.le_of_lt (small1000 (by omega))
              refine iteT ⟨_, rfl, .inl ⟨rfl, _, SqL.of hP7⟩, _, rfl, _, rfl, c, _, _, pw, rfl, rfl, c7, atI_nat (j := j.val) hpw, _, rfl, _, rfl, (by show 1 ≤ sizeLine; decide), fun t1 n1 => ?_⟩
              have s8 : Same H7 (upd H7 t1 (.tup [iV j.val])) := same_new n1
              refine ⟨pa, t1, ps, [iV j.val], rfl, rfl, SqT.same s8 (SqT.sameT st7 pa6), SqT.of upd_same, hpl, fun H9 pp s9 hpp => ?_⟩
              have s89 := s8.trans s9
              have k9 := SqT.sameT (st7.trans (SameT.of s89)) k6
              have sa9 := SqT.sameT (st7.trans (SameT.of s89)) hsa
              refine ⟨_, rfl, _, rfl, _, rfl, ka, sa, j, _, _, _, _, _, _, rfl, k9, sa9, fun H10 na s10 nna hna => ⟨(by show 3 ≤ sizeLine; decide), fun te nte => ?_⟩⟩
              have s810 := s89.trans s10
              have s11 : Same H10 (upd H10 te (.tup [pw, .ref pp, .ref na])) := same_new nte
              have s811 := s810.trans s11
              have hP11 := s811 _ _ hP7
              refine ⟨Pa, _, _, rfl, rfl, hP11, (by rw [List.length_map, List.length_append, sizeLine_eq]; omega), ?_⟩
              have hte : (upd H10 te (.tup [pw, .ref pp, .ref na])) te = some (.tup [pw, .ref pp, .ref na]) := upd_same
              have hna11 := s11 _ _ hna
              have hpp11 := SqT.same (s10.trans s11) hpp
              clear s8 s9 s89 s10 s810 s11 nte nna hna hpp n1 k9 sa9
              generalize upd H10 te (.tup [pw, .ref pp, .ref na]) = H11 at s811 hP11 hte hna11 hpp11 ⊢
              have st12 : SameT H11 (upd H11 Pa (.lst (refsE (es' ++ fs) ++ [.ref te]))) := SameT.put hP11
              have st712 := (SameT.of s811).trans st12
              have st612 := st7.trans st712
              refine ⟨fs ++ [(te, ch j)], _, rfl, fun b o hb => ?_, st612, ?_, fun z hz => ?_, ?_⟩
              · rw [upd_ne (ne_of_none hb P0)]
                exact s811 _ _ (e7 b o hb)
              · rw [upd_same]
                simp
              · rw [← List.append_assoc] at hz
                rcases List.mem_append.mp hz with hz | hz
                · exact (hE7 z hz).sameT st712
                · rw [List.mem_singleton.mp hz]
                  obtain ⟨x', y', x2', y2', hnar, hks⟩ := nar_at (ks6.sameT st612) (SqT.sameT st612 p6) (SqT.sameT st612 hya) j
                  rw [hnar] at hna11
                  exact ⟨pw, pp, na, x', y', x2', y2', ps ++ [iV j.val], k.nar p j, SqT.sameT st12 (SqT.of hte), dpQ_sameT st712 dpw, SqT.sameT st12 hpp11, (by
                    have h4' : ps.length + (QT.node p ch).ht ≤ 500 := h4
                    show (ps ++ [iV j.val]).length + (ch j).ht ≤ 500
                    rw [List.length_append, List.length_singleton]
                    omega), SqT.sameT st12 (SqT.of hna11), hks, hkc j, h8.2 j⟩
              · rw [hj2, List.map_append, List.filter_append, hf, hcj]
                rfl
          · rintro σ H7 ⟨fs, z13, rfl, e7, _, hP7, hE7, hf⟩
            have hf4 : fs.map (·.2) = (chs ch).filter nonnil := hf
            have hqf : qsum fs = (ch 0).size + (ch 1).size + (ch 2).size + (ch 3).size := by rw [qsum_snd, hf4, sums_nonnil, chs_sum]
            have hlf : fs.length ≤ 4 := by
              have h1 := List.length_filter_le nonnil (chs ch)
              rw [← hf4, List.length_map] at h1
              exact h1
            have hqa := qsum_app es' fs
            have hwa := wsum_snd (es' ++ fs)
            have hla : (es' ++ fs).length = es'.length + fs.length := by simp
            refine ⟨wsum (es' ++ fs), by omega, es' ++ fs, mn + 1, _, _, _, _, _, _, _, _, _, _, _, rfl, e7, hP7, hE7, by omega, by omega, rfl⟩
end
end Q2

namespace Q2
open PySem PySem.Spec PyProof.Rows L2
/-! ### tuples that are written -/
theorem tup4R {K : PySem.W.Frag} {a b0 b1 b2 b3 : Addr} {od : Option Addr} {n : Nat} {sl : Array (Option Value)} (h : K.lookup a = some ⟨.type "tuple", od, .seq #[.ref b0, .ref b1, .ref b2, .ref b3] n, sl⟩) (H : Hp) : SqT K H a [.ref b0, .ref b1, .ref b2, .ref b3] :=
  .inr ⟨_, _, _, h, rfl, rfl, by show 4 ≤ sizeLine; decide, .cons rfl (.cons rfl (.cons rfl (.cons rfl .nil)))⟩
theorem tup4I {K : PySem.W.Frag} {a : Addr} {i0 i1 i2 i3 : Int} {t0 t1 t2 t3 : Tok} {od : Option Addr} {n : Nat} {sl : Array (Option Value)} (h : K.lookup a = some ⟨.type "tuple", od, .seq #[.int i0 t0, .int i1 t1, .int i2 t2, .int i3 t3] n, sl⟩) (H : Hp) : SqT K H a [.int i0, .int i1, .int i2, .int i3] :=
  .inr ⟨_, _, _, h, rfl, rfl, by show 4 ≤ sizeLine; decide, .cons ⟨_, rfl⟩ (.cons ⟨_, rfl⟩ (.cons ⟨_, rfl⟩ (.cons ⟨_, rfl⟩ .nil)))⟩
theorem tup2I {K : PySem.W.Frag} {a : Addr} {i0 i1 : Int} {t0 t1 : Tok} {od : Option Addr} {n : Nat} {sl : Array (Option Value)} (h : K.lookup a = some ⟨.type "tuple", od, .seq #[.int i0 t0, .int i1 t1] n, sl⟩) (H : Hp) : PtR K H a (i0, i1) :=
  .inr ⟨_, _, _, h, rfl, rfl, by show 2 ≤ sizeLine; decide, .cons ⟨_, rfl⟩ (.cons ⟨_, rfl⟩ .nil)⟩
end Q2

namespace Q2
open PySem PySem.Spec PyProof.Rows L2
section
variable {P : Program} {w : World} {K : PySem.W.Frag} {mg : Str → Option Value} {base : Heap}
/-! ### is_quarter, built -/
theorem scIsQ : FnScope ["value"] ["value"] (defScope s_is_quarter) := ⟨rfl, rfl, rfl, by decide +kernel, rfl, by decide +kernel, by decide +kernel⟩
def spIsQ (K : PySem.W.Frag) : Sp := fun vs H Q _ => ∃ (v : V) (t : QT), vs = [v] ∧ Dp K H v (qD t) ∧ InK t K31 ∧ BdQ t ∧ t.size ≤ 500 ∧ ∀ H', Same H H' → Q (.bl true) H'
theorem ok_isQ {f fF : Addr} {fd fdF : FuncData} (F : FnP K "is_quarter" s_is_quarter f fd) (GF : FnOk P w K mg base CX0 5 fF fdF ["value"] (spFault K)) (kF : PySem.W.keepIn K (.ref fF) = true) (bF : Binds K fdF ["value"] []) (gF : mg "fault_of" = some (.ref fF)) : FnOk P w K mg base CX0 6 f fd ["value"] (spIsQ K) := by
  refine F.ok scIsQ (fun vs H Q E h => ?_) (fun cdv A outer s H vs Q E hr h => ?_)
  · obtain ⟨_, _, rfl, _⟩ := h
    rfl
  · obtain ⟨v, t, rfl, h1, h2, h3, h4, q⟩ := h
    refine ⟨_, pss_one (ps_ret (pe_cmp (pc_isN (pe_call GF hr (by rfl) gF kF bF .nil pass0 (pa_cons (pv 0) pa_nil))))), ?_⟩
    exact ⟨_, rfl, v, t, rfl, h1, h2, h3, h4, fun H' e => q H' e⟩
theorem scBuilt : FnScope ["points"] ["points"] (defScope s_built) := ⟨rfl, rfl, rfl, by decide +kernel, rfl, by decide +kernel, by decide +kernel⟩
theorem ok_built {f fC fG : Addr} {fd fdC fdG : FuncData} (F : FnP K "built" s_built f fd) (GC : FnOk P w K mg base CX0 4 fC fdC ["value"] spChkPs) (kC : PySem.W.keepIn K (.ref fC) = true) (bC : Binds K fdC ["value"] []) (gC : mg "check_points" = some (.ref fC))
    (GG : FnOk P w K mg base CX0 4 fG fdG ["points"] (spGrown K)) (kG : PySem.W.keepIn K (.ref fG) = true) (bG : Binds K fdG ["points"] []) (gG : mg "grown" = some (.ref fG)) : FnOk P w K mg base CX0 5 f fd ["points"] (spGrown K) := by
  refine F.ok scBuilt (fun vs H Q E h => ?_) (fun cdv A outer s H vs Q E hr h => ?_)
  · obtain ⟨_, _, rfl, _⟩ := h
    rfl
  · obtain ⟨a, qs, rfl, hs, hp, nd, few, q⟩ := h
    refine ⟨_, pss_cons (ps_expr (pe_call GC hr (by rfl) gC kC bC .nil pass0 (pa_cons (pv 0) pa_nil))) (pss_one (ps_ret (pe_call GG hr (by rfl) gG kG bG .nil pass0 (pa_cons (pv 0) pa_nil)))), ?_⟩
    exact ⟨_, rfl, a, qs, rfl, hs, hp, nd, by omega, fun H1 e1 => ⟨_, rfl, a, qs, rfl, hs.same e1, hp.same e1, nd, few, fun H' v e2 d => q H' v (e1.trans e2) d⟩⟩
/-! ### _law_side -/
theorem scSide : FnScope ["_law_root", "_law_spot"] ["_law_root", "_law_spot"] (defScope s_law_side) := ⟨rfl, rfl, rfl, by decide +kernel, rfl, by decide +kernel, by decide +kernel⟩
def spSide : Sp := fun vs H Q _ => ∃ (t u : Addr) (p p' : Int × Int), vs = [.ref t, .ref u] ∧ XY H t p.1 p.2 ∧ XY H u p'.1 p'.2 ∧ ∀ H', Same H H' → Q (iV (sideF p p').val) H'
theorem ok_side {f : Addr} {fd : FuncData} (F : FnP K "_law_side" s_law_side f fd) (B : Bt mg) : FnOk P w K mg base CX0 1 f fd ["_law_root", "_law_spot"] spSide := by
  refine F.ok scSide (fun vs H Q E h => ?_) (fun cdv A outer s H vs Q E hr h => ?_)
  · obtain ⟨_, _, _, _, rfl, _⟩ := h
    rfl
  · obtain ⟨t, u, ⟨x, y⟩, ⟨x', y'⟩, rfl, hT, hU, q⟩ := h
    have hu := room_un hr
    refine ⟨_, pss_one (ps_ret (pe_op op_add (pe_callTy call_int1 (by rfl) B.int (by decide +kernel) (pa_cons (pe_cmpR (op_gtP hu) (pv 1) (pv 0) (nomark _)) pa_nil)) (pe_op op_mul pe_int (pe_callTy call_int1 (by rfl) B.int (by decide +kernel) (pa_cons (pe_cmpR (op_gtP hu)
      (pe_tup (pa_cons (pe_ix ix_tup (pv 1) pe_int (fun _ _ => rfl)) (pa_cons (pe_ix ix_tup (pv 1) pe_int (fun _ _ => rfl)) pa_nil))) (pe_tup (pa_cons (pe_ix ix_tup (pv 0) pe_int (fun _ _ => rfl)) (pa_cons (pe_ix ix_tup (pv 0) pe_int (fun _ _ => rfl)) pa_nil))) (nomark _)) pa_nil))))), ?_⟩
    have hT0 : H t = some (.tup [.int x, .int y]) := hT
    have hU0 : H u = some (.tup [.int x', .int y']) := hU
    refine ⟨_, rfl, _, rfl, u, t, x', y', x, y, rfl, rfl, hU, hT, .inr ⟨_, rfl, ?_⟩⟩
    refine ⟨_, rfl, u, _, 1, .int y', rfl, rfl, SqT.of hU0, atI_nat (j := 1) rfl, _, rfl, u, _, 0, .int x', rfl, rfl, SqT.of hU0, atI_nat (j := 0) rfl, (by show 2 ≤ sizeLine; decide), fun p1 n1 => ?_⟩
    have s1 : Same H (upd H p1 (.tup [.int y', .int x'])) := same_new n1
    refine ⟨_, rfl, t, _, 1, .int y, rfl, rfl, SqT.of (s1 _ _ hT0), atI_nat (j := 1) rfl, _, rfl, t, _, 0, .int x, rfl, rfl, SqT.of (s1 _ _ hT0), atI_nat (j := 0) rfl, (by show 2 ≤ sizeLine; decide), fun p2 n2 => ?_⟩
    have s2 : Same (upd H p1 (.tup [.int y', .int x'])) (upd (upd H p1 (.tup [.int y', .int x'])) p2 (.tup [.int y, .int x])) := same_new n2
    refine ⟨p1, p2, y', x', y, x, rfl, rfl, s2 _ _ upd_same, upd_same, .inr ⟨_, rfl, _, _, rfl, rfl, .inl ⟨by decide, by decide⟩, _, _, rfl, rfl, ?_⟩⟩
    have q3 := q _ (s1.trans s2)
    have e : (((sideF (x, y) (x', y')).val : Nat) : Int) = (if gtP x' y' x y = true then 1 else 0) + 2 * (if gtP y' x' y x = true then 1 else 0) := by
      show (((if gtP x' y' x y = true then 1 else 0) + (if gtP y' x' y x = true then 2 else 0) : Nat) : Int) = _
      cases gtP x' y' x y <;> cases gtP y' x' y x <;> rfl
    rw [show iV (sideF (x, y) (x', y')).val = V.int ((if gtP x' y' x y = true then 1 else 0) + 2 * (if gtP y' x' y x = true then 1 else 0)) from congrArg V.int e] at q3
    exact q3
end
end Q2

namespace Q2
open PySem PySem.Spec PyProof.Rows L2
theorem eqv_nil (zs : List (Int × Int)) : PyData.eqv (.list (zs.map ptD)) (.list []) = zs.isEmpty := by
  cases zs with
  | nil => simp [PyData.eqv, PyData.eqvAll]
  | cons z zs => simp [PyData.eqv, PyData.eqvAll]
theorem pi_listK {X : Cx} {K : PySem.W.Frag} (hK : X.K = K) {tg l : Expr} {tl : TE} (hl : PE X l tl) : PI X tg l (iList K tl) := by
  subst hK
  exact pi_list hl
theorem sl_listK {X : Cx} {K : PySem.W.Frag} (hK : X.K = K) : SlR X (rSlL K) := by
  subst hK
  exact sl_list
theorem dp_ptsL {K : PySem.W.Frag} {H : Hp} {a : Addr} {qs : Pts} (h : H a = some (.lst (refsOf qs))) (hp : AllP H qs) : Dp K H (.ref a) (.list ((qs.map (·.2)).map ptD)) := .lst (SqL.of h) (dp_pts hp)
theorem growQ_fuel {f : Int × Int → Int × Int → Fin 4} : ∀ (n n' : Nat) (l : List (Int × Int)), l.length ≤ n → l.length ≤ n' → QT.growQ f n l = QT.growQ f n' l
  | 0, 0, _, _, _ => rfl
  | 0, n' + 1, [], _, _ => rfl
  | n + 1, 0, [], _, _ => rfl
  | n + 1, n' + 1, [], _, _ => rfl
  | 0, _, k :: r, h, _ => by simp at h
  | _, 0, k :: r, _, h => by simp at h
  | n + 1, n' + 1, k :: r, h, h' => by
    show QT.node k _ = QT.node k _
    congr 1
    funext j
    have hl : (r.filter fun m => decide (f k m = j)).length ≤ r.length := List.length_filter_le ..
    simp only [List.length_cons] at h h'
    exact growQ_fuel n n' _ (by omega) (by omega)
theorem cut_one {xs : List V} (h : 1 ≤ xs.length) : cutV xs (some 1) none = xs.drop 1 := by
  unfold cutV
  rw [HT.sIx_none, show (some (1 : Int)) = some ((1 : Nat) : Int) from rfl, HT.sIx_nat, Nat.min_eq_left h]
  exact List.take_of_length_le (by rw [List.length_drop]; omega)
/-- the points of a part, in their order -/
def partP (p : Int × Int) (qs : Pts) (j : Fin 4) : Pts := qs.filter fun q => decide (sideF p q.2 = j)
theorem partP_map (p : Int × Int) (qs : Pts) (j : Fin 4) : (partP p qs j).map (·.2) = (qs.map (·.2)).filter fun m => decide (sideF p m = j) := by
  unfold partP
  rw [List.filter_map]
  rfl
theorem treeQ_cons (p : Int × Int) (r : List (Int × Int)) : treeQ (p :: r) = .node p fun j => treeQ (r.filter fun m => decide (sideF p m = j)) := by
  unfold treeQ
  show QT.node p _ = _
  congr 1
  funext j
  have hl : (r.filter fun m => decide (sideF p m = j)).length ≤ r.length := List.length_filter_le ..
  exact growQ_fuel _ _ _ hl (Nat.le_refl _)
/-! ### _law_grown -/
abbrev NLG : List Str := ["_law_spots_here", "_law_root", "_law_rows", "_law_part", "_law_spot"]
theorem scLG : FnScope NLG ["_law_spots_here"] (defScope s_law_grown) := ⟨rfl, rfl, rfl, by decide +kernel, rfl, by decide +kernel, by decide +kernel⟩
def scLG1 : Scope := match (defBody s_law_grown).getD 2 (.Pass ⟨0, 0, 0, 0⟩) with
  | .Assign _ (.ListComp _ _ sc _) _ => { sc with names := sc.names.map fun y => if (y.2 == .free) = true then (y.1, .cell) else y }
  | _ => defScope s_law_grown
section
variable {P : Program} {w : World} {K : PySem.W.Frag} {mg : Str → Option Value} {base : Heap}
def spLG (K : PySem.W.Frag) (n : Nat) : Sp := fun vs H Q _ => ∃ (a : Addr) (qs : Pts), vs = [.ref a] ∧ H a = some (.lst (refsOf qs)) ∧ AllP H qs ∧ qs.length ≤ n ∧ n ≤ 64 ∧ ∀ H' v, Same H H' → Dp K H' v (qD (treeQ (qs.map (·.2)))) → Q v H'
theorem ok_lg {f fS : Addr} {fd fdS : FuncData} (F : FnP K "_law_grown" s_law_grown f fd) (B : Bt mg) (GS : FnOk P w K mg base CX0 1 fS fdS ["_law_root", "_law_spot"] spSide) (kS : PySem.W.keepIn K (.ref fS) = true) (bS : Binds K fdS ["_law_root", "_law_spot"] []) (gS : mg "_law_side" = some (.ref fS))
    (kI : PySem.W.keepIn K (.ref f) = true) (bI : Binds K fd ["_law_spots_here"] []) (gI : mg "_law_grown" = some (.ref f)) : ∀ n, FnOk P w K mg base CX0 (n + 2) f fd ["_law_spots_here"] (spLG K n)
  | 0 => by
    refine F.ok scLG (fun vs H Q E h => ?_) (fun cdv A outer s H vs Q E hr h => ?_)
    · obtain ⟨_, _, rfl, _⟩ := h
      rfl
    · obtain ⟨a, qs, rfl, hs, hp, hn, _, q⟩ := h
      refine ⟨_, pss_cons (ps_if (pt_cmpR (op_eqD (hu64 hr)) (pv 0) (pe_lst pa_nil) (nomark _)) (pss_one (ps_ret pe_non)) pss_nil) pss_never, ?_⟩
      have : qs = [] := List.length_eq_zero_iff.mp (by omega)
      subst this
      refine ⟨_, rfl, (by show 0 ≤ sizeLine; decide), fun l0 n0 => ?_⟩
      have s0 : Same H (upd H l0 (.lst [])) := same_new n0
      refine ⟨_, .list [], dp_ptsL (qs := []) (s0 _ _ hs) (hp.same s0), .lst (SqL.of upd_same) .nil, ptDs_shaped _, ptDs_shaped [], _, rfl, ?_⟩
      rw [eqv_nil]
      refine iteT (q _ _ s0 ?_)
      exact .non
  | n + 1 => by
    have GI : FnOk P w K mg base CX0 (n + 2) f fd ["_law_spots_here"] (spLG K n) := ok_lg F B GS kS bS gS kI bI gI n
    refine F.ok scLG (fun vs H Q E h => ?_) (fun cdv A outer s H vs Q E hr h => ?_)
    · obtain ⟨_, _, rfl, _⟩ := h
      rfl
    · obtain ⟨a, qs, rfl, hs, hp, hn, hn64, q⟩ := h
      refine ⟨_, pss_cons (ps_if (pt_cmpR (op_eqD (hu64 hr)) (pv 0) (pe_lst pa_nil) (nomark _)) (pss_one (ps_ret pe_non)) pss_nil)
        (pss_cons (ps_set (i := 1) scLG.nd rfl (.inr rfl) (pe_ix ix_list (pv 0) (pe_int) (fun _ _ => rfl)))
        (pss_cons (ps_setLc (i := 2) (own := [("_law_part", 3)]) (g := gName 3) (tt := tYes) rfl scLG.nd rfl rfl (sw_true rfl rfl rfl (by decide +kernel)) (pi_range1 (by rfl) B.range (pa_cons pe_int pa_nil)) (blkOk_by (N := NLG) (sc := defScope s_law_grown) (by decide +kernel)) (fun _ _ _ _ _ => pg_name (i := 3) scLG.nd rfl (Or.inr rfl)) (fun _ _ _ _ _ => pts_nil) (fun _ _ _ _ _ => pe_lc (own := [("_law_spot", 4)]) (g := gName 4) rfl scLG.nd (pi_listK (K := K) rfl (pe_slice (sl_listK (K := K) rfl) (pv 0) (po_some pe_int) po_none)) (blkOk_by (N := NLG) (sc := scLG1) (by decide +kernel)) (fun _ _ _ _ _ => pg_name (i := 4) scLG.nd rfl (Or.inl rfl)) (fun _ _ _ _ _ => pts_one (pt_cmpR op_eq (pe_call GS (hr.mono (by omega)) (by rfl) gS kS bS .nil pass0 (pa_cons (pv 1) (pa_cons (pv 4) pa_nil))) (pv 3) (nomark _))) (fun _ _ _ _ _ => pv 4)))
        (pss_one (ps_ret (pe_tup (pa_cons (pv 1) (pa_cons (pe_tup (pa_cons (pe_call GI (hr) (by rfl) gI kI bI .nil pass0 (pa_cons (pe_ix ix_list (pv 2) (pe_int) (fun _ _ => rfl)) pa_nil)) (pa_cons (pe_call GI (hr) (by rfl) gI kI bI .nil pass0 (pa_cons (pe_ix ix_list (pv 2) (pe_int) (fun _ _ => rfl)) pa_nil)) (pa_cons (pe_call GI (hr) (by rfl) gI kI bI .nil pass0 (pa_cons (pe_ix ix_list (pv 2) (pe_int) (fun _ _ => rfl)) pa_nil)) (pa_cons (pe_call GI (hr) (by rfl) gI kI bI .nil pass0 (pa_cons (pe_ix ix_list (pv 2) (pe_int) (fun _ _ => rfl)) pa_nil)) pa_nil))))) pa_nil))))))), ?_⟩
      refine ⟨_, rfl, (by show 0 ≤ sizeLine; decide), fun l0 n0 => ?_⟩
      have s0 : Same H (upd H l0 (.lst [])) := same_new n0
      refine ⟨_, .list [], dp_ptsL (s0 _ _ hs) (hp.same s0), .lst (SqL.of upd_same) .nil, ptDs_shaped _, ptDs_shaped [], _, rfl, ?_⟩
      rw [eqv_nil]
      cases qs with
      | nil =>
        refine iteT (q _ _ s0 ?_)
        exact .non
      | cons q0 r =>
        refine iteF ?_
        have hs0 := s0 _ _ hs
        have hp0 := hp.same s0
        generalize upd H l0 (.lst []) = H1 at s0 hs0 hp0 ⊢
        refine ⟨_, rfl, a, _, 0, .ref q0.1, rfl, rfl, SqL.of hs0, atI_nat (j := 0) rfl, ?_⟩
        refine ⟨4, rfl, by decide, by decide, fun D nD => lc_it walk_range (fun i H3 => ∃ ls : List Addr, Same H1 H3 ∧ H3 D = some (.lst (ls.map V.ref)) ∧ ls.length = i ∧ ∀ j : Fin 4, j.val < i → ∃ l, ls[j.val]? = some l ∧ l ≠ D ∧ H3 l = some (.lst (refsOf (partP q0.2 r j)))) ?_ (fun _ _ _ _ => trivial) ?_ ?_⟩
        · exact ⟨[], same_new nD, upd_same, rfl, fun j h => absurd h (Nat.not_lt_zero _)⟩
        · rintro i v H4 H3 hi ⟨ls, e3, hD, hl, hls⟩ ⟨rfl, hv⟩
          have ev : v = iV i := by
            rw [hv]
            exact congrArg V.int (by omega)
          subst ev
          have i4 : i < 4 := hi
          obtain ⟨j, hj⟩ : ∃ j : Fin 4, j.val = i := ⟨⟨i, i4⟩, rfl⟩
          have hs3 := e3 _ _ hs0
          have hp3 := hp0.same e3
          refine ⟨rfl, _, rfl, _, rfl, a, _, rfl, SqL.of hs3, fun p np => ?_⟩
          rw [cut_one (by show 1 ≤ (refsOf (q0 :: r)).length; rw [List.length_map]; simp), show (refsOf (q0 :: r)).drop 1 = refsOf r from rfl]
          have s4 : Same H3 (upd H3 p (.lst (refsOf r))) := same_new np
          refine ⟨p, rfl, ⟨_, SqL.of upd_same⟩, fun E nE => lc_it (walk_list (xs := refsOf r)) (fun k H5 => Same (upd H3 p (.lst (refsOf r))) H5 ∧ H5 E = some (.lst (refsOf (partP q0.2 (r.take k) j)))) ⟨same_new nE, upd_same⟩ (fun k H5 _ h => SqL.of (h.1 _ _ upd_same)) ?_ ?_⟩
          · rintro k vk H5 H6 hk ⟨e5, hE⟩ ⟨rfl, hvk⟩
            obtain ⟨qk, hqk, rfl⟩ := refs_at hvk
            have e35 := s4.trans e5
            have hp5 := hp3.same e35
            have hq0 := hp5 q0 (List.mem_cons_self ..)
            have hqk5 := hp5 qk (List.mem_cons_of_mem _ (List.mem_of_getElem? hqk))
            refine ⟨rfl, ?_⟩
            refine ⟨_, rfl, _, rfl, q0.1, qk.1, q0.2, qk.2, rfl, hq0.1, hqk5.1, fun H7 e7 => ?_⟩
            refine ⟨_, rfl, rfl, _, rfl, ?_⟩
            obtain ⟨hkl, hkr⟩ := List.getElem?_eq_some_iff.mp hqk
            have etk : r.take (k + 1) = r.take k ++ [qk] := by rw [List.take_succ_eq_append_getElem hkl, hkr]
            have hE7 := e7 _ _ hE
            by_cases c : sideF q0.2 qk.2 = j
            · have d : decide (V.int ((sideF q0.2 qk.2).val : Nat) = iV i) = true := decide_eq_true (by rw [c, hj])
              rw [d]
              refine iteT ⟨_, rfl, _, hE7, ?_, fun b o hb => ?_, ?_⟩
              · rw [List.length_map]
                refine small1000 ?_
                have h1 : (partP q0.2 (r.take k) j).length ≤ (r.take k).length := List.length_filter_le ..
                have h2 : (r.take k).length ≤ r.length := by rw [List.length_take]; exact Nat.min_le_right ..
                simp only [List.length_cons] at hn
                omega
              · rw [upd_ne (ne_of_none hb nE)]
                exact e7 _ _ (e5 _ _ hb)
              · rw [upd_same, etk]
                unfold partP
                rw [List.filter_append, show [qk].filter (fun q => decide (sideF q0.2 q.2 = j)) = [qk] by simp [c]]
                simp
            · have d : decide (V.int ((sideF q0.2 qk.2).val : Nat) = iV i) = false := decide_eq_false (fun z => c (Fin.ext (by
                have z' : (((sideF q0.2 qk.2).val : Nat) : Int) = (i : Int) := V.int.inj z
                omega)))
              rw [d]
              refine iteF ⟨e5.trans e7, ?_⟩
              rw [hE7, etk]
              unfold partP
              rw [List.filter_append, show [qk].filter (fun q => decide (sideF q0.2 q.2 = j)) = [] by simp [c], List.append_nil]
          · rintro H5 ⟨e5, hE⟩
            have hrl : (refsOf r).length = r.length := List.length_map ..
            rw [hrl, List.take_length] at hE
            have e35 := s4.trans e5
            have hD5 := e35 _ _ hD
            have nE3 : E ≠ D := (ne_of_none (s4 _ _ hD) nE).symm
            have D1 : H1 D = none := nD
            refine ⟨_, hD5, by rw [List.length_map, hl]; exact small1000 (by omega), ls ++ [E], fun b o hb => ?_, ?_, by simp [hl], fun j' hj' => ?_⟩
            · rw [upd_ne (ne_of_none hb D1)]
              exact e35 _ _ (e3 _ _ hb)
            · rw [upd_same]
              simp
            · by_cases c : j'.val = i
              · refine ⟨E, by rw [List.getElem?_append_right (by omega), hl, c, Nat.sub_self]; rfl, nE3, ?_⟩
                rw [upd_ne nE3, hE, show j' = j from Fin.ext (by omega)]
              · obtain ⟨l, h1, h2, h3⟩ := hls j' (by omega)
                refine ⟨l, by rw [List.getElem?_append_left (by rw [hl]; omega)]; exact h1, h2, ?_⟩
                rw [upd_ne h2]
                exact e35 _ _ h3
        · rintro H3 ⟨ls, e3, hD, hl, hls⟩
          obtain ⟨l0, a0, _, b0⟩ := hls 0 (by decide)
          obtain ⟨l1, a1, _, b1⟩ := hls 1 (by decide)
          obtain ⟨l2, a2, _, b2⟩ := hls 2 (by decide)
          obtain ⟨l3, a3, _, b3⟩ := hls 3 (by decide)
          have at_ : ∀ {k : Nat} {l : Addr}, ls[k]? = some l → (ls.map V.ref)[k]? = some (V.ref l) := fun h => by rw [List.getElem?_map, h]; rfl
          have hp3 := hp0.same e3
          have hpp : ∀ {H'} j, Same H3 H' → AllP H' (partP q0.2 r j) := fun {H'} j e q hq => (hp3.same e) q (List.mem_cons_of_mem _ (List.mem_filter.mp hq).1)
          have hll : ∀ j, (partP q0.2 r j).length ≤ n := fun j => by
            have h1 : (partP q0.2 r j).length ≤ r.length := List.length_filter_le ..
            simp only [List.length_cons] at hn
            omega
          refine ⟨_, rfl, _, rfl, D, _, 0, .ref l0, rfl, rfl, SqL.of hD, atI_nat (j := 0) (at_ a0), l0, _, rfl, b0, hpp 0 (fun _ _ h => h), hll 0, by omega, fun H4 v0 e4 d0 => ?_⟩
          refine ⟨_, rfl, D, _, 1, .ref l1, rfl, rfl, SqL.of (e4 _ _ hD), atI_nat (j := 1) (at_ a1), l1, _, rfl, e4 _ _ b1, hpp 1 e4, hll 1, by omega, fun H5 v1 e5 d1 => ?_⟩
          have e45 := e4.trans e5
          refine ⟨_, rfl, D, _, 2, .ref l2, rfl, rfl, SqL.of (e45 _ _ hD), atI_nat (j := 2) (at_ a2), l2, _, rfl, e45 _ _ b2, hpp 2 e45, hll 2, by omega, fun H6 v2 e6 d2 => ?_⟩
          have e46 := e45.trans e6
          refine ⟨_, rfl, D, _, 3, .ref l3, rfl, rfl, SqL.of (e46 _ _ hD), atI_nat (j := 3) (at_ a3), l3, _, rfl, e46 _ _ b3, hpp 3 e46, hll 3, by omega, fun H7 v3 e7 d3 => ?_⟩
          have e47 := e46.trans e7
          refine ⟨(by show 4 ≤ sizeLine; decide), fun c nc => ⟨(by show 2 ≤ sizeLine; decide), fun t nt => ?_⟩⟩
          have s8 : Same H7 (upd H7 c (.tup [v0, v1, v2, v3])) := same_new nc
          have s9 : Same (upd H7 c (.tup [v0, v1, v2, v3])) (upd (upd H7 c (.tup [v0, v1, v2, v3])) t (.tup [.ref q0.1, .ref c])) := same_new nt
          have s89 := s8.trans s9
          have e49 := e47.trans s89
          have dd : ∀ {H'} {v} (j : Fin 4), Same H' (upd (upd H7 c (.tup [v0, v1, v2, v3])) t (.tup [.ref q0.1, .ref c])) → Dp K H' v (qD (treeQ ((partP q0.2 r j).map (·.2)))) → Dp K (upd (upd H7 c (.tup [v0, v1, v2, v3])) t (.tup [.ref q0.1, .ref c])) v (qD (treeQ ((r.map (·.2)).filter fun m => decide (sideF q0.2 m = j)))) := fun {H'} {v} j e d => by
            rw [← partP_map]
            exact Dp.same e d
          refine q _ _ (s0.trans (e3.trans e49)) ?_
          rw [List.map_cons, treeQ_cons]
          exact dp_mk (SqT.of upd_same) (SqT.of (e49 _ _ (hp3 q0 (List.mem_cons_self ..)).1)) (SqT.of (s9 _ _ upd_same)) (dd 0 ((e5.trans (e6.trans e7)).trans s89) d0) (dd 1 ((e6.trans e7).trans s89) d1) (dd 2 (e7.trans s89) d2) (dd 3 s89 d3)
end
end Q2

namespace Q2
open PySem PySem.Spec PyProof.Rows L2
/-! ### one keyword -/
def kw1 {α : Type} : List α → List α → List α
  | [], [a] => [a]
  | _, _ => []
theorem kw1_rel {vs zs : List V} {us ws : List Value} (h1 : Vals vs us) (h2 : Vals zs ws) : Vals (kw1 vs zs) (kw1 us ws) := by
  cases h1 with
  | nil =>
    cases h2 with
    | nil => exact .nil
    | cons a r =>
      cases r with
      | nil => exact .cons a .nil
      | cons b r2 => exact .nil
  | cons a r => exact .nil
theorem kw1_one {us ws : List Value} (h : (kw1 us ws).length = 1) : ∃ a, us = [] ∧ ws = [a] := by
  unfold kw1 at h
  split at h
  · exact ⟨_, rfl, rfl⟩
  · cases h
theorem kb1_of {K : PySem.W.Frag} {x : Str} {st : Stmt} {f : Addr} {fd : FuncData} {ps ks : List Str} (F : FnP K x st f fd) (hp : ps.length = 1)
    (h : ∀ (kV doc pm : Value) (an : Option Addr) (cdv ct a : Value), bindArgs (PySem.W.fnOf x x (defArgs st) (defBody st) (defScope st) .none kV doc pm an cdv ct) ⟨[], ks.zip [a]⟩ = pure (ps.zip [a])) : KBinds K fd ps ks kw1 kw1 := by
  obtain ⟨oc, od, kV, doc, pm, an, cdv, ct, osl, rfl, lk, hcd⟩ := F.ex
  refine ⟨fun s us ws _ hl => ?_, kw1_rel⟩
  rw [hp] at hl
  obtain ⟨a, rfl, rfl⟩ := kw1_one hl
  exact .of_eq (h _ _ _ _ _ _ _)
theorem mem_cut {xs : List V} {lo hi : Option Int} {v : V} (h : v ∈ cutV xs lo hi) : v ∈ xs := List.mem_of_mem_drop (List.mem_of_mem_take h)
theorem cells_int {ns : List Int} {lo hi : Option Int} {i : Nat} {v : V} (h : (cutV (ns.map V.int ++ [V.int 0]) lo hi)[i]? = some v) : ∃ n : Int, v = .int n := by
  have h1 := mem_cut (List.mem_of_getElem? h)
  rcases List.mem_append.mp h1 with h2 | h2
  · obtain ⟨n, _, rfl⟩ := List.mem_map.mp h2
    exact ⟨n, rfl⟩
  · exact ⟨0, List.mem_singleton.mp h2⟩
theorem ptsD_refl (zs : List (Int × Int)) : PyData.eqv (.list (zs.map ptD)) (.list (zs.map ptD)) = true := by
  have h : ∀ zs : List (Int × Int), PyData.eqvAll (zs.map ptD) (zs.map ptD) = true := fun zs => by
    induction zs with
    | nil => simp [PyData.eqvAll]
    | cons z zs ih => simp [PyData.eqvAll, ptD_refl z, ih]
  simp only [PyData.eqv]
  exact h zs
theorem tree_ok {H : Hp} {qs : Pts} (hp : AllP H qs) (nd : (qs.map (·.2)).Nodup) (few : qs.length ≤ 32) : InK (treeQ (qs.map (·.2))) K31 ∧ BdQ (treeQ (qs.map (·.2))) ∧ (treeQ (qs.map (·.2))).size ≤ 500 ∧ SeqAt.shaped (qD (treeQ (qs.map (·.2)))) = true := by
  have hb : ∀ q ∈ qs.map (·.2), PtB q := fun q hq => by
    obtain ⟨r, hr, rfl⟩ := List.mem_map.mp hq
    exact (hp r hr).2
  have hl : (qs.map (·.2)).length ≤ 32 := by rw [List.length_map]; exact few
  have hs := size_grow (f := sideF) (qs.map (·.2)).length (qs.map (·.2))
  have hh := QT.grow_ht (f := sideF) (qs.map (·.2)).length (qs.map (·.2))
  unfold treeQ
  exact ⟨inK_grow _ _ _ nd fun q hq => k31_has (hb q hq), bd_grow _ _ hb, by omega, qD_shaped (by omega)⟩
section
variable {P : Program} {w : World} {K : PySem.W.Frag} {mg : Str → Option Value} {base : Heap}
theorem scLaw : FnScope ["_law_script", "_law_cell", "_law_source_here", "_law_turn", "_law_spots_here", "_law_saved", "_law_due"] ["_law_script"] (defScope s_law) := ⟨rfl, rfl, rfl, by decide +kernel, rfl, by decide +kernel, by decide +kernel⟩
def spLaw (K : PySem.W.Frag) : Sp := fun vs H Q _ => ∃ (a : Addr) (ns : List Int), vs = [.ref a] ∧ SqL K H a (ns.map V.int) ∧ ns.length ≤ 63 ∧ ∀ H', Q (.bl true) H'
theorem turn_bound : ∀ i, i < 3 → ∃ m : Int, ([V.int 6, .int 15, .int 30] : List V)[i]? = some (.int m) ∧ 0 ≤ m ∧ m ≤ 30
  | 0, _ => ⟨6, rfl, by decide, by decide⟩
  | 1, _ => ⟨15, rfl, by decide, by decide⟩
  | 2, _ => ⟨30, rfl, by decide, by decide⟩
  | n + 3, h => by omega
theorem ok_law {f fS fP fL fB fQ : Addr} {fd fdS fdP fdL fdB fdQ : FuncData} (F : FnP K "law" s_law f fd) (Bm : Bt mg) (C : B1 mg)
    (GS : FnOk P w K mg base CX0 1 fS fdS ["_law_cell"] (spSource)) (kS : PySem.W.keepIn K (.ref fS) = true) (bS : Binds K fdS ["_law_cell"] []) (gS : mg "_law_source" = some (.ref fS))
    (GP : FnOk P w K mg base CX0 4 fP fdP ["_law_source_here", "_law_most"] (spSpots)) (kP : PySem.W.keepIn K (.ref fP) = true) (bP : Binds K fdP ["_law_source_here", "_law_most"] []) (gP : mg "_law_spots" = some (.ref fP))
    (GL : FnOk P w K mg base CX0 32 fL fdL ["_law_spots_here"] (spLG K 30)) (kL : PySem.W.keepIn K (.ref fL) = true) (bL : Binds K fdL ["_law_spots_here"] []) (gL : mg "_law_grown" = some (.ref fL))
    (GB : FnOk P w K mg base CX0 5 fB fdB ["points"] (spGrown K)) (kB : PySem.W.keepIn K (.ref fB) = true) (bB : Binds K fdB ["points"] []) (gB : mg "built" = some (.ref fB)) (kbB : KBinds K fdB ["points"] ["points"] kw1 kw1)
    (GQ : FnOk P w K mg base CX0 6 fQ fdQ ["value"] (spIsQ K)) (kQ : PySem.W.keepIn K (.ref fQ) = true) (bQ : Binds K fdQ ["value"] []) (gQ : mg "is_quarter" = some (.ref fQ)) (kbQ : KBinds K fdQ ["value"] ["value"] kw1 kw1) :
    FnOk P w K mg base CX0 33 f fd ["_law_script"] (spLaw K) := by
  refine F.ok scLaw (fun vs H Q E h => ?_) (fun cdv A outer s H vs Q E hr h => ?_)
  · obtain ⟨_, _, rfl, _⟩ := h
    rfl
  · obtain ⟨a0, ns, rfl, hS0, hlen, q⟩ := h
    refine ⟨_, pss_cons (ps_for PassesOwn.never rfl (pi_list (pe_slice sl_list (pe_op op_catL (pv 0) (pe_lst (pa_cons pe_int pa_nil))) po_none (po_some pe_int))) (pg_name (i := 1) scLaw.nd rfl (.inl rfl)) (pss_cons (ps_set (i := 2) scLaw.nd rfl (.inl rfl) (pe_call GS (hr.mono (by decide)) (by rfl) gS kS bS .nil pass0 (pa_cons (pv 1) pa_nil)))
        (pss_one (ps_for PassesOwn.never rfl (pi_range1 (by rfl) Bm.range (pa_cons pe_int pa_nil)) (pg_name (i := 3) scLaw.nd rfl (.inl rfl)) (pss_cons (ps_set (i := 4) scLaw.nd rfl (.inl rfl) (pe_call GP (hr.mono (by decide)) (by rfl) gP kP bP .nil pass0 (pa_cons (pv 2) (pa_cons (pe_ix ix_list (pe_lst (pa_cons pe_int (pa_cons pe_int (pa_cons pe_int pa_nil)))) (pv 3) (fun _ _ => rfl)) pa_nil))))
        (pss_cons (ps_set (i := 5) scLaw.nd rfl (.inl rfl) (pe_callTy call_list_of (by rfl) C.list (by decide +kernel) (pa_cons (pv 4) pa_nil)))
        (pss_cons (ps_set (i := 6) scLaw.nd rfl (.inl rfl) (pe_call GL (hr.mono (by decide)) (by rfl) gL kL bL .nil pass0 (pa_cons (pv 4) pa_nil)))
        (pss_cons (ps_if (PW.pt (pw_or (pt_cmpR (op_neD (hu64 hr)) (pe_call GB (hr.mono (by decide)) (by rfl) gB kB bB .nil pass0 (pa_cons (pv 4) pa_nil)) (pv 6) (nomark _)) (pw_or (pt_cmpR (op_neD (hu64 hr)) (pe_callK0 GB (hr.mono (by decide)) (by rfl) gB kB kbB pass0 (pk_cons (pe_callTy call_tuple_of (by rfl) Bm.tuple (by decide +kernel) (pa_cons (pv 4) pa_nil)) pk_nil)) (pv 6) (nomark _)) (pw_or1 (pt_cmpR (op_neD (hu64 hr)) (pv 4) (pv 5) (nomark _)))))) (pss_one (ps_ret pe_bl)) pss_nil)
        (pss_one (ps_if (PW.pt (pw_or (pt_cmpR (op_isnot_bl) (pe_call GQ (hr.mono (by decide)) (by rfl) gQ kQ bQ .nil pass0 (pa_cons (pv 6) pa_nil)) (pe_bl) (nomark _)) (pw_or1 (pt_cmpR (op_isnot_bl) (pe_callK0 GQ (hr.mono (by decide)) (by rfl) gQ kQ kbQ pass0 (pk_cons (pe_call GB (hr.mono (by decide)) (by rfl) gB kB bB .nil pass0 (pa_cons (pv 4) pa_nil)) pk_nil)) (pe_bl) (nomark _))))) (pss_one (ps_ret pe_bl)) pss_nil))))))))))
        (pss_one (ps_ret (pe_and (pe_cmp (pc_isN (pe_call GB (hr.mono (by decide)) (by rfl) gB kB bB .nil pass0 (pa_cons (pe_lst pa_nil) pa_nil)))) (pe_one (pe_cmpR op_is_bl (pe_call GQ (hr.mono (by decide)) (by rfl) gQ kQ bQ .nil pass0 (pa_cons pe_non pa_nil)) pe_bl (nomark _)))))), ?_⟩
    refine ⟨_, rfl, (by show 1 ≤ sizeLine; decide), fun l0 n0 => ?_⟩
    refine ⟨a0, l0, _, _, rfl, rfl, (same_new n0).seq hS0, SqL.of upd_same, ?_, fun l1 n1 => ?_⟩
    · rw [List.length_map]
      exact small40 (by show ns.length + 1 ≤ 1000; omega)
    refine ⟨5, rfl, l1, _, rfl, SqL.of upd_same, fun c nc => ?_⟩
    refine ⟨c, rfl, ⟨_, SqL.of upd_same⟩, for_list (xs := cutV (ns.map V.int ++ [V.int 0]) none (some 5)) (fun i σ H3 => ∃ y1 y2 y3 y4 y5 y6 : Option V, σ = [some (.ref a0), y1, y2, y3, y4, y5, y6] ∧ H3 c = some (.lst (cutV (ns.map V.int ++ [V.int 0]) none (some 5)))) ?_ ?_ ?_ ?_⟩
    · exact ⟨none, none, none, none, none, none, rfl, upd_same⟩
    · rintro i σ H3 hi ⟨_, _, _, _, _, _, rfl, h⟩
      exact SqL.of h
    · rintro i v σ H3 hv ⟨_, _, y3, y4, y5, y6, rfl, hC⟩
      obtain ⟨n, rfl⟩ := cells_int hv
      generalize cutV (ns.map V.int ++ [V.int 0]) none (some 5) = cells at hC hv ⊢
      refine ⟨_, rfl, n, rfl, fun s H4 e4 ns4 hS4 => ?_⟩
      have hcs : c ≠ s := fun e => by
        rw [e] at hC
        rw [ns4] at hC
        cases hC
      refine ⟨3, rfl, by decide, by decide, for_it walk_range (fun i σ H5 => ∃ z3 z4 z5 z6 : Option V, σ = [some (.ref a0), some (.int n), some (.ref s), z3, z4, z5, z6] ∧ Src H5 s ∧ H5 c = some (.lst cells)) ?_ (fun _ _ _ _ _ => trivial) ?_ ?_⟩
      · exact ⟨_, _, _, _, rfl, hS4, e4 _ _ hC⟩
      · rintro i v6 σ H6 H5 hi ⟨z3, z4, z5, z6, rfl, hS5, hC5⟩ ⟨rfl, hv6⟩
        have ev : v6 = iV i := by
          rw [hv6]
          exact congrArg V.int (by omega)
        subst ev
        obtain ⟨m, hm, m0, m30⟩ := turn_bound i hi
        refine ⟨_, rfl, (by show 3 ≤ sizeLine; decide), fun l nl => ?_⟩
        have s6 : Same H5 (upd H5 l (.lst [.int 6, .int 15, .int 30])) := same_new nl
        refine ⟨_, rfl, l, _, _, .int m, rfl, rfl, SqL.of upd_same, atI_nat hm, s, m, rfl, hS5.same s6, m0, by omega, fun a ps H7 hS7 e7 na hP7 nd hl7 => ?_⟩
        have few : ps.length ≤ 30 := by omega
        have hC7 : H7 c = some (.lst cells) := e7 _ _ (s6 _ _ hC5) hcs
        have hL7 : H7 a = some (.lst (refsOf ps)) := hP7.1
        have hA7 : AllP H7 ps := hP7.2.2
        obtain ⟨tk, tb, ts, tsh⟩ := tree_ok hA7 nd (by omega : ps.length ≤ 32)
        clear hl7 hP7 e7 s6 nl hS5 hC5
        -- list(..)
        refine ⟨_, rfl, a, _, rfl, .inl (SqL.of hL7), fun l2 nl2 => ?_⟩
        have s8 : Same H7 (upd H7 l2 (.lst (refsOf ps))) := same_new nl2
        have hl2 : (upd H7 l2 (.lst (refsOf ps))) l2 = some (.lst (refsOf ps)) := upd_same
        generalize upd H7 l2 (.lst (refsOf ps)) = H8 at s8 hl2 ⊢
        -- the law's tree
        refine ⟨_, rfl, a, ps, rfl, s8 _ _ hL7, hA7.same s8, few, by decide, fun H9 v9 e9 d9 => ?_⟩
        have e79 := s8.trans e9
        -- the program's
        refine ⟨_, rfl, a, ps, rfl, .inl (e79 _ _ hL7), hA7.same e79, nd, by omega, fun H10 v10 e10 d10 => ?_⟩
        have e910 := e10
        have d9' := Dp.same e10 d9
        refine ⟨_, rfl, _, _, d10, d9', tsh, tsh, _, rfl, ?_⟩
        rw [qD_refl]
        refine iteF ?_
        have e710 := e79.trans e10
        refine ⟨_, rfl, a, _, rfl, .inl ⟨SqL.of (e710 _ _ hL7), fun l3 nl3 => ?_⟩⟩
        have s11 : Same H10 (upd H10 l3 (.tup (refsOf ps))) := same_new nl3
        have hl3 : (upd H10 l3 (.tup (refsOf ps))) l3 = some (.tup (refsOf ps)) := upd_same
        generalize upd H10 l3 (.tup (refsOf ps)) = H11 at s11 hl3 ⊢
        have e711 := e710.trans s11
        refine ⟨l3, ps, rfl, .inr hl3, hA7.same e711, nd, by omega, fun H12 v12 e12 d12 => ?_⟩
        have d912 := Dp.same (e10.trans (s11.trans e12)) d9
        refine ⟨_, rfl, _, _, d12, d912, tsh, tsh, _, rfl, ?_⟩
        rw [qD_refl]
        refine iteF ?_
        have e712 := e711.trans e12
        have e812 := (e9.trans e10).trans (s11.trans e12)
        refine ⟨_, rfl, _, rfl, _, _, dp_ptsL (e712 _ _ hL7) (hA7.same e712), dp_ptsL (e812 _ _ hl2) (hA7.same e712), ptDs_shaped _, ptDs_shaped _, _, rfl, ?_⟩
        rw [ptsD_refl]
        refine iteF ?_
        -- judged
        refine ⟨_, rfl, v9, _, rfl, d912, tk, tb, ts, fun H13 e13 => ⟨true, true, rfl, rfl, _, rfl, iteF ?_⟩⟩
        have e713 := e712.trans e13
        refine ⟨_, rfl, a, ps, rfl, .inl (e713 _ _ hL7), hA7.same e713, nd, by omega, fun H14 v14 e14 d14 => ?_⟩
        refine ⟨v14, _, rfl, d14, tk, tb, ts, fun H15 e15 => ⟨true, true, rfl, rfl, _, rfl, iteF ?_⟩⟩
        have e715 := e713.trans (e14.trans e15)
        exact ⟨_, _, _, _, rfl, hS7.same e715, e715 _ _ hC7⟩
      · rintro σ H5 ⟨z3, z4, z5, z6, rfl, hS5, hC5⟩
        exact ⟨_, _, _, _, _, _, rfl, hC5⟩
    · rintro σ H3 ⟨_, _, _, _, _, _, rfl, _⟩
      refine ⟨(by show 0 ≤ sizeLine; decide), fun l nl => ?_⟩
      refine ⟨l, [], rfl, .inl upd_same, fun q hq => by simp at hq, List.nodup_nil, by decide, fun H4 v4 e4 d4 => ?_⟩
      have hv : v4 = .non := dp_nil d4
      subst hv
      refine ⟨_, rfl, iteT ?_⟩
      refine ⟨.non, .nil, rfl, by unfold qD; exact .non, trivial, trivial, Nat.zero_le _, fun H5 e5 => ⟨true, true, rfl, rfl, q H5⟩⟩
end
end Q2

namespace Q2
open PySem PySem.Spec PyProof.Rows L2
theorem all_mk {l : PySem.W.OpenLaw} {w : World} {K : PySem.W.Frag} {h : Heap} {mg : Str → Option Value} {fa f_is_integer f_is_coordinate f_is_point f_check_points f_y_key f_part_of f_rows_by_steps f_masks_around f_masks_on_axes f_rows_by_masks f_quarter_of_rows f_grown f_is_node f_narrowed f_fault_of f_built f_is_quarter f_law_mixed f_law_source f_law_take f_law_pick f_law_spots f_law_side f_law_grown f_law : Addr} (X : K.In h) (G : h.Ns mainGlobals mg) (hfa : mg "law" = some (.ref fa))
    {od_is_integer an_is_integer : Option Addr} {sl_is_integer : Array (Option Value)} {oc_is_integer kV_is_integer dc_is_integer pm_is_integer cd_is_integer ct_is_integer : Value}
    {od_is_coordinate an_is_coordinate : Option Addr} {sl_is_coordinate : Array (Option Value)} {oc_is_coordinate kV_is_coordinate dc_is_coordinate pm_is_coordinate cd_is_coordinate ct_is_coordinate : Value}
    {od_is_point an_is_point : Option Addr} {sl_is_point : Array (Option Value)} {oc_is_point kV_is_point dc_is_point pm_is_point cd_is_point ct_is_point : Value}
    {od_check_points an_check_points : Option Addr} {sl_check_points : Array (Option Value)} {oc_check_points kV_check_points dc_check_points pm_check_points cd_check_points ct_check_points : Value}
    {od_y_key an_y_key : Option Addr} {sl_y_key : Array (Option Value)} {oc_y_key kV_y_key dc_y_key pm_y_key cd_y_key ct_y_key : Value}
    {od_part_of an_part_of : Option Addr} {sl_part_of : Array (Option Value)} {oc_part_of kV_part_of dc_part_of pm_part_of cd_part_of ct_part_of : Value}
    {od_rows_by_steps an_rows_by_steps : Option Addr} {sl_rows_by_steps : Array (Option Value)} {oc_rows_by_steps kV_rows_by_steps dc_rows_by_steps pm_rows_by_steps cd_rows_by_steps ct_rows_by_steps : Value}
    {od_masks_around an_masks_around : Option Addr} {sl_masks_around : Array (Option Value)} {oc_masks_around kV_masks_around dc_masks_around pm_masks_around cd_masks_around ct_masks_around : Value}
    {od_masks_on_axes an_masks_on_axes : Option Addr} {sl_masks_on_axes : Array (Option Value)} {oc_masks_on_axes kV_masks_on_axes dc_masks_on_axes pm_masks_on_axes cd_masks_on_axes ct_masks_on_axes : Value}
    {od_rows_by_masks an_rows_by_masks : Option Addr} {sl_rows_by_masks : Array (Option Value)} {oc_rows_by_masks kV_rows_by_masks dc_rows_by_masks pm_rows_by_masks cd_rows_by_masks ct_rows_by_masks : Value}
    {od_quarter_of_rows an_quarter_of_rows : Option Addr} {sl_quarter_of_rows : Array (Option Value)} {oc_quarter_of_rows kV_quarter_of_rows dc_quarter_of_rows pm_quarter_of_rows cd_quarter_of_rows ct_quarter_of_rows : Value}
    {od_grown an_grown : Option Addr} {sl_grown : Array (Option Value)} {oc_grown kV_grown dc_grown pm_grown cd_grown ct_grown : Value}
    {od_is_node an_is_node : Option Addr} {sl_is_node : Array (Option Value)} {oc_is_node kV_is_node dc_is_node pm_is_node cd_is_node ct_is_node : Value}
    {od_narrowed an_narrowed : Option Addr} {sl_narrowed : Array (Option Value)} {oc_narrowed kV_narrowed dc_narrowed pm_narrowed cd_narrowed ct_narrowed : Value}
    {od_fault_of an_fault_of : Option Addr} {sl_fault_of : Array (Option Value)} {oc_fault_of kV_fault_of dc_fault_of pm_fault_of cd_fault_of ct_fault_of : Value}
    {od_built an_built : Option Addr} {sl_built : Array (Option Value)} {oc_built kV_built dc_built pm_built cd_built ct_built : Value}
    {od_is_quarter an_is_quarter : Option Addr} {sl_is_quarter : Array (Option Value)} {oc_is_quarter kV_is_quarter dc_is_quarter pm_is_quarter cd_is_quarter ct_is_quarter : Value}
    {od_law_mixed an_law_mixed : Option Addr} {sl_law_mixed : Array (Option Value)} {oc_law_mixed kV_law_mixed dc_law_mixed pm_law_mixed cd_law_mixed ct_law_mixed : Value}
    {od_law_source an_law_source : Option Addr} {sl_law_source : Array (Option Value)} {oc_law_source kV_law_source dc_law_source pm_law_source cd_law_source ct_law_source : Value}
    {od_law_take an_law_take : Option Addr} {sl_law_take : Array (Option Value)} {oc_law_take kV_law_take dc_law_take pm_law_take cd_law_take ct_law_take : Value}
    {od_law_pick an_law_pick : Option Addr} {sl_law_pick : Array (Option Value)} {oc_law_pick kV_law_pick dc_law_pick pm_law_pick cd_law_pick ct_law_pick : Value}
    {od_law_spots an_law_spots : Option Addr} {sl_law_spots : Array (Option Value)} {oc_law_spots kV_law_spots dc_law_spots pm_law_spots cd_law_spots ct_law_spots : Value}
    {od_law_side an_law_side : Option Addr} {sl_law_side : Array (Option Value)} {oc_law_side kV_law_side dc_law_side pm_law_side cd_law_side ct_law_side : Value}
    {od_law_grown an_law_grown : Option Addr} {sl_law_grown : Array (Option Value)} {oc_law_grown kV_law_grown dc_law_grown pm_law_grown cd_law_grown ct_law_grown : Value}
    {od_law an_law : Option Addr} {sl_law : Array (Option Value)} {oc_law kV_law dc_law pm_law cd_law ct_law : Value}
    {tk_FARTHEST_COORDINATE : Tok}
    {tk_MOST_POINTS : Tok}
    {tk_MANY_POINTS : Tok}
    {tk_MOST_NODES : Tok}
    {aL : Addr} {tod_aL : Option Addr} {tsl_aL : Array (Option Value)} {tn_aL : Nat} {t_l3 t_l2 t_l1 t_l0 : Tok}
    {aK : Addr} {tod_aK : Option Addr} {tsl_aK : Array (Option Value)} {tn_aK : Nat}
    {b0 : Addr} {tod_b0 : Option Addr} {tsl_b0 : Array (Option Value)} {tn_b0 : Nat} {t_x0 t_y0 : Tok}
    {b1 : Addr} {tod_b1 : Option Addr} {tsl_b1 : Array (Option Value)} {tn_b1 : Nat} {t_x1 t_y1 : Tok}
    {b2 : Addr} {tod_b2 : Option Addr} {tsl_b2 : Array (Option Value)} {tn_b2 : Nat} {t_x2 t_y2 : Tok}
    {b3 : Addr} {tod_b3 : Option Addr} {tsl_b3 : Array (Option Value)} {tn_b3 : Nat} {t_x3 t_y3 : Tok}
    (a_is_integer : PySem.W.nsIn K mainGlobals "is_integer" = some (some (.ref f_is_integer))) (l_is_integer : K.lookup f_is_integer = some ⟨oc_is_integer, od_is_integer, .func (PySem.W.fnOf "is_integer" "is_integer" (defArgs s_is_integer) (defBody s_is_integer) (defScope s_is_integer) .none kV_is_integer dc_is_integer pm_is_integer an_is_integer cd_is_integer ct_is_integer), sl_is_integer⟩) (c_is_integer : PySem.W.codeIn K cd_is_integer "is_integer" = true) (k_is_integer : PySem.W.keepIn K (.ref f_is_integer) = true)
    (a_is_coordinate : PySem.W.nsIn K mainGlobals "is_coordinate" = some (some (.ref f_is_coordinate))) (l_is_coordinate : K.lookup f_is_coordinate = some ⟨oc_is_coordinate, od_is_coordinate, .func (PySem.W.fnOf "is_coordinate" "is_coordinate" (defArgs s_is_coordinate) (defBody s_is_coordinate) (defScope s_is_coordinate) .none kV_is_coordinate dc_is_coordinate pm_is_coordinate an_is_coordinate cd_is_coordinate ct_is_coordinate), sl_is_coordinate⟩) (c_is_coordinate : PySem.W.codeIn K cd_is_coordinate "is_coordinate" = true) (k_is_coordinate : PySem.W.keepIn K (.ref f_is_coordinate) = true)
    (a_is_point : PySem.W.nsIn K mainGlobals "is_point" = some (some (.ref f_is_point))) (l_is_point : K.lookup f_is_point = some ⟨oc_is_point, od_is_point, .func (PySem.W.fnOf "is_point" "is_point" (defArgs s_is_point) (defBody s_is_point) (defScope s_is_point) .none kV_is_point dc_is_point pm_is_point an_is_point cd_is_point ct_is_point), sl_is_point⟩) (c_is_point : PySem.W.codeIn K cd_is_point "is_point" = true) (k_is_point : PySem.W.keepIn K (.ref f_is_point) = true)
    (a_check_points : PySem.W.nsIn K mainGlobals "check_points" = some (some (.ref f_check_points))) (l_check_points : K.lookup f_check_points = some ⟨oc_check_points, od_check_points, .func (PySem.W.fnOf "check_points" "check_points" (defArgs s_check_points) (defBody s_check_points) (defScope s_check_points) .none kV_check_points dc_check_points pm_check_points an_check_points cd_check_points ct_check_points), sl_check_points⟩) (c_check_points : PySem.W.codeIn K cd_check_points "check_points" = true) (k_check_points : PySem.W.keepIn K (.ref f_check_points) = true)
    (a_y_key : PySem.W.nsIn K mainGlobals "y_key" = some (some (.ref f_y_key))) (l_y_key : K.lookup f_y_key = some ⟨oc_y_key, od_y_key, .func (PySem.W.fnOf "y_key" "y_key" (defArgs s_y_key) (defBody s_y_key) (defScope s_y_key) .none kV_y_key dc_y_key pm_y_key an_y_key cd_y_key ct_y_key), sl_y_key⟩) (c_y_key : PySem.W.codeIn K cd_y_key "y_key" = true) (k_y_key : PySem.W.keepIn K (.ref f_y_key) = true)
    (a_part_of : PySem.W.nsIn K mainGlobals "part_of" = some (some (.ref f_part_of))) (l_part_of : K.lookup f_part_of = some ⟨oc_part_of, od_part_of, .func (PySem.W.fnOf "part_of" "part_of" (defArgs s_part_of) (defBody s_part_of) (defScope s_part_of) .none kV_part_of dc_part_of pm_part_of an_part_of cd_part_of ct_part_of), sl_part_of⟩) (c_part_of : PySem.W.codeIn K cd_part_of "part_of" = true) (k_part_of : PySem.W.keepIn K (.ref f_part_of) = true)
    (a_rows_by_steps : PySem.W.nsIn K mainGlobals "rows_by_steps" = some (some (.ref f_rows_by_steps))) (l_rows_by_steps : K.lookup f_rows_by_steps = some ⟨oc_rows_by_steps, od_rows_by_steps, .func (PySem.W.fnOf "rows_by_steps" "rows_by_steps" (defArgs s_rows_by_steps) (defBody s_rows_by_steps) (defScope s_rows_by_steps) .none kV_rows_by_steps dc_rows_by_steps pm_rows_by_steps an_rows_by_steps cd_rows_by_steps ct_rows_by_steps), sl_rows_by_steps⟩) (c_rows_by_steps : PySem.W.codeIn K cd_rows_by_steps "rows_by_steps" = true) (k_rows_by_steps : PySem.W.keepIn K (.ref f_rows_by_steps) = true)
    (a_masks_around : PySem.W.nsIn K mainGlobals "masks_around" = some (some (.ref f_masks_around))) (l_masks_around : K.lookup f_masks_around = some ⟨oc_masks_around, od_masks_around, .func (PySem.W.fnOf "masks_around" "masks_around" (defArgs s_masks_around) (defBody s_masks_around) (defScope s_masks_around) .none kV_masks_around dc_masks_around pm_masks_around an_masks_around cd_masks_around ct_masks_around), sl_masks_around⟩) (c_masks_around : PySem.W.codeIn K cd_masks_around "masks_around" = true) (k_masks_around : PySem.W.keepIn K (.ref f_masks_around) = true)
    (a_masks_on_axes : PySem.W.nsIn K mainGlobals "masks_on_axes" = some (some (.ref f_masks_on_axes))) (l_masks_on_axes : K.lookup f_masks_on_axes = some ⟨oc_masks_on_axes, od_masks_on_axes, .func (PySem.W.fnOf "masks_on_axes" "masks_on_axes" (defArgs s_masks_on_axes) (defBody s_masks_on_axes) (defScope s_masks_on_axes) .none kV_masks_on_axes dc_masks_on_axes pm_masks_on_axes an_masks_on_axes cd_masks_on_axes ct_masks_on_axes), sl_masks_on_axes⟩) (c_masks_on_axes : PySem.W.codeIn K cd_masks_on_axes "masks_on_axes" = true) (k_masks_on_axes : PySem.W.keepIn K (.ref f_masks_on_axes) = true)
    (a_rows_by_masks : PySem.W.nsIn K mainGlobals "rows_by_masks" = some (some (.ref f_rows_by_masks))) (l_rows_by_masks : K.lookup f_rows_by_masks = some ⟨oc_rows_by_masks, od_rows_by_masks, .func (PySem.W.fnOf "rows_by_masks" "rows_by_masks" (defArgs s_rows_by_masks) (defBody s_rows_by_masks) (defScope s_rows_by_masks) .none kV_rows_by_masks dc_rows_by_masks pm_rows_by_masks an_rows_by_masks cd_rows_by_masks ct_rows_by_masks), sl_rows_by_masks⟩) (c_rows_by_masks : PySem.W.codeIn K cd_rows_by_masks "rows_by_masks" = true) (k_rows_by_masks : PySem.W.keepIn K (.ref f_rows_by_masks) = true)
    (a_quarter_of_rows : PySem.W.nsIn K mainGlobals "quarter_of_rows" = some (some (.ref f_quarter_of_rows))) (l_quarter_of_rows : K.lookup f_quarter_of_rows = some ⟨oc_quarter_of_rows, od_quarter_of_rows, .func (PySem.W.fnOf "quarter_of_rows" "quarter_of_rows" (defArgs s_quarter_of_rows) (defBody s_quarter_of_rows) (defScope s_quarter_of_rows) .none kV_quarter_of_rows dc_quarter_of_rows pm_quarter_of_rows an_quarter_of_rows cd_quarter_of_rows ct_quarter_of_rows), sl_quarter_of_rows⟩) (c_quarter_of_rows : PySem.W.codeIn K cd_quarter_of_rows "quarter_of_rows" = true) (k_quarter_of_rows : PySem.W.keepIn K (.ref f_quarter_of_rows) = true)
    (a_grown : PySem.W.nsIn K mainGlobals "grown" = some (some (.ref f_grown))) (l_grown : K.lookup f_grown = some ⟨oc_grown, od_grown, .func (PySem.W.fnOf "grown" "grown" (defArgs s_grown) (defBody s_grown) (defScope s_grown) .none kV_grown dc_grown pm_grown an_grown cd_grown ct_grown), sl_grown⟩) (c_grown : PySem.W.codeIn K cd_grown "grown" = true) (k_grown : PySem.W.keepIn K (.ref f_grown) = true)
    (a_is_node : PySem.W.nsIn K mainGlobals "is_node" = some (some (.ref f_is_node))) (l_is_node : K.lookup f_is_node = some ⟨oc_is_node, od_is_node, .func (PySem.W.fnOf "is_node" "is_node" (defArgs s_is_node) (defBody s_is_node) (defScope s_is_node) .none kV_is_node dc_is_node pm_is_node an_is_node cd_is_node ct_is_node), sl_is_node⟩) (c_is_node : PySem.W.codeIn K cd_is_node "is_node" = true) (k_is_node : PySem.W.keepIn K (.ref f_is_node) = true)
    (a_narrowed : PySem.W.nsIn K mainGlobals "narrowed" = some (some (.ref f_narrowed))) (l_narrowed : K.lookup f_narrowed = some ⟨oc_narrowed, od_narrowed, .func (PySem.W.fnOf "narrowed" "narrowed" (defArgs s_narrowed) (defBody s_narrowed) (defScope s_narrowed) .none kV_narrowed dc_narrowed pm_narrowed an_narrowed cd_narrowed ct_narrowed), sl_narrowed⟩) (c_narrowed : PySem.W.codeIn K cd_narrowed "narrowed" = true) (k_narrowed : PySem.W.keepIn K (.ref f_narrowed) = true)
    (a_fault_of : PySem.W.nsIn K mainGlobals "fault_of" = some (some (.ref f_fault_of))) (l_fault_of : K.lookup f_fault_of = some ⟨oc_fault_of, od_fault_of, .func (PySem.W.fnOf "fault_of" "fault_of" (defArgs s_fault_of) (defBody s_fault_of) (defScope s_fault_of) .none kV_fault_of dc_fault_of pm_fault_of an_fault_of cd_fault_of ct_fault_of), sl_fault_of⟩) (c_fault_of : PySem.W.codeIn K cd_fault_of "fault_of" = true) (k_fault_of : PySem.W.keepIn K (.ref f_fault_of) = true)
    (a_built : PySem.W.nsIn K mainGlobals "built" = some (some (.ref f_built))) (l_built : K.lookup f_built = some ⟨oc_built, od_built, .func (PySem.W.fnOf "built" "built" (defArgs s_built) (defBody s_built) (defScope s_built) .none kV_built dc_built pm_built an_built cd_built ct_built), sl_built⟩) (c_built : PySem.W.codeIn K cd_built "built" = true) (k_built : PySem.W.keepIn K (.ref f_built) = true)
    (a_is_quarter : PySem.W.nsIn K mainGlobals "is_quarter" = some (some (.ref f_is_quarter))) (l_is_quarter : K.lookup f_is_quarter = some ⟨oc_is_quarter, od_is_quarter, .func (PySem.W.fnOf "is_quarter" "is_quarter" (defArgs s_is_quarter) (defBody s_is_quarter) (defScope s_is_quarter) .none kV_is_quarter dc_is_quarter pm_is_quarter an_is_quarter cd_is_quarter ct_is_quarter), sl_is_quarter⟩) (c_is_quarter : PySem.W.codeIn K cd_is_quarter "is_quarter" = true) (k_is_quarter : PySem.W.keepIn K (.ref f_is_quarter) = true)
    (a_law_mixed : PySem.W.nsIn K mainGlobals "_law_mixed" = some (some (.ref f_law_mixed))) (l_law_mixed : K.lookup f_law_mixed = some ⟨oc_law_mixed, od_law_mixed, .func (PySem.W.fnOf "_law_mixed" "_law_mixed" (defArgs s_law_mixed) (defBody s_law_mixed) (defScope s_law_mixed) .none kV_law_mixed dc_law_mixed pm_law_mixed an_law_mixed cd_law_mixed ct_law_mixed), sl_law_mixed⟩) (c_law_mixed : PySem.W.codeIn K cd_law_mixed "_law_mixed" = true) (k_law_mixed : PySem.W.keepIn K (.ref f_law_mixed) = true)
    (a_law_source : PySem.W.nsIn K mainGlobals "_law_source" = some (some (.ref f_law_source))) (l_law_source : K.lookup f_law_source = some ⟨oc_law_source, od_law_source, .func (PySem.W.fnOf "_law_source" "_law_source" (defArgs s_law_source) (defBody s_law_source) (defScope s_law_source) .none kV_law_source dc_law_source pm_law_source an_law_source cd_law_source ct_law_source), sl_law_source⟩) (c_law_source : PySem.W.codeIn K cd_law_source "_law_source" = true) (k_law_source : PySem.W.keepIn K (.ref f_law_source) = true)
    (a_law_take : PySem.W.nsIn K mainGlobals "_law_take" = some (some (.ref f_law_take))) (l_law_take : K.lookup f_law_take = some ⟨oc_law_take, od_law_take, .func (PySem.W.fnOf "_law_take" "_law_take" (defArgs s_law_take) (defBody s_law_take) (defScope s_law_take) .none kV_law_take dc_law_take pm_law_take an_law_take cd_law_take ct_law_take), sl_law_take⟩) (c_law_take : PySem.W.codeIn K cd_law_take "_law_take" = true) (k_law_take : PySem.W.keepIn K (.ref f_law_take) = true)
    (a_law_pick : PySem.W.nsIn K mainGlobals "_law_pick" = some (some (.ref f_law_pick))) (l_law_pick : K.lookup f_law_pick = some ⟨oc_law_pick, od_law_pick, .func (PySem.W.fnOf "_law_pick" "_law_pick" (defArgs s_law_pick) (defBody s_law_pick) (defScope s_law_pick) .none kV_law_pick dc_law_pick pm_law_pick an_law_pick cd_law_pick ct_law_pick), sl_law_pick⟩) (c_law_pick : PySem.W.codeIn K cd_law_pick "_law_pick" = true) (k_law_pick : PySem.W.keepIn K (.ref f_law_pick) = true)
    (a_law_spots : PySem.W.nsIn K mainGlobals "_law_spots" = some (some (.ref f_law_spots))) (l_law_spots : K.lookup f_law_spots = some ⟨oc_law_spots, od_law_spots, .func (PySem.W.fnOf "_law_spots" "_law_spots" (defArgs s_law_spots) (defBody s_law_spots) (defScope s_law_spots) .none kV_law_spots dc_law_spots pm_law_spots an_law_spots cd_law_spots ct_law_spots), sl_law_spots⟩) (c_law_spots : PySem.W.codeIn K cd_law_spots "_law_spots" = true) (k_law_spots : PySem.W.keepIn K (.ref f_law_spots) = true)
    (a_law_side : PySem.W.nsIn K mainGlobals "_law_side" = some (some (.ref f_law_side))) (l_law_side : K.lookup f_law_side = some ⟨oc_law_side, od_law_side, .func (PySem.W.fnOf "_law_side" "_law_side" (defArgs s_law_side) (defBody s_law_side) (defScope s_law_side) .none kV_law_side dc_law_side pm_law_side an_law_side cd_law_side ct_law_side), sl_law_side⟩) (c_law_side : PySem.W.codeIn K cd_law_side "_law_side" = true) (k_law_side : PySem.W.keepIn K (.ref f_law_side) = true)
    (a_law_grown : PySem.W.nsIn K mainGlobals "_law_grown" = some (some (.ref f_law_grown))) (l_law_grown : K.lookup f_law_grown = some ⟨oc_law_grown, od_law_grown, .func (PySem.W.fnOf "_law_grown" "_law_grown" (defArgs s_law_grown) (defBody s_law_grown) (defScope s_law_grown) .none kV_law_grown dc_law_grown pm_law_grown an_law_grown cd_law_grown ct_law_grown), sl_law_grown⟩) (c_law_grown : PySem.W.codeIn K cd_law_grown "_law_grown" = true) (k_law_grown : PySem.W.keepIn K (.ref f_law_grown) = true)
    (a_law : PySem.W.nsIn K mainGlobals "law" = some (some (.ref f_law))) (l_law : K.lookup f_law = some ⟨oc_law, od_law, .func (PySem.W.fnOf "law" "law" (defArgs s_law) (defBody s_law) (defScope s_law) .none kV_law dc_law pm_law an_law cd_law ct_law), sl_law⟩) (c_law : PySem.W.codeIn K cd_law "law" = true) (k_law : PySem.W.keepIn K (.ref f_law) = true)
    (w_FARTHEST_COORDINATE : PySem.W.nsIn K mainGlobals "FARTHEST_COORDINATE" = some (some (.int Lo tk_FARTHEST_COORDINATE)))
    (w_MOST_POINTS : PySem.W.nsIn K mainGlobals "MOST_POINTS" = some (some (.int 500 tk_MOST_POINTS)))
    (w_MANY_POINTS : PySem.W.nsIn K mainGlobals "MANY_POINTS" = some (some (.int 32 tk_MANY_POINTS)))
    (w_MOST_NODES : PySem.W.nsIn K mainGlobals "MOST_NODES" = some (some (.int 500 tk_MOST_NODES)))
    (w_LAST_PART_FIRST : PySem.W.nsIn K mainGlobals "LAST_PART_FIRST" = some (some (.ref aL)))
    (u_aL : K.lookup aL = some ⟨.type "tuple", tod_aL, .seq #[.int 3 t_l3, .int 2 t_l2, .int 1 t_l1, .int 0 t_l0] tn_aL, tsl_aL⟩)
    (w_ALL_KEYS : PySem.W.nsIn K mainGlobals "ALL_KEYS" = some (some (.ref aK)))
    (u_aK : K.lookup aK = some ⟨.type "tuple", tod_aK, .seq #[.ref b0, .ref b1, .ref b2, .ref b3] tn_aK, tsl_aK⟩)
    (u_b0 : K.lookup b0 = some ⟨.type "tuple", tod_b0, .seq #[.int (-10000000000000000000000000000000) t_x0, .int 0 t_y0] tn_b0, tsl_b0⟩)
    (u_b1 : K.lookup b1 = some ⟨.type "tuple", tod_b1, .seq #[.int (-10000000000000000000000000000000) t_x1, .int 0 t_y1] tn_b1, tsl_b1⟩)
    (u_b2 : K.lookup b2 = some ⟨.type "tuple", tod_b2, .seq #[.int (10000000000000000000000000000000) t_x2, .int 0 t_y2] tn_b2, tsl_b2⟩)
    (u_b3 : K.lookup b3 = some ⟨.type "tuple", tod_b3, .seq #[.int (10000000000000000000000000000000) t_x3, .int 0 t_y3] tn_b3, tsl_b3⟩)
    (z_int : PySem.W.nsIn K mainGlobals "int" = some none)
    (z_abs : PySem.W.nsIn K mainGlobals "abs" = some none)
    (z_len : PySem.W.nsIn K mainGlobals "len" = some none)
    (z_range : PySem.W.nsIn K mainGlobals "range" = some none)
    (z_isinstance : PySem.W.nsIn K mainGlobals "isinstance" = some none)
    (z_bool : PySem.W.nsIn K mainGlobals "bool" = some none)
    (z_tuple : PySem.W.nsIn K mainGlobals "tuple" = some none)
    (z_all : PySem.W.nsIn K mainGlobals "all" = some none)
    (z_repr : PySem.W.nsIn K mainGlobals "repr" = some none)
    (z_list : PySem.W.nsIn K mainGlobals "list" = some none)
    (z_set : PySem.W.nsIn K mainGlobals "set" = some none)
    (z_enumerate : PySem.W.nsIn K mainGlobals "enumerate" = some none)
    (z_sorted : PySem.W.nsIn K mainGlobals "sorted" = some none)
    (z_reversed : PySem.W.nsIn K mainGlobals "reversed" = some none) :
    ∃ fd : FuncData, (∀ (s : Shared) (v : Value), BindsTo s fd ⟨[v], []⟩ [("_law_script", v)]) ∧ ∀ base : Heap, K.In base → base.Ns mainGlobals mg → FnOk l.prog w K mg base CX0 33 fa fd ["_law_script"] (spLaw K) := by
  have e := hfa.symm.trans (PySem.W.mg_of X G a_law)
  cases e
  have F_is_integer := fun_mk (st := s_is_integer) l_is_integer c_is_integer k_is_integer
  have b_is_integer := F_is_integer.binds (ps := ["value"]) fun _ _ _ _ _ _ us hl => match us, hl with | [_], _ => rfl
  have m_is_integer := PySem.W.mg_of X G a_is_integer
  have F_is_coordinate := fun_mk (st := s_is_coordinate) l_is_coordinate c_is_coordinate k_is_coordinate
  have b_is_coordinate := F_is_coordinate.binds (ps := ["value"]) fun _ _ _ _ _ _ us hl => match us, hl with | [_], _ => rfl
  have m_is_coordinate := PySem.W.mg_of X G a_is_coordinate
  have F_is_point := fun_mk (st := s_is_point) l_is_point c_is_point k_is_point
  have b_is_point := F_is_point.binds (ps := ["value"]) fun _ _ _ _ _ _ us hl => match us, hl with | [_], _ => rfl
  have m_is_point := PySem.W.mg_of X G a_is_point
  have F_check_points := fun_mk (st := s_check_points) l_check_points c_check_points k_check_points
  have b_check_points := F_check_points.binds (ps := ["value"]) fun _ _ _ _ _ _ us hl => match us, hl with | [_], _ => rfl
  have m_check_points := PySem.W.mg_of X G a_check_points
  have F_y_key := fun_mk (st := s_y_key) l_y_key c_y_key k_y_key
  have b_y_key := F_y_key.binds (ps := ["point"]) fun _ _ _ _ _ _ us hl => match us, hl with | [_], _ => rfl
  have m_y_key := PySem.W.mg_of X G a_y_key
  have F_part_of := fun_mk (st := s_part_of) l_part_of c_part_of k_part_of
  have b_part_of := F_part_of.binds (ps := ["root", "point"]) fun _ _ _ _ _ _ us hl => match us, hl with | [_, _], _ => rfl
  have m_part_of := PySem.W.mg_of X G a_part_of
  have F_rows_by_steps := fun_mk (st := s_rows_by_steps) l_rows_by_steps c_rows_by_steps k_rows_by_steps
  have b_rows_by_steps := F_rows_by_steps.binds (ps := ["points"]) fun _ _ _ _ _ _ us hl => match us, hl with | [_], _ => rfl
  have m_rows_by_steps := PySem.W.mg_of X G a_rows_by_steps
  have F_masks_around := fun_mk (st := s_masks_around) l_masks_around c_masks_around k_masks_around
  have b_masks_around := F_masks_around.binds (ps := ["numbers"]) fun _ _ _ _ _ _ us hl => match us, hl with | [_], _ => rfl
  have m_masks_around := PySem.W.mg_of X G a_masks_around
  have F_masks_on_axes := fun_mk (st := s_masks_on_axes) l_masks_on_axes c_masks_on_axes k_masks_on_axes
  have b_masks_on_axes := F_masks_on_axes.binds (ps := ["points"]) fun _ _ _ _ _ _ us hl => match us, hl with | [_], _ => rfl
  have m_masks_on_axes := PySem.W.mg_of X G a_masks_on_axes
  have F_rows_by_masks := fun_mk (st := s_rows_by_masks) l_rows_by_masks c_rows_by_masks k_rows_by_masks
  have b_rows_by_masks := F_rows_by_masks.binds (ps := ["points"]) fun _ _ _ _ _ _ us hl => match us, hl with | [_], _ => rfl
  have m_rows_by_masks := PySem.W.mg_of X G a_rows_by_masks
  have F_quarter_of_rows := fun_mk (st := s_quarter_of_rows) l_quarter_of_rows c_quarter_of_rows k_quarter_of_rows
  have b_quarter_of_rows := F_quarter_of_rows.binds (ps := ["points", "rows", "many"]) fun _ _ _ _ _ _ us hl => match us, hl with | [_, _, _], _ => rfl
  have m_quarter_of_rows := PySem.W.mg_of X G a_quarter_of_rows
  have F_grown := fun_mk (st := s_grown) l_grown c_grown k_grown
  have b_grown := F_grown.binds (ps := ["points"]) fun _ _ _ _ _ _ us hl => match us, hl with | [_], _ => rfl
  have m_grown := PySem.W.mg_of X G a_grown
  have F_is_node := fun_mk (st := s_is_node) l_is_node c_is_node k_is_node
  have b_is_node := F_is_node.binds (ps := ["value"]) fun _ _ _ _ _ _ us hl => match us, hl with | [_], _ => rfl
  have m_is_node := PySem.W.mg_of X G a_is_node
  have F_narrowed := fun_mk (st := s_narrowed) l_narrowed c_narrowed k_narrowed
  have b_narrowed := F_narrowed.binds (ps := ["ends", "split", "part"]) fun _ _ _ _ _ _ us hl => match us, hl with | [_, _, _], _ => rfl
  have m_narrowed := PySem.W.mg_of X G a_narrowed
  have F_fault_of := fun_mk (st := s_fault_of) l_fault_of c_fault_of k_fault_of
  have b_fault_of := F_fault_of.binds (ps := ["value"]) fun _ _ _ _ _ _ us hl => match us, hl with | [_], _ => rfl
  have m_fault_of := PySem.W.mg_of X G a_fault_of
  have F_built := fun_mk (st := s_built) l_built c_built k_built
  have b_built := F_built.binds (ps := ["points"]) fun _ _ _ _ _ _ us hl => match us, hl with | [_], _ => rfl
  have m_built := PySem.W.mg_of X G a_built
  have F_is_quarter := fun_mk (st := s_is_quarter) l_is_quarter c_is_quarter k_is_quarter
  have b_is_quarter := F_is_quarter.binds (ps := ["value"]) fun _ _ _ _ _ _ us hl => match us, hl with | [_], _ => rfl
  have m_is_quarter := PySem.W.mg_of X G a_is_quarter
  have F_law_mixed := fun_mk (st := s_law_mixed) l_law_mixed c_law_mixed k_law_mixed
  have b_law_mixed := F_law_mixed.binds (ps := ["_law_cell", "_law_draw"]) fun _ _ _ _ _ _ us hl => match us, hl with | [_, _], _ => rfl
  have m_law_mixed := PySem.W.mg_of X G a_law_mixed
  have F_law_source := fun_mk (st := s_law_source) l_law_source c_law_source k_law_source
  have b_law_source := F_law_source.binds (ps := ["_law_cell"]) fun _ _ _ _ _ _ us hl => match us, hl with | [_], _ => rfl
  have m_law_source := PySem.W.mg_of X G a_law_source
  have F_law_take := fun_mk (st := s_law_take) l_law_take c_law_take k_law_take
  have b_law_take := F_law_take.binds (ps := ["_law_source_here", "_law_bound"]) fun _ _ _ _ _ _ us hl => match us, hl with | [_, _], _ => rfl
  have m_law_take := PySem.W.mg_of X G a_law_take
  have F_law_pick := fun_mk (st := s_law_pick) l_law_pick c_law_pick k_law_pick
  have b_law_pick := F_law_pick.binds (ps := ["_law_source_here", "_law_some"]) fun _ _ _ _ _ _ us hl => match us, hl with | [_, _], _ => rfl
  have m_law_pick := PySem.W.mg_of X G a_law_pick
  have F_law_spots := fun_mk (st := s_law_spots) l_law_spots c_law_spots k_law_spots
  have b_law_spots := F_law_spots.binds (ps := ["_law_source_here", "_law_most"]) fun _ _ _ _ _ _ us hl => match us, hl with | [_, _], _ => rfl
  have m_law_spots := PySem.W.mg_of X G a_law_spots
  have F_law_side := fun_mk (st := s_law_side) l_law_side c_law_side k_law_side
  have b_law_side := F_law_side.binds (ps := ["_law_root", "_law_spot"]) fun _ _ _ _ _ _ us hl => match us, hl with | [_, _], _ => rfl
  have m_law_side := PySem.W.mg_of X G a_law_side
  have F_law_grown := fun_mk (st := s_law_grown) l_law_grown c_law_grown k_law_grown
  have b_law_grown := F_law_grown.binds (ps := ["_law_spots_here"]) fun _ _ _ _ _ _ us hl => match us, hl with | [_], _ => rfl
  have m_law_grown := PySem.W.mg_of X G a_law_grown
  have F_law := fun_mk (st := s_law) l_law c_law k_law
  have m_FARTHEST_COORDINATE := PySem.W.mg_of X G w_FARTHEST_COORDINATE
  have m_MOST_POINTS := PySem.W.mg_of X G w_MOST_POINTS
  have m_MANY_POINTS := PySem.W.mg_of X G w_MANY_POINTS
  have m_MOST_NODES := PySem.W.mg_of X G w_MOST_NODES
  have m_LAST_PART_FIRST := PySem.W.mg_of X G w_LAST_PART_FIRST
  have m_ALL_KEYS := PySem.W.mg_of X G w_ALL_KEYS
  have n_int := PySem.W.mg_none_of X G z_int
  have n_abs := PySem.W.mg_none_of X G z_abs
  have n_len := PySem.W.mg_none_of X G z_len
  have n_range := PySem.W.mg_none_of X G z_range
  have n_isinstance := PySem.W.mg_none_of X G z_isinstance
  have n_bool := PySem.W.mg_none_of X G z_bool
  have n_tuple := PySem.W.mg_none_of X G z_tuple
  have n_all := PySem.W.mg_none_of X G z_all
  have n_repr := PySem.W.mg_none_of X G z_repr
  have n_list := PySem.W.mg_none_of X G z_list
  have n_set := PySem.W.mg_none_of X G z_set
  have n_enumerate := PySem.W.mg_none_of X G z_enumerate
  have n_sorted := PySem.W.mg_none_of X G z_sorted
  have n_reversed := PySem.W.mg_none_of X G z_reversed
  refine ⟨PySem.W.fnOf "law" "law" (defArgs s_law) (defBody s_law) (defScope s_law) .none kV_law dc_law pm_law an_law cd_law ct_law, fun s v => .of_eq rfl, fun base _ _ => ?_⟩
  have B : Bt mg := ⟨n_int, n_abs, n_len, n_range, n_isinstance, n_bool, n_tuple, n_all, n_repr⟩
  have C : B1 mg := ⟨n_list, n_set, n_enumerate, n_sorted⟩
  have G_take := ok_take (P := l.prog) (w := w) (base := base) F_law_take B F_law_mixed b_law_mixed m_law_mixed
  have G_pick := ok_pick (fM := f_law_mixed) (fdM := PySem.W.fnOf "law" "law" (defArgs s_law) (defBody s_law) (defScope s_law) .none kV_law dc_law pm_law an_law cd_law ct_law) F_law_pick B G_take F_law_take.kp b_law_take m_law_take
  have G_spots := ok_spots F_law_spots B G_take F_law_take.kp b_law_take m_law_take G_pick F_law_pick.kp b_law_pick m_law_pick
  have G_up := ok_coord (P := l.prog) (w := w) (base := base) F_is_coordinate B F_is_integer b_is_integer m_is_integer m_FARTHEST_COORDINATE
  have G_ptR := ok_isPtR F_is_point B G_up F_is_coordinate.kp b_is_coordinate m_is_coordinate
  have G_pt := ok_isPt F_is_point B G_up F_is_coordinate.kp b_is_coordinate m_is_coordinate
  have G_cps := ok_chkPs F_check_points B C G_pt F_is_point.kp b_is_point m_is_point m_MOST_POINTS
  have G_yk := ok_yKeyR (P := l.prog) (w := w) (mg := mg) (base := base) F_y_key
  have G_pa := ok_part (P := l.prog) (w := w) (mg := mg) (base := base) F_part_of
  have G_rows := ok_rows F_rows_by_steps B C G_pa F_part_of.kp b_part_of m_part_of
  have G_qor := ok_qor (P := l.prog) (w := w) (base := base) F_quarter_of_rows B n_reversed
  have G_grown := ok_grown F_grown B G_rows F_rows_by_steps.kp b_rows_by_steps m_rows_by_steps G_qor F_quarter_of_rows.kp b_quarter_of_rows m_quarter_of_rows m_MANY_POINTS
  have G_node := ok_isNode F_is_node B G_ptR F_is_point.kp b_is_point m_is_point
  have G_nar := ok_nar (P := l.prog) (w := w) (mg := mg) (base := base) F_narrowed
  have FC : FaultC K mg aK aL b0 b1 b2 b3 tk_MOST_NODES := ⟨m_ALL_KEYS, tup4R u_aK, fun H => ⟨tup2I u_b0 H, tup2I u_b1 H, tup2I u_b2 H, tup2I u_b3 H⟩, m_LAST_PART_FIRST, tup4I u_aL, m_MOST_NODES⟩
  have G_fault := ok_fault F_fault_of FC G_node F_is_node.kp b_is_node m_is_node G_yk F_y_key.kp b_y_key m_y_key G_nar F_narrowed.kp b_narrowed m_narrowed
  have G_isq := ok_isQ F_is_quarter G_fault F_fault_of.kp b_fault_of m_fault_of
  have G_built := ok_built F_built G_cps F_check_points.kp b_check_points m_check_points G_grown F_grown.kp b_grown m_grown
  have G_side := ok_side (P := l.prog) (w := w) (base := base) F_law_side B
  have G_lg := ok_lg F_law_grown B G_side F_law_side.kp b_law_side m_law_side F_law_grown.kp b_law_grown m_law_grown 30
  have kb_b := kb1_of (ps := ["points"]) (ks := ["points"]) F_built rfl fun _ _ _ _ _ _ _ => rfl
  have kb_q := kb1_of (ps := ["value"]) (ks := ["value"]) F_is_quarter rfl fun _ _ _ _ _ _ _ => rfl
  exact ok_law F_law B C (ok_source F_law_source B) F_law_source.kp b_law_source m_law_source G_spots F_law_spots.kp b_law_spots m_law_spots G_lg F_law_grown.kp b_law_grown m_law_grown
    G_built F_built.kp b_built m_built kb_b G_isq F_is_quarter.kp b_is_quarter m_is_quarter kb_q
end Q2
open PySem PySem.W PyProof.Rows
set_option maxHeartbeats 0 in
theorem PySem.Challenge.cw_planesplits_k07_trees_built_holds : PySem.Challenge.rw_planesplits_k07_trees_built.Holds := by
  w_on; o_law; k_head; (case hw => w_witness2)
  k_fill
  refine L2.walk_of (l := PySem.Challenge.rw_planesplits_k07_trees_built) (n := 63) (k := 33) (x := "_law_script") (CX := fun _ => L2.CX0) (sp := fun w => Q2.spLaw _) rfl (by decide) rfl ⟨rfl, by decide, by decide⟩ (fun w h Y => PySem.W.km_in_of Y) ?F (fun _ _ a ns hl _ hS => ⟨a, ns, rfl, hS, hl, fun _ => rfl⟩) (fun _ _ _ _ _ h => h)
  case F =>
    intro w mg fa h KX G hmg
    refine' Q2.all_mk KX G hmg ?a_is_integer ?l_is_integer ?c_is_integer ?k_is_integer ?a_is_coordinate ?l_is_coordinate ?c_is_coordinate ?k_is_coordinate ?a_is_point ?l_is_point ?c_is_point ?k_is_point ?a_check_points ?l_check_points ?c_check_points ?k_check_points ?a_y_key ?l_y_key ?c_y_key ?k_y_key ?a_part_of ?l_part_of ?c_part_of ?k_part_of ?a_rows_by_steps ?l_rows_by_steps ?c_rows_by_steps ?k_rows_by_steps ?a_masks_around ?l_masks_around ?c_masks_around ?k_masks_around ?a_masks_on_axes ?l_masks_on_axes ?c_masks_on_axes ?k_masks_on_axes ?a_rows_by_masks ?l_rows_by_masks ?c_rows_by_masks ?k_rows_by_masks ?a_quarter_of_rows ?l_quarter_of_rows ?c_quarter_of_rows ?k_quarter_of_rows ?a_grown ?l_grown ?c_grown ?k_grown ?a_is_node ?l_is_node ?c_is_node ?k_is_node ?a_narrowed ?l_narrowed ?c_narrowed ?k_narrowed ?a_fault_of ?l_fault_of ?c_fault_of ?k_fault_of ?a_built ?l_built ?c_built ?k_built ?a_is_quarter ?l_is_quarter ?c_is_quarter ?k_is_quarter ?a_law_mixed ?l_law_mixed ?c_law_mixed ?k_law_mixed ?a_law_source ?l_law_source ?c_law_source ?k_law_source ?a_law_take ?l_law_take ?c_law_take ?k_law_take ?a_law_pick ?l_law_pick ?c_law_pick ?k_law_pick ?a_law_spots ?l_law_spots ?c_law_spots ?k_law_spots ?a_law_side ?l_law_side ?c_law_side ?k_law_side ?a_law_grown ?l_law_grown ?c_law_grown ?k_law_grown ?a_law ?l_law ?c_law ?k_law ?w_FARTHEST_COORDINATE ?w_MOST_POINTS ?w_MANY_POINTS ?w_MOST_NODES ?w_LAST_PART_FIRST ?u_aL ?w_ALL_KEYS ?u_aK ?u_b0 ?u_b1 ?u_b2 ?u_b3 ?z_int ?z_abs ?z_len ?z_range ?z_isinstance ?z_bool ?z_tuple ?z_all ?z_repr ?z_list ?z_set ?z_enumerate ?z_sorted ?z_reversed
    (case a_is_integer => k_is)
    (case l_is_integer => k_is)
    (case c_is_integer => k_is)
    (case k_is_integer => k_is)
    (case a_is_coordinate => k_is)
    (case l_is_coordinate => k_is)
    (case c_is_coordinate => k_is)
    (case k_is_coordinate => k_is)
    (case a_is_point => k_is)
    (case l_is_point => k_is)
    (case c_is_point => k_is)
    (case k_is_point => k_is)
    (case a_check_points => k_is)
    (case l_check_points => k_is)
    (case c_check_points => k_is)
    (case k_check_points => k_is)
    (case a_y_key => k_is)
    (case l_y_key => k_is)
    (case c_y_key => k_is)
    (case k_y_key => k_is)
    (case a_part_of => k_is)
    (case l_part_of => k_is)
    (case c_part_of => k_is)
    (case k_part_of => k_is)
    (case a_rows_by_steps => k_is)
    (case l_rows_by_steps => k_is)
    (case c_rows_by_steps => k_is)
    (case k_rows_by_steps => k_is)
    (case a_masks_around => k_is)
    (case l_masks_around => k_is)
    (case c_masks_around => k_is)
    (case k_masks_around => k_is)
    (case a_masks_on_axes => k_is)
    (case l_masks_on_axes => k_is)
    (case c_masks_on_axes => k_is)
    (case k_masks_on_axes => k_is)
    (case a_rows_by_masks => k_is)
    (case l_rows_by_masks => k_is)
    (case c_rows_by_masks => k_is)
    (case k_rows_by_masks => k_is)
    (case a_quarter_of_rows => k_is)
    (case l_quarter_of_rows => k_is)
    (case c_quarter_of_rows => k_is)
    (case k_quarter_of_rows => k_is)
    (case a_grown => k_is)
    (case l_grown => k_is)
    (case c_grown => k_is)
    (case k_grown => k_is)
    (case a_is_node => k_is)
    (case l_is_node => k_is)
    (case c_is_node => k_is)
    (case k_is_node => k_is)
    (case a_narrowed => k_is)
    (case l_narrowed => k_is)
    (case c_narrowed => k_is)
    (case k_narrowed => k_is)
    (case a_fault_of => k_is)
    (case l_fault_of => k_is)
    (case c_fault_of => k_is)
    (case k_fault_of => k_is)
    (case a_built => k_is)
    (case l_built => k_is)
    (case c_built => k_is)
    (case k_built => k_is)
    (case a_is_quarter => k_is)
    (case l_is_quarter => k_is)
    (case c_is_quarter => k_is)
    (case k_is_quarter => k_is)
    (case a_law_mixed => k_is)
    (case l_law_mixed => k_is)
    (case c_law_mixed => k_is)
    (case k_law_mixed => k_is)
    (case a_law_source => k_is)
    (case l_law_source => k_is)
    (case c_law_source => k_is)
    (case k_law_source => k_is)
    (case a_law_take => k_is)
    (case l_law_take => k_is)
    (case c_law_take => k_is)
    (case k_law_take => k_is)
    (case a_law_pick => k_is)
    (case l_law_pick => k_is)
    (case c_law_pick => k_is)
    (case k_law_pick => k_is)
    (case a_law_spots => k_is)
    (case l_law_spots => k_is)
    (case c_law_spots => k_is)
    (case k_law_spots => k_is)
    (case a_law_side => k_is)
    (case l_law_side => k_is)
    (case c_law_side => k_is)
    (case k_law_side => k_is)
    (case a_law_grown => k_is)
    (case l_law_grown => k_is)
    (case c_law_grown => k_is)
    (case k_law_grown => k_is)
    (case a_law => k_is)
    (case l_law => k_is)
    (case c_law => k_is)
    (case k_law => k_is)
    (case w_FARTHEST_COORDINATE => k_is)
    (case w_MOST_POINTS => k_is)
    (case w_MANY_POINTS => k_is)
    (case w_MOST_NODES => k_is)
    (case w_LAST_PART_FIRST => k_is)
    (case u_aL => k_is)
    (case w_ALL_KEYS => k_is)
    (case u_aK => k_is)
    (case u_b0 => k_is)
    (case u_b1 => k_is)
    (case u_b2 => k_is)
    (case u_b3 => k_is)
    (case z_int => k_is)
    (case z_abs => k_is)
    (case z_len => k_is)
    (case z_range => k_is)
    (case z_isinstance => k_is)
    (case z_bool => k_is)
    (case z_tuple => k_is)
    (case z_all => k_is)
    (case z_repr => k_is)
    (case z_list => k_is)
    (case z_set => k_is)
    (case z_enumerate => k_is)
    (case z_sorted => k_is)
    (case z_reversed => k_is)

