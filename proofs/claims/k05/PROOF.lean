import PyProof.Rows.All
import Wide.All
import OpenK.AllK
import Wide.FinOn
import HandS.ForMost
import HandS.Wide
import HandS.Deep
import HandS.IsInst
import HandS.Walk
import HandS.TupSets
import KE.SortKeyHeap
import HandS.SortKw
import KE.GoesEnum
import KE.GoesMore
import HandS.TupLe
import HandS.RaiseMore
import HandS.Style
import HandS.Conv
import PySem.Challenge.RW_planesplits_k05_whole_parts_turned_about
set_option Elab.async false
set_option linter.all false
set_option maxRecDepth 100000
set_option maxHeartbeats 4000000
namespace Q2
open PySem PySem.Spec PyProof.Rows L2
/-! ### rules that the layer lacks -/
section
variable {X : Cx}
/-- x ** n of great ints -/
def CPowW (i j : Int) : Prop := 0 ≤ j ∧ (Builtin.Int.intBits i : Int) * j ≤ 2 ^ 27
theorem op_powW : OpR X (binaryOp .Pow) (rI CPowW fun i j => .int (i ^ j.toNat)) := opI fun _ _ _ _ _ _ _ hc q => pow_int hc.1 hc.2 q
theorem powW2 {i : Int} (h : i.natAbs < 2 ^ 1000) : CPowW i 2 := by
  have h1 := PySem.Flt.log2_lt_of (by decide : 0 < 1000) h
  have h2 : Builtin.Int.intBits i ≤ i.natAbs.log2 + 1 := by
    unfold Builtin.Int.intBits
    split <;> omega
  refine ⟨by decide, ?_⟩
  have h3 : ((2 : Int) ^ 27) = 134217728 := by decide
  rw [h3]
  omega
/-- list + list, either of which may be read only -/
def rCatL (K : PySem.W.Frag) : R2 := fun x y H Q => ∃ l b xs zs, x = .ref l ∧ y = .ref b ∧ SqL K H l xs ∧ SqL K H b zs ∧ xs.length + zs.length ≤ sizeLine ∧ ∀ p, H p = none → Q (.ref p) (upd H p (.lst (xs ++ zs)))
theorem op_catL : OpR X (binaryOp .Add) (rCatL X.K) := by
  intro pins s σ H x y v u Q I rx ry h
  obtain ⟨l, b, xs, zs, rfl, rfl, hH, hB, hz, q⟩ := h
  cases rx
  cases ry
  obtain ⟨its, r, ⟨⟨cls, dd, data, sl⟩, n, ho, hc, hdn, hdt⟩, hl⟩ := I.list hH
  obtain ⟨its2, r2, ⟨⟨cls2, dd2, data2, sl2⟩, n2, ho2, hc2, hdn2, hdt2⟩, hl2⟩ := I.list hB
  simp only at hc hdt hc2 hdt2
  subst hc hdt hc2 hdt2
  have e1 := r.length
  have e2 := r2.length
  refine concat_meets ⟨_, ho, rfl⟩ ⟨_, ho2, rfl⟩ noFill_list_add seq_list_add PySem.F.slot_list_add PySem.F.entry_list_add (PySem.F.args_list_add_2 _ _) (list_addW l b its.toArray its2.toArray n n2 dd dd2 sl sl2 (by simp only [List.size_toArray]; omega)) ⟨ho, ho2, ?_⟩
  have ea : its.toArray ++ its2.toArray = (its ++ its2).toArray := by simp
  rw [ea]
  exact ⟨.ref _, _, I.lnew (t' := s.toks) (r.append r2) (by rw [List.length_append]; omega), rfl, q _ I.fresh⟩
/-- repr of a bool -/
def bStr (b : Bool) : Str := if b then "True" else "False"
theorem call_repr_bool : CallR X (.builtin "repr") (fun xs H Q => ∃ b, xs = [.bl b] ∧ Q (.str (bStr b)) H) := by
  intro pins s σ H xs us Q I r h
  obtain ⟨b, rfl, q⟩ := h
  cases r with
  | cons r1 r2 =>
    cases r2
    cases r1
    exact PySem.P.repr_of_bool ⟨.str _, H, I.tok _, ⟨_, rfl⟩, q⟩
section
variable {CX : CXT} {k : Nat} {f : Addr} {fd : FuncData} {ps ks : List Str} {sp : Sp} {E : XK} {x : Str} {p pos : Pos} {kws : List Keyword} {tk : TA} {g : List Value → List Value → List Value} {gV : List V → List V → List V}
/-- f(k = v, ..) -/
theorem pe_callK0 (F : FnOk X.prog X.w X.K X.mg X.base CX k f fd ps sp) (hr : Room k X.A) (hg : Gl X x) (hm : X.mg x = some (.ref f)) (hk : PySem.W.keepIn X.K (.ref f) = true) (hb : KBinds X.K fd ps ks g gV) (hx : Passes CX X E)
    (hkw : PK X kws tk) (hall : (backToKw pos (keywordEach kws X.env)).all (·.1.isSome) = true := by rfl) (hks : (backToKw pos (keywordEach kws X.env)).filterMap (·.1) = ks := by rfl)
    (hdb : (x == ("__debug__" : Str)) = false := by decide)
    (hpl : ((backTo pos (starEach [] X.env)).any (·.1) || (backToKw pos (keywordEach kws X.env)).any (·.1.isNone)) = false := by rfl) :
    PE X (.Call (.Name x p) [] kws pos) (tCallK sp gV E tNil tk) := by
  refine ⟨fun pins s σ H Q I h => ?_⟩
  refine wpAny_Call_Name_kw (ld_glob I hg hm ?_ hdb)
  refine PySem.W.callWith_KW0 (h₀ := X.base) I.ok.mod.kin hk hall ?_ hpl
  refine thn (hkw.run pos pins s σ H _ I h) fun ws s2 ⟨zs, H2, I2, rz, q2⟩ => ⟨I2.kIn, ?_⟩
  rw [hks]
  exact run_fnk F hr hb hx I2 .nil rz q2
end
end
/-! ### heaps -/
/-- all that was tracked stands, but what is at s -/
def Ex (s : Addr) (H H' : Hp) : Prop := ∀ b o, H b = some o → b ≠ s → H' b = some o
theorem Ex.refl (s : Addr) (H : Hp) : Ex s H H := fun _ _ h _ => h
theorem Ex.trans {s : Addr} {H H1 H2 : Hp} (a : Ex s H H1) (b : Ex s H1 H2) : Ex s H H2 := fun c o h n => b c o (a c o h n) n
theorem Ex.same {s : Addr} {H H' : Hp} (e : Same H H') : Ex s H H' := fun b o h _ => e b o h
theorem Ex.put {s : Addr} {H : Hp} {o : HO} : Ex s H (upd H s o) := fun b o' h n => by rw [upd_ne n]; exact h
theorem same_new {H : Hp} {p : Addr} {o : HO} (h : H p = none) : Same H (upd H p o) := fun b x e => by
  rw [upd_ne (ne_of_none e h)]
  exact e
/-- the source: a list of three ints, the first not negative -/
def Src (H : Hp) (s : Addr) : Prop := ∃ a b c : Int, 0 ≤ a ∧ H s = some (.lst [.int a, .int b, .int c])
theorem Src.same {H H' : Hp} {s : Addr} (e : Same H H') (h : Src H s) : Src H' s := by
  obtain ⟨a, b, c, h0, h⟩ := h
  exact ⟨a, b, c, h0, e _ _ h⟩
theorem Src.ne {H : Hp} {s p : Addr} (h : Src H s) (hp : H p = none) : p ≠ s := by
  obtain ⟨a, b, c, h0, h⟩ := h
  exact (ne_of_none h hp).symm
/-- points that stand in the heap -/
abbrev Pts := List (Addr × Int × Int)
def PtAt (H : Hp) (B : Int) (q : Addr × Int × Int) : Prop := H q.1 = some (.tup [.int q.2.1, .int q.2.2]) ∧ (-B ≤ q.2.1 ∧ q.2.1 ≤ B) ∧ (-B ≤ q.2.2 ∧ q.2.2 ≤ B)
def Spots (H : Hp) (B : Int) (a : Addr) (ps : Pts) : Prop := H a = some (.lst (ps.map fun q => V.ref q.1)) ∧ ps.length ≤ 40 ∧ ∀ q ∈ ps, PtAt H B q
theorem PtAt.same {H H' : Hp} {B : Int} {q : Addr × Int × Int} (e : Same H H') (h : PtAt H B q) : PtAt H' B q := ⟨e _ _ h.1, h.2⟩
theorem PtAt.ex {H H' : Hp} {B : Int} {s : Addr} {q : Addr × Int × Int} (hs : Src H s) (e : Ex s H H') (h : PtAt H B q) : PtAt H' B q := by
  obtain ⟨a, b, c, h0, hs⟩ := hs
  exact ⟨e _ _ h.1 (ne_of h.1 hs (by intro z; cases z)), h.2⟩
theorem Spots.same {H H' : Hp} {B : Int} {a : Addr} {ps : Pts} (e : Same H H') (h : Spots H B a ps) : Spots H' B a ps := ⟨e _ _ h.1, h.2.1, fun q hq => (h.2.2 q hq).same e⟩
theorem Spots.ex {H H' : Hp} {B : Int} {s a : Addr} {ps : Pts} (hs : Src H s) (n : a ≠ s) (e : Ex s H H') (h : Spots H B a ps) : Spots H' B a ps := ⟨e _ _ h.1 n, h.2.1, fun q hq => (h.2.2 q hq).ex hs e⟩
theorem small40 {n : Nat} (h : n ≤ 1000) : n ≤ sizeLine := Nat.le_of_lt (small1000 h)
/-! ### a tuple's equality as data -/
def ptD (z : Int × Int) : PyData := .tuple [.int z.1, .int z.2]
theorem ptD_lay (z : Int × Int) : (ptD z).canLay0 = true := by simp [ptD, PyData.canLay0, PyData.canLayAll0]
theorem ptD_depth (z : Int × Int) : (ptD z).depth = 1 := by simp [ptD, PyData.depth, PyData.depthAll]
theorem ptDs_lay : ∀ zs : List (Int × Int), PyData.canLayAll0 (zs.map ptD) = true
  | [] => by simp [PyData.canLayAll0]
  | z :: zs => by simp [PyData.canLayAll0, ptD_lay z, ptDs_lay zs]
theorem ptDs_depth : ∀ zs : List (Int × Int), PyData.depthAll (zs.map ptD) ≤ 2
  | [] => by simp [PyData.depthAll]
  | z :: zs => by
    have h1 := ptDs_depth zs
    have h2 := ptD_depth z
    simp only [List.map_cons, PyData.depthAll]
    omega
theorem ptD_shaped (z : Int × Int) : SeqAt.shaped (ptD z) = true := by
  have h := ptD_depth z
  show ((ptD z).canLay0 && decide ((ptD z).depth ≤ 64)) = true
  rw [Bool.and_eq_true]
  exact ⟨ptD_lay z, decide_eq_true (by omega)⟩
theorem ptDs_shaped (zs : List (Int × Int)) : SeqAt.shaped (.list (zs.map ptD)) = true := by
  have h1 := ptDs_depth zs
  have h2 : PyData.depth (.list (zs.map ptD)) ≤ 64 := by
    simp only [PyData.depth]
    omega
  show (PyData.canLay0 (.list (zs.map ptD)) && decide (PyData.depth (.list (zs.map ptD)) ≤ 64)) = true
  rw [Bool.and_eq_true]
  exact ⟨by simp only [PyData.canLay0]; exact ptDs_lay zs, decide_eq_true h2⟩
theorem ptD_eqv (z w : Int × Int) : PyData.eqv (ptD z) (ptD w) = decide (z = w) := by
  obtain ⟨a, b⟩ := z
  obtain ⟨a', b'⟩ := w
  have e : PyData.eqv (ptD (a, b)) (ptD (a', b')) = ((a == a') && ((b == b') && true)) := by simp only [ptD, PyData.eqv, PyData.eqvAll]
  rw [e]
  by_cases h : a = a'
  · by_cases h2 : b = b'
    · subst h h2
      simp
    · simp [h, h2]
  · simp [h]
theorem dp_pt {K : PySem.W.Frag} {H : Hp} {B : Int} {q : Addr × Int × Int} (h : PtAt H B q) : Dp K H (.ref q.1) (ptD q.2) := .tup (SqT.of h.1) (.cons (.int _) (.cons (.int _) .nil))
theorem dp_pts {K : PySem.W.Frag} {H : Hp} {B : Int} : ∀ {ps : Pts}, (∀ q ∈ ps, PtAt H B q) → DpAll K H (ps.map fun q => V.ref q.1) ((ps.map (·.2)).map ptD)
  | [], _ => .nil
  | q :: ps, h => .cons (dp_pt (h q (List.mem_cons_self ..))) (dp_pts fun z hz => h z (List.mem_cons_of_mem _ hz))
theorem dp_spots {K : PySem.W.Frag} {H : Hp} {B : Int} {a : Addr} {ps : Pts} (h : Spots H B a ps) : Dp K H (.ref a) (.list ((ps.map (·.2)).map ptD)) := .lst (SqL.of h.1) (dp_pts h.2.2)
theorem any_pt (zs : List (Int × Int)) (w : Int × Int) : ((zs.map ptD).any fun z => PyData.eqv z (ptD w)) = decide (w ∈ zs) := by
  induction zs with
  | nil => simp
  | cons z zs ih =>
    rw [List.map_cons, List.any_cons, ih, ptD_eqv]
    by_cases h : z = w
    · subst h
      simp
    · have h' : ¬ w = z := fun e => h e.symm
      simp [h, h']
end Q2

namespace Q2
open PySem PySem.Spec PyProof.Rows L2
section
variable {P : Program} {w : World} {A : Around} {E : Value → Shared → Prop} {s : Shared} {a : Addr} {L : List (Addr × List Int)} {es : Array (Int × Value)} {ep : Nat} {t : SetTable}
/-- the search of a key that is no member comes to the first empty slot, whatever its hash meets on the way -/
theorem free_from (R : SetTR P w s.heap a L es ep t) {x : Addr} {k : List Int} (kx : IsT P w s.heap k x) (un : A.units < cLine) (out : k ∉ L.map (·.2)) {K : Nat} (lessK : K < 10 * SetTable.turns t.mask)
    (gapK : way t.mask (thash P w k) K ∉ t.place.toList) (fullK : ∀ c, c < K → way t.mask (thash P w k) c ∈ t.place.toList) {Q : SetFound → Shared → Prop} (win : Q (.free (way t.mask (thash P w k) K) false) s) :
    ∀ (f c : Nat) (stand : Option SetTable.Probe), stand.getD (t.probeStart (thash P w k)) = nth t.mask (runAt t.mask (SetTable.bits (thash P w k) % (t.mask + 1)) (SetTable.bits (thash P w k))) c → c ≤ K → K - c < f →
      wpAny (model P w) A (setSearchFrom a (.ref x) (thash P w k) false f stand) Q E s
  | 0, c, stand, _, _, less => absurd less (Nat.not_lt_zero _)
  | f + 1, c, stand, here, cK, less => by
    obtain ⟨ob, hob, exact_, dat⟩ := R.ob
    rw [setSearchFrom_succ]
    refine wpAny_bind ((wpAny_setState_of hob dat R.fits) ?_)
    dsimp only
    refine (wp_if_neg R.gw) ?_
    try refine (wpAny_bind (wpAny_pure ?_))
    -- the probe, c steps on
    generalize base0 : runAt t.mask (SetTable.bits (thash P w k) % (t.mask + 1)) (SetTable.bits (thash P w k)) = p0 at here
    have noDummy : ∀ (n : Nat) (p : SetTable.Probe), p.dummy = none → (nth t.mask p n).dummy = none := fun n => by
      induction n with
      | zero => exact fun p h => h
      | succ n ih => exact fun p h => ih (adv t.mask p) (by unfold adv; split <;> exact h)
    have d0 : p0.dummy = none := by rw [← base0]; rfl
    have go_on : ∀ q, nth t.mask (nth t.mask p0 c) q = nth t.mask p0 (c + q) := fun q => (nth_add t.mask c p0 q).symm
    have at_ : ∀ q, (nth t.mask p0 q).j = way t.mask (thash P w k) q := fun q => by rw [← base0]
    have at2 : ∀ q, (nth t.mask (nth t.mask p0 c) q).j = way t.mask (thash P w k) (c + q) := fun q => by rw [go_on, at_]
    have found := go_spec t R.tab.ris R.tab.dm (fun i => (es[i]?.map (·.1)).getD 0) (thash P w k) (10 * SetTable.turns t.mask) (K - c) (nth t.mask p0 c) (noDummy c p0 d0) (Nat.lt_of_le_of_lt (Nat.sub_le K c) lessK)
      (fun q hq => by rw [at2]; exact fullK (c + q) (Nat.add_lt_of_lt_sub' hq)) (by rw [at2, Nat.add_sub_cancel' cK]; exact gapK)
    rcases found with ⟨q, i, hq, slot, _, _, ans⟩ | ⟨_, ans⟩
    · have ans2 : t.probe (fun i => (es[i]?.map (·.1)).getD 0) (thash P w k) (stand.getD (t.probeStart (thash P w k))) = some (.candidate (way t.mask (thash P w k) (c + q)) i (nth t.mask p0 (c + (q + 1)))) := by
        rw [here, ← at2, ← go_on]
        exact ans
      rw [ans2]
      dsimp only
      rw [at2] at slot
      have small : i < L.length := by
        have y1 : i < t.place.toList.length := (List.getElem?_eq_some_iff.mp slot).1
        have y2 := R.tab.sz
        rw [List.length_map] at y2
        rw [Array.length_toList] at y1
        omega
      obtain ⟨p, hp⟩ : ∃ p, L[i]? = some p := ⟨L[i], List.getElem?_eq_getElem small⟩
      have pin : p ∈ L := List.mem_of_getElem? hp
      have other : p.2 ≠ k := fun e => out (List.mem_map.mpr ⟨p, pin, e⟩)
      have behind : wpAny (model P w) A (searchRest a (.ref x) (thash P w k) false f es t (way t.mask (thash P w k) (c + q)) i (nth t.mask p0 (c + (q + 1)))) Q E s := by
        unfold searchRest
        rw [R.entry hp]
        dsimp only
        refine wpAny_bind (wpAny_holding ((wpAny_eqBool_tuple un (R.tup p pin) kx) ?_))
        refine wpAny_bind ((wpAny_setState_of hob dat R.fits) ?_)
        dsimp only
        refine (wp_if_neg (by simp)) ?_
        try refine (wpAny_bind (wpAny_pure ?_))
        rw [sameMem]
        dsimp only
        have live := slot_live R.tab.ris slot
        simp only [if_true, live, R.entry hp]
        refine wpAny_bind (wpAny_isSame_ref_self (wpAny_bind (wpAny_pure ?_)))
        simp only [if_true]
        refine (wp_if_neg (by simp [other])) ?_
        refine free_from R kx un out lessK gapK fullK win f (c + (q + 1)) (some (nth t.mask p0 (c + (q + 1)))) ?_ (by omega) (by omega)
        rw [base0]
        rfl
      by_cases led : t.led = true
      · refine (wp_if_neg (by simp [led])) ?_
        try refine (wpAny_bind (wpAny_pure ?_))
        exact behind
      · refine (wp_if_pos (by simp [led])) ?_
        refine wpAny_bind ((seen_tup kx fun y hy => ?_) ?_)
        · obtain ⟨e, he, ee⟩ := List.mem_map.mp hy
          have e1 : e ∈ es ∧ e.1 = thash P w k := by simpa using he
          have e2 : e ∈ es.toList := by simpa using e1.1
          rw [R.rows] at e2
          obtain ⟨p2, m2, rfl⟩ := List.mem_map.mp e2
          exact ⟨p2.2, p2.1, ee.symm, R.tup p2 m2⟩
        · refine (wp_if_neg (by decide)) ?_
          try refine (wpAny_bind (wpAny_pure ?_))
          exact behind
    · have ans2 : t.probe (fun i => (es[i]?.map (·.1)).getD 0) (thash P w k) (stand.getD (t.probeStart (thash P w k))) = some (.empty (way t.mask (thash P w k) K) none) := by
        have e2 : way t.mask (thash P w k) K = (nth t.mask (nth t.mask p0 c) (K - c)).j := by rw [at2, Nat.add_sub_cancel' cK]
        rw [here, e2]
        exact ans
      rw [ans2]
      dsimp only
      exact wpAny_pure win
/-- the key is not there -/
theorem find_out (R : SetTR P w s.heap a L es ep t) {x : Addr} {k : List Int} (kx : IsT P w s.heap k x) (un : A.units < cLine) (out : k ∉ L.map (·.2)) {Q : Option Nat → Shared → Prop} (win : Q none s) :
    wpAny (model P w) A (setFind a (.ref x) (thash P w k)) Q E s := by
  obtain ⟨ob, hob, exact_, dat⟩ := R.ob
  have room_ := R.room
  obtain ⟨K, lessK, gapK, fullK⟩ := R.tab.first (by rw [List.length_map]; omega) (thash P w k)
  have few : K < 100000 := by
    have : 10 * SetTable.turns t.mask ≤ 1420 := by
      unfold SetTable.turns
      rcases R.tab.mok with e | e | e <;> omega
    omega
  unfold setFind
  rw [show (100000 : Nat) = 99999 + 1 from rfl]
  unfold setFindIn
  refine wpAny_bind ((wpAny_setState_of hob dat R.fits) ?_)
  dsimp only
  refine (wp_if_neg (by simp [byScan, Value.scannable])) ?_
  try refine (wpAny_bind (wpAny_pure ?_))
  unfold setSearch
  refine wpAny_bind (free_from R kx un out lessK gapK fullK ?_ 100000 0 none rfl (Nat.zero_le _) (by omega))
  dsimp only
  exact wpAny_pure win
end
section
variable {X : Cx}
theorem cr_set0T : CallR X (.type "set") (fun xs H Q => xs = [] ∧ ∀ p, H p = none → Q (.ref p) (upd H p (SetTO X.prog X.w p []))) := by
  intro pins s σ H xs us Q I r h
  obtain ⟨rfl, q⟩ := h
  cases r
  refine setR_new fun _ => ?_
  exact ⟨.ref _, upd H s.heap.objs.size (SetTO X.prog X.w s.heap.objs.size []), I.laid (t' := s.toks) (fun b u e => Heap.get?_push_of_some _ e) (Nat.le_refl _) (setTO_new (setTR_fresh (Heap.get?_push_size _ rfl)).t0), rfl, q _ (I.hok.fresh (Nat.le_refl _))⟩
theorem setT_full {pins : List (Addr × Obj)} {σ : L2.St} {H : Hp} {s : Shared} {a : Addr} {L : List (Addr × List Int)} (I : Inv X pins σ H s) (h : H a = some (SetTO X.prog X.w a L)) (ht : ∀ p ∈ L, SqT X.K H p.1 (p.2.map V.int)) : ∃ es ep t, SetTR X.prog X.w s.heap a L es ep t := by
  have o := I.hok a _ h
  have z : SetT0 X.prog X.w s.heap a L := o.1
  exact z.full fun p hp => I.isT (ht p hp)
/-- t in found, which it is not -/
def rOutT (K : PySem.W.Frag) (P : Program) (w : World) : R2 := fun x y H Q => ∃ (b a : Addr) (k : List Int) (L : List (Addr × List Int)), x = .ref b ∧ y = .ref a ∧ SqT K H b (k.map V.int) ∧ H a = some (SetTO P w a L) ∧ (∀ p ∈ L, SqT K H p.1 (p.2.map V.int)) ∧ k ∉ L.map (·.2) ∧ Q (.bl false) H
theorem op_outT (un : X.A.units + 64 < cLine) : OpR X (compareOp .In) (rOutT X.K X.prog X.w) := by
  intro pins s σ H x y v u Q I rx ry h
  obtain ⟨b, a, k, L, rfl, rfl, hk, ha, hL, out, q⟩ := h
  cases rx
  cases ry
  obtain ⟨es, ep, t, R⟩ := setT_full I ha hL
  obtain ⟨ob, hob, ex, dat⟩ := R.ob
  have ty : s.TypeIs (.ref a) "set" := ⟨ob, hob, ex.1⟩
  show wpAny _ _ (do return Value.bool (← contains (.ref a) (.ref b))) _ _ s
  refine (wpAny_bind ?_)
  unfold contains
  try with_reducible refine (wpAny_holding ?_)
  refine wpAny_bind ((wpAny_specialOf ty PySem.F.slot_set_contains.lookup) ?_)
  show wpAny _ _ (if (some (Value.builtin "set.__contains__") == some Value.none) = true then _ else _) _ _ s
  rw [if_neg (show ¬ _ by rw [beq_builtin_none]; exact Bool.false_ne_true)]
  refine wpAny_bind ((wpAny_callSpecialUnlessNone?_slot (name := Str.ofString "__contains__") ty PySem.F.slot_set_contains)
    (wpAny_call_entry PySem.F.slot_set_contains ty entry_set_contains (ha := PySem.F.args_set_contains_2 _ _) ?_))
  unfold Builtin.«frozenset.__contains__» Builtin.Frozenset.oneOther
  simp only [List.isEmpty_nil, bind_assoc]
  unfold Builtin.Frozenset.addrOf Builtin.Frozenset.withSetAsKey setContains
  refine (wpAny_bind (wpAny_pure ?_))
  try dsimp only
  refine (wpAny_bind (wpAny_pure ?_))
  try dsimp only
  refine (wpAny_bind (wpAny_tryCatch ?_))
  refine (wpAny_holding ?_)
  have kx := I.isT hk
  refine wpAny_bind ((wpAny_pyHash_tuple (by show X.A.units + 1 < cLine; omega) kx) ?_)
  refine wpAny_bind (find_out (s := { s with toks := s.toks + (k.length + 1) }) R kx (by show X.A.units + 1 < cLine; omega) out ?_)
  refine (wpAny_pure ?_)
  show wpAny _ _ (ret (Value.bool false)) _ _ _
  exact wpAny_pure ⟨_, rfl, wpAny_truthy_bool (wpAny_pure ⟨.bl false, H, I.tok _, rfl, q⟩)⟩
/-- found.add(t), a new member -/
def rAddT (K : PySem.W.Frag) (P : Program) (w : World) : V → List V → Hp → VK → Prop := fun x xs H Q => ∃ (a b : Addr) (k : List Int) (L : List (Addr × List Int)), x = V.ref a ∧ xs = [V.ref b] ∧ H a = some (SetTO P w a L) ∧ SqT K H b (k.map V.int) ∧ (∀ p ∈ L, SqT K H p.1 (p.2.map V.int)) ∧ k ∉ L.map (·.2) ∧ L.length + 1 < 64 ∧
  ∀ L', L'.Perm ((b, k) :: L) → Q .non (upd H a (SetTO P w a L'))
theorem mt_addT (un : X.A.units + 64 < cLine) : MtR X "set.add" (rAddT X.K X.prog X.w) := by
  intro pins s σ H x xs v us Q I rx rxs h
  obtain ⟨a, b, k, L, rfl, rfl, ha, hk, hL, out, few, q⟩ := h
  cases rx
  cases rxs with
  | cons ry rt =>
    cases rt
    cases ry
    obtain ⟨es, ep, t, R⟩ := setT_full I ha hL
    obtain ⟨ob, hob, ex, dat⟩ := R.ob
    have ty : s.TypeIs (.ref a) "set" := ⟨ob, hob, ex.1⟩
    have kx := I.isT hk
    refine wpAny_call_entry PySem.F.slot_set_add ty PySem.F.entry_set_add (ha := PySem.F.args_set_add_2 _ _) ?_
    unfold Builtin.«set.add» Builtin.Frozenset.oneOther
    simp only [List.isEmpty_nil, bind_assoc]
    unfold Builtin.Frozenset.addrOf setAdd
    refine (wpAny_bind (wpAny_pure ?_))
    try dsimp only
    refine (wpAny_bind (wpAny_pure ?_))
    try dsimp only
    refine (wpAny_bind ?_)
    refine (wpAny_holding ?_)
    refine wpAny_bind ((wpAny_pyHash_tuple (by show X.A.units + 1 < cLine; omega) kx) ?_)
    refine add_at (s := { s with toks := s.toks + (k.length + 1) }) R kx (by show X.A.units + 1 < cLine; omega) few fun bb h' L' es' ep' t' sb R' _ pm => ?_
    show wpAny _ _ (ret Value.none) _ _ _
    have he : ∃ u, h'.get? a = some u := by
      obtain ⟨o, ho, _⟩ := R'.ob
      exact ⟨o, ho⟩
    refine wpAny_pure ⟨_, rfl, .non, upd H a (SetTO X.prog X.w a L'), ?_, rfl, q L' (pm out)⟩
    exact I.write (e := a) (t' := s.toks + (k.length + 1)) (by rw [ha]; trivial) (.inl rfl) (fun c u hc hu => (sb.2 c hc).trans hu) he (setTO_new R'.t0)
def tAddT (K : PySem.W.Frag) (P : Program) (w : World) (to : TE) (t : TA) : TE := fun σ H Q => to σ H fun x H1 => (∃ a L, x = V.ref a ∧ H1 a = some (SetTO P w a L) ∧ ∀ p ∈ L, SqT K H1 p.1 (p.2.map V.int)) ∧ t σ H1 fun xs H2 => rAddT K P w x xs H2 Q
variable {o e : Expr} {es : List Expr} {to : TE} {t : TA} {apos cpos : Pos}
theorem pe_addT (un : X.A.units + 64 < cLine) (ho : PE X o to) (ha : PA X (e :: es) t)
    (hbase : attributeBase o "add" X.env (eval o X.env) = eval o X.env := by rfl)
    (hfew : ((backTo cpos (starEach (e :: es) X.env)).all (fun x => !x.1) && (backToKw cpos (keywordEach [] X.env)).all (fun x => x.1.isSome) && decide ((e :: es).length + ([] : List Keyword).length + (if ([] : List Keyword).isEmpty then 0 else 1) < 30)) = true := by rfl)
    (hline : (apos.endLine == cpos.line) = true := by rfl) (hstar : starEach (e :: es) X.env = (false, eval e X.env) :: starEach es X.env := by rfl) (hplain : (backTo cpos (starEach es X.env)).any (·.1) = false := by rfl) :
    PE X (.Call (.Attribute o "add" apos) (e :: es) [] cpos) (tAddT X.K X.prog X.w to t) := by
  refine ⟨fun pins s σ H Q I h => ?_⟩
  refine (wpAny_Call_method_late hbase hfew hline rfl) (thn (ho.run pins s σ H _ I h) fun v s1 ⟨x, H1, I1, r1, ty, q1⟩ => ?_)
  obtain ⟨a, L, rfl, hL, hp⟩ := ty
  obtain ⟨tes, ep, tt, R⟩ := setT_full I1 hL hp
  obtain ⟨ob, hob, ex, dat⟩ := R.ob
  cases r1
  refine ⟨"set", "set.add", PySem.F.plainAttrs_set, PySem.F.slot_set_add, PySem.F.type_set_add, ⟨ob, hob, ex.1⟩, ?_, ?_⟩
  · intro a1 e1
    cases e1
    exact ⟨ob, hob, ex.2.1⟩
  · have run := ha.run cpos pins s1 σ H1 _ I1 q1
    rw [hstar] at run ⊢
    refine Calls.callWith_builtin (by show (false || (backTo cpos (starEach es X.env)).any (·.1)) = false; rw [hplain]; rfl) (Calls.evalArgs_plain ?_)
    exact thn run fun us s2 ⟨vs, H2, I2, r2, q2⟩ => mt_addT un pins s2 σ H2 (.ref a) vs (.ref a) us Q I2 rfl r2 q2
end
end Q2

namespace Q2
open PySem PySem.W PySem.Spec PySem.Calls PyProof.Rows
section
variable {prog : Program} {w : World} {A : Around} {E : Value → Shared → Prop} {s : Shared} {vs : List Value}
theorem collect_tupl {t : Addr} {Q : List Value → Shared → Prop} (tup : IsTup s.heap t vs.toArray) (small : vs.length ≤ sizeLine)
    (win : Q vs { s with heap := (s.heap.push (seqObj "list" #[] 0)).update s.heap.objs.size (Obj.mapSeq (· ++ vs.toArray)) }) : wpAny (model prog w) A (collect (.ref t)) Q E s := by
  obtain ⟨o, here, cls, n, dat⟩ := id tup
  unfold collect
  refine wpAny_bind (wpAny_runValue (codeAny_builtin (entry_proto_collect') ?_))
  show wpAny _ _ (do again (.builtin "list.__iadd__" ⟨[← newList [], .ref t], []⟩)) _ _ s
  refine wpAny_bind (wpAny_newList (wpAny_pure ⟨(Code.quiet_builtin _ (by decide +kernel)), codeAny_builtin (entry_list_iadd') ?_⟩))
  show wpAny _ _ (Builtin.List.listExtendWith (.ref s.heap.objs.size) (.ref t) (.ref s.heap.objs.size)) _ _ { s with heap := s.heap.push (seqObj "list" #[] 0) }
  unfold Builtin.List.listExtendWith
  have there : (s.heap.push (seqObj "list" #[] 0)).get? t = some o := Heap.get?_push_of_some _ here
  refine wpAny_bind ((wpAny_typeOf (T := "tuple") (show ({ s with heap := s.heap.push (seqObj "list" #[] 0) } : Shared).TypeIs (.ref t) "tuple" from ⟨o, there, cls⟩)) ?_)
  have same2 : (Value.type "tuple" == Value.type "tuple") = true := by rfl
  rw [if_pos (show _ by rw [same2]; simp)]
  refine wpAny_bind ((listItems_at there dat) ?_)
  refine wpAny_bind ((listItems_at (xs := #[]) (n := 0) (Heap.get?_push_size _ rfl) rfl) ?_)
  rw [if_neg (show ¬ _ by simp)]
  refine wpAny_bind (listUpdate_at (xs := #[]) (n := 0) (Heap.get?_push_size _ rfl) rfl ?_ (Nat.zero_le _) (show (#[] ++ vs.toArray).size ≤ sizeLine + 1 by simp only [Array.size_append, List.size_toArray, List.length_nil]; omega))
  refine (wpAny_pure ?_)
  show wpAny (model prog w) A (do
      let ob ← load s.heap.objs.size
      match ob.data with
      | .seq xs _ => pure xs.toList
      | _ => unsupported "internal:collect") Q E { s with heap := (s.heap.push (seqObj "list" #[] 0)).update s.heap.objs.size (Obj.mapSeq (· ++ vs.toArray)) }
  refine wpAny_bind ((wpAny_load (get?_update_seq (Heap.get?_push_size _ rfl) _)) ?_)
  show wpAny _ _ (pure ((#[] : Array Value) ++ vs.toArray).toList) Q E _
  have e : ((#[] : Array Value) ++ vs.toArray).toList = vs := by simp
  rw [e]
  exact wpAny_pure win
/-- sorted(x, ..) of a list or a tuple, by what list.sort does to a new list of its items -/
theorem sorted_seq {l : Addr} {kw : List (Str × Value)} {Q : Value → Shared → Prop} (seq : s.heap.IsList l vs.toArray ∨ IsTup s.heap l vs.toArray) (small : vs.length ≤ sizeLine) (args1 : argsOk "sorted" ⟨[.ref l], kw⟩) (args2 : ∀ x, argsOk "list.sort" ⟨[.ref x], kw⟩)
    (sorts : ∀ E' : Value → Shared → Prop, wpAny (model prog w) A.in1.in1 (Builtin.«list.sort» ⟨[.ref (s.heap.objs.size + 1)], kw⟩) (fun f s' => f = .done (.ret .none) ∧ Q (.ref (s.heap.objs.size + 1)) s') E' { s with heap := copyHeap s.heap vs }) :
    wpAny (model prog w) A (call (.builtin "sorted") [.ref l] kw) Q E s := by
  rcases seq with h | h
  · exact sorted_of_sort h small args1 args2 sorts
  · refine call_function_entry_kw (kind_sorted) plain_sorted entry_sorted args1 ?_
    unfold Builtin.«sorted»
    refine wpAny_bind (m := checkCount "sorted" 1 1 _) ((wpAny_pure ?_))
    refine wpAny_bind (collect_tupl h small ?_)
    refine wpAny_bind ((wpAny_newList ?_ small))
    have big : ((s.heap.push (seqObj "list" #[] 0)).update s.heap.objs.size (Obj.mapSeq (· ++ vs.toArray))).objs.size = s.heap.objs.size + 1 := (Heap.size_update ..).trans (size_push' ..)
    show wpAny _ _ _ _ _ { s with heap := copyHeap s.heap vs }
    rw [big]
    refine wpAny_bind (wpAny_holding ((wpAny_call_entry_kw slot_list_sort ⟨_, copyHeap_at s.heap vs, rfl⟩ entry_list_sort ?here (args2 _))))
    case here =>
      refine wpAny_mono (sorts _) (fun f s' hf => ?_) fun _ _ e => e
      exact ⟨_, hf.1, wpAny_pure ⟨_, rfl, hf.2⟩⟩
variable {β : Type} {bs : List β} {enc : β → PyData} {R : Value → β → Prop}
theorem sorted_plain {l : Addr} {Q : Value → Shared → Prop} (seq : s.heap.IsList l vs.toArray ∨ IsTup s.heap l vs.toArray) (e : EachIs R vs bs) (er : EachIs (fun v b => ∃ as, Reads s.heap v (enc b) as) vs bs) (al : AllAlike (bs.map enc)) (so : Sortable (bs.map enc)) (small : bs.length ≤ sizeLine)
    (un : ∀ b, b ∈ bs → A.units + 2 + (enc b).depth < cLine) (win : ∀ out, out.length = bs.length → EachIs R out (bs.mergeSort (dataLe false enc)) → Q (.ref (s.heap.objs.size + 1)) { s with heap := sortedAll s.heap vs (List.toArray out) }) :
    wpAny (model prog w) A (call (.builtin "sorted") [.ref l]) Q E s := by
  have er2 : EachIs (fun v b => ∃ as, Reads (sortingHeap (copyHeap s.heap vs) (s.heap.objs.size + 1) vs) v (enc b) as) vs bs := er.mono fun _ _ ⟨as, r⟩ => ⟨as, PyProof.Rows.Reads.keeps (fun _ _ => sorting_copy_old) r⟩
  have lenv : vs.length ≤ sizeLine := by rw [e.length]; exact small
  refine sorted_seq seq lenv (args_sorted1 _) (fun _ => args_list_sort _) fun E' => ?_
  refine list_sort_vals (s := { s with heap := copyHeap s.heap vs }) (copyHeap_at s.heap vs) (SortsAt.data (s := { s with heap := sortingHeap (copyHeap s.heap vs) (s.heap.objs.size + 1) vs }) (each_map (R := fun v d => ∃ as, Reads (sortingHeap (copyHeap s.heap vs) (s.heap.objs.size + 1) vs) v d as) enc er2) al so (bound_map un)) lenv ⟨rfl, ?_⟩
  exact win _ (by rw [sortVals_length false rfl]; exact e.length) (sortVals_data false e er2 al)
theorem sorted_keyed {l : Addr} {f : Value} {kw : List (Str × Value)} {Q : Value → Shared → Prop} (k : β → PyData) (seq : s.heap.IsList l vs.toArray ∨ IsTup s.heap l vs.toArray) (e : EachIs R vs bs) (al : AllAlike (bs.map k)) (so : Sortable (bs.map k)) (small : bs.length ≤ sizeLine)
    (un : ∀ x, x ∈ bs → A.units + 2 + (k x).depth < cLine) (args1 : argsOk "sorted" ⟨[.ref l], kw⟩) (args2 : ∀ x, argsOk "list.sort" ⟨[.ref x], kw⟩) (tree : ∀ x, Builtin.«list.sort» ⟨[.ref x], kw⟩ = ksk_tree x f false)
    (turn : ∀ (v : Value) (x : β), R v x → x ∈ bs → ∀ (h : Heap) (tk : Nat), (∀ b o, s.heap.get? b = some o → h.get? b = some o) →
      wpAny (model prog w) A.in1.in1 (call f [v]) (KeyPure (k x) { s with heap := h, toks := tk }) (fun _ _ => False) { s with heap := h, toks := tk })
    (win : ∀ out c h' tk, (∀ b o, s.heap.get? b = some o → h'.get? b = some o) → s.heap.get? (s.heap.objs.size + 1) = none → h'.get? (s.heap.objs.size + 1) = some (seqObj "list" (List.toArray out) c) → out.length = bs.length → EachIs R out (bs.mergeSort (dataLe false k)) →
      Q (.ref (s.heap.objs.size + 1)) { s with heap := h', toks := tk }) : wpAny (model prog w) A (call (.builtin "sorted") [.ref l] kw) Q E s := by
  have fresh : s.heap.get? (s.heap.objs.size + 1) = none := Heap.get?_none_of_le (Nat.le_succ _)
  have over : ∀ {g : Heap}, KeepsBut (s.heap.objs.size + 1) (copyHeap s.heap vs) g → ∀ b o, s.heap.get? b = some o → g.get? b = some o := fun {g} kp b o q => kp b o (Nat.ne_of_lt (Nat.lt_succ_of_lt (Heap.lt_size q))) (copyHeap_old q)
  have lens : (bs.map k).length = vs.length := by rw [List.length_map]; exact e.length.symm
  have lenv : vs.length ≤ sizeLine := by rw [e.length]; exact small
  refine sorted_seq seq lenv args1 args2 fun E' => ?_
  rw [tree]
  refine keyH_tree (kz := bs.map k) (s := { s with heap := copyHeap s.heap vs }) (copyHeap_at s.heap vs) lens lenv al so (bound_map (A := A.in1.in1) un) (keyH_turns (s := { s with heap := copyHeap s.heap vs }) e fun v x hR hx h tk kp => turn v x hR hx h tk (over kp)) fun h' tk out c kp hD ko => ⟨rfl, ?_⟩
  exact win out c h' tk (over kp) fresh hD ((ko.length lens).trans e.length) (keyedOut_each k ko e)
end
end Q2

namespace Q2
open PySem PySem.Spec PyProof.Rows L2
section
variable {prog : Program} {w : World} {A : Around} {E : Value → Shared → Prop} {s : Shared}
theorem raw_item {env : Env} {m : Str → Option Value} {t : Addr} {u0 u1 v : Value} {k : Nat} {x : Str} {p1 p2 p3 : Pos} {j1 : Nat} {Q : Value → Shared → Prop} (kind : env.scope.kind = .function) (loc : env.kindOf x = some .local) (ns : s.heap.Ns env.locals m) (mx : m x = some (.ref t))
    (tup : IsTup s.heap t #[u0, u1]) (hk : k < 2) (hv : #[u0, u1][k]? = some v) (hd : (x == ("__debug__" : Str)) = false) (win : Q v { s with toks := s.toks + 1 }) :
    wpAny (model prog w) A (eval (.Subscript (.Name x p1) (.Constant (.int (k : Int)) j1 p2) p3) env) Q E s := by
  refine Subscript_ (wpAny_Name (wpAny_loadName_local kind loc ns mx ?_) hd)
  refine wpAny_Constant_int ?_
  exact subscriptTail_builtinR (s := { s with toks := s.toks + 1 }) (x := v) (IsTup.typeIs (s := { s with toks := s.toks + 1 }) tup) PyProof.Rows.slot_tuple_getitem.lookup
    (PyProof.Rows.getItem_tuple (s := { s with toks := s.toks + 1 }) (j := k) (Q := fun r s' => r = v ∧ Q r s') tup (by omega) (by omega) (seqIndex_of (by omega) (by show (k : Int) < ((2 : Nat) : Int); omega)) hv ⟨rfl, win⟩) rfl
/-- return (p[1], p[0]) -/
theorem raw_swap {env : Env} {m : Str → Option Value} {t : Addr} {u0 u1 : Value} {x : Str} {p1 p2 p3 p4 p5 p6 p7 p8 : Pos} {j1 j2 k7 : Nat} {Q : Flow → Shared → Prop} (kind : env.scope.kind = .function) (loc : env.kindOf x = some .local) (ns : s.heap.Ns env.locals m) (mx : m x = some (.ref t))
    (tup : IsTup s.heap t #[u0, u1]) (hd : (x == ("__debug__" : Str)) = false) (win : Q (.ret (.ref s.heap.objs.size)) { s with heap := s.heap.push { cls := .type "tuple", data := .seq #[u1, u0] }, toks := s.toks + 1 + 1 }) :
    wpAny (model prog w) A (execs [.Return (some (.Tuple [.Subscript (.Name x p1) (.Constant (.int 1) j1 p2) p3, .Subscript (.Name x p4) (.Constant (.int 0) j2 p5) p6] k7 p7)) p8] env) Q E s := by
  refine wpAny_execs_cons (wpAny_Return_some (wpAny_Tuple_spliced ?_))
  show wpAny _ _ (spliced [(false, eval (.Subscript (.Name x p1) (.Constant (.int 1) j1 p2) p3) env), (false, eval (.Subscript (.Name x p4) (.Constant (.int 0) j2 p5) p6) env)]) _ _ _
  refine Calls.spliced_cons (raw_item (k := 1) kind loc ns mx tup (by decide) rfl hd ?_)
  refine Calls.spliced_cons (raw_item (s := { s with toks := s.toks + 1 }) (k := 0) kind loc ns mx tup (by decide) rfl hd ?_)
  refine Calls.spliced_nil ⟨by show 2 ≤ sizeLine; decide, ?_⟩
  exact win
end
/-- how a def that swaps the two places of its argument is written -/
def Swaps (st : Stmt) : Prop := ∃ (x : Str) (p1 p2 p3 p4 p5 p6 p7 p8 : Pos) (j1 j2 k7 : Nat), FnScope [x] [x] (defScope st) ∧ (defScope st).names.lookup x = some .local ∧ (x == ("__debug__" : Str)) = false ∧
  defBody st = [.Return (some (.Tuple [.Subscript (.Name x p1) (.Constant (.int 1) j1 p2) p3, .Subscript (.Name x p4) (.Constant (.int 0) j2 p5) p6] k7 p7)) p8] ∧
  ∀ (kV doc pm : Value) (an : Option Addr) (cdv ct u : Value) (nm q : Str), bindArgs (PySem.W.fnOf nm q (defArgs st) (defBody st) (defScope st) .none kV doc pm an cdv ct) ⟨[u], []⟩ = pure [(x, u)]
/-- the call, on the bare heap -/
theorem swap_call {P : Program} {w : World} {K : PySem.W.Frag} {mg : Str → Option Value} {base : Heap} {A : Around} {outer : List Env} {s : Shared} {H : Hp} {nm : Str} {st : Stmt} {f : Addr} {fd : FuncData} (F : Fun K nm nm st f fd) (S : Swaps st) (e0 : Env0 P w K mg base A outer s H) (room : A.depth < recursionLimit)
    {t : Addr} {x y : Int} {tx ty : Tok} (tup : IsTup s.heap t #[.int x tx, .int y ty]) : wpAny (model P w) A (call (.ref f) [.ref t]) (PySem.W.KeyPure (.tuple [.int y, .int x]) s) (fun _ _ => False) s := by
  obtain ⟨oc, od, kV, doc, pm, an, cdv, ct, osl, rfl, lk, hcd⟩ := F.ex
  obtain ⟨nx, p1, p2, p3, p4, p5, p6, p7, p8, j1, j2, k7, sc, loc, hd, body, bind⟩ := S
  have KX : K.In s.heap := e0.mod.kin.keeps fun b o e => (e0.bs b o e).1
  have lim : s.heap.NoLimit := e0.mod.nolimit.keeps fun b o e => (e0.bs b o e).1
  refine wpAny_call (codeAny_call_function room (KX _ _ lk) rfl sc.co sc.gen rfl (PySem.W.codeRec_of KX hcd) (wpAny_of_eq (bind _ _ _ _ _ _ _ _ _) ?_))
  refine wpAny_newFunctionEnv_cells sc.kind (fun z hz => by rw [List.mem_singleton.mp hz]; exact .inl loc) fun env he s1 inc => ?_
  subst he
  refine ⟨lim.keeps inc.toInCall.keep, codeAny_func ?_⟩
  obtain ⟨h1, tk, rfl, keep⟩ := inc.done
  show wpAny _ _ (execs (defBody st) _) _ _ _
  rw [body]
  have tup1 : IsTup h1 t #[.int x tx, .int y ty] := by
    obtain ⟨o, ho, r⟩ := tup
    exact ⟨o, keep _ _ ho, r⟩
  refine raw_swap (x := nx) (t := t) (m := _) sc.kind loc inc.toInCall.ns ?_ tup1 hd ?_
  · show bindL _ [(nx, Value.ref t)] (fun _ => none) nx = some (.ref t)
    have kl : (newEnv (defScope st) s.heap.objs.size mainGlobals (cellsFrom (s.heap.objs.size + 1) (defScope st).names []) (nm ++ ".<locals>.") (some f) cdv none builtinsNs).kindOf nx = some .local := loc
    simp [bindL, kl]
  · refine ⟨_, _, rfl, fun b o hb => Heap.get?_push_of_some _ (keep b o hb), ?_⟩
    exact .tuple (Heap.get?_push_size _ rfl) rfl rfl (.cons (as := []) (.int y ty) (.cons (as := []) (.int x tx) .nil))
end Q2

namespace Q2
open PySem PySem.Spec PyProof.Rows L2
/-! ### sorted of points -/
abbrev keyX (q : Addr × Int × Int) : PyData := .tuple [.int q.2.1, .int q.2.2]
abbrev keyY (q : Addr × Int × Int) : PyData := .tuple [.int q.2.2, .int q.2.1]
abbrev sortX (qs : Pts) : Pts := qs.mergeSort (PySem.W.dataLe false keyX)
abbrev sortY (qs : Pts) : Pts := qs.mergeSort (PySem.W.dataLe false keyY)
abbrev refsOf (qs : Pts) : List V := qs.map fun q => V.ref q.1
def Tups (H : Hp) (qs : Pts) : Prop := ∀ q ∈ qs, H q.1 = some (.tup [.int q.2.1, .int q.2.2])
theorem each_refs : ∀ {qs : Pts} {us : List Value}, Vals (refsOf qs) us → PySem.W.EachIs (fun v (q : Addr × Int × Int) => v = Value.ref q.1) us qs
  | [], _, .nil => .nil
  | q :: qs, _, .cons r t => .cons (show _ = Value.ref q.1 from r) (each_refs t)
theorem vals_refs : ∀ {qs : Pts} {us : List Value}, PySem.W.EachIs (fun v (q : Addr × Int × Int) => v = Value.ref q.1) us qs → Vals (refsOf qs) us
  | _, _, .nil => .nil
  | _, _, .cons h t => .cons (show RelV (V.ref _) _ from h) (vals_refs t)
theorem each_of {R : Value → (Addr × Int × Int) → Prop} : ∀ {qs : Pts} {us : List Value}, PySem.W.EachIs (fun v (q : Addr × Int × Int) => v = Value.ref q.1) us qs → (∀ q ∈ qs, R (.ref q.1) q) → PySem.W.EachIs R us qs
  | _, _, .nil, _ => .nil
  | _, _, .cons h t, k => .cons (by rw [h]; exact k _ (List.mem_cons_self ..)) (each_of t fun q hq => k q (List.mem_cons_of_mem _ hq))
theorem alike_pts (f g : (Addr × Int × Int) → Int) (qs : Pts) : PySem.W.AllAlike (qs.map fun q => .tuple [.int (f q), .int (g q)]) := by
  intro d hd d' hd'
  obtain ⟨q, _, rfl⟩ := List.mem_map.mp hd
  obtain ⟨r, _, rfl⟩ := List.mem_map.mp hd'
  simp [PySem.W.alike, PySem.W.alikeAll]
theorem sortable_pts (f g : (Addr × Int × Int) → Int) (qs : Pts) : PySem.W.Sortable (qs.map fun q => .tuple [.int (f q), .int (g q)]) := .inl fun d hd => by
  obtain ⟨q, _, rfl⟩ := List.mem_map.mp hd
  exact ⟨_, _, rfl⟩
theorem depth_pt (a b : Int) : (PyData.tuple [.int a, .int b]).depth = 1 := ptD_depth (a, b)
section
variable {X : Cx}
theorem raw_pt {pins : List (Addr × Obj)} {σ : L2.St} {H : Hp} {s : Shared} (I : Inv X pins σ H s) {t : Addr} {x y : Int} (h : H t = some (.tup [.int x, .int y])) : ∃ tx ty, IsTup s.heap t #[.int x tx, .int y ty] := by
  obtain ⟨its, r, tup, _⟩ := I.tuple (SqT.of h)
  cases r with
  | cons r1 rr =>
    cases rr with
    | cons r2 rn =>
      cases rn
      obtain ⟨tx, rfl⟩ := r1
      obtain ⟨ty, rfl⟩ := r2
      exact ⟨tx, ty, tup⟩
theorem raw_seq {pins : List (Addr × Obj)} {σ : L2.St} {H : Hp} {s : Shared} (I : Inv X pins σ H s) {a : Addr} {xs : List V} (h : SqL X.K H a xs ∨ SqT X.K H a xs) : ∃ its : List Value, Vals xs its ∧ (s.heap.IsList a its.toArray ∨ IsTup s.heap a its.toArray) ∧ xs.length ≤ sizeLine := by
  rcases h with h | h
  · obtain ⟨its, r, p, z⟩ := I.list h
    exact ⟨its, r, .inl p.isList, z⟩
  · obtain ⟨its, r, p, z⟩ := I.tuple h
    exact ⟨its, r, .inr p, z⟩
/-- sorted(points) -/
def rSortP (K : PySem.W.Frag) : List V → Hp → VK → Prop := fun vs H Q => ∃ (a : Addr) (qs : Pts), vs = [V.ref a] ∧ (SqL K H a (refsOf qs) ∨ SqT K H a (refsOf qs)) ∧ Tups H qs ∧ ∀ p, H p = none → Q (.ref p) (upd H p (.lst (refsOf (sortX qs))))
theorem cr_sortP (un : X.A.units + 64 < cLine) : CallR X (.builtin "sorted") (rSortP X.K) := by
  intro pins s σ H vs us Q I r h
  obtain ⟨a, qs, rfl, hs, ht, q⟩ := h
  obtain rfl := Vals.ref1 r
  obtain ⟨its, rv, seq, hz⟩ := raw_seq I hs
  rw [List.length_map] at hz
  refine sorted_plain (bs := qs) (enc := keyX) seq (each_refs rv) (each_of (each_refs rv) fun p hp => ?_) (alike_pts _ _ qs) (sortable_pts _ _ qs) hz (fun p hp => ?_) fun out hl e => ?_
  · obtain ⟨tx, ty, o, ho, hc, n, hd⟩ := raw_pt I (ht p hp)
    exact ⟨[], .tuple ho hc hd (.cons (as := []) (.int _ tx) (.cons (as := []) (.int _ ty) .nil))⟩
  · have := depth_pt p.2.1 p.2.2
    show X.A.units + 2 + (PyData.tuple [.int p.2.1, .int p.2.2]).depth < cLine
    omega
  · obtain ⟨ep, he⟩ := PyProof.Rows.sortedAll_at s.heap its (List.toArray out)
    refine ⟨.ref _, upd H (s.heap.objs.size + 1) (.lst (refsOf (sortX qs))), I.laid (t' := s.toks) (fun _ _ => PyProof.Rows.sortedAll_old) (Nat.le_succ _) ⟨?_, out, ep, vals_refs e, he⟩, rfl, q _ (I.hok.fresh (Nat.le_succ _))⟩
    rw [List.length_map, List.length_mergeSort]
    exact hz
/-- sorted(points, key=f), f swaps the two places -/
def rSortK (K : PySem.W.Frag) (f : Addr) : List V → List V → Hp → VK → Prop := fun vs zs H Q => ∃ (a : Addr) (qs : Pts), vs = [V.ref a] ∧ zs = [.ref f] ∧ (SqL K H a (refsOf qs) ∨ SqT K H a (refsOf qs)) ∧ Tups H qs ∧ ∀ p, H p = none → Q (.ref p) (upd H p (.lst (refsOf (sortY qs))))
theorem cr_sortK {nm : Str} {st : Stmt} {f : Addr} {fd : FuncData} (F : Fun X.K nm nm st f fd) (S : Swaps st) (un : X.A.units + 64 < cLine) (room : X.A.depth < recursionLimit) : CallRK X (.builtin "sorted") [Str.ofString "key"] (rSortK X.K f) := by
  intro pins s σ H vs zs us ws Q I r rz h
  obtain ⟨a, qs, rfl, rfl, hs, ht, q⟩ := h
  obtain rfl := Vals.ref1 r
  obtain rfl := Vals.ref1 rz
  obtain ⟨its, rv, seq, hz⟩ := raw_seq I hs
  rw [List.length_map] at hz
  refine sorted_keyed (bs := qs) (f := .ref f) (kw := [(Str.ofString "key", .ref f)]) keyY seq (each_refs rv) (alike_pts _ _ qs) (sortable_pts _ _ qs) hz (fun p hp => ?_) (PyProof.Rows.ksk_s1 _ _) (fun _ => PyProof.Rows.ksk_l1 _ _) (fun x => PyProof.Rows.ksk_t1 f x) (fun v p hv hp h tk keep => ?_) fun out c h' tk keep fresh hD hl e => ?_
  · have := depth_pt p.2.2 p.2.1
    show X.A.units + 2 + (PyData.tuple [.int p.2.2, .int p.2.1]).depth < cLine
    omega
  · rw [hv]
    obtain ⟨tx, ty, o, ho, hr⟩ := raw_pt I (ht p hp)
    have I2 : Inv X pins σ H { s with heap := h, toks := tk } := I.kept keep
    exact swap_call F S I2.env0.in1.in1 room ⟨o, keep _ _ ho, hr⟩
  · refine ⟨.ref _, upd H (s.heap.objs.size + 1) (.lst (refsOf (sortY qs))), I.laid (t' := tk) keep (Nat.le_succ _) ⟨?_, out, c, vals_refs e, hD⟩, rfl, q _ (I.hok.fresh (Nat.le_succ _))⟩
    rw [List.length_map, List.length_mergeSort]
    exact hz
end
/-! ### the order -/
theorem dataLe_two (f g : (Addr × Int × Int) → Int) (q r : Addr × Int × Int) : PySem.W.dataLe false (fun q => .tuple [.int (f q), .int (g q)]) q r = !decide (f r < f q ∨ (f r = f q ∧ g r < g q)) := by
  show (!PyProof.Rows.lexLt PyProof.Rows.itemOrd (PySem.W.keyToks (.tuple [.int (f r), .int (g r)])) (PySem.W.keyToks (.tuple [.int (f q), .int (g q)]))) = _
  congr 1
  simp only [PySem.W.keyToks, PySem.W.keyToksAll, List.cons_append, List.nil_append, PyProof.Rows.lexLt, PyProof.Rows.itemLt]
  by_cases h1 : f r < f q
  · simp [h1]
  · by_cases h2 : f r = f q
    · simp [h2]
    · have h3 : f q < f r := by omega
      simp [h1, h2, h3]
end Q2

namespace Q2
open PySem PySem.W PySem.Spec PySem.Calls PyProof.Rows
/-! ### enumerate(t) of a tuple, one argument -/
theorem meets_enum1 {v : Value} {o : Obj} {B0 : Heap → Prop} (B : Begins v o B0) :
    Meets (Builtin.«enumerate.__new__» ⟨[.type "enumerate", v], []⟩) (fun _ R s => B0 s.heap ∧ R (.ok (.ret (.ref (s.heap.push o).objs.size))) { s with heap := (s.heap.push o).push { cls := .type "enumerate", data := .fields #[.none, .bool false, .ref s.heap.objs.size, rawInt 0, .none, .none] } }) :=
  .of_wp fun prog w A R s both => by
    obtain ⟨hp, g, d, tk, os⟩ := s
    obtain ⟨b0, fin⟩ := both
    have sub1 := sub_enumerate
    have begin1 : ∀ {A' : Around} {E : Value → Shared → Prop} {Q : Value → Shared → Prop}, Q (.ref hp.objs.size) ⟨hp.push o, g, d, tk, os⟩ → wpAny (model prog w) A' (pyIter v) Q E ⟨hp, g, d, tk, os⟩ := fun q => B.iter prog w _ _ ⟨hp, g, d, tk, os⟩ _ b0 q
    wp_walk using begin1
    refine wpAny_stack_any fun st => (wpAny_pure ?_)
    split
    · rename_i c _ _ _ _ _
      cases (c == Value.type "enumerate") <;> (wp_walk using begin1; exact ⟨_, rfl, fin⟩)
    · wp_walk using begin1
      exact ⟨_, rfl, fin⟩
section
variable {prog : Program} {w : World} {A : Around} {E : Value → Shared → Prop} {s : Shared}
theorem enum_tup {t : Addr} {items : Array Value} {Q : Value → Shared → Prop} (ht : s.heap.IsTuple t items)
    (win : ∀ h', IsEnum h' (s.heap.objs.size + 1) s.heap.objs.size 0 .none → h'.IsTupleIter s.heap.objs.size t 0 → (∀ b o, s.heap.get? b = some o → h'.get? b = some o) → Q (.ref (s.heap.objs.size + 1)) { s with heap := h' }) :
    wpAny (model prog w) A (call (.type "enumerate") [.ref t]) Q E s := by
  refine callType_new F.called_enumerate (by decide) (F.typeCall_enumerate_1 _) (F.newCall_enumerate_1 _) (fun obj => F.args_object_init_2 obj _) F.entry_enumerate_new (meets_enum1 (begins_tuple t items)) ⟨ht, ?_⟩
  have z1 : (s.heap.push { cls := .type "tuple_iterator", data := .fields #[.ref t, .int 0 0] }).objs.size = s.heap.objs.size + 1 := Heap.size_push ..
  show _ ∧ _
  rw [z1]
  have en : IsEnum ((s.heap.push { cls := .type "tuple_iterator", data := .fields #[.ref t, .int 0 0] }).push { cls := .type "enumerate", data := .fields #[.none, .bool false, .ref s.heap.objs.size, rawInt 0, .none, .none] }) (s.heap.objs.size + 1) s.heap.objs.size 0 .none := by
    have z2 := Heap.get?_push_size (s.heap.push { cls := .type "tuple_iterator", data := .fields #[.ref t, .int 0 0] }) (o := { cls := .type "enumerate", data := .fields #[.none, .bool false, .ref s.heap.objs.size, rawInt 0, .none, .none] }) rfl
    rw [z1] at z2
    exact z2
  exact ⟨⟨_, en, rfl⟩, win _ en ⟨_, Heap.get?_push_of_some _ (Heap.get?_push_size _ rfl), rfl, rfl⟩ fun b o x => Heap.get?_push_of_some _ (Heap.get?_push_of_some _ x)⟩
end
end Q2
namespace Q2
open PySem PySem.Spec PyProof.Rows L2
/-- the tuple at a, each item in a new pair -/
def ItET (K : PySem.W.Frag) (a : Addr) : It :=
  ⟨fun i H => ∃ (xs : List V) (x : V), SqT K H a xs ∧ xs[i]? = some x, fun i H v H' => ∃ T x, v = .ref T ∧ H T = none ∧ H' = upd H T (.tup [.int (i : Nat), x]) ∧ ∀ xs, SqT K H a xs → xs[i]? = some x, fun i H => ∃ xs : List V, SqT K H a xs ∧ xs.length ≤ i⟩
theorem draws_end {prog : Program} {w : World} {A : Around} (calm : A.handled = none) (it t : Addr) (items : Array Value) (i : Nat) (over : items[i]? = none) :
    PySem.Draws prog w A it [it, t] 0 (fun _ _ => False) (fun _ h => h.IsTupleIter it t i ∧ h.IsTuple t items) where
  live := fun _ _ st => let ⟨o, ho, _⟩ := st.1; ⟨o, ho⟩
  frame := fun _ _ _ st hk => ⟨st.1.at fun o e => hk it (by simp) o e, st.2.at fun o e => hk t (by simp) o e⟩
  item := fun j s Q E hj => absurd hj (Nat.not_lt_zero j)
  done := fun s Q E st hE => wpAny_nextOf_tuple_end calm st.1 st.2 over hE
theorem turn_enumT {P : Program} {w : World} {K : PySem.W.Frag} {elts : List Expr} {kk : Nat} {tpos : Pos} (a e it : Addr) :
    Turn P w K (.Tuple elts kk tpos) (ItET K a) [e, it] e (fun i h => (∃ old, IsEnum h e it ((i : Nat) : Int) old) ∧ h.IsTupleIter it a i ∧ e ≠ it) where
  mem := by simp
  obj := fun i h st b hb => by
    obtain ⟨⟨old, en⟩, ⟨o, ho, hc, hd⟩, _⟩ := st
    rcases (show b = e ∨ b = it by simpa using hb) with z | z
    · rw [z]
      exact ⟨_, en, fun v q => nomatch q⟩
    · rw [z]
      exact ⟨o, ho, fun v q => by rw [hd] at q; cases q⟩
  keep := fun i h h' st k => let ⟨⟨old, en⟩, hi, hne⟩ := st; ⟨⟨old, k e (by simp) _ en⟩, hi.at fun o q => k it (by simp) o q, hne⟩
  item := by
    intro X hP hw hK hc i pins s σ H E I hf st hg
    subst hP hw hK
    obtain ⟨⟨old, en⟩, hit, hne⟩ := st
    obtain ⟨xs, x, hq, hx⟩ := hg
    obtain ⟨its, rv, tup, _⟩ := I.tuple hq
    obtain ⟨u, hu, ru⟩ := rv.get hx
    have lts : i < its.toArray.size := by
      have := (List.getElem?_eq_some_iff.mp hu).1
      simpa using this
    have le : e < s.heap.objs.size := Heap.lt_size en
    have li : it < s.heap.objs.size := by obtain ⟨_, q, _⟩ := hit; exact Heap.lt_size q
    have ati : a ≠ it := fun z => by
      obtain ⟨o1, h1, c1, _⟩ := hit
      obtain ⟨o2, h2, c2, _⟩ := tup
      rw [z, h1] at h2
      cases h2
      rw [c1] at c2
      exact absurd c2 (by decide)
    have ate : a ≠ e := fun z => by
      obtain ⟨o2, h2, c2, _⟩ := tup
      rw [z, show s.heap.get? e = _ from en] at h2
      cases h2
      injection c2 with c3
      exact absurd c3 (by decide)
    refine PySem.wpAny_pyNext_enum_itemD (PySem.Draws.tuple (A := X.A.in1) (show X.A.in1.handled = none from I.ok.hd hc) it a ati its.toArray) en ⟨hit, tup⟩ lts hne (by simp; exact ⟨hne, fun z => ate z.symm⟩) fun y h' tk hy ho st' hT hsz hk => ?_
    have ey : y = u := by
      have h0 : its.toArray[i]? = some y := hy
      have h1 : its.toArray[i]? = some u := by simpa using hu
      rw [h0] at h1
      exact Option.some.inj h1
    subst ey
    refine ⟨_, rfl, wpAny_letOwnedTupleGo_enum (s := { s with heap := h', toks := tk + 1 }) ho fun h'' he' sb => ?_⟩
    have hT2 : h''.get? s.heap.objs.size = some { cls := .type "tuple", data := .seq #[.int i tk, y] } := (sb.2 _ (Nat.ne_of_gt le)).trans hT
    have new : ObjOk X.prog X.w (upd H s.heap.objs.size (.tup [.int (i : Nat), x])) h'' s.heap.objs.size (.tup [.int (i : Nat), x]) := ⟨by show 2 ≤ sizeLine; decide, [.int i tk, y], .cons ⟨_, rfl⟩ (.cons ru .nil), ⟨_, hT2, rfl, _, rfl⟩⟩
    have I1 : Inv X pins σ (upd H s.heap.objs.size (.tup [.int (i : Nat), x])) { s with heap := h'', toks := tk + 1 } :=
      I.turnedNew (ch := [e, it]) (fun b ob hb q => (sb.2 b (fun z => hb (by simp [z]))).trans (hk b ob (fun z => hb (by simp [z])) (fun z => hb (by simp [z])) q)) hf (Nat.le_refl _) new
    refine ⟨.ref s.heap.objs.size, _, I1, rfl, ⟨_, x, rfl, I.hok.fresh (Nat.le_refl _), rfl, fun ys hy2 => by rw [I.tuple_inj hy2 hq]; exact hx⟩, ⟨⟨y, ?_⟩, st'.1.at fun o q => (sb.2 it (Ne.symm hne)).trans q, hne⟩, fun b hb => ?_⟩
    · rw [show ((i + 1 : Nat) : Int) = (i : Int) + 1 by omega]
      exact he'
    · have hb' : b < s.heap.objs.size := by
        rcases (show b = e ∨ b = it by simpa using hb) with z | z
        · rw [z]; exact le
        · rw [z]; exact li
      rw [upd_ne (Nat.ne_of_lt hb')]
      exact (hf b hb).1
  done := by
    intro X hP hw hK hc i pins s σ H E I hf st hg
    subst hP hw hK
    obtain ⟨⟨old, en⟩, hit, hne⟩ := st
    obtain ⟨xs, hq, hx⟩ := hg
    obtain ⟨its, rv, tup, _⟩ := I.tuple hq
    obtain ⟨f0, f1, f2, f3, f4, f5⟩ := hf it (by simp)
    have hl := rv.length
    exact PySem.wpAny_pyNext_enum_endD (n := 0) (draws_end (A := X.A.in1) (show X.A.in1.handled = none from I.ok.hd hc) it a its.toArray i (by simp; omega)) en ⟨hit, tup⟩ fun h' eb => ⟨rfl, I.turned (t' := s.toks) (fun b o hb q => eb b o hb q) f0 f1 f3 f4 f5⟩
  self := fun A i s Q E st h => let ⟨⟨_, en⟩, _⟩ := st; wpAny_pyIter_enum en h
/-- enumerate of a list or a tuple -/
def EnumOf (K : PySem.W.Frag) (H : Hp) (a : Addr) (xs : List V) (J : It) : Prop := (SqL K H a xs ∧ J = Ite K a) ∨ (SqT K H a xs ∧ J = ItET K a)
def iEnumA (K : PySem.W.Frag) (ta : TA) : TI := fun σ H R => ta σ H fun vs H1 => ∃ a xs J, vs = [.ref a] ∧ EnumOf K H1 a xs J ∧ R J H1
theorem pi_enumA {X : Cx} {e : Expr} {ta : TA} {p pos tpos : Pos} {elts : List Expr} {kk : Nat} (hg : Gl X "enumerate") (hm : X.mg "enumerate" = none) (ha : PA X [e] ta) (hs : starEach [e] X.env = [(false, eval e X.env)] := by rfl) :
    PI X (.Tuple elts kk tpos) (.Call (.Name "enumerate" p) [e] [] pos) (iEnumA X.K ta) := by
  refine ⟨fun pins s σ H R I h => ?_⟩
  refine Call_ (ld_blt I hg hm boot_enumerate (PyProof.Rows.callWith_type1 (thn (ha.run pos pins s σ H _ I h) fun us s1 ⟨vs, H1, I1, r1, q1⟩ => ?_) hs rfl))
  obtain ⟨a, xs, J, rfl, hq, q⟩ := q1
  obtain rfl := Vals.ref1 r1
  have fp : ∀ b ∈ [s1.heap.objs.size + 1, s1.heap.objs.size], FpOk X pins H1 b := fun b hb => by
    have hle : s1.heap.objs.size ≤ b := by
      rcases (show b = s1.heap.objs.size + 1 ∨ b = s1.heap.objs.size by simpa using hb) with z | z
      · rw [z]; exact Nat.le_add_right _ _
      · rw [z]; exact Nat.le_refl _
    exact I1.fpOk hle (I1.hok.fresh hle)
  rcases hq with ⟨hq, rfl⟩ | ⟨hq, rfl⟩
  · obtain ⟨its, rv, p', hz⟩ := I1.list hq
    refine call_enumerate_list p'.isList fun h' he hit hsz hk => wpAny_pyIter_enum he ?_
    have I2 : Inv X pins σ H1 { s1 with heap := h' } := I1.kept (t' := s1.toks) hk
    exact ⟨s1.heap.objs.size + 1, [s1.heap.objs.size + 1, s1.heap.objs.size], _, _, H1, rfl, I2, turn_enum a (s1.heap.objs.size + 1) s1.heap.objs.size, ⟨⟨.none, he⟩, hit, Nat.succ_ne_self _⟩, fp, q⟩
  · obtain ⟨its, rv, p', hz⟩ := I1.tuple hq
    refine enum_tup p' fun h' he hit hk => wpAny_pyIter_enum he ?_
    have I2 : Inv X pins σ H1 { s1 with heap := h' } := I1.kept (t' := s1.toks) hk
    exact ⟨s1.heap.objs.size + 1, [s1.heap.objs.size + 1, s1.heap.objs.size], _, _, H1, rfl, I2, turn_enumT a (s1.heap.objs.size + 1) s1.heap.objs.size, ⟨⟨.none, he⟩, hit, Nat.succ_ne_self _⟩, fp, q⟩
theorem walk_enumT {K : PySem.W.Frag} {a : Addr} {xs : List V} : Walk (ItET K a) xs.length (fun H => SqT K H a xs) (YPair (fun i => some (.int (i : Nat))) (fun i => xs[i]?)) where
  goes := fun i H hi hq => ⟨xs, xs[i], hq, List.getElem?_eq_getElem hi⟩
  stops := fun H hq => ⟨xs, hq, Nat.le_refl _⟩
  yields := fun i H v H' hi hq y => by
    obtain ⟨T, x, h1, h2, h3, h4⟩ := y
    exact ⟨T, _, x, h1, h2, h3, rfl, h4 xs hq⟩
end Q2

namespace Q2
open PySem PySem.Spec PyProof.Rows L2
def top (i : Nat) : Stmt := PySem.Challenge.pw_planesplits_k05_whole_parts_turned_about.main.body.getD i (.Pass ⟨0, 0, 0, 0⟩)
abbrev s_is_integer : Stmt := top 8
abbrev s_is_coordinate : Stmt := top 9
abbrev s_is_point : Stmt := top 10
abbrev s_check_point : Stmt := top 11
abbrev s_check_points : Stmt := top 12
abbrev s_check_number : Stmt := top 13
abbrev s_y_key : Stmt := top 15
abbrev s_part_of : Stmt := top 16
abbrev s_quarter : Stmt := top 17
abbrev s_ordered : Stmt := top 18
abbrev s_law_mixed : Stmt := top 20
abbrev s_law_source : Stmt := top 21
abbrev s_law_take : Stmt := top 22
abbrev s_law_pick : Stmt := top 23
abbrev s_law_spots : Stmt := top 24
abbrev s_law_end : Stmt := top 25
abbrev s_law_box : Stmt := top 26
abbrev s_law_holds : Stmt := top 27
abbrev s_law_three : Stmt := top 28
abbrev s_law : Stmt := top 29
end Q2


namespace Q2
open PySem PySem.Spec PyProof.Rows L2
/-! ### the built-ins that stand as they were -/
structure Bt (mg : Str → Option Value) : Prop where
  int : mg "int" = none
  abs : mg "abs" = none
  len : mg "len" = none
  range : mg "range" = none
  isi : mg "isinstance" = none
  bool : mg "bool" = none
  tuple : mg "tuple" = none
  all : mg "all" = none
  repr : mg "repr" = none
abbrev Lo : Int := 1000000000000000000000000000000
abbrev FnP (K : PySem.W.Frag) (x : Str) (st : Stmt) (f : Addr) (fd : FuncData) : Prop := Fun K x x st f fd
theorem mod_rng {m : Int} (x : Int) (h : 0 < m) (hm : m ≤ 2147483647) : 0 ≤ x % m ∧ x % m ≤ 2147483646 := by
  have h1 := Int.emod_nonneg x (by omega : m ≠ 0)
  have h2 := Int.emod_lt_of_pos x h
  omega
theorem cmul_l {i j : Int} (h : 0 ≤ i ∧ i ≤ 4294967296) : CMul i j := .inl ⟨by omega, by omega⟩
theorem cdiv_w {i j : Int} (h : 0 < j) (h2 : j ≤ 10000000000000000000000000000000000000000) : CDivW i j := wide_div (b := 200) h (by omega) (by decide) (by decide)
section
variable {P : Program} {w : World} {K : PySem.W.Frag} {mg : Str → Option Value} {base : Heap}
/-! ### _law_mixed -/
theorem scMixed : FnScope ["_law_cell", "_law_draw", "_law_figure"] ["_law_cell", "_law_draw"] (defScope s_law_mixed) := ⟨rfl, rfl, rfl, by decide +kernel, rfl, by decide +kernel, by decide +kernel⟩
def spMixed : Sp := fun vs H Q _ => ∃ a b : Int, vs = [.int a, .int b] ∧ ∀ d : Int, 0 ≤ d → Q (.int d) H
theorem ok_mixed {f : Addr} {fd : FuncData} (F : FnP K "_law_mixed" s_law_mixed f fd) (B : Bt mg) : FnOk P w K mg base CX0 1 f fd ["_law_cell", "_law_draw"] spMixed := by
  refine F.ok scMixed (fun vs H Q E h => ?_) (fun cdv A outer s H vs Q E hr h => ?_)
  · obtain ⟨a, b, rfl, _⟩ := h
    rfl
  · obtain ⟨a, b, rfl, q⟩ := h
    refine ⟨_, pss_cons (ps_set (i := 2) scMixed.nd rfl (.inl rfl) (pe_op op_mod (pe_callTy call_int1 (by rfl) B.int (by decide +kernel) (pa_cons (pe_op op_mul (pe_op op_add (pe_op op_mod (pe_callTy call_int1 (by rfl) B.int (by decide +kernel) (pa_cons (pv 0) pa_nil)) pe_int) pe_int) (pe_op op_add (pe_op op_mul (pv 1) pe_int) pe_int)) pa_nil)) pe_int))
      (pss_cons (ps_set (i := 2) scMixed.nd rfl (.inl rfl) (pe_op op_mod (pe_callTy call_int1 (by rfl) B.int (by decide +kernel) (pa_cons (pe_op op_mul (pe_op op_add (pv 2) (pe_op op_mul (pe_op op_mod (pe_callTy call_int1 (by rfl) B.int (by decide +kernel) (pa_cons (pe_op op_fdivW (pv 0) pe_int) pa_nil)) pe_int) (pe_op op_add (pv 1) pe_int))) pe_int) pa_nil)) pe_int))
      (pss_cons (ps_set (i := 2) scMixed.nd rfl (.inl rfl) (pe_op op_mod (pe_callTy call_int1 (by rfl) B.int (by decide +kernel) (pa_cons (pe_op op_mul (pv 2) (pe_op op_add (pe_op op_add (pe_op op_fdiv (pv 2) pe_int) pe_int) (pv 1))) pa_nil)) pe_int))
      (pss_one (ps_ret (pe_op op_mod (pe_callTy call_int1 (by rfl) B.int (by decide +kernel) (pa_cons (pe_op op_mul (pv 2) (pe_op op_add (pe_op op_fdiv (pv 2) pe_int) pe_int)) pa_nil)) pe_int))))), ?_⟩
    -- the first figure
    have m0 := mod_rng (m := 2147483646) a (by decide) (by decide)
    refine ⟨_, rfl, .inl ⟨_, rfl, _, _, rfl, rfl, (by decide : (0 : Int) < 2147483646), _, _, rfl, rfl, _, rfl, _, _, rfl, rfl, .inr ⟨by decide, by decide⟩, _, _, rfl, rfl, _, _, rfl, rfl, cmul_l (by omega), .inl ⟨_, rfl, _, _, rfl, rfl, (by decide : (0 : Int) < 2147483647), ?_⟩⟩⟩
    have m1 := mod_rng (m := 2147483647) ((a % 2147483646 + 1) * (b * 7919 + 104729)) (by decide) (by decide)
    generalize ((a % 2147483646 + 1) * (b * 7919 + 104729)) % 2147483647 = g1 at m1 ⊢
    -- the second
    have m2 := mod_rng (m := 1000003) (a / 2147483646) (by decide) (by decide)
    refine ⟨_, rfl, _, rfl, _, _, rfl, rfl, cdiv_w (by decide) (by decide), .inl ⟨_, rfl, _, _, rfl, rfl, (by decide : (0 : Int) < 1000003), _, rfl, _, _, rfl, rfl, _, _, rfl, rfl, cmul_l (by omega), _, _, rfl, rfl, _, _, rfl, rfl, .inr ⟨by decide, by decide⟩, .inl ⟨_, rfl, _, _, rfl, rfl, (by decide : (0 : Int) < 2147483629), ?_⟩⟩⟩
    have m3 := mod_rng (m := 2147483629) ((g1 + a / 2147483646 % 1000003 * (b + 31)) * 48271) (by decide) (by decide)
    generalize ((g1 + a / 2147483646 % 1000003 * (b + 31)) * 48271) % 2147483629 = g2 at m3 ⊢
    -- the third
    refine ⟨_, rfl, _, rfl, _, _, rfl, rfl, ⟨by decide, by decide⟩, _, _, rfl, rfl, _, rfl, _, _, rfl, rfl, _, _, rfl, rfl, cmul_l (by omega), .inl ⟨_, rfl, _, _, rfl, rfl, (by decide : (0 : Int) < 2147483587), ?_⟩⟩
    have m4 := mod_rng (m := 2147483587) (g2 * (g2 / 1013 + 69621 + b)) (by decide) (by decide)
    generalize (g2 * (g2 / 1013 + 69621 + b)) % 2147483587 = g3 at m4 ⊢
    refine ⟨_, rfl, _, rfl, _, _, rfl, rfl, ⟨by decide, by decide⟩, _, _, rfl, rfl, _, _, rfl, rfl, cmul_l (by omega), .inl ⟨_, rfl, _, _, rfl, rfl, (by decide : (0 : Int) < 2147483563), ?_⟩⟩
    exact q _ (Int.emod_nonneg _ (by decide))
/-! ### _law_source -/
theorem scSource : FnScope ["_law_cell"] ["_law_cell"] (defScope s_law_source) := ⟨rfl, rfl, rfl, by decide +kernel, rfl, by decide +kernel, by decide +kernel⟩
def spSource : Sp := fun vs H Q _ => ∃ n : Int, vs = [.int n] ∧ ∀ s H', Same H H' → H s = none → Src H' s → Q (.ref s) H'
theorem ok_source {f : Addr} {fd : FuncData} (F : FnP K "_law_source" s_law_source f fd) (B : Bt mg) : FnOk P w K mg base CX0 1 f fd ["_law_cell"] spSource := by
  refine F.ok scSource (fun vs H Q E h => ?_) (fun cdv A outer s H vs Q E hr h => ?_)
  · obtain ⟨a, rfl, _⟩ := h
    rfl
  · obtain ⟨a, rfl, q⟩ := h
    refine ⟨_, pss_cons (ps_if (pt_cmpR op_ge (pe_callB call_abs (by rfl) B.abs (by decide +kernel) (pa_cons (pv 0) pa_nil)) (pe_op op_pow pe_int pe_int) (nomark _))
        (pss_one (ps_ret (pe_lst (pa_cons (pe_callB call_abs (by rfl) B.abs (by decide +kernel) (pa_cons (pv 0) pa_nil)) (pa_cons (pe_callB call_abs (by rfl) B.abs (by decide +kernel) (pa_cons (pv 0) pa_nil)) (pa_cons pe_int pa_nil)))))) pss_nil)
      (pss_one (ps_ret (pe_lst (pa_cons pe_int (pa_cons (pe_callB call_abs (by rfl) B.abs (by decide +kernel) (pa_cons (pv 0) pa_nil)) (pa_cons pe_int pa_nil)))))), ?_⟩
    have h0 : (0 : Int) ≤ (if a < 0 then -a else a) := by split <;> omega
    refine ⟨_, rfl, _, rfl, _, _, rfl, rfl, ⟨by decide, by decide, by decide⟩, _, _, rfl, rfl, _, rfl, ite2 (fun _ => ?_) (fun _ => ?_)⟩
    · refine ⟨_, rfl, _, rfl, _, rfl, _, rfl, (by show 3 ≤ sizeLine; decide), fun l hl => ?_⟩
      exact q l _ (same_new hl) hl ⟨_, _, _, h0, upd_same⟩
    · refine ⟨_, rfl, _, rfl, (by show 3 ≤ sizeLine; decide), fun l hl => ?_⟩
      exact q l _ (same_new hl) hl ⟨_, _, _, Int.le_refl _, upd_same⟩
/-! ### _law_take -/
theorem scTake : FnScope ["_law_source_here", "_law_bound", "_law_drawn"] ["_law_source_here", "_law_bound"] (defScope s_law_take) := ⟨rfl, rfl, rfl, by decide +kernel, rfl, by decide +kernel, by decide +kernel⟩
def spTake : Sp := fun vs H Q _ => ∃ (s : Addr) (n : Int), vs = [.ref s, .int n] ∧ Src H s ∧ 0 < n ∧ n ≤ 10000000000000000000000000000000000000000 ∧ ∀ (d : Int) H', 0 ≤ d → d < n → Src H' s → Ex s H H' → Q (.int d) H'
theorem ok_take {f fM : Addr} {fd fdM : FuncData} (F : FnP K "_law_take" s_law_take f fd) (B : Bt mg) (FM : FnP K "_law_mixed" s_law_mixed fM fdM) (bM : Binds K fdM ["_law_cell", "_law_draw"] []) (gM : mg "_law_mixed" = some (.ref fM)) : FnOk P w K mg base CX0 2 f fd ["_law_source_here", "_law_bound"] spTake := by
  have GM : FnOk P w K mg base CX0 1 fM fdM ["_law_cell", "_law_draw"] spMixed := ok_mixed FM B
  refine F.ok scTake (fun vs H Q E h => ?_) (fun cdv A outer s H vs Q E hr h => ?_)
  · obtain ⟨a, b, rfl, _⟩ := h
    rfl
  · obtain ⟨p, n, rfl, ⟨a, b, c, h0, hS⟩, n0, n1, q⟩ := h
    refine ⟨_, pss_cons (ps_if (pt_cmpR op_gt (pe_ix ix_list (pv 0) pe_int (fun _ _ => rfl)) pe_int (nomark _))
        (pss_cons (ps_set (i := 2) scTake.nd rfl (.inl rfl) (pe_op op_mod (pe_callTy call_int1 (by rfl) B.int (by decide +kernel) (pa_cons (pe_ix ix_list (pv 0) pe_int (fun _ _ => rfl)) pa_nil)) (pv 1)))
        (pss_cons (ps_asg (pe_op op_fdivW (pe_ix ix_list (pv 0) pe_int (fun _ _ => rfl)) (pv 1)) (pg_sub (pv 0) pe_int set_list))
        (pss_one (ps_ret (pv 2))))) pss_nil)
      (pss_cons (ps_asg (pe_op op_add (pe_ix ix_list (pv 0) pe_int (fun _ _ => rfl)) pe_int) (pg_sub (pv 0) pe_int set_list))
      (pss_one (ps_ret (pe_op op_mod (pe_callTy call_int1 (by rfl) B.int (by decide +kernel) (pa_cons (pe_call GM hr (by rfl) gM FM.kp bM .nil pass0 (pa_cons (pe_ix ix_list (pv 0) pe_int (fun _ _ => rfl)) (pa_cons (pe_ix ix_list (pv 0) pe_int (fun _ _ => rfl)) pa_nil))) pa_nil)) (pv 1))))), ?_⟩
    refine ⟨_, rfl, p, _, 0, .int a, rfl, rfl, SqL.of hS, atI_nat (j := 0) rfl, _, _, rfl, rfl, _, rfl, ite2 (fun e => ?_) (fun e => ?_)⟩
    · have ea : 0 < a := of_decide_eq_true e
      refine ⟨_, rfl, p, _, 0, .int a, rfl, rfl, SqL.of hS, atI_nat (j := 0) rfl, .inl ⟨_, rfl, _, rfl, _, _, rfl, rfl, n0, ?_⟩⟩
      refine ⟨_, rfl, p, _, 0, .int a, rfl, rfl, SqL.of hS, atI_nat (j := 0) rfl, _, rfl, _, _, rfl, rfl, cdiv_w n0 n1, _, rfl, p, _, 0, 0, rfl, rfl, hS, rfl, ?_⟩
      exact ⟨_, rfl, q _ _ (Int.emod_nonneg _ (by omega)) (Int.emod_lt_of_pos _ n0) ⟨_, b, c, Int.ediv_nonneg h0 (by omega), upd_same⟩ Ex.put⟩
    · refine ⟨_, rfl, p, _, 2, .int c, rfl, rfl, SqL.of hS, atI_nat (j := 2) rfl, _, _, rfl, rfl, _, rfl, p, _, 2, 2, rfl, rfl, hS, rfl, ?_⟩
      refine ⟨_, rfl, p, _, 1, .int b, rfl, rfl, SqL.of upd_same, atI_nat (j := 1) rfl, _, rfl, p, _, 2, .int (c + 1), rfl, rfl, SqL.of upd_same, atI_nat (j := 2) rfl, b, c + 1, rfl, fun d hd => ?_⟩
      refine .inl ⟨_, rfl, _, rfl, _, _, rfl, rfl, n0, ?_⟩
      exact q _ _ (Int.emod_nonneg _ (by omega)) (Int.emod_lt_of_pos _ n0) ⟨a, b, c + 1, h0, upd_same⟩ Ex.put
/-! ### _law_pick -/
theorem scPick : FnScope ["_law_source_here", "_law_some"] ["_law_source_here", "_law_some"] (defScope s_law_pick) := ⟨rfl, rfl, rfl, by decide +kernel, rfl, by decide +kernel, by decide +kernel⟩
def spPick : Sp := fun vs H Q _ => ∃ (s l : Addr) (xs : List V), vs = [.ref s, .ref l] ∧ Src H s ∧ l ≠ s ∧ H l = some (.lst xs) ∧ xs ≠ [] ∧ xs.length ≤ 1000 ∧ ∀ v H', v ∈ xs → Src H' s → Ex s H H' → Q v H'
theorem ok_pick {f fT fM : Addr} {fd fdT fdM : FuncData} (F : FnP K "_law_pick" s_law_pick f fd) (B : Bt mg) (GT : FnOk P w K mg base CX0 2 fT fdT ["_law_source_here", "_law_bound"] spTake) (kT : PySem.W.keepIn K (.ref fT) = true) (bT : Binds K fdT ["_law_source_here", "_law_bound"] []) (gT : mg "_law_take" = some (.ref fT)) : FnOk P w K mg base CX0 3 f fd ["_law_source_here", "_law_some"] spPick := by
  refine F.ok scPick (fun vs H Q E h => ?_) (fun cdv A outer s H vs Q E hr h => ?_)
  · obtain ⟨a, b, xs, rfl, _⟩ := h
    rfl
  · obtain ⟨p, l, xs, rfl, hS, hne, hl, hx, hlen, q⟩ := h
    refine ⟨_, pss_one (ps_ret (pe_ix ix_list (pv 1) (pe_call GT hr (by rfl) gT kT bT .nil pass0 (pa_cons (pv 0) (pa_cons (pe_callB call_len_seq (by rfl) B.len PySem.boot_len (pa_cons (pv 1) pa_nil)) pa_nil))) (fun _ _ => rfl))), ?_⟩
    have hpos : 0 < xs.length := List.length_pos_iff.mpr hx
    refine ⟨_, rfl, _, rfl, _, rfl, l, xs, rfl, .inl (SqL.of hl), p, (xs.length : Int), rfl, hS, (by omega), (by omega), fun d H' d0 d1 hS' e => ?_⟩
    have hl' : H' l = some (.lst xs) := e _ _ hl hne
    have hd : d.toNat < xs.length := by omega
    refine ⟨l, xs, d, xs[d.toNat], rfl, rfl, SqL.of hl', at_of (j := d.toNat) (by omega) (List.getElem?_eq_getElem hd), ?_⟩
    exact q _ _ (List.getElem_mem hd) hS' e
end
end Q2

namespace Q2
open PySem PySem.Spec PyProof.Rows L2
theorem Ex.free {s p : Addr} {H H' : Hp} (hs : Src H' s) (e : Ex s H H') (h : H' p = none) : H p = none := by
  cases q : H p with
  | none => rfl
  | some o =>
    have n : p ≠ s := hs.ne h
    rw [e _ _ q n] at h
    cases h
theorem hu65 {A : Around} {k : Nat} (hr : Room k A) : A.units + 65 < cLine := by have := hr.un; omega
theorem hu64 {A : Around} {k : Nat} (hr : Room k A) : A.units + 64 < cLine := by have := hr.un; omega
section
variable {P : Program} {w : World} {K : PySem.W.Frag} {mg : Str → Option Value} {base : Heap}
/-! ### _law_spots -/
theorem scSpots : FnScope ["_law_source_here", "_law_most", "_law_many", "_law_wide", "_law_found", "_law_turn", "_law_spot"] ["_law_source_here", "_law_most"] (defScope s_law_spots) := ⟨rfl, rfl, rfl, by decide +kernel, rfl, by decide +kernel, by decide +kernel⟩
def spSpots : Sp := fun vs H Q _ => ∃ (s : Addr) (n : Int), vs = [.ref s, .int n] ∧ Src H s ∧ 0 ≤ n ∧ n ≤ 40 ∧ ∀ (a : Addr) (ps : Pts) H', Src H' s → Ex s H H' → H a = none → Spots H' Lo a ps → (ps.map (·.2)).Nodup → (ps.length : Int) ≤ n → Q (.ref a) H'
theorem wide_of {v : V} (h : v ∈ [V.int 3, V.int 6, V.int 20, V.int ((10 : Int) ^ (9 : Int).toNat), V.int ((10 : Int) ^ (30 : Int).toNat)]) : ∃ z : Int, v = .int z ∧ 0 < z ∧ z ≤ Lo := by
  simp only [List.mem_cons, List.not_mem_nil, or_false] at h
  rcases h with rfl | rfl | rfl | rfl | rfl
  · exact ⟨_, rfl, by decide, by decide⟩
  · exact ⟨_, rfl, by decide, by decide⟩
  · exact ⟨_, rfl, by decide, by decide⟩
  · exact ⟨_, rfl, by decide, by decide⟩
  · exact ⟨_, rfl, by decide, by decide⟩
theorem ok_spots {f fT fP : Addr} {fd fdT fdP : FuncData} (F : FnP K "_law_spots" s_law_spots f fd) (B : Bt mg) (GT : FnOk P w K mg base CX0 2 fT fdT ["_law_source_here", "_law_bound"] spTake) (kT : PySem.W.keepIn K (.ref fT) = true) (bT : Binds K fdT ["_law_source_here", "_law_bound"] []) (gT : mg "_law_take" = some (.ref fT))
    (GP : FnOk P w K mg base CX0 3 fP fdP ["_law_source_here", "_law_some"] spPick) (kP : PySem.W.keepIn K (.ref fP) = true) (bP : Binds K fdP ["_law_source_here", "_law_some"] []) (gP : mg "_law_pick" = some (.ref fP)) : FnOk P w K mg base CX0 4 f fd ["_law_source_here", "_law_most"] spSpots := by
  refine F.ok scSpots (fun vs H Q E h => ?_) (fun cdv A outer s H vs Q E hr h => ?_)
  · obtain ⟨a, b, rfl, _⟩ := h
    rfl
  · obtain ⟨p, n, rfl, hS, n0, n1, q⟩ := h
    refine ⟨_, pss_cons (ps_par (i := 2) (j := 3) rfl scSpots.nd rfl rfl (by decide) rfl rfl
        (pa_cons (pe_call GT (hr.mono (by decide)) (by rfl) gT kT bT .nil pass0 (pa_cons (pv 0) (pa_cons (pe_op op_add (pv 1) pe_int) pa_nil)))
        (pa_cons (pe_call GP hr (by rfl) gP kP bP .nil pass0 (pa_cons (pv 0) (pa_cons (pe_lst (pa_cons pe_int (pa_cons pe_int (pa_cons pe_int (pa_cons (pe_op op_pow pe_int pe_int) (pa_cons (pe_op op_pow pe_int pe_int) pa_nil)))))) pa_nil))) pa_nil)) rfl)
      (pss_cons (ps_set (i := 4) scSpots.nd rfl (.inl rfl) (pe_lst pa_nil))
      (pss_cons (ps_for PassesOwn.never rfl (pi_range1 (by rfl) B.range (pa_cons (pv 2) pa_nil)) (pg_name (i := 5) scSpots.nd rfl (.inl rfl))
        (pss_cons (ps_set (i := 6) scSpots.nd rfl (.inl rfl) (pe_tup
            (pa_cons (pe_op op_sub (pe_call GT (hr.mono (by decide)) (by rfl) gT kT bT .nil pass0 (pa_cons (pv 0) (pa_cons (pe_op op_add (pe_op op_mul pe_int (pv 3)) pe_int) pa_nil))) (pv 3))
            (pa_cons (pe_op op_sub (pe_call GT (hr.mono (by decide)) (by rfl) gT kT bT .nil pass0 (pa_cons (pv 0) (pa_cons (pe_op op_add (pe_op op_mul pe_int (pv 3)) pe_int) pa_nil))) (pv 3)) pa_nil))))
        (pss_one (ps_set (i := 4) scSpots.nd rfl (.inl rfl) (pe_op op_cat (pv 4) (pe_op op_rep (pe_lst (pa_cons (pv 6) pa_nil)) (pe_callTy call_int1 (by rfl) B.int (by decide +kernel) (pa_cons (pe_cmpR (op_notInD (hu65 hr)) (pv 6) (pv 4) (by rfl)) pa_nil))))))))
      (pss_one (ps_ret (pv 4))))), ?_⟩
    -- many, wide
    refine ⟨_, rfl, _, rfl, _, _, rfl, rfl, p, n + 1, rfl, hS, by omega, by omega, fun many H1 m0 m1 hS1 e1 => ?_⟩
    refine ⟨_, rfl, _, _, rfl, rfl, ⟨by decide, by decide, by decide⟩, _, _, rfl, rfl, ⟨by decide, by decide, by decide⟩, (by show 5 ≤ sizeLine; decide), fun l hl => ?_⟩
    refine ⟨p, l, _, rfl, hS1.same (same_new hl), hS1.ne hl, upd_same, List.cons_ne_nil _ _, (by show 5 ≤ 1000; decide), fun v H2 hv hS2 e2 => ?_⟩
    obtain ⟨z, rfl, z0, z1⟩ := wide_of hv
    have e12 : Ex p H H2 := (e1.trans (Ex.same (same_new hl))).trans e2
    refine ⟨_, _, rfl, Nat.zero_le _, fun a ha => ?_⟩
    have fa : H a = none := e12.free hS2 ha
    refine ⟨_, rfl, many, rfl, by omega, by omega, for_range (n := many.toNat) (fun i σ H3 => ∃ (b : Addr) (ps : Pts) (y5 y6 : Option V), σ = [some (.ref p), some (.int n), some (.int many), some (.int z), some (.ref b), y5, y6] ∧ Src H3 p ∧ Ex p H H3 ∧ H b = none ∧ Spots H3 Lo b ps ∧ (ps.map (·.2)).Nodup ∧ ps.length ≤ i) ?_ ?_ ?_⟩
    · exact ⟨a, [], none, none, rfl, hS2.same (same_new ha), e12.trans (Ex.same (same_new ha)), fa, ⟨upd_same, Nat.zero_le _, fun q hq => (List.not_mem_nil hq).elim⟩, List.nodup_nil, Nat.le_refl _⟩
    · rintro i σ H3 hi ⟨b, ps, y5, y6, rfl, hS3, e3, fb, hP, hnd, hl3⟩
      have hz : (2 : Int) * z + 1 ≤ 10000000000000000000000000000000000000000 := by
        have z1' : z ≤ 1000000000000000000000000000000 := z1
        omega
      refine ⟨_, rfl, _, rfl, _, _, rfl, rfl, .inl ⟨by decide, by decide⟩, _, _, rfl, rfl, p, _, rfl, hS3, by omega, hz, fun x H4 x0 x1 hS4 e4 => ?_⟩
      refine ⟨_, rfl, _, _, rfl, rfl, _, rfl, _, rfl, _, _, rfl, rfl, .inl ⟨by decide, by decide⟩, _, _, rfl, rfl, p, _, rfl, hS4, by omega, hz, fun y H5 y0 y1 hS5 e5 => ?_⟩
      refine ⟨_, rfl, _, _, rfl, rfl, (by show 2 ≤ sizeLine; decide), fun t ht => ?_⟩
      have hbp : b ≠ p := fun e => by
        obtain ⟨_, _, _, _, h⟩ := hS
        rw [e, h] at fb
        cases fb
      have hP5 : Spots H5 Lo b ps := hP.ex hS3 hbp (e4.trans e5)
      have hP6 := hP5.same (same_new (o := .tup [.int (x - z), .int (y - z)]) ht)
      have hq : PtAt (upd H5 t (.tup [.int (x - z), .int (y - z)])) Lo (t, x - z, y - z) := ⟨upd_same, ⟨by have z1' : z ≤ 1000000000000000000000000000000 := z1; show -1000000000000000000000000000000 ≤ x - z ∧ x - z ≤ 1000000000000000000000000000000; omega, by have z1' : z ≤ 1000000000000000000000000000000 := z1; show -1000000000000000000000000000000 ≤ y - z ∧ y - z ≤ 1000000000000000000000000000000; omega⟩⟩
      refine ⟨_, rfl, _, rfl, (by show 1 ≤ sizeLine; decide), fun l6 hl6 => ?_⟩
      have s6 : Same (upd H5 t (.tup [.int (x - z), .int (y - z)])) (upd (upd H5 t (.tup [.int (x - z), .int (y - z)])) l6 (.lst [.ref t])) := same_new hl6
      refine ⟨_, rfl, _, rfl, ptD (x - z, y - z), _, dp_pt (hq.same s6), dp_spots (hP6.same s6), ptD_shaped _, ptDs_shaped _, ?_⟩
      rw [any_pt]
      refine .inr ⟨_, rfl, l6, _, [.ref t], rfl, rfl, upd_same, ?_, ?_, ?_, fun l7 hl7 => ?_⟩
      · split <;> decide
      · split <;> decide
      · have : (if (!decide ((x - z, y - z) ∈ ps.map (·.2))) = true then (1 : Int) else 0).toNat ≤ 1 := by split <;> decide
        exact Nat.le_trans (Nat.mul_le_mul_left 1 this) (by decide)
      · have s7 : Same (upd (upd H5 t (.tup [.int (x - z), .int (y - z)])) l6 (.lst [.ref t])) (upd (upd (upd H5 t (.tup [.int (x - z), .int (y - z)])) l6 (.lst [.ref t])) l7 (.lst (List.replicate (if (!decide ((x - z, y - z) ∈ ps.map (·.2))) = true then (1 : Int) else 0).toNat [V.ref t]).flatten)) := same_new hl7
        have hP7 := (hP6.same s6).same s7
        refine ⟨b, l7, _, _, rfl, rfl, hP7.1, upd_same, ?_, fun l8 hl8 => ?_⟩
        · have h1 := hP.2.1
          have h2 : ((List.replicate (if (!decide ((x - z, y - z) ∈ ps.map (·.2))) = true then (1 : Int) else 0).toNat [V.ref t]).flatten).length ≤ 1 := by
            split <;> simp
          rw [List.length_map]
          exact small40 (by omega)
        · have s8 := same_new (o := .lst ((ps.map fun q => V.ref q.1) ++ (List.replicate (if (!decide ((x - z, y - z) ∈ ps.map (·.2))) = true then (1 : Int) else 0).toNat [V.ref t]).flatten)) hl8
          have hS8 : Src _ p := (((hS5.same (same_new (o := .tup [.int (x - z), .int (y - z)]) ht)).same s6).same s7).same s8
          have e8 : Ex p H _ := ((((e3.trans (e4.trans e5)).trans (Ex.same (same_new (o := .tup [.int (x - z), .int (y - z)]) ht))).trans (Ex.same s6)).trans (Ex.same s7)).trans (Ex.same s8)
          have f8 : H l8 = none := Ex.free ((((hS5.same (same_new (o := .tup [.int (x - z), .int (y - z)]) ht)).same s6).same s7)) ((((e3.trans (e4.trans e5)).trans (Ex.same (same_new (o := .tup [.int (x - z), .int (y - z)]) ht))).trans (Ex.same s6)).trans (Ex.same s7)) hl8
          have hq8 := ((hq.same s6).same s7).same s8
          have hP8 := hP7.same s8
          by_cases hin : (x - z, y - z) ∈ ps.map (·.2)
          · refine ⟨l8, ps, _, _, rfl, hS8, e8, f8, ⟨?_, hP8.2⟩, hnd, by omega⟩
            rw [upd_same, decide_eq_true hin]
            simp
          · refine ⟨l8, ps ++ [(t, x - z, y - z)], _, _, rfl, hS8, e8, f8, ⟨?_, ?_, ?_⟩, ?_, ?_⟩
            · rw [upd_same, decide_eq_false hin]
              simp
            · rw [List.length_append, List.length_singleton]
              have : many ≤ 40 := by omega
              omega
            · intro r hr'
              rcases List.mem_append.mp hr' with h | h
              · exact hP8.2.2 r h
              · rw [List.mem_singleton.mp h]
                exact hq8
            · rw [List.map_append]
              exact nd_snoc hnd hin
            · rw [List.length_append, List.length_singleton]
              omega
    · rintro σ H3 ⟨b, ps, y5, y6, rfl, hS3, e3, fb, hP, hnd, hl3⟩
      exact ⟨_, rfl, q b ps H3 hS3 e3 fb hP hnd (by omega)⟩
end
end Q2

namespace Q2
open PySem PySem.Spec PyProof.Rows L2
def XY (H : Hp) (t : Addr) (x y : Int) : Prop := H t = some (.tup [.int x, .int y])
def absI (i : Int) : Int := if i < 0 then -i else i
theorem abs_le {i m : Int} (h : -m ≤ i ∧ i ≤ m) : decide (absI i ≤ m) = true := decide_eq_true (by unfold absI; split <;> omega)
section
variable {P : Program} {w : World} {K : PySem.W.Frag} {mg : Str → Option Value} {base : Heap}
/-! ### is_integer, is_coordinate -/
theorem scIsInt : FnScope ["value"] ["value"] (defScope s_is_integer) := ⟨rfl, rfl, rfl, by decide +kernel, rfl, by decide +kernel, by decide +kernel⟩
def spIsInt : Sp := fun vs H Q _ => ∃ i : Int, vs = [.int i] ∧ Q (.bl true) H
theorem ok_isInt {f : Addr} {fd : FuncData} (F : FnP K "is_integer" s_is_integer f fd) (B : Bt mg) : FnOk P w K mg base CX0 1 f fd ["value"] spIsInt := by
  refine F.ok scIsInt (fun vs H Q E h => ?_) (fun cdv A outer s H vs Q E hr h => ?_)
  · obtain ⟨a, rfl, _⟩ := h
    rfl
  · obtain ⟨i, rfl, q⟩ := h
    refine ⟨_, pss_one (ps_ret (pe_and (pe_callB call_isi (by rfl) B.isi (by decide +kernel) (pa_cons (pv 0) (pa_cons (pe_bltn (v := .ty "int") (by rfl) B.int (by decide +kernel) rfl) pa_nil)))
      (pe_one (pe_not (pe_callB call_isi (by rfl) B.isi (by decide +kernel) (pa_cons (pv 0) (pa_cons (pe_bltn (v := .ty "bool") (by rfl) B.bool (by decide +kernel) rfl) pa_nil))))))), ?_⟩
    refine ⟨_, rfl, _, _, _, _, true, rfl, .ty "int", .base (.int i), kit_ty (by decide +kernel), _, rfl, iteT ?_⟩
    exact ⟨_, rfl, _, _, _, _, false, rfl, .ty "bool", .base (.int i), kit_ty (by decide +kernel), _, rfl, q⟩
theorem scCoord : FnScope ["value"] ["value"] (defScope s_is_coordinate) := ⟨rfl, rfl, rfl, by decide +kernel, rfl, by decide +kernel, by decide +kernel⟩
def spCoord : Sp := fun vs H Q _ => ∃ i : Int, vs = [.int i] ∧ Q (.bl (decide (-Lo ≤ i ∧ i ≤ Lo))) H
theorem ok_coord {f fI : Addr} {fd fdI : FuncData} {tc : Tok} (F : FnP K "is_coordinate" s_is_coordinate f fd) (B : Bt mg) (FI : FnP K "is_integer" s_is_integer fI fdI) (bI : Binds K fdI ["value"] []) (gI : mg "is_integer" = some (.ref fI))
    (gC : mg "FARTHEST_COORDINATE" = some (.int Lo tc)) : FnOk P w K mg base CX0 2 f fd ["value"] spCoord := by
  have GI : FnOk P w K mg base CX0 1 fI fdI ["value"] spIsInt := ok_isInt FI B
  refine F.ok scCoord (fun vs H Q E h => ?_) (fun cdv A outer s H vs Q E hr h => ?_)
  · obtain ⟨a, rfl, _⟩ := h
    rfl
  · obtain ⟨i, rfl, q⟩ := h
    refine ⟨_, pss_one (ps_ret (pe_and (pe_call GI hr (by rfl) gI FI.kp bI .nil pass0 (pa_cons (pv 0) pa_nil)) (pe_one (pe_chain op_le op_le (pe_un un_neg (pe_glob (v := .int Lo) (by rfl) gC ⟨_, rfl⟩)) (pv 0) (pe_glob (v := .int Lo) (by rfl) gC ⟨_, rfl⟩))))), ?_⟩
    refine ⟨_, rfl, i, rfl, _, rfl, iteT ?_⟩
    refine ⟨_, rfl, _, rfl, _, _, rfl, rfl, _, rfl, ?_⟩
    by_cases h1 : -Lo ≤ i
    · rw [decide_eq_true h1]
      refine iteT ⟨_, _, rfl, rfl, ?_⟩
      have e : decide (-Lo ≤ i ∧ i ≤ Lo) = decide (i ≤ Lo) := decide_eq_decide.mpr ⟨fun h => h.2, fun h => ⟨h1, h⟩⟩
      rw [e] at q
      exact q
    · rw [decide_eq_false h1]
      have e : decide (-Lo ≤ i ∧ i ≤ Lo) = false := decide_eq_false fun h => h1 h.1
      rw [e] at q
      exact iteF q
/-! ### is_point, check_point -/
theorem scIsPt : FnScope ["value"] ["value"] (defScope s_is_point) := ⟨rfl, rfl, rfl, by decide +kernel, rfl, by decide +kernel, by decide +kernel⟩
def PtIn (H : Hp) (t : Addr) (x y : Int) : Prop := XY H t x y ∧ (-Lo ≤ x ∧ x ≤ Lo) ∧ (-Lo ≤ y ∧ y ≤ Lo)
theorem PtIn.same {H H' : Hp} {t : Addr} {x y : Int} (e : Same H H') (h : PtIn H t x y) : PtIn H' t x y := ⟨e _ _ h.1, h.2⟩
def spIsPt : Sp := fun vs H Q _ => ∃ (t : Addr) (x y : Int), vs = [.ref t] ∧ PtIn H t x y ∧ ∀ H', Same H H' → Q (.bl true) H'
theorem all_true (n : Nat) : (List.replicate n true).all id = true := by
  induction n with
  | zero => rfl
  | succ n ih => rw [List.replicate_succ, List.all_cons, ih]; rfl
theorem ok_isPt {f fU : Addr} {fd fdU : FuncData} (F : FnP K "is_point" s_is_point f fd) (B : Bt mg) (GU : FnOk P w K mg base CX0 2 fU fdU ["value"] spCoord) (kU : PySem.W.keepIn K (.ref fU) = true) (bU : Binds K fdU ["value"] []) (gU : mg "is_coordinate" = some (.ref fU)) : FnOk P w K mg base CX0 3 f fd ["value"] spIsPt := by
  refine F.ok scIsPt (fun vs H Q E h => ?_) (fun cdv A outer s H vs Q E hr h => ?_)
  · obtain ⟨a, b, c, rfl, _⟩ := h
    rfl
  · obtain ⟨t, x, y, rfl, ⟨hT, hx, hy⟩, q⟩ := h
    refine ⟨_, pss_cons (ps_if (PW.pt (pw_or (pt_not (pt_val (pe_callB call_isi (by rfl) B.isi (by decide +kernel) (pa_cons (pv 0) (pa_cons (pe_bltn (v := .ty "tuple") (by rfl) B.tuple (by decide +kernel) rfl) pa_nil))))) (pw_or1 (pt_cmpR op_ne (pe_callB call_len_seq (by rfl) B.len PySem.boot_len (pa_cons (pv 0) pa_nil)) pe_int (nomark _))))) (pss_one (ps_ret pe_bl)) pss_nil)
      (pss_one (ps_ret (pe_and (pe_call GU hr (by rfl) gU kU bU .nil pass0 (pa_cons (pe_ix ix_tup (pv 0) pe_int (fun _ _ => rfl)) pa_nil)) (pe_one (pe_call GU hr (by rfl) gU kU bU .nil pass0 (pa_cons (pe_ix ix_tup (pv 0) pe_int (fun _ _ => rfl)) pa_nil)))))), ?_⟩
    refine ⟨_, rfl, _, _, _, _, true, rfl, .ty "tuple", .base (.tup hT), kit_ty (by decide +kernel), _, rfl, iteF ?_⟩
    refine ⟨_, rfl, t, _, rfl, .inr (SqT.of hT), rfl, _, rfl, iteF ?_⟩
    refine ⟨_, rfl, t, _, 0, .int x, rfl, rfl, SqT.of hT, atI_nat (j := 0) rfl, x, rfl, ?_⟩
    rw [decide_eq_true hx]
    refine ⟨_, rfl, iteT ?_⟩
    refine ⟨_, rfl, t, _, 1, .int y, rfl, rfl, SqT.of hT, atI_nat (j := 1) rfl, y, rfl, ?_⟩
    rw [decide_eq_true hy]
    exact q H (fun _ _ h => h)
theorem scChkPt : FnScope ["value"] ["value"] (defScope s_check_point) := ⟨rfl, rfl, rfl, by decide +kernel, rfl, by decide +kernel, by decide +kernel⟩
def spChkPt : Sp := fun vs H Q _ => ∃ (t : Addr) (x y : Int), vs = [.ref t] ∧ PtIn H t x y ∧ ∀ H', Same H H' → Q .non H'
theorem ok_chkPt {f fI : Addr} {fd fdI : FuncData} (F : FnP K "check_point" s_check_point f fd) (GI : FnOk P w K mg base CX0 3 fI fdI ["value"] spIsPt) (kI : PySem.W.keepIn K (.ref fI) = true) (bI : Binds K fdI ["value"] []) (gI : mg "is_point" = some (.ref fI)) : FnOk P w K mg base CX0 4 f fd ["value"] spChkPt := by
  refine F.ok scChkPt (fun vs H Q E h => ?_) (fun cdv A outer s H vs Q E hr h => ?_)
  · obtain ⟨a, b, c, rfl, _⟩ := h
    rfl
  · obtain ⟨t, x, y, rfl, hT, q⟩ := h
    refine ⟨_, pss_one (ps_if (pt_not (pt_val (pe_call GI hr (by rfl) gI kI bI .nil pass0 (pa_cons (pv 0) pa_nil)))) pss_never pss_nil), ?_⟩
    exact ⟨_, rfl, t, x, y, rfl, hT, fun H' e => ⟨_, rfl, iteF (q H' e)⟩⟩
end
end Q2

namespace Q2
open PySem PySem.Spec PyProof.Rows L2
/-! ### two keywords, the other way round -/
def sw {α : Type} : List α → List α → List α
  | [], [a, b] => [b, a]
  | _, _ => []
theorem sw_rel {vs zs : List V} {us ws : List Value} (h1 : Vals vs us) (h2 : Vals zs ws) : Vals (sw vs zs) (sw us ws) := by
  cases h1 with
  | nil =>
    cases h2 with
    | nil => exact .nil
    | cons a r =>
      cases r with
      | nil => exact .nil
      | cons b r2 =>
        cases r2 with
        | nil => exact .cons b (.cons a .nil)
        | cons c r3 => exact .nil
  | cons a r => exact .nil
theorem sw_two {us ws : List Value} (h : (sw us ws).length = 2) : ∃ a b, us = [] ∧ ws = [a, b] := by
  unfold sw at h
  split at h
  · exact ⟨_, _, rfl, rfl⟩
  · cases h
section
variable {P : Program} {w : World} {K : PySem.W.Frag} {mg : Str → Option Value} {base : Heap}
theorem kb_of {x : Str} {st : Stmt} {f : Addr} {fd : FuncData} {ps ks : List Str} (F : FnP K x st f fd) (hp : ps.length = 2)
    (h : ∀ (kV doc pm : Value) (an : Option Addr) (cdv ct a b : Value), bindArgs (PySem.W.fnOf x x (defArgs st) (defBody st) (defScope st) .none kV doc pm an cdv ct) ⟨[], ks.zip [a, b]⟩ = pure (ps.zip [b, a])) : KBinds K fd ps ks sw sw := by
  obtain ⟨oc, od, kV, doc, pm, an, cdv, ct, osl, rfl, lk, hcd⟩ := F.ex
  refine ⟨fun s us ws _ hl => ?_, sw_rel⟩
  rw [hp] at hl
  obtain ⟨a, b, rfl, rfl⟩ := sw_two hl
  exact .of_eq (h _ _ _ _ _ _ _ _)
end
end Q2

namespace Q2
open PySem PySem.Spec PyProof.Rows L2
/-- a pair greater than another one -/
def gtP (x y x' y' : Int) : Bool := decide (x' < x ∨ (x = x' ∧ y' < y))
def rGtP : R2 := fun v u H Q => ∃ (a b : Addr) (x y x' y' : Int), v = .ref a ∧ u = .ref b ∧ XY H a x y ∧ XY H b x' y' ∧ Q (.bl (gtP x y x' y')) H
section
variable {X : Cx}
theorem op_gtP (hu : X.A.units < cLine) : OpR X (compareOp .Gt) rGtP := by
  intro pins s σ H vv uu v u Q I rx ry h
  obtain ⟨a, b, x, y, x', y', rfl, rfl, ha, hb, q⟩ := h
  cases rx
  cases ry
  obtain ⟨tx, ty, p1⟩ := raw_pt I ha
  obtain ⟨tx', ty', p2⟩ := raw_pt I hb
  have R := Ob.RcOp.tuples_gt (A := X.A) (s := s) (e := fun j => match j with | 0 => x == x' | _ => y == y') (r := fun j => match j with | 0 => decide (x' < x) | _ => decide (y' < y)) p1 p2 hu (fun j h1 h2 => by
    match j, h1 with
    | 0, _ => exact SeqAt.EqAt.int_int _ _ _ _
    | 1, _ => exact SeqAt.EqAt.int_int _ _ _ _) (fun j h1 h2 _ => by
    match j, h1 with
    | 0, _ => exact Ob.RcOp.gt_int _ _ _ _
    | 1, _ => exact Ob.RcOp.gt_int _ _ _ _)
  have e : Ob.lexAt (fun j => match j with | 0 => x == x' | _ => y == y') (fun j => match j with | 0 => decide (x' < x) | _ => decide (y' < y)) (decide ((#[Value.int x tx, Value.int y ty] : Array Value).size > (#[Value.int x' tx', Value.int y' ty'] : Array Value).size)) 0 (min (#[Value.int x tx, Value.int y ty] : Array Value).size (#[Value.int x' tx', Value.int y' ty'] : Array Value).size) = gtP x y x' y' := by
    show (if (x == x') = true then (if (y == y') = true then decide (2 > 2) else decide (y' < y)) else decide (x' < x)) = gtP x y x' y'
    unfold gtP
    by_cases h1 : x = x'
    · subst h1
      by_cases h2 : y = y'
      · subst h2
        simp
      · simp [h2]
    · simp [h1]
  rw [e] at R
  exact R X.prog X.w X.xe (EP X pins σ Q) ⟨.bl _, H, I, rfl, q⟩
theorem call_repr_non : CallR X (.builtin "repr") (fun xs H Q => xs = [.non] ∧ Q (.str (Str.ofString "None")) H) := by
  intro pins s σ H xs us Q I r h
  obtain ⟨rfl, q⟩ := h
  cases r with
  | cons r1 r2 =>
    cases r2
    cases r1
    exact PySem.P.repr_of_none ⟨.str _, H, I.tok _, ⟨_, rfl⟩, q⟩
/-- repr of an int or None -/
def reprO : Option Int → Str
  | none => Str.ofString "None"
  | some i => toString i
def oV : Option Int → V
  | none => .non
  | some i => .int i
theorem call_reprO : CallR X (.builtin "repr") (fun xs H Q => ∃ o : Option Int, xs = [oV o] ∧ (∀ i, o = some i → i.natAbs.log2 < 1920) ∧ Q (.str (reprO o)) H) := by
  intro pins s σ H xs us Q I r h
  obtain ⟨o, rfl, ho, q⟩ := h
  cases o with
  | none => exact call_repr_non pins s σ H _ us Q I r ⟨rfl, q⟩
  | some i => exact SkE.call_repr_int pins s σ H _ us Q I r ⟨i, rfl, ho i rfl, q⟩
/-- two values that are None or ints -/
def rEqO : R2 := fun x y H Q => ∃ (a b : Option Int), x = oV a ∧ y = oV b ∧ Q (.bl (decide (a = b))) H
end
end Q2

namespace Q2
open PySem PySem.Spec PyProof.Rows L2
/-- the other built-ins -/
structure B1 (mg : Str → Option Value) : Prop where
  list : mg "list" = none
  set : mg "set" = none
  enum : mg "enumerate" = none
  sorted : mg "sorted" = none
def partM (x y x' y' : Int) : Option Int := if (x, y) = (x', y') then none else some ((if gtP x' y' x y = true then 1 else 0) + (if gtP y' x' y x = true then 2 else 0))
theorem room_dep {A : Around} {k : Nat} (hr : Room k A) : A.depth < recursionLimit := by have := hr.dp; omega
theorem room_un {A : Around} {k : Nat} (hr : Room k A) : A.units < cLine := by have := hr.un; omega
section
variable {P : Program} {w : World} {K : PySem.W.Frag} {mg : Str → Option Value} {base : Heap}
/-! ### y_key -/
theorem scYKey : FnScope ["point"] ["point"] (defScope s_y_key) := ⟨rfl, rfl, rfl, by decide +kernel, rfl, by decide +kernel, by decide +kernel⟩
theorem swaps_y : Swaps s_y_key := ⟨"point", _, _, _, _, _, _, _, _, _, _, _, scYKey, rfl, by decide, rfl, fun _ _ _ _ _ _ _ _ _ => rfl⟩
def spYKey : Sp := fun vs H Q _ => ∃ (t : Addr) (x y : Int), vs = [.ref t] ∧ XY H t x y ∧ ∀ p, H p = none → Q (.ref p) (upd H p (.tup [.int y, .int x]))
theorem ok_yKey {f : Addr} {fd : FuncData} (F : FnP K "y_key" s_y_key f fd) : FnOk P w K mg base CX0 1 f fd ["point"] spYKey := by
  refine F.ok scYKey (fun vs H Q E h => ?_) (fun cdv A outer s H vs Q E hr h => ?_)
  · obtain ⟨a, b, c, rfl, _⟩ := h
    rfl
  · obtain ⟨t, x, y, rfl, hT, q⟩ := h
    refine ⟨_, pss_one (ps_ret (pe_tup (pa_cons (pe_ix ix_tup (pv 0) pe_int (fun _ _ => rfl)) (pa_cons (pe_ix ix_tup (pv 0) pe_int (fun _ _ => rfl)) pa_nil)))), ?_⟩
    refine ⟨_, rfl, t, _, 1, .int y, rfl, rfl, SqT.of hT, atI_nat (j := 1) rfl, _, rfl, t, _, 0, .int x, rfl, rfl, SqT.of hT, atI_nat (j := 0) rfl, (by show 2 ≤ sizeLine; decide), fun p hp => ?_⟩
    exact q p hp
theorem partM_eq (x y x' y' : Int) : partM x y x' y' = if x < x' then some (if y ≤ y' then 3 else 1) else if x' < x then some (if y < y' then 2 else 0) else if y' = y then none else some (if y < y' then 3 else 0) := by
  unfold partM gtP
  simp only [decide_eq_true_eq, Prod.mk.injEq]
  by_cases h1 : x < x'
  · rw [if_neg (by omega), if_pos (by omega), if_pos h1]
    by_cases h2 : y ≤ y'
    · rw [if_pos (by omega), if_pos h2]; rfl
    · rw [if_neg (by omega), if_neg h2]; rfl
  · rw [if_neg h1]
    by_cases h3 : x' < x
    · rw [if_neg (by omega), if_neg (by omega), if_pos h3]
      by_cases h2 : y < y'
      · rw [if_pos (by omega), if_pos h2]; rfl
      · rw [if_neg (by omega), if_neg h2]; rfl
    · rw [if_neg h3]
      by_cases h4 : y' = y
      · rw [if_pos (by omega), if_pos h4]
      · rw [if_neg (by omega), if_neg h4]
        by_cases h2 : y < y'
        · rw [if_pos (by omega), if_pos (by omega), if_pos h2]; rfl
        · rw [if_neg (by omega), if_neg (by omega), if_neg h2]; rfl
/-! ### part_of, quarter -/
theorem scPart : FnScope ["root", "point", "x", "y"] ["root", "point"] (defScope s_part_of) := ⟨rfl, rfl, rfl, by decide +kernel, rfl, by decide +kernel, by decide +kernel⟩
def spPart : Sp := fun vs H Q _ => ∃ (t u : Addr) (x y x' y' : Int), vs = [.ref t, .ref u] ∧ PtIn H t x y ∧ PtIn H u x' y' ∧ ∀ H', Same H H' → Q (oV (partM x y x' y')) H'
theorem dp_in {H : Hp} {t : Addr} {x y : Int} (h : PtIn H t x y) : Dp K H (.ref t) (ptD (x, y)) := dp_pt (B := Lo) (q := (t, x, y)) h
theorem ok_part {f : Addr} {fd : FuncData} (F : FnP K "part_of" s_part_of f fd) : FnOk P w K mg base CX0 2 f fd ["root", "point"] spPart := by
  refine F.ok scPart (fun vs H Q E h => ?_) (fun cdv A outer s H vs Q E hr h => ?_)
  · obtain ⟨a, b, _, _, _, _, rfl, _⟩ := h
    rfl
  · obtain ⟨t, u, x, y, x', y', rfl, hT, hU, q⟩ := h
    refine ⟨_, pss_cons (ps_asg (pv 0) (pg_tup rfl (pgs_cons (pg_name (i := 2) scPart.nd rfl (.inl rfl)) (pgs_cons (pg_name (i := 3) scPart.nd rfl (.inl rfl)) pgs_nil))))
      (pss_cons (ps_if (pt_cmpR op_gt (pe_ix ix_tup (pv 1) pe_int (fun _ _ => rfl)) (pv 2) (nomark _)) (pss_one (ps_ret (pe_ifExp (pt_cmpR op_ge (pe_ix ix_tup (pv 1) pe_int (fun _ _ => rfl)) (pv 3) (nomark _)) pe_int pe_int))) pss_nil)
      (pss_cons (ps_if (pt_cmpR op_lt (pe_ix ix_tup (pv 1) pe_int (fun _ _ => rfl)) (pv 2) (nomark _)) (pss_one (ps_ret (pe_ifExp (pt_cmpR op_gt (pe_ix ix_tup (pv 1) pe_int (fun _ _ => rfl)) (pv 3) (nomark _)) pe_int pe_int))) pss_nil)
      (pss_cons (ps_if (pt_cmpR op_eq (pe_ix ix_tup (pv 1) pe_int (fun _ _ => rfl)) (pv 3) (nomark _)) (pss_one (ps_ret pe_non)) pss_nil)
      (pss_one (ps_ret (pe_ifExp (pt_cmpR op_gt (pe_ix ix_tup (pv 1) pe_int (fun _ _ => rfl)) (pv 3) (nomark _)) pe_int pe_int)))))), ?_⟩
    have q0 := q H (fun _ _ h => h)
    rw [partM_eq] at q0
    have a0 : ∀ {R : V → Hp → Prop}, R (.int x') H → R (.int x') H := fun h => h
    refine ⟨_, rfl, t, _, rfl, SqT.of hT.1, rfl, _, _, rfl, _, _, rfl, rfl, ?_⟩
    refine ⟨_, rfl, u, _, 0, .int x', rfl, rfl, SqT.of hU.1, atI_nat (j := 0) rfl, _, rfl, _, _, rfl, rfl, _, rfl, ite2 (fun d => ?_) (fun d => ?_)⟩
    · rw [if_pos (of_decide_eq_true d)] at q0
      refine ⟨_, rfl, u, _, 1, .int y', rfl, rfl, SqT.of hU.1, atI_nat (j := 1) rfl, _, rfl, _, _, rfl, rfl, _, rfl, ite2 (fun d2 => ?_) (fun d2 => ?_)⟩
      · rw [if_pos (of_decide_eq_true d2)] at q0
        exact q0
      · rw [if_neg (of_decide_eq_false (Bool.eq_false_iff.mpr d2))] at q0
        exact q0
    · rw [if_neg (of_decide_eq_false (Bool.eq_false_iff.mpr d))] at q0
      refine ⟨_, rfl, u, _, 0, .int x', rfl, rfl, SqT.of hU.1, atI_nat (j := 0) rfl, _, rfl, _, _, rfl, rfl, _, rfl, ite2 (fun d3 => ?_) (fun d3 => ?_)⟩
      · rw [if_pos (of_decide_eq_true d3)] at q0
        refine ⟨_, rfl, u, _, 1, .int y', rfl, rfl, SqT.of hU.1, atI_nat (j := 1) rfl, _, rfl, _, _, rfl, rfl, _, rfl, ite2 (fun d2 => ?_) (fun d2 => ?_)⟩
        · rw [if_pos (of_decide_eq_true d2)] at q0
          exact q0
        · rw [if_neg (of_decide_eq_false (Bool.eq_false_iff.mpr d2))] at q0
          exact q0
      · rw [if_neg (of_decide_eq_false (Bool.eq_false_iff.mpr d3))] at q0
        refine ⟨_, rfl, u, _, 1, .int y', rfl, rfl, SqT.of hU.1, atI_nat (j := 1) rfl, _, rfl, rfl, _, rfl, ?_⟩
        rw [dec_int]
        refine ite2 (fun d4 => ?_) (fun d4 => ?_)
        · rw [if_pos (of_decide_eq_true d4)] at q0
          exact q0
        · rw [if_neg (of_decide_eq_false (Bool.eq_false_iff.mpr d4))] at q0
          refine ⟨_, rfl, u, _, 1, .int y', rfl, rfl, SqT.of hU.1, atI_nat (j := 1) rfl, _, rfl, _, _, rfl, rfl, _, rfl, ite2 (fun d2 => ?_) (fun d2 => ?_)⟩
          · rw [if_pos (of_decide_eq_true d2)] at q0
            exact q0
          · rw [if_neg (of_decide_eq_false (Bool.eq_false_iff.mpr d2))] at q0
            exact q0
theorem scQuarter : FnScope ["root", "point"] ["root", "point"] (defScope s_quarter) := ⟨rfl, rfl, rfl, by decide +kernel, rfl, by decide +kernel, by decide +kernel⟩
theorem ok_quarter {f fC fP : Addr} {fd fdC fdP : FuncData} (F : FnP K "quarter" s_quarter f fd) (GC : FnOk P w K mg base CX0 4 fC fdC ["value"] spChkPt) (kC : PySem.W.keepIn K (.ref fC) = true) (bC : Binds K fdC ["value"] []) (gC : mg "check_point" = some (.ref fC))
    (GP : FnOk P w K mg base CX0 2 fP fdP ["root", "point"] spPart) (kP : PySem.W.keepIn K (.ref fP) = true) (bP : Binds K fdP ["root", "point"] []) (gP : mg "part_of" = some (.ref fP)) : FnOk P w K mg base CX0 5 f fd ["root", "point"] spPart := by
  refine F.ok scQuarter (fun vs H Q E h => ?_) (fun cdv A outer s H vs Q E hr h => ?_)
  · obtain ⟨a, b, _, _, _, _, rfl, _⟩ := h
    rfl
  · obtain ⟨t, u, x, y, x', y', rfl, hT, hU, q⟩ := h
    refine ⟨_, pss_cons (ps_expr (pe_call GC (hr.mono (by decide)) (by rfl) gC kC bC .nil pass0 (pa_cons (pv 0) pa_nil))) (pss_cons (ps_expr (pe_call GC (hr.mono (by decide)) (by rfl) gC kC bC .nil pass0 (pa_cons (pv 1) pa_nil)))
      (pss_one (ps_ret (pe_call GP (hr.mono (by decide)) (by rfl) gP kP bP .nil pass0 (pa_cons (pv 0) (pa_cons (pv 1) pa_nil)))))), ?_⟩
    refine ⟨_, rfl, t, x, y, rfl, hT, fun H1 e1 => ?_⟩
    refine ⟨_, rfl, u, x', y', rfl, hU.same e1, fun H2 e2 => ?_⟩
    have e12 := e1.trans e2
    exact ⟨_, rfl, _, rfl, t, u, x, y, x', y', rfl, hT.same e12, hU.same e12, fun H3 e3 => q H3 (e12.trans e3)⟩
/-! ### check_number -/
theorem scChkN : FnScope ["value", "least", "most", "name"] ["value", "least", "most", "name"] (defScope s_check_number) := ⟨rfl, rfl, rfl, by decide +kernel, rfl, by decide +kernel, by decide +kernel⟩
def spChkN : Sp := fun vs H Q _ => ∃ (v a b : Int) (nm : Str), vs = [.int v, .int a, .int b, .str nm] ∧ (a ≤ v ∧ v ≤ b) ∧ Q .non H
theorem ok_chkN {f fI : Addr} {fd fdI : FuncData} (F : FnP K "check_number" s_check_number f fd) (B : Bt mg) (FI : FnP K "is_integer" s_is_integer fI fdI) (bI : Binds K fdI ["value"] []) (gI : mg "is_integer" = some (.ref fI)) : FnOk P w K mg base CX0 2 f fd ["value", "least", "most", "name"] spChkN := by
  have GI : FnOk P w K mg base CX0 1 fI fdI ["value"] spIsInt := ok_isInt FI B
  refine F.ok scChkN (fun vs H Q E h => ?_) (fun cdv A outer s H vs Q E hr h => ?_)
  · obtain ⟨_, _, _, _, rfl, _⟩ := h
    rfl
  · obtain ⟨v, a, b, nm, rfl, ⟨h1, h2⟩, q⟩ := h
    refine ⟨_, pss_one (ps_if (PW.pt (pw_or (pt_not (pt_val (pe_callB call_isi (by rfl) B.isi (by decide +kernel) (pa_cons (pv 0) (pa_cons (pe_bltn (v := .ty "int") (by rfl) B.int (by decide +kernel) rfl) pa_nil))))) (pw_or (pt_val (pe_callB call_isi (by rfl) B.isi (by decide +kernel) (pa_cons (pv 0) (pa_cons (pe_bltn (v := .ty "bool") (by rfl) B.bool (by decide +kernel) rfl) pa_nil)))) (pw_or1 (pt_not (pt_chain op_le op_le (pv 1) (pv 0) (pv 2))))))) pss_never pss_nil), ?_⟩
    refine ⟨_, rfl, _, _, _, _, true, rfl, .ty "int", .base (.int v), kit_ty (by decide +kernel), _, rfl, iteF ?_⟩
    refine ⟨_, rfl, _, _, _, _, false, rfl, .ty "bool", .base (.int v), kit_ty (by decide +kernel), _, rfl, iteF ?_⟩
    refine ⟨_, rfl, _, rfl, _, _, rfl, rfl, _, rfl, ?_⟩
    rw [decide_eq_true h1]
    refine iteT ?_
    refine ⟨_, rfl, _, _, rfl, rfl, _, rfl, ?_⟩
    rw [decide_eq_true h2]
    exact iteF q
end
end Q2

namespace Q2
open PySem PySem.Spec PyProof.Rows L2
/-- a list or a tuple of points -/
def SeqP (H : Hp) (a : Addr) (qs : Pts) : Prop := H a = some (.lst (refsOf qs)) ∨ H a = some (.tup (refsOf qs))
theorem SeqP.same {H H' : Hp} {a : Addr} {qs : Pts} (e : Same H H') (h : SeqP H a qs) : SeqP H' a qs := h.imp (e _ _) (e _ _)
theorem SeqP.sq {K : PySem.W.Frag} {H : Hp} {a : Addr} {qs : Pts} (h : SeqP H a qs) : SqL K H a (refsOf qs) ∨ SqT K H a (refsOf qs) := h.imp SqL.of SqT.of
def AllP (H : Hp) (qs : Pts) : Prop := ∀ q ∈ qs, PtAt H Lo q
theorem AllP.same {H H' : Hp} {qs : Pts} (e : Same H H') (h : AllP H qs) : AllP H' qs := fun q hq => (h q hq).same e
theorem same_free {H H' : Hp} {p : Addr} (e : Same H H') (h : H' p = none) : H p = none := by
  cases q : H p with
  | none => rfl
  | some o =>
    rw [e _ _ q] at h
    cases h
theorem same_ex {S : Addr} {H H' : Hp} (hS : H S = none) (e : Ex S H H') : Same H H' := fun b o hb => e b o hb (ne_of_none hb hS)
theorem refs_at {qs : Pts} {i : Nat} {v : V} (h : (refsOf qs)[i]? = some v) : ∃ q, qs[i]? = some q ∧ v = .ref q.1 := by
  rw [List.getElem?_map] at h
  cases z : qs[i]? with
  | none => rw [z] at h; cases h
  | some q =>
    rw [z] at h
    exact ⟨q, rfl, (Option.some.inj h).symm⟩
/-- a point as a key -/
abbrev kOf (q : Addr × Int × Int) : Addr × List Int := (q.1, [q.2.1, q.2.2])
theorem out_of {qs : Pts} {i : Nat} {q : Addr × Int × Int} {L : List (Addr × List Int)} (hq : qs[i]? = some q) (nd : (qs.map (·.2)).Nodup) (pm : L.Perm ((qs.take i).map kOf)) : [q.2.1, q.2.2] ∉ L.map (·.2) := by
  intro h
  obtain ⟨p, hp, e⟩ := List.mem_map.mp h
  obtain ⟨r, hr, rfl⟩ := List.mem_map.mp (pm.mem_iff.mp hp)
  obtain ⟨hi, rfl⟩ := List.getElem?_eq_some_iff.mp hq
  have e2 : r.2 = qs[i].2 := by
    have e' : [r.2.1, r.2.2] = [qs[i].2.1, qs[i].2.2] := e
    injection e' with e1 e3
    injection e3 with e4 _
    exact Prod.ext e1 e4
  obtain ⟨j, hj, rfl⟩ := List.mem_iff_getElem.mp hr
  have hj2 : j < i := by
    rw [List.length_take] at hj
    omega
  rw [List.getElem_take] at e2
  have h3 := List.pairwise_iff_getElem.mp nd j i (by rw [List.length_map]; omega) (by rw [List.length_map]; exact hi) hj2
  apply h3
  rw [List.getElem_map, List.getElem_map]
  exact e2
theorem take_next {qs : Pts} {i : Nat} {q : Addr × Int × Int} {L L' : List (Addr × List Int)} (hq : qs[i]? = some q) (pm : L.Perm ((qs.take i).map kOf)) (pm' : L'.Perm (kOf q :: L)) : L'.Perm ((qs.take (i + 1)).map kOf) := by
  obtain ⟨hi, rfl⟩ := List.getElem?_eq_some_iff.mp hq
  rw [List.take_succ_eq_append_getElem hi, List.map_append]
  exact pm'.trans ((List.Perm.cons _ pm).trans (List.perm_append_singleton (kOf qs[i]) ((qs.take i).map kOf)).symm)
theorem enum_of {K : PySem.W.Frag} {H : Hp} {a : Addr} {qs : Pts} (h : SeqP H a qs) : ∃ J, EnumOf K H a (refsOf qs) J ∧ Walk J (refsOf qs).length (fun H' => H' a = H a) (YPair (fun i => some (.int (i : Nat))) (fun i => (refsOf qs)[i]?)) := by
  rcases h with h | h
  · exact ⟨_, .inl ⟨SqL.of h, rfl⟩, walk_enum.mono (fun H' e => SqL.of (e.trans h)) fun i H x H' _ _ y => y⟩
  · exact ⟨_, .inr ⟨SqT.of h, rfl⟩, walk_enumT.mono (fun H' e => SqT.of (e.trans h)) fun i H x H' _ _ y => y⟩
section
variable {P : Program} {w : World} {K : PySem.W.Frag} {mg : Str → Option Value} {base : Heap}
theorem seq_ty {H : Hp} {a : Addr} {qs : Pts} (h : SeqP H a qs) : ∃ t, TyX K H (.ref a) t ∧ PySem.W.kitAny K t [.type "list", .type "tuple"] = some true := by
  rcases h with h | h
  · exact ⟨.type "list", .base (.lst h), kitAny_cons (b := true) (kit_ty (by decide +kernel)) (fun z => nomatch z) (fun _ => rfl)⟩
  · exact ⟨.type "tuple", .base (.tup h), kitAny_cons (b := false) (kit_ty (by decide +kernel)) (fun _ => kitAny_cons (b := true) (kit_ty (by decide +kernel)) (fun z => nomatch z) (fun _ => rfl)) (fun z => nomatch z)⟩
theorem scChkPs : FnScope ["value", "seen", "index", "entry"] ["value"] (defScope s_check_points) := ⟨rfl, rfl, rfl, by decide +kernel, rfl, by decide +kernel, by decide +kernel⟩
def spChkPs : Sp := fun vs H Q _ => ∃ (a : Addr) (qs : Pts), vs = [.ref a] ∧ SeqP H a qs ∧ AllP H qs ∧ (qs.map (·.2)).Nodup ∧ qs.length ≤ 40 ∧ ∀ H', Same H H' → Q .non H'
theorem ok_chkPs {f fI : Addr} {fd fdI : FuncData} {tm : Tok} (F : FnP K "check_points" s_check_points f fd) (B : Bt mg) (C : B1 mg) (GI : FnOk P w K mg base CX0 3 fI fdI ["value"] spIsPt) (kI : PySem.W.keepIn K (.ref fI) = true) (bI : Binds K fdI ["value"] []) (gI : mg "is_point" = some (.ref fI))
    (gM : mg "MOST_POINTS" = some (.int 500 tm)) : FnOk P w K mg base CX0 4 f fd ["value"] spChkPs := by
  refine F.ok scChkPs (fun vs H Q E h => ?_) (fun cdv A outer s H vs Q E hr h => ?_)
  · obtain ⟨_, _, rfl, _⟩ := h
    rfl
  · obtain ⟨a, qs, rfl, hs, hp, nd, few, q⟩ := h
    refine ⟨_, pss_cons (ps_if (PW.pt (pw_or (pt_not (pt_val (pe_callB call_isiT (by rfl) B.isi (by decide +kernel) (pa_cons (pv 0) (pa_cons (pe_tup (pa_cons (pe_bltn (v := .ty "list") (by rfl) C.list (by decide +kernel) rfl) (pa_cons (pe_bltn (v := .ty "tuple") (by rfl) B.tuple (by decide +kernel) rfl) pa_nil))) pa_nil)))))
        (pw_or1 (pt_cmpR op_gt (pe_callB call_len_seq (by rfl) B.len PySem.boot_len (pa_cons (pv 0) pa_nil)) (pe_glob (v := .int 500) (by rfl) gM ⟨_, rfl⟩) (nomark _))))) pss_never pss_nil)
      (pss_cons (ps_set (i := 1) scChkPs.nd rfl (.inl rfl) (pe_callTy0 cr_set0T (by rfl) C.set (by decide +kernel)))
      (pss_one (ps_for PassesOwn.never rfl (pi_enumA (by rfl) C.enum (pa_cons (pv 0) pa_nil)) (pg_tup rfl (pgs_cons (pg_name (i := 2) scChkPs.nd rfl (.inl rfl)) (pgs_cons (pg_name (i := 3) scChkPs.nd rfl (.inl rfl)) pgs_nil)))
        (pss_cons (ps_if (PW.pt (pw_or (pt_not (pt_val (pe_call GI hr (by rfl) gI kI bI .nil pass0 (pa_cons (pv 3) pa_nil)))) (pw_or1 (pt_cmpR (op_outT (hu64 hr)) (pv 3) (pv 1) (by with_unfolding_all rfl))))) pss_never pss_nil)
        (pss_one (ps_expr (pe_addT (hu64 hr) (pv 1) (pa_cons (pv 3) pa_nil)))))))), ?_⟩
    refine ⟨_, rfl, (by show 2 ≤ sizeLine; decide), fun tp ntp => ?_⟩
    have s1 : Same H (upd H tp (.tup [.ty "list", .ty "tuple"])) := same_new ntp
    obtain ⟨t, ty, kt⟩ := seq_ty (K := K) (hs.same s1)
    refine ⟨_, tp, _, t, _, true, rfl, upd_same, .cons (.ty "list") (.cons (.ty "tuple") .nil), ty, kt, _, rfl, iteF ?_⟩
    refine ⟨_, rfl, a, _, rfl, (hs.same s1).sq, _, _, rfl, rfl, _, rfl, ?_⟩
    have hlen : (refsOf qs).length = qs.length := List.length_map ..
    rw [hlen, decide_eq_false (show ¬ ((500 : Int) < (qs.length : Nat)) by omega)]
    refine iteF ?_
    refine ⟨rfl, fun S nS => ?_⟩
    have s2 : Same (upd H tp (.tup [.ty "list", .ty "tuple"])) (upd (upd H tp (.tup [.ty "list", .ty "tuple"])) S (SetTO P w S [])) := same_new nS
    have s12 := s1.trans s2
    have hSn : H S = none := same_free s1 nS
    obtain ⟨J, eJ, wk⟩ := enum_of (K := K) (hs.same s12)
    refine ⟨_, rfl, a, _, J, rfl, eJ, for_it wk (fun i σ H3 => ∃ (y2 y3 : Option V) (L : List (Addr × List Int)), σ = [some (.ref a), some (.ref S), y2, y3] ∧ Same H H3 ∧ H3 S = some (SetTO P w S L) ∧ L.Perm ((qs.take i).map kOf)) ?_ ?_ ?_ ?_⟩
    · exact ⟨none, none, [], rfl, s12, upd_same, .nil⟩
    · rintro i σ H3 _ ⟨y2, y3, L, rfl, e3, _, _⟩
      rcases hs with hs | hs
      · rw [e3 _ _ hs, s12 _ _ hs]
      · rw [e3 _ _ hs, s12 _ _ hs]
    · rintro i v σ H3 H4 hi ⟨y2, y3, L, rfl, e3, hS3, pm⟩ ⟨T, vi, ve, rfl, nT, rfl, hvi, hve⟩
      obtain ⟨q0, hq0, rfl⟩ := refs_at hve
      have s4 : Same H3 (upd H3 T (.tup [vi, .ref q0.1])) := same_new nT
      have e4 := e3.trans s4
      have hP : PtIn (upd H3 T (.tup [vi, .ref q0.1])) q0.1 q0.2.1 q0.2.2 := (hp q0 (List.mem_of_getElem? hq0)).same e4
      refine ⟨T, _, rfl, SqT.of upd_same, rfl, _, _, rfl, _, _, rfl, rfl, ?_⟩
      refine ⟨_, rfl, q0.1, q0.2.1, q0.2.2, rfl, hP, fun H5 e5 => ⟨_, rfl, iteF ?_⟩⟩
      have e45 := e4.trans e5
      have hS5 : H5 S = some (SetTO P w S L) := e5 _ _ (s4 _ _ hS3)
      have hk : SqT K H5 q0.1 (([q0.2.1, q0.2.2] : List Int).map V.int) := SqT.of (hP.same e5).1
      have hL : ∀ p ∈ L, SqT K H5 p.1 (p.2.map V.int) := fun p hpL => by
        obtain ⟨r, hr2, rfl⟩ := List.mem_map.mp (pm.mem_iff.mp hpL)
        exact SqT.of ((hp r (List.mem_of_mem_take hr2)).same e45).1
      have out := out_of hq0 nd pm
      refine ⟨_, rfl, _, rfl, q0.1, S, _, L, rfl, rfl, hk, hS5, hL, out, _, rfl, iteF ?_⟩
      have hlL : L.length ≤ 40 := by
        rw [pm.length_eq, List.length_map, List.length_take]
        omega
      refine ⟨_, rfl, ⟨S, L, rfl, hS5, hL⟩, _, rfl, S, q0.1, _, L, rfl, rfl, hS5, hk, hL, out, (by omega), fun L' pm' => ?_⟩
      refine ⟨_, _, L', rfl, same_ex hSn ?_, upd_same, take_next hq0 pm pm'⟩
      intro b o hb hne
      rw [upd_ne hne]
      exact e45 b o hb
    · rintro σ H3 ⟨y2, y3, L, rfl, e3, _, _⟩
      exact q H3 e3
/-! ### ordered -/
theorem scOrdP : FnScope ["points", "axis"] ["points", "axis"] (defScope s_ordered) := ⟨rfl, rfl, rfl, by decide +kernel, rfl, by decide +kernel, by decide +kernel⟩
def sortM (ax : Int) (qs : Pts) : Pts := if ax = 1 then sortY qs else sortX qs
def spOrdP : Sp := fun vs H Q _ => ∃ (a : Addr) (qs : Pts) (ax : Int), vs = [.ref a, .int ax] ∧ (0 ≤ ax ∧ ax ≤ 1) ∧ SeqP H a qs ∧ AllP H qs ∧ (qs.map (·.2)).Nodup ∧ qs.length ≤ 40 ∧ ∀ H' p, Same H H' → H p = none → H' p = some (.lst (refsOf (sortM ax qs))) → Q (.ref p) H'
theorem ok_ordP {f fC fN fY : Addr} {fd fdC fdN fdY : FuncData} (F : FnP K "ordered" s_ordered f fd) (C : B1 mg) (GC : FnOk P w K mg base CX0 4 fC fdC ["value"] spChkPs) (kC : PySem.W.keepIn K (.ref fC) = true) (bC : Binds K fdC ["value"] []) (gC : mg "check_points" = some (.ref fC))
    (GN : FnOk P w K mg base CX0 2 fN fdN ["value", "least", "most", "name"] spChkN) (kN : PySem.W.keepIn K (.ref fN) = true) (bN : Binds K fdN ["value", "least", "most", "name"] []) (gN : mg "check_number" = some (.ref fN))
    (FY : FnP K "y_key" s_y_key fY fdY) (gY : mg "y_key" = some (.ref fY)) : FnOk P w K mg base CX0 5 f fd ["points", "axis"] spOrdP := by
  refine F.ok scOrdP (fun vs H Q E h => ?_) (fun cdv A outer s H vs Q E hr h => ?_)
  · obtain ⟨_, _, _, rfl, _⟩ := h
    rfl
  · obtain ⟨a, qs, ax, rfl, hax, hs, hp, nd, few, q⟩ := h
    refine ⟨_, pss_cons (ps_expr (pe_call GC (hr.mono (by decide)) (by rfl) gC kC bC .nil pass0 (pa_cons (pv 0) pa_nil)))
      (pss_cons (ps_expr (pe_call GN (hr.mono (by decide)) (by rfl) gN kN bN .nil pass0 (pa_cons (pv 1) (pa_cons pe_int (pa_cons pe_int (pa_cons pe_str pa_nil))))))
      (pss_cons (ps_if (pt_cmpR op_eq (pv 1) pe_int (nomark _)) (pss_one (ps_ret (pe_callBK (cr_sortK FY swaps_y (hu64 hr) (room_dep hr)) (by rfl) C.sorted (by decide +kernel) (pa_cons (pv 0) pa_nil) (pk_cons (pe_glob (v := .ref fY) (by rfl) gY rfl) pk_nil)))) pss_nil)
      (pss_one (ps_ret (pe_callB (cr_sortP (hu64 hr)) (by rfl) C.sorted (by decide +kernel) (pa_cons (pv 0) pa_nil)))))), ?_⟩
    refine ⟨_, rfl, a, qs, rfl, hs, hp, nd, few, fun H1 e1 => ?_⟩
    refine ⟨_, rfl, ax, 0, 1, _, rfl, hax, ?_⟩
    have tups : Tups H1 qs := fun q0 hq0 => e1 _ _ (hp q0 hq0).1
    refine ⟨_, rfl, rfl, _, rfl, ?_⟩
    rw [dec_int]
    have fin : ∀ p, H1 p = none → sortM ax qs = sortM ax qs → Q (.ref p) (upd H1 p (.lst (refsOf (sortM ax qs)))) := fun p np _ => q _ p (e1.trans (same_new np)) (same_free e1 np) upd_same
    unfold sortM at fin
    refine ite2 (fun d => ?_) (fun d => ?_)
    · refine ⟨_, rfl, a, qs, rfl, rfl, (hs.same e1).sq, tups, fun p np => ?_⟩
      have := fin p np rfl
      rw [if_pos (by simpa using d)] at this
      exact this
    · refine ⟨_, rfl, a, qs, rfl, (hs.same e1).sq, tups, fun p np => ?_⟩
      have := fin p np rfl
      rw [if_neg (by simpa using d)] at this
      exact this
end
end Q2

namespace Q2
open PySem PySem.Spec PyProof.Rows L2
/-! ### the order that the law means -/
def lessM (ln x y x' y' : Int) : Bool := if ln = 0 then gtP x' y' x y else gtP y' x' y x
def ltB (ln : Int) (q r : Addr × Int × Int) : Bool := lessM ln q.2.1 q.2.2 r.2.1 r.2.2
def cntB (ln : Int) (q : Addr × Int × Int) (acc : Pts) : Nat := (acc.filter fun r => ltB ln r q).length
def stepM (ln : Int) (acc : Pts) (q : Addr × Int × Int) : Pts := acc.take (cntB ln q acc) ++ [q] ++ acc.drop (cntB ln q acc)
def insAll (ln : Int) (qs : Pts) : Pts := qs.foldl (stepM ln) []
theorem lt_trans {ln : Int} {p q r : Addr × Int × Int} (h : ltB ln p q = true) (h' : ltB ln q r = true) : ltB ln p r = true := by
  unfold ltB lessM gtP at *
  split at h <;> rename_i z
  · rw [if_pos z] at h' ⊢
    have a := of_decide_eq_true h
    have b := of_decide_eq_true h'
    exact decide_eq_true (by omega)
  · rw [if_neg z] at h' ⊢
    have a := of_decide_eq_true h
    have b := of_decide_eq_true h'
    exact decide_eq_true (by omega)
theorem lt_asymm {ln : Int} {p q : Addr × Int × Int} (h : ltB ln p q = true) : ltB ln q p = false := by
  unfold ltB lessM gtP at *
  split at h <;> rename_i z
  · rw [if_pos z]
    have a := of_decide_eq_true h
    exact decide_eq_false (by omega)
  · rw [if_neg z]
    have a := of_decide_eq_true h
    exact decide_eq_false (by omega)
theorem lt_total {ln : Int} {p q : Addr × Int × Int} (h : p.2 ≠ q.2) : ltB ln p q = true ∨ ltB ln q p = true := by
  have h2 : p.2.1 ≠ q.2.1 ∨ p.2.2 ≠ q.2.2 := by
    by_cases e : p.2.1 = q.2.1
    · exact .inr fun e2 => h (Prod.ext e e2)
    · exact .inl e
  unfold ltB lessM gtP
  by_cases z : ln = 0
  · rw [if_pos z, if_pos z, decide_eq_true_eq, decide_eq_true_eq]
    omega
  · rw [if_neg z, if_neg z, decide_eq_true_eq, decide_eq_true_eq]
    omega
abbrev SrtB (ln : Int) (l : Pts) : Prop := l.Pairwise fun p q => ltB ln p q = true
theorem step_ok {ln : Int} {q : Addr × Int × Int} : ∀ {l : Pts}, SrtB ln l → (∀ p ∈ l, p.2 ≠ q.2) → SrtB ln (stepM ln l q) ∧ (stepM ln l q).Perm (q :: l)
  | [], _, _ => ⟨List.pairwise_singleton _ _, List.Perm.refl _⟩
  | a :: t, h, hn => by
    have ht := (List.pairwise_cons.mp h)
    by_cases e : ltB ln a q = true
    · obtain ⟨s, pm⟩ := step_ok (q := q) ht.2 (fun p hp => hn p (List.mem_cons_of_mem _ hp))
      have c : cntB ln q (a :: t) = cntB ln q t + 1 := by
        unfold cntB
        rw [List.filter_cons_of_pos (p := fun r => ltB ln r q) e, List.length_cons]
      have e2 : stepM ln (a :: t) q = a :: stepM ln t q := by
        unfold stepM
        rw [c, List.take_succ_cons, List.drop_succ_cons]
        rfl
      rw [e2]
      refine ⟨List.pairwise_cons.mpr ⟨fun b hb => ?_, s⟩, (List.Perm.cons a pm).trans (List.Perm.swap q a t)⟩
      rcases List.mem_cons.mp (pm.mem_iff.mp hb) with rfl | hb
      · exact e
      · exact ht.1 b hb
    · have e3 : ltB ln q a = true := (lt_total (hn a (List.mem_cons_self ..))).resolve_left e
      have all : ∀ b ∈ a :: t, ltB ln q b = true := fun b hb => by
        rcases List.mem_cons.mp hb with rfl | hb
        · exact e3
        · exact lt_trans e3 (ht.1 b hb)
      have c : cntB ln q (a :: t) = 0 := by
        unfold cntB
        rw [List.length_eq_zero_iff, List.filter_eq_nil_iff]
        intro b hb
        rw [lt_asymm (all b hb)]
        decide
      have e2 : stepM ln (a :: t) q = q :: a :: t := by
        unfold stepM
        rw [c]
        rfl
      rw [e2]
      exact ⟨List.pairwise_cons.mpr ⟨all, h⟩, List.Perm.refl _⟩
theorem ins_next {ln : Int} {qs : Pts} {i : Nat} {q : Addr × Int × Int} (hq : qs[i]? = some q) : insAll ln (qs.take (i + 1)) = stepM ln (insAll ln (qs.take i)) q := by
  obtain ⟨hi, rfl⟩ := List.getElem?_eq_some_iff.mp hq
  unfold insAll
  rw [List.take_succ_eq_append_getElem hi, List.foldl_append]
  rfl
theorem ins_ok {ln : Int} : ∀ (qs acc : Pts), SrtB ln acc → ((acc ++ qs).map (·.2)).Nodup → SrtB ln (qs.foldl (stepM ln) acc) ∧ (qs.foldl (stepM ln) acc).Perm (acc ++ qs)
  | [], acc, h, _ => ⟨h, by rw [List.append_nil]; exact List.Perm.refl _⟩
  | q :: qs, acc, h, nd => by
    have nd2 : ((acc.map (·.2)) ++ (q.2 :: qs.map (·.2))).Nodup := by rw [List.map_append] at nd; exact nd
    have hn : ∀ p ∈ acc, p.2 ≠ q.2 := fun p hp => (List.nodup_append.mp nd2).2.2 p.2 (List.mem_map.mpr ⟨p, hp, rfl⟩) q.2 (List.mem_cons_self ..)
    obtain ⟨s, pm⟩ := step_ok h hn
    have pm2 : (stepM ln acc q ++ qs).Perm (acc ++ q :: qs) := (pm.append_right qs).trans List.perm_middle.symm
    have nd3 : ((stepM ln acc q ++ qs).map (·.2)).Nodup := (pm2.map (·.2)).nodup_iff.mpr nd
    obtain ⟨s2, pm3⟩ := ins_ok qs (stepM ln acc q) s nd3
    exact ⟨s2, pm3.trans pm2⟩
theorem srt_unique {ln : Int} : ∀ {l m : Pts}, l.Perm m → SrtB ln l → SrtB ln m → l = m
  | [], m, pm, _, _ => (List.nil_perm.mp pm).symm
  | a :: l, [], pm, _, _ => by cases (List.perm_nil.mp pm)
  | a :: l, b :: m, pm, h, h' => by
    have hl := List.pairwise_cons.mp h
    have hm := List.pairwise_cons.mp h'
    have e : a = b := by
      rcases List.mem_cons.mp (pm.mem_iff.mp (List.mem_cons_self ..)) with e | ha
      · exact e
      · rcases List.mem_cons.mp (pm.mem_iff.mpr (List.mem_cons_self ..)) with e | hb
        · exact e.symm
        · have x1 := hm.1 a ha
          have x2 := lt_asymm (hl.1 b hb)
          rw [x1] at x2
          cases x2
    subst e
    rw [srt_unique (List.perm_cons a |>.mp pm) hl.2 hm.2]
theorem ltB_eq0 {p q : Addr × Int × Int} : PySem.W.dataLe false keyX p q = !ltB 0 q p := by
  rw [show PySem.W.dataLe false keyX p q = _ from dataLe_two (fun q => q.2.1) (fun q => q.2.2) p q]
  congr 1
  unfold ltB lessM gtP
  rw [if_pos rfl]
  exact decide_eq_decide.mpr (by omega)
theorem ltB_eq1 {p q : Addr × Int × Int} : PySem.W.dataLe false keyY p q = !ltB 1 q p := by
  rw [show PySem.W.dataLe false keyY p q = _ from dataLe_two (fun q => q.2.2) (fun q => q.2.1) p q]
  congr 1
  unfold ltB lessM gtP
  rw [if_neg (by decide)]
  exact decide_eq_decide.mpr (by omega)
theorem sort_ins {ln : Int} {le : (Addr × Int × Int) → (Addr × Int × Int) → Bool} (hle : ∀ p q, le p q = !ltB ln q p) {qs : Pts} (nd : (qs.map (·.2)).Nodup) : qs.mergeSort le = insAll ln qs := by
  have pm := List.mergeSort_perm qs le
  have h1 : (qs.mergeSort le).Pairwise (fun p q => le p q = true) := by
    refine List.pairwise_mergeSort (fun a b c h h' => ?_) (fun a b => ?_) qs
    · rw [hle] at *
      by_cases e : ltB ln c a = true
      · by_cases e2 : a.2 = b.2
        · have : ltB ln c b = true := by
            unfold ltB at e ⊢
            rw [← e2]
            exact e
          rw [this] at h'
          cases h'
        · rcases lt_total (ln := ln) e2 with e3 | e3
          · have := lt_trans e e3
            rw [this] at h'
            cases h'
          · rw [e3] at h
            cases h
      · simp at e
        rw [e]
        rfl
    · rw [hle, hle]
      cases e : ltB ln b a with
      | false => rfl
      | true => rw [lt_asymm e]; rfl
  have h2 : (qs.mergeSort le).Pairwise (fun p q => p.2 ≠ q.2) := by
    have := (pm.map (·.2)).nodup_iff.mpr nd
    exact List.pairwise_map.mp this
  have h3 : SrtB ln (qs.mergeSort le) := by
    refine (h1.and h2).imp fun {p q} h => ?_
    have := h.1
    rw [hle] at this
    rcases lt_total (ln := ln) h.2 with e | e
    · exact e
    · rw [e] at this
      cases this
  obtain ⟨s, pm2⟩ := ins_ok (ln := ln) qs [] List.Pairwise.nil (by simpa using nd)
  exact srt_unique (pm.trans pm2.symm) h3 s
theorem sortM_ins {ln : Int} (h : ln = 0 ∨ ln = 1) {qs : Pts} (nd : (qs.map (·.2)).Nodup) : sortM ln qs = insAll ln qs := by
  rcases h with rfl | rfl
  · exact sort_ins (fun p q => ltB_eq0) nd
  · exact sort_ins (fun p q => ltB_eq1) nd
end Q2

namespace Q2
open PySem PySem.Spec PyProof.Rows L2
section
variable {prog : Program} {w : World} {A : Around} {E : Value → Shared → Prop} {s : Shared}
theorem sliceApplied_rev2 {sl : Addr} {tk : Tok} {Q : Int × Int × Nat → Shared → Prop} (hs : s.heap.IsSliceOf sl .none .none (.int (-1) tk)) (h : Q (1, -1, 2) s) :
    wpAny (model prog w) A (Builtin.Slice.sliceApplied (.ref sl) (pure ((2 : Nat) : Int))) Q E s := by
  obtain ⟨os, hos, hcs, hds⟩ := id hs
  unfold Builtin.Slice.sliceApplied Builtin.Slice.sliceFields
  refine wpAny_bind (wpAny_bind (wpAny_field hos hds (x := .none) rfl (wpAny_bind (wpAny_field hos hds (x := .none) rfl (wpAny_bind (wpAny_field hos hds (x := .int (-1) tk) rfl (wpAny_pure ?_)))))))
  refine wpAny_bind (slicePart_int ?_)
  show wpAny _ _ (if ((-1 : Int) == 0) = true then _ else _) _ _ s
  rw [if_neg (by decide)]
  refine wpAny_bind (slicePart_none (wpAny_bind (slicePart_none (wpAny_bind (wpAny_pure ?_)))))
  show wpAny _ _ (match Builtin.Slice.sliceAdjust none none (-1) ((2 : Nat) : Int) with | (lo, hi) => pure (lo, (-1 : Int), Builtin.Slice.slicePlaces lo hi (-1))) _ _ s
  rw [show Builtin.Slice.sliceAdjust none none (-1) ((2 : Nat) : Int) = (1, -1) by decide]
  show wpAny _ _ (pure ((1 : Int), (-1 : Int), Builtin.Slice.slicePlaces 1 (-1) (-1))) _ _ s
  rw [show Builtin.Slice.slicePlaces 1 (-1) (-1) = 2 by decide]
  exact wpAny_pure h
theorem getItem_tuple_rev2 {t sl : Addr} {u v : Value} {tk : Tok} {Q : Value → Shared → Prop} (ht : IsTup s.heap t #[u, v]) (hs : s.heap.IsSliceOf sl .none .none (.int (-1) tk))
    (h : Q (.ref s.heap.objs.size) { s with heap := s.heap.push { cls := .type "tuple", data := .seq #[v, u] } }) : wpAny (model prog w) A (getItem (.ref t) (.ref sl)) Q E s := by
  have hdrop : sizeOk (.seq #[v, u]) := by
    show 2 ≤ sizeLine
    decide
  obtain ⟨os, hos, hcs, hds⟩ := id hs
  have hTs : s.TypeIs (.ref sl) "slice" := ⟨os, hos, hcs⟩
  unfold getItem
  try with_reducible refine wpAny_holding ?_
  first | refine wpAny_bind (wpAny_pure ?_) | skip
  refine wpAny_bind (wpAny_sequenceKey ht.typeIs (by decide) ?_)
  refine wpAny_bind (wpAny_callSpecial?_slot (name := Str.ofString "__getitem__") ht.typeIs PyProof.Rows.slot_tuple_getitem
    (wpAny_call_entry PyProof.Rows.slot_tuple_getitem ht.typeIs entry_tuple_getitem ?_ (args_tuple_getitem _ _)))
  show wpAny _ _ (Builtin.Tuple.tupleItemsOf (.ref t) >>= _) _ _ s
  refine wpAny_bind (tupleItemsOf_ ht ?_)
  refine wpAny_bind (wpAny_typeOf hTs ?_)
  rw [if_pos (by decide)]
  refine wpAny_bind (sliceApplied_rev2 hs ?_)
  show wpAny _ _ (if ((1 : Int) == 0 && (-1 : Int) == 1 && (2 : Nat) == 2) = true then _ else _) _ _ s
  rw [if_neg (by decide)]
  have pick : ((List.range 2).filterMap fun (k : Nat) => (#[u, v] : Array Value)[((1 : Int) + (k : Int) * (-1)).toNat]?).toArray = #[v, u] := rfl
  rw [pick]
  first
    | exact wpAny_bind (m := Builtin.Tuple.tupleExact _) (wpAny_newObj_type (wpAny_pure ⟨_, rfl, wpAny_pure h⟩) hdrop)
    | exact wpAny_bind (m := Builtin.Tuple.tupleExact _) (wpAny_newObj_type (wpAny_bind (wpAny_pure (wpAny_pure ⟨_, rfl, wpAny_pure h⟩))) hdrop)
    | exact wpAny_bind (wpAny_bind (m := Builtin.Tuple.tupleExact _) (wpAny_newObj_type (wpAny_pure (wpAny_pure ⟨_, rfl, wpAny_pure h⟩)) hdrop))
    | exact wpAny_bind (wpAny_bind (m := Builtin.Tuple.tupleExact _) (wpAny_newObj_type (wpAny_pure ⟨_, rfl, wpAny_pure h⟩) hdrop))
end
section
variable {X : Cx}
/-- t[::-1] of a pair -/
def tRevT (K : PySem.W.Frag) (te : TE) : TE := fun σ H Q => te σ H fun x H1 => ∃ a p q, x = .ref a ∧ SqT K H1 a [p, q] ∧ ∀ r, H1 r = none → Q (.ref r) (upd H1 r (.tup [q, p]))
theorem pe_revT {e : Expr} {te : TE} {k : Nat} {p1 p2 p3 pos : Pos} (he : PE X e te) : PE X (.Subscript e (.Slice none none (some (.UnaryOp .USub (.Constant (.int 1) k p1) p2)) p3) pos) (tRevT X.K te) := by
  refine ⟨fun pins s σ H Q I h => ?_⟩
  refine Subscript_ (thn (he.run pins s σ H _ I h) fun v s1 ⟨x, H1, I1, r1, q1⟩ => ?_)
  obtain ⟨a, xp, xq, ex, hx, q⟩ := q1
  subst ex
  cases r1
  have hst : PO X (some (.UnaryOp .USub (.Constant (.int 1) k p1) p2)) (tPart (tUn (rU fun i => .int (-i)) (tC (.int 1)))) := po_some (pe_un un_neg pe_int)
  refine wpAny_Slice (thn (po_none.run pins s1 σ H1 (fun o H2 => o = none ∧ H2 = H1) I1 ⟨rfl, rfl⟩) fun vl s2 ⟨l, H2, I2, pl, el, e2⟩ => ?_)
  subst el e2
  refine thn (po_none.run pins s2 σ H2 (fun o H3 => o = none ∧ H3 = H2) I2 ⟨rfl, rfl⟩) fun vu s3 ⟨u, H3, I3, pu, eu, e3⟩ => ?_
  subst eu e3
  refine thn (hst.run pins s3 σ H3 (fun o H4 => o = some (-1) ∧ H4 = H3) I3 ⟨1, rfl, -1, rfl, rfl, rfl⟩) fun vs s4 ⟨o, H4, I4, ps, eo, e4⟩ => ?_
  subst eo e4
  have I5 : Inv X pins σ H4 { s4 with heap := s4.heap.push { cls := .type "slice", data := .fields #[vl, vu, vs] } } := I4.kept (t' := s4.toks) fun b ob q => Heap.get?_push_of_some _ q
  obtain ⟨its, r, ht, hz⟩ := I5.tuple hx
  cases pl
  cases pu
  cases ps

  cases r with
  | cons r1 rr =>
    rename_i u1 us
    cases rr with
    | cons r2 rr2 =>
      rename_i u2 us2
      cases rr2
      show wpAny (model X.prog X.w) X.A (subscriptTail e (.Slice none none (some (.UnaryOp .USub (.Constant (.int 1) k p1) p2)) p3) (.ref a) (.ref s4.heap.objs.size)) (EP X pins σ Q) X.xe { s4 with heap := s4.heap.push { cls := .type "slice", data := .fields #[.none, .none, .int (-1) _] } }
      refine tail_any (ops := [.ref a, .ref s4.heap.objs.size]) ht.typeIs (PyProof.Rows.slot_tuple_getitem.lookup) ?_ (by with_unfolding_all rfl)
      refine getItem_tuple_rev2 (u := u1) (v := u2) ht (Heap.IsSliceOf.new _ .none .none _) ?_
      refine ⟨.ref _, _, I5.laid (t' := s4.toks) (o := .tup [xq, xp]) (fun b ob q => Heap.get?_push_of_some _ q) (Nat.le_refl _) ?_, rfl, q _ (I5.hok.fresh (Nat.le_refl _))⟩
      exact ⟨by show 2 ≤ sizeLine; decide, [u2, u1], .cons r2 (.cons r1 .nil), IsTup.new _ _⟩
end
end Q2

namespace Q2
open PySem PySem.Spec PyProof.Rows L2
/-- x not in t, t a tuple -/
def rNotInT (K : PySem.W.Frag) : R2 := fun x y H Q => ∃ d ds, Dp K H x d ∧ Dp K H y (.tuple ds) ∧ SeqAt.shaped d = true ∧ SeqAt.shaped (.tuple ds) = true ∧ Q (.bl (!ds.any fun z => PyData.eqv z d)) H
section
variable {X : Cx}
theorem op_notInT (hu : X.A.units + 66 < cLine) : OpR X (compareOp .NotIn) (rNotInT X.K) := by
  intro pins s σ H x y v u Q I rx ry h
  obtain ⟨d, ds, hd, he, sd, se, q⟩ := h
  obtain ⟨as, r1⟩ := Dp.reads I d x v hd rx
  obtain ⟨bs, r2⟩ := Dp.reads I (.tuple ds) y u he ry
  have h2 : d.depth ≤ 64 := by
    have := sd
    unfold SeqAt.shaped at this
    rw [Bool.and_eq_true] at this
    exact of_decide_eq_true this.2
  have h3 : PyData.canLayAll0 ds = true := by
    have := SeqAt.canLay_of_shaped se
    simpa only [PyData.canLay0] using this
  exact SeqAt.notIn_tuple_reads r2 r1 h3 (SeqAt.canLay_of_shaped sd) (by have := Nat.min_le_right (PyData.depthAll ds) d.depth; omega) ⟨.bl _, H, I, rfl, q⟩
end
theorem ne_same (x : V) : (!decide (x = x)) = false := by rw [decide_eq_true rfl]; rfl
def dueV (x y x' y' : Int) : Int := (if gtP x' y' x y = true then 1 else 0) + (if gtP y' x' y x = true then 2 else 0)
theorem part_due (x y x' y' : Int) : partM x y x' y' = if (x, y) = (x', y') then none else some (dueV x y x' y') := rfl
theorem due_one (x y x' y' : Int) : dueV x y x' y' / 1 % 2 = if gtP x' y' x y = true then 1 else 0 := by
  unfold dueV
  cases gtP x' y' x y <;> cases gtP y' x' y x <;> decide
theorem due_two (x y x' y' : Int) : dueV x y x' y' / 2 % 2 = if gtP y' x' y x = true then 1 else 0 := by
  unfold dueV
  cases gtP x' y' x y <;> cases gtP y' x' y x <;> decide
/-- parts go on -/
theorem go_on {x y x' y' x'' y'' : Int} (h : (x, y) ≠ (x', y')) (h' : (x', y') ≠ (x'', y'')) (h'' : (x, y) ≠ (x'', y'')) {b : Int} (hb : b = 1 ∨ b = 2) :
    (dueV x y x' y' / b % 2 = 1 → dueV x' y' x'' y'' / b % 2 = 1 → dueV x y x'' y'' / b % 2 = 1) ∧ (dueV x y x' y' / b % 2 = 0 → dueV x' y' x'' y'' / b % 2 = 0 → dueV x y x'' y'' / b % 2 = 0) := by
  have e1 : x ≠ x' ∨ y ≠ y' := by
    by_cases e : x = x'
    · exact .inr fun e2 => h (by rw [e, e2])
    · exact .inl e
  have e2 : x' ≠ x'' ∨ y' ≠ y'' := by
    by_cases e : x' = x''
    · exact .inr fun e2 => h' (by rw [e, e2])
    · exact .inl e
  rcases hb with rfl | rfl
  · rw [due_one, due_one, due_one]
    unfold gtP
    simp only [decide_eq_true_eq]
    refine ⟨fun a b => ?_, fun a b => ?_⟩
    · split at a
      · split at b
        · rw [if_pos (by omega)]
        · cases b
      · cases a
    · split at a
      · cases a
      · split at b
        · cases b
        · rw [if_neg (by omega)]
  · rw [due_two, due_two, due_two]
    unfold gtP
    simp only [decide_eq_true_eq]
    refine ⟨fun a b => ?_, fun a b => ?_⟩
    · split at a
      · split at b
        · rw [if_pos (by omega)]
        · cases b
      · cases a
    · split at a
      · cases a
      · split at b
        · cases b
        · rw [if_neg (by omega)]
section
variable {P : Program} {w : World} {K : PySem.W.Frag} {mg : Str → Option Value} {base : Heap}
theorem scThree : FnScope ["_law_first", "_law_second", "_law_third", "_law_one", "_law_two", "_law_far", "_law_bit", "_law_marks"] ["_law_first", "_law_second", "_law_third"] (defScope s_law_three) := ⟨rfl, rfl, rfl, by decide +kernel, rfl, by decide +kernel, by decide +kernel⟩
def spThree : Sp := fun vs H Q _ => ∃ (t u v : Addr) (x y x' y' x'' y'' : Int), vs = [.ref t, .ref u, .ref v] ∧ PtIn H t x y ∧ PtIn H u x' y' ∧ PtIn H v x'' y'' ∧ (x, y) ≠ (x', y') ∧ (x', y') ≠ (x'', y'') ∧ (x, y) ≠ (x'', y'') ∧ ∀ H', Same H H' → Q (.bl true) H'
theorem ok_three {f fQ : Addr} {fd fdQ : FuncData} (F : FnP K "_law_three" s_law_three f fd) (B : Bt mg)
    (GQ : FnOk P w K mg base CX0 5 fQ fdQ ["root", "point"] spPart) (kQ : PySem.W.keepIn K (.ref fQ) = true) (bQ : Binds K fdQ ["root", "point"] []) (gQ : mg "quarter" = some (.ref fQ)) : FnOk P w K mg base CX0 6 f fd ["_law_first", "_law_second", "_law_third"] spThree := by
  refine F.ok scThree (fun vs H Q E h => ?_) (fun cdv A outer s H vs Q E hr h => ?_)
  · obtain ⟨_, _, _, _, _, _, _, _, _, rfl, _⟩ := h
    rfl
  · obtain ⟨t, u, v, x, y, x', y', x'', y'', rfl, hT, hU, hV, n1, n2, n3, q⟩ := h
    refine ⟨_, pss_cons (ps_par3 (i := 3) (j := 4) (l := 5) rfl scThree.nd rfl rfl rfl (by decide) (by decide) (by decide) rfl rfl rfl
        (pa_cons (pe_call GQ hr (by rfl) gQ kQ bQ .nil pass0 (pa_cons (pv 0) (pa_cons (pv 1) pa_nil))) (pa_cons (pe_call GQ hr (by rfl) gQ kQ bQ .nil pass0 (pa_cons (pv 1) (pa_cons (pv 2) pa_nil))) (pa_cons (pe_call GQ hr (by rfl) gQ kQ bQ .nil pass0 (pa_cons (pv 0) (pa_cons (pv 2) pa_nil))) pa_nil))) rfl)
      (pss_cons (ps_for PassesOwn.never rfl (pi_tup (pe_tup (pa_cons pe_int (pa_cons pe_int pa_nil)))) (pg_name (i := 6) scThree.nd rfl (.inl rfl))
        (pss_cons (ps_set (i := 7) scThree.nd rfl (.inl rfl) (pe_lst (pa_cons (pe_callTy call_int1 (by rfl) B.int (by decide +kernel) (pa_cons (pe_op op_mod (pe_callTy call_int1 (by rfl) B.int (by decide +kernel) (pa_cons (pe_op op_fdiv (pv 3) (pv 6)) pa_nil)) pe_int) pa_nil))
            (pa_cons (pe_callTy call_int1 (by rfl) B.int (by decide +kernel) (pa_cons (pe_op op_mod (pe_callTy call_int1 (by rfl) B.int (by decide +kernel) (pa_cons (pe_op op_fdiv (pv 4) (pv 6)) pa_nil)) pe_int) pa_nil)) pa_nil))))
        (pss_one (ps_if (PW.pt (pw_or (PW.pt (pw_and (pt_cmpR (op_eqD (hu64 hr)) (pv 7) (pe_lst (pa_cons pe_int (pa_cons pe_int pa_nil))) (nomark _))
              (pw_and1 (pt_cmpR op_ne (pe_callTy call_int1 (by rfl) B.int (by decide +kernel) (pa_cons (pe_op op_mod (pe_callTy call_int1 (by rfl) B.int (by decide +kernel) (pa_cons (pe_op op_fdiv (pv 5) (pv 6)) pa_nil)) pe_int) pa_nil)) pe_int (nomark _)))))
            (pw_or1 (PW.pt (pw_and (pt_cmpR (op_eqD (hu64 hr)) (pv 7) (pe_lst (pa_cons pe_int (pa_cons pe_int pa_nil))) (nomark _))
              (pw_and1 (pt_cmpR op_ne (pe_callTy call_int1 (by rfl) B.int (by decide +kernel) (pa_cons (pe_op op_mod (pe_callTy call_int1 (by rfl) B.int (by decide +kernel) (pa_cons (pe_op op_fdiv (pv 5) (pv 6)) pa_nil)) pe_int) pa_nil)) pe_int (nomark _)))))))) (pss_one (ps_ret pe_bl)) pss_nil))))
      (pss_one (ps_ret pe_bl))), ?_⟩
    refine ⟨_, rfl, _, rfl, t, u, x, y, x', y', rfl, hT, hU, fun H1 e1 => ?_⟩
    refine ⟨_, rfl, _, rfl, u, v, x', y', x'', y'', rfl, hU.same e1, hV.same e1, fun H2 e2 => ?_⟩
    have e12 := e1.trans e2
    refine ⟨_, rfl, _, rfl, t, v, x, y, x'', y'', rfl, hT.same e12, hV.same e12, fun H3 e3 => ?_⟩
    have e13 := e12.trans e3
    rw [part_due, part_due, part_due, if_neg n1, if_neg n2, if_neg n3]
    refine ⟨_, _, _, rfl, ?_⟩
    refine ⟨(by show 2 ≤ sizeLine; decide), fun tp ntp => ?_⟩
    have e14 := e13.trans (same_new (o := .tup [.int 1, .int 2]) ntp)
    refine ⟨tp, rfl, ⟨_, SqT.of upd_same⟩, for_tup (xs := [.int 1, .int 2]) (fun i σ H5 => ∃ y6 y7 : Option V, σ = [some (.ref t), some (.ref u), some (.ref v), some (.int (dueV x y x' y')), some (.int (dueV x' y' x'' y'')), some (.int (dueV x y x'' y'')), y6, y7] ∧ Same H H5 ∧ H5 tp = some (.tup [.int 1, .int 2])) ?_ ?_ ?_ ?_⟩
    · exact ⟨_, _, rfl, e14, upd_same⟩
    · rintro i σ H5 _ ⟨_, _, rfl, _, h5⟩
      exact SqT.of h5
    · rintro i vb σ H5 hvb ⟨y6, y7, rfl, e5, h5⟩
      have hb : ∃ b : Int, vb = .int b ∧ (b = 1 ∨ b = 2) := by
        match i, hvb with
        | 0, h => exact ⟨1, (Option.some.inj h).symm, .inl rfl⟩
        | 1, h => exact ⟨2, (Option.some.inj h).symm, .inr rfl⟩
      obtain ⟨b, rfl, hb⟩ := hb
      have g := go_on n1 n2 n3 hb
      have cb : ∀ i, CDiv i b := fun i => by rcases hb with rfl | rfl <;> exact ⟨by decide, by decide⟩
      refine ⟨_, rfl, _, rfl, _, _, rfl, rfl, cb _, .inl ⟨_, rfl, _, _, rfl, rfl, (by decide : (0 : Int) < 2), .inl ⟨_, rfl, ?_⟩⟩⟩
      refine ⟨_, rfl, _, rfl, _, _, rfl, rfl, cb _, .inl ⟨_, rfl, _, _, rfl, rfl, (by decide : (0 : Int) < 2), .inl ⟨_, rfl, ?_⟩⟩⟩
      refine ⟨(by show 2 ≤ sizeLine; decide), fun l6 n6 => ?_⟩
      have s6 : Same H5 (upd H5 l6 (.lst [.int (dueV x y x' y' / b % 2), .int (dueV x' y' x'' y'' / b % 2)])) := same_new n6
      have h6 : upd H5 l6 (.lst [.int (dueV x y x' y' / b % 2), .int (dueV x' y' x'' y'' / b % 2)]) l6 = some (.lst [.int (dueV x y x' y' / b % 2), .int (dueV x' y' x'' y'' / b % 2)]) := upd_same
      generalize hH6 : upd H5 l6 (.lst [.int (dueV x y x' y' / b % 2), .int (dueV x' y' x'' y'' / b % 2)]) = H6 at s6 h6
      refine ⟨_, rfl, (by show 2 ≤ sizeLine; decide), fun l7 n7 => ?_⟩
      have s7 : Same H6 (upd H6 l7 (.lst [.int 1, .int 1])) := same_new n7
      have fin : ∀ ρ, Same H6 ρ → ∃ y6 y7 : Option V, ([some (V.ref t), some (.ref u), some (.ref v), some (.int (dueV x y x' y')), some (.int (dueV x' y' x'' y'')), some (.int (dueV x y x'' y'')), some (.int b), some (.ref l6)] : L2.St) = [some (.ref t), some (.ref u), some (.ref v), some (.int (dueV x y x' y')), some (.int (dueV x' y' x'' y'')), some (.int (dueV x y x'' y'')), y6, y7] ∧ Same H ρ ∧ ρ tp = some (.tup [.int 1, .int 2]) := fun ρ hρ => ⟨_, _, rfl, (e5.trans s6).trans hρ, hρ _ _ (s6 _ _ h5)⟩
      refine ⟨_, _, .lst (SqL.of (s7 _ _ h6)) (.cons (.int _) (.cons (.int _) .nil)), .lst (SqL.of upd_same) (.cons (.int _) (.cons (.int _) .nil)), (by rfl), (by rfl), _, rfl, ?_⟩
      refine ite2 (fun d => ?_) (fun d => iteF ?_)
      · refine ⟨_, rfl, _, rfl, _, _, rfl, rfl, cb _, .inl ⟨_, rfl, _, _, rfl, rfl, (by decide : (0 : Int) < 2), .inl ⟨_, rfl, rfl, _, rfl, ?_⟩⟩⟩
        refine ite2 (fun d2 => absurd d2 ?_) (fun _ => ?_)
        · have h := g.1 (by simp [PyData.eqv, PyData.eqvAll] at d; exact d.1) (by simp [PyData.eqv, PyData.eqvAll] at d; exact d.2)
          rw [h]
          decide
        · skip
          refine ⟨_, rfl, (by show 2 ≤ sizeLine; decide), fun l8 n8 => ?_⟩
          have e8 := s7.trans (same_new (o := .lst [.int 0, .int 0]) n8)
          refine ⟨_, _, .lst (SqL.of (e8 _ _ h6)) (.cons (.int _) (.cons (.int _) .nil)), .lst (SqL.of upd_same) (.cons (.int _) (.cons (.int _) .nil)), (by rfl), (by rfl), _, rfl, ?_⟩
          refine ite2 (fun d3 => ?_) (fun _ => iteF ?_)
          · refine ⟨_, rfl, _, rfl, _, _, rfl, rfl, cb _, .inl ⟨_, rfl, _, _, rfl, rfl, (by decide : (0 : Int) < 2), .inl ⟨_, rfl, rfl, _, rfl, ?_⟩⟩⟩
            refine ite2 (fun d4 => absurd d4 ?_) (fun _ => ?_)
            · have h := g.2 (by simp [PyData.eqv, PyData.eqvAll] at d3; exact d3.1) (by simp [PyData.eqv, PyData.eqvAll] at d3; exact d3.2)
              rw [h]
              decide
            · exact fin _ e8
          · exact fin _ e8
      · skip
        refine ⟨_, rfl, (by show 2 ≤ sizeLine; decide), fun l8 n8 => ?_⟩
        have e8 := s7.trans (same_new (o := .lst [.int 0, .int 0]) n8)
        refine ⟨_, _, .lst (SqL.of (e8 _ _ h6)) (.cons (.int _) (.cons (.int _) .nil)), .lst (SqL.of upd_same) (.cons (.int _) (.cons (.int _) .nil)), (by rfl), (by rfl), _, rfl, ?_⟩
        refine ite2 (fun d3 => ?_) (fun _ => iteF ?_)
        · refine ⟨_, rfl, _, rfl, _, _, rfl, rfl, cb _, .inl ⟨_, rfl, _, _, rfl, rfl, (by decide : (0 : Int) < 2), .inl ⟨_, rfl, rfl, _, rfl, ?_⟩⟩⟩
          refine ite2 (fun d4 => absurd d4 ?_) (fun _ => ?_)
          · have h := g.2 (by simp [PyData.eqv, PyData.eqvAll] at d3; exact d3.1) (by simp [PyData.eqv, PyData.eqvAll] at d3; exact d3.2)
            rw [h]
            decide
          · exact fin _ e8
        · exact fin _ e8
    · rintro σ H5 ⟨_, _, rfl, e5, _⟩
      exact q H5 e5
end
end Q2

namespace Q2
open PySem PySem.Spec PyProof.Rows L2
abbrev IP := Int × Int
/-! ### orders of values -/
def ltV (ln : Int) (z w : IP) : Bool := lessM ln z.1 z.2 w.1 w.2
theorem ltV_iff0 {z w : IP} : ltV 0 z w = true ↔ (z.1 < w.1 ∨ (w.1 = z.1 ∧ z.2 < w.2)) := by
  unfold ltV lessM gtP
  rw [if_pos rfl, decide_eq_true_eq]
theorem ltV_iff1 {z w : IP} : ltV 1 z w = true ↔ (z.2 < w.2 ∨ (w.2 = z.2 ∧ z.1 < w.1)) := by
  unfold ltV lessM gtP
  rw [if_neg (show ¬ (1 : Int) = 0 by decide), decide_eq_true_eq]
theorem ltV_asymm {ln : Int} {z w : IP} (h : ltV ln z w = true) : ltV ln w z = false := lt_asymm (p := (0, z)) (q := (0, w)) h
theorem ltV_total {ln : Int} {z w : IP} (h : z ≠ w) : ltV ln z w = true ∨ ltV ln w z = true := lt_total (p := (0, z)) (q := (0, w)) h
abbrev SrtV (ln : Int) (l : List IP) : Prop := l.Pairwise fun z w => ltV ln z w = true
theorem srtV_unique {ln : Int} : ∀ {l m : List IP}, l.Perm m → SrtV ln l → SrtV ln m → l = m
  | [], m, pm, _, _ => (List.nil_perm.mp pm).symm
  | a :: l, [], pm, _, _ => by cases (List.perm_nil.mp pm)
  | a :: l, b :: m, pm, h, h' => by
    have hl := List.pairwise_cons.mp h
    have hm := List.pairwise_cons.mp h'
    have e : a = b := by
      rcases List.mem_cons.mp (pm.mem_iff.mp (List.mem_cons_self ..)) with e | ha
      · exact e
      · rcases List.mem_cons.mp (pm.mem_iff.mpr (List.mem_cons_self ..)) with e | hb
        · exact e.symm
        · have x1 := hm.1 a ha
          have x2 := ltV_asymm (hl.1 b hb)
          rw [x1] at x2
          cases x2
    subst e
    rw [srtV_unique (List.perm_cons a |>.mp pm) hl.2 hm.2]
abbrev vals (qs : Pts) : List IP := qs.map (·.2)
theorem sort_perm {ln : Int} (h : ln = 0 ∨ ln = 1) {qs : Pts} (nd : (vals qs).Nodup) : (sortM ln qs).Perm qs := by
  rw [sortM_ins h nd]
  obtain ⟨_, pm⟩ := ins_ok (ln := ln) qs [] List.Pairwise.nil (by simpa using nd)
  exact pm
theorem sort_srt {ln : Int} (h : ln = 0 ∨ ln = 1) {qs : Pts} (nd : (vals qs).Nodup) : SrtV ln (vals (sortM ln qs)) := by
  rw [sortM_ins h nd]
  obtain ⟨s, _⟩ := ins_ok (ln := ln) qs [] List.Pairwise.nil (by simpa using nd)
  exact List.pairwise_map.mpr s
theorem nodup_map {ln ln' : Int} {g : IP → IP} (hg : ∀ z w, ltV ln z w = true → ltV ln' (g z) (g w) = true) {l : List IP} (nd : l.Nodup) : (l.map g).Nodup := by
  refine List.pairwise_map.mpr (nd.imp fun {z w} h e => ?_)
  rcases ltV_total (ln := ln) h with x | x
  · have h1 := hg z w x
    rw [e] at h1
    have h2 := ltV_asymm h1
    rw [h1] at h2
    cases h2
  · have h1 := hg w z x
    rw [e] at h1
    have h2 := ltV_asymm h1
    rw [h1] at h2
    cases h2
theorem nodup_map_rev {ln ln' : Int} {g : IP → IP} (hg : ∀ z w, ltV ln z w = true → ltV ln' (g w) (g z) = true) {l : List IP} (nd : l.Nodup) : (l.map g).Nodup := by
  refine List.pairwise_map.mpr (nd.imp fun {z w} h e => ?_)
  rcases ltV_total (ln := ln) h with x | x
  · have h1 := hg z w x
    rw [e] at h1
    have h2 := ltV_asymm h1
    rw [h1] at h2
    cases h2
  · have h1 := hg w z x
    rw [e] at h1
    have h2 := ltV_asymm h1
    rw [h1] at h2
    cases h2
theorem sort_map {ln ln' : Int} (h : ln = 0 ∨ ln = 1) (h' : ln' = 0 ∨ ln' = 1) {g : IP → IP} (hg : ∀ z w, ltV ln z w = true → ltV ln' (g z) (g w) = true) {qs rs : Pts} (nd : (vals qs).Nodup) (e : vals rs = (vals qs).map g) :
    vals (sortM ln' rs) = (vals (sortM ln qs)).map g := by
  have nd' : (vals rs).Nodup := by rw [e]; exact nodup_map hg nd
  have p1 := ((sort_perm h' nd').map (·.2))
  have p2 := ((sort_perm h nd).map (·.2)).map g
  refine srtV_unique (ln := ln') (p1.trans ?_) (sort_srt h' nd') (List.pairwise_map.mpr ((sort_srt h nd).imp fun {z w} q => hg z w q))
  show (vals rs).Perm _
  rw [e]
  exact p2.symm
theorem sort_map_rev {ln ln' : Int} (h : ln = 0 ∨ ln = 1) (h' : ln' = 0 ∨ ln' = 1) {g : IP → IP} (hg : ∀ z w, ltV ln z w = true → ltV ln' (g w) (g z) = true) {qs rs : Pts} (nd : (vals qs).Nodup) (e : vals rs = (vals qs).map g) :
    vals (sortM ln' rs) = (vals (sortM ln qs)).reverse.map g := by
  have nd' : (vals rs).Nodup := by rw [e]; exact nodup_map_rev hg nd
  have p1 := ((sort_perm h' nd').map (·.2))
  have p2 := ((sort_perm h nd).map (·.2)).map g
  refine srtV_unique (ln := ln') (p1.trans ?_) (sort_srt h' nd') (List.pairwise_map.mpr ((List.pairwise_reverse.mpr (sort_srt h nd)).imp fun {z w} q => ?_))
  · show (vals rs).Perm _
    rw [e]
    refine p2.symm.trans ?_
    rw [List.map_reverse]
    exact (List.reverse_perm _).symm
  · exact hg w z q
/-! ### the moves -/
def mvG (a b k : Int) (z : IP) : IP := (a + k * z.1, b + k * z.2)
def mvS (z : IP) : IP := (z.2, z.1)
def mvN (z : IP) : IP := (-z.1, -z.2)
theorem mul_lt {k x y : Int} (hk : 0 < k) (h : x < y) : k * x < k * y := Int.mul_lt_mul_of_pos_left h hk
theorem mvG_lt {a b k : Int} (hk : 0 < k) {ln : Int} (h : ln = 0 ∨ ln = 1) (z w : IP) (q : ltV ln z w = true) : ltV ln (mvG a b k z) (mvG a b k w) = true := by
  unfold mvG
  rcases h with rfl | rfl
  · rw [ltV_iff0] at q ⊢
    rcases q with q | ⟨q, r⟩
    · have := mul_lt hk q
      exact .inl (by show a + k * z.1 < a + k * w.1; omega)
    · have := mul_lt hk r
      exact .inr ⟨by show a + k * w.1 = a + k * z.1; rw [q], by show b + k * z.2 < b + k * w.2; omega⟩
  · rw [ltV_iff1] at q ⊢
    rcases q with q | ⟨q, r⟩
    · have := mul_lt hk q
      exact .inl (by show b + k * z.2 < b + k * w.2; omega)
    · have := mul_lt hk r
      exact .inr ⟨by show b + k * w.2 = b + k * z.2; rw [q], by show a + k * z.1 < a + k * w.1; omega⟩
theorem mvS_lt {ln : Int} (h : ln = 0 ∨ ln = 1) (z w : IP) (q : ltV ln z w = true) : ltV (1 - ln) (mvS z) (mvS w) = true := by
  rcases h with rfl | rfl
  · show ltV 1 (mvS z) (mvS w) = true
    rw [ltV_iff0] at q
    rw [ltV_iff1]
    exact q
  · show ltV 0 (mvS z) (mvS w) = true
    rw [ltV_iff1] at q
    rw [ltV_iff0]
    exact q
theorem mvN_lt {ln : Int} (h : ln = 0 ∨ ln = 1) (z w : IP) (q : ltV ln z w = true) : ltV ln (mvN w) (mvN z) = true := by
  unfold mvN
  rcases h with rfl | rfl
  · rw [ltV_iff0] at q ⊢
    show -w.1 < -z.1 ∨ (-z.1 = -w.1 ∧ -w.2 < -z.2)
    omega
  · rw [ltV_iff1] at q ⊢
    show -w.2 < -z.2 ∨ (-z.2 = -w.2 ∧ -w.1 < -z.1)
    omega
/-! ### parts of moved points -/
theorem due_vals (z w : IP) : dueV z.1 z.2 w.1 w.2 = (if ltV 0 z w = true then 1 else 0) + (if ltV 1 z w = true then 2 else 0) := rfl
theorem due_rev {z w : IP} (h : z ≠ w) : dueV w.1 w.2 z.1 z.2 = 3 - dueV z.1 z.2 w.1 w.2 := by
  rw [due_vals, due_vals]
  rcases ltV_total (ln := 0) h with a | a <;> rcases ltV_total (ln := 1) h with b | b <;> rw [a, b, ltV_asymm a, ltV_asymm b] <;> decide
theorem due_mv {g : IP → IP} (hg : ∀ ln z w, (ln = 0 ∨ ln = 1) → ltV ln z w = true → ltV ln (g z) (g w) = true) {z w : IP} (h : z ≠ w) : dueV (g z).1 (g z).2 (g w).1 (g w).2 = dueV z.1 z.2 w.1 w.2 := by
  rw [due_vals, due_vals]
  have key : ∀ ln, (ln = 0 ∨ ln = 1) → ltV ln (g z) (g w) = ltV ln z w := fun ln hl => by
    rcases ltV_total (ln := ln) h with a | a
    · rw [a, hg ln z w hl a]
    · rw [ltV_asymm a, ltV_asymm (hg ln w z hl a)]
  rw [key 0 (.inl rfl), key 1 (.inr rfl)]
theorem due_neg {z w : IP} (h : z ≠ w) : dueV (mvN z).1 (mvN z).2 (mvN w).1 (mvN w).2 = 3 - dueV z.1 z.2 w.1 w.2 := by
  have key : ∀ ln, (ln = 0 ∨ ln = 1) → ltV ln (mvN z) (mvN w) = ltV ln w z := fun ln hl => by
    rcases ltV_total (ln := ln) h with a | a
    · rw [ltV_asymm a, ltV_asymm (mvN_lt hl z w a)]
    · rw [a, mvN_lt hl w z a]
  rw [← due_rev h, due_vals, due_vals, key 0 (.inl rfl), key 1 (.inr rfl)]
/-- [0, 2, 1, 3] -/
def swD (d : Int) : Int := if d = 1 then 2 else if d = 2 then 1 else d
theorem due_swap (z w : IP) : dueV (mvS z).1 (mvS z).2 (mvS w).1 (mvS w).2 = swD (dueV z.1 z.2 w.1 w.2) := by
  have k0 : ltV 0 (mvS z) (mvS w) = ltV 1 z w := by
    rw [Bool.eq_iff_iff, ltV_iff0, ltV_iff1]
    exact Iff.rfl
  have k1 : ltV 1 (mvS z) (mvS w) = ltV 0 z w := by
    rw [Bool.eq_iff_iff, ltV_iff0, ltV_iff1]
    exact Iff.rfl
  rw [due_vals, due_vals, k0, k1]
  cases ltV 0 z w <;> cases ltV 1 z w <;> decide
theorem due_rng (x y x' y' : Int) : dueV x y x' y' = 0 ∨ dueV x y x' y' = 1 ∨ dueV x y x' y' = 2 ∨ dueV x y x' y' = 3 := by
  unfold dueV
  cases gtP x' y' x y <;> cases gtP y' x' y x <;> decide
theorem swD_at {d : Int} (h : d = 0 ∨ d = 1 ∨ d = 2 ∨ d = 3) : ∃ j : Nat, d = (j : Nat) ∧ ([V.int 0, V.int 2, V.int 1, V.int 3] : List V)[j]? = some (.int (swD d)) := by
  rcases h with rfl | rfl | rfl | rfl
  · exact ⟨0, rfl, rfl⟩
  · exact ⟨1, rfl, rfl⟩
  · exact ⟨2, rfl, rfl⟩
  · exact ⟨3, rfl, rfl⟩
theorem eqvAll_self : ∀ zs : List IP, PyData.eqvAll (zs.map ptD) (zs.map ptD) = true
  | [] => by simp [PyData.eqvAll]
  | z :: zs => by
    have h1 := ptD_eqv z z
    have h2 := eqvAll_self zs
    rw [List.map_cons]
    simp only [PyData.eqvAll]
    rw [h1, h2, decide_eq_true rfl]
    rfl
theorem eqv_self (zs : List IP) : PyData.eqv (.list (zs.map ptD)) (.list (zs.map ptD)) = true := by
  simp only [PyData.eqv]
  exact eqvAll_self zs
theorem eqv_vals {zs ws : List IP} (h : zs = ws) : (!PyData.eqv (.list (zs.map ptD)) (.list (ws.map ptD))) = false := by
  rw [h, eqv_self]
  rfl
end Q2

namespace Q2
open PySem PySem.Spec PyProof.Rows L2
abbrev Sb : Int := 1000000000000000000
theorem PtAt.mono {H : Hp} {B B' : Int} {q : Addr × Int × Int} (hb : B ≤ B') (h : PtAt H B q) : PtAt H B' q := ⟨h.1, ⟨by have := h.2.1.1; omega, by have := h.2.1.2; omega⟩, ⟨by have := h.2.2.1; omega, by have := h.2.2.2; omega⟩⟩
def InB (B : Int) (z : IP) : Prop := (-B ≤ z.1 ∧ z.1 ≤ B) ∧ (-B ≤ z.2 ∧ z.2 ≤ B)
abbrev tupV (z : IP) : HO := .tup [.int z.1, .int z.2]
def MapSt (H0 H : Hp) (D : Addr) (B : Int) (g : IP → IP) (zs : List IP) (i : Nat) : Prop := ∃ qs : Pts, H D = some (.lst (refsOf qs)) ∧ vals qs = (zs.take i).map g ∧ qs.length ≤ i ∧ (∀ q ∈ qs, PtAt H B q) ∧ Same H0 H
theorem map_start {H0 : Hp} {D : Addr} {B : Int} {g : IP → IP} {zs : List IP} (hD : H0 D = none) : MapSt H0 (upd H0 D (.lst [])) D B g zs 0 := ⟨[], upd_same, rfl, Nat.le_refl _, fun q hq => (List.not_mem_nil hq).elim, same_new hD⟩
theorem take_map {g : IP → IP} {zs : List IP} {i : Nat} {z : IP} (h : zs[i]? = some z) : (zs.take (i + 1)).map g = (zs.take i).map g ++ [g z] := by
  obtain ⟨hi, rfl⟩ := List.getElem?_eq_some_iff.mp h
  rw [List.take_succ_eq_append_getElem hi, List.map_append]
  rfl
/-- one more, that stands already -/
theorem map_put {H0 H H' : Hp} {D t : Addr} {B : Int} {g : IP → IP} {zs : List IP} {i : Nat} {z : IP} (hD : H0 D = none) (m : MapSt H0 H D B g zs i) (hz : zs[i]? = some z) (e : Same H H') (ht : PtAt H' B (t, g z)) (htD : t ≠ D) (hi : i ≤ 1000) :
    ∃ acc, H' D = some (.lst acc) ∧ acc.length < sizeLine ∧ MapSt H0 (upd H' D (.lst (acc ++ [.ref t]))) D B g zs (i + 1) := by
  obtain ⟨qs, h1, h2, h3, h4, h5⟩ := m
  have k : ∀ q : Addr × Int × Int, PtAt H' B q → PtAt (upd H' D (.lst (refsOf qs ++ [.ref t]))) B q := fun q hq => ⟨by
    have := hq.1
    by_cases e2 : q.1 = D
    · rw [e2, e _ _ h1] at this
      cases this
    · rw [upd_ne e2]
      exact this, hq.2⟩
  refine ⟨_, e _ _ h1, by rw [List.length_map]; exact small1000 (by omega), qs ++ [(t, g z)], ?_, ?_, ?_, ?_, ?_⟩
  · rw [upd_same]
    simp [refsOf]
  · rw [take_map hz, ← h2]
    simp [vals]
  · rw [List.length_append, List.length_singleton]
    omega
  · intro q hq
    rcases List.mem_append.mp hq with hq | hq
    · exact k q ((h4 q hq).same e)
    · rw [List.mem_singleton.mp hq]
      exact k _ ht
  · intro b o hb
    rw [upd_ne (ne_of_none hb hD)]
    exact e _ _ (h5 _ _ hb)
/-- one more, just made -/
theorem map_new {H0 H H' : Hp} {D t : Addr} {B : Int} {g : IP → IP} {zs : List IP} {i : Nat} {z : IP} (hD : H0 D = none) (m : MapSt H0 H D B g zs i) (hz : zs[i]? = some z) (e : Same H H') (ht : H' t = none) (hb : InB B (g z)) (hi : i ≤ 1000) :
    ∃ acc, (upd H' t (tupV (g z))) D = some (.lst acc) ∧ acc.length < sizeLine ∧ MapSt H0 (upd (upd H' t (tupV (g z))) D (.lst (acc ++ [.ref t]))) D B g zs (i + 1) := by
  have hD' : ∃ o, H' D = some o := by
    obtain ⟨qs, h1, _⟩ := m
    exact ⟨_, e _ _ h1⟩
  obtain ⟨o, ho⟩ := hD'
  exact map_put hD m hz (e.trans (same_new ht)) ⟨upd_same, hb⟩ (ne_of_none ho ht).symm hi
theorem map_same {H0 H H' : Hp} {D : Addr} {B : Int} {g : IP → IP} {zs : List IP} {i : Nat} (m : MapSt H0 H D B g zs i) (e : Same H H') : MapSt H0 H' D B g zs i := by
  obtain ⟨qs, h1, h2, h3, h4, h5⟩ := m
  exact ⟨qs, e _ _ h1, h2, h3, fun q hq => (h4 q hq).same e, h5.trans e⟩
theorem map_end {H0 H : Hp} {D : Addr} {B : Int} {g : IP → IP} {zs : List IP} (m : MapSt H0 H D B g zs zs.length) : ∃ qs : Pts, H D = some (.lst (refsOf qs)) ∧ vals qs = zs.map g ∧ (∀ q ∈ qs, PtAt H B q) ∧ Same H0 H := by
  obtain ⟨qs, h1, h2, _, h4, h5⟩ := m
  rw [List.take_length] at h2
  exact ⟨qs, h1, h2, h4, h5⟩
/-- a list of points that stands -/
structure PL (H : Hp) (a : Addr) (B : Int) (qs : Pts) : Prop where
  l : H a = some (.lst (refsOf qs))
  p : ∀ q ∈ qs, PtAt H B q
theorem PL.same {H H' : Hp} {a : Addr} {B : Int} {qs : Pts} (h : PL H a B qs) (e : Same H H') : PL H' a B qs := ⟨e _ _ h.l, fun q hq => (h.p q hq).same e⟩
theorem PL.at {H : Hp} {a : Addr} {B : Int} {qs : Pts} (h : PL H a B qs) {i : Nat} {v : V} (hv : (refsOf qs)[i]? = some v) : ∃ q, qs[i]? = some q ∧ v = .ref q.1 ∧ PtAt H B q := by
  obtain ⟨q, hq, rfl⟩ := refs_at hv
  exact ⟨q, hq, rfl, h.p q (List.mem_of_getElem? hq)⟩
theorem PL.mono {H : Hp} {a : Addr} {B B' : Int} {qs : Pts} (hb : B ≤ B') (h : PL H a B qs) : PL H a B' qs := ⟨h.l, fun q hq => (h.p q hq).mono hb⟩
theorem vals_at {qs : Pts} {i : Nat} {q : Addr × Int × Int} (h : qs[i]? = some q) : (vals qs)[i]? = some q.2 := by
  rw [List.getElem?_map, h]
  rfl
theorem vals_len (qs : Pts) : (vals qs).length = qs.length := List.length_map ..
theorem at_vals {qs rs : Pts} {g : IP → IP} (h : vals rs = (vals qs).map g) {i : Nat} {q : Addr × Int × Int} (hq : qs[i]? = some q) : ∃ t, rs[i]? = some (t, g q.2) := by
  have h1 : (vals rs)[i]? = some (g q.2) := by
    rw [h, List.getElem?_map, vals_at hq]
    rfl
  rw [List.getElem?_map] at h1
  cases z : rs[i]? with
  | none => rw [z] at h1; cases h1
  | some r =>
    rw [z] at h1
    exact ⟨r.1, by rw [← Option.some.inj h1]⟩
/-- the first ones of equal points -/
def FstSt (H0 H : Hp) (D : Addr) (ps : Pts) (i : Nat) : Prop := ∃ qs : Pts, H D = some (.lst (refsOf qs)) ∧ (vals qs).Nodup ∧ (∀ q ∈ qs, q ∈ ps.take i) ∧ qs.length ≤ i ∧ Same H0 H
theorem fst_start {H0 : Hp} {D : Addr} {ps : Pts} (hD : H0 D = none) : FstSt H0 (upd H0 D (.lst [])) D ps 0 := ⟨[], upd_same, List.nodup_nil, fun q hq => (List.not_mem_nil hq).elim, Nat.le_refl _, same_new hD⟩
theorem fst_skip {H0 H H' : Hp} {D : Addr} {ps : Pts} {i : Nat} (m : FstSt H0 H D ps i) (e : Same H H') : FstSt H0 H' D ps (i + 1) := by
  obtain ⟨qs, h1, h2, h3, h4, h5⟩ := m
  refine ⟨qs, e _ _ h1, h2, fun q hq => ?_, by omega, h5.trans e⟩
  have := h3 q hq
  rw [List.take_add_one]
  exact List.mem_append_left _ this
theorem fst_put {H0 H H' : Hp} {D : Addr} {ps : Pts} {i : Nat} {q : Addr × Int × Int} (hD : H0 D = none) (m : FstSt H0 H D ps i) (hq : ps[i]? = some q) (e : Same H H') (out : q.2 ∉ vals (ps.take i)) (hi : i ≤ 1000) :
    ∃ acc, H' D = some (.lst acc) ∧ acc.length < sizeLine ∧ FstSt H0 (upd H' D (.lst (acc ++ [.ref q.1]))) D ps (i + 1) := by
  obtain ⟨qs, h1, h2, h3, h4, h5⟩ := m
  refine ⟨_, e _ _ h1, by rw [List.length_map]; exact small1000 (by omega), qs ++ [q], ?_, ?_, ?_, ?_, ?_⟩
  · rw [upd_same]
    simp [refsOf]
  · show (List.map _ (qs ++ [q])).Nodup
    rw [List.map_append]
    refine nd_snoc h2 fun hm => out ?_
    obtain ⟨r, hr, e2⟩ := List.mem_map.mp hm
    exact List.mem_map.mpr ⟨r, h3 r hr, e2⟩
  · intro r hr
    obtain ⟨hi2, rfl⟩ := List.getElem?_eq_some_iff.mp hq
    rw [List.take_succ_eq_append_getElem hi2]
    rcases List.mem_append.mp hr with hr | hr
    · exact List.mem_append_left _ (h3 r hr)
    · exact List.mem_append_right _ hr
  · rw [List.length_append, List.length_singleton]
    omega
  · intro b o hb
    rw [upd_ne (ne_of_none hb hD)]
    exact e _ _ (h5 _ _ hb)
/-- a test of two ways to a number -/
theorem ite_int {b : Bool} {A B : Prop} {G : Int → Prop} {Q : VK} {H : Hp} {i1 i2 : Int} (hB : b = false → G i2 ∧ (Q (.int i2) H → B)) (hA : b = true → G i1 ∧ (Q (.int i1) H → A)) (k : ∀ L, G L → Q (.int L) H) : if b = true then A else B := by
  cases b with
  | true => exact iteT ((hA rfl).2 (k _ (hA rfl).1))
  | false => exact iteF ((hB rfl).2 (k _ (hB rfl).1))
def GoodL (ps : Pts) (L : Int) : Prop := 0 < L ∧ L ≤ 10000000000000000000000000000000000000000 ∧ ∀ q ∈ ps, InB Sb (q.2.1 / L, q.2.2 / L)
theorem good_far {ps : Pts} {H : Hp} (h : ∀ q ∈ ps, PtAt H Lo q) : GoodL ps ((10 : Int) ^ (12 : Int).toNat) := by
  have e : ((10 : Int) ^ (12 : Int).toNat) = 1000000000000 := by decide
  rw [e]
  refine ⟨by decide, by decide, fun q hq => ?_⟩
  have h1 := (h q hq).2
  have a1 : -1000000000000000000000000000000 ≤ q.2.1 ∧ q.2.1 ≤ 1000000000000000000000000000000 := h1.1
  have a2 : -1000000000000000000000000000000 ≤ q.2.2 ∧ q.2.2 ≤ 1000000000000000000000000000000 := h1.2
  show (-1000000000000000000 ≤ q.2.1 / 1000000000000 ∧ q.2.1 / 1000000000000 ≤ 1000000000000000000) ∧ (-1000000000000000000 ≤ q.2.2 / 1000000000000 ∧ q.2.2 / 1000000000000 ≤ 1000000000000000000)
  omega
theorem good_near {ps : Pts} {m : Int} (h : ∀ q ∈ ps, absI q.2.1 + absI q.2.2 ≤ m) (hm : m ≤ 100000000000000000) : GoodL ps 1 := by
  refine ⟨by decide, by decide, fun q hq => ?_⟩
  have h1 := h q hq
  unfold absI at h1
  show (-1000000000000000000 ≤ q.2.1 / 1 ∧ q.2.1 / 1 ≤ 1000000000000000000) ∧ (-1000000000000000000 ≤ q.2.2 / 1 ∧ q.2.2 / 1 ≤ 1000000000000000000)
  rw [Int.ediv_one, Int.ediv_one]
  split at h1 <;> split at h1 <;> omega
end Q2

namespace Q2
open PySem PySem.Spec PyProof.Rows L2
theorem same_app {H H' : Hp} {D : Addr} {o : HO} (e : Same H H') (hD : H D = none) : Same H (upd H' D o) := fun b o' hb => by
  rw [upd_ne (ne_of_none hb hD)]
  exact e b o' hb
theorem cut_to {xs : List V} {n : Nat} (h : n ≤ xs.length) : cutV xs none (some (n : Int)) = xs.take n := by
  unfold cutV
  rw [HT.sIx_none, HT.sIx_nat, Nat.min_eq_left h, Nat.sub_zero, List.drop_zero]
theorem mem_cut {xs : List V} {lo hi : Option Int} {v : V} (h : v ∈ cutV xs lo hi) : v ∈ xs := by
  unfold cutV at h
  exact List.mem_of_mem_drop (List.mem_of_mem_take h)
theorem cells_int {ns : List Int} {lo hi : Option Int} {i : Nat} {v : V} (h : (cutV (ns.map V.int ++ [V.int 0]) lo hi)[i]? = some v) : ∃ n : Int, v = .int n := by
  have h1 := mem_cut (List.mem_of_getElem? h)
  rcases List.mem_append.mp h1 with h2 | h2
  · obtain ⟨n, _, rfl⟩ := List.mem_map.mp h2
    exact ⟨n, rfl⟩
  · exact ⟨0, List.mem_singleton.mp h2⟩
theorem op_notInTK {X : Cx} {K : PySem.W.Frag} (hK : X.K = K) (hu : X.A.units + 66 < cLine) : OpR X (compareOp .NotIn) (rNotInT K) := by
  subst hK
  exact op_notInT hu
theorem op_notInDK {X : Cx} {K : PySem.W.Frag} (hK : X.K = K) (hu : X.A.units + 65 < cLine) : OpR X (compareOp .NotIn) (rNotInD K) := by
  subst hK
  exact op_notInD hu
theorem sl_listK {X : Cx} {K : PySem.W.Frag} (hK : X.K = K) : SlR X (rSlL K) := by
  subst hK
  exact sl_list
theorem tif_pow {b : Bool} {G : Int → Prop} {Q : VK} {σ : L2.St} {H : Hp} {i1 i2 : Int} {TA : TE} (hB : b = false → G i2) (hA : b = true → G i1 ∧ ∀ Q' : VK, Q' (.int i1) H → TA σ H Q') (k : ∀ L, G L → Q (.int L) H) : if b = true then TA σ H Q else tC (.int i2) σ H Q := by
  cases b with
  | true => exact iteT ((hA rfl).2 _ (k _ (hA rfl).1))
  | false => exact iteF (k _ (hB rfl))
theorem mul_bnd {k x M X : Int} (hk : 0 ≤ k) (hk2 : k ≤ M) (h1 : -X ≤ x) (h2 : x ≤ X) (hX : 0 ≤ X) : -(M * X) ≤ k * x ∧ k * x ≤ M * X := by
  have a := Int.mul_le_mul_of_nonneg_left h2 hk
  have b := Int.mul_le_mul_of_nonneg_left h1 hk
  have c := Int.mul_le_mul_of_nonneg_right hk2 hX
  rw [Int.mul_neg] at b
  omega
theorem gone_in {a b k : Int} {z : IP} (ha : -100000000 ≤ a ∧ a ≤ 1000000000) (hb : -100000000 ≤ b ∧ b ≤ 1000000000) (hk : 0 < k ∧ k ≤ 1000000) (hz : InB Sb z) : InB Lo (mvG a b k z) := by
  have h1 : -1000000000000000000 ≤ z.1 ∧ z.1 ≤ 1000000000000000000 := hz.1
  have h2 : -1000000000000000000 ≤ z.2 ∧ z.2 ≤ 1000000000000000000 := hz.2
  have m1 := mul_bnd (M := 1000000) (X := 1000000000000000000) (Int.le_of_lt hk.1) hk.2 h1.1 h1.2 (by decide)
  have m2 := mul_bnd (M := 1000000) (X := 1000000000000000000) (Int.le_of_lt hk.1) hk.2 h2.1 h2.2 (by decide)
  show (-1000000000000000000000000000000 ≤ a + k * z.1 ∧ a + k * z.1 ≤ 1000000000000000000000000000000) ∧ (-1000000000000000000000000000000 ≤ b + k * z.2 ∧ b + k * z.2 ≤ 1000000000000000000000000000000)
  omega
theorem PL.ex {H H' : Hp} {s a : Addr} {B : Int} {qs : Pts} (h : PL H a B qs) (hS : Src H s) (hne : a ≠ s) (e : Ex s H H') : PL H' a B qs := ⟨e _ _ h.l hne, fun q hq => (h.p q hq).ex hS e⟩
theorem ne_bad {x y : V} (e : x = y) : ¬ (!decide (x = y)) = true := by
  rw [decide_eq_true e]
  decide
theorem mv_ne {g : IP → IP} (hg : ∀ z w, ltV 0 z w = true → ltV 0 (g z) (g w) = true) {z w : IP} (h : z ≠ w) : g z ≠ g w := by
  intro e
  rcases ltV_total (ln := 0) h with x | x
  · have h1 := hg z w x
    rw [e] at h1
    have h2 := ltV_asymm h1
    rw [h1] at h2
    cases h2
  · have h1 := hg w z x
    rw [e] at h1
    have h2 := ltV_asymm h1
    rw [h1] at h2
    cases h2
theorem nd_ne {qs : Pts} (nd : (vals qs).Nodup) {i j : Nat} {q r : Addr × Int × Int} (hq : qs[i]? = some q) (hr : qs[j]? = some r) (hij : i ≠ j) : q.2 ≠ r.2 := by
  obtain ⟨hi, rfl⟩ := List.getElem?_eq_some_iff.mp hq
  obtain ⟨hj, rfl⟩ := List.getElem?_eq_some_iff.mp hr
  rcases Nat.lt_or_gt_of_ne hij with h | h
  · have := List.pairwise_iff_getElem.mp nd i j (by rw [List.length_map]; omega) (by rw [List.length_map]; exact hj) h
    rw [List.getElem_map, List.getElem_map] at this
    exact this
  · have := List.pairwise_iff_getElem.mp nd j i (by rw [List.length_map]; omega) (by rw [List.length_map]; exact hi) h
    rw [List.getElem_map, List.getElem_map] at this
    exact this.symm
theorem index_first {qs : Pts} (nd : (vals qs).Nodup) {j : Nat} {q : Addr × Int × Int} (hq : qs[j]? = some q) : ∀ (m : Nat) (z' : PyData), m < j → ((vals qs).map ptD)[m]? = some z' → PyData.eqv z' (ptD q.2) = false := by
  intro m z' hm hz
  obtain ⟨hj, _⟩ := List.getElem?_eq_some_iff.mp hq
  have h1 : qs[m]? = some (qs[m]'(by omega)) := List.getElem?_eq_getElem (by omega)
  rw [List.getElem?_map, vals_at h1] at hz
  cases hz
  rw [ptD_eqv]
  exact decide_eq_false (nd_ne nd h1 hq (by omega))
theorem neg_in {z : IP} (h : InB Sb z) : InB Lo (mvN z) := by
  have h1 : -1000000000000000000 ≤ z.1 ∧ z.1 ≤ 1000000000000000000 := h.1
  have h2 : -1000000000000000000 ≤ z.2 ∧ z.2 ≤ 1000000000000000000 := h.2
  show (-1000000000000000000000000000000 ≤ -z.1 ∧ -z.1 ≤ 1000000000000000000000000000000) ∧ (-1000000000000000000000000000000 ≤ -z.2 ∧ -z.2 ≤ 1000000000000000000000000000000)
  omega
theorem swap_in {z : IP} (h : InB Sb z) : InB Lo (mvS z) := by
  have h1 : -1000000000000000000 ≤ z.1 ∧ z.1 ≤ 1000000000000000000 := h.1
  have h2 : -1000000000000000000 ≤ z.2 ∧ z.2 ≤ 1000000000000000000 := h.2
  show (-1000000000000000000000000000000 ≤ z.2 ∧ z.2 ≤ 1000000000000000000000000000000) ∧ (-1000000000000000000000000000000 ≤ z.1 ∧ z.1 ≤ 1000000000000000000000000000000)
  omega
theorem hu66 {A : Around} {k : Nat} (hr : Room k A) : A.units + 66 < cLine := by have := hr.un; omega
abbrev NK : List Str := ["_law_script", "_law_cell", "_law_source_here", "_law_spots_here", "_law_less", "_law_a", "_law_b", "_law_grow", "_law_gone_on", "_law_j", "_law_spot", "_law_k", "_law_one", "_law_part", "_law_turn", "_law_row", "_law_x", "_law_y", "_law_far"]
section
variable {P : Program} {w : World} {K : PySem.W.Frag} {mg : Str → Option Value} {base : Heap}
theorem scLaw : FnScope NK ["_law_script"] (defScope s_law) := ⟨rfl, rfl, rfl, by decide +kernel, rfl, by decide +kernel, by decide +kernel⟩
def spLaw (K : PySem.W.Frag) : Sp := fun vs H Q _ => ∃ (a : Addr) (ns : List Int), vs = [.ref a] ∧ SqL K H a (ns.map V.int) ∧ ns.length ≤ 63 ∧ ∀ H', Q (.bl true) H'
theorem ok_law {f fS fT fP fQ fO fH : Addr} {fd fdS fdT fdP fdQ fdO fdH : FuncData} (F : FnP K "law" s_law f fd) (Bm : Bt mg) (C : B1 mg) (Mx : mg "max" = none)
    (GS : FnOk P w K mg base CX0 1 fS fdS ["_law_cell"] spSource) (kS : PySem.W.keepIn K (.ref fS) = true) (bS : Binds K fdS ["_law_cell"] []) (gS : mg "_law_source" = some (.ref fS))
    (GT : FnOk P w K mg base CX0 2 fT fdT ["_law_source_here", "_law_bound"] spTake) (kT : PySem.W.keepIn K (.ref fT) = true) (bT : Binds K fdT ["_law_source_here", "_law_bound"] []) (gT : mg "_law_take" = some (.ref fT))
    (GP : FnOk P w K mg base CX0 4 fP fdP ["_law_source_here", "_law_most"] spSpots) (kP : PySem.W.keepIn K (.ref fP) = true) (bP : Binds K fdP ["_law_source_here", "_law_most"] []) (gP : mg "_law_spots" = some (.ref fP))
    (GQ : FnOk P w K mg base CX0 5 fQ fdQ ["root", "point"] spPart) (kQ : PySem.W.keepIn K (.ref fQ) = true) (bQ : Binds K fdQ ["root", "point"] []) (gQ : mg "quarter" = some (.ref fQ))
    (GO : FnOk P w K mg base CX0 5 fO fdO ["points", "axis"] spOrdP) (kO : PySem.W.keepIn K (.ref fO) = true) (bO : Binds K fdO ["points", "axis"] []) (gO : mg "ordered" = some (.ref fO))
    (GH : FnOk P w K mg base CX0 6 fH fdH ["_law_first", "_law_second", "_law_third"] spThree) (kH : PySem.W.keepIn K (.ref fH) = true) (bH : Binds K fdH ["_law_first", "_law_second", "_law_third"] []) (gH : mg "_law_three" = some (.ref fH)) :
    FnOk P w K mg base CX0 7 f fd ["_law_script"] (spLaw K) := by
  refine F.ok scLaw (fun vs H Q E h => ?_) (fun cdv A outer s H vs Q E hr h => ?_)
  · obtain ⟨_, _, rfl, _⟩ := h
    rfl
  · obtain ⟨a0, ns, rfl, hS0, hlen, q⟩ := h
    refine ⟨_, pss_cons (ps_for PassesOwn.never rfl (pi_list (pe_slice sl_list (pe_op op_catL (pv 0) (pe_lst (pa_cons pe_int pa_nil))) po_none (po_some pe_int))) (pg_name (i := 1) scLaw.nd rfl (.inl rfl))
        (pss_cons (ps_set (i := 2) scLaw.nd rfl (.inl rfl) (pe_call GS (hr.mono (by decide)) (by rfl) gS kS bS .nil pass0 (pa_cons (pv 1) pa_nil)))
        (pss_cons (ps_set (i := 3) scLaw.nd rfl (.inr rfl) (pe_call GP (hr.mono (by decide)) (by rfl) gP kP bP .nil pass0 (pa_cons (pv 2) (pa_cons pe_int pa_nil))))
        (pss_cons (ps_set (i := 4) scLaw.nd rfl (.inr rfl) (pe_ifExp (pt_cmpR op_gt (pe_callB (cr_max rfl) (by rfl) Mx (by decide +kernel) (pa_cons (pe_op op_catL (pe_lst (pa_cons pe_int pa_nil))
              (pe_lc (own := [("_law_x", 16), ("_law_y", 17)]) (g := gTup K 2 (gCons (gName 16) (gCons (gName 17) gNil))) (tt := tYes) rfl scLaw.nd (pi_list (pv 3)) (blkOk_by (N := NK) (sc := defScope s_law) (by decide +kernel))
                (fun _ _ _ _ _ => pg_tup rfl (pgs_cons (pg_name (i := 16) scLaw.nd rfl (Or.inl rfl) (.inr rfl)) (pgs_cons (pg_name (i := 17) scLaw.nd rfl (Or.inl rfl) (.inr rfl)) pgs_nil))) (fun _ _ _ _ _ => pts_nil)
                (fun _ _ _ _ _ => pe_op op_add (pe_callB call_abs (by rfl) Bm.abs (by decide +kernel) (pa_cons (pv 16) pa_nil)) (pe_callB call_abs (by rfl) Bm.abs (by decide +kernel) (pa_cons (pv 17) pa_nil))))) pa_nil)) (pe_op op_pow pe_int pe_int) (nomark _)) (pe_op op_pow pe_int pe_int) pe_int))
        (pss_cons (ps_set (i := 3) scLaw.nd rfl (.inr rfl) (pe_lc (own := [("_law_x", 16), ("_law_y", 17)]) (g := gTup K 2 (gCons (gName 16) (gCons (gName 17) gNil))) (tt := tYes) rfl scLaw.nd (pi_list (pv 3)) (blkOk_by (N := NK) (sc := defScope s_law) (by decide +kernel))
                (fun _ _ _ _ _ => pg_tup rfl (pgs_cons (pg_name (i := 16) scLaw.nd rfl (Or.inl rfl) (.inr rfl)) (pgs_cons (pg_name (i := 17) scLaw.nd rfl (Or.inl rfl) (.inr rfl)) pgs_nil))) (fun _ _ _ _ _ => pts_nil)
                (fun _ _ _ _ _ => pe_tup (pa_cons (pe_op op_fdivW (pv 16) (pv 4)) (pa_cons (pe_op op_fdivW (pv 17) (pv 4)) pa_nil)))))
        (pss_cons (ps_set (i := 3) scLaw.nd rfl (.inr rfl) (pe_lc (own := [("_law_k", 11), ("_law_spot", 10)]) (g := gTup K 2 (gCons (gName 11) (gCons (gName 10) gNil))) rfl scLaw.nd (pi_enumA (by rfl) C.enum (pa_cons (pv 3) pa_nil)) (blkOk_by (N := NK) (sc := defScope s_law) (by decide +kernel))
                (fun _ _ _ _ _ => pg_tup rfl (pgs_cons (pg_name (i := 11) scLaw.nd rfl (Or.inl rfl) (.inr rfl)) (pgs_cons (pg_name (i := 10) scLaw.nd rfl (Or.inl rfl) (.inr rfl)) pgs_nil)))
                (fun _ _ _ _ _ => pts_one (pt_cmpR (op_notInDK (K := K) rfl (hu65 hr)) (pv 10) (pe_slice (sl_listK (K := K) rfl) (pv 3) po_none (po_some (pv 11))) (by with_unfolding_all rfl)))
                (fun _ _ _ _ _ => pv 10)))
        (pss_cons (ps_asg (pe_tup (pa_cons (pe_op op_sub (pe_call GT (hr.mono (by decide)) (by rfl) gT kT bT .nil pass0 (pa_cons (pv 2) (pa_cons (pe_op op_pow pe_int pe_int) pa_nil))) (pe_op op_pow pe_int pe_int))
              (pa_cons (pe_call GT (hr.mono (by decide)) (by rfl) gT kT bT .nil pass0 (pa_cons (pv 2) (pa_cons (pe_op op_pow pe_int pe_int) pa_nil)))
              (pa_cons (pe_op op_add pe_int (pe_call GT (hr.mono (by decide)) (by rfl) gT kT bT .nil pass0 (pa_cons (pv 2) (pa_cons (pe_op op_pow pe_int pe_int) pa_nil)))) pa_nil))))
            (pg_tup rfl (pgs_cons (pg_name (i := 5) scLaw.nd rfl (.inr rfl)) (pgs_cons (pg_name (i := 6) scLaw.nd rfl (.inr rfl)) (pgs_cons (pg_name (i := 7) scLaw.nd rfl (.inr rfl)) pgs_nil)))))
        (pss_cons (ps_set (i := 8) scLaw.nd rfl (.inr rfl) (pe_lc (own := [("_law_x", 16), ("_law_y", 17)]) (g := gTup K 2 (gCons (gName 16) (gCons (gName 17) gNil))) (tt := tYes) rfl scLaw.nd (pi_list (pv 3)) (blkOk_by (N := NK) (sc := defScope s_law) (by decide +kernel))
                (fun _ _ _ _ _ => pg_tup rfl (pgs_cons (pg_name (i := 16) scLaw.nd rfl (Or.inl rfl) (.inr rfl)) (pgs_cons (pg_name (i := 17) scLaw.nd rfl (Or.inl rfl) (.inr rfl)) pgs_nil))) (fun _ _ _ _ _ => pts_nil)
                (fun _ _ _ _ _ => pe_tup (pa_cons (pe_op op_add (pv 5) (pe_op op_mul (pv 7) (pv 16))) (pa_cons (pe_op op_add (pv 6) (pe_op op_mul (pv 7) (pv 17))) pa_nil)))))
        (pss_cons (ps_for PassesOwn.never rfl (pi_enumA (by rfl) C.enum (pa_cons (pv 3) pa_nil)) (pg_tup rfl (pgs_cons (pg_name (i := 9) scLaw.nd rfl (.inl rfl)) (pgs_cons (pg_name (i := 10) scLaw.nd rfl (.inr rfl)) pgs_nil)))
          (pss_one (ps_for PassesOwn.never rfl (pi_enumA (by rfl) C.enum (pa_cons (pv 3) pa_nil)) (pg_tup rfl (pgs_cons (pg_name (i := 11) scLaw.nd rfl (.inl rfl)) (pgs_cons (pg_name (i := 12) scLaw.nd rfl (.inr rfl)) pgs_nil)))
            (pss_cons (ps_if (pt_cmpR op_eq (pv 9) (pv 11) (nomark _)) (pss_one ps_continue) pss_nil)
            (pss_cons (ps_set (i := 13) scLaw.nd rfl (.inl rfl) (pe_call GQ (hr.mono (by decide)) (by rfl) gQ kQ bQ .nil pass0 (pa_cons (pv 10) (pa_cons (pv 12) pa_nil))))
            (pss_cons (ps_if (PW.pt (pw_or (pt_cmpR op_ne (pe_call GQ (hr.mono (by decide)) (by rfl) gQ kQ bQ .nil pass0 (pa_cons (pv 12) (pa_cons (pv 10) pa_nil))) (pe_op op_sub pe_int (pv 13)) (nomark _))
                (pw_or1 (pt_cmpR op_ne (pe_call GQ (hr.mono (by decide)) (by rfl) gQ kQ bQ .nil pass0 (pa_cons (pe_ix ix_list (pv 8) (pv 9) (fun _ _ => rfl)) (pa_cons (pe_ix ix_list (pv 8) (pv 11) (fun _ _ => rfl)) pa_nil))) (pv 13) (nomark _))))) (pss_one (ps_ret pe_bl)) pss_nil)
            (pss_cons (ps_if (pt_cmpR op_ne (pe_call GQ (hr.mono (by decide)) (by rfl) gQ kQ bQ .nil pass0 (pa_cons (pe_revT (pv 10)) (pa_cons (pe_revT (pv 12)) pa_nil)))
                (pe_ix ix_list (pe_lst (pa_cons pe_int (pa_cons pe_int (pa_cons pe_int (pa_cons pe_int pa_nil))))) (pv 13) (fun _ _ => rfl)) (nomark _)) (pss_one (ps_ret pe_bl)) pss_nil)
            (pss_cons (ps_if (pt_cmpR op_ne (pe_call GQ (hr.mono (by decide)) (by rfl) gQ kQ bQ .nil pass0 (pa_cons (pe_tup (pa_cons (pe_un un_neg (pe_ix ix_tup (pv 10) pe_int (fun _ _ => rfl))) (pa_cons (pe_un un_neg (pe_ix ix_tup (pv 10) pe_int (fun _ _ => rfl))) pa_nil)))
                  (pa_cons (pe_tup (pa_cons (pe_un un_neg (pe_ix ix_tup (pv 12) pe_int (fun _ _ => rfl))) (pa_cons (pe_un un_neg (pe_ix ix_tup (pv 12) pe_int (fun _ _ => rfl))) pa_nil))) pa_nil))) (pe_op op_sub pe_int (pv 13)) (nomark _)) (pss_one (ps_ret pe_bl)) pss_nil)
            (pss_one (ps_if (pt_cmpR (op_neD (hu64 hr)) (pe_lc (own := [("_law_far", 18)]) (g := gName 18) rfl scLaw.nd (pi_list (pv 3)) (blkOk_by (N := NK) (sc := defScope s_law) (by decide +kernel)) (fun _ _ _ _ _ => pg_name (i := 18) scLaw.nd rfl (Or.inl rfl))
                (fun _ _ _ _ _ => pts_one (PW.pt (pw_and (pt_cmpR (op_notInTK (K := K) rfl (hu66 hr)) (pv 18) (pe_tup (pa_cons (pv 10) (pa_cons (pv 12) pa_nil))) (by with_unfolding_all rfl)) (pw_and1 (pt_not (pt_val (pe_call GH hr (by rfl) gH kH bH .nil pass0 (pa_cons (pv 10) (pa_cons (pv 12) (pa_cons (pv 18) pa_nil))))))))))
                (fun _ _ _ _ _ => pe_int)) (pe_lst pa_nil) (nomark _)) (pss_one (ps_ret pe_bl)) pss_nil))))))))))
        (pss_one (ps_for PassesOwn.never rfl (pi_range1 (by rfl) Bm.range (pa_cons pe_int pa_nil)) (pg_name (i := 14) scLaw.nd rfl (.inl rfl))
          (pss_cons (ps_set (i := 15) scLaw.nd rfl (.inl rfl) (pe_call GO (hr.mono (by decide)) (by rfl) gO kO bO .nil pass0 (pa_cons (pv 3) (pa_cons (pv 14) pa_nil))))
          (pss_cons (ps_if (pt_cmpR (op_neD (hu64 hr)) (pe_call GO (hr.mono (by decide)) (by rfl) gO kO bO .nil pass0 (pa_cons (pv 8) (pa_cons (pv 14) pa_nil)))
              (pe_lc (own := [("_law_spot", 10)]) (g := gName 10) (tt := tYes) (te := tOp (rIxL K) (tVar 8) (tBM K "list" (rIndexD K) (tVar 3) (tCons (tVar 10) tNil))) rfl scLaw.nd (pi_list (pv 15)) (blkOk_by (N := NK) (sc := defScope s_law) (by decide +kernel)) (fun _ _ _ _ _ => pg_name (i := 10) scLaw.nd rfl (Or.inl rfl)) (fun _ _ _ _ _ => pts_nil)
                (fun _ _ _ _ _ => pe_ix ix_list (pv 8) (pe_bm PySem.F.plainAttrs_list PySem.F.slot_list_index PySem.F.type_list_index (mt_indexD (hu65 hr)) (pv 3) (pa_cons (pv 10) pa_nil)) (fun _ _ => rfl))) (nomark _)) (pss_one (ps_ret pe_bl)) pss_nil)
          (pss_cons (ps_if (pt_cmpR (op_neD (hu64 hr)) (pe_call GO (hr.mono (by decide)) (by rfl) gO kO bO .nil pass0 (pa_cons (pe_lc (own := [("_law_spot", 10)]) (g := gName 10) (tt := tYes) (te := tRevT K (tVar 10)) rfl scLaw.nd (pi_list (pv 3)) (blkOk_by (N := NK) (sc := defScope s_law) (by decide +kernel)) (fun _ _ _ _ _ => pg_name (i := 10) scLaw.nd rfl (Or.inl rfl)) (fun _ _ _ _ _ => pts_nil)
                  (fun _ _ _ _ _ => pe_revT (pv 10))) (pa_cons (pe_op op_sub pe_int (pv 14)) pa_nil)))
              (pe_lc (own := [("_law_spot", 10)]) (g := gName 10) (tt := tYes) (te := tRevT K (tVar 10)) rfl scLaw.nd (pi_list (pv 15)) (blkOk_by (N := NK) (sc := defScope s_law) (by decide +kernel)) (fun _ _ _ _ _ => pg_name (i := 10) scLaw.nd rfl (Or.inl rfl)) (fun _ _ _ _ _ => pts_nil)
                (fun _ _ _ _ _ => pe_revT (pv 10))) (nomark _)) (pss_one (ps_ret pe_bl)) pss_nil)
          (pss_one (ps_if (pt_cmpR (op_neD (hu64 hr)) (pe_call GO (hr.mono (by decide)) (by rfl) gO kO bO .nil pass0 (pa_cons (pe_lc (own := [("_law_x", 16), ("_law_y", 17)]) (g := gTup K 2 (gCons (gName 16) (gCons (gName 17) gNil))) (tt := tYes) rfl scLaw.nd (pi_list (pv 3)) (blkOk_by (N := NK) (sc := defScope s_law) (by decide +kernel))
                  (fun _ _ _ _ _ => pg_tup rfl (pgs_cons (pg_name (i := 16) scLaw.nd rfl (Or.inl rfl) (.inr rfl)) (pgs_cons (pg_name (i := 17) scLaw.nd rfl (Or.inl rfl) (.inr rfl)) pgs_nil))) (fun _ _ _ _ _ => pts_nil)
                  (fun _ _ _ _ _ => pe_tup (pa_cons (pe_un un_neg (pv 16)) (pa_cons (pe_un un_neg (pv 17)) pa_nil)))) (pa_cons (pv 14) pa_nil)))
              (pe_lc (own := [("_law_x", 16), ("_law_y", 17)]) (g := gTup K 2 (gCons (gName 16) (gCons (gName 17) gNil))) (tt := tYes) rfl scLaw.nd (pi_list (pe_revL (pv 15))) (blkOk_by (N := NK) (sc := defScope s_law) (by decide +kernel))
                (fun _ _ _ _ _ => pg_tup rfl (pgs_cons (pg_name (i := 16) scLaw.nd rfl (Or.inl rfl) (.inr rfl)) (pgs_cons (pg_name (i := 17) scLaw.nd rfl (Or.inl rfl) (.inr rfl)) pgs_nil))) (fun _ _ _ _ _ => pts_nil)
                (fun _ _ _ _ _ => pe_tup (pa_cons (pe_un un_neg (pv 16)) (pa_cons (pe_un un_neg (pv 17)) pa_nil)))) (nomark _)) (pss_one (ps_ret pe_bl)) pss_nil))))))))))))))))
      (pss_one (ps_ret pe_bl)), ?_⟩
    -- (script + [0])[:5]
    refine ⟨_, rfl, (by show 1 ≤ sizeLine; decide), fun l0 n0 => ?_⟩
    refine ⟨a0, l0, _, _, rfl, rfl, (same_new n0).seq hS0, SqL.of upd_same, ?_, fun l1 n1 => ?_⟩
    · rw [List.length_map]
      exact small40 (by show ns.length + 1 ≤ 1000; omega)
    · refine ⟨5, rfl, l1, _, rfl, SqL.of upd_same, fun c nc => ?_⟩
      refine ⟨c, rfl, ⟨_, SqL.of upd_same⟩, for_list (xs := cutV (ns.map V.int ++ [V.int 0]) none (some 5)) (fun i σ H3 => ∃ y1 y2 y3 y4 y5 y6 y7 y8 y9 y10 y11 y12 y13 y14 y15 y16 y17 y18 : Option V, σ = [some (.ref a0), y1, y2, y3, y4, y5, y6, y7, y8, y9, y10, y11, y12, y13, y14, y15, y16, y17, y18] ∧ H3 c = some (.lst (cutV (ns.map V.int ++ [V.int 0]) none (some 5)))) ?_ ?_ ?_ ?_⟩
      · exact ⟨none, none, none, none, none, none, none, none, none, none, none, none, none, none, none, none, none, none, rfl, upd_same⟩
      · rintro i σ H3 hi ⟨_, _, _, _, _, _, _, _, _, _, _, _, _, _, _, _, _, _, rfl, h⟩
        exact SqL.of h
      · rintro i v σ H3 hv ⟨_, _, _, _, _, _, _, _, y9, y10, y11, y12, y13, y14, y15, y16, y17, y18, rfl, hC⟩
        obtain ⟨n, rfl⟩ := cells_int hv
        refine ⟨_, rfl, n, rfl, fun s H4 e4 ns4 hS4 => ?_⟩
        have hcs : c ≠ s := fun e => by
          rw [e] at hC
          rw [ns4] at hC
          cases hC
        refine ⟨_, rfl, s, 9, rfl, hS4, by decide, by decide, fun a1 ps H5 hS5 e5 na1 hP5 nd0 hl5 => ?_⟩
        have few : ps.length ≤ 40 := hP5.2.1
        have pl5 : PL H5 a1 Lo ps := ⟨hP5.1, hP5.2.2⟩
        have hC5 : H5 c = some (.lst (cutV (ns.map V.int ++ [V.int 0]) none (some 5))) := e5 _ _ (e4 _ _ hC) hcs
        have hrl : (refsOf ps).length = ps.length := List.length_map ..
        -- less
        refine ⟨(by show 1 ≤ sizeLine; decide), fun l6 n6 => ?_⟩
        have s6 : Same H5 (upd H5 l6 (.lst [.int 0])) := same_new n6
        have pl6 := pl5.same s6
        have h6 : (upd H5 l6 (.lst [.int 0])) l6 = some (.lst [.int 0]) := upd_same
        have hC6 := s6 _ _ hC5
        have hS6 := hS5.same s6
        generalize upd H5 l6 (.lst [.int 0]) = H6 at s6 pl6 h6 hC6 hS6 ⊢
        refine ⟨_, rfl, a1, rfl, ⟨_, SqL.of pl6.l⟩, fun D nD => lc_it (walk_list (xs := refsOf ps)) (fun i H7 => Same H6 H7 ∧ H7 D = some (.lst ((ps.take i).map fun q => V.int (absI q.2.1 + absI q.2.2)))) ⟨same_new nD, upd_same⟩ (fun i H7 _ h7 => SqL.of (h7.1 _ _ pl6.l)) ?_ ?_⟩
        · rintro i v H8 H7 hi ⟨e7, hD7⟩ ⟨rfl, hv7⟩
          obtain ⟨q0, hq0, rfl, hp0⟩ := (pl6.same e7).at hv7
          have hi2 : i < ps.length := (List.getElem?_eq_some_iff.mp hq0).1
          refine ⟨q0.1, _, rfl, SqT.of hp0.1, rfl, _, _, rfl, _, _, rfl, rfl, rfl, ?_⟩
          refine ⟨_, rfl, _, rfl, _, rfl, _, rfl, _, _, rfl, rfl, _, hD7, ?_, same_app e7 nD, ?_⟩
          · rw [List.length_map, List.length_take]
            exact small1000 (by omega)
          · obtain ⟨hi3, rfl⟩ := List.getElem?_eq_some_iff.mp hq0
            rw [upd_same, List.take_succ_eq_append_getElem hi3, List.map_append]
            rfl
        · rintro H7 ⟨e7, hD7⟩
          rw [hrl, List.take_length] at hD7
          refine ⟨l6, D, _, _, rfl, rfl, SqL.of (e7 _ _ h6), SqL.of hD7, ?_, fun l8 n8 => ?_⟩
          · rw [List.length_map]
            exact small40 (by show 1 + ps.length ≤ 1000; omega)
          have s8 : Same H7 (upd H7 l8 (.lst ([V.int 0] ++ ps.map fun q => V.int (absI q.2.1 + absI q.2.2)))) := same_new n8
          have e68 := e7.trans s8
          have h8 : (upd H7 l8 (.lst ([V.int 0] ++ ps.map fun q => V.int (absI q.2.1 + absI q.2.2)))) l8 = some (.lst ((0 :: ps.map fun q => absI q.2.1 + absI q.2.2).map V.int)) := by
            rw [upd_same, List.map_cons, List.map_map]
            rfl
          generalize upd H7 l8 (.lst ([V.int 0] ++ ps.map fun q => V.int (absI q.2.1 + absI q.2.2))) = H8 at s8 e68 h8 ⊢
          refine ⟨l8, _, rfl, SqL.of h8, Nat.succ_pos _, fun m hm hle => ?_⟩
          refine ⟨_, _, rfl, rfl, ⟨by decide, by decide, by decide⟩, _, _, rfl, rfl, _, rfl, ?_⟩
          refine tif_pow (G := GoodL ps) (i1 := (10 : Int) ^ (12 : Int).toNat) (i2 := 1) (fun d => ?_) (fun d => ⟨good_far hP5.2.2, fun Q' h => ⟨_, _, rfl, rfl, ⟨by decide, by decide, by decide⟩, h⟩⟩) fun L gl => ?_
          · have e17 : ((10 : Int) ^ (17 : Int).toNat) = 100000000000000000 := by decide
            rw [e17] at d
            have := of_decide_eq_false d
            exact good_near (m := m) (fun q hq => hle _ (List.mem_cons_of_mem _ (List.mem_map.mpr ⟨q, hq, rfl⟩))) (by omega)
          have pl8 := pl6.same e68
          have hC8 := e68 _ _ hC6
          have hS8 := hS6.same e68
          -- the places, made less
          refine ⟨_, rfl, a1, rfl, ⟨_, SqL.of pl8.l⟩, fun D9 nD9 => lc_it (walk_list (xs := refsOf ps)) (fun i H9 => MapSt H8 H9 D9 Sb (fun z => (z.1 / L, z.2 / L)) (vals ps) i) (map_start nD9) (fun i H9 _ h9 => SqL.of (h9.choose_spec.2.2.2.2 _ _ pl8.l)) ?_ ?_⟩
          · rintro i v H10 H9 hi h9 ⟨rfl, hv9⟩
            have e9 : Same H8 H9 := h9.choose_spec.2.2.2.2
            obtain ⟨q0, hq0, rfl, hp0⟩ := (pl8.same e9).at hv9
            refine ⟨q0.1, _, rfl, SqT.of hp0.1, rfl, _, _, rfl, _, _, rfl, rfl, rfl, ?_⟩
            refine ⟨_, rfl, _, rfl, _, _, rfl, rfl, cdiv_w gl.1 gl.2.1, _, rfl, _, rfl, _, _, rfl, rfl, cdiv_w gl.1 gl.2.1, (by show 2 ≤ sizeLine; decide), fun t2 nt2 => ?_⟩
            exact map_new nD9 h9 (vals_at hq0) (fun _ _ h => h) nt2 (gl.2.2 q0 (List.mem_of_getElem? hq0)) (by rw [hrl] at hi; omega)
          · intro H9 h9
            rw [hrl, ← vals_len ps] at h9
            obtain ⟨ps1, hl9, hv1, hp1, e89⟩ := map_end h9
            have pl9 : PL H9 D9 Sb ps1 := ⟨hl9, hp1⟩
            have hC9 := e89 _ _ hC8
            have hS9 := hS8.same e89
            have hlen1 : ps1.length = ps.length := by
              have := congrArg List.length hv1
              simpa [vals] using this
            -- the first ones
            have hrl1 : (refsOf ps1).length = ps1.length := List.length_map ..
            obtain ⟨J, eJ, wk⟩ := enum_of (K := K) (show SeqP H9 D9 ps1 from .inl pl9.l)
            refine ⟨_, rfl, D9, _, J, rfl, eJ, fun D10 nD10 => lc_it wk (fun i H10 => FstSt H9 H10 D10 ps1 i) (fst_start nD10) (fun i H10 _ h10 => by rw [h10.choose_spec.2.2.2.2 _ _ pl9.l, pl9.l]) ?_ ?_⟩
            · rintro i v H10 H11 hi h10 ⟨T, vi, ve, rfl, nT, rfl, hvi, hve⟩
              cases hvi
              have e9 : Same H9 H10 := h10.choose_spec.2.2.2.2
              obtain ⟨q0, hq0, rfl, hp0⟩ := (pl9.same e9).at hve
              have hi2 : i < ps1.length := (List.getElem?_eq_some_iff.mp hq0).1
              have s11 : Same H10 (upd H10 T (.tup [.int (i : Nat), .ref q0.1])) := same_new nT
              have h11 : (upd H10 T (.tup [.int (i : Nat), .ref q0.1])) T = some (.tup [.int (i : Nat), .ref q0.1]) := upd_same
              generalize upd H10 T (.tup [.int (i : Nat), .ref q0.1]) = H11 at s11 h11 ⊢
              have pl11 := pl9.same (e9.trans s11)
              refine ⟨T, _, rfl, SqT.of h11, rfl, _, _, rfl, _, _, rfl, rfl, rfl, ?_⟩
              refine ⟨_, rfl, _, rfl, _, rfl, _, rfl, D9, _, rfl, SqL.of pl11.l, fun p np => ?_⟩
              rw [cut_to (by omega)]
              have s12 : Same H11 (upd H11 p (.lst ((refsOf ps1).take i))) := same_new np
              have h12 : (upd H11 p (.lst ((refsOf ps1).take i))) p = some (.lst (refsOf (ps1.take i))) := by
                rw [upd_same]
                simp only [refsOf, List.map_take]
              generalize upd H11 p (.lst ((refsOf ps1).take i)) = H12 at s12 h12 ⊢
              have pl12 := pl11.same s12
              refine ⟨ptD q0.2, (vals (ps1.take i)).map ptD, dp_pt (pl12.p q0 (List.mem_of_getElem? hq0)), .lst (SqL.of h12) (dp_pts fun q hq => pl12.p q (List.mem_of_mem_take hq)), ptD_shaped _, ptDs_shaped _, _, rfl, ?_⟩
              rw [any_pt]
              have e1012 := s11.trans s12
              by_cases hin : q0.2 ∈ vals (ps1.take i)
              · rw [decide_eq_true hin]
                exact iteF (fst_skip h10 e1012)
              · rw [decide_eq_false hin]
                exact iteT ⟨_, rfl, fst_put nD10 h10 hq0 e1012 hin (by omega)⟩
            · intro H10 h10
              obtain ⟨qs, hl10, nd, hsub, hlq, e910⟩ := h10
              rw [hrl1, List.take_length] at hsub
              rw [hrl1] at hlq
              have pl10 : PL H10 D10 Sb qs := ⟨hl10, fun q hq => (pl9.p q (hsub q hq)).same e910⟩
              have hC10 := e910 _ _ hC9
              have hS10 := hS9.same e910
              have fewq : qs.length ≤ 40 := by omega
              have hDs : D10 ≠ s := hS9.ne nD10
              -- the move
              refine ⟨_, rfl, _, _, rfl, rfl, ⟨by decide, by decide, by decide⟩, s, _, rfl, hS10, (by decide), (by decide), fun a H11 a0' a1' hS11 e11 => ?_⟩
              refine ⟨_, _, rfl, rfl, ⟨by decide, by decide, by decide⟩, _, _, rfl, rfl, ?_⟩
              refine ⟨_, rfl, _, _, rfl, rfl, ⟨by decide, by decide, by decide⟩, s, _, rfl, hS11, (by decide), (by decide), fun b H12 b0' b1' hS12 e12 => ?_⟩
              refine ⟨_, rfl, _, _, rfl, rfl, ⟨by decide, by decide, by decide⟩, s, _, rfl, hS12, (by decide), (by decide), fun k H13 k0' k1' hS13 e13 => ?_⟩
              have e1013 := (e11.trans e12).trans e13
              have pl13 := pl10.ex hS10 hDs e1013
              have hC13 := e1013 _ _ hC10 hcs
              refine ⟨_, _, rfl, rfl, (by show 3 ≤ sizeLine; decide), fun t3 nt3 => ?_⟩
              refine ⟨t3, _, rfl, SqT.of upd_same, rfl, _, _, rfl, _, _, rfl, _, _, rfl, rfl, ?_⟩
              have s14 : Same H13 (upd H13 t3 (.tup [.int (a - (10 : Int) ^ (8 : Int).toNat), .int b, .int (1 + k)])) := same_new nt3
              have e8' : ((10 : Int) ^ (8 : Int).toNat) = 100000000 := by decide
              have e9' : ((10 : Int) ^ (9 : Int).toNat) = 1000000000 := by decide
              have e6' : ((10 : Int) ^ (6 : Int).toNat) = 1000000 := by decide
              rw [e9'] at a1' b1'
              rw [e6'] at k1'
              have ha : -100000000 ≤ a - (10 : Int) ^ (8 : Int).toNat ∧ a - (10 : Int) ^ (8 : Int).toNat ≤ 1000000000 := by rw [e8']; omega
              have hb : -100000000 ≤ b ∧ b ≤ 1000000000 := by omega
              have hk : 0 < 1 + k ∧ 1 + k ≤ 1000000 := by omega
              generalize upd H13 t3 (.tup [.int (a - (10 : Int) ^ (8 : Int).toNat), .int b, .int (1 + k)]) = H14 at s14 ⊢
              have pl14 := pl13.same s14
              have hC14 := s14 _ _ hC13
              have hrq : (refsOf qs).length = qs.length := List.length_map ..
              -- the moved ones
              refine ⟨_, rfl, D10, rfl, ⟨_, SqL.of pl14.l⟩, fun D15 nD15 => lc_it (walk_list (xs := refsOf qs)) (fun i H15 => MapSt H14 H15 D15 Lo (mvG (a - (10 : Int) ^ (8 : Int).toNat) b (1 + k)) (vals qs) i) (map_start nD15) (fun i H15 _ h15 => SqL.of (h15.choose_spec.2.2.2.2 _ _ pl14.l)) ?_ ?_⟩
              · rintro i v H16 H15 hi h15 ⟨rfl, hv15⟩
                have e15 : Same H14 H15 := h15.choose_spec.2.2.2.2
                obtain ⟨q0, hq0, rfl, hp0⟩ := (pl14.same e15).at hv15
                have hkm : ∀ x : Int, CMul (1 + k) x := fun x => .inl ⟨by omega, by omega⟩
                refine ⟨q0.1, _, rfl, SqT.of hp0.1, rfl, _, _, rfl, _, _, rfl, rfl, rfl, ?_⟩
                refine ⟨_, rfl, _, rfl, _, rfl, _, _, rfl, rfl, hkm _, _, _, rfl, rfl, _, rfl, _, rfl, _, rfl, _, _, rfl, rfl, hkm _, _, _, rfl, rfl, (by show 2 ≤ sizeLine; decide), fun t2 nt2 => ?_⟩
                exact map_new nD15 h15 (vals_at hq0) (fun _ _ h => h) nt2 (gone_in ha hb hk hp0.2) (by rw [hrq] at hi; omega)
              · intro H15 h15
                rw [hrq, ← vals_len qs] at h15
                obtain ⟨gs, hl15, hvg, hpg, e1415⟩ := map_end h15
                have plq : PL H15 D10 Sb qs := pl14.same e1415
                have plg : PL H15 D15 Lo gs := ⟨hl15, hpg⟩
                have hC15 := e1415 _ _ hC14
                have hgl : gs.length = qs.length := by
                  have := congrArg List.length hvg
                  simpa [vals] using this
                have hg1 : ∀ ln z w, (ln = 0 ∨ ln = 1) → ltV ln z w = true → ltV ln (mvG (a - (10 : Int) ^ (8 : Int).toNat) b (1 + k) z) (mvG (a - (10 : Int) ^ (8 : Int).toNat) b (1 + k) w) = true := fun ln z w h => mvG_lt hk.1 h z w
                have ndg : (vals gs).Nodup := by
                  rw [hvg]
                  exact nodup_map (ln := 0) (ln' := 0) (fun z w => hg1 0 z w (.inl rfl)) nd
                -- the pairs
                obtain ⟨J, eJ, wk⟩ := enum_of (K := K) (show SeqP H15 D10 qs from .inl plq.l)
                refine ⟨_, rfl, D10, _, J, rfl, eJ, for_it wk (fun i σ H16 => ∃ z9 z10 z11 z12 z13 : Option V, σ = [some (.ref a0), some (.int n), some (.ref s), some (.ref D10), some (.int L), some (.int (a - (10 : Int) ^ (8 : Int).toNat)), some (.int b), some (.int (1 + k)), some (.ref D15), z9, z10, z11, z12, z13, y14, y15, y16, y17, y18] ∧ Same H15 H16) ?_ ?_ ?_ ?_⟩
                · exact ⟨_, _, _, _, _, rfl, fun _ _ h => h⟩
                · rintro i σ H16 _ ⟨_, _, _, _, _, rfl, e16⟩
                  rw [e16 _ _ plq.l, plq.l]
                · rintro i v σ H16 H17 hi ⟨z9, z10, z11, z12, z13, rfl, e16⟩ ⟨T, vi, ve, rfl, nT, rfl, hvi, hve⟩
                  cases hvi
                  obtain ⟨q0, hq0, rfl, _⟩ := (plq.same e16).at hve
                  have s17 : Same H16 (upd H16 T (.tup [.int (i : Nat), .ref q0.1])) := same_new nT
                  have h17 : (upd H16 T (.tup [.int (i : Nat), .ref q0.1])) T = some (.tup [.int (i : Nat), .ref q0.1]) := upd_same
                  generalize upd H16 T (.tup [.int (i : Nat), .ref q0.1]) = H17 at s17 h17 ⊢
                  have e17 := e16.trans s17
                  have pl17 := plq.same e17
                  refine ⟨T, _, rfl, SqT.of h17, rfl, _, _, rfl, _, _, rfl, rfl, ?_⟩
                  obtain ⟨J2, eJ2, wk2⟩ := enum_of (K := K) (show SeqP H17 D10 qs from .inl pl17.l)
                  refine ⟨_, rfl, D10, _, J2, rfl, eJ2, for_it wk2 (fun j σ H18 => ∃ z11 z12 z13 : Option V, σ = [some (.ref a0), some (.int n), some (.ref s), some (.ref D10), some (.int L), some (.int (a - (10 : Int) ^ (8 : Int).toNat)), some (.int b), some (.int (1 + k)), some (.ref D15), some (.int (i : Nat)), some (.ref q0.1), z11, z12, z13, y14, y15, y16, y17, y18] ∧ Same H15 H18) ?_ ?_ ?_ ?_⟩
                  · exact ⟨_, _, _, rfl, e17⟩
                  · rintro j σ H18 _ ⟨_, _, _, rfl, e18⟩
                    rw [e18 _ _ plq.l, pl17.l]
                  · rintro j v σ H18 H19 hj ⟨w11, w12, w13, rfl, e18⟩ ⟨T2, vi2, ve2, rfl, nT2, rfl, hvi2, hve2⟩
                    cases hvi2
                    obtain ⟨q1, hq1, rfl, _⟩ := (plq.same e18).at hve2
                    have s19 : Same H18 (upd H18 T2 (.tup [.int (j : Nat), .ref q1.1])) := same_new nT2
                    have h19 : (upd H18 T2 (.tup [.int (j : Nat), .ref q1.1])) T2 = some (.tup [.int (j : Nat), .ref q1.1]) := upd_same
                    generalize upd H18 T2 (.tup [.int (j : Nat), .ref q1.1]) = H19 at s19 h19 ⊢
                    have e19 := e18.trans s19
                    refine ⟨T2, _, rfl, SqT.of h19, rfl, _, _, rfl, _, _, rfl, rfl, ?_⟩
                    refine ⟨_, rfl, _, rfl, rfl, _, rfl, ?_⟩
                    rw [dec_int]
                    refine ite2 (fun d => ?_) (fun d => ?_)
                    · exact ⟨_, _, _, rfl, e19⟩
                    · have hij : i ≠ j := fun e => d (by rw [e]; exact beq_self_eq_true _)
                      have hz : q0.2 ≠ q1.2 := nd_ne nd hq0 hq1 hij
                      have hgz := mv_ne (g := (mvG (a - (10 : Int) ^ (8 : Int).toNat) b (1 + k))) (fun z w => hg1 0 z w (.inl rfl)) hz
                      have m0 := List.mem_of_getElem? hq0
                      have m1 := List.mem_of_getElem? hq1
                      have p0 : ∀ {H : Hp}, Same H15 H → PtIn H q0.1 q0.2.1 q0.2.2 := fun e => ((plq.same e).p q0 m0).mono (by decide)
                      have p1 : ∀ {H : Hp}, Same H15 H → PtIn H q1.1 q1.2.1 q1.2.2 := fun e => ((plq.same e).p q1 m1).mono (by decide)
                      have b0 := (plq.p q0 m0).2
                      have b1 := (plq.p q1 m1).2
                      obtain ⟨t0, ht0⟩ := at_vals hvg hq0
                      obtain ⟨t1, ht1⟩ := at_vals hvg hq1
                      -- part
                      refine ⟨_, rfl, _, rfl, q0.1, q1.1, q0.2.1, q0.2.2, q1.2.1, q1.2.2, rfl, p0 e19, p1 e19, fun H20 f20 => ?_⟩
                      have e20 := e19.trans f20
                      rw [part_due, if_neg hz]
                      have dr := due_rng q0.2.1 q0.2.2 q1.2.1 q1.2.2
                      -- three less
                      refine ⟨_, rfl, _, rfl, q1.1, q0.1, q1.2.1, q1.2.2, q0.2.1, q0.2.2, rfl, p1 e20, p0 e20, fun H21 f21 => ?_⟩
                      have e21 := e20.trans f21
                      rw [part_due, if_neg (Ne.symm hz)]
                      refine ⟨_, rfl, _, _, rfl, rfl, rfl, _, rfl, ?_⟩
                      refine ite2 (fun d2 => absurd d2 (ne_bad (by rw [due_rev hz]; rfl))) (fun _ => ?_)
                      -- the moved ones
                      refine ⟨_, rfl, _, rfl, D15, _, (i : Nat), .ref t0, rfl, rfl, SqL.of (plg.same e21).l, atI_nat (j := i) (by rw [List.getElem?_map, ht0]; rfl), _, rfl, _, rfl, D15, _, (j : Nat), .ref t1, rfl, rfl, SqL.of (plg.same e21).l, atI_nat (j := j) (by rw [List.getElem?_map, ht1]; rfl), ?_⟩
                      refine ⟨t0, t1, ((mvG (a - (10 : Int) ^ (8 : Int).toNat) b (1 + k)) q0.2).1, ((mvG (a - (10 : Int) ^ (8 : Int).toNat) b (1 + k)) q0.2).2, ((mvG (a - (10 : Int) ^ (8 : Int).toNat) b (1 + k)) q1.2).1, ((mvG (a - (10 : Int) ^ (8 : Int).toNat) b (1 + k)) q1.2).2, rfl, (plg.same e21).p _ (List.mem_of_getElem? ht0), (plg.same e21).p _ (List.mem_of_getElem? ht1), fun H22 f22 => ?_⟩
                      have e22 := e21.trans f22
                      rw [part_due, if_neg hgz]
                      refine ⟨_, rfl, rfl, _, rfl, ?_⟩
                      refine ite2 (fun d2 => absurd d2 (ne_bad (by rw [due_mv hg1 hz]))) (fun _ => ?_)
                      -- exchanged
                      refine ⟨_, rfl, q0.1, _, _, rfl, SqT.of (p0 e22).1, fun r1 nr1 => ?_⟩
                      have s23 : Same H22 (upd H22 r1 (.tup [.int q0.2.2, .int q0.2.1])) := same_new nr1
                      refine ⟨_, rfl, q1.1, _, _, rfl, SqT.of (p1 (e22.trans s23)).1, fun r2 nr2 => ?_⟩
                      have s24 : Same (upd H22 r1 (.tup [.int q0.2.2, .int q0.2.1])) (upd (upd H22 r1 (.tup [.int q0.2.2, .int q0.2.1])) r2 (.tup [.int q1.2.2, .int q1.2.1])) := same_new nr2
                      have k1 : PtIn (upd (upd H22 r1 (.tup [.int q0.2.2, .int q0.2.1])) r2 (.tup [.int q1.2.2, .int q1.2.1])) r1 q0.2.2 q0.2.1 := ⟨s24 _ _ upd_same, swap_in b0⟩
                      have k2 : PtIn (upd (upd H22 r1 (.tup [.int q0.2.2, .int q0.2.1])) r2 (.tup [.int q1.2.2, .int q1.2.1])) r2 q1.2.2 q1.2.1 := ⟨upd_same, swap_in b1⟩
                      refine ⟨r1, r2, q0.2.2, q0.2.1, q1.2.2, q1.2.1, rfl, k1, k2, fun H25 f25 => ?_⟩
                      have e25 := ((e22.trans s23).trans s24).trans f25
                      have hsz : ¬ (q0.2.2, q0.2.1) = (q1.2.2, q1.2.1) := fun e => hz (by injection e with x y; exact Prod.ext y x)
                      rw [part_due, if_neg hsz]
                      obtain ⟨jj, hjj, hat⟩ := swD_at dr
                      refine ⟨(by show 4 ≤ sizeLine; decide), fun l26 n26 => ?_⟩
                      have s26 : Same H25 (upd H25 l26 (.lst [.int 0, .int 2, .int 1, .int 3])) := same_new n26
                      have e26 := e25.trans s26
                      refine ⟨_, rfl, l26, _, _, .int (swD (dueV q0.2.1 q0.2.2 q1.2.1 q1.2.2)), rfl, rfl, SqL.of upd_same, at_of (j := jj) hjj hat, rfl, _, rfl, ?_⟩
                      refine ite2 (fun d2 => absurd d2 (ne_bad (by rw [show dueV q0.2.2 q0.2.1 q1.2.2 q1.2.1 = _ from due_swap q0.2 q1.2]; rfl))) (fun _ => ?_)
                      -- turned about
                      refine ⟨_, rfl, q0.1, _, 0, .int q0.2.1, rfl, rfl, SqT.of (p0 e26).1, atI_nat (j := 0) rfl, _, rfl, _, rfl, q0.1, _, 1, .int q0.2.2, rfl, rfl, SqT.of (p0 e26).1, atI_nat (j := 1) rfl, _, rfl, (by show 2 ≤ sizeLine; decide), fun r3 nr3 => ?_⟩
                      have s27 := same_new (o := .tup [.int (-q0.2.1), .int (-q0.2.2)]) nr3
                      have e27 := e26.trans s27
                      refine ⟨_, rfl, q1.1, _, 0, .int q1.2.1, rfl, rfl, SqT.of (p1 e27).1, atI_nat (j := 0) rfl, _, rfl, _, rfl, q1.1, _, 1, .int q1.2.2, rfl, rfl, SqT.of (p1 e27).1, atI_nat (j := 1) rfl, _, rfl, (by show 2 ≤ sizeLine; decide), fun r4 nr4 => ?_⟩
                      have s28 := same_new (o := .tup [.int (-q1.2.1), .int (-q1.2.2)]) nr4
                      have e28 := e27.trans s28
                      refine ⟨r3, r4, -q0.2.1, -q0.2.2, -q1.2.1, -q1.2.2, rfl, ⟨s28 _ _ upd_same, neg_in b0⟩, ⟨upd_same, neg_in b1⟩, fun H29 f29 => ?_⟩
                      have e29 := e28.trans f29
                      have hnz : ¬ (-q0.2.1, -q0.2.2) = (-q1.2.1, -q1.2.2) := fun e => hz (by injection e with x y; exact Prod.ext (by omega) (by omega))
                      rw [part_due, if_neg hnz]
                      refine ⟨_, rfl, _, _, rfl, rfl, rfl, _, rfl, ?_⟩
                      refine ite2 (fun d2 => absurd d2 (ne_bad (by rw [show dueV (-q0.2.1) (-q0.2.2) (-q1.2.1) (-q1.2.2) = _ from due_neg hz]; rfl))) (fun _ => ?_)
                      -- the third ones
                      refine ⟨_, rfl, D10, rfl, ⟨_, SqL.of (plq.same e29).l⟩, fun D30 nD30 => lc_it (walk_list (xs := refsOf qs)) (fun i H30 => Same H29 H30 ∧ H30 D30 = some (.lst [])) ⟨same_new nD30, upd_same⟩ (fun i H30 _ h30 => SqL.of (h30.1 _ _ (plq.same e29).l)) ?_ ?_⟩
                      · rintro m v H31 H30 hm ⟨f30, hD30⟩ ⟨rfl, hv30⟩
                        have e30 := e29.trans f30
                        obtain ⟨q2, hq2, rfl, _⟩ := (plq.same e30).at hv30
                        have m2 := List.mem_of_getElem? hq2
                        have p2 : ∀ {H : Hp}, Same H15 H → PtIn H q2.1 q2.2.1 q2.2.2 := fun e => ((plq.same e).p q2 m2).mono (by decide)
                        refine ⟨rfl, ?_⟩
                        refine ⟨_, rfl, _, rfl, _, rfl, (by show 2 ≤ sizeLine; decide), fun tt ntt => ?_⟩
                        have s31 : Same H30 (upd H30 tt (.tup [.ref q0.1, .ref q1.1])) := same_new ntt
                        have e31 := e30.trans s31
                        have hD31 := s31 _ _ hD30
                        refine ⟨ptD q2.2, [ptD q0.2, ptD q1.2], dp_pt ((plq.same e31).p q2 m2), .tup (SqT.of upd_same) (.cons (dp_pt ((plq.same e31).p q0 m0)) (.cons (dp_pt ((plq.same e31).p q1 m1)) .nil)), ptD_shaped _, (by rfl), _, rfl, ?_⟩
                        rw [show ([ptD q0.2, ptD q1.2].any fun z => PyData.eqv z (ptD q2.2)) = decide (q2.2 ∈ [q0.2, q1.2]) from any_pt [q0.2, q1.2] q2.2]
                        by_cases hin : q2.2 ∈ [q0.2, q1.2]
                        · rw [decide_eq_true hin]
                          exact iteF (iteF ⟨f30.trans s31, hD31⟩)
                        · rw [decide_eq_false hin]
                          refine iteT ?_
                          refine ⟨_, rfl, _, rfl, _, rfl, q0.1, q1.1, q2.1, q0.2.1, q0.2.2, q1.2.1, q1.2.2, q2.2.1, q2.2.2, rfl, p0 e31, p1 e31, p2 e31, hz, fun e => hin (by rw [show q2.2 = q1.2 from e.symm]; simp), fun e => hin (by rw [show q2.2 = q0.2 from e.symm]; simp), fun H32 f32 => ⟨_, rfl, ?_⟩⟩
                          exact iteF ⟨(f30.trans s31).trans f32, f32 _ _ hD31⟩
                      · rintro H30 ⟨f30, hD30⟩
                        refine ⟨Nat.zero_le _, fun l nl => ?_⟩
                        have s33 : Same H30 (upd H30 l (.lst [])) := same_new nl
                        refine ⟨_, _, .lst (SqL.of (s33 _ _ hD30)) .nil, .lst (SqL.of upd_same) .nil, (by rfl), (by rfl), _, rfl, ?_⟩
                        rw [show PyData.eqv (.list []) (.list []) = true by simp [PyData.eqv, PyData.eqvAll]]
                        refine iteF ?_
                        exact ⟨_, _, _, rfl, (e29.trans f30).trans s33⟩
                  · rintro σ H18 ⟨_, _, _, rfl, e18⟩
                    exact ⟨_, _, _, _, _, rfl, e18⟩
                · rintro σ H16 ⟨z9, z10, z11, z12, z13, rfl, e16⟩
                  refine ⟨2, rfl, (by decide), (by decide), for_range (n := 2) (fun i σ H17 => ∃ z14 z15 : Option V, σ = [some (.ref a0), some (.int n), some (.ref s), some (.ref D10), some (.int L), some (.int (a - (10 : Int) ^ (8 : Int).toNat)), some (.int b), some (.int (1 + k)), some (.ref D15), z9, z10, z11, z12, z13, z14, z15, y16, y17, y18] ∧ Same H15 H17) ?_ ?_ ?_⟩
                  · exact ⟨_, _, rfl, e16⟩
                  · rintro kk σ H17 hk2 ⟨z14, z15, rfl, e17⟩
                    have hln : ((0 : Int) + (kk : Nat) = 0) ∨ ((0 : Int) + (kk : Nat) = 1) := by omega
                    generalize (0 : Int) + (kk : Nat) = ln at hln ⊢
                    have hax : 0 ≤ ln ∧ ln ≤ 1 := by omega
                    have hln1 : 1 - ln = 0 ∨ 1 - ln = 1 := by omega
                    have hax1 : 0 ≤ 1 - ln ∧ 1 - ln ≤ 1 := by omega
                    have al : ∀ {H : Hp}, PL H D10 Sb qs → AllP H qs := fun h q hq => (h.p q hq).mono (by decide)
                    have pq17 := plq.same e17
                    refine ⟨_, rfl, _, rfl, D10, qs, ln, rfl, hax, .inl pq17.l, al pq17, nd, fewq, fun H18 row e18 nrow hrow => ?_⟩
                    have pr := sort_perm hln nd
                    have pq18 := pq17.same e18
                    have pg18 := (plg.same e17).same e18
                    have hrr : (refsOf (sortM ln qs)).length = (sortM ln qs).length := List.length_map ..
                    have hrl2 : (sortM ln qs).length = qs.length := pr.length_eq
                    have prow18 : PL H18 row Sb (sortM ln qs) := ⟨hrow, fun q hq => pq18.p q (pr.mem_iff.mp hq)⟩
                    have all_of : ∀ {H : Hp} {a : Addr} {l : Int} {rs : Pts}, (l = 0 ∨ l = 1) → (vals rs).Nodup → (∀ q ∈ rs, PtAt H Lo q) → ∀ q ∈ sortM l rs, PtAt H Lo q := fun hl hnd hp q hq => hp q ((sort_perm hl hnd).mem_iff.mp hq)
                    -- the moved ones
                    refine ⟨_, rfl, _, rfl, D15, gs, ln, rfl, hax, .inl pg18.l, pg18.p, ndg, (by omega), fun H19 p1 e19 np1 hp1 => ?_⟩
                    have pq19 := pq18.same e19
                    have pg19 := pg18.same e19
                    have prow19 := prow18.same e19
                    refine ⟨_, rfl, row, rfl, ⟨_, SqL.of prow19.l⟩, fun D nD => lc_it (walk_list (xs := refsOf (sortM ln qs))) (fun i H20 => MapSt H19 H20 D Lo (mvG (a - (10 : Int) ^ (8 : Int).toNat) b (1 + k)) (vals (sortM ln qs)) i) (map_start nD) (fun i H20 _ h20 => SqL.of (h20.choose_spec.2.2.2.2 _ _ prow19.l)) ?_ ?_⟩
                    · rintro i v H21 H20 hi h20 ⟨rfl, hv⟩
                      have e20 : Same H19 H20 := h20.choose_spec.2.2.2.2
                      have hD20 := h20.choose_spec.1
                      obtain ⟨q0, hq0, rfl, hp0⟩ := (prow19.same e20).at hv
                      have hm : q0 ∈ qs := pr.mem_iff.mp (List.mem_of_getElem? hq0)
                      obtain ⟨j, hj, hqj'⟩ := List.mem_iff_getElem.mp hm
                      have hqj : qs[j]? = some q0 := by rw [List.getElem?_eq_getElem hj, hqj']
                      obtain ⟨t, ht⟩ := at_vals hvg hqj
                      have pq20 := pq19.same e20
                      have pg20 := pg19.same e20
                      have hpt := pg20.p _ (List.mem_of_getElem? ht)
                      refine ⟨rfl, ?_⟩
                      refine ⟨_, rfl, _, rfl, .inl ⟨rfl, _, .inl (.inl pq20.l)⟩, _, rfl, D10, .ref q0.1, ptD q0.2, (vals qs).map ptD, j, ptD q0.2, rfl, rfl, .lst (SqL.of pq20.l) (dp_pts pq20.p), dp_pt (pq20.p q0 hm), ptDs_shaped _, ptD_shaped _, ?_, ?_, index_first nd hqj, ?_⟩
                      · rw [List.getElem?_map, vals_at hqj]
                        rfl
                      · rw [ptD_eqv, decide_eq_true rfl]
                      refine ⟨D15, _, (j : Nat), .ref t, rfl, rfl, SqL.of pg20.l, atI_nat (j := j) (by rw [List.getElem?_map, ht]; rfl), ?_⟩
                      exact map_put nD h20 (vals_at hq0) (fun _ _ h => h) hpt (ne_of hpt.1 hD20 (by intro z; cases z)) (by rw [hrr] at hi; omega)
                    · intro H20 h20
                      rw [hrr, ← vals_len (sortM ln qs)] at h20
                      obtain ⟨ms, hl20, hvm, hpm, e1920⟩ := map_end h20
                      refine ⟨_, _, .lst (SqL.of (e1920 _ _ hp1)) (dp_pts (all_of (a := 0) hln ndg (pg19.same e1920).p)), .lst (SqL.of hl20) (dp_pts hpm), ptDs_shaped _, ptDs_shaped _, _, rfl, ?_⟩
                      rw [eqv_vals (show vals (sortM ln gs) = vals ms by rw [hvm]; exact sort_map hln hln (fun z w => hg1 ln z w hln) nd hvg)]
                      refine iteF ?_
                      have pq20 := pq19.same e1920
                      have prow20 := prow19.same e1920
                      have e1520 := ((e17.trans e18).trans e19).trans e1920
                      -- exchanged
                      refine ⟨_, rfl, D10, rfl, ⟨_, SqL.of pq20.l⟩, fun D2 nD2 => lc_it (walk_list (xs := refsOf qs)) (fun i H21 => MapSt H20 H21 D2 Lo mvS (vals qs) i) (map_start nD2) (fun i H21 _ h21 => SqL.of (h21.choose_spec.2.2.2.2 _ _ pq20.l)) ?_ ?_⟩
                      · rintro i v H22 H21 hi h21 ⟨rfl, hv⟩
                        have e21 : Same H20 H21 := h21.choose_spec.2.2.2.2
                        obtain ⟨q0, hq0, rfl, hp0⟩ := (pq20.same e21).at hv
                        refine ⟨rfl, ?_⟩
                        refine ⟨_, rfl, q0.1, _, _, rfl, SqT.of hp0.1, fun t2 nt2 => ?_⟩
                        exact map_new nD2 h21 (vals_at hq0) (fun _ _ h => h) nt2 (swap_in hp0.2) (by rw [hrq] at hi; omega)
                      · intro H21 h21
                        rw [hrq, ← vals_len qs] at h21
                        obtain ⟨m2, hl21, hv2, hpm2, e2021⟩ := map_end h21
                        have nd2 : (vals m2).Nodup := by
                          rw [hv2]
                          exact nodup_map (ln := 0) (ln' := 1 - 0) (fun z w => mvS_lt (.inl rfl) z w) nd
                        have hl2 : m2.length = qs.length := by
                          have := congrArg List.length hv2
                          simpa [vals] using this
                        refine ⟨_, rfl, _, _, rfl, rfl, D2, m2, 1 - ln, rfl, hax1, .inl hl21, hpm2, nd2, (by omega), fun H22 p2 e22 np2 hp2 => ?_⟩
                        have e2022 := e2021.trans e22
                        have prow22 := prow20.same e2022
                        refine ⟨_, rfl, row, rfl, ⟨_, SqL.of prow22.l⟩, fun D3 nD3 => lc_it (walk_list (xs := refsOf (sortM ln qs))) (fun i H23 => MapSt H22 H23 D3 Lo mvS (vals (sortM ln qs)) i) (map_start nD3) (fun i H23 _ h23 => SqL.of (h23.choose_spec.2.2.2.2 _ _ prow22.l)) ?_ ?_⟩
                        · rintro i v H24 H23 hi h23 ⟨rfl, hv⟩
                          have e23 : Same H22 H23 := h23.choose_spec.2.2.2.2
                          obtain ⟨q0, hq0, rfl, hp0⟩ := (prow22.same e23).at hv
                          refine ⟨rfl, ?_⟩
                          refine ⟨_, rfl, q0.1, _, _, rfl, SqT.of hp0.1, fun t2 nt2 => ?_⟩
                          exact map_new nD3 h23 (vals_at hq0) (fun _ _ h => h) nt2 (swap_in hp0.2) (by rw [hrr] at hi; omega)
                        · intro H23 h23
                          rw [hrr, ← vals_len (sortM ln qs)] at h23
                          obtain ⟨m3, hl23, hv3, hpm3, e2223⟩ := map_end h23
                          refine ⟨_, _, .lst (SqL.of (e2223 _ _ hp2)) (dp_pts (all_of (a := 0) hln1 nd2 (fun q hq => (hpm2 q hq).same (e22.trans e2223)))), .lst (SqL.of hl23) (dp_pts hpm3), ptDs_shaped _, ptDs_shaped _, _, rfl, ?_⟩
                          rw [eqv_vals (show vals (sortM (1 - ln) m2) = vals m3 by rw [hv3]; exact sort_map hln hln1 (fun z w => mvS_lt hln z w) nd hv2)]
                          refine iteF ?_
                          have e2023 := e2022.trans e2223
                          have pq23 := pq20.same e2023
                          have prow23 := prow20.same e2023
                          -- turned about
                          refine ⟨_, rfl, D10, rfl, ⟨_, SqL.of pq23.l⟩, fun D4 nD4 => lc_it (walk_list (xs := refsOf qs)) (fun i H24 => MapSt H23 H24 D4 Lo mvN (vals qs) i) (map_start nD4) (fun i H24 _ h24 => SqL.of (h24.choose_spec.2.2.2.2 _ _ pq23.l)) ?_ ?_⟩
                          · rintro i v H25 H24 hi h24 ⟨rfl, hv⟩
                            have e24 : Same H23 H24 := h24.choose_spec.2.2.2.2
                            obtain ⟨q0, hq0, rfl, hp0⟩ := (pq23.same e24).at hv
                            refine ⟨q0.1, _, rfl, SqT.of hp0.1, rfl, _, _, rfl, _, _, rfl, rfl, rfl, ?_⟩
                            refine ⟨_, rfl, _, rfl, _, rfl, _, rfl, (by show 2 ≤ sizeLine; decide), fun t2 nt2 => ?_⟩
                            exact map_new nD4 h24 (vals_at hq0) (fun _ _ h => h) nt2 (neg_in hp0.2) (by rw [hrq] at hi; omega)
                          · intro H24 h24
                            rw [hrq, ← vals_len qs] at h24
                            obtain ⟨m4, hl24, hv4, hpm4, e2324⟩ := map_end h24
                            have nd4 : (vals m4).Nodup := by
                              rw [hv4]
                              exact nodup_map_rev (ln := 0) (ln' := 0) (fun z w => mvN_lt (.inl rfl) z w) nd
                            have hl4 : m4.length = qs.length := by
                              have := congrArg List.length hv4
                              simpa [vals] using this
                            refine ⟨_, rfl, D4, m4, ln, rfl, hax, .inl hl24, hpm4, nd4, (by omega), fun H25 p4 e25 np4 hp4 => ?_⟩
                            have prow25 := prow23.same (e2324.trans e25)
                            refine ⟨_, rfl, row, _, rfl, SqL.of prow25.l, fun rv nrv => ?_⟩
                            have s26 : Same H25 (upd H25 rv (.lst (refsOf (sortM ln qs)).reverse)) := same_new nrv
                            have h26 : (upd H25 rv (.lst (refsOf (sortM ln qs)).reverse)) rv = some (.lst (refsOf (sortM ln qs).reverse)) := by
                              rw [upd_same]
                              simp only [refsOf, List.map_reverse]
                            generalize upd H25 rv (.lst (refsOf (sortM ln qs)).reverse) = H26 at s26 h26 ⊢
                            have prv26 : PL H26 rv Sb (sortM ln qs).reverse := ⟨h26, fun q hq => (prow25.same s26).p q (List.mem_reverse.mp hq)⟩
                            have hrv : (refsOf (sortM ln qs).reverse).length = (sortM ln qs).reverse.length := List.length_map ..
                            have hrv2 : (sortM ln qs).reverse.length = qs.length := by rw [List.length_reverse, hrl2]
                            refine ⟨rv, rfl, ⟨_, SqL.of prv26.l⟩, fun D5 nD5 => lc_it (walk_list (xs := refsOf (sortM ln qs).reverse)) (fun i H27 => MapSt H26 H27 D5 Lo mvN (vals (sortM ln qs).reverse) i) (map_start nD5) (fun i H27 _ h27 => SqL.of (h27.choose_spec.2.2.2.2 _ _ prv26.l)) ?_ ?_⟩
                            · rintro i v H28 H27 hi h27 ⟨rfl, hv⟩
                              have e27 : Same H26 H27 := h27.choose_spec.2.2.2.2
                              obtain ⟨q0, hq0, rfl, hp0⟩ := (prv26.same e27).at hv
                              refine ⟨q0.1, _, rfl, SqT.of hp0.1, rfl, _, _, rfl, _, _, rfl, rfl, rfl, ?_⟩
                              refine ⟨_, rfl, _, rfl, _, rfl, _, rfl, (by show 2 ≤ sizeLine; decide), fun t2 nt2 => ?_⟩
                              exact map_new nD5 h27 (vals_at hq0) (fun _ _ h => h) nt2 (neg_in hp0.2) (by rw [hrv] at hi; omega)
                            · intro H27 h27
                              rw [hrv, ← vals_len (sortM ln qs).reverse] at h27
                              obtain ⟨m5, hl27, hv5, hpm5, e2627⟩ := map_end h27
                              refine ⟨_, _, .lst (SqL.of (e2627 _ _ (s26 _ _ hp4))) (dp_pts (all_of (a := 0) hln nd4 (fun q hq => (hpm4 q hq).same ((e25.trans s26).trans e2627)))), .lst (SqL.of hl27) (dp_pts hpm5), ptDs_shaped _, ptDs_shaped _, _, rfl, ?_⟩
                              rw [eqv_vals (show vals (sortM ln m4) = vals m5 by rw [hv5, show vals (sortM ln qs).reverse = (vals (sortM ln qs)).reverse from List.map_reverse]; exact sort_map_rev hln hln (fun z w => mvN_lt hln z w) nd hv4)]
                              refine iteF ?_
                              exact ⟨_, _, rfl, e1520.trans (e2023.trans (((e2324.trans e25).trans s26).trans e2627))⟩
                  · rintro σ H17 ⟨_, _, rfl, e17⟩
                    exact ⟨_, _, _, _, _, _, _, _, _, _, _, _, _, _, _, _, _, _, rfl, e17 _ _ hC15⟩
      · rintro σ H3 ⟨_, _, _, _, _, _, _, _, _, _, _, _, _, _, _, _, _, _, rfl, _⟩
        exact q H3
end
end Q2

namespace Q2
open PySem PySem.Spec PyProof.Rows L2
theorem all_mk {l : PySem.W.OpenLaw} {w : World} {K : PySem.W.Frag} {h : Heap} {mg : Str → Option Value} {fa f_is_integer f_is_coordinate f_is_point f_check_point f_check_points f_check_number f_y_key f_part_of f_quarter f_ordered f_law_mixed f_law_source f_law_take f_law_pick f_law_spots f_law_three f_law : Addr} (X : K.In h) (G : h.Ns mainGlobals mg) (hfa : mg "law" = some (.ref fa))
    {od_is_integer an_is_integer : Option Addr} {sl_is_integer : Array (Option Value)} {oc_is_integer kV_is_integer dc_is_integer pm_is_integer cd_is_integer ct_is_integer : Value}
    {od_is_coordinate an_is_coordinate : Option Addr} {sl_is_coordinate : Array (Option Value)} {oc_is_coordinate kV_is_coordinate dc_is_coordinate pm_is_coordinate cd_is_coordinate ct_is_coordinate : Value}
    {od_is_point an_is_point : Option Addr} {sl_is_point : Array (Option Value)} {oc_is_point kV_is_point dc_is_point pm_is_point cd_is_point ct_is_point : Value}
    {od_check_point an_check_point : Option Addr} {sl_check_point : Array (Option Value)} {oc_check_point kV_check_point dc_check_point pm_check_point cd_check_point ct_check_point : Value}
    {od_check_points an_check_points : Option Addr} {sl_check_points : Array (Option Value)} {oc_check_points kV_check_points dc_check_points pm_check_points cd_check_points ct_check_points : Value}
    {od_check_number an_check_number : Option Addr} {sl_check_number : Array (Option Value)} {oc_check_number kV_check_number dc_check_number pm_check_number cd_check_number ct_check_number : Value}
    {od_y_key an_y_key : Option Addr} {sl_y_key : Array (Option Value)} {oc_y_key kV_y_key dc_y_key pm_y_key cd_y_key ct_y_key : Value}
    {od_part_of an_part_of : Option Addr} {sl_part_of : Array (Option Value)} {oc_part_of kV_part_of dc_part_of pm_part_of cd_part_of ct_part_of : Value}
    {od_quarter an_quarter : Option Addr} {sl_quarter : Array (Option Value)} {oc_quarter kV_quarter dc_quarter pm_quarter cd_quarter ct_quarter : Value}
    {od_ordered an_ordered : Option Addr} {sl_ordered : Array (Option Value)} {oc_ordered kV_ordered dc_ordered pm_ordered cd_ordered ct_ordered : Value}
    {od_law_mixed an_law_mixed : Option Addr} {sl_law_mixed : Array (Option Value)} {oc_law_mixed kV_law_mixed dc_law_mixed pm_law_mixed cd_law_mixed ct_law_mixed : Value}
    {od_law_source an_law_source : Option Addr} {sl_law_source : Array (Option Value)} {oc_law_source kV_law_source dc_law_source pm_law_source cd_law_source ct_law_source : Value}
    {od_law_take an_law_take : Option Addr} {sl_law_take : Array (Option Value)} {oc_law_take kV_law_take dc_law_take pm_law_take cd_law_take ct_law_take : Value}
    {od_law_pick an_law_pick : Option Addr} {sl_law_pick : Array (Option Value)} {oc_law_pick kV_law_pick dc_law_pick pm_law_pick cd_law_pick ct_law_pick : Value}
    {od_law_spots an_law_spots : Option Addr} {sl_law_spots : Array (Option Value)} {oc_law_spots kV_law_spots dc_law_spots pm_law_spots cd_law_spots ct_law_spots : Value}
    {od_law_three an_law_three : Option Addr} {sl_law_three : Array (Option Value)} {oc_law_three kV_law_three dc_law_three pm_law_three cd_law_three ct_law_three : Value}
    {od_law an_law : Option Addr} {sl_law : Array (Option Value)} {oc_law kV_law dc_law pm_law cd_law ct_law : Value}
    {tk_FARTHEST_COORDINATE : Tok}
    {tk_MOST_POINTS : Tok}
    (a_is_integer : PySem.W.nsIn K mainGlobals "is_integer" = some (some (.ref f_is_integer))) (l_is_integer : K.lookup f_is_integer = some ⟨oc_is_integer, od_is_integer, .func (PySem.W.fnOf "is_integer" "is_integer" (defArgs s_is_integer) (defBody s_is_integer) (defScope s_is_integer) .none kV_is_integer dc_is_integer pm_is_integer an_is_integer cd_is_integer ct_is_integer), sl_is_integer⟩) (c_is_integer : PySem.W.codeIn K cd_is_integer "is_integer" = true) (k_is_integer : PySem.W.keepIn K (.ref f_is_integer) = true)
    (a_is_coordinate : PySem.W.nsIn K mainGlobals "is_coordinate" = some (some (.ref f_is_coordinate))) (l_is_coordinate : K.lookup f_is_coordinate = some ⟨oc_is_coordinate, od_is_coordinate, .func (PySem.W.fnOf "is_coordinate" "is_coordinate" (defArgs s_is_coordinate) (defBody s_is_coordinate) (defScope s_is_coordinate) .none kV_is_coordinate dc_is_coordinate pm_is_coordinate an_is_coordinate cd_is_coordinate ct_is_coordinate), sl_is_coordinate⟩) (c_is_coordinate : PySem.W.codeIn K cd_is_coordinate "is_coordinate" = true) (k_is_coordinate : PySem.W.keepIn K (.ref f_is_coordinate) = true)
    (a_is_point : PySem.W.nsIn K mainGlobals "is_point" = some (some (.ref f_is_point))) (l_is_point : K.lookup f_is_point = some ⟨oc_is_point, od_is_point, .func (PySem.W.fnOf "is_point" "is_point" (defArgs s_is_point) (defBody s_is_point) (defScope s_is_point) .none kV_is_point dc_is_point pm_is_point an_is_point cd_is_point ct_is_point), sl_is_point⟩) (c_is_point : PySem.W.codeIn K cd_is_point "is_point" = true) (k_is_point : PySem.W.keepIn K (.ref f_is_point) = true)
    (a_check_point : PySem.W.nsIn K mainGlobals "check_point" = some (some (.ref f_check_point))) (l_check_point : K.lookup f_check_point = some ⟨oc_check_point, od_check_point, .func (PySem.W.fnOf "check_point" "check_point" (defArgs s_check_point) (defBody s_check_point) (defScope s_check_point) .none kV_check_point dc_check_point pm_check_point an_check_point cd_check_point ct_check_point), sl_check_point⟩) (c_check_point : PySem.W.codeIn K cd_check_point "check_point" = true) (k_check_point : PySem.W.keepIn K (.ref f_check_point) = true)
    (a_check_points : PySem.W.nsIn K mainGlobals "check_points" = some (some (.ref f_check_points))) (l_check_points : K.lookup f_check_points = some ⟨oc_check_points, od_check_points, .func (PySem.W.fnOf "check_points" "check_points" (defArgs s_check_points) (defBody s_check_points) (defScope s_check_points) .none kV_check_points dc_check_points pm_check_points an_check_points cd_check_points ct_check_points), sl_check_points⟩) (c_check_points : PySem.W.codeIn K cd_check_points "check_points" = true) (k_check_points : PySem.W.keepIn K (.ref f_check_points) = true)
    (a_check_number : PySem.W.nsIn K mainGlobals "check_number" = some (some (.ref f_check_number))) (l_check_number : K.lookup f_check_number = some ⟨oc_check_number, od_check_number, .func (PySem.W.fnOf "check_number" "check_number" (defArgs s_check_number) (defBody s_check_number) (defScope s_check_number) .none kV_check_number dc_check_number pm_check_number an_check_number cd_check_number ct_check_number), sl_check_number⟩) (c_check_number : PySem.W.codeIn K cd_check_number "check_number" = true) (k_check_number : PySem.W.keepIn K (.ref f_check_number) = true)
    (a_y_key : PySem.W.nsIn K mainGlobals "y_key" = some (some (.ref f_y_key))) (l_y_key : K.lookup f_y_key = some ⟨oc_y_key, od_y_key, .func (PySem.W.fnOf "y_key" "y_key" (defArgs s_y_key) (defBody s_y_key) (defScope s_y_key) .none kV_y_key dc_y_key pm_y_key an_y_key cd_y_key ct_y_key), sl_y_key⟩) (c_y_key : PySem.W.codeIn K cd_y_key "y_key" = true) (k_y_key : PySem.W.keepIn K (.ref f_y_key) = true)
    (a_part_of : PySem.W.nsIn K mainGlobals "part_of" = some (some (.ref f_part_of))) (l_part_of : K.lookup f_part_of = some ⟨oc_part_of, od_part_of, .func (PySem.W.fnOf "part_of" "part_of" (defArgs s_part_of) (defBody s_part_of) (defScope s_part_of) .none kV_part_of dc_part_of pm_part_of an_part_of cd_part_of ct_part_of), sl_part_of⟩) (c_part_of : PySem.W.codeIn K cd_part_of "part_of" = true) (k_part_of : PySem.W.keepIn K (.ref f_part_of) = true)
    (a_quarter : PySem.W.nsIn K mainGlobals "quarter" = some (some (.ref f_quarter))) (l_quarter : K.lookup f_quarter = some ⟨oc_quarter, od_quarter, .func (PySem.W.fnOf "quarter" "quarter" (defArgs s_quarter) (defBody s_quarter) (defScope s_quarter) .none kV_quarter dc_quarter pm_quarter an_quarter cd_quarter ct_quarter), sl_quarter⟩) (c_quarter : PySem.W.codeIn K cd_quarter "quarter" = true) (k_quarter : PySem.W.keepIn K (.ref f_quarter) = true)
    (a_ordered : PySem.W.nsIn K mainGlobals "ordered" = some (some (.ref f_ordered))) (l_ordered : K.lookup f_ordered = some ⟨oc_ordered, od_ordered, .func (PySem.W.fnOf "ordered" "ordered" (defArgs s_ordered) (defBody s_ordered) (defScope s_ordered) .none kV_ordered dc_ordered pm_ordered an_ordered cd_ordered ct_ordered), sl_ordered⟩) (c_ordered : PySem.W.codeIn K cd_ordered "ordered" = true) (k_ordered : PySem.W.keepIn K (.ref f_ordered) = true)
    (a_law_mixed : PySem.W.nsIn K mainGlobals "_law_mixed" = some (some (.ref f_law_mixed))) (l_law_mixed : K.lookup f_law_mixed = some ⟨oc_law_mixed, od_law_mixed, .func (PySem.W.fnOf "_law_mixed" "_law_mixed" (defArgs s_law_mixed) (defBody s_law_mixed) (defScope s_law_mixed) .none kV_law_mixed dc_law_mixed pm_law_mixed an_law_mixed cd_law_mixed ct_law_mixed), sl_law_mixed⟩) (c_law_mixed : PySem.W.codeIn K cd_law_mixed "_law_mixed" = true) (k_law_mixed : PySem.W.keepIn K (.ref f_law_mixed) = true)
    (a_law_source : PySem.W.nsIn K mainGlobals "_law_source" = some (some (.ref f_law_source))) (l_law_source : K.lookup f_law_source = some ⟨oc_law_source, od_law_source, .func (PySem.W.fnOf "_law_source" "_law_source" (defArgs s_law_source) (defBody s_law_source) (defScope s_law_source) .none kV_law_source dc_law_source pm_law_source an_law_source cd_law_source ct_law_source), sl_law_source⟩) (c_law_source : PySem.W.codeIn K cd_law_source "_law_source" = true) (k_law_source : PySem.W.keepIn K (.ref f_law_source) = true)
    (a_law_take : PySem.W.nsIn K mainGlobals "_law_take" = some (some (.ref f_law_take))) (l_law_take : K.lookup f_law_take = some ⟨oc_law_take, od_law_take, .func (PySem.W.fnOf "_law_take" "_law_take" (defArgs s_law_take) (defBody s_law_take) (defScope s_law_take) .none kV_law_take dc_law_take pm_law_take an_law_take cd_law_take ct_law_take), sl_law_take⟩) (c_law_take : PySem.W.codeIn K cd_law_take "_law_take" = true) (k_law_take : PySem.W.keepIn K (.ref f_law_take) = true)
    (a_law_pick : PySem.W.nsIn K mainGlobals "_law_pick" = some (some (.ref f_law_pick))) (l_law_pick : K.lookup f_law_pick = some ⟨oc_law_pick, od_law_pick, .func (PySem.W.fnOf "_law_pick" "_law_pick" (defArgs s_law_pick) (defBody s_law_pick) (defScope s_law_pick) .none kV_law_pick dc_law_pick pm_law_pick an_law_pick cd_law_pick ct_law_pick), sl_law_pick⟩) (c_law_pick : PySem.W.codeIn K cd_law_pick "_law_pick" = true) (k_law_pick : PySem.W.keepIn K (.ref f_law_pick) = true)
    (a_law_spots : PySem.W.nsIn K mainGlobals "_law_spots" = some (some (.ref f_law_spots))) (l_law_spots : K.lookup f_law_spots = some ⟨oc_law_spots, od_law_spots, .func (PySem.W.fnOf "_law_spots" "_law_spots" (defArgs s_law_spots) (defBody s_law_spots) (defScope s_law_spots) .none kV_law_spots dc_law_spots pm_law_spots an_law_spots cd_law_spots ct_law_spots), sl_law_spots⟩) (c_law_spots : PySem.W.codeIn K cd_law_spots "_law_spots" = true) (k_law_spots : PySem.W.keepIn K (.ref f_law_spots) = true)
    (a_law_three : PySem.W.nsIn K mainGlobals "_law_three" = some (some (.ref f_law_three))) (l_law_three : K.lookup f_law_three = some ⟨oc_law_three, od_law_three, .func (PySem.W.fnOf "_law_three" "_law_three" (defArgs s_law_three) (defBody s_law_three) (defScope s_law_three) .none kV_law_three dc_law_three pm_law_three an_law_three cd_law_three ct_law_three), sl_law_three⟩) (c_law_three : PySem.W.codeIn K cd_law_three "_law_three" = true) (k_law_three : PySem.W.keepIn K (.ref f_law_three) = true)
    (a_law : PySem.W.nsIn K mainGlobals "law" = some (some (.ref f_law))) (l_law : K.lookup f_law = some ⟨oc_law, od_law, .func (PySem.W.fnOf "law" "law" (defArgs s_law) (defBody s_law) (defScope s_law) .none kV_law dc_law pm_law an_law cd_law ct_law), sl_law⟩) (c_law : PySem.W.codeIn K cd_law "law" = true) (k_law : PySem.W.keepIn K (.ref f_law) = true)
    (w_FARTHEST_COORDINATE : PySem.W.nsIn K mainGlobals "FARTHEST_COORDINATE" = some (some (.int Lo tk_FARTHEST_COORDINATE)))
    (w_MOST_POINTS : PySem.W.nsIn K mainGlobals "MOST_POINTS" = some (some (.int 500 tk_MOST_POINTS)))
    (z_int : PySem.W.nsIn K mainGlobals "int" = some none)
    (z_abs : PySem.W.nsIn K mainGlobals "abs" = some none)
    (z_len : PySem.W.nsIn K mainGlobals "len" = some none)
    (z_range : PySem.W.nsIn K mainGlobals "range" = some none)
    (z_isinstance : PySem.W.nsIn K mainGlobals "isinstance" = some none)
    (z_bool : PySem.W.nsIn K mainGlobals "bool" = some none)
    (z_tuple : PySem.W.nsIn K mainGlobals "tuple" = some none)
    (z_all : PySem.W.nsIn K mainGlobals "all" = some none)
    (z_repr : PySem.W.nsIn K mainGlobals "repr" = some none)
    (z_list : PySem.W.nsIn K mainGlobals "list" = some none)
    (z_set : PySem.W.nsIn K mainGlobals "set" = some none)
    (z_enumerate : PySem.W.nsIn K mainGlobals "enumerate" = some none)
    (z_sorted : PySem.W.nsIn K mainGlobals "sorted" = some none)
    (z_max : PySem.W.nsIn K mainGlobals "max" = some none) :
    ∃ fd : FuncData, (∀ (s : Shared) (v : Value), BindsTo s fd ⟨[v], []⟩ [("_law_script", v)]) ∧ ∀ base : Heap, K.In base → base.Ns mainGlobals mg → FnOk l.prog w K mg base CX0 7 fa fd ["_law_script"] (spLaw K) := by
  have e := hfa.symm.trans (PySem.W.mg_of X G a_law)
  cases e
  have F_is_integer := fun_mk (st := s_is_integer) l_is_integer c_is_integer k_is_integer
  have b_is_integer := F_is_integer.binds (ps := ["value"]) fun _ _ _ _ _ _ us hl => match us, hl with | [_], _ => rfl
  have m_is_integer := PySem.W.mg_of X G a_is_integer
  have F_is_coordinate := fun_mk (st := s_is_coordinate) l_is_coordinate c_is_coordinate k_is_coordinate
  have b_is_coordinate := F_is_coordinate.binds (ps := ["value"]) fun _ _ _ _ _ _ us hl => match us, hl with | [_], _ => rfl
  have m_is_coordinate := PySem.W.mg_of X G a_is_coordinate
  have F_is_point := fun_mk (st := s_is_point) l_is_point c_is_point k_is_point
  have b_is_point := F_is_point.binds (ps := ["value"]) fun _ _ _ _ _ _ us hl => match us, hl with | [_], _ => rfl
  have m_is_point := PySem.W.mg_of X G a_is_point
  have F_check_point := fun_mk (st := s_check_point) l_check_point c_check_point k_check_point
  have b_check_point := F_check_point.binds (ps := ["value"]) fun _ _ _ _ _ _ us hl => match us, hl with | [_], _ => rfl
  have m_check_point := PySem.W.mg_of X G a_check_point
  have F_check_points := fun_mk (st := s_check_points) l_check_points c_check_points k_check_points
  have b_check_points := F_check_points.binds (ps := ["value"]) fun _ _ _ _ _ _ us hl => match us, hl with | [_], _ => rfl
  have m_check_points := PySem.W.mg_of X G a_check_points
  have F_check_number := fun_mk (st := s_check_number) l_check_number c_check_number k_check_number
  have b_check_number := F_check_number.binds (ps := ["value", "least", "most", "name"]) fun _ _ _ _ _ _ us hl => match us, hl with | [_, _, _, _], _ => rfl
  have m_check_number := PySem.W.mg_of X G a_check_number
  have F_y_key := fun_mk (st := s_y_key) l_y_key c_y_key k_y_key
  have b_y_key := F_y_key.binds (ps := ["point"]) fun _ _ _ _ _ _ us hl => match us, hl with | [_], _ => rfl
  have m_y_key := PySem.W.mg_of X G a_y_key
  have F_part_of := fun_mk (st := s_part_of) l_part_of c_part_of k_part_of
  have b_part_of := F_part_of.binds (ps := ["root", "point"]) fun _ _ _ _ _ _ us hl => match us, hl with | [_, _], _ => rfl
  have m_part_of := PySem.W.mg_of X G a_part_of
  have F_quarter := fun_mk (st := s_quarter) l_quarter c_quarter k_quarter
  have b_quarter := F_quarter.binds (ps := ["root", "point"]) fun _ _ _ _ _ _ us hl => match us, hl with | [_, _], _ => rfl
  have m_quarter := PySem.W.mg_of X G a_quarter
  have F_ordered := fun_mk (st := s_ordered) l_ordered c_ordered k_ordered
  have b_ordered := F_ordered.binds (ps := ["points", "axis"]) fun _ _ _ _ _ _ us hl => match us, hl with | [_, _], _ => rfl
  have m_ordered := PySem.W.mg_of X G a_ordered
  have F_law_mixed := fun_mk (st := s_law_mixed) l_law_mixed c_law_mixed k_law_mixed
  have b_law_mixed := F_law_mixed.binds (ps := ["_law_cell", "_law_draw"]) fun _ _ _ _ _ _ us hl => match us, hl with | [_, _], _ => rfl
  have m_law_mixed := PySem.W.mg_of X G a_law_mixed
  have F_law_source := fun_mk (st := s_law_source) l_law_source c_law_source k_law_source
  have b_law_source := F_law_source.binds (ps := ["_law_cell"]) fun _ _ _ _ _ _ us hl => match us, hl with | [_], _ => rfl
  have m_law_source := PySem.W.mg_of X G a_law_source
  have F_law_take := fun_mk (st := s_law_take) l_law_take c_law_take k_law_take
  have b_law_take := F_law_take.binds (ps := ["_law_source_here", "_law_bound"]) fun _ _ _ _ _ _ us hl => match us, hl with | [_, _], _ => rfl
  have m_law_take := PySem.W.mg_of X G a_law_take
  have F_law_pick := fun_mk (st := s_law_pick) l_law_pick c_law_pick k_law_pick
  have b_law_pick := F_law_pick.binds (ps := ["_law_source_here", "_law_some"]) fun _ _ _ _ _ _ us hl => match us, hl with | [_, _], _ => rfl
  have m_law_pick := PySem.W.mg_of X G a_law_pick
  have F_law_spots := fun_mk (st := s_law_spots) l_law_spots c_law_spots k_law_spots
  have b_law_spots := F_law_spots.binds (ps := ["_law_source_here", "_law_most"]) fun _ _ _ _ _ _ us hl => match us, hl with | [_, _], _ => rfl
  have m_law_spots := PySem.W.mg_of X G a_law_spots
  have F_law_three := fun_mk (st := s_law_three) l_law_three c_law_three k_law_three
  have b_law_three := F_law_three.binds (ps := ["_law_first", "_law_second", "_law_third"]) fun _ _ _ _ _ _ us hl => match us, hl with | [_, _, _], _ => rfl
  have m_law_three := PySem.W.mg_of X G a_law_three
  have F_law := fun_mk (st := s_law) l_law c_law k_law
  have m_FARTHEST_COORDINATE := PySem.W.mg_of X G w_FARTHEST_COORDINATE
  have m_MOST_POINTS := PySem.W.mg_of X G w_MOST_POINTS
  have n_int := PySem.W.mg_none_of X G z_int
  have n_abs := PySem.W.mg_none_of X G z_abs
  have n_len := PySem.W.mg_none_of X G z_len
  have n_range := PySem.W.mg_none_of X G z_range
  have n_isinstance := PySem.W.mg_none_of X G z_isinstance
  have n_bool := PySem.W.mg_none_of X G z_bool
  have n_tuple := PySem.W.mg_none_of X G z_tuple
  have n_all := PySem.W.mg_none_of X G z_all
  have n_repr := PySem.W.mg_none_of X G z_repr
  have n_list := PySem.W.mg_none_of X G z_list
  have n_set := PySem.W.mg_none_of X G z_set
  have n_enumerate := PySem.W.mg_none_of X G z_enumerate
  have n_sorted := PySem.W.mg_none_of X G z_sorted
  have n_max := PySem.W.mg_none_of X G z_max
  refine ⟨PySem.W.fnOf "law" "law" (defArgs s_law) (defBody s_law) (defScope s_law) .none kV_law dc_law pm_law an_law cd_law ct_law, fun s v => .of_eq rfl, fun base _ _ => ?_⟩
  have B : Bt mg := ⟨n_int, n_abs, n_len, n_range, n_isinstance, n_bool, n_tuple, n_all, n_repr⟩
  have C : B1 mg := ⟨n_list, n_set, n_enumerate, n_sorted⟩
  have G_take := ok_take (P := l.prog) (w := w) (base := base) F_law_take B F_law_mixed b_law_mixed m_law_mixed
  have G_pick := ok_pick (fM := f_law_mixed) (fdM := PySem.W.fnOf "law" "law" (defArgs s_law) (defBody s_law) (defScope s_law) .none kV_law dc_law pm_law an_law cd_law ct_law) F_law_pick B G_take F_law_take.kp b_law_take m_law_take
  have G_spots := ok_spots F_law_spots B G_take F_law_take.kp b_law_take m_law_take G_pick F_law_pick.kp b_law_pick m_law_pick
  have G_up := ok_coord (P := l.prog) (w := w) (base := base) F_is_coordinate B F_is_integer b_is_integer m_is_integer m_FARTHEST_COORDINATE
  have G_pt := ok_isPt F_is_point B G_up F_is_coordinate.kp b_is_coordinate m_is_coordinate
  have G_cp := ok_chkPt F_check_point G_pt F_is_point.kp b_is_point m_is_point
  have G_cps := ok_chkPs F_check_points B C G_pt F_is_point.kp b_is_point m_is_point m_MOST_POINTS
  have G_cn := ok_chkN (P := l.prog) (w := w) (base := base) F_check_number B F_is_integer b_is_integer m_is_integer
  have G_pa := ok_part (P := l.prog) (w := w) (mg := mg) (base := base) F_part_of
  have G_qu := ok_quarter F_quarter G_cp F_check_point.kp b_check_point m_check_point G_pa F_part_of.kp b_part_of m_part_of
  have G_or := ok_ordP F_ordered C G_cps F_check_points.kp b_check_points m_check_points G_cn F_check_number.kp b_check_number m_check_number F_y_key m_y_key
  have G_th := ok_three F_law_three B G_qu F_quarter.kp b_quarter m_quarter
  exact ok_law F_law B C n_max (ok_source F_law_source B) F_law_source.kp b_law_source m_law_source G_take F_law_take.kp b_law_take m_law_take G_spots F_law_spots.kp b_law_spots m_law_spots
    G_qu F_quarter.kp b_quarter m_quarter G_or F_ordered.kp b_ordered m_ordered G_th F_law_three.kp b_law_three m_law_three
end Q2
open PySem PySem.W PyProof.Rows
set_option maxHeartbeats 0 in
theorem PySem.Challenge.cw_planesplits_k05_whole_parts_turned_about_holds : PySem.Challenge.rw_planesplits_k05_whole_parts_turned_about.Holds := by
  w_on; o_law; k_head; (case hw => w_witness2)
  k_fill
  refine L2.walk_of (l := PySem.Challenge.rw_planesplits_k05_whole_parts_turned_about) (n := 63) (k := 7) (x := "_law_script") (CX := fun _ => L2.CX0) (sp := fun w => Q2.spLaw _) rfl (by decide) rfl ⟨rfl, by decide, by decide⟩ (fun w h Y => PySem.W.kIn_of Y) ?F (fun _ _ a ns hl _ hS => ⟨a, ns, rfl, hS, hl, fun _ => rfl⟩) (fun _ _ _ _ _ h => h)
  case F =>
    intro w mg fa h KX G hmg
    refine' Q2.all_mk KX G hmg ?a_is_integer ?l_is_integer ?c_is_integer ?k_is_integer ?a_is_coordinate ?l_is_coordinate ?c_is_coordinate ?k_is_coordinate ?a_is_point ?l_is_point ?c_is_point ?k_is_point ?a_check_point ?l_check_point ?c_check_point ?k_check_point ?a_check_points ?l_check_points ?c_check_points ?k_check_points ?a_check_number ?l_check_number ?c_check_number ?k_check_number ?a_y_key ?l_y_key ?c_y_key ?k_y_key ?a_part_of ?l_part_of ?c_part_of ?k_part_of ?a_quarter ?l_quarter ?c_quarter ?k_quarter ?a_ordered ?l_ordered ?c_ordered ?k_ordered ?a_law_mixed ?l_law_mixed ?c_law_mixed ?k_law_mixed ?a_law_source ?l_law_source ?c_law_source ?k_law_source ?a_law_take ?l_law_take ?c_law_take ?k_law_take ?a_law_pick ?l_law_pick ?c_law_pick ?k_law_pick ?a_law_spots ?l_law_spots ?c_law_spots ?k_law_spots ?a_law_three ?l_law_three ?c_law_three ?k_law_three ?a_law ?l_law ?c_law ?k_law ?w_FARTHEST_COORDINATE ?w_MOST_POINTS ?z_int ?z_abs ?z_len ?z_range ?z_isinstance ?z_bool ?z_tuple ?z_all ?z_repr ?z_list ?z_set ?z_enumerate ?z_sorted ?z_max
    (case a_is_integer => k_is)
    (case l_is_integer => k_is)
    (case c_is_integer => k_is)
    (case k_is_integer => k_is)
    (case a_is_coordinate => k_is)
    (case l_is_coordinate => k_is)
    (case c_is_coordinate => k_is)
    (case k_is_coordinate => k_is)
    (case a_is_point => k_is)
    (case l_is_point => k_is)
    (case c_is_point => k_is)
    (case k_is_point => k_is)
    (case a_check_point => k_is)
    (case l_check_point => k_is)
    (case c_check_point => k_is)
    (case k_check_point => k_is)
    (case a_check_points => k_is)
    (case l_check_points => k_is)
    (case c_check_points => k_is)
    (case k_check_points => k_is)
    (case a_check_number => k_is)
    (case l_check_number => k_is)
    (case c_check_number => k_is)
    (case k_check_number => k_is)
    (case a_y_key => k_is)
    (case l_y_key => k_is)
    (case c_y_key => k_is)
    (case k_y_key => k_is)
    (case a_part_of => k_is)
    (case l_part_of => k_is)
    (case c_part_of => k_is)
    (case k_part_of => k_is)
    (case a_quarter => k_is)
    (case l_quarter => k_is)
    (case c_quarter => k_is)
    (case k_quarter => k_is)
    (case a_ordered => k_is)
    (case l_ordered => k_is)
    (case c_ordered => k_is)
    (case k_ordered => k_is)
    (case a_law_mixed => k_is)
    (case l_law_mixed => k_is)
    (case c_law_mixed => k_is)
    (case k_law_mixed => k_is)
    (case a_law_source => k_is)
    (case l_law_source => k_is)
    (case c_law_source => k_is)
    (case k_law_source => k_is)
    (case a_law_take => k_is)
    (case l_law_take => k_is)
    (case c_law_take => k_is)
    (case k_law_take => k_is)
    (case a_law_pick => k_is)
    (case l_law_pick => k_is)
    (case c_law_pick => k_is)
    (case k_law_pick => k_is)
    (case a_law_spots => k_is)
    (case l_law_spots => k_is)
    (case c_law_spots => k_is)
    (case k_law_spots => k_is)
    (case a_law_three => k_is)
    (case l_law_three => k_is)
    (case c_law_three => k_is)
    (case k_law_three => k_is)
    (case a_law => k_is)
    (case l_law => k_is)
    (case c_law => k_is)
    (case k_law => k_is)
    (case w_FARTHEST_COORDINATE => k_is)
    (case w_MOST_POINTS => k_is)
    (case z_int => k_is)
    (case z_abs => k_is)
    (case z_len => k_is)
    (case z_range => k_is)
    (case z_isinstance => k_is)
    (case z_bool => k_is)
    (case z_tuple => k_is)
    (case z_all => k_is)
    (case z_repr => k_is)
    (case z_list => k_is)
    (case z_set => k_is)
    (case z_enumerate => k_is)
    (case z_sorted => k_is)
    (case z_max => k_is)

