import PyProof.Rows.All
import Wide.All
import OpenK.AllK
import Wide.FinOn
import HandS.ForMost
import HandS.Wide
import HandS.Deep
import HandS.IsInst
import HandS.Walk
import HandS.TupSets
import HandS.Lambda
import KE.SortKeyHeap
import HandS.SortKw
import KE.GoesEnum
import KE.GoesMore
import HandS.Conv
import HandS.Dict
import HandS.More
import HandS.WideBits
import KE.GoesRev
import HandS.ForExc
import HandS.RevRange
import HandS.Rev
import HandS.Style
import HandS.TupAny
import HandS.Zip
import KE.KxField
import HandS.IntHex
import HandS.FStr
import KE.KItemsList
import HandS.StrMore
import HandS.TryOnly
import HandS.ExcInit
import KE.KExcSuper
import KE.KSuper
import HandS.TryMany
import HandS.ExcField
import HandS.ExcIs
import HandS.EndTab
import HandS.Steps
import HandS.TupLe
import KE.DataFind
import HandS.HeadHook3
import PySem.Challenge.RW_planesplits_k61_whole_even_trees
set_option Elab.async false
set_option linter.all false
set_option maxRecDepth 100000
set_option maxHeartbeats 4000000
namespace Q2
open PySem PySem.Spec PyProof.Rows L2
/-! ### rules that the layer lacks -/
section
variable {X : Cx}
/-- x ** n of great ints -/
def CPowW (i j : Int) : Prop := 0 ≤ j ∧ (Builtin.Int.intBits i : Int) * j ≤ 2 ^ 27
theorem op_powW : OpR X (binaryOp .Pow) (rI CPowW fun i j => .int (i ^ j.toNat)) := opI fun _ _ _ _ _ _ _ hc q => pow_int hc.1 hc.2 q
theorem powW2 {i : Int} (h : i.natAbs < 2 ^ 1000) : CPowW i 2 := by
  have h1 := PySem.Flt.log2_lt_of (by decide : 0 < 1000) h
  have h2 : Builtin.Int.intBits i ≤ i.natAbs.log2 + 1 := by
    unfold Builtin.Int.intBits
    split <;> omega
  refine ⟨by decide, ?_⟩
  have h3 : ((2 : Int) ^ 27) = 134217728 := by decide
  rw [h3]
  omega
/-- list + list, either of which may be read only -/
def rCatL (K : PySem.W.Frag) : R2 := fun x y H Q => ∃ l b xs zs, x = .ref l ∧ y = .ref b ∧ SqL K H l xs ∧ SqL K H b zs ∧ xs.length + zs.length ≤ sizeLine ∧ ∀ p, H p = none → Q (.ref p) (upd H p (.lst (xs ++ zs)))
theorem op_catL : OpR X (binaryOp .Add) (rCatL X.K) := by
  intro pins s σ H x y v u Q I rx ry h
  obtain ⟨l, b, xs, zs, rfl, rfl, hH, hB, hz, q⟩ := h
  cases rx
  cases ry
  obtain ⟨its, r, ⟨⟨cls, dd, data, sl⟩, n, ho, hc, hdn, hdt⟩, hl⟩ := I.list hH
  obtain ⟨its2, r2, ⟨⟨cls2, dd2, data2, sl2⟩, n2, ho2, hc2, hdn2, hdt2⟩, hl2⟩ := I.list hB
  simp only at hc hdt hc2 hdt2
  subst hc hdt hc2 hdt2
  have e1 := r.length
  have e2 := r2.length
  refine concat_meets ⟨_, ho, rfl⟩ ⟨_, ho2, rfl⟩ noFill_list_add seq_list_add PySem.F.slot_list_add PySem.F.entry_list_add (PySem.F.args_list_add_2 _ _) (list_addW l b its.toArray its2.toArray n n2 dd dd2 sl sl2 (by simp only [List.size_toArray]; omega)) ⟨ho, ho2, ?_⟩
  have ea : its.toArray ++ its2.toArray = (its ++ its2).toArray := by simp
  rw [ea]
  exact ⟨.ref _, _, I.lnew (t' := s.toks) (r.append r2) (by rw [List.length_append]; omega), rfl, q _ I.fresh⟩
/-- repr of a bool -/
def bStr (b : Bool) : Str := if b then "True" else "False"
theorem call_repr_bool : CallR X (.builtin "repr") (fun xs H Q => ∃ b, xs = [.bl b] ∧ Q (.str (bStr b)) H) := by
  intro pins s σ H xs us Q I r h
  obtain ⟨b, rfl, q⟩ := h
  cases r with
  | cons r1 r2 =>
    cases r2
    cases r1
    exact PySem.P.repr_of_bool ⟨.str _, H, I.tok _, ⟨_, rfl⟩, q⟩
section
variable {CX : CXT} {k : Nat} {f : Addr} {fd : FuncData} {ps ks : List Str} {sp : Sp} {E : XK} {x : Str} {p pos : Pos} {kws : List Keyword} {tk : TA} {g : List Value → List Value → List Value} {gV : List V → List V → List V}
/-- f(k = v, ..) -/
theorem pe_callK0 (F : FnOk X.prog X.w X.K X.mg X.base CX k f fd ps sp) (hr : Room k X.A) (hg : Gl X x) (hm : X.mg x = some (.ref f)) (hk : PySem.W.keepIn X.K (.ref f) = true) (hb : KBinds X.K fd ps ks g gV) (hx : Passes CX X E)
    (hkw : PK X kws tk) (hall : (backToKw pos (keywordEach kws X.env)).all (·.1.isSome) = true := by rfl) (hks : (backToKw pos (keywordEach kws X.env)).filterMap (·.1) = ks := by rfl)
    (hdb : (x == ("__debug__" : Str)) = false := by decide)
    (hpl : ((backTo pos (starEach [] X.env)).any (·.1) || (backToKw pos (keywordEach kws X.env)).any (·.1.isNone)) = false := by rfl) :
    PE X (.Call (.Name x p) [] kws pos) (tCallK sp gV E tNil tk) := by
  refine ⟨fun pins s σ H Q I h => ?_⟩
  refine wpAny_Call_Name_kw (ld_glob I hg hm ?_ hdb)
  refine PySem.W.callWith_KW0 (h₀ := X.base) I.ok.mod.kin hk hall ?_ hpl
  refine thn (hkw.run pos pins s σ H _ I h) fun ws s2 ⟨zs, H2, I2, rz, q2⟩ => ⟨I2.kIn, ?_⟩
  rw [hks]
  exact run_fnk F hr hb hx I2 .nil rz q2
end
end
/-! ### heaps -/
/-- all that was tracked stands, but what is at s -/
def Ex (s : Addr) (H H' : Hp) : Prop := ∀ b o, H b = some o → b ≠ s → H' b = some o
theorem Ex.refl (s : Addr) (H : Hp) : Ex s H H := fun _ _ h _ => h
theorem Ex.trans {s : Addr} {H H1 H2 : Hp} (a : Ex s H H1) (b : Ex s H1 H2) : Ex s H H2 := fun c o h n => b c o (a c o h n) n
theorem Ex.same {s : Addr} {H H' : Hp} (e : Same H H') : Ex s H H' := fun b o h _ => e b o h
theorem Ex.put {s : Addr} {H : Hp} {o : HO} : Ex s H (upd H s o) := fun b o' h n => by rw [upd_ne n]; exact h
theorem same_new {H : Hp} {p : Addr} {o : HO} (h : H p = none) : Same H (upd H p o) := fun b x e => by
  rw [upd_ne (ne_of_none e h)]
  exact e
/-- the source: a list of three ints, the first not negative -/
def Src (H : Hp) (s : Addr) : Prop := ∃ a b c : Int, 0 ≤ a ∧ H s = some (.lst [.int a, .int b, .int c])
theorem Src.same {H H' : Hp} {s : Addr} (e : Same H H') (h : Src H s) : Src H' s := by
  obtain ⟨a, b, c, h0, h⟩ := h
  exact ⟨a, b, c, h0, e _ _ h⟩
theorem Src.ne {H : Hp} {s p : Addr} (h : Src H s) (hp : H p = none) : p ≠ s := by
  obtain ⟨a, b, c, h0, h⟩ := h
  exact (ne_of_none h hp).symm
/-- points that stand in the heap -/
abbrev Pts := List (Addr × Int × Int)
def PtAt (H : Hp) (B : Int) (q : Addr × Int × Int) : Prop := H q.1 = some (.tup [.int q.2.1, .int q.2.2]) ∧ (-B ≤ q.2.1 ∧ q.2.1 ≤ B) ∧ (-B ≤ q.2.2 ∧ q.2.2 ≤ B)
def Spots (H : Hp) (B : Int) (a : Addr) (ps : Pts) : Prop := H a = some (.lst (ps.map fun q => V.ref q.1)) ∧ ps.length ≤ 40 ∧ ∀ q ∈ ps, PtAt H B q
theorem PtAt.same {H H' : Hp} {B : Int} {q : Addr × Int × Int} (e : Same H H') (h : PtAt H B q) : PtAt H' B q := ⟨e _ _ h.1, h.2⟩
theorem PtAt.ex {H H' : Hp} {B : Int} {s : Addr} {q : Addr × Int × Int} (hs : Src H s) (e : Ex s H H') (h : PtAt H B q) : PtAt H' B q := by
  obtain ⟨a, b, c, h0, hs⟩ := hs
  exact ⟨e _ _ h.1 (ne_of h.1 hs (by intro z; cases z)), h.2⟩
theorem Spots.same {H H' : Hp} {B : Int} {a : Addr} {ps : Pts} (e : Same H H') (h : Spots H B a ps) : Spots H' B a ps := ⟨e _ _ h.1, h.2.1, fun q hq => (h.2.2 q hq).same e⟩
theorem Spots.ex {H H' : Hp} {B : Int} {s a : Addr} {ps : Pts} (hs : Src H s) (n : a ≠ s) (e : Ex s H H') (h : Spots H B a ps) : Spots H' B a ps := ⟨e _ _ h.1 n, h.2.1, fun q hq => (h.2.2 q hq).ex hs e⟩
theorem small40 {n : Nat} (h : n ≤ 1000) : n ≤ sizeLine := Nat.le_of_lt (small1000 h)
/-! ### a tuple's equality as data -/
def ptD (z : Int × Int) : PyData := .tuple [.int z.1, .int z.2]
theorem ptD_lay (z : Int × Int) : (ptD z).canLay0 = true := by simp [ptD, PyData.canLay0, PyData.canLayAll0]
theorem ptD_depth (z : Int × Int) : (ptD z).depth = 1 := by simp [ptD, PyData.depth, PyData.depthAll]
theorem ptDs_lay : ∀ zs : List (Int × Int), PyData.canLayAll0 (zs.map ptD) = true
  | [] => by simp [PyData.canLayAll0]
  | z :: zs => by simp [PyData.canLayAll0, ptD_lay z, ptDs_lay zs]
theorem ptDs_depth : ∀ zs : List (Int × Int), PyData.depthAll (zs.map ptD) ≤ 2
  | [] => by simp [PyData.depthAll]
  | z :: zs => by
    have h1 := ptDs_depth zs
    have h2 := ptD_depth z
    simp only [List.map_cons, PyData.depthAll]
    omega
theorem ptD_shaped (z : Int × Int) : SeqAt.shaped (ptD z) = true := by
  have h := ptD_depth z
  show ((ptD z).canLay0 && decide ((ptD z).depth ≤ 64)) = true
  rw [Bool.and_eq_true]
  exact ⟨ptD_lay z, decide_eq_true (by omega)⟩
theorem ptDs_shaped (zs : List (Int × Int)) : SeqAt.shaped (.list (zs.map ptD)) = true := by
  have h1 := ptDs_depth zs
  have h2 : PyData.depth (.list (zs.map ptD)) ≤ 64 := by
    simp only [PyData.depth]
    omega
  show (PyData.canLay0 (.list (zs.map ptD)) && decide (PyData.depth (.list (zs.map ptD)) ≤ 64)) = true
  rw [Bool.and_eq_true]
  exact ⟨by simp only [PyData.canLay0]; exact ptDs_lay zs, decide_eq_true h2⟩
theorem ptD_eqv (z w : Int × Int) : PyData.eqv (ptD z) (ptD w) = decide (z = w) := by
  obtain ⟨a, b⟩ := z
  obtain ⟨a', b'⟩ := w
  have e : PyData.eqv (ptD (a, b)) (ptD (a', b')) = ((a == a') && ((b == b') && true)) := by simp only [ptD, PyData.eqv, PyData.eqvAll]
  rw [e]
  by_cases h : a = a'
  · by_cases h2 : b = b'
    · subst h h2
      simp
    · simp [h, h2]
  · simp [h]
theorem dp_pt {K : PySem.W.Frag} {H : Hp} {B : Int} {q : Addr × Int × Int} (h : PtAt H B q) : Dp K H (.ref q.1) (ptD q.2) := .tup (SqT.of h.1) (.cons (.int _) (.cons (.int _) .nil))
theorem dp_pts {K : PySem.W.Frag} {H : Hp} {B : Int} : ∀ {ps : Pts}, (∀ q ∈ ps, PtAt H B q) → DpAll K H (ps.map fun q => V.ref q.1) ((ps.map (·.2)).map ptD)
  | [], _ => .nil
  | q :: ps, h => .cons (dp_pt (h q (List.mem_cons_self ..))) (dp_pts fun z hz => h z (List.mem_cons_of_mem _ hz))
theorem dp_spots {K : PySem.W.Frag} {H : Hp} {B : Int} {a : Addr} {ps : Pts} (h : Spots H B a ps) : Dp K H (.ref a) (.list ((ps.map (·.2)).map ptD)) := .lst (SqL.of h.1) (dp_pts h.2.2)
theorem any_pt (zs : List (Int × Int)) (w : Int × Int) : ((zs.map ptD).any fun z => PyData.eqv z (ptD w)) = decide (w ∈ zs) := by
  induction zs with
  | nil => simp
  | cons z zs ih =>
    rw [List.map_cons, List.any_cons, ih, ptD_eqv]
    by_cases h : z = w
    · subst h
      simp
    · have h' : ¬ w = z := fun e => h e.symm
      simp [h, h']
end Q2

namespace Q2
open PySem PySem.Spec PyProof.Rows L2
section
variable {P : Program} {w : World} {A : Around} {E : Value → Shared → Prop} {s : Shared} {a : Addr} {L : List (Addr × List Int)} {es : Array (Int × Value)} {ep : Nat} {t : SetTable}
/-- the search of a key that is no member comes to the first empty slot, whatever its hash meets on the way -/
theorem free_from (R : SetTR P w s.heap a L es ep t) {x : Addr} {k : List Int} (kx : IsT P w s.heap k x) (un : A.units < cLine) (out : k ∉ L.map (·.2)) {K : Nat} (lessK : K < 10 * SetTable.turns t.mask)
    (gapK : way t.mask (thash P w k) K ∉ t.place.toList) (fullK : ∀ c, c < K → way t.mask (thash P w k) c ∈ t.place.toList) {Q : SetFound → Shared → Prop} (win : Q (.free (way t.mask (thash P w k) K) false) s) :
    ∀ (f c : Nat) (stand : Option SetTable.Probe), stand.getD (t.probeStart (thash P w k)) = nth t.mask (runAt t.mask (SetTable.bits (thash P w k) % (t.mask + 1)) (SetTable.bits (thash P w k))) c → c ≤ K → K - c < f →
      wpAny (model P w) A (setSearchFrom a (.ref x) (thash P w k) false f stand) Q E s
  | 0, c, stand, _, _, less => absurd less (Nat.not_lt_zero _)
  | f + 1, c, stand, here, cK, less => by
    obtain ⟨ob, hob, exact_, dat⟩ := R.ob
    rw [setSearchFrom_succ]
    refine wpAny_bind ((wpAny_setState_of hob dat R.fits) ?_)
    dsimp only
    refine (wp_if_neg R.gw) ?_
    try refine (wpAny_bind (wpAny_pure ?_))
    -- the probe, c steps on
    generalize base0 : runAt t.mask (SetTable.bits (thash P w k) % (t.mask + 1)) (SetTable.bits (thash P w k)) = p0 at here
    have noDummy : ∀ (n : Nat) (p : SetTable.Probe), p.dummy = none → (nth t.mask p n).dummy = none := fun n => by
      induction n with
      | zero => exact fun p h => h
      | succ n ih => exact fun p h => ih (adv t.mask p) (by unfold adv; split <;> exact h)
    have d0 : p0.dummy = none := by rw [← base0]; rfl
    have go_on : ∀ q, nth t.mask (nth t.mask p0 c) q = nth t.mask p0 (c + q) := fun q => (nth_add t.mask c p0 q).symm
    have at_ : ∀ q, (nth t.mask p0 q).j = way t.mask (thash P w k) q := fun q => by rw [← base0]
    have at2 : ∀ q, (nth t.mask (nth t.mask p0 c) q).j = way t.mask (thash P w k) (c + q) := fun q => by rw [go_on, at_]
    have found := go_spec t R.tab.ris R.tab.dm (fun i => (es[i]?.map (·.1)).getD 0) (thash P w k) (10 * SetTable.turns t.mask) (K - c) (nth t.mask p0 c) (noDummy c p0 d0) (Nat.lt_of_le_of_lt (Nat.sub_le K c) lessK)
      (fun q hq => by rw [at2]; exact fullK (c + q) (Nat.add_lt_of_lt_sub' hq)) (by rw [at2, Nat.add_sub_cancel' cK]; exact gapK)
    rcases found with ⟨q, i, hq, slot, _, _, ans⟩ | ⟨_, ans⟩
    · have ans2 : t.probe (fun i => (es[i]?.map (·.1)).getD 0) (thash P w k) (stand.getD (t.probeStart (thash P w k))) = some (.candidate (way t.mask (thash P w k) (c + q)) i (nth t.mask p0 (c + (q + 1)))) := by
        rw [here, ← at2, ← go_on]
        exact ans
      rw [ans2]
      dsimp only
      rw [at2] at slot
      have small : i < L.length := by
        have y1 : i < t.place.toList.length := (List.getElem?_eq_some_iff.mp slot).1
        have y2 := R.tab.sz
        rw [List.length_map] at y2
        rw [Array.length_toList] at y1
        omega
      obtain ⟨p, hp⟩ : ∃ p, L[i]? = some p := ⟨L[i], List.getElem?_eq_getElem small⟩
      have pin : p ∈ L := List.mem_of_getElem? hp
      have other : p.2 ≠ k := fun e => out (List.mem_map.mpr ⟨p, pin, e⟩)
      have behind : wpAny (model P w) A (searchRest a (.ref x) (thash P w k) false f es t (way t.mask (thash P w k) (c + q)) i (nth t.mask p0 (c + (q + 1)))) Q E s := by
        unfold searchRest
        rw [R.entry hp]
        dsimp only
        refine wpAny_bind (wpAny_holding ((wpAny_eqBool_tuple un (R.tup p pin) kx) ?_))
        refine wpAny_bind ((wpAny_setState_of hob dat R.fits) ?_)
        dsimp only
        refine (wp_if_neg (by simp)) ?_
        try refine (wpAny_bind (wpAny_pure ?_))
        rw [sameMem]
        dsimp only
        have live := slot_live R.tab.ris slot
        simp only [if_true, live, R.entry hp]
        refine wpAny_bind (wpAny_isSame_ref_self (wpAny_bind (wpAny_pure ?_)))
        simp only [if_true]
        refine (wp_if_neg (by simp [other])) ?_
        refine free_from R kx un out lessK gapK fullK win f (c + (q + 1)) (some (nth t.mask p0 (c + (q + 1)))) ?_ (by omega) (by omega)
        rw [base0]
        rfl
      by_cases led : t.led = true
      · refine (wp_if_neg (by simp [led])) ?_
        try refine (wpAny_bind (wpAny_pure ?_))
        exact behind
      · refine (wp_if_pos (by simp [led])) ?_
        refine wpAny_bind ((seen_tup kx fun y hy => ?_) ?_)
        · obtain ⟨e, he, ee⟩ := List.mem_map.mp hy
          have e1 : e ∈ es ∧ e.1 = thash P w k := by simpa using he
          have e2 : e ∈ es.toList := by simpa using e1.1
          rw [R.rows] at e2
          obtain ⟨p2, m2, rfl⟩ := List.mem_map.mp e2
          exact ⟨p2.2, p2.1, ee.symm, R.tup p2 m2⟩
        · refine (wp_if_neg (by decide)) ?_
          try refine (wpAny_bind (wpAny_pure ?_))
          exact behind
    · have ans2 : t.probe (fun i => (es[i]?.map (·.1)).getD 0) (thash P w k) (stand.getD (t.probeStart (thash P w k))) = some (.empty (way t.mask (thash P w k) K) none) := by
        have e2 : way t.mask (thash P w k) K = (nth t.mask (nth t.mask p0 c) (K - c)).j := by rw [at2, Nat.add_sub_cancel' cK]
        rw [here, e2]
        exact ans
      rw [ans2]
      dsimp only
      exact wpAny_pure win
/-- the key is not there -/
theorem find_out (R : SetTR P w s.heap a L es ep t) {x : Addr} {k : List Int} (kx : IsT P w s.heap k x) (un : A.units < cLine) (out : k ∉ L.map (·.2)) {Q : Option Nat → Shared → Prop} (win : Q none s) :
    wpAny (model P w) A (setFind a (.ref x) (thash P w k)) Q E s := by
  obtain ⟨ob, hob, exact_, dat⟩ := R.ob
  have room_ := R.room
  obtain ⟨K, lessK, gapK, fullK⟩ := R.tab.first (by rw [List.length_map]; omega) (thash P w k)
  have few : K < 100000 := by
    have : 10 * SetTable.turns t.mask ≤ 1420 := by
      unfold SetTable.turns
      rcases R.tab.mok with e | e | e <;> omega
    omega
  unfold setFind
  rw [show (100000 : Nat) = 99999 + 1 from rfl]
  unfold setFindIn
  refine wpAny_bind ((wpAny_setState_of hob dat R.fits) ?_)
  dsimp only
  refine (wp_if_neg (by simp [byScan, Value.scannable])) ?_
  try refine (wpAny_bind (wpAny_pure ?_))
  unfold setSearch
  refine wpAny_bind (free_from R kx un out lessK gapK fullK ?_ 100000 0 none rfl (Nat.zero_le _) (by omega))
  dsimp only
  exact wpAny_pure win
end
section
variable {X : Cx}
theorem cr_set0T : CallR X (.type "set") (fun xs H Q => xs = [] ∧ ∀ p, H p = none → Q (.ref p) (upd H p (SetTO X.prog X.w p []))) := by
  intro pins s σ H xs us Q I r h
  obtain ⟨rfl, q⟩ := h
  cases r
  refine setR_new fun _ => ?_
  exact ⟨.ref _, upd H s.heap.objs.size (SetTO X.prog X.w s.heap.objs.size []), I.laid (t' := s.toks) (fun b u e => Heap.get?_push_of_some _ e) (Nat.le_refl _) (setTO_new (setTR_fresh (Heap.get?_push_size _ rfl)).t0), rfl, q _ (I.hok.fresh (Nat.le_refl _))⟩
theorem setT_full {pins : List (Addr × Obj)} {σ : L2.St} {H : Hp} {s : Shared} {a : Addr} {L : List (Addr × List Int)} (I : Inv X pins σ H s) (h : H a = some (SetTO X.prog X.w a L)) (ht : ∀ p ∈ L, SqT X.K H p.1 (p.2.map V.int)) : ∃ es ep t, SetTR X.prog X.w s.heap a L es ep t := by
  have o := I.hok a _ h
  have z : SetT0 X.prog X.w s.heap a L := o.1
  exact z.full fun p hp => I.isT (ht p hp)
/-- t in found, which it is not -/
def rOutT (K : PySem.W.Frag) (P : Program) (w : World) : R2 := fun x y H Q => ∃ (b a : Addr) (k : List Int) (L : List (Addr × List Int)), x = .ref b ∧ y = .ref a ∧ SqT K H b (k.map V.int) ∧ H a = some (SetTO P w a L) ∧ (∀ p ∈ L, SqT K H p.1 (p.2.map V.int)) ∧ k ∉ L.map (·.2) ∧ Q (.bl false) H
theorem op_outT (un : X.A.units + 64 < cLine) : OpR X (compareOp .In) (rOutT X.K X.prog X.w) := by
  intro pins s σ H x y v u Q I rx ry h
  obtain ⟨b, a, k, L, rfl, rfl, hk, ha, hL, out, q⟩ := h
  cases rx
  cases ry
  obtain ⟨es, ep, t, R⟩ := setT_full I ha hL
  obtain ⟨ob, hob, ex, dat⟩ := R.ob
  have ty : s.TypeIs (.ref a) "set" := ⟨ob, hob, ex.1⟩
  show wpAny _ _ (do return Value.bool (← contains (.ref a) (.ref b))) _ _ s
  refine (wpAny_bind ?_)
  unfold contains
  try with_reducible refine (wpAny_holding ?_)
  refine wpAny_bind ((wpAny_specialOf ty PySem.F.slot_set_contains.lookup) ?_)
  show wpAny _ _ (if (some (Value.builtin "set.__contains__") == some Value.none) = true then _ else _) _ _ s
  rw [if_neg (show ¬ _ by rw [beq_builtin_none]; exact Bool.false_ne_true)]
  refine wpAny_bind ((wpAny_callSpecialUnlessNone?_slot (name := Str.ofString "__contains__") ty PySem.F.slot_set_contains)
    (wpAny_call_entry PySem.F.slot_set_contains ty entry_set_contains (ha := PySem.F.args_set_contains_2 _ _) ?_))
  unfold Builtin.«frozenset.__contains__» Builtin.Frozenset.oneOther
  simp only [List.isEmpty_nil, bind_assoc]
  unfold Builtin.Frozenset.addrOf Builtin.Frozenset.withSetAsKey setContains
  refine (wpAny_bind (wpAny_pure ?_))
  try dsimp only
  refine (wpAny_bind (wpAny_pure ?_))
  try dsimp only
  refine (wpAny_bind (wpAny_tryCatch ?_))
  refine (wpAny_holding ?_)
  have kx := I.isT hk
  refine wpAny_bind ((wpAny_pyHash_tuple (by show X.A.units + 1 < cLine; omega) kx) ?_)
  refine wpAny_bind (find_out (s := { s with toks := s.toks + (k.length + 1) }) R kx (by show X.A.units + 1 < cLine; omega) out ?_)
  refine (wpAny_pure ?_)
  show wpAny _ _ (ret (Value.bool false)) _ _ _
  exact wpAny_pure ⟨_, rfl, wpAny_truthy_bool (wpAny_pure ⟨.bl false, H, I.tok _, rfl, q⟩)⟩
/-- found.add(t), a new member -/
def rAddT (K : PySem.W.Frag) (P : Program) (w : World) : V → List V → Hp → VK → Prop := fun x xs H Q => ∃ (a b : Addr) (k : List Int) (L : List (Addr × List Int)), x = V.ref a ∧ xs = [V.ref b] ∧ H a = some (SetTO P w a L) ∧ SqT K H b (k.map V.int) ∧ (∀ p ∈ L, SqT K H p.1 (p.2.map V.int)) ∧ k ∉ L.map (·.2) ∧ L.length + 1 < 64 ∧
  ∀ L', L'.Perm ((b, k) :: L) → Q .non (upd H a (SetTO P w a L'))
theorem mt_addT (un : X.A.units + 64 < cLine) : MtR X "set.add" (rAddT X.K X.prog X.w) := by
  intro pins s σ H x xs v us Q I rx rxs h
  obtain ⟨a, b, k, L, rfl, rfl, ha, hk, hL, out, few, q⟩ := h
  cases rx
  cases rxs with
  | cons ry rt =>
    cases rt
    cases ry
    obtain ⟨es, ep, t, R⟩ := setT_full I ha hL
    obtain ⟨ob, hob, ex, dat⟩ := R.ob
    have ty : s.TypeIs (.ref a) "set" := ⟨ob, hob, ex.1⟩
    have kx := I.isT hk
    refine wpAny_call_entry PySem.F.slot_set_add ty PySem.F.entry_set_add (ha := PySem.F.args_set_add_2 _ _) ?_
    unfold Builtin.«set.add» Builtin.Frozenset.oneOther
    simp only [List.isEmpty_nil, bind_assoc]
    unfold Builtin.Frozenset.addrOf setAdd
    refine (wpAny_bind (wpAny_pure ?_))
    try dsimp only
    refine (wpAny_bind (wpAny_pure ?_))
    try dsimp only
    refine (wpAny_bind ?_)
    refine (wpAny_holding ?_)
    refine wpAny_bind ((wpAny_pyHash_tuple (by show X.A.units + 1 < cLine; omega) kx) ?_)
    refine add_at (s := { s with toks := s.toks + (k.length + 1) }) R kx (by show X.A.units + 1 < cLine; omega) few fun bb h' L' es' ep' t' sb R' _ pm => ?_
    show wpAny _ _ (ret Value.none) _ _ _
    have he : ∃ u, h'.get? a = some u := by
      obtain ⟨o, ho, _⟩ := R'.ob
      exact ⟨o, ho⟩
    refine wpAny_pure ⟨_, rfl, .non, upd H a (SetTO X.prog X.w a L'), ?_, rfl, q L' (pm out)⟩
    exact I.write (e := a) (t' := s.toks + (k.length + 1)) (by rw [ha]; trivial) (.inl rfl) (fun c u hc hu => (sb.2 c hc).trans hu) he (setTO_new R'.t0)
def tAddT (K : PySem.W.Frag) (P : Program) (w : World) (to : TE) (t : TA) : TE := fun σ H Q => to σ H fun x H1 => (∃ a L, x = V.ref a ∧ H1 a = some (SetTO P w a L) ∧ ∀ p ∈ L, SqT K H1 p.1 (p.2.map V.int)) ∧ t σ H1 fun xs H2 => rAddT K P w x xs H2 Q
variable {o e : Expr} {es : List Expr} {to : TE} {t : TA} {apos cpos : Pos}
theorem pe_addT (un : X.A.units + 64 < cLine) (ho : PE X o to) (ha : PA X (e :: es) t)
    (hbase : attributeBase o "add" X.env (eval o X.env) = eval o X.env := by rfl)
    (hfew : ((backTo cpos (starEach (e :: es) X.env)).all (fun x => !x.1) && (backToKw cpos (keywordEach [] X.env)).all (fun x => x.1.isSome) && decide ((e :: es).length + ([] : List Keyword).length + (if ([] : List Keyword).isEmpty then 0 else 1) < 30)) = true := by rfl)
    (hline : (apos.endLine == cpos.line) = true := by rfl) (hstar : starEach (e :: es) X.env = (false, eval e X.env) :: starEach es X.env := by rfl) (hplain : (backTo cpos (starEach es X.env)).any (·.1) = false := by rfl) :
    PE X (.Call (.Attribute o "add" apos) (e :: es) [] cpos) (tAddT X.K X.prog X.w to t) := by
  refine ⟨fun pins s σ H Q I h => ?_⟩
  refine (wpAny_Call_method_late hbase hfew hline rfl) (thn (ho.run pins s σ H _ I h) fun v s1 ⟨x, H1, I1, r1, ty, q1⟩ => ?_)
  obtain ⟨a, L, rfl, hL, hp⟩ := ty
  obtain ⟨tes, ep, tt, R⟩ := setT_full I1 hL hp
  obtain ⟨ob, hob, ex, dat⟩ := R.ob
  cases r1
  refine ⟨"set", "set.add", PySem.F.plainAttrs_set, PySem.F.slot_set_add, PySem.F.type_set_add, ⟨ob, hob, ex.1⟩, ?_, ?_⟩
  · intro a1 e1
    cases e1
    exact ⟨ob, hob, ex.2.1⟩
  · have run := ha.run cpos pins s1 σ H1 _ I1 q1
    rw [hstar] at run ⊢
    refine Calls.callWith_builtin (by show (false || (backTo cpos (starEach es X.env)).any (·.1)) = false; rw [hplain]; rfl) (Calls.evalArgs_plain ?_)
    exact thn run fun us s2 ⟨vs, H2, I2, r2, q2⟩ => mt_addT un pins s2 σ H2 (.ref a) vs (.ref a) us Q I2 rfl r2 q2
end
end Q2

namespace PM
open PySem PySem.Spec PyProof.Rows L2 Q2
/-! ### readings that imply one another -/
section
variable {X : Cx}
theorem pe_imp {e : Expr} {t t' : TE} (h : PE X e t) (hi : ∀ σ H Q, t' σ H Q → t σ H Q) : PE X e t' := ⟨fun pins s σ H Q I hw => h.run pins s σ H Q I (hi _ _ _ hw)⟩
theorem pt_imp {e : Expr} {t t' : TT} (h : PT X e t) (hi : ∀ σ H Q, t' σ H Q → t σ H Q) : PT X e t' := ⟨fun pins s σ H Q I hw => h.run pins s σ H Q I (hi _ _ _ hw)⟩
theorem pw_imp {e : Expr} {t t' : TT} (h : PW X e t) (hi : ∀ σ H Q, t' σ H Q → t σ H Q) : PW X e t' := ⟨fun whole pins s σ H Q I hw => h.run whole pins s σ H Q I (hi _ _ _ hw)⟩
theorem pa_imp {e : List Expr} {t t' : TA} (h : PA X e t) (hi : ∀ σ H Q, t' σ H Q → t σ H Q) : PA X e t' := ⟨fun pos pins s σ H Q I hw => h.run pos pins s σ H Q I (hi _ _ _ hw)⟩
theorem ps_imp {st : Stmt} {t t' : TS} (h : PS X st t) (hi : ∀ D σ H, t' D σ H → t D σ H) : PS X st t' := ⟨fun pins s σ H D I hw => h.run pins s σ H D I (hi _ _ _ hw)⟩
theorem pss_imp {st : List Stmt} {t t' : TS} (h : PSs X st t) (hi : ∀ D σ H, t' D σ H → t D σ H) : PSs X st t' := ⟨fun pins s σ H D I hw => h.run pins s σ H D I (hi _ _ _ hw)⟩
theorem pi_imp {tg e : Expr} {t t' : TI} (h : PI X tg e t) (hi : ∀ σ H R, t' σ H R → t σ H R) : PI X tg e t' := ⟨fun pins s σ H R I hw => h.run pins s σ H R I (hi _ _ _ hw)⟩
end
/-! ### values and objects -/
inductive Va where
  | non | bl (b : Bool) | int (i : Int) | str (s : Str) | tup (xs : List Va) | rol (xs : List Va) | ref (n : Nat) | adr (a : Addr) | ty (n : String) | exc (a d : Addr) (f : Str) (v : Va)
inductive Ob where
  | lst (xs : List Va)
  | setT (ks : List (List Int))
  | raw (o : HO)
  | tbl (q : Str)
  | dct (kvs : List (Key × Va))
abbrev Sto := List Ob
/-- the lambdas that a def makes are called so -/
def lamQ (x : Str) : Str := x ++ ".<locals>." ++ "<lambda>"
abbrev En := List (Option Va)
/-- a list that nobody changes -/
def FzL (K : PySem.W.Frag) (H : Hp) (a : Addr) (xs : List V) : Prop :=
  (∃ o, H a = some (.frz o (.lst xs))) ∨
    ∃ (o : Obj) (its : Array Value) (n : Nat), K.lookup a = some o ∧ o.cls = .type "list" ∧ o.dict = none ∧ o.data = .seq its n ∧ its.size ≤ sizeLine ∧ Vals xs its.toList
theorem FzL.sq {K : PySem.W.Frag} {H : Hp} {a : Addr} {xs : List V} (h : FzL K H a xs) : SqL K H a xs := h.elim (fun z => .inl (.inr z)) .inr
/-- the written part, the program, the world -/
structure KX where
  K : PySem.W.Frag
  P : Program
  w : World
abbrev kxOf (X : Cx) : KX := ⟨X.K, X.prog, X.w⟩
mutual
def Rv (K : KX) (ρ : List Addr) (H : Hp) : Va → V → Prop
  | .non, w => w = .non
  | .bl b, w => w = .bl b
  | .int i, w => w = .int i
  | .str s, w => w = .str s
  | .tup xs, w => ∃ a ws, w = .ref a ∧ SqT K.K H a ws ∧ Rvs K ρ H xs ws
  | .rol xs, w => ∃ a ws, w = .ref a ∧ FzL K.K H a ws ∧ Rvs K ρ H xs ws
  | .ref n, w => ∃ a, ρ[n]? = some a ∧ w = .ref a
  | .adr a, w => w = .ref a
  | .ty n, w => w = .ty n
  | .exc a d f v, w => w = .ref a ∧ d ∉ ρ ∧ ∃ u, H d = some (.xd [(f, u)]) ∧ Rv K ρ H v u
def Rvs (K : KX) (ρ : List Addr) (H : Hp) : List Va → List V → Prop
  | [], ws => ws = []
  | x :: xs, ws => ∃ w r, ws = w :: r ∧ Rv K ρ H x w ∧ Rvs K ρ H xs r
end
section
variable {K : KX} {ρ ρ' : List Addr} {H H' : Hp}
theorem Rvs.cons {x : Va} {xs : List Va} {w : V} {ws : List V} (h : Rv K ρ H x w) (t : Rvs K ρ H xs ws) : Rvs K ρ H (x :: xs) (w :: ws) := ⟨w, ws, rfl, h, t⟩
theorem Rvs.nil : Rvs K ρ H [] [] := rfl
theorem Rvs.len : ∀ {xs : List Va} {ws : List V}, Rvs K ρ H xs ws → xs.length = ws.length
  | [], _, h => by cases h; rfl
  | x :: xs, _, h => by
    obtain ⟨w, r, rfl, _, t⟩ := h
    simp only [List.length_cons, t.len]
theorem Rvs.get : ∀ {xs : List Va} {ws : List V}, Rvs K ρ H xs ws → ∀ {i : Nat} {x : Va}, xs[i]? = some x → ∃ w, ws[i]? = some w ∧ Rv K ρ H x w
  | [], _, _, _, _, e => by simp at e
  | y :: xs, _, h, 0, x, e => by
    obtain ⟨w, r, rfl, hw, _⟩ := h
    cases (show some y = some x from by simpa using e)
    exact ⟨w, rfl, hw⟩
  | y :: xs, _, h, i + 1, x, e => by
    obtain ⟨w, r, rfl, _, t⟩ := h
    exact t.get (i := i) (by simpa using e)
theorem Rvs.of : ∀ {xs : List Va} {ws : List V}, xs.length = ws.length → (∀ (i : Nat) (x : Va) (w : V), xs[i]? = some x → ws[i]? = some w → Rv K ρ H x w) → Rvs K ρ H xs ws
  | [], [], _, _ => rfl
  | x :: xs, w :: ws, hl, h => ⟨w, ws, rfl, h 0 x w rfl rfl, Rvs.of (by simpa using hl) fun i y z h1 h2 => h (i + 1) y z (by simpa using h1) (by simpa using h2)⟩
theorem Rvs.app {xs ys : List Va} {ws us : List V} (h : Rvs K ρ H xs ws) (h' : Rvs K ρ H ys us) : Rvs K ρ H (xs ++ ys) (ws ++ us) := by
  induction xs generalizing ws with
  | nil => cases h; exact h'
  | cons x xs ih =>
    obtain ⟨w, r, rfl, hw, t⟩ := h
    exact ⟨w, r ++ us, rfl, hw, ih t⟩
theorem Rvs.at {xs : List Va} {ws : List V} (h : Rvs K ρ H xs ws) {i : Nat} {x : Va} {w : V} (e : xs[i]? = some x) (e' : ws[i]? = some w) : Rv K ρ H x w := by
  obtain ⟨w', h1, h2⟩ := h.get e
  cases h1.symm.trans e'
  exact h2
theorem Rvs.take {xs : List Va} {ws : List V} (n : Nat) (h : Rvs K ρ H xs ws) : Rvs K ρ H (xs.take n) (ws.take n) := by
  refine Rvs.of (by simp [h.len]) fun i x w h1 h2 => ?_
  rw [List.getElem?_take] at h1 h2
  split at h1
  · rw [if_pos (by assumption)] at h2
    exact h.at h1 h2
  · cases h1
theorem Rvs.drop {xs : List Va} {ws : List V} (n : Nat) (h : Rvs K ρ H xs ws) : Rvs K ρ H (xs.drop n) (ws.drop n) := by
  refine Rvs.of (by simp [h.len]) fun i x w h1 h2 => ?_
  rw [List.getElem?_drop] at h1 h2
  exact h.at h1 h2
theorem Rvs.rev {xs : List Va} {ws : List V} (h : Rvs K ρ H xs ws) : Rvs K ρ H xs.reverse ws.reverse := by
  have hl := h.len
  refine Rvs.of (by simp [h.len]) fun i x w h1 h2 => ?_
  have hi : i < xs.length := by
    have := (List.getElem?_eq_some_iff.mp h1).1
    simpa using this
  rw [List.getElem?_reverse hi] at h1
  rw [List.getElem?_reverse (by omega)] at h2
  rw [hl] at h1
  exact h.at h1 h2
theorem Rvs.set {xs : List Va} {ws : List V} (h : Rvs K ρ H xs ws) (j : Nat) {y : Va} {u : V} (hy : Rv K ρ H y u) : Rvs K ρ H (xs.set j y) (ws.set j u) := by
  have hl := h.len
  refine Rvs.of (by simp [h.len]) fun i x w h1 h2 => ?_
  rw [List.getElem?_set] at h1 h2
  by_cases e : j = i
  · rw [if_pos e] at h1 h2
    split at h1
    · rw [if_pos (by omega)] at h2
      cases h1
      cases h2
      exact hy
    · cases h1
  · rw [if_neg e] at h1 h2
    exact h.at h1 h2
/-- the objects of the store are none that a value holds by itself -/
def NT (ρ : List Addr) (H : Hp) : Prop := ∀ a ∈ ρ, ∃ o, H a = some o ∧ (∀ xs, o ≠ .tup xs) ∧ ∀ p u, o ≠ .frz p u
structure Ext (ρ ρ' : List Addr) (H H' : Hp) : Prop where
  nt : NT ρ H
  pre : ∃ l, ρ' = ρ ++ l
  fr : ∀ b o, H b = some o → b ∉ ρ → H' b = some o
  new : ∀ b ∈ ρ', b ∉ ρ → H b = none
theorem Ext.refl (n : NT ρ H) : Ext ρ ρ H H := ⟨n, ⟨[], by simp⟩, fun _ _ h _ => h, fun b h n => absurd h n⟩
theorem Ext.trans {ρ'' : List Addr} {H'' : Hp} (a : Ext ρ ρ' H H') (b : Ext ρ' ρ'' H' H'') : Ext ρ ρ'' H H'' := by
  obtain ⟨l, hl⟩ := a.pre
  obtain ⟨m, hm⟩ := b.pre
  refine ⟨a.nt, ⟨l ++ m, by rw [hm, hl, List.append_assoc]⟩, fun c o h n => b.fr c o (a.fr c o h n) fun z => ?_, fun c hc n => ?_⟩
  · have := a.new c z n
    rw [h] at this
    cases this
  · by_cases hc' : c ∈ ρ'
    · exact a.new c hc' n
    · have h1 := b.new c hc hc'
      cases e : H c with
      | none => rfl
      | some o =>
        have := a.fr c o e n
        rw [h1] at this
        cases this
theorem Ext.get (E : Ext ρ ρ' H H') {n : Nat} {a : Addr} (h : ρ[n]? = some a) : ρ'[n]? = some a := by
  obtain ⟨l, rfl⟩ := E.pre
  rw [List.getElem?_append_left (List.getElem?_eq_some_iff.mp h).1]
  exact h
theorem Ext.rd (E : Ext ρ ρ' H H') {a : Addr} {u : HO} (hu : (∃ xs, u = .tup xs) ∨ ∃ p q, u = .frz p q) (h : H a = some u) : H' a = some u := by
  refine E.fr a u h fun z => ?_
  obtain ⟨o, h1, h2, h3⟩ := E.nt a z
  rw [h] at h1
  cases h1
  rcases hu with ⟨xs, e⟩ | ⟨p, q, e⟩
  · exact h2 xs e
  · exact h3 p q e
theorem Ext.sqt (E : Ext ρ ρ' H H') {a : Addr} {ws : List V} (h : SqT K.K H a ws) : SqT K.K H' a ws := by
  rcases h with (h | ⟨o, h⟩) | h
  · exact .inl (.inl (E.rd (.inl ⟨_, rfl⟩) h))
  · exact .inl (.inr ⟨o, E.rd (.inr ⟨_, _, rfl⟩) h⟩)
  · exact .inr h
theorem Ext.fzl (E : Ext ρ ρ' H H') {a : Addr} {ws : List V} (h : FzL K.K H a ws) : FzL K.K H' a ws := by
  rcases h with ⟨o, h⟩ | h
  · exact .inl ⟨o, E.rd (.inr ⟨_, _, rfl⟩) h⟩
  · exact .inr h
mutual
theorem Rv.ext (E : Ext ρ ρ' H H') : ∀ {v : Va} {w : V}, Rv K ρ H v w → Rv K ρ' H' v w
  | .non, _, h => h
  | .bl _, _, h => h
  | .int _, _, h => h
  | .str _, _, h => h
  | .tup xs, _, h => by
    obtain ⟨a, ws, rfl, h1, h2⟩ := h
    exact ⟨a, ws, rfl, E.sqt h1, Rvs.ext E h2⟩
  | .rol xs, _, h => by
    obtain ⟨a, ws, rfl, h1, h2⟩ := h
    exact ⟨a, ws, rfl, E.fzl h1, Rvs.ext E h2⟩
  | .ref n, _, h => by
    obtain ⟨a, h1, rfl⟩ := h
    exact ⟨a, E.get h1, rfl⟩
  | .adr _, _, h => h
  | .ty _, _, h => h
  | .exc a d f v, _, h => by
    obtain ⟨h1, h2, u, h3, h4⟩ := h
    refine ⟨h1, fun z => ?_, u, E.fr d _ h3 h2, Rv.ext E h4⟩
    have := E.new d z h2
    rw [h3] at this
    cases this
theorem Rvs.ext (E : Ext ρ ρ' H H') : ∀ {xs : List Va} {ws : List V}, Rvs K ρ H xs ws → Rvs K ρ' H' xs ws
  | [], _, h => h
  | x :: xs, _, h => by
    obtain ⟨w, r, rfl, hw, t⟩ := h
    exact ⟨w, r, rfl, Rv.ext E hw, Rvs.ext E t⟩
end
theorem nd_get {l : List Addr} (nd : l.Nodup) {i j : Nat} {hi : i < l.length} {hj : j < l.length} (e : ¬ i = j) : l[i] ≠ l[j] := by
  have q := List.pairwise_iff_getElem.mp nd
  rcases Nat.lt_or_gt_of_ne e with h | h
  · exact q i j hi hj h
  · exact (q j i hj hi h).symm
/-! ### the store and the heap -/
def RO (K : KX) (ρ : List Addr) (H : Hp) (a : Addr) : Ob → Prop
  | .lst xs => xs.length ≤ sizeLine ∧ ∃ ws, H a = some (.lst ws) ∧ Rvs K ρ H xs ws
  | .setT ks => ∃ L : List (Addr × List Int), H a = some (SetTO K.P K.w a L) ∧ (L.map (·.2)).Perm ks ∧ ∀ p ∈ L, SqT K.K H p.1 (p.2.map V.int)
  | .raw o => H a = some o ∧ (∀ xs, o ≠ .tup xs) ∧ (∀ p u, o ≠ .frz p u) ∧ ∀ fs, o ≠ .xd fs
  | .tbl q => ∃ ps : Array Value, H a = some (.tbl ps) ∧ TriplesOk ps.toList ∧ (∀ (pos : Pos) (cv : Value), codeAmong pos ps.toList = some cv → ∃ c, cv = .ref c ∧ c ∉ ρ ∧ H c = some (LamX.CodeO c (lamQ q))) ∧ ∃ c, PySem.W.tabIn K.K q = some (c, a)
  | .dct kvs => ∃ ws : List (Key × V), H a = some (.dK ws) ∧ kvs.map (·.1) = ws.map (·.1) ∧ Rvs K ρ H (kvs.map (·.2)) (ws.map (·.2))
structure RS (K : KX) (ρ : List Addr) (S : Sto) (H : Hp) : Prop where
  len : ρ.length = S.length
  nd : ρ.Nodup
  at_ : ∀ (n : Nat) (a : Addr) (o : Ob), ρ[n]? = some a → S[n]? = some o → RO K ρ H a o
theorem RO.nt {a : Addr} {o : Ob} (h : RO K ρ H a o) : ∃ o, H a = some o ∧ (∀ xs, o ≠ .tup xs) ∧ ∀ p u, o ≠ .frz p u := by
  cases o with
  | lst xs =>
    obtain ⟨_, ws, h, _⟩ := h
    exact ⟨_, h, (fun _ z => by cases z), (fun _ _ z => by cases z)⟩
  | setT ks =>
    obtain ⟨L, h, _⟩ := h
    exact ⟨_, h, (fun _ z => by unfold SetTO at z; cases z), (fun _ _ z => by unfold SetTO at z; cases z)⟩
  | raw o => exact ⟨o, h.1, h.2.1, h.2.2.1⟩
  | tbl q =>
    obtain ⟨ps, h, _⟩ := h
    exact ⟨_, h, (fun _ z => by cases z), (fun _ _ z => by cases z)⟩
  | dct kvs =>
    obtain ⟨ws, h, _⟩ := h
    exact ⟨_, h, (fun _ z => by cases z), (fun _ _ z => by cases z)⟩
theorem RO.noxd {a : Addr} {o : Ob} {fs : List (Str × V)} (h : RO K ρ H a o) : H a ≠ some (.xd fs) := fun z => by
  cases o with
  | lst xs =>
    obtain ⟨_, ws, h, _⟩ := h
    rw [h] at z
    cases z
  | setT ks =>
    obtain ⟨L, h, _⟩ := h
    rw [h] at z
    unfold SetTO at z
    cases z
  | raw o => exact h.2.2.2 fs (Option.some.inj (h.1.symm.trans z))
  | tbl q =>
    obtain ⟨ps, h, _⟩ := h
    rw [h] at z
    cases z
  | dct kvs =>
    obtain ⟨ws, h, _⟩ := h
    rw [h] at z
    cases z
theorem RO.ext {a : Addr} {o : Ob} (E : Ext ρ ρ' H H') (e : H' a = H a) (h : RO K ρ H a o) : RO K ρ' H' a o := by
  cases o with
  | lst xs =>
    obtain ⟨hl, ws, h, t⟩ := h
    exact ⟨hl, ws, by rw [e]; exact h, t.ext E⟩
  | setT ks =>
    obtain ⟨L, h1, h2, h3⟩ := h
    exact ⟨L, by rw [e]; exact h1, h2, fun p hp => E.sqt (h3 p hp)⟩
  | raw o => exact ⟨by rw [e]; exact h.1, h.2⟩
  | tbl q =>
    obtain ⟨ps, h1, h2, h3, h4⟩ := h
    refine ⟨ps, by rw [e]; exact h1, h2, fun pos cv hc => ?_, h4⟩
    obtain ⟨c, e1, e2, e3⟩ := h3 pos cv hc
    refine ⟨c, e1, fun z => ?_, E.fr c _ e3 e2⟩
    have := E.new c z e2
    rw [e3] at this
    cases this
  | dct kvs =>
    obtain ⟨ws, h1, h2, h3⟩ := h
    exact ⟨ws, by rw [e]; exact h1, h2, h3.ext E⟩
section
variable {S : Sto}
theorem RS.nt (R : RS K ρ S H) : NT ρ H := fun a ha => by
  obtain ⟨n, hn⟩ := List.getElem?_of_mem ha
  have hl : n < S.length := by rw [← R.len]; exact (List.getElem?_eq_some_iff.mp hn).1
  exact (R.at_ n a S[n] hn (List.getElem?_eq_getElem hl)).nt
theorem RS.noxd (R : RS K ρ S H) {d : Addr} {fs : List (Str × V)} (h : H d = some (.xd fs)) : d ∉ ρ := fun z => by
  obtain ⟨n, hn⟩ := List.getElem?_of_mem z
  have hl : n < S.length := by rw [← R.len]; exact (List.getElem?_eq_some_iff.mp hn).1
  exact (R.at_ n d S[n] hn (List.getElem?_eq_getElem hl)).noxd h
theorem RS.refl (R : RS K ρ S H) : Ext ρ ρ H H := Ext.refl R.nt
theorem RS.fresh (R : RS K ρ S H) {p : Addr} (hp : H p = none) : p ∉ ρ := fun z => by
  obtain ⟨o, h, _⟩ := R.nt p z
  rw [hp] at h
  cases h
theorem RS.adr (R : RS K ρ S H) {n : Nat} {o : Ob} (h : S[n]? = some o) : ∃ a, ρ[n]? = some a ∧ RO K ρ H a o := by
  have hl : n < ρ.length := by rw [R.len]; exact (List.getElem?_eq_some_iff.mp h).1
  exact ⟨ρ[n], List.getElem?_eq_getElem hl, R.at_ n _ o (List.getElem?_eq_getElem hl) h⟩
/-- an object that is none of the store's is made -/
theorem RS.own (R : RS K ρ S H) {p : Addr} {o : HO} (hp : H p = none) : Ext ρ ρ H (upd H p o) ∧ RS K ρ S (upd H p o) := by
  have hp' := R.fresh hp
  have E : Ext ρ ρ H (upd H p o) := ⟨R.nt, ⟨[], by simp⟩, fun b u h _ => by rw [upd_ne (ne_of_none h hp)]; exact h, fun b h n => absurd h n⟩
  refine ⟨E, R.len, R.nd, fun n a u h1 h2 => (R.at_ n a u h1 h2).ext E ?_⟩
  have : a ≠ p := fun z => hp' (by rw [← z]; exact List.mem_of_getElem? h1)
  rw [upd_ne this]
/-- a list is made -/
theorem RS.new (R : RS K ρ S H) {p : Addr} {xs : List Va} {ws : List V} (hp : H p = none) (hl : xs.length ≤ sizeLine) (h : Rvs K ρ H xs ws) :
    Ext ρ (ρ ++ [p]) H (upd H p (.lst ws)) ∧ RS K (ρ ++ [p]) (S ++ [.lst xs]) (upd H p (.lst ws)) := by
  have hp' := R.fresh hp
  have E : Ext ρ (ρ ++ [p]) H (upd H p (.lst ws)) := ⟨R.nt, ⟨[p], rfl⟩, fun b u h _ => by rw [upd_ne (ne_of_none h hp)]; exact h, fun b h n => by
    rcases List.mem_append.mp h with h | h
    · exact absurd h n
    · rw [List.mem_singleton.mp h]; exact hp⟩
  refine ⟨E, by simp [R.len], ?_, fun n a u h1 h2 => ?_⟩
  · refine List.nodup_append.mpr ⟨R.nd, by simp, fun x hx y hy z => hp' ?_⟩
    rw [← List.mem_singleton.mp hy, ← z]
    exact hx
  · by_cases hn : n < ρ.length
    · rw [List.getElem?_append_left hn] at h1
      rw [List.getElem?_append_left (by rw [← R.len]; exact hn)] at h2
      refine (R.at_ n a u h1 h2).ext E ?_
      have : a ≠ p := fun z => hp' (by rw [← z]; exact List.mem_of_getElem? h1)
      rw [upd_ne this]
    · have hn' : n = ρ.length := by
        have := (List.getElem?_eq_some_iff.mp h1).1
        simp at this
        omega
      subst hn'
      rw [List.getElem?_append_right (Nat.le_refl _), Nat.sub_self] at h1
      rw [List.getElem?_append_right (by rw [R.len]; exact Nat.le_refl _), R.len, Nat.sub_self] at h2
      cases h1
      cases h2
      exact ⟨hl, ws, upd_same, h.ext E⟩
/-- a list is written -/
theorem RS.put (R : RS K ρ S H) {n : Nat} {a : Addr} {o : Ob} {xs : List Va} {ws : List V} (ha : ρ[n]? = some a) (_ : S[n]? = some o) (hl : xs.length ≤ sizeLine) (h : Rvs K ρ H xs ws) :
    Ext ρ ρ H (upd H a (.lst ws)) ∧ RS K ρ (S.set n (.lst xs)) (upd H a (.lst ws)) := by
  have am := List.mem_of_getElem? ha
  have E : Ext ρ ρ H (upd H a (.lst ws)) := ⟨R.nt, ⟨[], by simp⟩, fun b u h hb => by rw [upd_ne (fun z => hb (by rw [z]; exact am))]; exact h, fun b h n => absurd h n⟩
  refine ⟨E, by simp [R.len], R.nd, fun m b u h1 h2 => ?_⟩
  by_cases e : n = m
  · subst e
    cases ha.symm.trans h1
    rw [List.getElem?_set_self (List.getElem?_eq_some_iff.mp ‹S[n]? = some o›).1] at h2
    cases h2
    exact ⟨hl, ws, upd_same, h.ext E⟩
  · rw [List.getElem?_set_ne e] at h2
    refine (R.at_ m b u h1 h2).ext E ?_
    have : b ≠ a := fun z => by
      subst z
      have hm := (List.getElem?_eq_some_iff.mp h1)
      have hn := (List.getElem?_eq_some_iff.mp ha)
      exact nd_get R.nd e (hn.2.trans hm.2.symm)
    rw [upd_ne this]
end
/-! ### the slots -/
structure RE (K : KX) (ρ : List Addr) (H : Hp) (Γ : En) (σ : L2.St) : Prop where
  len : Γ.length = σ.length
  at_ : ∀ (i : Nat) (v : Va), Γ[i]? = some (some v) → ∃ w : V, σ[i]? = some (some w) ∧ Rv K ρ H v w
theorem RE.ext {Γ : En} {σ : L2.St} (E : Ext ρ ρ' H H') (h : RE K ρ H Γ σ) : RE K ρ' H' Γ σ := ⟨h.len, fun i v e => let ⟨w, h1, h2⟩ := h.at_ i v e; ⟨w, h1, h2.ext E⟩⟩
theorem RE.set {Γ : En} {σ : L2.St} (h : RE K ρ H Γ σ) (i : Nat) {v : Va} {w : V} (r : Rv K ρ H v w) : RE K ρ H (Γ.set i (some v)) (σ.set i (some w)) := by
  refine ⟨by simp [h.len], fun j u e => ?_⟩
  have hl := h.len
  rw [List.getElem?_set] at e
  by_cases z : i = j
  · subst z
    rw [if_pos rfl] at e
    split at e
    · cases e
      exact ⟨w, by rw [List.getElem?_set_self (by omega)], r⟩
    · cases e
  · rw [if_neg z] at e
    rw [List.getElem?_set_ne z]
    exact h.at_ j u e
end
end PM

namespace PM
open PySem PySem.Spec PyProof.Rows L2 Q2
/-! ### results -/
inductive Res (α : Type) where
  | bad | ok (a : α) (S : Sto) | ex (c f : Str) (v : Va) (S : Sto)
def Res.bind {α β : Type} (r : Res α) (k : α → Sto → Res β) : Res β :=
  match r with
  | .bad => .bad
  | .ok a S => k a S
  | .ex c f v S => .ex c f v S
@[simp] theorem bind_ok {α β : Type} (a : α) (S : Sto) (k : α → Sto → Res β) : (Res.ok a S).bind k = k a S := rfl
@[simp] theorem bind_bad {α β : Type} (k : α → Sto → Res β) : (Res.bad : Res α).bind k = .bad := rfl
@[simp] theorem bind_ex {α β : Type} (c f : Str) (v : Va) (S : Sto) (k : α → Sto → Res β) : (Res.ex c f v S : Res α).bind k = .ex c f v S := rfl
def lift {α : Type} : Option (α × Sto) → Res α
  | none => .bad
  | some (a, S) => .ok a S
abbrev XW := Str → Addr → L2.St → Hp → Prop
abbrev WF : XW := fun _ _ _ _ => False
section
variable {α β γ δ : Type}
/-- what is wanted behind a result -/
def Aft (K : KX) (W : XW) (σ : L2.St) (Rl : List Addr → Hp → α → β → Prop) (Q : β → Hp → Prop) (ρ : List Addr) (H : Hp) : Res α → Prop
  | .bad => False
  | .ok v S' => ∀ ρ' H' w, Ext ρ ρ' H H' → RS K ρ' S' H' → Rl ρ' H' v w → Q w H'
  | .ex c f v S' => ∀ ρ' H' w d, Ext ρ ρ' H H' → RS K ρ' S' H' → Rv K ρ' H' v w → H' d = some (.xd [(f, w)]) → W c d σ H'
theorem Aft.shift {K : KX} {W : XW} {σ : L2.St} {Rl : List Addr → Hp → α → β → Prop} {Q : β → Hp → Prop} {ρ ρ1 : List Addr} {H H1 : Hp} {r : Res α} (E : Ext ρ ρ1 H H1) (h : Aft K W σ Rl Q ρ H r) : Aft K W σ Rl Q ρ1 H1 r := by
  cases r with
  | bad => exact h
  | ok v S' => exact fun ρ' H' w E' => h ρ' H' w (E.trans E')
  | ex c f v S' => exact fun ρ' H' w d E' => h ρ' H' w d (E.trans E')
theorem Aft.bind {K : KX} {W : XW} {σ : L2.St} {Rl : List Addr → Hp → α → β → Prop} {Rl2 : List Addr → Hp → γ → δ → Prop} {Q : β → Hp → Prop} {Q2 : δ → Hp → Prop} {ρ : List Addr} {H : Hp} {r : Res α} {k : α → Sto → Res γ}
    (h : Aft K W σ Rl2 Q2 ρ H (r.bind k)) (hk : ∀ v S1 ρ1 H1 w, Ext ρ ρ1 H H1 → RS K ρ1 S1 H1 → Rl ρ1 H1 v w → Aft K W σ Rl2 Q2 ρ1 H1 (k v S1) → Q w H1) : Aft K W σ Rl Q ρ H r := by
  cases r with
  | bad => exact h
  | ok v S' => exact fun ρ' H' w E R q => hk v S' ρ' H' w E R q (Aft.shift E h)
  | ex c f v S' => exact h
end
/-! ### the judgements -/
abbrev ME := En → Sto → Res Va
abbrev MT := En → Sto → Res Bool
abbrev MA := En → Sto → Res (List Va)
def tM (K : KX) (W : XW) (m : ME) : TE := fun σ H Q => ∃ ρ Γ S, RS K ρ S H ∧ RE K ρ H Γ σ ∧ Aft K W σ (Rv K) Q ρ H (m Γ S)
def tMT (K : KX) (W : XW) (m : MT) : TT := fun σ H Q => ∃ ρ Γ S, RS K ρ S H ∧ RE K ρ H Γ σ ∧ Aft K W σ (fun _ _ (b c : Bool) => c = b) Q ρ H (m Γ S)
def tMA (K : KX) (W : XW) (m : MA) : TA := fun σ H Q => ∃ ρ Γ S, RS K ρ S H ∧ RE K ρ H Γ σ ∧ Aft K W σ (Rvs K) Q ρ H (m Γ S)
def PM (X : Cx) (W : XW) (e : Expr) (m : ME) : Prop := PE X e (tM (kxOf X) W m)
def PMT (X : Cx) (W : XW) (e : Expr) (m : MT) : Prop := PT X e (tMT (kxOf X) W m)
def PMW (X : Cx) (W : XW) (e : Expr) (m : MT) : Prop := PW X e (tMT (kxOf X) W m)
def PMA (X : Cx) (W : XW) (es : List Expr) (m : MA) : Prop := PA X es (tMA (kxOf X) W m)
/-! ### what a rule by values asks -/
def Ans (K : KX) (Q : VK) (ρ : List Addr) (H : Hp) : Option (Va × Sto) → Prop
  | none => False
  | some (v, S') => ∀ ρ' H' w, Ext ρ ρ' H H' → RS K ρ' S' H' → Rv K ρ' H' v w → Q w H'
theorem Aft.ans {K : KX} {W : XW} {σ : L2.St} {Q : VK} {ρ : List Addr} {H : Hp} {o : Option (Va × Sto)} (h : Aft K W σ (Rv K) Q ρ H (lift o)) : Ans K Q ρ H o := by
  cases o with
  | none => exact h
  | some p => exact h
abbrev F1 := Va → Sto → Option (Va × Sto)
abbrev F2 := Va → Va → Sto → Option (Va × Sto)
abbrev FL := List Va → Sto → Option (Va × Sto)
def OpM (K : KX) (r : R2) (f : F2) : Prop := ∀ ρ S H v w x y Q, RS K ρ S H → Rv K ρ H v x → Rv K ρ H w y → Ans K Q ρ H (f v w S) → r x y H Q
def UnM (K : KX) (r : V → Hp → VK → Prop) (f : F1) : Prop := ∀ ρ S H v x Q, RS K ρ S H → Rv K ρ H v x → Ans K Q ρ H (f v S) → r x H Q
def CallM (K : KX) (r : List V → Hp → VK → Prop) (f : FL) : Prop := ∀ ρ S H vs xs Q, RS K ρ S H → Rvs K ρ H vs xs → Ans K Q ρ H (f vs S) → r xs H Q
/-- a rule by values, whatever its form -/
def OpP (X : Cx) (g : Value → Value → Sem Value) (f : F2) : Prop := ∃ r, OpR X g r ∧ OpM (kxOf X) r f
def IxP (X : Cx) (f : F2) : Prop := ∃ r, IxR X r ∧ OpM (kxOf X) r f
def CallP (X : Cx) (g : Value) (f : FL) : Prop := ∃ r, CallR X g r ∧ CallM (kxOf X) r f
/-- the first, or the second -/
def orF2 (f g : F2) : F2 := fun v w S => match f v w S with
  | some p => some p
  | none => g v w S
theorem OpP.or {X : Cx} {g : Value → Value → Sem Value} {f f' : F2} (h : OpP X g f) (h' : OpP X g f') : OpP X g (orF2 f f') := by
  obtain ⟨r, h1, h2⟩ := h
  obtain ⟨r', h1', h2'⟩ := h'
  refine ⟨fun x y H Q => r x y H Q ∨ r' x y H Q, fun pins s σ H x y v u Q I rx ry q => ?_, fun ρ S H v w x y Q R rv rw a => ?_⟩
  · rcases q with q | q
    · exact h1 pins s σ H x y v u Q I rx ry q
    · exact h1' pins s σ H x y v u Q I rx ry q
  · unfold orF2 at a
    cases e : f v w S with
    | some p =>
      rw [e] at a
      exact .inl (h2 ρ S H v w x y Q R rv rw (by rw [e]; exact a))
    | none =>
      rw [e] at a
      exact .inr (h2' ρ S H v w x y Q R rv rw a)
theorem IxP.or {X : Cx} {f f' : F2} (h : IxP X f) (h' : IxP X f') : IxP X (orF2 f f') := by
  obtain ⟨r, h1, h2⟩ := h
  obtain ⟨r', h1', h2'⟩ := h'
  refine ⟨fun x y H Q => r x y H Q ∨ r' x y H Q, IxR.or h1 h1', fun ρ S H v w x y Q R rv rw a => ?_⟩
  unfold orF2 at a
  cases e : f v w S with
  | some p =>
    rw [e] at a
    exact .inl (h2 ρ S H v w x y Q R rv rw (by rw [e]; exact a))
  | none =>
    rw [e] at a
    exact .inr (h2' ρ S H v w x y Q R rv rw a)
/-! ### expressions -/
def mC (v : Va) : ME := fun _ S => .ok v S
def mV (i : Nat) : ME := fun Γ S => match Γ[i]? with
  | some (some v) => .ok v S
  | _ => .bad
def m1 (f : F1) (a : ME) : ME := fun Γ S => (a Γ S).bind fun v S1 => lift (f v S1)
def m2 (f : F2) (a b : ME) : ME := fun Γ S => (a Γ S).bind fun v S1 => (b Γ S1).bind fun w S2 => lift (f v w S2)
def maN : MA := fun _ S => .ok [] S
def maC (a : ME) (t : MA) : MA := fun Γ S => (a Γ S).bind fun v S1 => (t Γ S1).bind fun vs S2 => .ok (v :: vs) S2
def mL (f : FL) (t : MA) : ME := fun Γ S => (t Γ S).bind fun vs S1 => lift (f vs S1)
section
variable {X : Cx} {W : XW} {a b : Expr} {es : List Expr} {ma mb : ME} {t : MA} {pos p : Pos}
theorem pm_const {e : Expr} {v : Va} {w : V} (h : PE X e (tC w)) (r : ∀ ρ H, Rv (kxOf X) ρ H v w) : PM X W e (mC v) :=
  pe_imp h fun σ H Q ⟨ρ, Γ, S, R, G, q⟩ => q ρ H w R.refl R (r ρ H)
theorem pm_int {i : Int} {j : Nat} : PM X W (.Constant (.int i) j pos) (mC (.int i)) := pm_const pe_int fun _ _ => rfl
theorem pm_bl {i : Bool} {j : Nat} : PM X W (.Constant (.bool i) j pos) (mC (.bl i)) := pm_const pe_bl fun _ _ => rfl
theorem pm_non {j : Nat} : PM X W (.Constant .none j pos) (mC .non) := pm_const pe_non fun _ _ => rfl
theorem pm_str {z : Str} {j : Nat} : PM X W (.Constant (.str z) j pos) (mC (.str z)) := pm_const pe_str fun _ _ => rfl
theorem pm_var {i : Nat} {e : Expr} (h : PE X e (tVar i)) : PM X W e (mV i) := by
  refine pe_imp h fun σ H Q ⟨ρ, Γ, S, R, G, q⟩ => ?_
  unfold mV at q
  cases e : Γ[i]? with
  | none => rw [e] at q; exact q.elim
  | some o =>
    cases o with
    | none => rw [e] at q; exact q.elim
    | some v =>
      rw [e] at q
      obtain ⟨w, h1, h2⟩ := G.at_ i v e
      exact ⟨w, h1, q ρ H w R.refl R h2⟩
theorem pm_op {op : Operator} {f : F2} (ho : OpP X (binaryOp op) f) (ha : PM X W a ma) (hb : PM X W b mb) : PM X W (.BinOp a op b pos) (m2 f ma mb) := by
  obtain ⟨r, hr, hf⟩ := ho
  refine pe_imp (pe_op hr ha hb) fun σ H Q ⟨ρ, Γ, S, R, G, q⟩ => ?_
  refine ⟨ρ, Γ, S, R, G, q.bind fun v S1 ρ1 H1 x E1 R1 rx q1 => ?_⟩
  refine ⟨ρ1, Γ, S1, R1, G.ext E1, q1.bind fun w S2 ρ2 H2 y E2 R2 ry q2 => ?_⟩
  exact hf ρ2 S2 H2 v w x y Q R2 (rx.ext E2) ry q2.ans
theorem pm_cmp {op : CmpOp} {f : F2} (ho : OpP X (compareOp op) f) (ha : PM X W a ma) (hb : PM X W b mb) (hm : behindInMarks op b = false) : PM X W (.Compare a [op] [b] pos) (m2 f ma mb) := by
  obtain ⟨r, hr, hf⟩ := ho
  refine pe_imp (pe_cmpR hr ha hb hm) fun σ H Q ⟨ρ, Γ, S, R, G, q⟩ => ?_
  refine ⟨ρ, Γ, S, R, G, q.bind fun v S1 ρ1 H1 x E1 R1 rx q1 => ?_⟩
  refine ⟨ρ1, Γ, S1, R1, G.ext E1, q1.bind fun w S2 ρ2 H2 y E2 R2 ry q2 => ?_⟩
  exact hf ρ2 S2 H2 v w x y Q R2 (rx.ext E2) ry q2.ans
theorem pm_ix {f : F2} (ho : IxP X f) (ha : PM X W a ma) (hb : PM X W b mb) (hs : PlainIx b) : PM X W (.Subscript a b pos) (m2 f ma mb) := by
  obtain ⟨r, hr, hf⟩ := ho
  refine pe_imp (pe_ix hr ha hb hs) fun σ H Q ⟨ρ, Γ, S, R, G, q⟩ => ?_
  refine ⟨ρ, Γ, S, R, G, q.bind fun v S1 ρ1 H1 x E1 R1 rx q1 => ?_⟩
  refine ⟨ρ1, Γ, S1, R1, G.ext E1, q1.bind fun w S2 ρ2 H2 y E2 R2 ry q2 => ?_⟩
  exact hf ρ2 S2 H2 v w x y Q R2 (rx.ext E2) ry q2.ans
theorem pma_nil : PMA X W [] maN := pa_imp pa_nil fun σ H Q ⟨ρ, Γ, S, R, G, q⟩ => q ρ H [] R.refl R rfl
theorem pma_cons (ha : PM X W a ma) (ht : PMA X W es t) (hs : starEach (a :: es) X.env = (false, eval a X.env) :: starEach es X.env := by rfl) : PMA X W (a :: es) (maC ma t) := by
  refine pa_imp (pa_cons ha ht hs) fun σ H Q ⟨ρ, Γ, S, R, G, q⟩ => ?_
  refine ⟨ρ, Γ, S, R, G, q.bind fun v S1 ρ1 H1 x E1 R1 rx q1 => ?_⟩
  refine ⟨ρ1, Γ, S1, R1, G.ext E1, q1.bind fun w S2 ρ2 H2 y E2 R2 ry q2 => ?_⟩
  exact q2 ρ2 H2 _ R2.refl R2 (Rvs.cons (rx.ext E2) ry)
/-! ### displays -/
def fTup : FL := fun vs S => if vs.length ≤ sizeLine then some (.tup vs, S) else none
def fLst : FL := fun vs S => if vs.length ≤ sizeLine then some (.ref S.length, S ++ [.lst vs]) else none
theorem RS.last {K : KX} {ρ : List Addr} {S : Sto} {H : Hp} (R : RS K ρ S H) (p : Addr) {H' : Hp} : Rv K (ρ ++ [p]) H' (.ref S.length) (.ref p) :=
  ⟨p, by rw [← R.len, List.getElem?_append_right (Nat.le_refl _), Nat.sub_self]; rfl, rfl⟩
theorem pm_tup {n : Nat} (ht : PMA X W es t) : PM X W (.Tuple es n pos) (mL fTup t) := by
  refine pe_imp (pe_tup ht) fun σ H Q ⟨ρ, Γ, S, R, G, q⟩ => ?_
  refine ⟨ρ, Γ, S, R, G, q.bind fun vs S1 ρ1 H1 xs E1 R1 rx q1 => ?_⟩
  unfold fTup at q1
  by_cases hl : vs.length ≤ sizeLine
  · rw [if_pos hl] at q1
    refine ⟨by rw [← rx.len]; exact hl, fun p hp => ?_⟩
    obtain ⟨E, R2⟩ := R1.own (o := .tup xs) hp
    exact q1 ρ1 _ _ E R2 ⟨p, xs, rfl, SqT.of upd_same, rx.ext E⟩
  · rw [if_neg hl] at q1
    exact q1.elim
theorem pm_lst (ht : PMA X W es t) : PM X W (.List es pos) (mL fLst t) := by
  refine pe_imp (pe_lst ht) fun σ H Q ⟨ρ, Γ, S, R, G, q⟩ => ?_
  refine ⟨ρ, Γ, S, R, G, q.bind fun vs S1 ρ1 H1 xs E1 R1 rx q1 => ?_⟩
  unfold fLst at q1
  by_cases hl : vs.length ≤ sizeLine
  · rw [if_pos hl] at q1
    refine ⟨by rw [← rx.len]; exact hl, fun p hp => ?_⟩
    obtain ⟨E, R2⟩ := R1.new hp hl rx
    exact q1 _ _ _ E R2 (R1.last p)
  · rw [if_neg hl] at q1
    exact q1.elim
/-! ### tests -/
def mtOf (a : ME) : MT := fun Γ S => (a Γ S).bind fun v S1 => match v with
  | .bl b => .ok b S1
  | _ => .bad
def mtAnd (a b : MT) : MT := fun Γ S => (a Γ S).bind fun c S1 => if c = true then b Γ S1 else .ok false S1
def mtOr (a b : MT) : MT := fun Γ S => (a Γ S).bind fun c S1 => if c = true then .ok true S1 else b Γ S1
def mtNot (a : MT) : MT := fun Γ S => (a Γ S).bind fun c S1 => .ok (!c) S1
def meAnd (a b : ME) : ME := fun Γ S => (a Γ S).bind fun v S1 => match v with
  | .bl c => if c = true then b Γ S1 else .ok (.bl false) S1
  | _ => .bad
def meOr (a b : ME) : ME := fun Γ S => (a Γ S).bind fun v S1 => match v with
  | .bl c => if c = true then .ok (.bl true) S1 else b Γ S1
  | _ => .bad
def mIf (c : MT) (a b : ME) : ME := fun Γ S => (c Γ S).bind fun k S1 => if k = true then a Γ S1 else b Γ S1
def mNot (a : ME) : ME := fun Γ S => (a Γ S).bind fun v S1 => match v with
  | .bl c => .ok (.bl (!c)) S1
  | _ => .bad
/-- a value's truth -/
def tru (S : Sto) : Va → Option Bool
  | .non => some false
  | .bl b => some b
  | .int i => some (i != 0)
  | .str z => if z.length ≤ sizeLine then some ((z.length : Int) != 0) else none
  | .tup xs => some (!xs.isEmpty)
  | .rol xs => some (!xs.isEmpty)
  | .ref n => match S[n]? with
    | some (.lst xs) => some (!xs.isEmpty)
    | some (.raw (.dK kvs)) => some (!kvs.isEmpty)
    | some (.dct kvs) => some (!kvs.isEmpty)
    | _ => none
  | .adr _ => none
  | .ty _ => none
  | .exc _ _ _ _ => none
def mtTru (a : ME) : MT := fun Γ S => (a Γ S).bind fun v S1 => match tru S1 v with
  | some b => .ok b S1
  | none => .bad
theorem empty_of {K : KX} {ρ : List Addr} {H : Hp} {xs : List Va} {ws : List V} (h : Rvs K ρ H xs ws) : (!xs.isEmpty) = !ws.isEmpty := by
  have := h.len
  cases xs <;> cases ws <;> simp_all
theorem tru_ok' {K : KX} {ρ : List Addr} {S : Sto} {H : Hp} {v : Va} {w : V} {b : Bool} (R : RS K ρ S H) (r : Rv K ρ H v w) (h : tru S v = some b) : TruV K.K w H b := by
  cases v with
  | non => cases r; exact (Option.some.inj h).symm
  | bl c => cases r; exact (Option.some.inj h).symm
  | int i => cases r; exact (Option.some.inj h).symm
  | str z =>
    cases r
    have h : (if z.length ≤ sizeLine then some ((z.length : Int) != 0) else none) = some b := h
    by_cases hz : z.length ≤ sizeLine
    · rw [if_pos hz] at h
      exact ⟨hz, (Option.some.inj h).symm⟩
    · rw [if_neg hz] at h
      cases h
  | tup xs =>
    obtain ⟨a, ws, rfl, h1, h2⟩ := r
    exact .inr (.inl ⟨ws, h1, by rw [← empty_of h2]; exact (Option.some.inj h).symm⟩)
  | rol xs =>
    obtain ⟨a, ws, rfl, h1, h2⟩ := r
    exact .inl ⟨ws, h1.sq, by rw [← empty_of h2]; exact (Option.some.inj h).symm⟩
  | ref n =>
    obtain ⟨a, h1, rfl⟩ := r
    unfold tru at h
    simp only at h
    cases e : S[n]? with
    | none => rw [e] at h; cases h
    | some o =>
      rw [e] at h
      have q := R.at_ n a o h1 e
      cases o with
      | lst xs =>
        obtain ⟨_, ws, h3, h4⟩ := q
        exact .inl ⟨ws, SqL.of h3, by rw [← empty_of h4]; exact (Option.some.inj h).symm⟩
      | setT ks => cases h
      | raw o =>
        cases o with
        | dK kvs => exact .inr (.inr ⟨kvs, q.1, (Option.some.inj h).symm⟩)
        | _ => cases h
      | tbl _ => cases h
      | dct kvs =>
        obtain ⟨ws, h3, h4, _⟩ := q
        refine .inr (.inr ⟨ws, h3, ?_⟩)
        have e1 : kvs.length = ws.length := by have := congrArg List.length h4; simpa using this
        have e2 : (!kvs.isEmpty) = !ws.isEmpty := by cases kvs <;> cases ws <;> simp_all
        rw [← e2]
        exact (Option.some.inj h).symm
  | adr a => cases h
  | ty a => cases h
  | exc _ _ _ _ => cases h
section
variable {c d : Expr} {tc td : MT} {cs : List Expr}
theorem pmt_val {e : Expr} {m : ME} (h : PM X W e m) (he : ∀ whole, isTrue e X.env whole = (do let v ← whole; standAt e.pos; holding [v] (truthy v)) := by intro _; rfl) : PMT X W e (mtOf m) := by
  refine pt_imp (pt_val h he) fun σ H Q ⟨ρ, Γ, S, R, G, q⟩ => ?_
  refine ⟨ρ, Γ, S, R, G, q.bind fun v S1 ρ1 H1 x E1 R1 rx q1 => ?_⟩
  cases v with
  | bl b => cases rx; exact ⟨b, rfl, q1 ρ1 H1 b R1.refl R1 rfl⟩
  | _ => exact q1.elim
theorem pmt_cmp {op : CmpOp} {f : F2} (ho : OpP X (compareOp op) f) (ha : PM X W a ma) (hb : PM X W b mb) (hm : behindInMarks op b = false) : PMT X W (.Compare a [op] [b] pos) (mtOf (m2 f ma mb)) := by
  obtain ⟨r, hr, hf⟩ := ho
  refine pt_imp (pt_cmpR hr ha hb hm) fun σ H Q ⟨ρ, Γ, S, R, G, q⟩ => ?_
  have q : Aft (kxOf X) W σ (fun _ _ (b c : Bool) => c = b) Q ρ H (((ma Γ S).bind fun v S1 => (mb Γ S1).bind fun w S2 => lift (f v w S2)).bind fun v S1 => match v with
    | .bl b => .ok b S1
    | _ => .bad) := q
  have assoc : (((ma Γ S).bind fun v S1 => (mb Γ S1).bind fun w S2 => lift (f v w S2)).bind fun v S1 => match v with
    | .bl b => Res.ok b S1
    | _ => .bad) = (ma Γ S).bind fun v S1 => (mb Γ S1).bind fun w S2 => (lift (f v w S2)).bind fun v S1 => match v with
    | .bl b => .ok b S1
    | _ => .bad := by
    cases ma Γ S with
    | bad => rfl
    | ex c f v S => rfl
    | ok v S1 =>
      show ((mb Γ S1).bind fun w S2 => lift (f v w S2)).bind _ = (mb Γ S1).bind _
      cases mb Γ S1 <;> rfl
  rw [assoc] at q
  refine ⟨ρ, Γ, S, R, G, q.bind fun v S1 ρ1 H1 x E1 R1 rx q1 => ?_⟩
  refine ⟨ρ1, Γ, S1, R1, G.ext E1, q1.bind fun w S2 ρ2 H2 y E2 R2 ry q2 => ?_⟩
  refine hf ρ2 S2 H2 v w x y _ R2 (rx.ext E2) ry ?_
  cases e : f v w S2 with
  | none => rw [e] at q2; exact q2.elim
  | some u =>
    obtain ⟨u, S3⟩ := u
    rw [e] at q2
    intro ρ3 H3 z E3 R3 rz
    cases u with
    | bl b => cases rz; exact ⟨b, rfl, q2 ρ3 H3 b E3 R3 rfl⟩
    | _ => exact q2.elim
theorem pmt_tru {e : Expr} {m : ME} (h : PM X W e m) (he : ∀ whole, isTrue e X.env whole = (do let v ← whole; standAt e.pos; holding [v] (truthy v)) := by intro _; rfl) : PMT X W e (mtTru m) := by
  refine pt_imp (pt_truth h he) fun σ H Q ⟨ρ, Γ, S, R, G, q⟩ => ?_
  refine ⟨ρ, Γ, S, R, G, q.bind fun v S1 ρ1 H1 x E1 R1 rx q1 => ?_⟩
  cases e : tru S1 v with
  | none =>
    simp only [e] at q1
    exact q1.elim
  | some b =>
    simp only [e] at q1
    exact ⟨b, tru_ok' R1 rx e, q1 ρ1 H1 b R1.refl R1 rfl⟩
theorem pmt_not (h : PMT X W c tc) : PMT X W (.UnaryOp .Not c pos) (mtNot tc) := by
  refine pt_imp (pt_not h) fun σ H Q ⟨ρ, Γ, S, R, G, q⟩ => ?_
  refine ⟨ρ, Γ, S, R, G, q.bind fun v S1 ρ1 H1 x E1 R1 rx q1 => ?_⟩
  subst rx
  exact q1 ρ1 H1 _ R1.refl R1 rfl
theorem pmw_and1 (h : PMT X W c tc) : PMW X W (.BoolOp .And [c] pos) tc := pw_imp (pw_and1 h) fun _ _ _ q => q
theorem pmw_or1 (h : PMT X W c tc) : PMW X W (.BoolOp .Or [c] pos) tc := pw_imp (pw_or1 h) fun _ _ _ q => q
theorem pmw_and (h : PMT X W c tc) (h2 : PMW X W (.BoolOp .And (d :: cs) pos) td) : PMW X W (.BoolOp .And (c :: d :: cs) pos) (mtAnd tc td) := by
  refine pw_imp (pw_and h h2) fun σ H Q ⟨ρ, Γ, S, R, G, q⟩ => ?_
  refine ⟨ρ, Γ, S, R, G, q.bind fun v S1 ρ1 H1 x E1 R1 rx q1 => ?_⟩
  subst rx
  cases x with
  | true => exact iteT ⟨ρ1, Γ, S1, R1, G.ext E1, q1⟩
  | false => exact iteF (q1 ρ1 H1 _ R1.refl R1 rfl)
theorem pmw_or (h : PMT X W c tc) (h2 : PMW X W (.BoolOp .Or (d :: cs) pos) td) : PMW X W (.BoolOp .Or (c :: d :: cs) pos) (mtOr tc td) := by
  refine pw_imp (pw_or h h2) fun σ H Q ⟨ρ, Γ, S, R, G, q⟩ => ?_
  refine ⟨ρ, Γ, S, R, G, q.bind fun v S1 ρ1 H1 x E1 R1 rx q1 => ?_⟩
  subst rx
  cases x with
  | true => exact iteT (q1 ρ1 H1 _ R1.refl R1 rfl)
  | false => exact iteF ⟨ρ1, Γ, S1, R1, G.ext E1, q1⟩
theorem pm_if {ma mb : ME} (h : PMT X W c tc) (ha : PM X W a ma) (hb : PM X W b mb) : PM X W (.IfExp c a b pos) (mIf tc ma mb) := by
  refine pe_imp (pe_ifExp h ha hb) fun σ H Q ⟨ρ, Γ, S, R, G, q⟩ => ?_
  refine ⟨ρ, Γ, S, R, G, q.bind fun v S1 ρ1 H1 x E1 R1 rx q1 => ?_⟩
  subst rx
  cases x with
  | true => exact iteT ⟨ρ1, Γ, S1, R1, G.ext E1, q1⟩
  | false => exact iteF ⟨ρ1, Γ, S1, R1, G.ext E1, q1⟩
end
end
end PM

namespace PM
open PySem PySem.Spec PyProof.Rows L2 Q2
/-! ### statements -/
inductive Rs where
  | bad | nx (Γ : En) (S : Sto) | rt (v : Va) (S : Sto) | bk (Γ : En) (S : Sto) | ct (Γ : En) (S : Sto) | ex (c f : Str) (v : Va) (Γ : En) (S : Sto)
abbrev MS := En → Sto → Rs
def AftS (K : KX) (W : XW) (D : Ends) (ρ : List Addr) (H : Hp) : Rs → Prop
  | .bad => False
  | .nx Γ' S' => ∀ ρ' H' σ', Ext ρ ρ' H H' → RS K ρ' S' H' → RE K ρ' H' Γ' σ' → D.nx σ' H'
  | .rt v S' => ∀ ρ' H' w, Ext ρ ρ' H H' → RS K ρ' S' H' → Rv K ρ' H' v w → D.rt w H'
  | .bk Γ' S' => ∀ ρ' H' σ', Ext ρ ρ' H H' → RS K ρ' S' H' → RE K ρ' H' Γ' σ' → D.bk σ' H'
  | .ct Γ' S' => ∀ ρ' H' σ', Ext ρ ρ' H H' → RS K ρ' S' H' → RE K ρ' H' Γ' σ' → D.ct σ' H'
  | .ex c f v Γ' S' => ∀ ρ' H' σ' w d, Ext ρ ρ' H H' → RS K ρ' S' H' → RE K ρ' H' Γ' σ' → Rv K ρ' H' v w → H' d = some (.xd [(f, w)]) → W c d σ' H'
section
variable {K : KX} {W : XW} {D : Ends} {ρ ρ1 : List Addr} {H H1 : Hp} {r : Rs}
theorem AftS.shift (E : Ext ρ ρ1 H H1) (h : AftS K W D ρ H r) : AftS K W D ρ1 H1 r := by
  cases r with
  | bad => exact h
  | nx Γ S => exact fun ρ' H' w E' => h ρ' H' w (E.trans E')
  | rt v S => exact fun ρ' H' w E' => h ρ' H' w (E.trans E')
  | bk Γ S => exact fun ρ' H' w E' => h ρ' H' w (E.trans E')
  | ct Γ S => exact fun ρ' H' w E' => h ρ' H' w (E.trans E')
  | ex c f v Γ S => exact fun ρ' H' σ' w d E' => h ρ' H' σ' w d (E.trans E')
end
def tMS (K : KX) (W : XW) (m : MS) : TS := fun D σ H => ∃ ρ Γ S, RS K ρ S H ∧ RE K ρ H Γ σ ∧ AftS K W D ρ H (m Γ S)
def PMS (X : Cx) (W : XW) (st : Stmt) (m : MS) : Prop := PS X st (tMS (kxOf X) W m)
def PMSs (X : Cx) (W : XW) (st : List Stmt) (m : MS) : Prop := PSs X st (tMS (kxOf X) W m)
/-- what follows an expression's result -/
def thenS {α : Type} (Γ : En) (r : Res α) (k : α → Sto → Rs) : Rs :=
  match r with
  | .bad => .bad
  | .ok a S => k a S
  | .ex c f v S => .ex c f v Γ S
@[simp] theorem thenS_ok {α : Type} (Γ : En) (a : α) (S : Sto) (k : α → Sto → Rs) : thenS Γ (Res.ok a S) k = k a S := rfl
@[simp] theorem thenS_bad {α : Type} (Γ : En) (k : α → Sto → Rs) : thenS Γ (Res.bad : Res α) k = .bad := rfl
@[simp] theorem thenS_ex {α : Type} (Γ : En) (c f : Str) (v : Va) (S : Sto) (k : α → Sto → Rs) : thenS Γ (Res.ex c f v S : Res α) k = .ex c f v Γ S := rfl
theorem AftS.bind {α β : Type} {K : KX} {W : XW} {D : Ends} {ρ : List Addr} {H : Hp} {Γ : En} {σ : L2.St} {r : Res α} {k : α → Sto → Rs} {Rl : List Addr → Hp → α → β → Prop} {Q : β → Hp → Prop} (G : RE K ρ H Γ σ)
    (h : AftS K W D ρ H (thenS Γ r k)) (hk : ∀ v S1 ρ1 H1 w, Ext ρ ρ1 H H1 → RS K ρ1 S1 H1 → Rl ρ1 H1 v w → AftS K W D ρ1 H1 (k v S1) → Q w H1) : Aft K W σ Rl Q ρ H r := by
  cases r with
  | bad => exact h
  | ok v S' => exact fun ρ' H' w E R q => hk v S' ρ' H' w E R q (AftS.shift E h)
  | ex c f v S' => exact fun ρ' H' w d E R q e => h ρ' H' σ w d E R (G.ext E) q e
def sSeq (a b : MS) : MS := fun Γ S => match a Γ S with
  | .nx Γ' S' => b Γ' S'
  | r => r
def sNil : MS := fun Γ S => .nx Γ S
def sExpr (m : ME) : MS := fun Γ S => thenS Γ (m Γ S) fun _ S1 => .nx Γ S1
def sRet (m : ME) : MS := fun Γ S => thenS Γ (m Γ S) fun v S1 => .rt v S1
def sIf (c : MT) (a b : MS) : MS := fun Γ S => thenS Γ (c Γ S) fun k S1 => if k = true then a Γ S1 else b Γ S1
def sNever : MS := fun _ _ => .bad
def sBrk : MS := fun Γ S => .bk Γ S
def sCnt : MS := fun Γ S => .ct Γ S
section
variable {X : Cx} {W : XW} {st : Stmt} {sts : List Stmt} {a b : MS} {e : Expr} {m : ME} {pos : Pos}
theorem pmss_nil : PMSs X W [] sNil := pss_imp pss_nil fun D σ H ⟨ρ, Γ, S, R, G, q⟩ => q ρ H σ R.refl R G
theorem pmss_one (h : PMS X W st a) : PMSs X W [st] a := pss_one h
theorem pmss_cons (h : PMS X W st a) (t : PMSs X W sts b) : PMSs X W (st :: sts) (sSeq a b) := by
  refine pss_imp (pss_cons h t) fun D σ H ⟨ρ, Γ, S, R, G, q⟩ => ?_
  refine ⟨ρ, Γ, S, R, G, ?_⟩
  unfold sSeq at q
  cases e : a Γ S with
  | bad => rw [e] at q; exact q
  | nx Γ' S' =>
    rw [e] at q
    exact fun ρ' H' σ' E R' G' => ⟨ρ', Γ', S', R', G', q.shift E⟩
  | rt v S' => rw [e] at q; exact q
  | bk Γ' S' => rw [e] at q; exact q
  | ct Γ' S' => rw [e] at q; exact q
  | ex c f v Γ' S' => rw [e] at q; exact q
theorem pms_expr (h : PM X W e m) (hs : swapsWith e none pos.line X.env = pure false := by rfl) : PMS X W (.Expr e pos) (sExpr m) := by
  refine ps_imp (ps_expr h hs) fun D σ H ⟨ρ, Γ, S, R, G, q⟩ => ?_
  exact ⟨ρ, Γ, S, R, G, AftS.bind G q fun v S1 ρ1 H1 w E1 R1 r1 q1 => q1 ρ1 H1 σ R1.refl R1 (G.ext E1)⟩
theorem pms_ret (h : PM X W e m) : PMS X W (.Return (some e) pos) (sRet m) := by
  refine ps_imp (ps_ret h) fun D σ H ⟨ρ, Γ, S, R, G, q⟩ => ?_
  exact ⟨ρ, Γ, S, R, G, AftS.bind G q fun v S1 ρ1 H1 w E1 R1 r1 q1 => q1 ρ1 H1 w R1.refl R1 r1⟩
theorem pms_retN : PMS X W (.Return none pos) (sRet (mC .non)) := ps_imp ps_retN fun D σ H ⟨ρ, Γ, S, R, G, q⟩ => q ρ H .non R.refl R rfl
theorem pms_if {c : Expr} {x y : List Stmt} {tc : MT} (h : PMT X W c tc) (ha : PMSs X W x a) (hb : PMSs X W y b) : PMS X W (.If c x y pos) (sIf tc a b) := by
  refine ps_imp (ps_if h ha hb) fun D σ H ⟨ρ, Γ, S, R, G, q⟩ => ?_
  refine ⟨ρ, Γ, S, R, G, AftS.bind G q fun v S1 ρ1 H1 w E1 R1 r1 q1 => ?_⟩
  subst r1
  cases w with
  | true => exact iteT ⟨ρ1, Γ, S1, R1, G.ext E1, q1⟩
  | false => exact iteF ⟨ρ1, Γ, S1, R1, G.ext E1, q1⟩
theorem pmss_never : PMSs X W sts sNever := pss_imp pss_never fun D σ H ⟨ρ, Γ, S, R, G, q⟩ => q
theorem pms_brk : PMS X W (.Break pos) sBrk := ps_imp ps_break fun D σ H ⟨ρ, Γ, S, R, G, q⟩ => q ρ H σ R.refl R G
theorem pms_cnt : PMS X W (.Continue pos) sCnt := ps_imp ps_continue fun D σ H ⟨ρ, Γ, S, R, G, q⟩ => q ρ H σ R.refl R G
theorem pms_pass : PMS X W (.Pass pos) sNil := ps_imp ps_pass fun D σ H ⟨ρ, Γ, S, R, G, q⟩ => q ρ H σ R.refl R G
end
/-! ### targets -/
abbrev MG := Va → En → Sto → Res En
abbrev MGs := List Va → En → Sto → Res En
/-- the slots of vs alone are written -/
def Agr (vs : List Nat) (σ σ' : L2.St) : Prop := ∀ us : List Nat, (∀ i ∈ vs, i ∈ us) → wipe σ' us = wipe σ us
theorem Agr.refl (vs : List Nat) (σ : L2.St) : Agr vs σ σ := fun _ _ => rfl
theorem Agr.trans {vs us : List Nat} {σ σ1 σ2 : L2.St} (a : Agr vs σ σ1) (b : Agr us σ1 σ2) : Agr (vs ++ us) σ σ2 := fun ws h => (b ws fun i hi => h i (List.mem_append_right _ hi)).trans (a ws fun i hi => h i (List.mem_append_left _ hi))
theorem wipe_get (σ : L2.St) (us : List Nat) (i : Nat) : (wipe σ us)[i]? = if i ∈ us then (if i < σ.length then some none else none) else σ[i]? := by
  induction us with
  | nil => simp [wipe]
  | cons u us ih =>
    unfold wipe
    rw [List.getElem?_set, wipe_length]
    by_cases e : u = i
    · subst e
      simp
    · rw [if_neg e, ih]
      have e' : ¬ i = u := fun z => e z.symm
      simp [e']
theorem wipe_set {σ : L2.St} {us : List Nat} {i : Nat} {x : Option V} (h : i ∈ us) : wipe (σ.set i x) us = wipe σ us := by
  refine List.ext_getElem? fun j => ?_
  rw [wipe_get, wipe_get, List.length_set, List.getElem?_set]
  by_cases e : i = j
  · subst e
    simp [h]
  · rw [if_neg e]
theorem wipe_wipe (σ : L2.St) (us : List Nat) : wipe (wipe σ us) us = wipe σ us := by
  refine List.ext_getElem? fun j => ?_
  rw [wipe_get (wipe σ us), wipe_length, wipe_get]
  split <;> rfl
theorem Agr.set (σ : L2.St) (i : Nat) (x : Option V) : Agr [i] σ (σ.set i x) := fun us h => wipe_set (h i (by simp))
abbrev RG (K : KX) (vs : List Nat) (σ : L2.St) : List Addr → Hp → En → L2.St → Prop := fun ρ H Γ σ' => RE K ρ H Γ σ' ∧ Agr vs σ σ'
def tMG (K : KX) (W : XW) (vs : List Nat) (g : MG) : TG := fun w σ H Q => ∃ ρ Γ S v, RS K ρ S H ∧ RE K ρ H Γ σ ∧ Rv K ρ H v w ∧ Aft K W σ (RG K vs σ) Q ρ H (g v Γ S)
def tMGs (K : KX) (W : XW) (vs : List Nat) (g : MGs) : TGs := fun ws σ H Q => ∃ ρ Γ S us, RS K ρ S H ∧ RE K ρ H Γ σ ∧ Rvs K ρ H us ws ∧ Aft K W σ (RG K vs σ) Q ρ H (g us Γ S)
def PMG (X : Cx) (W : XW) (vs : List Nat) (e : Expr) (g : MG) : Prop := PG X e (tMG (kxOf X) W vs g)
def PMGs (X : Cx) (W : XW) (vs : List Nat) (es : List Expr) (g : MGs) : Prop := PGs X es (tMGs (kxOf X) W vs g)
section
variable {X : Cx}
theorem pg_imp {e : Expr} {t t' : TG} (h : PG X e t) (hi : ∀ v σ H Q, t' v σ H Q → t v σ H Q) : PG X e t' := ⟨fun pins s σ H v u Q I r hw => h.run pins s σ H v u Q I r (hi _ _ _ _ hw)⟩
theorem pgs_imp {e : List Expr} {t t' : TGs} (h : PGs X e t) (hi : ∀ v σ H Q, t' v σ H Q → t v σ H Q) : PGs X e t' := ⟨fun pins s σ H v u Q I r hw => h.run pins s σ H v u Q I r (hi _ _ _ _ hw)⟩
end
def gV (i : Nat) : MG := fun v Γ S => .ok (Γ.set i (some v)) S
def gsN : MGs := fun vs Γ S => match vs with
  | [] => .ok Γ S
  | _ => .bad
/-- a target that raises nothing -/
def noX {α : Type} : Res α → Res α
  | .ok a S => .ok a S
  | _ => .bad
def gsC (g : MG) (t : MGs) : MGs := fun vs Γ S => match vs with
  | v :: r => (noX (g v Γ S)).bind fun Γ1 S1 => noX (t r Γ1 S1)
  | _ => .bad
def gT (n : Nat) (t : MGs) : MG := fun v Γ S => match v with
  | .tup xs => if xs.length = n then noX (t xs Γ S) else .bad
  | _ => .bad
theorem Aft.noX {α β : Type} {K : KX} {W W' : XW} {σ σ' : L2.St} {Rl : List Addr → Hp → α → β → Prop} {Q : β → Hp → Prop} {ρ : List Addr} {H : Hp} {r : Res α} (h : Aft K W σ Rl Q ρ H (noX r)) : Aft K W' σ' Rl Q ρ H r := by
  cases r with
  | bad => exact h
  | ok a S => exact h
  | ex c f v S => exact h.elim
section
variable {X : Cx} {W : XW} {e : Expr} {es : List Expr} {g : MG} {t : MGs} {pos : Pos} {vs us : List Nat}
theorem pmg_name {i : Nat} {e : Expr} (h : PG X e (gName i)) : PMG X W [i] e (gV i) := pg_imp h fun w σ H Q ⟨ρ, Γ, S, v, R, G, r, q⟩ => q ρ H _ R.refl R ⟨G.set i r, Agr.set σ i _⟩
theorem pmgs_nil : PMGs X W [] [] gsN := by
  refine pgs_imp pgs_nil fun ws σ H Q ⟨ρ, Γ, S, vs, R, G, r, q⟩ => ?_
  cases vs with
  | nil =>
    cases r
    exact ⟨rfl, q ρ H σ R.refl R ⟨G, Agr.refl _ _⟩⟩
  | cons v vs => exact q.elim
theorem pmgs_cons (h1 : PMG X W vs e g) (h2 : PMGs X W us es t)
    (hs : (assignEach (e :: es) X.env).map (·.2) = assign e X.env :: (assignEach es X.env).map (·.2) := by rfl) : PMGs X W (vs ++ us) (e :: es) (gsC g t) := by
  refine pgs_imp (pgs_cons h1 h2 hs) fun ws σ H Q ⟨ρ, Γ, S, xs, R, G, r, q⟩ => ?_
  cases xs with
  | nil => exact q.elim
  | cons v xs =>
    obtain ⟨w, ws', rfl, hw, ht⟩ := r
    have q : Aft (kxOf X) W σ (RG (kxOf X) (vs ++ us) σ) Q ρ H ((noX (g v Γ S)).bind fun Γ1 S1 => noX (t xs Γ1 S1)) := q
    refine ⟨w, ws', rfl, ρ, Γ, S, v, R, G, hw, (q.bind fun Γ1 S1 ρ1 H1 σ1 E1 R1 G1 q1 => ?_ : Aft (kxOf X) W σ (RG (kxOf X) vs σ) _ ρ H (noX (g v Γ S))).noX⟩
    refine ⟨ρ1, Γ1, S1, xs, R1, G1.1, ht.ext E1, ?_⟩
    have q1 : Aft (kxOf X) W σ1 (RG (kxOf X) (vs ++ us) σ) Q ρ1 H1 (t xs Γ1 S1) := q1.noX
    cases e : t xs Γ1 S1 with
    | bad => rw [e] at q1; exact q1
    | ok a b => rw [e] at q1; exact fun ρ' H' w E R q => q1 ρ' H' w E R ⟨q.1, G1.2.trans q.2⟩
    | ex a b c d => rw [e] at q1; exact q1
theorem pmg_tup {k n : Nat} (hc : X.calm = true) (h : PMGs X W vs es t) (hn : (assignEach es X.env).length = n := by rfl) (hst : (assignEach es X.env).findIdx? (·.1) = none := by rfl) : PMG X W vs (.Tuple es k pos) (gT n t) := by
  refine pg_imp (pg_tup hc h hn hst) fun w σ H Q ⟨ρ, Γ, S, v, R, G, r, q⟩ => ?_
  cases v with
  | tup xs =>
    obtain ⟨a, ws, rfl, h1, h2⟩ := r
    unfold gT at q
    simp only at q
    by_cases hl : xs.length = n
    · rw [if_pos hl] at q
      exact ⟨a, ws, rfl, h1, by rw [← h2.len]; exact hl, ρ, Γ, S, xs, R, G, h2, q.noX⟩
    · rw [if_neg hl] at q
      exact q.elim
  | _ => exact q.elim
end
/-! ### assignments -/
def sAsg (m : ME) (g : MG) : MS := fun Γ S => thenS Γ (m Γ S) fun v S1 => thenS Γ (g v Γ S1) fun Γ1 S2 => .nx Γ1 S2
def sSet (i : Nat) (m : ME) : MS := fun Γ S => thenS Γ (m Γ S) fun v S1 => .nx (Γ.set i (some v)) S1
def sPar (i j : Nat) (t : MA) : MS := fun Γ S => thenS Γ (t Γ S) fun vs S1 => match vs with
  | [v, w] => .nx ((Γ.set i (some v)).set j (some w)) S1
  | _ => .bad
def sPar3 (i j l : Nat) (t : MA) : MS := fun Γ S => thenS Γ (t Γ S) fun vs S1 => match vs with
  | [u, v, w] => .nx (((Γ.set i (some u)).set j (some v)).set l (some w)) S1
  | _ => .bad
/-- x op= e -/
def sAug (i : Nat) (f : F2) (m : ME) : MS := fun Γ S => match Γ[i]? with
  | some (some x) => thenS Γ (m Γ S) fun v S1 => thenS Γ (lift (f x v S1)) fun z S2 => .nx (Γ.set i (some z)) S2
  | _ => .bad
def IpM (K : KX) (r : TIp) (f : F2) : Prop := ∀ ρ S H v w x y Q, RS K ρ S H → Rv K ρ H v x → Rv K ρ H w y → Ans K Q ρ H (f v w S) → r x y H Q
def IpP (X : Cx) (op : Operator) (f : F2) : Prop := ∃ r, PIp X op r ∧ IpM (kxOf X) r f
section
variable {X : Cx} {W : XW} {e tg : Expr} {m : ME} {g : MG} {pos : Pos}
theorem pms_set {i : Nat} {st : Stmt} (h : PS X st (tAsg (tM (kxOf X) W m) (gName i))) : PMS X W st (sSet i m) := by
  refine ps_imp h fun D σ H ⟨ρ, Γ, S, R, G, q⟩ => ?_
  exact ⟨ρ, Γ, S, R, G, AftS.bind G q fun v S1 ρ1 H1 w E1 R1 r1 q1 => q1 ρ1 H1 _ R1.refl R1 ((G.ext E1).set i r1)⟩
theorem pms_asg {vs : List Nat} (h : PM X W e m) (hg : PMG X W vs tg g) (hs : swapsWithSole [tg] e pos.line X.env = pure false := by rfl) (hw : swappedStores [tg] e X.env = pure none := by rfl)
    (h1 : (assignEach [tg] X.env).map (·.2) = [assign tg X.env] := by rfl) : PMS X W (.Assign [tg] e pos) (sAsg m g) := by
  refine ps_imp (ps_asg h hg hs hw h1) fun D σ H ⟨ρ, Γ, S, R, G, q⟩ => ?_
  refine ⟨ρ, Γ, S, R, G, AftS.bind G q fun v S1 ρ1 H1 w E1 R1 r1 q1 => ?_⟩
  exact ⟨ρ1, Γ, S1, v, R1, G.ext E1, r1, AftS.bind (G.ext E1) q1 fun Γ2 S2 ρ2 H2 σ2 E2 R2 r2 q2 => q2 ρ2 H2 σ2 R2.refl R2 r2.1⟩
theorem pms_par {i j : Nat} {t : MA} {st : Stmt} (h : PS X st (tPar i j (tMA (kxOf X) W t))) : PMS X W st (sPar i j t) := by
  refine ps_imp h fun D σ H ⟨ρ, Γ, S, R, G, q⟩ => ?_
  refine ⟨ρ, Γ, S, R, G, AftS.bind G q fun vs S1 ρ1 H1 ws E1 R1 r1 q1 => ?_⟩
  match vs, r1, q1 with
  | [v, w], r1, q1 =>
    obtain ⟨x, _, rfl, rx, y, _, rfl, ry, rfl⟩ := r1
    exact ⟨x, y, rfl, q1 ρ1 H1 _ R1.refl R1 (((G.ext E1).set i rx).set j ry)⟩
  | [], _, q1 => exact q1.elim
  | [_], _, q1 => exact q1.elim
  | _ :: _ :: _ :: _, _, q1 => exact q1.elim
theorem pms_aug {i : Nat} {op : Operator} {f : F2} {x : Str} {pos' : Pos} (hN : X.N.Nodup) (hi : X.N[i]? = some x) (hx : Loc X.env.scope x) (hf : IpP X op f) (h : PM X W e m)
    (hfn : X.fn x = true ∨ X.env.scope.names.lookup x = some .local := by first | exact .inl rfl | exact .inr rfl | assumption) : PMS X W (.AugAssign (.Name x pos') op e pos) (sAug i f m) := by
  obtain ⟨r, hr, hm⟩ := hf
  refine ps_imp (ps_aug (pos := pos) (pos' := pos') hN hi hx h hr hfn) fun D σ H ⟨ρ, Γ, S, R, G, q⟩ => ?_
  unfold sAug at q
  cases e : Γ[i]? with
  | none => rw [e] at q; exact q.elim
  | some o =>
    cases o with
    | none => rw [e] at q; exact q.elim
    | some v =>
      rw [e] at q
      obtain ⟨w, h1, h2⟩ := G.at_ i v e
      refine ⟨w, h1, ρ, Γ, S, R, G, AftS.bind G q fun u S1 ρ1 H1 y E1 R1 r1 q1 => ?_⟩
      refine hm ρ1 S1 H1 v u w y _ R1 (h2.ext E1) r1 ?_
      cases e2 : f v u S1 with
      | none => rw [e2] at q1; exact q1.elim
      | some p =>
        rw [e2] at q1
        exact fun ρ2 H2 z E2 R2 r2 => q1 ρ2 H2 _ E2 R2 (((G.ext E1).ext E2).set i r2)
end
/-! ### what is walked -/
def lstOf (S : Sto) : Va → Option (List Va)
  | .ref n => match S[n]? with
    | some (.lst xs) => some xs
    | _ => none
  | .rol xs => some xs
  | _ => none
inductive ItV where
  | ref (n : Nat) | itm (xs : List Va) | rng (lo c : Int) (n : Nat) | enm (n : Nat) | enmI (xs : List Va) | zip (v w : Va) | zipT (xs ys : List Va)
def pair2 : Option Va → Option Va → Option Va
  | some x, some y => some (.tup [x, y])
  | _, _ => none
def pairE (i : Nat) (v : Va) : Va := .tup [.int (i : Nat), v]
/-- none: nobody knows; some none: it stops -/
def ItV.get : ItV → Nat → Sto → Option (Option Va)
  | .ref n, i, S => match S[n]? with
    | some (.lst xs) => some xs[i]?
    | _ => none
  | .itm xs, i, _ => some xs[i]?
  | .rng lo c n, i, _ => if i < n then some (some (.int (lo + (i : Nat) * c))) else some none
  | .enm n, i, S => match S[n]? with
    | some (.lst xs) => some (xs[i]?.map (pairE i))
    | _ => none
  | .enmI xs, i, _ => some (xs[i]?.map (pairE i))
  | .zip v w, i, S => match lstOf S v, lstOf S w with
    | some xs, some ys => some (pair2 xs[i]? ys[i]?)
    | _, _ => none
  | .zipT xs ys, i, _ => some (pair2 xs[i]? ys[i]?)
def ItV.fuel : ItV → Sto → Nat
  | .ref n, S => match S[n]? with
    | some (.lst xs) => xs.length
    | _ => 0
  | .itm xs, _ => xs.length
  | .rng _ _ n, _ => n
  | .enm n, S => match S[n]? with
    | some (.lst xs) => xs.length
    | _ => 0
  | .enmI xs, _ => xs.length
  | .zip v _, S => match lstOf S v with
    | some xs => xs.length
    | none => 0
  | .zipT xs _, _ => xs.length
def ItOk (K : KX) (ρ : List Addr) (H : Hp) (it : ItV) (J : It) : Prop := ∀ ρ' S' H', Ext ρ ρ' H H' → RS K ρ' S' H' → ∀ i, match it.get i S' with
  | none => True
  | some none => J.stop i H'
  | some (some x) => J.go i H' ∧ ∀ y H'', J.yld i H' y H'' → Ext ρ' ρ' H' H'' ∧ RS K ρ' S' H'' ∧ Rv K ρ' H'' x y
theorem ItOk.ext {K : KX} {ρ ρ1 : List Addr} {H H1 : Hp} {it : ItV} {J : It} (E : Ext ρ ρ1 H H1) (h : ItOk K ρ H it J) : ItOk K ρ1 H1 it J := fun ρ' S' H' E' => h ρ' S' H' (E.trans E')
abbrev MI := En → Sto → Res ItV
def tMI (K : KX) (W : XW) (m : MI) : TI := fun σ H R' => ∃ ρ Γ S, RS K ρ S H ∧ RE K ρ H Γ σ ∧ Aft K W σ (ItOk K) R' ρ H (m Γ S)
def PMI (X : Cx) (W : XW) (tg e : Expr) (m : MI) : Prop := PI X tg e (tMI (kxOf X) W m)
/-! ### for -/
def loopF (it : ItV) (g : MG) (body : MS) : Nat → Nat → En → Sto → Rs
  | 0, i, Γ, S => match it.get i S with
    | some none => .nx Γ S
    | _ => .bad
  | k + 1, i, Γ, S => match it.get i S with
    | some none => .nx Γ S
    | none => .bad
    | some (some x) => thenS Γ (g x Γ S) fun Γ1 S1 => match body Γ1 S1 with
      | .nx Γ2 S2 => loopF it g body k (i + 1) Γ2 S2
      | .ct Γ2 S2 => loopF it g body k (i + 1) Γ2 S2
      | .bk Γ2 S2 => .nx Γ2 S2
      | .rt v S2 => .rt v S2
      | .ex c f v Γ2 S2 => .ex c f v Γ2 S2
      | .bad => .bad
def sFor (mi : MI) (g : MG) (body : MS) : MS := fun Γ S => thenS Γ (mi Γ S) fun it S1 => loopF it g body (it.fuel S1) 0 Γ S1
theorem pms_for {X : Cx} {W : XW} {vs : List Nat} {tg iter : Expr} {body : List Stmt} {mi : MI} {g : MG} {mb : MS} {pos : Pos} (hp : PassesOwn (model X.prog X.w) X.A X.env X.xe) (hc : X.calm = true) (hi : PMI X W tg iter mi) (hg : PMG X W vs tg g) (hb : PMSs X W body mb)
    (hs : ∀ x, foldedSetIterable iter X.env x = pure x := by intro _; rfl) : PMS X W (.For tg iter body [] pos) (sFor mi g mb) := by
  refine ps_imp (ps_for hp hc hi hg hb hs) fun D σ H ⟨ρ, Γ, S, R, G, q⟩ => ?_
  refine ⟨ρ, Γ, S, R, G, AftS.bind G q fun it S1 ρ1 H1 J E1 R1 hJ q1 => ?_⟩
  refine ⟨fun i m σ' H' => ∃ ρ' Γ' S', Ext ρ1 ρ' H1 H' ∧ RS (kxOf X) ρ' S' H' ∧ RE (kxOf X) ρ' H' Γ' σ' ∧ AftS (kxOf X) W D ρ' H' (loopF it g mb m i Γ' S'), ⟨_, ρ1, Γ, S1, R1.refl, R1, G.ext E1, q1⟩, ?_⟩
  rintro i m σ' H' ⟨ρ', Γ', S', E', R', G', q'⟩
  have go := hJ ρ' S' H' E' R' i
  cases m with
  | zero =>
    have q' : AftS (kxOf X) W D ρ' H' (match it.get i S' with | some none => .nx Γ' S' | _ => .bad) := q'
    cases e : it.get i S' with
    | none => rw [e] at q'; exact q'.elim
    | some o =>
      cases o with
      | some x => rw [e] at q'; exact q'.elim
      | none =>
        rw [e] at q' go
        exact .inl ⟨go, q' ρ' H' σ' R'.refl R' G'⟩
  | succ k =>
    unfold loopF at q'
    cases e : it.get i S' with
    | none => rw [e] at q'; exact q'.elim
    | some o =>
      cases o with
      | none =>
        rw [e] at q' go
        exact .inl ⟨go, q' ρ' H' σ' R'.refl R' G'⟩
      | some x =>
        rw [e] at q' go
        refine .inr ⟨go.1, fun σ2 H2 => ∃ ρ2 Γ2 S2, Ext ρ1 ρ2 H1 H2 ∧ RS (kxOf X) ρ2 S2 H2 ∧ RE (kxOf X) ρ2 H2 Γ2 σ2 ∧ AftS (kxOf X) W D ρ2 H2 (loopF it g mb k (i + 1) Γ2 S2), fun σ2 H2 h => ⟨k, Nat.lt_succ_self k, h⟩, fun y H2 hy => ?_⟩
        obtain ⟨E2, R2, r2⟩ := go.2 y H2 hy
        have q' := q'.shift E2
        refine ⟨ρ', Γ', S', x, R2, G'.ext E2, r2, AftS.bind (G'.ext E2) q' fun Γ3 S3 ρ3 H3 σ3 E3 R3 G3 q3 => ?_⟩
        refine ⟨ρ3, Γ3, S3, R3, G3.1, ?_⟩
        have E13 : Ext ρ1 ρ3 H1 H3 := (E'.trans E2).trans E3
        cases e3 : mb Γ3 S3 with
        | bad => rw [e3] at q3; exact q3
        | nx Γ4 S4 => rw [e3] at q3; exact fun ρ5 H5 σ5 E5 R5 G5 => ⟨ρ5, Γ4, S4, E13.trans E5, R5, G5, q3.shift E5⟩
        | ct Γ4 S4 => rw [e3] at q3; exact fun ρ5 H5 σ5 E5 R5 G5 => ⟨ρ5, Γ4, S4, E13.trans E5, R5, G5, q3.shift E5⟩
        | bk Γ4 S4 => rw [e3] at q3; exact fun ρ5 H5 σ5 E5 R5 G5 => q3 ρ5 H5 σ5 E5 R5 G5
        | rt v S4 => rw [e3] at q3; exact q3
        | ex c f v Γ4 S4 => rw [e3] at q3; exact q3
/-! ### while -/
def loopW (c : MT) (body : MS) : Nat → En → Sto → Rs
  | 0, _, _ => .bad
  | k + 1, Γ, S => thenS Γ (c Γ S) fun b S1 => if b = true then match body Γ S1 with
      | .nx Γ2 S2 => loopW c body k Γ2 S2
      | .ct Γ2 S2 => loopW c body k Γ2 S2
      | .bk Γ2 S2 => .nx Γ2 S2
      | .rt v S2 => .rt v S2
      | .ex c f v Γ2 S2 => .ex c f v Γ2 S2
      | .bad => .bad
    else .nx Γ S1
def sWhile (fuel : Nat) (c : MT) (body : MS) : MS := fun Γ S => loopW c body fuel Γ S
theorem pms_while {X : Cx} {W : XW} {c : Expr} {body : List Stmt} {tc : MT} {mb : MS} {pos : Pos} (fuel : Nat) (hp : PassesOwn (model X.prog X.w) X.A X.env X.xe) (hc : PMT X W c tc) (hb : PMSs X W body mb) : PMS X W (.While c body [] pos) (sWhile fuel tc mb) := by
  refine ps_imp (ps_while hp hc hb) fun D σ H ⟨ρ, Γ, S, R, G, q⟩ => ?_
  refine ⟨fun m σ' H' => ∃ ρ' Γ' S', RS (kxOf X) ρ' S' H' ∧ RE (kxOf X) ρ' H' Γ' σ' ∧ AftS (kxOf X) W D ρ' H' (loopW tc mb m Γ' S'), ⟨fuel, ρ, Γ, S, R, G, q⟩, ?_⟩
  rintro m σ' H' ⟨ρ', Γ', S', R', G', q'⟩
  cases m with
  | zero => exact q'.elim
  | succ k =>
    refine ⟨ρ', Γ', S', R', G', AftS.bind G' q' fun b S1 ρ1 H1 z E1 R1 r1 q1 => ?_⟩
    subst r1
    cases z with
    | false => exact iteF (q1 ρ1 H1 σ' R1.refl R1 (G'.ext E1))
    | true =>
      refine iteT ⟨fun σ2 H2 => ∃ ρ2 Γ2 S2, RS (kxOf X) ρ2 S2 H2 ∧ RE (kxOf X) ρ2 H2 Γ2 σ2 ∧ AftS (kxOf X) W D ρ2 H2 (loopW tc mb k Γ2 S2), fun σ2 H2 h => ⟨k, Nat.lt_succ_self k, h⟩, ρ1, Γ', S1, R1, G'.ext E1, ?_⟩
      rw [if_pos rfl] at q1
      cases e3 : mb Γ' S1 with
      | bad => rw [e3] at q1; exact q1
      | nx Γ4 S4 => rw [e3] at q1; exact fun ρ5 H5 σ5 E5 R5 G5 => ⟨ρ5, Γ4, S4, R5, G5, q1.shift E5⟩
      | ct Γ4 S4 => rw [e3] at q1; exact fun ρ5 H5 σ5 E5 R5 G5 => ⟨ρ5, Γ4, S4, R5, G5, q1.shift E5⟩
      | bk Γ4 S4 => rw [e3] at q1; exact fun ρ5 H5 σ5 E5 R5 G5 => q1 ρ5 H5 σ5 E5 R5 G5
      | rt v S4 => rw [e3] at q1; exact q1
      | ex c f v Γ4 S4 => rw [e3] at q1; exact q1
end PM

namespace PM
open PySem PySem.Spec PyProof.Rows L2 Q2
/-! ### a list being made stands beside the store -/
section
variable {K : KX} {ρ : List Addr} {H : Hp} {S : Sto}
mutual
theorem Rv.more (l : List Addr) (hn : ∀ b ∈ l, ∃ ws, H b = some (.lst ws)) : ∀ {v : Va} {w : V}, Rv K ρ H v w → Rv K (ρ ++ l) H v w
  | .non, _, h => h
  | .bl _, _, h => h
  | .int _, _, h => h
  | .str _, _, h => h
  | .tup xs, _, h => by
    obtain ⟨a, ws, rfl, h1, h2⟩ := h
    exact ⟨a, ws, rfl, h1, Rvs.more l hn h2⟩
  | .rol xs, _, h => by
    obtain ⟨a, ws, rfl, h1, h2⟩ := h
    exact ⟨a, ws, rfl, h1, Rvs.more l hn h2⟩
  | .ref n, _, h => by
    obtain ⟨a, h1, rfl⟩ := h
    exact ⟨a, by rw [List.getElem?_append_left (List.getElem?_eq_some_iff.mp h1).1]; exact h1, rfl⟩
  | .adr _, _, h => h
  | .ty _, _, h => h
  | .exc a d f v, _, h => by
    obtain ⟨h1, h2, u, h3, h4⟩ := h
    refine ⟨h1, fun z => ?_, u, h3, Rv.more l hn h4⟩
    rcases List.mem_append.mp z with z | z
    · exact h2 z
    · obtain ⟨ws, e⟩ := hn d z
      rw [h3] at e
      cases e
theorem Rvs.more (l : List Addr) (hn : ∀ b ∈ l, ∃ ws, H b = some (.lst ws)) : ∀ {xs : List Va} {ws : List V}, Rvs K ρ H xs ws → Rvs K (ρ ++ l) H xs ws
  | [], _, h => h
  | x :: xs, _, h => by
    obtain ⟨w, r, rfl, hw, t⟩ := h
    exact ⟨w, r, rfl, Rv.more l hn hw, Rvs.more l hn t⟩
end
/-- what is no tuple is written -/
def Oth (H : Hp) (p : Addr) : Prop := ∃ o, H p = some o ∧ (∀ xs, o ≠ .tup xs) ∧ (∀ q x, o ≠ .frz q x) ∧ (∀ fs, o ≠ .xd fs) ∧ ∀ φ, o ≠ .ext φ
section
variable {p : Addr} {u : HO}
theorem Oth.sqt (h : Oth H p) {b : Addr} {ws : List V} (s : SqT K.K H b ws) : SqT K.K (upd H p u) b ws := by
  obtain ⟨o, h0, n1, n2, _⟩ := h
  rcases s with (h | ⟨q, h⟩) | h
  · exact .inl (.inl (by rw [upd_ne (fun z => by rw [z, h0] at h; exact n1 _ (Option.some.inj h))]; exact h))
  · exact .inl (.inr ⟨q, by rw [upd_ne (fun z => by rw [z, h0] at h; exact n2 _ _ (Option.some.inj h))]; exact h⟩)
  · exact .inr h
theorem Oth.fzl (h : Oth H p) {b : Addr} {ws : List V} (s : FzL K.K H b ws) : FzL K.K (upd H p u) b ws := by
  obtain ⟨o, h0, n1, n2, _⟩ := h
  rcases s with ⟨q, h⟩ | h
  · exact .inl ⟨q, by rw [upd_ne (fun z => by rw [z, h0] at h; exact n2 _ _ (Option.some.inj h))]; exact h⟩
  · exact .inr h
mutual
theorem Rv.oth (o : Oth H p) : ∀ {v : Va} {w : V}, Rv K ρ H v w → Rv K ρ (upd H p u) v w
  | .non, _, h => h
  | .bl _, _, h => h
  | .int _, _, h => h
  | .str _, _, h => h
  | .tup xs, _, h => by
    obtain ⟨a, ws, rfl, h1, h2⟩ := h
    exact ⟨a, ws, rfl, o.sqt h1, Rvs.oth o h2⟩
  | .rol xs, _, h => by
    obtain ⟨a, ws, rfl, h1, h2⟩ := h
    exact ⟨a, ws, rfl, o.fzl h1, Rvs.oth o h2⟩
  | .ref n, _, h => h
  | .adr _, _, h => h
  | .ty _, _, h => h
  | .exc a d f v, _, h => by
    obtain ⟨h1, h2, u, h3, h4⟩ := h
    refine ⟨h1, h2, u, ?_, Rv.oth o h4⟩
    obtain ⟨p', e, _, _, nx, _⟩ := o
    rw [upd_ne (fun z => by rw [← z, h3] at e; exact nx _ (Option.some.inj e).symm)]
    exact h3
theorem Rvs.oth (o : Oth H p) : ∀ {xs : List Va} {ws : List V}, Rvs K ρ H xs ws → Rvs K ρ (upd H p u) xs ws
  | [], _, h => h
  | x :: xs, _, h => by
    obtain ⟨w, r, rfl, hw, t⟩ := h
    exact ⟨w, r, rfl, Rv.oth o hw, Rvs.oth o t⟩
end
theorem RS.oth (R : RS K ρ S H) (hp : p ∉ ρ) (o : Oth H p) : RS K ρ S (upd H p u) := by
  refine ⟨R.len, R.nd, fun n a x h1 h2 => ?_⟩
  have na : a ≠ p := fun z => hp (by rw [← z]; exact List.mem_of_getElem? h1)
  have h := R.at_ n a x h1 h2
  cases x with
  | lst xs =>
    obtain ⟨hl, ws, h3, t⟩ := h
    exact ⟨hl, ws, by rw [upd_ne na]; exact h3, t.oth o⟩
  | setT ks =>
    obtain ⟨L, h1, h2, h3⟩ := h
    exact ⟨L, by rw [upd_ne na]; exact h1, h2, fun p hp => o.sqt (h3 p hp)⟩
  | raw q => exact ⟨by rw [upd_ne na]; exact h.1, h.2⟩
  | tbl q =>
    obtain ⟨ps, h1, h2, h3, h4⟩ := h
    refine ⟨ps, by rw [upd_ne na]; exact h1, h2, fun pos cv hc => ?_, h4⟩
    obtain ⟨c, e1, e2, e3⟩ := h3 pos cv hc
    obtain ⟨o', e, _, _, _, ne⟩ := o
    exact ⟨c, e1, e2, by rw [upd_ne (fun z => by rw [← z, e3] at e; exact ne _ (Option.some.inj e).symm)]; exact e3⟩
  | dct kvs =>
    obtain ⟨ws, h3, h4, h5⟩ := h
    exact ⟨ws, by rw [upd_ne na]; exact h3, h4, h5.oth o⟩
end
theorem RS.adopt {D : Addr} {xs : List Va} {ws : List V} (R : RS K ρ S H) (hD : D ∉ ρ) (h : H D = some (.lst ws)) (hl : xs.length ≤ sizeLine) (hx : Rvs K ρ H xs ws) : RS K (ρ ++ [D]) (S ++ [.lst xs]) H := by
  have hDD : ∀ b ∈ [D], ∃ ws, H b = some (.lst ws) := fun b hb => ⟨ws, by rw [List.mem_singleton.mp hb]; exact h⟩
  refine ⟨by simp [R.len], ?_, fun n a u h1 h2 => ?_⟩
  · refine List.nodup_append.mpr ⟨R.nd, by simp, fun x hx y hy z => hD ?_⟩
    rw [← List.mem_singleton.mp hy, ← z]
    exact hx
  · by_cases hn : n < ρ.length
    · rw [List.getElem?_append_left hn] at h1
      rw [List.getElem?_append_left (by rw [← R.len]; exact hn)] at h2
      have q := R.at_ n a u h1 h2
      cases u with
      | lst ys =>
        obtain ⟨q1, us, q2, q3⟩ := q
        exact ⟨q1, us, q2, q3.more [D] hDD⟩
      | setT ks => exact q
      | raw o => exact q
      | tbl q' =>
        obtain ⟨ps, g1, g2, g3, g4⟩ := q
        refine ⟨ps, g1, g2, fun pos cv hc => ?_, g4⟩
        obtain ⟨c, e1, e2, e3⟩ := g3 pos cv hc
        refine ⟨c, e1, fun z => ?_, e3⟩
        rcases List.mem_append.mp z with z | z
        · exact e2 z
        · rw [List.mem_singleton.mp z, h] at e3
          cases e3
      | dct kvs =>
        obtain ⟨us, q2, q3, q4⟩ := q
        exact ⟨us, q2, q3, q4.more [D] hDD⟩
    · have hn' : n = ρ.length := by
        have := (List.getElem?_eq_some_iff.mp h1).1
        simp at this
        omega
      subst hn'
      rw [List.getElem?_append_right (Nat.le_refl _), Nat.sub_self] at h1
      rw [List.getElem?_append_right (by rw [R.len]; exact Nat.le_refl _), R.len, Nat.sub_self] at h2
      cases h1
      cases h2
      exact ⟨hl, ws, h, hx.more [D] hDD⟩
theorem Ext.adopt {ρ1 : List Addr} {H1 : Hp} {D : Addr} (E : Ext ρ1 ρ H1 H) (h : H1 D = none) : Ext ρ1 (ρ ++ [D]) H1 H := by
  obtain ⟨l, hl⟩ := E.pre
  refine ⟨E.nt, ⟨l ++ [D], by rw [hl, List.append_assoc]⟩, E.fr, fun b hb n => ?_⟩
  rcases List.mem_append.mp hb with hb | hb
  · exact E.new b hb n
  · rw [List.mem_singleton.mp hb]
    exact h
theorem Ext.notin {ρ' : List Addr} {H' : Hp} {D : Addr} {o : HO} (E : Ext ρ ρ' H H') (h : H D = some o) (n : D ∉ ρ) : D ∉ ρ' := fun z => by
  have := E.new D z n
  rw [h] at this
  cases this
end
/-! ### comprehensions -/
def wipeE (Γ : En) : List Nat → En
  | [] => Γ
  | v :: vs => (wipeE Γ vs).set v none
theorem wipeE_get (Γ : En) (us : List Nat) (i : Nat) : (wipeE Γ us)[i]? = if i ∈ us then (if i < Γ.length then some none else none) else Γ[i]? := by
  induction us with
  | nil => simp [wipeE]
  | cons u us ih =>
    unfold wipeE
    have hl : ∀ us, (wipeE Γ us).length = Γ.length := fun us => by
      induction us with
      | nil => rfl
      | cons u us ih => unfold wipeE; rw [List.length_set, ih]
    rw [List.getElem?_set, hl]
    by_cases e : u = i
    · subst e
      simp
    · rw [if_neg e, ih]
      have e' : ¬ i = u := fun z => e z.symm
      simp [e']
theorem wipeE_len (Γ : En) (us : List Nat) : (wipeE Γ us).length = Γ.length := by
  induction us with
  | nil => rfl
  | cons u us ih => unfold wipeE; rw [List.length_set, ih]
theorem RE.wipe {K : KX} {ρ : List Addr} {H : Hp} {Γ : En} {σ : L2.St} (G : RE K ρ H Γ σ) (us : List Nat) : RE K ρ H (wipeE Γ us) (L2.wipe σ us) := by
  refine ⟨by rw [wipeE_len, wipe_length, G.len], fun i v h => ?_⟩
  rw [wipeE_get] at h
  rw [wipe_get]
  split at h
  · split at h <;> cases h
  · rw [if_neg (by assumption)]
    exact G.at_ i v h
/-- without raising -/
def Res.bindN {α β : Type} (r : Res α) (k : α → Sto → Res β) : Res β := match r with
  | .ok a S => k a S
  | _ => .bad
@[simp] theorem bindN_ok {α β : Type} (a : α) (S : Sto) (k : α → Sto → Res β) : (Res.ok a S).bindN k = k a S := rfl
theorem Aft.bindN {α β γ δ : Type} {K : KX} {W W' : XW} {σ σ' : L2.St} {Rl : List Addr → Hp → α → β → Prop} {Rl2 : List Addr → Hp → γ → δ → Prop} {Q : β → Hp → Prop} {Q2 : δ → Hp → Prop} {ρ : List Addr} {H : Hp} {r : Res α} {k : α → Sto → Res γ}
    (h : Aft K W σ Rl2 Q2 ρ H (r.bindN k)) (hk : ∀ v S1 ρ1 H1 w, Ext ρ ρ1 H H1 → RS K ρ1 S1 H1 → Rl ρ1 H1 v w → Aft K W σ Rl2 Q2 ρ1 H1 (k v S1) → Q w H1) : Aft K W' σ' Rl Q ρ H r := by
  cases r with
  | bad => exact h
  | ok v S' => exact fun ρ' H' w E R q => hk v S' ρ' H' w E R q (Aft.shift E h)
  | ex c f v S' => exact h.elim
def compF (it : ItV) (g : MG) (mt : MT) (me : ME) (Γ : En) : Nat → Nat → List Va → Sto → Res (List Va)
  | 0, i, acc, S => match it.get i S with
    | some none => .ok acc S
    | _ => .bad
  | k + 1, i, acc, S => match it.get i S with
    | some none => .ok acc S
    | none => .bad
    | some (some x) => (g x Γ S).bindN fun Γ1 S1 => (mt Γ1 S1).bindN fun b S2 => if b = true then (me Γ1 S2).bindN fun y S3 => if acc.length < sizeLine then compF it g mt me Γ k (i + 1) (acc ++ [y]) S3 else .bad
        else compF it g mt me Γ k (i + 1) acc S2
def mLc (mi : MI) (g : MG) (mt : MT) (me : ME) (vs : List Nat) : ME := fun Γ S => (mi Γ S).bind fun it S1 => (compF it g mt me (wipeE Γ vs) (it.fuel S1) 0 [] S1).bindN fun acc S2 => .ok (.ref S2.length) (S2 ++ [.lst acc])
def mtYes : MT := fun _ S => .ok true S
def PMTs (X : Cx) (W : XW) (es : List Expr) (m : MT) : Prop := PTs X es (tMT (kxOf X) W m)
section
variable {X : Cx} {W : XW}
theorem pmts_nil : PMTs X W [] mtYes := ⟨fun pins s σ H Q I ⟨ρ, Γ, S, R, G, q⟩ => pts_nil.run pins s σ H Q I (q ρ H true R.refl R rfl)⟩
theorem pmts_one {c : Expr} {t : MT} (h : PMT X W c t) : PMTs X W [c] t := pts_one h
/-- the reading of a comprehension, from the plain one -/
theorem lc_imp {K : KX} {mi : MI} {g : MG} {mt : MT} {me : ME} {us vs : List Nat} (sub : ∀ i ∈ us, i ∈ vs) (σ : L2.St) (H : Hp) (Q : VK) (h : tM K W (mLc mi g mt me vs) σ H Q) :
    tLc (tMI K W mi) (tMG K WF us g) (tMT K WF mt) (tM K WF me) vs σ H Q := by
  obtain ⟨ρ, Γ, S, R, G, q⟩ := h
  refine ⟨ρ, Γ, S, R, G, q.bind fun it S1 ρ1 H1 J E1 R1 hJ q1 => ?_⟩
  intro D nD
  have D1 := R1.fresh nD
  obtain ⟨E1', R1'⟩ := R1.own (o := .lst []) nD
  refine ⟨fun i m H' => ∃ ρ' S' acc ws, Ext ρ1 ρ' H1 H' ∧ RS K ρ' S' H' ∧ D ∉ ρ' ∧ H' D = some (.lst ws) ∧ Rvs K ρ' H' acc ws ∧ acc.length ≤ sizeLine ∧
    Aft K W σ (Rv K) Q ρ1 H1 ((compF it g mt me (wipeE Γ vs) m i acc S').bindN fun acc S2 => .ok (.ref S2.length) (S2 ++ [.lst acc])), ⟨_, ρ1, S1, [], [], E1', R1', D1, upd_same, rfl, Nat.zero_le _, q1⟩, ?_⟩
  rintro i m H' ⟨ρ', S', acc, ws, E', R', D', hD, ha, hl, q'⟩
  have stop : J.stop i H' → Aft K W σ (Rv K) Q ρ1 H1 (Res.ok (.ref S'.length) (S' ++ [.lst acc])) → J.stop i H' ∧ Q (.ref D) H' := fun h1 h2 => by
    refine ⟨h1, h2 (ρ' ++ [D]) H' (.ref D) (E'.adopt nD) (R'.adopt D' hD hl ha) (R'.last D)⟩
  have go := hJ ρ' S' H' E' R' i
  cases m with
  | zero =>
    unfold compF at q'
    cases e : it.get i S' with
    | none => rw [e] at q'; exact q'.elim
    | some o =>
      cases o with
      | some x => rw [e] at q'; exact q'.elim
      | none =>
        rw [e] at q' go
        exact .inl (stop go q')
  | succ k =>
    unfold compF at q'
    cases e : it.get i S' with
    | none => rw [e] at q'; exact q'.elim
    | some o =>
      cases o with
      | none =>
        rw [e] at q' go
        exact .inl (stop go q')
      | some x =>
        rw [e] at q' go
        refine .inr ⟨go.1, fun H2 => ∃ ρ2 S2 acc2 ws2, Ext ρ1 ρ2 H1 H2 ∧ RS K ρ2 S2 H2 ∧ D ∉ ρ2 ∧ H2 D = some (.lst ws2) ∧ Rvs K ρ2 H2 acc2 ws2 ∧ acc2.length ≤ sizeLine ∧
          Aft K W σ (Rv K) Q ρ1 H1 ((compF it g mt me (wipeE Γ vs) k (i + 1) acc2 S2).bindN fun acc S2 => .ok (.ref S2.length) (S2 ++ [.lst acc])), fun H2 h => ⟨k, Nat.lt_succ_self k, h⟩, fun y H2 hy => ?_⟩
        obtain ⟨E2, R2, r2⟩ := go.2 y H2 hy
        have hD2 := E2.fr D _ hD D'
        have G2 : RE K ρ' H2 (wipeE Γ vs) (L2.wipe σ vs) := (((G.ext E1).ext E').ext E2).wipe vs
        -- the target
        have q' : Aft K W σ (Rv K) Q ρ1 H1 (((g x (wipeE Γ vs) S').bindN fun Γ1 S1 => (mt Γ1 S1).bindN fun b S2 => if b = true then (me Γ1 S2).bindN fun y S3 => if acc.length < sizeLine then compF it g mt me (wipeE Γ vs) k (i + 1) (acc ++ [y]) S3 else .bad
          else compF it g mt me (wipeE Γ vs) k (i + 1) acc S2).bindN fun acc S2 => .ok (.ref S2.length) (S2 ++ [.lst acc])) := q'
        refine ⟨ρ', wipeE Γ vs, S', x, R2, G2, r2, ?_⟩
        cases eg : g x (wipeE Γ vs) S' with
        | bad => rw [eg] at q'; exact q'.elim
        | ex a b c d => rw [eg] at q'; exact q'.elim
        | ok Γ3 S3 =>
          rw [eg, bindN_ok] at q'
          rintro ρ3 H3 σ3 E3 R3 ⟨G3, ag⟩
          have D3 := E3.notin hD2 D'
          have hD3 := E3.fr D _ hD2 D'
          refine ⟨(ag vs sub).trans (wipe_wipe σ vs), ρ3, Γ3, S3, R3, G3, ?_⟩
          cases et : mt Γ3 S3 with
          | bad => rw [et] at q'; exact q'.elim
          | ex a b c d => rw [et] at q'; exact q'.elim
          | ok b S4 =>
            rw [et, bindN_ok] at q'
            rintro ρ4 H4 b' E4 R4 rfl
            have D4 := E4.notin hD3 D3
            have hD4 := E4.fr D _ hD3 D3
            have E14 : Ext ρ1 ρ4 H1 H4 := ((E'.trans E2).trans E3).trans E4
            have ha4 : Rvs K ρ4 H4 acc ws := ((ha.ext E2).ext E3).ext E4
            cases b' with
            | false =>
              refine iteF ?_
              exact ⟨ρ4, S4, acc, ws, E14, R4, D4, hD4, ha4, hl, q'⟩
            | true =>
              refine iteT ⟨ρ4, Γ3, S4, R4, G3.ext E4, ?_⟩
              rw [if_pos rfl] at q'
              cases ee : me Γ3 S4 with
              | bad => rw [ee] at q'; exact q'.elim
              | ex a b c d => rw [ee] at q'; exact q'.elim
              | ok z S5 =>
                rw [ee, bindN_ok] at q'
                intro ρ5 H5 z' E5 R5 rz
                have D5 := E5.notin hD4 D4
                have hD5 := E5.fr D _ hD4 D4
                have ha5 := ha4.ext E5
                by_cases hlt : acc.length < sizeLine
                · rw [if_pos hlt] at q'
                  have o : Oth H5 D := ⟨_, hD5, (fun _ z => by cases z), (fun _ _ z => by cases z), (fun _ z => by cases z), (fun _ z => by cases z)⟩
                  have E15 := E14.trans E5
                  refine ⟨ws, hD5, by rw [← ha5.len]; exact hlt, ρ5, S5, acc ++ [z], ws ++ [z'], ⟨E15.nt, E15.pre, fun b u hb nb => ?_, E15.new⟩, R5.oth D5 o, D5, upd_same, (ha5.app (Rvs.cons rz Rvs.nil)).oth o, by rw [List.length_append]; exact hlt, q'⟩
                  rw [upd_ne (ne_of_none hb nD)]
                  exact E15.fr b u hb nb
                · rw [if_neg hlt] at q'
                  exact q'.elim
section
variable {elt tg iter : Expr} {ifs : List Expr} {scope : Scope} {own : List (Str × Nat)} {pos : Pos} {mi : MI} {g : MG} {mt : MT} {me : ME} {us : List Nat}
theorem pm_lc (hc : X.calm = true) (hN : X.N.Nodup) (hi : PMI X W tg iter mi) (ok : BlkOk X.N X.env.scope scope own) (sub : ∀ i ∈ us, i ∈ own.map (·.2))
    (hg : ∀ (s : Shared) (H : Hp) (C : Addr) (cl : List (Str × Addr)) (fp : List Addr), PMG (X.blk s H scope (compEnvC scope cl C X.env) fp) WF us tg g) (ht : ∀ (s : Shared) (H : Hp) (C : Addr) (cl : List (Str × Addr)) (fp : List Addr), PMTs (X.blk s H scope (compEnvC scope cl C X.env) fp) WF ifs mt)
    (he : ∀ (s : Shared) (H : Hp) (C : Addr) (cl : List (Str × Addr)) (fp : List Addr), PM (X.blk s H scope (compEnvC scope cl C X.env) fp) WF elt me) (hs : ∀ x, foldedSetIterable iter X.env x = pure x := by intro _; rfl) :
    PM X W (.ListComp elt [⟨tg, iter, ifs, 0⟩] scope pos) (mLc mi g mt me (own.map (·.2))) :=
  pe_imp (pe_lc (g := tMG (kxOf X) WF us g) (tt := tMT (kxOf X) WF mt) (te := tM (kxOf X) WF me) hc hN hi ok hg ht he hs) (lc_imp sub)
/-- name = [..] -/
theorem pms_lc {i : Nat} {y : Str} {py spos : Pos} (hc : X.calm = true) (hN : X.N.Nodup) (hy : X.N[i]? = some y) (hyl : X.env.scope.names.lookup y = some .local)
    (hsw : swapsWith (.ListComp elt [⟨tg, iter, ifs, 0⟩] scope pos) (some (.Name y py)) spos.line X.env = pure true) (hi : PMI X W tg iter mi) (ok : BlkOk X.N X.env.scope scope own) (sub : ∀ i ∈ us, i ∈ own.map (·.2))
    (hg : ∀ (s : Shared) (H : Hp) (C : Addr) (cl : List (Str × Addr)) (fp : List Addr), PMG (X.blk s H scope (compEnvC scope cl C X.env) fp) WF us tg g) (ht : ∀ (s : Shared) (H : Hp) (C : Addr) (cl : List (Str × Addr)) (fp : List Addr), PMTs (X.blk s H scope (compEnvC scope cl C X.env) fp) WF ifs mt)
    (he : ∀ (s : Shared) (H : Hp) (C : Addr) (cl : List (Str × Addr)) (fp : List Addr), PM (X.blk s H scope (compEnvC scope cl C X.env) fp) WF elt me) (hs : ∀ x, foldedSetIterable iter X.env x = pure x := by intro _; rfl) :
    PMS X W (.Assign [.Name y py] (.ListComp elt [⟨tg, iter, ifs, 0⟩] scope pos) spos) (sSet i (mLc mi g mt me (own.map (·.2)))) :=
  pms_set (ps_imp (ps_setLc (g := tMG (kxOf X) WF us g) (tt := tMT (kxOf X) WF mt) (te := tM (kxOf X) WF me) hc hN hy hyl hsw hi ok hg ht he hs) fun D σ H h => lc_imp sub σ H _ h)
end
end
end PM

namespace Q2
open PySem PySem.W PySem.Spec PySem.Calls PyProof.Rows
section
variable {prog : Program} {w : World} {A : Around} {E : Value → Shared → Prop} {s : Shared} {vs : List Value}
theorem collect_tupl {t : Addr} {Q : List Value → Shared → Prop} (tup : IsTup s.heap t vs.toArray) (small : vs.length ≤ sizeLine)
    (win : Q vs { s with heap := (s.heap.push (seqObj "list" #[] 0)).update s.heap.objs.size (Obj.mapSeq (· ++ vs.toArray)) }) : wpAny (model prog w) A (collect (.ref t)) Q E s := by
  obtain ⟨o, here, cls, n, dat⟩ := id tup
  unfold collect
  refine wpAny_bind (wpAny_runValue (codeAny_builtin (entry_proto_collect') ?_))
  show wpAny _ _ (do again (.builtin "list.__iadd__" ⟨[← newList [], .ref t], []⟩)) _ _ s
  refine wpAny_bind (wpAny_newList (wpAny_pure ⟨(Code.quiet_builtin _ (by decide +kernel)), codeAny_builtin (entry_list_iadd') ?_⟩))
  show wpAny _ _ (Builtin.List.listExtendWith (.ref s.heap.objs.size) (.ref t) (.ref s.heap.objs.size)) _ _ { s with heap := s.heap.push (seqObj "list" #[] 0) }
  unfold Builtin.List.listExtendWith
  have there : (s.heap.push (seqObj "list" #[] 0)).get? t = some o := Heap.get?_push_of_some _ here
  refine wpAny_bind ((wpAny_typeOf (T := "tuple") (show ({ s with heap := s.heap.push (seqObj "list" #[] 0) } : Shared).TypeIs (.ref t) "tuple" from ⟨o, there, cls⟩)) ?_)
  have same2 : (Value.type "tuple" == Value.type "tuple") = true := by rfl
  rw [if_pos (show _ by rw [same2]; simp)]
  refine wpAny_bind ((listItems_at there dat) ?_)
  refine wpAny_bind ((listItems_at (xs := #[]) (n := 0) (Heap.get?_push_size _ rfl) rfl) ?_)
  rw [if_neg (show ¬ _ by simp)]
  refine wpAny_bind (listUpdate_at (xs := #[]) (n := 0) (Heap.get?_push_size _ rfl) rfl ?_ (Nat.zero_le _) (show (#[] ++ vs.toArray).size ≤ sizeLine + 1 by simp only [Array.size_append, List.size_toArray, List.length_nil]; omega))
  refine (wpAny_pure ?_)
  show wpAny (model prog w) A (do
      let ob ← load s.heap.objs.size
      match ob.data with
      | .seq xs _ => pure xs.toList
      | _ => unsupported "internal:collect") Q E { s with heap := (s.heap.push (seqObj "list" #[] 0)).update s.heap.objs.size (Obj.mapSeq (· ++ vs.toArray)) }
  refine wpAny_bind ((wpAny_load (get?_update_seq (Heap.get?_push_size _ rfl) _)) ?_)
  show wpAny _ _ (pure ((#[] : Array Value) ++ vs.toArray).toList) Q E _
  have e : ((#[] : Array Value) ++ vs.toArray).toList = vs := by simp
  rw [e]
  exact wpAny_pure win
/-- sorted(x, ..) of a list or a tuple, by what list.sort does to a new list of its items -/
theorem sorted_seq {l : Addr} {kw : List (Str × Value)} {Q : Value → Shared → Prop} (seq : s.heap.IsList l vs.toArray ∨ IsTup s.heap l vs.toArray) (small : vs.length ≤ sizeLine) (args1 : argsOk "sorted" ⟨[.ref l], kw⟩) (args2 : ∀ x, argsOk "list.sort" ⟨[.ref x], kw⟩)
    (sorts : ∀ E' : Value → Shared → Prop, wpAny (model prog w) A.in1.in1 (Builtin.«list.sort» ⟨[.ref (s.heap.objs.size + 1)], kw⟩) (fun f s' => f = .done (.ret .none) ∧ Q (.ref (s.heap.objs.size + 1)) s') E' { s with heap := copyHeap s.heap vs }) :
    wpAny (model prog w) A (call (.builtin "sorted") [.ref l] kw) Q E s := by
  rcases seq with h | h
  · exact sorted_of_sort h small args1 args2 sorts
  · refine call_function_entry_kw (kind_sorted) plain_sorted entry_sorted args1 ?_
    unfold Builtin.«sorted»
    refine wpAny_bind (m := checkCount "sorted" 1 1 _) ((wpAny_pure ?_))
    refine wpAny_bind (collect_tupl h small ?_)
    refine wpAny_bind ((wpAny_newList ?_ small))
    have big : ((s.heap.push (seqObj "list" #[] 0)).update s.heap.objs.size (Obj.mapSeq (· ++ vs.toArray))).objs.size = s.heap.objs.size + 1 := (Heap.size_update ..).trans (size_push' ..)
    show wpAny _ _ _ _ _ { s with heap := copyHeap s.heap vs }
    rw [big]
    refine wpAny_bind (wpAny_holding ((wpAny_call_entry_kw slot_list_sort ⟨_, copyHeap_at s.heap vs, rfl⟩ entry_list_sort ?here (args2 _))))
    case here =>
      refine wpAny_mono (sorts _) (fun f s' hf => ?_) fun _ _ e => e
      exact ⟨_, hf.1, wpAny_pure ⟨_, rfl, hf.2⟩⟩
variable {β : Type} {bs : List β} {enc : β → PyData} {R : Value → β → Prop}
theorem sorted_plain {l : Addr} {Q : Value → Shared → Prop} (seq : s.heap.IsList l vs.toArray ∨ IsTup s.heap l vs.toArray) (e : EachIs R vs bs) (er : EachIs (fun v b => ∃ as, Reads s.heap v (enc b) as) vs bs) (al : AllAlike (bs.map enc)) (so : Sortable (bs.map enc)) (small : bs.length ≤ sizeLine)
    (un : ∀ b, b ∈ bs → A.units + 2 + (enc b).depth < cLine) (win : ∀ out, out.length = bs.length → EachIs R out (bs.mergeSort (dataLe false enc)) → Q (.ref (s.heap.objs.size + 1)) { s with heap := sortedAll s.heap vs (List.toArray out) }) :
    wpAny (model prog w) A (call (.builtin "sorted") [.ref l]) Q E s := by
  have er2 : EachIs (fun v b => ∃ as, Reads (sortingHeap (copyHeap s.heap vs) (s.heap.objs.size + 1) vs) v (enc b) as) vs bs := er.mono fun _ _ ⟨as, r⟩ => ⟨as, PyProof.Rows.Reads.keeps (fun _ _ => sorting_copy_old) r⟩
  have lenv : vs.length ≤ sizeLine := by rw [e.length]; exact small
  refine sorted_seq seq lenv (args_sorted1 _) (fun _ => args_list_sort _) fun E' => ?_
  refine list_sort_vals (s := { s with heap := copyHeap s.heap vs }) (copyHeap_at s.heap vs) (SortsAt.data (s := { s with heap := sortingHeap (copyHeap s.heap vs) (s.heap.objs.size + 1) vs }) (each_map (R := fun v d => ∃ as, Reads (sortingHeap (copyHeap s.heap vs) (s.heap.objs.size + 1) vs) v d as) enc er2) al so (bound_map un)) lenv ⟨rfl, ?_⟩
  exact win _ (by rw [sortVals_length false rfl]; exact e.length) (sortVals_data false e er2 al)
theorem sorted_keyed {l : Addr} {f : Value} {kw : List (Str × Value)} {Q : Value → Shared → Prop} (k : β → PyData) (seq : s.heap.IsList l vs.toArray ∨ IsTup s.heap l vs.toArray) (e : EachIs R vs bs) (al : AllAlike (bs.map k)) (so : Sortable (bs.map k)) (small : bs.length ≤ sizeLine)
    (un : ∀ x, x ∈ bs → A.units + 2 + (k x).depth < cLine) (args1 : argsOk "sorted" ⟨[.ref l], kw⟩) (args2 : ∀ x, argsOk "list.sort" ⟨[.ref x], kw⟩) (tree : ∀ x, Builtin.«list.sort» ⟨[.ref x], kw⟩ = ksk_tree x f false)
    (turn : ∀ (v : Value) (x : β), R v x → x ∈ bs → ∀ (h : Heap) (tk : Nat), (∀ b o, s.heap.get? b = some o → h.get? b = some o) →
      wpAny (model prog w) A.in1.in1 (call f [v]) (KeyPure (k x) { s with heap := h, toks := tk }) (fun _ _ => False) { s with heap := h, toks := tk })
    (win : ∀ out c h' tk, (∀ b o, s.heap.get? b = some o → h'.get? b = some o) → s.heap.get? (s.heap.objs.size + 1) = none → h'.get? (s.heap.objs.size + 1) = some (seqObj "list" (List.toArray out) c) → out.length = bs.length → EachIs R out (bs.mergeSort (dataLe false k)) →
      Q (.ref (s.heap.objs.size + 1)) { s with heap := h', toks := tk }) : wpAny (model prog w) A (call (.builtin "sorted") [.ref l] kw) Q E s := by
  have fresh : s.heap.get? (s.heap.objs.size + 1) = none := Heap.get?_none_of_le (Nat.le_succ _)
  have over : ∀ {g : Heap}, KeepsBut (s.heap.objs.size + 1) (copyHeap s.heap vs) g → ∀ b o, s.heap.get? b = some o → g.get? b = some o := fun {g} kp b o q => kp b o (Nat.ne_of_lt (Nat.lt_succ_of_lt (Heap.lt_size q))) (copyHeap_old q)
  have lens : (bs.map k).length = vs.length := by rw [List.length_map]; exact e.length.symm
  have lenv : vs.length ≤ sizeLine := by rw [e.length]; exact small
  refine sorted_seq seq lenv args1 args2 fun E' => ?_
  rw [tree]
  refine keyH_tree (kz := bs.map k) (s := { s with heap := copyHeap s.heap vs }) (copyHeap_at s.heap vs) lens lenv al so (bound_map (A := A.in1.in1) un) (keyH_turns (s := { s with heap := copyHeap s.heap vs }) e fun v x hR hx h tk kp => turn v x hR hx h tk (over kp)) fun h' tk out c kp hD ko => ⟨rfl, ?_⟩
  exact win out c h' tk (over kp) fresh hD ((ko.length lens).trans e.length) (keyedOut_each k ko e)
end
end Q2

namespace Q2
open PySem PySem.Spec PyProof.Rows L2
section
variable {prog : Program} {w : World} {A : Around} {E : Value → Shared → Prop} {s : Shared}
theorem raw_item {env : Env} {m : Str → Option Value} {t : Addr} {u0 u1 v : Value} {k : Nat} {x : Str} {p1 p2 p3 : Pos} {j1 : Nat} {Q : Value → Shared → Prop} (kind : env.scope.kind = .function) (loc : env.kindOf x = some .local) (ns : s.heap.Ns env.locals m) (mx : m x = some (.ref t))
    (tup : IsTup s.heap t #[u0, u1]) (hk : k < 2) (hv : #[u0, u1][k]? = some v) (hd : (x == ("__debug__" : Str)) = false) (win : Q v { s with toks := s.toks + 1 }) :
    wpAny (model prog w) A (eval (.Subscript (.Name x p1) (.Constant (.int (k : Int)) j1 p2) p3) env) Q E s := by
  refine Subscript_ (wpAny_Name (wpAny_loadName_local kind loc ns mx ?_) hd)
  refine wpAny_Constant_int ?_
  exact subscriptTail_builtinR (s := { s with toks := s.toks + 1 }) (x := v) (IsTup.typeIs (s := { s with toks := s.toks + 1 }) tup) PyProof.Rows.slot_tuple_getitem.lookup
    (PyProof.Rows.getItem_tuple (s := { s with toks := s.toks + 1 }) (j := k) (Q := fun r s' => r = v ∧ Q r s') tup (by omega) (by omega) (seqIndex_of (by omega) (by show (k : Int) < ((2 : Nat) : Int); omega)) hv ⟨rfl, win⟩) rfl
/-- return (p[1], p[0]) -/
theorem raw_swap {env : Env} {m : Str → Option Value} {t : Addr} {u0 u1 : Value} {x : Str} {p1 p2 p3 p4 p5 p6 p7 p8 : Pos} {j1 j2 k7 : Nat} {Q : Flow → Shared → Prop} (kind : env.scope.kind = .function) (loc : env.kindOf x = some .local) (ns : s.heap.Ns env.locals m) (mx : m x = some (.ref t))
    (tup : IsTup s.heap t #[u0, u1]) (hd : (x == ("__debug__" : Str)) = false) (win : Q (.ret (.ref s.heap.objs.size)) { s with heap := s.heap.push { cls := .type "tuple", data := .seq #[u1, u0] }, toks := s.toks + 1 + 1 }) :
    wpAny (model prog w) A (execs [.Return (some (.Tuple [.Subscript (.Name x p1) (.Constant (.int 1) j1 p2) p3, .Subscript (.Name x p4) (.Constant (.int 0) j2 p5) p6] k7 p7)) p8] env) Q E s := by
  refine wpAny_execs_cons (wpAny_Return_some (wpAny_Tuple_spliced ?_))
  show wpAny _ _ (spliced [(false, eval (.Subscript (.Name x p1) (.Constant (.int 1) j1 p2) p3) env), (false, eval (.Subscript (.Name x p4) (.Constant (.int 0) j2 p5) p6) env)]) _ _ _
  refine Calls.spliced_cons (raw_item (k := 1) kind loc ns mx tup (by decide) rfl hd ?_)
  refine Calls.spliced_cons (raw_item (s := { s with toks := s.toks + 1 }) (k := 0) kind loc ns mx tup (by decide) rfl hd ?_)
  refine Calls.spliced_nil ⟨by show 2 ≤ sizeLine; decide, ?_⟩
  exact win
end
/-- how a def that swaps the two places of its argument is written -/
def Swaps (st : Stmt) : Prop := ∃ (x : Str) (p1 p2 p3 p4 p5 p6 p7 p8 : Pos) (j1 j2 k7 : Nat), FnScope [x] [x] (defScope st) ∧ (defScope st).names.lookup x = some .local ∧ (x == ("__debug__" : Str)) = false ∧
  defBody st = [.Return (some (.Tuple [.Subscript (.Name x p1) (.Constant (.int 1) j1 p2) p3, .Subscript (.Name x p4) (.Constant (.int 0) j2 p5) p6] k7 p7)) p8] ∧
  ∀ (kV doc pm : Value) (an : Option Addr) (cdv ct u : Value) (nm q : Str), bindArgs (PySem.W.fnOf nm q (defArgs st) (defBody st) (defScope st) .none kV doc pm an cdv ct) ⟨[u], []⟩ = pure [(x, u)]
/-- the call, on the bare heap -/
theorem swap_call {P : Program} {w : World} {K : PySem.W.Frag} {mg : Str → Option Value} {base : Heap} {A : Around} {outer : List Env} {s : Shared} {H : Hp} {nm : Str} {st : Stmt} {f : Addr} {fd : FuncData} (F : Fun K nm nm st f fd) (S : Swaps st) (e0 : Env0 P w K mg base A outer s H) (room : A.depth < recursionLimit)
    {t : Addr} {x y : Int} {tx ty : Tok} (tup : IsTup s.heap t #[.int x tx, .int y ty]) : wpAny (model P w) A (call (.ref f) [.ref t]) (PySem.W.KeyPure (.tuple [.int y, .int x]) s) (fun _ _ => False) s := by
  obtain ⟨oc, od, kV, doc, pm, an, cdv, ct, osl, rfl, lk, hcd⟩ := F.ex
  obtain ⟨nx, p1, p2, p3, p4, p5, p6, p7, p8, j1, j2, k7, sc, loc, hd, body, bind⟩ := S
  have KX : K.In s.heap := e0.mod.kin.keeps fun b o e => (e0.bs b o e).1
  have lim : s.heap.NoLimit := e0.mod.nolimit.keeps fun b o e => (e0.bs b o e).1
  refine wpAny_call (codeAny_call_function room (KX _ _ lk) rfl sc.co sc.gen rfl (PySem.W.codeRec_of KX hcd) (wpAny_of_eq (bind _ _ _ _ _ _ _ _ _) ?_))
  refine wpAny_newFunctionEnv_cells sc.kind (fun z hz => by rw [List.mem_singleton.mp hz]; exact .inl loc) fun env he s1 inc => ?_
  subst he
  refine ⟨lim.keeps inc.toInCall.keep, codeAny_func ?_⟩
  obtain ⟨h1, tk, rfl, keep⟩ := inc.done
  show wpAny _ _ (execs (defBody st) _) _ _ _
  rw [body]
  have tup1 : IsTup h1 t #[.int x tx, .int y ty] := by
    obtain ⟨o, ho, r⟩ := tup
    exact ⟨o, keep _ _ ho, r⟩
  refine raw_swap (x := nx) (t := t) (m := _) sc.kind loc inc.toInCall.ns ?_ tup1 hd ?_
  · show bindL _ [(nx, Value.ref t)] (fun _ => none) nx = some (.ref t)
    have kl : (newEnv (defScope st) s.heap.objs.size mainGlobals (cellsFrom (s.heap.objs.size + 1) (defScope st).names []) (nm ++ ".<locals>.") (some f) cdv none builtinsNs).kindOf nx = some .local := loc
    simp [bindL, kl]
  · refine ⟨_, _, rfl, fun b o hb => Heap.get?_push_of_some _ (keep b o hb), ?_⟩
    exact .tuple (Heap.get?_push_size _ rfl) rfl rfl (.cons (as := []) (.int y ty) (.cons (as := []) (.int x tx) .nil))
end Q2

namespace Q2
open PySem PySem.Spec PyProof.Rows L2
/-! ### sorted of points -/
abbrev keyX (q : Addr × Int × Int) : PyData := .tuple [.int q.2.1, .int q.2.2]
abbrev keyY (q : Addr × Int × Int) : PyData := .tuple [.int q.2.2, .int q.2.1]
abbrev sortX (qs : Pts) : Pts := qs.mergeSort (PySem.W.dataLe false keyX)
abbrev sortY (qs : Pts) : Pts := qs.mergeSort (PySem.W.dataLe false keyY)
abbrev refsOf (qs : Pts) : List V := qs.map fun q => V.ref q.1
def Tups (H : Hp) (qs : Pts) : Prop := ∀ q ∈ qs, H q.1 = some (.tup [.int q.2.1, .int q.2.2])
theorem each_refs : ∀ {qs : Pts} {us : List Value}, Vals (refsOf qs) us → PySem.W.EachIs (fun v (q : Addr × Int × Int) => v = Value.ref q.1) us qs
  | [], _, .nil => .nil
  | q :: qs, _, .cons r t => .cons (show _ = Value.ref q.1 from r) (each_refs t)
theorem vals_refs : ∀ {qs : Pts} {us : List Value}, PySem.W.EachIs (fun v (q : Addr × Int × Int) => v = Value.ref q.1) us qs → Vals (refsOf qs) us
  | _, _, .nil => .nil
  | _, _, .cons h t => .cons (show RelV (V.ref _) _ from h) (vals_refs t)
theorem each_of {R : Value → (Addr × Int × Int) → Prop} : ∀ {qs : Pts} {us : List Value}, PySem.W.EachIs (fun v (q : Addr × Int × Int) => v = Value.ref q.1) us qs → (∀ q ∈ qs, R (.ref q.1) q) → PySem.W.EachIs R us qs
  | _, _, .nil, _ => .nil
  | _, _, .cons h t, k => .cons (by rw [h]; exact k _ (List.mem_cons_self ..)) (each_of t fun q hq => k q (List.mem_cons_of_mem _ hq))
theorem alike_pts (f g : (Addr × Int × Int) → Int) (qs : Pts) : PySem.W.AllAlike (qs.map fun q => .tuple [.int (f q), .int (g q)]) := by
  intro d hd d' hd'
  obtain ⟨q, _, rfl⟩ := List.mem_map.mp hd
  obtain ⟨r, _, rfl⟩ := List.mem_map.mp hd'
  simp [PySem.W.alike, PySem.W.alikeAll]
theorem sortable_pts (f g : (Addr × Int × Int) → Int) (qs : Pts) : PySem.W.Sortable (qs.map fun q => .tuple [.int (f q), .int (g q)]) := .inl fun d hd => by
  obtain ⟨q, _, rfl⟩ := List.mem_map.mp hd
  exact ⟨_, _, rfl⟩
theorem depth_pt (a b : Int) : (PyData.tuple [.int a, .int b]).depth = 1 := ptD_depth (a, b)
section
variable {X : Cx}
theorem raw_pt {pins : List (Addr × Obj)} {σ : L2.St} {H : Hp} {s : Shared} (I : Inv X pins σ H s) {t : Addr} {x y : Int} (h : H t = some (.tup [.int x, .int y])) : ∃ tx ty, IsTup s.heap t #[.int x tx, .int y ty] := by
  obtain ⟨its, r, tup, _⟩ := I.tuple (SqT.of h)
  cases r with
  | cons r1 rr =>
    cases rr with
    | cons r2 rn =>
      cases rn
      obtain ⟨tx, rfl⟩ := r1
      obtain ⟨ty, rfl⟩ := r2
      exact ⟨tx, ty, tup⟩
theorem raw_seq {pins : List (Addr × Obj)} {σ : L2.St} {H : Hp} {s : Shared} (I : Inv X pins σ H s) {a : Addr} {xs : List V} (h : SqL X.K H a xs ∨ SqT X.K H a xs) : ∃ its : List Value, Vals xs its ∧ (s.heap.IsList a its.toArray ∨ IsTup s.heap a its.toArray) ∧ xs.length ≤ sizeLine := by
  rcases h with h | h
  · obtain ⟨its, r, p, z⟩ := I.list h
    exact ⟨its, r, .inl p.isList, z⟩
  · obtain ⟨its, r, p, z⟩ := I.tuple h
    exact ⟨its, r, .inr p, z⟩
/-- sorted(points) -/
def rSortP (K : PySem.W.Frag) : List V → Hp → VK → Prop := fun vs H Q => ∃ (a : Addr) (qs : Pts), vs = [V.ref a] ∧ (SqL K H a (refsOf qs) ∨ SqT K H a (refsOf qs)) ∧ Tups H qs ∧ ∀ p, H p = none → Q (.ref p) (upd H p (.lst (refsOf (sortX qs))))
theorem cr_sortP (un : X.A.units + 64 < cLine) : CallR X (.builtin "sorted") (rSortP X.K) := by
  intro pins s σ H vs us Q I r h
  obtain ⟨a, qs, rfl, hs, ht, q⟩ := h
  obtain rfl := Vals.ref1 r
  obtain ⟨its, rv, seq, hz⟩ := raw_seq I hs
  rw [List.length_map] at hz
  refine sorted_plain (bs := qs) (enc := keyX) seq (each_refs rv) (each_of (each_refs rv) fun p hp => ?_) (alike_pts _ _ qs) (sortable_pts _ _ qs) hz (fun p hp => ?_) fun out hl e => ?_
  · obtain ⟨tx, ty, o, ho, hc, n, hd⟩ := raw_pt I (ht p hp)
    exact ⟨[], .tuple ho hc hd (.cons (as := []) (.int _ tx) (.cons (as := []) (.int _ ty) .nil))⟩
  · have := depth_pt p.2.1 p.2.2
    show X.A.units + 2 + (PyData.tuple [.int p.2.1, .int p.2.2]).depth < cLine
    omega
  · obtain ⟨ep, he⟩ := PyProof.Rows.sortedAll_at s.heap its (List.toArray out)
    refine ⟨.ref _, upd H (s.heap.objs.size + 1) (.lst (refsOf (sortX qs))), I.laid (t' := s.toks) (fun _ _ => PyProof.Rows.sortedAll_old) (Nat.le_succ _) ⟨?_, out, ep, vals_refs e, he⟩, rfl, q _ (I.hok.fresh (Nat.le_succ _))⟩
    rw [List.length_map, List.length_mergeSort]
    exact hz
/-- sorted(points, key=f), f swaps the two places -/
def rSortK (K : PySem.W.Frag) (f : Addr) : List V → List V → Hp → VK → Prop := fun vs zs H Q => ∃ (a : Addr) (qs : Pts), vs = [V.ref a] ∧ zs = [.ref f] ∧ (SqL K H a (refsOf qs) ∨ SqT K H a (refsOf qs)) ∧ Tups H qs ∧ ∀ p, H p = none → Q (.ref p) (upd H p (.lst (refsOf (sortY qs))))
theorem cr_sortK {nm : Str} {st : Stmt} {f : Addr} {fd : FuncData} (F : Fun X.K nm nm st f fd) (S : Swaps st) (un : X.A.units + 64 < cLine) (room : X.A.depth < recursionLimit) : CallRK X (.builtin "sorted") [Str.ofString "key"] (rSortK X.K f) := by
  intro pins s σ H vs zs us ws Q I r rz h
  obtain ⟨a, qs, rfl, rfl, hs, ht, q⟩ := h
  obtain rfl := Vals.ref1 r
  obtain rfl := Vals.ref1 rz
  obtain ⟨its, rv, seq, hz⟩ := raw_seq I hs
  rw [List.length_map] at hz
  refine sorted_keyed (bs := qs) (f := .ref f) (kw := [(Str.ofString "key", .ref f)]) keyY seq (each_refs rv) (alike_pts _ _ qs) (sortable_pts _ _ qs) hz (fun p hp => ?_) (PyProof.Rows.ksk_s1 _ _) (fun _ => PyProof.Rows.ksk_l1 _ _) (fun x => PyProof.Rows.ksk_t1 f x) (fun v p hv hp h tk keep => ?_) fun out c h' tk keep fresh hD hl e => ?_
  · have := depth_pt p.2.2 p.2.1
    show X.A.units + 2 + (PyData.tuple [.int p.2.2, .int p.2.1]).depth < cLine
    omega
  · rw [hv]
    obtain ⟨tx, ty, o, ho, hr⟩ := raw_pt I (ht p hp)
    have I2 : Inv X pins σ H { s with heap := h, toks := tk } := I.kept keep
    exact swap_call F S I2.env0.in1.in1 room ⟨o, keep _ _ ho, hr⟩
  · refine ⟨.ref _, upd H (s.heap.objs.size + 1) (.lst (refsOf (sortY qs))), I.laid (t' := tk) keep (Nat.le_succ _) ⟨?_, out, c, vals_refs e, hD⟩, rfl, q _ (I.hok.fresh (Nat.le_succ _))⟩
    rw [List.length_map, List.length_mergeSort]
    exact hz
end
/-! ### the order -/
theorem dataLe_two (f g : (Addr × Int × Int) → Int) (q r : Addr × Int × Int) : PySem.W.dataLe false (fun q => .tuple [.int (f q), .int (g q)]) q r = !decide (f r < f q ∨ (f r = f q ∧ g r < g q)) := by
  show (!PyProof.Rows.lexLt PyProof.Rows.itemOrd (PySem.W.keyToks (.tuple [.int (f r), .int (g r)])) (PySem.W.keyToks (.tuple [.int (f q), .int (g q)]))) = _
  congr 1
  simp only [PySem.W.keyToks, PySem.W.keyToksAll, List.cons_append, List.nil_append, PyProof.Rows.lexLt, PyProof.Rows.itemLt]
  by_cases h1 : f r < f q
  · simp [h1]
  · by_cases h2 : f r = f q
    · simp [h2]
    · have h3 : f q < f r := by omega
      simp [h1, h2, h3]
end Q2

namespace Q2
open PySem PySem.W PySem.Spec PySem.Calls PyProof.Rows
/-! ### enumerate(t) of a tuple, one argument -/
theorem meets_enum1 {v : Value} {o : Obj} {B0 : Heap → Prop} (B : Begins v o B0) :
    Meets (Builtin.«enumerate.__new__» ⟨[.type "enumerate", v], []⟩) (fun _ R s => B0 s.heap ∧ R (.ok (.ret (.ref (s.heap.push o).objs.size))) { s with heap := (s.heap.push o).push { cls := .type "enumerate", data := .fields #[.none, .bool false, .ref s.heap.objs.size, rawInt 0, .none, .none] } }) :=
  .of_wp fun prog w A R s both => by
    obtain ⟨hp, g, d, tk, os⟩ := s
    obtain ⟨b0, fin⟩ := both
    have sub1 := sub_enumerate
    have begin1 : ∀ {A' : Around} {E : Value → Shared → Prop} {Q : Value → Shared → Prop}, Q (.ref hp.objs.size) ⟨hp.push o, g, d, tk, os⟩ → wpAny (model prog w) A' (pyIter v) Q E ⟨hp, g, d, tk, os⟩ := fun q => B.iter prog w _ _ ⟨hp, g, d, tk, os⟩ _ b0 q
    wp_walk using begin1
    refine wpAny_stack_any fun st => (wpAny_pure ?_)
    split
    · rename_i c _ _ _ _ _
      cases (c == Value.type "enumerate") <;> (wp_walk using begin1; exact ⟨_, rfl, fin⟩)
    · wp_walk using begin1
      exact ⟨_, rfl, fin⟩
section
variable {prog : Program} {w : World} {A : Around} {E : Value → Shared → Prop} {s : Shared}
theorem enum_tup {t : Addr} {items : Array Value} {Q : Value → Shared → Prop} (ht : s.heap.IsTuple t items)
    (win : ∀ h', IsEnum h' (s.heap.objs.size + 1) s.heap.objs.size 0 .none → h'.IsTupleIter s.heap.objs.size t 0 → (∀ b o, s.heap.get? b = some o → h'.get? b = some o) → Q (.ref (s.heap.objs.size + 1)) { s with heap := h' }) :
    wpAny (model prog w) A (call (.type "enumerate") [.ref t]) Q E s := by
  refine callType_new F.called_enumerate (by decide) (F.typeCall_enumerate_1 _) (F.newCall_enumerate_1 _) (fun obj => F.args_object_init_2 obj _) F.entry_enumerate_new (meets_enum1 (begins_tuple t items)) ⟨ht, ?_⟩
  have z1 : (s.heap.push { cls := .type "tuple_iterator", data := .fields #[.ref t, .int 0 0] }).objs.size = s.heap.objs.size + 1 := Heap.size_push ..
  show _ ∧ _
  rw [z1]
  have en : IsEnum ((s.heap.push { cls := .type "tuple_iterator", data := .fields #[.ref t, .int 0 0] }).push { cls := .type "enumerate", data := .fields #[.none, .bool false, .ref s.heap.objs.size, rawInt 0, .none, .none] }) (s.heap.objs.size + 1) s.heap.objs.size 0 .none := by
    have z2 := Heap.get?_push_size (s.heap.push { cls := .type "tuple_iterator", data := .fields #[.ref t, .int 0 0] }) (o := { cls := .type "enumerate", data := .fields #[.none, .bool false, .ref s.heap.objs.size, rawInt 0, .none, .none] }) rfl
    rw [z1] at z2
    exact z2
  exact ⟨⟨_, en, rfl⟩, win _ en ⟨_, Heap.get?_push_of_some _ (Heap.get?_push_size _ rfl), rfl, rfl⟩ fun b o x => Heap.get?_push_of_some _ (Heap.get?_push_of_some _ x)⟩
end
end Q2
namespace Q2
open PySem PySem.Spec PyProof.Rows L2
/-- the tuple at a, each item in a new pair -/
def ItET (K : PySem.W.Frag) (a : Addr) : It :=
  ⟨fun i H => ∃ (xs : List V) (x : V), SqT K H a xs ∧ xs[i]? = some x, fun i H v H' => ∃ T x, v = .ref T ∧ H T = none ∧ H' = upd H T (.tup [.int (i : Nat), x]) ∧ ∀ xs, SqT K H a xs → xs[i]? = some x, fun i H => ∃ xs : List V, SqT K H a xs ∧ xs.length ≤ i⟩
theorem draws_end {prog : Program} {w : World} {A : Around} (calm : A.handled = none) (it t : Addr) (items : Array Value) (i : Nat) (over : items[i]? = none) :
    PySem.Draws prog w A it [it, t] 0 (fun _ _ => False) (fun _ h => h.IsTupleIter it t i ∧ h.IsTuple t items) where
  live := fun _ _ st => let ⟨o, ho, _⟩ := st.1; ⟨o, ho⟩
  frame := fun _ _ _ st hk => ⟨st.1.at fun o e => hk it (by simp) o e, st.2.at fun o e => hk t (by simp) o e⟩
  item := fun j s Q E hj => absurd hj (Nat.not_lt_zero j)
  done := fun s Q E st hE => wpAny_nextOf_tuple_end calm st.1 st.2 over hE
theorem turn_enumT {P : Program} {w : World} {K : PySem.W.Frag} {elts : List Expr} {kk : Nat} {tpos : Pos} (a e it : Addr) :
    Turn P w K (.Tuple elts kk tpos) (ItET K a) [e, it] e (fun i h => (∃ old, IsEnum h e it ((i : Nat) : Int) old) ∧ h.IsTupleIter it a i ∧ e ≠ it) where
  mem := by simp
  obj := fun i h st b hb => by
    obtain ⟨⟨old, en⟩, ⟨o, ho, hc, hd⟩, _⟩ := st
    rcases (show b = e ∨ b = it by simpa using hb) with z | z
    · rw [z]
      exact ⟨_, en, fun v q => nomatch q⟩
    · rw [z]
      exact ⟨o, ho, fun v q => by rw [hd] at q; cases q⟩
  keep := fun i h h' st k => let ⟨⟨old, en⟩, hi, hne⟩ := st; ⟨⟨old, k e (by simp) _ en⟩, hi.at fun o q => k it (by simp) o q, hne⟩
  item := by
    intro X hP hw hK hc i pins s σ H E I hf st hg
    subst hP hw hK
    obtain ⟨⟨old, en⟩, hit, hne⟩ := st
    obtain ⟨xs, x, hq, hx⟩ := hg
    obtain ⟨its, rv, tup, _⟩ := I.tuple hq
    obtain ⟨u, hu, ru⟩ := rv.get hx
    have lts : i < its.toArray.size := by
      have := (List.getElem?_eq_some_iff.mp hu).1
      simpa using this
    have le : e < s.heap.objs.size := Heap.lt_size en
    have li : it < s.heap.objs.size := by obtain ⟨_, q, _⟩ := hit; exact Heap.lt_size q
    have ati : a ≠ it := fun z => by
      obtain ⟨o1, h1, c1, _⟩ := hit
      obtain ⟨o2, h2, c2, _⟩ := tup
      rw [z, h1] at h2
      cases h2
      rw [c1] at c2
      exact absurd c2 (by decide)
    have ate : a ≠ e := fun z => by
      obtain ⟨o2, h2, c2, _⟩ := tup
      rw [z, show s.heap.get? e = _ from en] at h2
      cases h2
      injection c2 with c3
      exact absurd c3 (by decide)
    refine PySem.wpAny_pyNext_enum_itemD (PySem.Draws.tuple (A := X.A.in1) (show X.A.in1.handled = none from I.ok.hd hc) it a ati its.toArray) en ⟨hit, tup⟩ lts hne (by simp; exact ⟨hne, fun z => ate z.symm⟩) fun y h' tk hy ho st' hT hsz hk => ?_
    have ey : y = u := by
      have h0 : its.toArray[i]? = some y := hy
      have h1 : its.toArray[i]? = some u := by simpa using hu
      rw [h0] at h1
      exact Option.some.inj h1
    subst ey
    refine ⟨_, rfl, wpAny_letOwnedTupleGo_enum (s := { s with heap := h', toks := tk + 1 }) ho fun h'' he' sb => ?_⟩
    have hT2 : h''.get? s.heap.objs.size = some { cls := .type "tuple", data := .seq #[.int i tk, y] } := (sb.2 _ (Nat.ne_of_gt le)).trans hT
    have new : ObjOk X.prog X.w (upd H s.heap.objs.size (.tup [.int (i : Nat), x])) h'' s.heap.objs.size (.tup [.int (i : Nat), x]) := ⟨by show 2 ≤ sizeLine; decide, [.int i tk, y], .cons ⟨_, rfl⟩ (.cons ru .nil), ⟨_, hT2, rfl, _, rfl⟩⟩
    have I1 : Inv X pins σ (upd H s.heap.objs.size (.tup [.int (i : Nat), x])) { s with heap := h'', toks := tk + 1 } :=
      I.turnedNew (ch := [e, it]) (fun b ob hb q => (sb.2 b (fun z => hb (by simp [z]))).trans (hk b ob (fun z => hb (by simp [z])) (fun z => hb (by simp [z])) q)) hf (Nat.le_refl _) new
    refine ⟨.ref s.heap.objs.size, _, I1, rfl, ⟨_, x, rfl, I.hok.fresh (Nat.le_refl _), rfl, fun ys hy2 => by rw [I.tuple_inj hy2 hq]; exact hx⟩, ⟨⟨y, ?_⟩, st'.1.at fun o q => (sb.2 it (Ne.symm hne)).trans q, hne⟩, fun b hb => ?_⟩
    · rw [show ((i + 1 : Nat) : Int) = (i : Int) + 1 by omega]
      exact he'
    · have hb' : b < s.heap.objs.size := by
        rcases (show b = e ∨ b = it by simpa using hb) with z | z
        · rw [z]; exact le
        · rw [z]; exact li
      rw [upd_ne (Nat.ne_of_lt hb')]
      exact (hf b hb).1
  done := by
    intro X hP hw hK hc i pins s σ H E I hf st hg
    subst hP hw hK
    obtain ⟨⟨old, en⟩, hit, hne⟩ := st
    obtain ⟨xs, hq, hx⟩ := hg
    obtain ⟨its, rv, tup, _⟩ := I.tuple hq
    obtain ⟨f0, f1, f2, f3, f4, f5⟩ := hf it (by simp)
    have hl := rv.length
    exact PySem.wpAny_pyNext_enum_endD (n := 0) (draws_end (A := X.A.in1) (show X.A.in1.handled = none from I.ok.hd hc) it a its.toArray i (by simp; omega)) en ⟨hit, tup⟩ fun h' eb => ⟨rfl, I.turned (t' := s.toks) (fun b o hb q => eb b o hb q) f0 f1 f3 f4 f5⟩
  self := fun A i s Q E st h => let ⟨⟨_, en⟩, _⟩ := st; wpAny_pyIter_enum en h
/-- enumerate of a list or a tuple -/
def EnumOf (K : PySem.W.Frag) (H : Hp) (a : Addr) (xs : List V) (J : It) : Prop := (SqL K H a xs ∧ J = Ite K a) ∨ (SqT K H a xs ∧ J = ItET K a)
def iEnumA (K : PySem.W.Frag) (ta : TA) : TI := fun σ H R => ta σ H fun vs H1 => ∃ a xs J, vs = [.ref a] ∧ EnumOf K H1 a xs J ∧ R J H1
theorem pi_enumA {X : Cx} {e : Expr} {ta : TA} {p pos tpos : Pos} {elts : List Expr} {kk : Nat} (hg : Gl X "enumerate") (hm : X.mg "enumerate" = none) (ha : PA X [e] ta) (hs : starEach [e] X.env = [(false, eval e X.env)] := by rfl) :
    PI X (.Tuple elts kk tpos) (.Call (.Name "enumerate" p) [e] [] pos) (iEnumA X.K ta) := by
  refine ⟨fun pins s σ H R I h => ?_⟩
  refine Call_ (ld_blt I hg hm boot_enumerate (PyProof.Rows.callWith_type1 (thn (ha.run pos pins s σ H _ I h) fun us s1 ⟨vs, H1, I1, r1, q1⟩ => ?_) hs rfl))
  obtain ⟨a, xs, J, rfl, hq, q⟩ := q1
  obtain rfl := Vals.ref1 r1
  have fp : ∀ b ∈ [s1.heap.objs.size + 1, s1.heap.objs.size], FpOk X pins H1 b := fun b hb => by
    have hle : s1.heap.objs.size ≤ b := by
      rcases (show b = s1.heap.objs.size + 1 ∨ b = s1.heap.objs.size by simpa using hb) with z | z
      · rw [z]; exact Nat.le_add_right _ _
      · rw [z]; exact Nat.le_refl _
    exact I1.fpOk hle (I1.hok.fresh hle)
  rcases hq with ⟨hq, rfl⟩ | ⟨hq, rfl⟩
  · obtain ⟨its, rv, p', hz⟩ := I1.list hq
    refine call_enumerate_list p'.isList fun h' he hit hsz hk => wpAny_pyIter_enum he ?_
    have I2 : Inv X pins σ H1 { s1 with heap := h' } := I1.kept (t' := s1.toks) hk
    exact ⟨s1.heap.objs.size + 1, [s1.heap.objs.size + 1, s1.heap.objs.size], _, _, H1, rfl, I2, turn_enum a (s1.heap.objs.size + 1) s1.heap.objs.size, ⟨⟨.none, he⟩, hit, Nat.succ_ne_self _⟩, fp, q⟩
  · obtain ⟨its, rv, p', hz⟩ := I1.tuple hq
    refine enum_tup p' fun h' he hit hk => wpAny_pyIter_enum he ?_
    have I2 : Inv X pins σ H1 { s1 with heap := h' } := I1.kept (t' := s1.toks) hk
    exact ⟨s1.heap.objs.size + 1, [s1.heap.objs.size + 1, s1.heap.objs.size], _, _, H1, rfl, I2, turn_enumT a (s1.heap.objs.size + 1) s1.heap.objs.size, ⟨⟨.none, he⟩, hit, Nat.succ_ne_self _⟩, fp, q⟩
theorem walk_enumT {K : PySem.W.Frag} {a : Addr} {xs : List V} : Walk (ItET K a) xs.length (fun H => SqT K H a xs) (YPair (fun i => some (.int (i : Nat))) (fun i => xs[i]?)) where
  goes := fun i H hi hq => ⟨xs, xs[i], hq, List.getElem?_eq_getElem hi⟩
  stops := fun H hq => ⟨xs, hq, Nat.le_refl _⟩
  yields := fun i H v H' hi hq y => by
    obtain ⟨T, x, h1, h2, h3, h4⟩ := y
    exact ⟨T, _, x, h1, h2, h3, rfl, h4 xs hq⟩
end Q2

namespace Q2
open PySem PySem.Spec PyProof.Rows L2
/-! ### reversed(range(n)) -/
theorem smallRev_up {n : Int} (h0 : 0 ≤ n) (h1 : n < 1000000) : Builtin.Range.smallRev 0 n 1 = true := by
  unfold Builtin.Range.smallRev
  have e : Builtin.Range.rangeSize 0 n 1 = ((n - 0).toNat : Nat) := rangeSize_nat 0 n
  rw [e]
  simp only [Builtin.Range.rangeFitsLong, Bool.and_eq_true, decide_eq_true_eq]
  omega
def iRevRg (te : L2.St → Hp → (Int → Int → Hp → Prop) → Prop) : TI := fun σ H R => te σ H fun a b H1 => a = 0 ∧ 0 ≤ b ∧ b < 1000000 ∧ R (Itc (b - 1) (-1) b.toNat) H1
section
variable {X : Cx} {tg : Expr}
theorem pi_revRg {e : Expr} {te : L2.St → Hp → (Int → Int → Hp → Prop) → Prop} {p pos : Pos} (hg : Gl X "reversed") (hm : X.mg "reversed" = none) (he : PRg X e te) (na : starEach [e] X.env = (false, eval e X.env) :: starEach [] X.env := by rfl) : PI X tg (.Call (.Name "reversed" p) [e] [] pos) (iRevRg te) := by
  refine ⟨fun pins s σ H R I h => ?_⟩
  refine Call_ (ld_blt I hg hm PyProof.Rows.boot_reversed (PyProof.Rows.callWith_type1 (args_cons (thn (he pins s σ H _ I h) fun x s1 ⟨r, a, b, t, u, v, H1, ex, hr, I1, z, b0, b1, q⟩ => args_nil ?_) na) na))
  subst ex
  subst z
  refine PySem.reversed_range (n := (b - 0).toNat) hr (smallRev_up b0 b1) (rangeSize_nat 0 b) fun h' hi hs hk => ?_
  refine wpAny_pyIter_rangeiter hi ?_
  have I2 : Inv X pins σ H1 { s1 with heap := h' } := I1.kept (t' := s1.toks) hk
  refine ⟨s1.heap.objs.size, [s1.heap.objs.size], _, _, H1, rfl, I2, turn_rangeC _ (b - 1) (-1) b.toNat, ?_, fun c hc => ?_, q⟩
  · have e1 : 0 + (((b - 0).toNat : Nat) - 1 : Int) * 1 = b - 1 + ((0 : Nat) : Int) * (-1) := by omega
    have e2 : (((b - 0).toNat : Nat) : Int) = (b.toNat : Int) - ((0 : Nat) : Int) := by omega
    rw [e1] at hi
    show IsRangeIter _ _ (b - 1 + ((0 : Nat) : Int) * (-1)) ((b.toNat : Int) - ((0 : Nat) : Int)) (-1)
    rw [← e2]
    exact hi
  · have e : c = s1.heap.objs.size := by simpa using hc
    subst e
    exact I1.fpOk (Nat.le_refl _) (I1.hok.fresh (Nat.le_refl _))
end
theorem same_app {H H' : Hp} {D : Addr} {o : HO} (e : Same H H') (hD : H D = none) : Same H (upd H' D o) := fun b o' hb => by
  rw [upd_ne (ne_of_none hb hD)]
  exact e b o' hb
/-! ### what a def is, at one place -/
end Q2

namespace PM
open PySem PySem.Spec PyProof.Rows L2 Q2
abbrev FnP (K : PySem.W.Frag) (x : Str) (st : Stmt) (f : Addr) (fd : FuncData) : Prop := Fun K x x st f fd
/-! ### exceptions: a class by its name -/
def wx (mg : Str → Option Value) (W : XW) : WX := fun cls d σ H => ∃ c dd, mg c = some cls ∧ d = some dd ∧ W c dd σ H
theorem takesF {X : Cx} {mg : Str → Option Value} : Takes X (wx mg WF) := L2.takes0.imp fun _ _ _ _ h => by
  obtain ⟨_, _, _, _, z⟩ := h
  exact z
/-! ### calls -/
abbrev MF := List Va → Sto → Res Va
def xwE (mg : Str → Option Value) (E : XK) : XW := fun c dd _ H => ∀ cls, mg c = some cls → E cls (some dd) H
/-- the promise: the arguments' values and the store lead to the result that g tells -/
def spM (K : KX) (mg : Str → Option Value) (n : Nat) (g : MF) : Sp := fun vs H Q E => vs.length = n ∧ ∃ ρ S as, RS K ρ S H ∧ Rvs K ρ H as vs ∧ Aft K (xwE mg E) [] (Rv K) Q ρ H (g as S)
def fnM (n : Nat) (b : MS) : MF := fun as S => match b (as.map some ++ List.replicate (n - as.length) none) S with
  | .nx _ S' => .ok .non S'
  | .rt v S' => .ok v S'
  | .ex c f v _ S' => .ex c f v S'
  | _ => .bad
theorem RE.start {K : KX} {ρ : List Addr} {H : Hp} {as : List Va} {vs : List V} (h : Rvs K ρ H as vs) (N : List Str) : RE K ρ H (as.map some ++ List.replicate (N.length - as.length) none) (L2.start N vs) := by
  have hl := h.len
  unfold L2.start
  rw [← hl]
  refine ⟨by simp [hl], fun i v e => ?_⟩
  by_cases hi : i < as.length
  · rw [List.getElem?_append_left (by simpa using hi), List.getElem?_map] at e
    cases ea : as[i]? with
    | none => rw [ea] at e; cases e
    | some a =>
      rw [ea] at e
      cases e
      obtain ⟨w, h1, h2⟩ := h.get ea
      exact ⟨w, by rw [List.getElem?_append_left (by rw [List.length_map, ← hl]; exact hi), List.getElem?_map, h1]; rfl, h2⟩
  · rw [List.getElem?_append_right (by simpa using hi), List.getElem?_replicate] at e
    split at e <;> cases e
section
variable {P : Program} {w : World} {K : PySem.W.Frag} {mg : Str → Option Value} {base : Heap}
/-- a def by its body -/
theorem fn_ok {k : Nat} {x : Str} {st : Stmt} {f : Addr} {fd : FuncData} {N ps : List Str} {m : MS} (F : FnP K x st f fd) (S : FnScope N ps (defScope st))
    (hb : ∀ (cdv : Value) (A : Around) (outer : List Env) (s : Shared) (H : Hp) (E : XK) (W : XW), Room k (A.deeper (envOfC x (defScope st) s.heap.objs.size f cdv)) →
      Takes (cxOf (L2.CX P w) P w K mg base N x (defScope st) f cdv A outer s H E) (wx mg W) → PMSs (cxOf (L2.CX P w) P w K mg base N x (defScope st) f cdv A outer s H E) W (defBody st) m) :
    FnOk P w K mg base (L2.CX P w) (k + 1) f fd ps (spM ⟨K, P, w⟩ mg ps.length (fnM N.length m)) := by
  refine F.okX S (fun vs H Q E h => h.1) fun cdv A outer s H vs Q E hr h => ?_
  obtain ⟨hl, ρ, S0, as, R, r, q⟩ := h
  have tk : Takes (cxOf (L2.CX P w) P w K mg base N x (defScope st) f cdv A outer s H E) (wx mg (xwE mg E)) :=
    (takes_of (X := cxOf (L2.CX P w) P w K mg base N x (defScope st) f cdv A outer s H E) (E := E) rfl rfl rfl rfl).imp fun cls d σ H h => by
      obtain ⟨c, dd, h1, rfl, h2⟩ := h
      exact h2 cls h1
  refine ⟨_, hb cdv A outer s H E (xwE mg E) hr tk, ρ, _, S0, R, RE.start r N, ?_⟩
  unfold fnM at q
  cases e : m (as.map some ++ List.replicate (N.length - as.length) none) S0 with
  | bad => rw [e] at q; exact q
  | nx Γ' S' => rw [e] at q; exact fun ρ' H' σ' E' R' G' => q ρ' H' .non E' R' rfl
  | rt v S' => rw [e] at q; exact q
  | bk Γ' S' => rw [e] at q; exact q.elim
  | ct Γ' S' => rw [e] at q; exact q.elim
  | ex c f v Γ' S' => rw [e] at q; exact fun ρ' H' σ' w d E' R' G' rv hd => q ρ' H' w d E' R' rv hd
end
/-- a def of the program, with what it promises -/
structure Dx (P : Program) (w : World) (K : PySem.W.Frag) (mg : Str → Option Value) (base : Heap) (k : Nat) (x : Str) (ps : List Str) (g : MF) (f : Addr) (fd : FuncData) : Prop where
  ok : FnOk P w K mg base (L2.CX P w) k f fd ps (spM ⟨K, P, w⟩ mg ps.length g)
  kp : PySem.W.keepIn K (.ref f) = true
  bd : Binds K fd ps []
  gl : mg x = some (.ref f)
def mCall (g : MF) (t : MA) : ME := fun Γ S => (t Γ S).bind fun vs S1 => g vs S1
theorem Aft.call {K : KX} {mg : Str → Option Value} {W : XW} {σ : L2.St} {Q : VK} {ρ : List Addr} {H : Hp} {r : Res Va} (h : Aft K W σ (Rv K) Q ρ H r) : Aft K (xwE mg (WE (wx mg W) σ)) [] (Rv K) Q ρ H r := by
  cases r with
  | bad => exact h
  | ok v S => exact h
  | ex c f v S => exact fun ρ' H' w d E R rv hd cls hc => ⟨c, d, hc, rfl, h ρ' H' w d E R rv hd⟩
section
variable {X : Cx} {W : XW} {k : Nat} {x : Str} {ps : List Str} {g : MF} {f : Addr} {fd : FuncData} {e : Expr} {es : List Expr} {t : MA} {p pos : Pos}
theorem pm_call (D : Dx X.prog X.w X.K X.mg X.base k x ps g f fd) (tk : Takes X (wx X.mg W)) (hr : Room k X.A) (hg : Gl X x) (ha : PMA X W (e :: es) t) (hlen : (e :: es).length = ps.length)
    (hdb : (x == ("__debug__" : Str)) = false := by decide) (he : starEach (e :: es) X.env = (false, eval e X.env) :: starEach es X.env := by rfl) (hpl : (backTo pos (starEach es X.env)).any (·.1) = false := by rfl)
    (hn : ∀ Γ S vs S', t Γ S = .ok vs S' → vs.length = ps.length) :
    PM X W (.Call (.Name x p) (e :: es) [] pos) (mCall g t) := by
  refine pe_imp (pe_callS D.ok hr hg D.gl D.kp D.bd (E := WE (wx X.mg W)) (fun σ => passAt tk σ) ha hdb he hpl) fun σ H Q ⟨ρ, Γ, S, R, G, q⟩ => ?_
  refine ⟨ρ, Γ, S, R, G, ?_⟩
  unfold mCall at q
  cases ht : t Γ S with
  | bad => rw [ht] at q; exact q
  | ex a b c d => rw [ht] at q; exact q
  | ok vs S1 =>
    rw [ht, bind_ok] at q
    intro ρ1 H1 ws E1 R1 r1
    exact ⟨by rw [← r1.len]; exact hn Γ S vs S1 ht, ρ1, S1, vs, R1, r1, (q.shift E1).call⟩
end
/-- how many arguments there are -/
inductive ArgN : MA → Nat → Prop
  | nil : ArgN maN 0
  | cons {a : ME} {t : MA} {n : Nat} : ArgN t n → ArgN (maC a t) (n + 1)
theorem ArgN.len {t : MA} {n : Nat} (h : ArgN t n) : ∀ Γ S vs S', t Γ S = .ok vs S' → vs.length = n := by
  induction h with
  | nil =>
    intro Γ S vs S' e
    cases e
    rfl
  | @cons a t n h ih =>
    intro Γ S vs S' e
    unfold maC at e
    cases ea : a Γ S with
    | bad => rw [ea] at e; cases e
    | ex a b c d => rw [ea] at e; cases e
    | ok v S1 =>
      rw [ea, bind_ok] at e
      cases et : t Γ S1 with
      | bad => rw [et] at e; cases e
      | ex a b c d => rw [et] at e; cases e
      | ok us S2 =>
        rw [et, bind_ok] at e
        cases e
        rw [List.length_cons, ih _ _ _ _ et]
/-! ### keywords: nothing is raised -/
def PMK (X : Cx) (W : XW) (ks : List Keyword) (m : MA) : Prop := PK X ks (tMA (kxOf X) W m)
section
variable {X : Cx} {W : XW} {k : Nat} {x : Str} {ps ks : List Str} {g : MF} {f : Addr} {fd : FuncData} {e : Expr} {es : List Expr} {t u : MA} {ma : ME} {kws : List Keyword} {nm : Option Str} {p pos kpos : Pos}
theorem pmk_nil : PMK X W [] maN := ⟨fun pos pins s σ H Q I ⟨ρ, Γ, S, R, G, q⟩ => pk_nil.run pos pins s σ H Q I (q ρ H [] R.refl R rfl)⟩
theorem pmk_cons (ha : PM X W e ma) (ht : PMK X W kws t) : PMK X W (⟨nm, e, kpos⟩ :: kws) (maC ma t) := by
  refine ⟨fun pos pins s σ H Q I ⟨ρ, Γ, S, R, G, q⟩ => (pk_cons ha ht).run pos pins s σ H Q I ?_⟩
  refine ⟨ρ, Γ, S, R, G, q.bind fun v S1 ρ1 H1 x E1 R1 rx q1 => ?_⟩
  refine ⟨ρ1, Γ, S1, R1, G.ext E1, q1.bind fun w S2 ρ2 H2 y E2 R2 ry q2 => ?_⟩
  exact q2 ρ2 H2 _ R2.refl R2 (Rvs.cons (rx.ext E2) ry)
/-- the values of the keywords put in the parameters' order -/
def permV (o : List Nat) (us : List Va) : List Va := o.filterMap fun i => us[i]?
def mCallK (g : MF) (o : List Nat) (t : MA) : ME := fun Γ S => (t Γ S).bindN fun vs S1 => noX (g (permV o vs) S1)
end
end PM

namespace PM
open PySem PySem.Spec PyProof.Rows L2 Q2
/-! ### what a value reads as -/
def seqOf (S : Sto) : Va → Option (List Va)
  | .tup xs => some xs
  | v => lstOf S v
section
variable {K : KX} {ρ : List Addr} {S : Sto} {H : Hp} {v : Va} {w : V} {xs : List Va}
theorem lst_of (R : RS K ρ S H) (r : Rv K ρ H v w) (h : lstOf S v = some xs) : ∃ a ws, w = .ref a ∧ SqL K.K H a ws ∧ Rvs K ρ H xs ws := by
  cases v with
  | ref n =>
    obtain ⟨a, h1, rfl⟩ := r
    unfold lstOf at h
    simp only at h
    cases e : S[n]? with
    | none => rw [e] at h; cases h
    | some o =>
      rw [e] at h
      cases o with
      | lst ys =>
        cases h
        obtain ⟨_, ws, h2, h3⟩ := R.at_ n a _ h1 e
        exact ⟨a, ws, rfl, SqL.of h2, h3⟩
      | setT ks => cases h
      | raw o => cases h
      | tbl _ => cases h
      | dct _ => cases h
  | rol ys =>
    cases h
    obtain ⟨a, ws, rfl, h1, h2⟩ := r
    exact ⟨a, ws, rfl, h1.sq, h2⟩
  | _ => cases h
theorem seq_of (R : RS K ρ S H) (r : Rv K ρ H v w) (h : seqOf S v = some xs) : ∃ a ws, w = .ref a ∧ (SqL K.K H a ws ∨ SqT K.K H a ws) ∧ Rvs K ρ H xs ws := by
  cases v with
  | tup ys =>
    cases h
    obtain ⟨a, ws, rfl, h1, h2⟩ := r
    exact ⟨a, ws, rfl, .inr h1, h2⟩
  | ref n =>
    obtain ⟨a, ws, h1, h2, h3⟩ := lst_of (v := .ref n) R r h
    exact ⟨a, ws, h1, .inl h2, h3⟩
  | rol ys =>
    obtain ⟨a, ws, h1, h2, h3⟩ := lst_of (v := .rol ys) R r h
    exact ⟨a, ws, h1, .inl h2, h3⟩
  | _ => cases h
/-- a new list is handed back -/
def mkL (S : Sto) (xs : List Va) : Option (Va × Sto) := if xs.length ≤ sizeLine then some (.ref S.length, S ++ [.lst xs]) else none
theorem mkL_ans {Q : VK} {ws : List V} (R : RS K ρ S H) (h : Ans K Q ρ H (mkL S xs)) (r : Rvs K ρ H xs ws) : xs.length ≤ sizeLine ∧ ∀ p, H p = none → Q (.ref p) (upd H p (.lst ws)) := by
  unfold mkL at h
  by_cases hl : xs.length ≤ sizeLine
  · rw [if_pos hl] at h
    refine ⟨hl, fun p hp => ?_⟩
    obtain ⟨E, R2⟩ := R.new hp hl r
    exact h _ _ _ E R2 (R.last p)
  · rw [if_neg hl] at h
    exact h.elim
end
/-! ### ints -/
/-- what a rule for two ints tells -/
def fI2 (C : Int → Int → Bool) (g : Int → Int → Va) : F2 := fun v w S => match v, w with
  | .int i, .int j => if C i j = true then some (g i j, S) else none
  | _, _ => none
@[simp] theorem fI2_int (C : Int → Int → Bool) (g : Int → Int → Va) (i j : Int) (S : Sto) : fI2 C g (.int i) (.int j) S = if C i j = true then some (g i j, S) else none := rfl
theorem opI2 {X : Cx} {gg : Value → Value → Sem Value} {C' : Int → Int → Prop} {C : Int → Int → Bool} {g : Int → Int → V} {gv : Int → Int → Va} (h : OpR X gg (rI C' g)) (hC : ∀ i j, C i j = true → C' i j) (hg : ∀ ρ H i j, Rv (kxOf X) ρ H (gv i j) (g i j)) : OpP X gg (fI2 C gv) := by
  refine ⟨_, h, fun ρ S H v w x y Q R rv rw a => ?_⟩
  cases v with
  | int i =>
    cases w with
    | int j =>
      cases rv
      cases rw
      unfold fI2 at a
      simp only at a
      by_cases c : C i j = true
      · rw [if_pos c] at a
        exact ⟨i, j, rfl, rfl, hC i j c, a ρ H _ R.refl R (hg ρ H i j)⟩
      · rw [if_neg c] at a
        exact a.elim
    | _ => exact a.elim
  | _ => exact a.elim
def always : Int → Int → Bool := fun _ _ => true
theorem opI2' {X : Cx} {gg : Value → Value → Sem Value} {g : Int → Int → V} {gv : Int → Int → Va} (h : OpR X gg (rI0 g)) (hg : ∀ ρ H i j, Rv (kxOf X) ρ H (gv i j) (g i j)) : OpP X gg (fI2 always gv) := by
  refine ⟨_, h, fun ρ S H v w x y Q R rv rw a => ?_⟩
  cases v with
  | int i =>
    cases w with
    | int j =>
      cases rv
      cases rw
      exact ⟨i, j, rfl, rfl, a ρ H _ R.refl R (hg ρ H i j)⟩
    | _ => exact a.elim
  | _ => exact a.elim
def addI : F2 := fI2 always fun i j => .int (i + j)
def subI : F2 := fI2 always fun i j => .int (i - j)
@[irreducible] def mulC (i j : Int) : Bool := decide ((-(2 ^ 64) < i ∧ i < 2 ^ 64) ∨ (-(2 ^ 64) < j ∧ j < 2 ^ 64)) || decide (i.natAbs.log2 + j.natAbs.log2 < 1000000)
def mulI : F2 := fI2 mulC fun i j => .int (i * j)
@[irreducible] def divC (_ j : Int) : Bool := decide (0 < j ∧ j.natAbs.log2 < 9000)
def divI : F2 := fI2 divC fun i j => .int (i / j)
@[irreducible] def modC (_ j : Int) : Bool := decide (0 < j)
def modI : F2 := fI2 modC fun i j => .int (i % j)
@[irreducible] def powC (i j : Int) : Bool := decide (0 ≤ j ∧ j ≤ 1000000 ∧ i.natAbs < 2 ^ 64) || decide (0 ≤ j ∧ (Builtin.Int.intBits i : Int) * j ≤ 2 ^ 27)
def powI : F2 := fI2 powC fun i j => .int (i ^ j.toNat)
@[irreducible] def shlC (i j : Int) : Bool := decide (0 ≤ j ∧ j ≤ 1000000 ∧ i.natAbs < 2 ^ 64)
def shlI : F2 := fI2 shlC fun i j => .int (i * 2 ^ j.toNat)
@[irreducible] def shrC (_ j : Int) : Bool := decide (0 ≤ j)
def shrI : F2 := fI2 shrC fun i j => .int (i / 2 ^ j.toNat)
def andI : F2 := fI2 always fun i j => .int (Builtin.bitAnd i j)
def orI : F2 := fI2 always fun i j => .int (Builtin.bitOr i j)
def xorI : F2 := fI2 always fun i j => .int (Builtin.bitXor i j)
def ltI : F2 := fI2 always fun i j => .bl (decide (i < j))
def leI : F2 := fI2 always fun i j => .bl (decide (i ≤ j))
def gtI : F2 := fI2 always fun i j => .bl (decide (j < i))
def geI : F2 := fI2 always fun i j => .bl (decide (j ≤ i))
section
variable {X : Cx}
theorem rI_or {gg : Value → Value → Sem Value} {C C' : Int → Int → Prop} {g : Int → Int → V} (h : OpR X gg (rI C g)) (h' : OpR X gg (rI C' g)) : OpR X gg (rI (fun i j => C i j ∨ C' i j) g) := by
  intro pins s σ H x y v u Q I rx ry ⟨i, j, e1, e2, c, q⟩
  rcases c with c | c
  · exact h pins s σ H x y v u Q I rx ry ⟨i, j, e1, e2, c, q⟩
  · exact h' pins s σ H x y v u Q I rx ry ⟨i, j, e1, e2, c, q⟩
theorem or_dec {p q : Prop} [Decidable p] [Decidable q] (h : (decide p || decide q) = true) : p ∨ q := by
  rcases Bool.or_eq_true_iff.mp h with h | h
  · exact .inl (of_decide_eq_true h)
  · exact .inr (of_decide_eq_true h)
theorem oAddI : OpP X (binaryOp .Add) addI := opI2' op_add fun _ _ _ _ => rfl
theorem oSub : OpP X (binaryOp .Sub) subI := opI2' op_sub fun _ _ _ _ => rfl
theorem oMulI : OpP X (binaryOp .Mult) mulI := opI2 (rI_or op_mul op_mulW) (fun i j h => or_dec (p := (-(2 ^ 64) < i ∧ i < 2 ^ 64) ∨ (-(2 ^ 64) < j ∧ j < 2 ^ 64)) (q := i.natAbs.log2 + j.natAbs.log2 < 1000000) (by unfold mulC at h; exact h)) fun _ _ _ _ => rfl
theorem oDiv : OpP X (binaryOp .FloorDiv) divI := opI2 op_fdivW (fun _ j h => of_decide_eq_true (p := 0 < j ∧ j.natAbs.log2 < 9000) (by unfold divC at h; exact h)) fun _ _ _ _ => rfl
theorem oMod : OpP X (binaryOp .Mod) modI := opI2 op_mod (fun _ j h => of_decide_eq_true (p := 0 < j) (by unfold modC at h; exact h)) fun _ _ _ _ => rfl
theorem oPow : OpP X (binaryOp .Pow) powI := opI2 (rI_or op_pow op_powW) (fun i j h => or_dec (p := 0 ≤ j ∧ j ≤ 1000000 ∧ i.natAbs < 2 ^ 64) (q := 0 ≤ j ∧ (Builtin.Int.intBits i : Int) * j ≤ 2 ^ 27) (by unfold powC at h; exact h)) fun _ _ _ _ => rfl
theorem oShl : OpP X (binaryOp .LShift) shlI := opI2 op_shl (fun i j h => of_decide_eq_true (p := 0 ≤ j ∧ j ≤ 1000000 ∧ i.natAbs < 2 ^ 64) (by unfold shlC at h; exact h)) fun _ _ _ _ => rfl
theorem oShr : OpP X (binaryOp .RShift) shrI := opI2 op_shr (fun _ j h => of_decide_eq_true (p := 0 ≤ j) (by unfold shrC at h; exact h)) fun _ _ _ _ => rfl
theorem oAnd : OpP X (binaryOp .BitAnd) andI := opI2' op_and fun _ _ _ _ => rfl
theorem oOr : OpP X (binaryOp .BitOr) orI := opI2' op_or fun _ _ _ _ => rfl
theorem oXor : OpP X (binaryOp .BitXor) xorI := opI2' op_xor fun _ _ _ _ => rfl
theorem oLtI : OpP X (compareOp .Lt) ltI := opI2' op_lt fun _ _ _ _ => rfl
theorem oLe : OpP X (compareOp .LtE) leI := opI2' op_le fun _ _ _ _ => rfl
theorem oGtI : OpP X (compareOp .Gt) gtI := opI2' op_gt fun _ _ _ _ => rfl
theorem oGe : OpP X (compareOp .GtE) geI := opI2' op_ge fun _ _ _ _ => rfl
/-! ### lists, tuples, texts put together -/
def catL : F2 := fun v w S => match lstOf S v, lstOf S w with
  | some xs, some ys => mkL S (xs ++ ys)
  | _, _ => none
def catT : F2 := fun v w S => match v, w with
  | .tup (x :: xs), .tup ys => if (x :: xs).length + ys.length ≤ sizeLine then some (.tup (x :: xs ++ ys), S) else none
  | _, _ => none
def catS : F2 := fun v w S => match v, w with
  | .str a, .str b => if a.length + b.length ≤ sizeLine then some (.str (a ++ b), S) else none
  | _, _ => none
theorem oCatL : OpP X (binaryOp .Add) catL := by
  refine ⟨_, op_catL, fun ρ S H v w x y Q R rv rw a => ?_⟩
  unfold catL at a
  cases e1 : lstOf S v with
  | none => rw [e1] at a; exact a.elim
  | some xs =>
    cases e2 : lstOf S w with
    | none => rw [e1, e2] at a; exact a.elim
    | some ys =>
      rw [e1, e2] at a
      obtain ⟨p, ws, rfl, h1, r1⟩ := lst_of R rv e1
      obtain ⟨p2, us, rfl, h2, r2⟩ := lst_of R rw e2
      obtain ⟨hl, q⟩ := mkL_ans R a (r1.app r2)
      refine ⟨p, p2, ws, us, rfl, rfl, h1, h2, ?_, q⟩
      rw [← r1.len, ← r2.len, ← List.length_append]
      exact hl
theorem ans_if {K : KX} {ρ : List Addr} {H : Hp} {Q : VK} {p : Prop} [Decidable p] {o : Option (Va × Sto)} (h : Ans K Q ρ H (if p then o else none)) : p ∧ Ans K Q ρ H o := by
  by_cases c : p
  · rw [if_pos c] at h
    exact ⟨c, h⟩
  · rw [if_neg c] at h
    exact h.elim
theorem catT_in {K : KX} {ρ : List Addr} {H : Hp} {Q : VK} {S : Sto} {v w : Va} (a : Ans K Q ρ H (catT v w S)) : ∃ z zs ys, v = .tup (z :: zs) ∧ w = .tup ys ∧ Ans K Q ρ H (if (z :: zs).length + ys.length ≤ sizeLine then some (.tup (z :: zs ++ ys), S) else none) := by
  cases v with
  | tup xs =>
    cases xs with
    | nil => exact a.elim
    | cons z zs =>
      cases w with
      | tup ys => exact ⟨z, zs, ys, rfl, rfl, a⟩
      | _ => exact a.elim
  | _ => exact a.elim
theorem oCatT : OpP X (binaryOp .Add) catT := by
  refine ⟨_, op_catT, fun ρ S H v w x y Q R rv rw a => ?_⟩
  obtain ⟨z, zs, ys, rfl, rfl, a⟩ := catT_in a
  obtain ⟨hl, a⟩ := ans_if a
  obtain ⟨p, ws, rfl, h1, r1⟩ := rv
  obtain ⟨p2, us, rfl, h2, r2⟩ := rw
  have e1 := r1.len
  have e2 := r2.len
  refine ⟨p, p2, ws, us, rfl, rfl, h1, h2, ?_, by rw [← e1, ← e2]; exact hl, fun e => ?_, fun e p hp => ?_⟩
  · intro e
    rw [e] at e1
    cases e1
  · subst e
    cases ys with
    | nil => exact a ρ H _ R.refl R ⟨p, ws, rfl, h1, by rw [List.append_nil]; exact r1⟩
    | cons y ys => cases e2
  · obtain ⟨E, R2⟩ := R.own (o := .tup (ws ++ us)) hp
    exact a ρ _ _ E R2 ⟨p, _, rfl, SqT.of upd_same, (r1.app r2).ext E⟩
theorem oCatS : OpP X (binaryOp .Add) catS := by
  refine ⟨_, op_add_str, fun ρ S H v w x y Q R rv rw a => ?_⟩
  cases v with
  | str z =>
    cases w with
    | str u =>
      cases rv
      cases rw
      obtain ⟨hl, a⟩ := ans_if (p := z.length + u.length ≤ sizeLine) (o := some (.str (z ++ u), S)) a
      exact ⟨z, u, rfl, rfl, hl, a ρ H _ R.refl R rfl⟩
    | _ => exact a.elim
  | _ => exact a.elim
def fAdd : F2 := orF2 addI (orF2 catL (orF2 catT catS))
theorem oAdd : OpP X (binaryOp .Add) fAdd := oAddI.or (oCatL.or (oCatT.or oCatS))
@[simp] theorem fAdd_int (i j : Int) (S : Sto) : fAdd (.int i) (.int j) S = some (.int (i + j), S) := rfl
theorem fAdd_lst {S : Sto} {v w : Va} {xs ys : List Va} (h : lstOf S v = some xs) (h' : lstOf S w = some ys) : fAdd v w S = mkL S (xs ++ ys) := by
  have e2 : catL v w S = mkL S (xs ++ ys) := by unfold catL; rw [h, h']
  have e : addI v w S = none ∧ catT v w S = none ∧ catS v w S = none := by
    cases v with
    | ref n => exact ⟨rfl, rfl, rfl⟩
    | rol ys => exact ⟨rfl, rfl, rfl⟩
    | _ => cases h
  unfold fAdd orF2
  simp only [e.1, e.2.1, e.2.2, e2]
  cases mkL S (xs ++ ys) <;> rfl
theorem fAdd_tup {x : Va} {xs ys : List Va} {S : Sto} (h : (x :: xs).length + ys.length ≤ sizeLine) : fAdd (.tup (x :: xs)) (.tup ys) S = some (.tup (x :: xs ++ ys), S) := by
  have e : addI (.tup (x :: xs)) (.tup ys) S = none ∧ catL (.tup (x :: xs)) (.tup ys) S = none := ⟨rfl, rfl⟩
  have e2 : catT (.tup (x :: xs)) (.tup ys) S = some (.tup (x :: xs ++ ys), S) := by
    unfold catT
    simp only
    rw [if_pos h]
  unfold fAdd orF2
  simp only [e.1, e.2, e2]
/-- a list so many times -/
def repL : F2 := fun v w S => match v, w with
  | .ref n, .int k => match S[n]? with
    | some (.lst xs) => if -(2 ^ 63) ≤ k ∧ k < 2 ^ 63 ∧ xs.length * k.toNat ≤ sizeLine then mkL S (List.replicate k.toNat xs).flatten else none
    | _ => none
  | _, _ => none
theorem Rvs.rep {K : KX} {ρ : List Addr} {H : Hp} {xs : List Va} {ws : List V} (h : Rvs K ρ H xs ws) : ∀ k, Rvs K ρ H (List.replicate k xs).flatten (List.replicate k ws).flatten
  | 0 => rfl
  | k + 1 => by
    rw [List.replicate_succ, List.replicate_succ, List.flatten_cons, List.flatten_cons]
    exact h.app (h.rep k)
theorem oRep : OpP X (binaryOp .Mult) repL := by
  refine ⟨_, op_rep, fun ρ S H v w x y Q R rv rw a => ?_⟩
  cases v with
  | ref n =>
    cases w with
    | int k =>
      obtain ⟨p, h1, rfl⟩ := rv
      cases rw
      have a : Ans (kxOf X) Q ρ H (match S[n]? with
        | some (.lst xs) => if -(2 ^ 63) ≤ k ∧ k < 2 ^ 63 ∧ xs.length * k.toNat ≤ sizeLine then mkL S (List.replicate k.toNat xs).flatten else none
        | _ => none) := a
      cases e : S[n]? with
      | none => rw [e] at a; exact a.elim
      | some o =>
        cases o with
        | setT ks => rw [e] at a; exact a.elim
        | raw o => rw [e] at a; exact a.elim
        | tbl _ => rw [e] at a; exact a.elim
        | dct _ => rw [e] at a; exact a.elim
        | lst xs =>
          rw [e] at a
          obtain ⟨c, a⟩ := ans_if a
          obtain ⟨_, ws, h2, r2⟩ := R.at_ n p _ h1 e
          obtain ⟨hl, q⟩ := mkL_ans R a (r2.rep k.toNat)
          exact ⟨p, k, ws, rfl, rfl, h2, c.1, c.2.1, by rw [← r2.len]; exact c.2.2, q⟩
    | _ => exact a.elim
  | _ => exact a.elim
def fMul : F2 := orF2 mulI repL
theorem oMul : OpP X (binaryOp .Mult) fMul := oMulI.or oRep
theorem fMul_int (i j : Int) (S : Sto) (h : mulC i j = true) : fMul (.int i) (.int j) S = some (.int (i * j), S) := by
  unfold fMul orF2 mulI
  rw [fI2_int, if_pos h]
/-! ### places -/
theorem Rvs.atI {K : KX} {ρ : List Addr} {H : Hp} {xs : List Va} {ws : List V} (h : Rvs K ρ H xs ws) {i : Int} {x : Va} (e : L2.atI xs i = some x) : ∃ w, L2.atI ws i = some w ∧ Rv K ρ H x w := by
  unfold L2.atI at e ⊢
  rw [← h.len]
  cases q : ixN xs.length i with
  | none => rw [q] at e; cases e
  | some j =>
    rw [q] at e
    exact h.get e
def ixL : F2 := fun v w S => match w with
  | .int i => match lstOf S v with
    | some xs => (L2.atI xs i).map fun x => (x, S)
    | none => none
  | _ => none
def ixT : F2 := fun v w S => match v, w with
  | .tup xs, .int i => (L2.atI xs i).map fun x => (x, S)
  | _, _ => none
def ixS : F2 := fun v w S => match v, w with
  | .str z, .int i => if z.length ≤ sizeLine then (L2.atI z.cps.toList i).map fun c => (.str ⟨#[c]⟩, S) else none
  | _, _ => none
theorem iL : IxP X ixL := by
  refine ⟨_, ix_list, fun ρ S H v w x y Q R rv rw a => ?_⟩
  cases w with
  | int i =>
    cases rw
    unfold ixL at a
    simp only at a
    cases e : lstOf S v with
    | none => rw [e] at a; exact a.elim
    | some xs =>
      rw [e] at a
      simp only at a
      obtain ⟨p, ws, rfl, h1, r1⟩ := lst_of R rv e
      cases e2 : L2.atI xs i with
      | none => rw [e2] at a; exact a.elim
      | some z =>
        rw [e2] at a
        obtain ⟨u, h2, r2⟩ := r1.atI e2
        exact ⟨p, ws, i, u, rfl, rfl, h1, h2, a ρ H u R.refl R r2⟩
  | _ => exact a.elim
theorem iT : IxP X ixT := by
  refine ⟨_, ix_tup, fun ρ S H v w x y Q R rv rw a => ?_⟩
  cases v with
  | tup xs =>
    cases w with
    | int i =>
      cases rw
      obtain ⟨p, ws, rfl, h1, r1⟩ := rv
      have a : Ans (kxOf X) Q ρ H ((L2.atI xs i).map fun x => (x, S)) := a
      cases e2 : L2.atI xs i with
      | none => rw [e2] at a; exact a.elim
      | some z =>
        rw [e2] at a
        obtain ⟨u, h2, r2⟩ := r1.atI e2
        exact ⟨p, ws, i, u, rfl, rfl, h1, h2, a ρ H u R.refl R r2⟩
    | _ => exact a.elim
  | _ => exact a.elim
theorem iS : IxP X ixS := by
  refine ⟨_, ix_str, fun ρ S H v w x y Q R rv rw a => ?_⟩
  cases v with
  | str z =>
    cases w with
    | int i =>
      cases rv
      cases rw
      obtain ⟨hl, a⟩ := ans_if (p := z.length ≤ sizeLine) (o := (L2.atI z.cps.toList i).map fun c => (Va.str ⟨#[c]⟩, S)) a
      cases e2 : L2.atI z.cps.toList i with
      | none => rw [e2] at a; exact a.elim
      | some c =>
        rw [e2] at a
        exact ⟨z, i, c, rfl, rfl, hl, e2, a ρ H _ R.refl R rfl⟩
    | _ => exact a.elim
  | _ => exact a.elim
def fIx : F2 := orF2 ixL (orF2 ixT ixS)
theorem iIx : IxP X fIx := iL.or (iT.or iS)
theorem fIx_lst {S : Sto} {v : Va} {xs : List Va} {i : Int} {x : Va} (h : lstOf S v = some xs) (e : L2.atI xs i = some x) : fIx v (.int i) S = some (x, S) := by
  unfold fIx orF2 ixL
  simp only [h, e, Option.map_some]
theorem fIx_tup {S : Sto} {xs : List Va} {i : Int} {x : Va} (e : L2.atI xs i = some x) : fIx (.tup xs) (.int i) S = some (x, S) := by
  unfold fIx orF2 ixL ixT lstOf
  simp only [e, Option.map_some]
/-! ### equality of data -/
end
def toD (S : Sto) : Nat → Va → Option PyData
  | 0, _ => none
  | _ + 1, .non => some .none
  | _ + 1, .bl b => some (.bool b)
  | _ + 1, .int i => some (.int i)
  | _ + 1, .str z => some (.str z)
  | n + 1, .tup xs => (xs.mapM (toD S n)).map .tuple
  | n + 1, .rol xs => (xs.mapM (toD S n)).map .list
  | n + 1, .ref k => match S[k]? with
    | some (.lst xs) => (xs.mapM (toD S n)).map .list
    | _ => none
  | _ + 1, .adr _ => none
  | _ + 1, .exc _ _ _ _ => none
  | _ + 1, .ty _ => none
section
variable {K : KX} {ρ : List Addr} {S : Sto} {H : Hp}
theorem dps_of {f : Va → Option PyData} (hf : ∀ v w d, Rv K ρ H v w → f v = some d → Dp K.K H w d) : ∀ {xs : List Va} {ws : List V} {ds : List PyData}, Rvs K ρ H xs ws → xs.mapM f = some ds → DpAll K.K H ws ds
  | [], _, ds, h, e => by
    cases h
    rw [List.mapM_nil] at e
    cases e
    exact .nil
  | x :: xs, _, ds, h, e => by
    obtain ⟨w, r, rfl, hw, t⟩ := h
    rw [List.mapM_cons] at e
    cases ex : f x with
    | none => rw [ex] at e; cases e
    | some d =>
      rw [ex] at e
      cases exs : xs.mapM f with
      | none => simp only [exs] at e; cases e
      | some ds' =>
        simp only [exs] at e
        cases e
        exact .cons (hf _ _ _ hw ex) (dps_of hf t exs)
theorem dp_of (R : RS K ρ S H) : ∀ (n : Nat) (v : Va) (w : V) (d : PyData), Rv K ρ H v w → toD S n v = some d → Dp K.K H w d
  | 0, _, _, _, _, e => by cases e
  | n + 1, v, w, d, r, e => by
    cases v with
    | non => cases r; cases e; exact .non
    | bl b => cases r; cases e; exact .bl b
    | int i => cases r; cases e; exact .int i
    | str z => cases r; cases e; exact .str z
    | adr a => cases e
    | ty a => cases e
    | exc _ _ _ _ => cases e
    | tup xs =>
      obtain ⟨a, ws, rfl, h1, h2⟩ := r
      have e : (xs.mapM (toD S n)).map PyData.tuple = some d := e
      cases em : xs.mapM (toD S n) with
      | none => rw [em] at e; cases e
      | some ds =>
        rw [em] at e
        cases e
        exact .tup h1 (dps_of (fun v w d r e => dp_of R n v w d r e) h2 em)
    | rol xs =>
      obtain ⟨a, ws, rfl, h1, h2⟩ := r
      have e : (xs.mapM (toD S n)).map PyData.list = some d := e
      cases em : xs.mapM (toD S n) with
      | none => rw [em] at e; cases e
      | some ds =>
        rw [em] at e
        cases e
        exact .lst h1.sq (dps_of (fun v w d r e => dp_of R n v w d r e) h2 em)
    | ref k =>
      obtain ⟨a, h1, rfl⟩ := r
      have e : (match S[k]? with
        | some (.lst xs) => (xs.mapM (toD S n)).map PyData.list
        | _ => none) = some d := e
      cases eo : S[k]? with
      | none => rw [eo] at e; cases e
      | some o =>
        rw [eo] at e
        cases o with
        | setT ks => cases e
        | raw o => cases e
        | tbl _ => cases e
        | dct _ => cases e
        | lst xs =>
          simp only at e
          obtain ⟨_, ws, h2, h3⟩ := R.at_ k a _ h1 eo
          cases em : xs.mapM (toD S n) with
          | none => rw [em] at e; cases e
          | some ds =>
            rw [em] at e
            cases e
            exact .lst (SqL.of h2) (dps_of (fun v w d r e => dp_of R n v w d r e) h3 em)
end
/-- as data, not too deep -/
def datOf (S : Sto) (v : Va) : Option PyData := match toD S 64 v with
  | some d => if SeqAt.shaped d = true then some d else none
  | none => none
theorem dat_of {K : KX} {ρ : List Addr} {S : Sto} {H : Hp} {v : Va} {w : V} {d : PyData} (R : RS K ρ S H) (r : Rv K ρ H v w) (h : datOf S v = some d) : Dp K.K H w d ∧ SeqAt.shaped d = true := by
  unfold datOf at h
  cases e : toD S 64 v with
  | none => rw [e] at h; cases h
  | some d' =>
    rw [e] at h
    simp only at h
    split at h
    · cases h
      exact ⟨dp_of R 64 v w d r e, by assumption⟩
    · cases h
def fEq : F2 := fun v w S => match datOf S v, datOf S w with
  | some d, some e => some (.bl (PyData.eqv d e), S)
  | _, _ => none
def fNe : F2 := fun v w S => match datOf S v, datOf S w with
  | some d, some e => some (.bl (!PyData.eqv d e), S)
  | _, _ => none
section
variable {X : Cx}
theorem oEq (hu : X.A.units + 64 < cLine) : OpP X (compareOp .Eq) fEq := by
  refine ⟨_, op_eqD hu, fun ρ S H v w x y Q R rv rw a => ?_⟩
  unfold fEq at a
  cases e1 : datOf S v with
  | none => rw [e1] at a; exact a.elim
  | some d =>
    cases e2 : datOf S w with
    | none => rw [e1, e2] at a; exact a.elim
    | some e =>
      rw [e1, e2] at a
      obtain ⟨d1, s1⟩ := dat_of R rv e1
      obtain ⟨d2, s2⟩ := dat_of R rw e2
      exact ⟨d, e, d1, d2, s1, s2, a ρ H _ R.refl R rfl⟩
theorem oNe (hu : X.A.units + 64 < cLine) : OpP X (compareOp .NotEq) fNe := by
  refine ⟨_, op_neD hu, fun ρ S H v w x y Q R rv rw a => ?_⟩
  unfold fNe at a
  cases e1 : datOf S v with
  | none => rw [e1] at a; exact a.elim
  | some d =>
    cases e2 : datOf S w with
    | none => rw [e1, e2] at a; exact a.elim
    | some e =>
      rw [e1, e2] at a
      obtain ⟨d1, s1⟩ := dat_of R rv e1
      obtain ⟨d2, s2⟩ := dat_of R rw e2
      exact ⟨d, e, d1, d2, s1, s2, a ρ H _ R.refl R rfl⟩
/-! ### is None -/
def isNonV : Va → Bool
  | .non => true
  | _ => false
def mIsN (a : ME) : ME := fun Γ S => (a Γ S).bind fun v S1 => .ok (.bl (isNonV v)) S1
def mNotN (a : ME) : ME := fun Γ S => (a Γ S).bind fun v S1 => .ok (.bl (!isNonV v)) S1
theorem isn_of {K : KX} {ρ : List Addr} {H : Hp} {v : Va} {w : V} (r : Rv K ρ H v w) : decide (w = V.non) = isNonV v := by
  cases v with
  | non => cases r; rfl
  | tup xs => obtain ⟨_, _, rfl, _⟩ := r; rfl
  | rol xs => obtain ⟨_, _, rfl, _⟩ := r; rfl
  | ref n => obtain ⟨_, _, rfl⟩ := r; rfl
  | exc a d f v => obtain ⟨rfl, _⟩ := r; rfl
  | _ => cases r; rfl
end
end PM

namespace PM
open PySem PySem.Spec PyProof.Rows L2 Q2
section
variable {X : Cx} {W : XW}
/-! ### is None; not; and, or as values -/
theorem pm_isN {a b : Expr} {ma : ME} {pos : Pos} {j : Nat} {p : Pos} (h : PE X (.Compare a [.Is] [.Constant .none j p] pos) (tIsN (tM (kxOf X) W ma))) : PM X W (.Compare a [.Is] [.Constant .none j p] pos) (mIsN ma) := by
  refine pe_imp h fun σ H Q ⟨ρ, Γ, S, R, G, q⟩ => ?_
  refine ⟨ρ, Γ, S, R, G, q.bind fun v S1 ρ1 H1 x E1 R1 rx q1 => ?_⟩
  rw [isn_of rx]
  exact q1 ρ1 H1 _ R1.refl R1 rfl
theorem pm_notN {a b : Expr} {ma : ME} {pos : Pos} {j : Nat} {p : Pos} (h : PE X (.Compare a [.IsNot] [.Constant .none j p] pos) (tNotN (tM (kxOf X) W ma))) : PM X W (.Compare a [.IsNot] [.Constant .none j p] pos) (mNotN ma) := by
  refine pe_imp h fun σ H Q ⟨ρ, Γ, S, R, G, q⟩ => ?_
  refine ⟨ρ, Γ, S, R, G, q.bind fun v S1 ρ1 H1 x E1 R1 rx q1 => ?_⟩
  rw [isn_of rx]
  exact q1 ρ1 H1 _ R1.refl R1 rfl
theorem pmt_isN {a b : Expr} {ma : ME} {pos : Pos} {j : Nat} {p : Pos} (h : PT X (.Compare a [.Is] [.Constant .none j p] pos) (tB (tIsN (tM (kxOf X) W ma)))) : PMT X W (.Compare a [.Is] [.Constant .none j p] pos) (mtOf (mIsN ma)) := by
  refine pt_imp h fun σ H Q ⟨ρ, Γ, S, R, G, q⟩ => ?_
  have q : Aft (kxOf X) W σ (fun _ _ (b c : Bool) => c = b) Q ρ H ((ma Γ S).bind fun v S1 => .ok (isNonV v) S1) := by
    unfold mtOf mIsN at q
    cases e : ma Γ S with
    | bad => rw [e] at q; exact q
    | ok v S1 => rw [e] at q; exact q
    | ex a b c d => rw [e] at q; exact q
  refine ⟨ρ, Γ, S, R, G, q.bind fun v S1 ρ1 H1 x E1 R1 rx q1 => ?_⟩
  rw [isn_of rx]
  exact ⟨_, rfl, q1 ρ1 H1 _ R1.refl R1 rfl⟩
theorem pmt_notN {a b : Expr} {ma : ME} {pos : Pos} {j : Nat} {p : Pos} (h : PT X (.Compare a [.IsNot] [.Constant .none j p] pos) (tB (tNotN (tM (kxOf X) W ma)))) : PMT X W (.Compare a [.IsNot] [.Constant .none j p] pos) (mtOf (mNotN ma)) := by
  refine pt_imp h fun σ H Q ⟨ρ, Γ, S, R, G, q⟩ => ?_
  have q : Aft (kxOf X) W σ (fun _ _ (b c : Bool) => c = b) Q ρ H ((ma Γ S).bind fun v S1 => .ok (!isNonV v) S1) := by
    unfold mtOf mNotN at q
    cases e : ma Γ S with
    | bad => rw [e] at q; exact q
    | ok v S1 => rw [e] at q; exact q
    | ex a b c d => rw [e] at q; exact q
  refine ⟨ρ, Γ, S, R, G, q.bind fun v S1 ρ1 H1 x E1 R1 rx q1 => ?_⟩
  rw [isn_of rx]
  exact ⟨_, rfl, q1 ρ1 H1 _ R1.refl R1 rfl⟩
theorem pm_not {a : Expr} {ma : ME} {pos : Pos} (h : PM X W a ma) : PM X W (.UnaryOp .Not a pos) (mNot ma) := by
  refine pe_imp (pe_not h) fun σ H Q ⟨ρ, Γ, S, R, G, q⟩ => ?_
  refine ⟨ρ, Γ, S, R, G, q.bind fun v S1 ρ1 H1 x E1 R1 rx q1 => ?_⟩
  cases v with
  | bl b => cases rx; exact ⟨b, rfl, q1 ρ1 H1 _ R1.refl R1 rfl⟩
  | _ => exact q1.elim
theorem pm_one {op : BoolOp} {a : Expr} {ma : ME} {pos : Pos} (h : PM X W a ma) : PM X W (.BoolOp op [a] pos) ma := pe_one h
theorem pm_and {a b : Expr} {rest : List Expr} {ma mb : ME} {pos : Pos} (ha : PM X W a ma) (hb : PM X W (.BoolOp .And (b :: rest) pos) mb) : PM X W (.BoolOp .And (a :: b :: rest) pos) (meAnd ma mb) := by
  refine pe_imp (pe_and ha hb) fun σ H Q ⟨ρ, Γ, S, R, G, q⟩ => ?_
  refine ⟨ρ, Γ, S, R, G, q.bind fun v S1 ρ1 H1 x E1 R1 rx q1 => ?_⟩
  cases v with
  | bl c =>
    cases rx
    refine ⟨c, rfl, ?_⟩
    cases c with
    | true => exact iteT ⟨ρ1, Γ, S1, R1, G.ext E1, q1⟩
    | false => exact iteF (q1 ρ1 H1 _ R1.refl R1 rfl)
  | _ => exact q1.elim
theorem pm_or {a b : Expr} {rest : List Expr} {ma mb : ME} {pos : Pos} (ha : PM X W a ma) (hb : PM X W (.BoolOp .Or (b :: rest) pos) mb) : PM X W (.BoolOp .Or (a :: b :: rest) pos) (meOr ma mb) := by
  refine pe_imp (pe_or ha hb) fun σ H Q ⟨ρ, Γ, S, R, G, q⟩ => ?_
  refine ⟨ρ, Γ, S, R, G, q.bind fun v S1 ρ1 H1 x E1 R1 rx q1 => ?_⟩
  cases v with
  | bl c =>
    cases rx
    refine ⟨c, rfl, ?_⟩
    cases c with
    | true => exact iteT (q1 ρ1 H1 _ R1.refl R1 rfl)
    | false => exact iteF ⟨ρ1, Γ, S1, R1, G.ext E1, q1⟩
  | _ => exact q1.elim
def negI : F1 := fun v S => match v with
  | .int i => some (.int (-i), S)
  | _ => none
theorem pm_neg {a : Expr} {ma : ME} {pos : Pos} (h : PM X W a ma) : PM X W (.UnaryOp .USub a pos) (m1 negI ma) := by
  refine pe_imp (pe_un un_neg h) fun σ H Q ⟨ρ, Γ, S, R, G, q⟩ => ?_
  refine ⟨ρ, Γ, S, R, G, q.bind fun v S1 ρ1 H1 x E1 R1 rx q1 => ?_⟩
  cases v with
  | int i => cases rx; exact ⟨i, rfl, q1 ρ1 H1 _ R1.refl R1 rfl⟩
  | _ => exact q1.elim
/-! ### chains -/
def mChain (f g : F2) (a b c : ME) : ME := fun Γ S => (a Γ S).bind fun v S1 => (b Γ S1).bind fun w S2 => (lift (f v w S2)).bind fun z S3 => match z with
  | .bl k => if k = true then (c Γ S3).bind fun u S4 => lift (g w u S4) else .ok (.bl false) S3
  | _ => .bad
theorem ch_imp {K : KX} {r r' : R2} {f g : F2} {ma mb mc : ME} (hf : OpM K r f) (hg : OpM K r' g) (σ : L2.St) (H : Hp) (Q : VK) (h : tM K W (mChain f g ma mb mc) σ H Q) : tChain r r' (tM K W ma) (tM K W mb) (tM K W mc) σ H Q := by
  obtain ⟨ρ, Γ, S, R, G, q⟩ := h
  refine ⟨ρ, Γ, S, R, G, q.bind fun v S1 ρ1 H1 x E1 R1 rx q1 => ?_⟩
  refine ⟨ρ1, Γ, S1, R1, G.ext E1, q1.bind fun w S2 ρ2 H2 y E2 R2 ry q2 => ?_⟩
  refine hf ρ2 S2 H2 v w x y _ R2 (rx.ext E2) ry ?_
  cases e : f v w S2 with
  | none => rw [e] at q2; exact q2.elim
  | some p =>
    obtain ⟨z, S3⟩ := p
    rw [e] at q2
    intro ρ3 H3 z' E3 R3 rz
    cases z with
    | bl k =>
      cases rz
      refine ⟨k, rfl, ?_⟩
      have q2 : Aft K W σ (Rv K) Q ρ2 H2 (if k = true then (mc Γ S3).bind fun u S4 => lift (g w u S4) else .ok (.bl false) S3) := q2
      cases k with
      | false => exact iteF (q2 ρ3 H3 _ E3 R3 rfl)
      | true =>
        have q2 : Aft K W σ (Rv K) Q ρ2 H2 ((mc Γ S3).bind fun u S4 => lift (g w u S4)) := q2
        refine iteT ⟨ρ3, Γ, S3, R3, ((G.ext E1).ext E2).ext E3, (q2.shift E3).bind fun u S4 ρ4 H4 u' E4 R4 ru q4 => ?_⟩
        exact hg ρ4 S4 H4 w u y u' Q R4 ((ry.ext E3).ext E4) ru q4.ans
    | _ => exact q2.elim
section
variable {a b c : Expr} {ma mb mc : ME} {op op' : CmpOp} {f g : F2} {pos : Pos}
theorem pm_chain (ho : OpP X (compareOp op) f) (ho' : OpP X (compareOp op') g) (ha : PM X W a ma) (hb : PM X W b mb) (hc : PM X W c mc) (hm : lastMarks [op, op'] [b, c] = false := by with_unfolding_all rfl) : PM X W (.Compare a [op, op'] [b, c] pos) (mChain f g ma mb mc) := by
  obtain ⟨r, hr, hf⟩ := ho
  obtain ⟨r', hr', hg⟩ := ho'
  exact pe_imp (pe_chain hr hr' ha hb hc hm) (ch_imp hf hg)
theorem pmt_chain (ho : OpP X (compareOp op) f) (ho' : OpP X (compareOp op') g) (ha : PM X W a ma) (hb : PM X W b mb) (hc : PM X W c mc) (hm : lastMarks [op, op'] [b, c] = false := by with_unfolding_all rfl) : PMT X W (.Compare a [op, op'] [b, c] pos) (mtOf (mChain f g ma mb mc)) := by
  obtain ⟨r, hr, hf⟩ := ho
  obtain ⟨r', hr', hg⟩ := ho'
  refine pt_imp (pt_chain hr hr' ha hb hc hm) fun σ H Q h => ?_
  refine ch_imp (W := W) hf hg σ H _ ?_
  obtain ⟨ρ, Γ, S, R, G, q⟩ := h
  refine ⟨ρ, Γ, S, R, G, ?_⟩
  have q : Aft (kxOf X) W σ (fun _ _ (b c : Bool) => c = b) Q ρ H ((mChain f g ma mb mc Γ S).bind fun v S1 => match v with
    | .bl b => .ok b S1
    | _ => .bad) := q
  cases e : mChain f g ma mb mc Γ S with
  | bad => rw [e] at q; exact q
  | ex a b c d => rw [e] at q; exact q
  | ok v S1 =>
    rw [e] at q
    intro ρ1 H1 x E1 R1 rx
    cases v with
    | bl b => cases rx; exact ⟨b, rfl, q ρ1 H1 b E1 R1 rfl⟩
    | _ => exact q.elim
end
/-! ### in, not in -/
def datsOf (S : Sto) (v : Va) : Option (List PyData) := match datOf S v with
  | some (.list ds) => some ds
  | _ => none
def inD (neg : Bool) : F2 := fun v w S => match datOf S v, datsOf S w with
  | some d, some ds => some (.bl (if neg then !ds.any (fun z => PyData.eqv z d) else ds.any fun z => PyData.eqv z d), S)
  | _, _ => none
theorem dats_of {K : KX} {ρ : List Addr} {S : Sto} {H : Hp} {v : Va} {w : V} {ds : List PyData} (R : RS K ρ S H) (r : Rv K ρ H v w) (h : datsOf S v = some ds) : Dp K.K H w (.list ds) ∧ SeqAt.shaped (.list ds) = true := by
  unfold datsOf at h
  cases e : datOf S v with
  | none => rw [e] at h; cases h
  | some d =>
    rw [e] at h
    cases d with
    | list es => cases h; exact dat_of R r e
    | _ => cases h
theorem oIn (hu : X.A.units + 65 < cLine) : OpP X (compareOp .In) (inD false) := by
  refine ⟨_, op_inD hu, fun ρ S H v w x y Q R rv rw a => ?_⟩
  unfold inD at a
  cases e1 : datOf S v with
  | none => rw [e1] at a; exact a.elim
  | some d =>
    cases e2 : datsOf S w with
    | none => rw [e1, e2] at a; exact a.elim
    | some ds =>
      rw [e1, e2] at a
      obtain ⟨d1, s1⟩ := dat_of R rv e1
      obtain ⟨d2, s2⟩ := dats_of R rw e2
      exact ⟨d, ds, d1, d2, s1, s2, a ρ H _ R.refl R rfl⟩
theorem oNotIn (hu : X.A.units + 65 < cLine) : OpP X (compareOp .NotIn) (inD true) := by
  refine ⟨_, op_notInD hu, fun ρ S H v w x y Q R rv rw a => ?_⟩
  unfold inD at a
  cases e1 : datOf S v with
  | none => rw [e1] at a; exact a.elim
  | some d =>
    cases e2 : datsOf S w with
    | none => rw [e1, e2] at a; exact a.elim
    | some ds =>
      rw [e1, e2] at a
      obtain ⟨d1, s1⟩ := dat_of R rv e1
      obtain ⟨d2, s2⟩ := dats_of R rw e2
      exact ⟨d, ds, d1, d2, s1, s2, a ρ H _ R.refl R rfl⟩
/-! ### calls of built-ins -/
section
variable {x : Str} {id T : String} {e : Expr} {es : List Expr} {t : MA} {f : FL} {p pos : Pos}
theorem cb_imp {K : KX} {r : List V → Hp → VK → Prop} (hm : CallM K r f) (σ : L2.St) (H : Hp) (Q : VK) (h : tM K W (mL f t) σ H Q) : tCB r (tMA K W t) σ H Q := by
  obtain ⟨ρ, Γ, S, R, G, q⟩ := h
  exact ⟨ρ, Γ, S, R, G, q.bind fun vs S1 ρ1 H1 xs E1 R1 rx q1 => hm ρ1 S1 H1 vs xs Q R1 rx q1.ans⟩
theorem pm_callB (hc : CallP X (.builtin id) f) (hg : Gl X x) (hm : X.mg x = none) (hv : bootBuiltins x = some (.builtin id)) (ha : PMA X W (e :: es) t) (hn : x ≠ "__name__" := by decide) (hdb : (x == ("__debug__" : Str)) = false := by decide)
    (he : starEach (e :: es) X.env = (false, eval e X.env) :: starEach es X.env := by rfl) (hpl : (backTo pos (starEach es X.env)).any (·.1) = false := by rfl) : PM X W (.Call (.Name x p) (e :: es) [] pos) (mL f t) := by
  obtain ⟨r, hr, hf⟩ := hc
  exact pe_imp (pe_callB hr hg hm hv ha hn hdb he hpl) (cb_imp hf)
theorem pm_callTy (hc : CallP X (.type T) f) (hg : Gl X x) (hm : X.mg x = none) (hv : bootBuiltins x = some (.type T)) (ha : PMA X W (e :: es) t) (hn : x ≠ "__name__" := by decide) (hdb : (x == ("__debug__" : Str)) = false := by decide)
    (he : starEach (e :: es) X.env = (false, eval e X.env) :: starEach es X.env := by rfl) (hpl : (backTo pos (starEach es X.env)).any (·.1) = false := by rfl) : PM X W (.Call (.Name x p) (e :: es) [] pos) (mL f t) := by
  obtain ⟨r, hr, hf⟩ := hc
  exact pe_imp (pe_callTy hr hg hm hv ha hn hdb he hpl) (cb_imp hf)
end
end
/-! ### the built-ins, by values -/
section
variable {K : KX} {ρ : List Addr} {S : Sto} {H : Hp}
theorem one_of {vs : List Va} {xs : List V} {v : Va} (h : Rvs K ρ H vs xs) (e : vs = [v]) : ∃ x, xs = [x] ∧ Rv K ρ H v x := by
  subst e
  obtain ⟨x, r, rfl, h1, rfl⟩ := h
  exact ⟨x, rfl, h1⟩
theorem two_of {vs : List Va} {xs : List V} {v w : Va} (h : Rvs K ρ H vs xs) (e : vs = [v, w]) : ∃ x y, xs = [x, y] ∧ Rv K ρ H v x ∧ Rv K ρ H w y := by
  subst e
  obtain ⟨x, r, rfl, h1, y, r2, rfl, h2, rfl⟩ := h
  exact ⟨x, y, rfl, h1, h2⟩
/-- the ints that values are -/
def intsOf : List Va → Option (List Int)
  | [] => some []
  | .int i :: r => (intsOf r).map (i :: ·)
  | _ :: _ => none
theorem ints_of : ∀ {vs : List Va} {xs : List V} {ns : List Int}, Rvs K ρ H vs xs → intsOf vs = some ns → xs = ns.map V.int
  | [], _, ns, h, e => by
    cases h
    cases e
    rfl
  | v :: vs, _, ns, h, e => by
    obtain ⟨x, r, rfl, h1, h2⟩ := h
    cases v with
    | int i =>
      cases h1
      have e : (intsOf vs).map (i :: ·) = some ns := e
      cases q : intsOf vs with
      | none => rw [q] at e; cases e
      | some ms =>
        rw [q] at e
        cases e
        rw [ints_of h2 q]
        rfl
    | _ => cases e
def boolsOf : List Va → Option (List Bool)
  | [] => some []
  | .bl i :: r => (boolsOf r).map (i :: ·)
  | _ :: _ => none
theorem bools_of : ∀ {vs : List Va} {xs : List V} {ns : List Bool}, Rvs K ρ H vs xs → boolsOf vs = some ns → xs = ns.map V.bl
  | [], _, ns, h, e => by
    cases h
    cases e
    rfl
  | v :: vs, _, ns, h, e => by
    obtain ⟨x, r, rfl, h1, h2⟩ := h
    cases v with
    | bl i =>
      cases h1
      have e : (boolsOf vs).map (i :: ·) = some ns := e
      cases q : boolsOf vs with
      | none => rw [q] at e; cases e
      | some ms =>
        rw [q] at e
        cases e
        rw [bools_of h2 q]
        rfl
    | _ => cases e
end
def fL1 (f : Va → Sto → Option (Va × Sto)) : FL := fun vs S => match vs with
  | [v] => f v S
  | _ => none
def fL2 (f : Va → Va → Sto → Option (Va × Sto)) : FL := fun vs S => match vs with
  | [v, w] => f v w S
  | _ => none
theorem callM1 {K : KX} {r : List V → Hp → VK → Prop} {f : Va → Sto → Option (Va × Sto)} (h : ∀ ρ S H v x Q, RS K ρ S H → Rv K ρ H v x → Ans K Q ρ H (f v S) → r [x] H Q) : CallM K r (fL1 f) := fun ρ S H vs xs Q R rv a => by
  match vs, rv, a with
  | [v], rv, a =>
    obtain ⟨x, rfl, r1⟩ := one_of rv rfl
    exact h ρ S H v x Q R r1 a
  | [], _, a => exact a.elim
  | _ :: _ :: _, _, a => exact a.elim
theorem callM2 {K : KX} {r : List V → Hp → VK → Prop} {f : Va → Va → Sto → Option (Va × Sto)} (h : ∀ ρ S H v w x y Q, RS K ρ S H → Rv K ρ H v x → Rv K ρ H w y → Ans K Q ρ H (f v w S) → r [x, y] H Q) : CallM K r (fL2 f) := fun ρ S H vs xs Q R rv a => by
  match vs, rv, a with
  | [v, w], rv, a =>
    obtain ⟨x, y, rfl, r1, r2⟩ := two_of rv rfl
    exact h ρ S H v w x y Q R r1 r2 a
  | [], _, a => exact a.elim
  | [_], _, a => exact a.elim
  | _ :: _ :: _ :: _, _, a => exact a.elim
def orFL (f g : FL) : FL := fun vs S => match f vs S with
  | some p => some p
  | none => g vs S
theorem CallP.or {X : Cx} {v : Value} {f g : FL} (h : CallP X v f) (h' : CallP X v g) : CallP X v (orFL f g) := by
  obtain ⟨r, h1, h2⟩ := h
  obtain ⟨r', h1', h2'⟩ := h'
  refine ⟨fun xs H Q => r xs H Q ∨ r' xs H Q, fun pins s σ H xs us Q I rx q => ?_, fun ρ S H vs xs Q R rv a => ?_⟩
  · rcases q with q | q
    · exact h1 pins s σ H xs us Q I rx q
    · exact h1' pins s σ H xs us Q I rx q
  · unfold orFL at a
    cases e : f vs S with
    | some p =>
      rw [e] at a
      exact .inl (h2 ρ S H vs xs Q R rv (by rw [e]; exact a))
    | none =>
      rw [e] at a
      exact .inr (h2' ρ S H vs xs Q R rv a)
def lenQ : FL := fL1 fun v S => match seqOf S v with
  | some xs => some (.int xs.length, S)
  | none => none
def lenS : FL := fL1 fun v S => match v with
  | .str z => if z.length ≤ sizeLine then some (.int z.length, S) else none
  | _ => none
def fInt : FL := fL1 fun v S => match v with
  | .int i => some (.int i, S)
  | .bl k => some (.int (if k then 1 else 0), S)
  | _ => none
def fAbs : FL := fL1 fun v S => match v with
  | .int i => some (.int (if i < 0 then -i else i), S)
  | _ => none
def fMax2 : FL := fL2 fun v w S => match v, w with
  | .int i, .int j => some (.int (if j > i then j else i), S)
  | _, _ => none
def fMin2 : FL := fL2 fun v w S => match v, w with
  | .int i, .int j => some (.int (if j < i then j else i), S)
  | _, _ => none
def fSum : FL := fL1 fun v S => match (lstOf S v).bind intsOf with
  | some ns => some (.int ns.sum, S)
  | none => none
def maxL : List Int → Int
  | [] => 0
  | [n] => n
  | n :: m :: r => if maxL (m :: r) > n then maxL (m :: r) else n
def minL : List Int → Int
  | [] => 0
  | [n] => n
  | n :: m :: r => if minL (m :: r) < n then minL (m :: r) else n
theorem maxL_ge : ∀ {ns : List Int} {m : Int}, m ∈ ns → m ≤ maxL ns
  | [n], m, h => by rw [List.mem_singleton.mp h]; exact Int.le_refl _
  | n :: k :: r, m, h => by
    have ih : ∀ m ∈ k :: r, m ≤ maxL (k :: r) := fun m h => maxL_ge h
    unfold maxL
    rcases List.mem_cons.mp h with h | h
    · subst h; split <;> omega
    · have := ih m h; split <;> omega
theorem maxL_mem : ∀ {ns : List Int}, ns ≠ [] → maxL ns ∈ ns
  | [n], _ => by simp [maxL]
  | n :: k :: r, _ => by
    have ih : maxL (k :: r) ∈ k :: r := maxL_mem (by simp)
    unfold maxL
    split
    · exact List.mem_cons_of_mem _ ih
    · exact List.mem_cons_self ..
theorem minL_le : ∀ {ns : List Int} {m : Int}, m ∈ ns → minL ns ≤ m
  | [n], m, h => by rw [List.mem_singleton.mp h]; exact Int.le_refl _
  | n :: k :: r, m, h => by
    have ih : ∀ m ∈ k :: r, minL (k :: r) ≤ m := fun m h => minL_le h
    unfold minL
    rcases List.mem_cons.mp h with h | h
    · subst h; split <;> omega
    · have := ih m h; split <;> omega
theorem minL_mem : ∀ {ns : List Int}, ns ≠ [] → minL ns ∈ ns
  | [n], _ => by simp [minL]
  | n :: k :: r, _ => by
    have ih : minL (k :: r) ∈ k :: r := minL_mem (by simp)
    unfold minL
    split
    · exact List.mem_cons_of_mem _ ih
    · exact List.mem_cons_self ..
def fMaxL : FL := fL1 fun v S => match (lstOf S v).bind intsOf with
  | some (n :: ns) => some (.int (maxL (n :: ns)), S)
  | _ => none
def fMinL : FL := fL1 fun v S => match (lstOf S v).bind intsOf with
  | some (n :: ns) => some (.int (minL (n :: ns)), S)
  | _ => none
def fAll : FL := fL1 fun v S => match (lstOf S v).bind boolsOf with
  | some ns => some (.bl (ns.all id), S)
  | none => none
def fAny : FL := fL1 fun v S => match (lstOf S v).bind boolsOf with
  | some ns => some (.bl (ns.any id), S)
  | none => none
def fList : FL := fL1 fun v S => match seqOf S v with
  | some xs => mkL S xs
  | none => none
def tupL : FL := fL1 fun v S => match v with
  | .tup xs => some (.tup xs, S)
  | v => match lstOf S v with
    | some xs => some (.tup xs, S)
    | none => none
def kindV (S : Sto) : Va → Option String
  | .non => some "NoneType"
  | .bl _ => some "bool"
  | .int _ => some "int"
  | .str _ => some "str"
  | .ref n => match S[n]? with
    | some (.lst _) => some "list"
    | _ => none
  | .rol _ => some "list"
  | .tup _ => some "tuple"
  | _ => none
def fIsi : FL := fL2 fun v w S => match kindV S v, w with
  | some k, .ty T => match kitB k T with
    | some b => some (.bl b, S)
    | none => none
  | _, _ => none
section
variable {X : Cx}
theorem cLenQ : CallP X (.builtin "len") lenQ := by
  refine ⟨_, call_len_seq, callM1 fun ρ S H v x Q R r a => ?_⟩
  cases e : seqOf S v with
  | none => simp only [e] at a; exact a.elim
  | some xs =>
    simp only [e] at a
    obtain ⟨p, ws, rfl, h1, h2⟩ := seq_of R r e
    exact ⟨p, ws, rfl, h1, by rw [← h2.len]; exact a ρ H _ R.refl R rfl⟩
theorem cLenS : CallP X (.builtin "len") lenS := by
  refine ⟨_, call_len_str, callM1 fun ρ S H v x Q R r a => ?_⟩
  cases v with
  | str z =>
    cases r
    obtain ⟨hl, a⟩ := ans_if (p := z.length ≤ sizeLine) (o := some (.int z.length, S)) a
    exact ⟨z, rfl, hl, a ρ H _ R.refl R rfl⟩
  | _ => exact a.elim
def fLen : FL := orFL lenQ lenS
theorem cLen : CallP X (.builtin "len") fLen := cLenQ.or cLenS
theorem cInt : CallP X (.type "int") fInt := by
  refine ⟨_, call_int1, callM1 fun ρ S H v x Q R r a => ?_⟩
  cases v with
  | int i => cases r; exact .inl ⟨i, rfl, a ρ H _ R.refl R rfl⟩
  | bl i => cases r; exact .inr ⟨i, rfl, a ρ H _ R.refl R rfl⟩
  | _ => exact a.elim
theorem cAbs : CallP X (.builtin "abs") fAbs := by
  refine ⟨_, call_abs, callM1 fun ρ S H v x Q R r a => ?_⟩
  cases v with
  | int i => cases r; exact ⟨i, rfl, a ρ H _ R.refl R rfl⟩
  | _ => exact a.elim
theorem cMax2 (hc : X.calm = true) : CallP X (.builtin "max") fMax2 := by
  refine ⟨_, call_max2 hc, callM2 fun ρ S H v w x y Q R r r' a => ?_⟩
  cases v with
  | int i =>
    cases w with
    | int j => cases r; cases r'; exact ⟨i, j, rfl, a ρ H _ R.refl R rfl⟩
    | _ => exact a.elim
  | _ => exact a.elim
theorem cMin2 (hc : X.calm = true) : CallP X (.builtin "min") fMin2 := by
  refine ⟨_, call_min2 hc, callM2 fun ρ S H v w x y Q R r r' a => ?_⟩
  cases v with
  | int i =>
    cases w with
    | int j => cases r; cases r'; exact ⟨i, j, rfl, a ρ H _ R.refl R rfl⟩
    | _ => exact a.elim
  | _ => exact a.elim
theorem lints_of {K : KX} {ρ : List Addr} {S : Sto} {H : Hp} {v : Va} {x : V} {ns : List Int} (R : RS K ρ S H) (r : Rv K ρ H v x) (e : (lstOf S v).bind intsOf = some ns) : ∃ a, x = .ref a ∧ SqL K.K H a (ns.map V.int) := by
  cases q : lstOf S v with
  | none => rw [q] at e; cases e
  | some xs =>
    rw [q] at e
    obtain ⟨a, ws, rfl, h1, h2⟩ := lst_of R r q
    exact ⟨a, rfl, by rw [← ints_of h2 e]; exact h1⟩
theorem lbools_of {K : KX} {ρ : List Addr} {S : Sto} {H : Hp} {v : Va} {x : V} {ns : List Bool} (R : RS K ρ S H) (r : Rv K ρ H v x) (e : (lstOf S v).bind boolsOf = some ns) : ∃ a, x = .ref a ∧ SqL K.K H a (ns.map V.bl) := by
  cases q : lstOf S v with
  | none => rw [q] at e; cases e
  | some xs =>
    rw [q] at e
    obtain ⟨a, ws, rfl, h1, h2⟩ := lst_of R r q
    exact ⟨a, rfl, by rw [← bools_of h2 e]; exact h1⟩
theorem cSum (hc : X.calm = true) : CallP X (.builtin "sum") fSum := by
  refine ⟨_, cr_sum hc, callM1 fun ρ S H v x Q R r a => ?_⟩
  cases e : (lstOf S v).bind intsOf with
  | none => simp only [e] at a; exact a.elim
  | some ns =>
    simp only [e] at a
    obtain ⟨p, rfl, h⟩ := lints_of R r e
    exact ⟨p, ns, rfl, h, a ρ H _ R.refl R rfl⟩
theorem cMaxL (hc : X.calm = true) : CallP X (.builtin "max") fMaxL := by
  refine ⟨_, cr_max hc, callM1 fun ρ S H v x Q R r a => ?_⟩
  cases e : (lstOf S v).bind intsOf with
  | none => simp only [e] at a; exact a.elim
  | some ns =>
    cases ns with
    | nil => simp only [e] at a; exact a.elim
    | cons n ns =>
      simp only [e] at a
      obtain ⟨p, rfl, h⟩ := lints_of R r e
      refine ⟨p, n :: ns, rfl, h, by simp, fun m h1 h2 => ?_⟩
      have e1 := maxL_ge h1
      have e2 := h2 _ (maxL_mem (ns := n :: ns) (by simp))
      have e3 : m = maxL (n :: ns) := by omega
      rw [e3]
      exact a ρ H _ R.refl R rfl
theorem cMinL (hc : X.calm = true) : CallP X (.builtin "min") fMinL := by
  refine ⟨_, cr_min hc, callM1 fun ρ S H v x Q R r a => ?_⟩
  cases e : (lstOf S v).bind intsOf with
  | none => simp only [e] at a; exact a.elim
  | some ns =>
    cases ns with
    | nil => simp only [e] at a; exact a.elim
    | cons n ns =>
      simp only [e] at a
      obtain ⟨p, rfl, h⟩ := lints_of R r e
      refine ⟨p, n :: ns, rfl, h, by simp, fun m h1 h2 => ?_⟩
      have e1 := minL_le h1
      have e2 := h2 _ (minL_mem (ns := n :: ns) (by simp))
      have e3 : m = minL (n :: ns) := by omega
      rw [e3]
      exact a ρ H _ R.refl R rfl
def fMax : FL := orFL fMax2 fMaxL
def fMin : FL := orFL fMin2 fMinL
theorem cMax (hc : X.calm = true) : CallP X (.builtin "max") fMax := (cMax2 hc).or (cMaxL hc)
theorem cMin (hc : X.calm = true) : CallP X (.builtin "min") fMin := (cMin2 hc).or (cMinL hc)
theorem cAll (hc : X.calm = true) : CallP X (.builtin "all") fAll := by
  refine ⟨_, cr_all hc, callM1 fun ρ S H v x Q R r a => ?_⟩
  cases e : (lstOf S v).bind boolsOf with
  | none => simp only [e] at a; exact a.elim
  | some ns =>
    simp only [e] at a
    obtain ⟨p, rfl, h⟩ := lbools_of R r e
    exact ⟨p, ns, rfl, h, a ρ H _ R.refl R rfl⟩
theorem cAny (hc : X.calm = true) : CallP X (.builtin "any") fAny := by
  refine ⟨_, cr_any hc, callM1 fun ρ S H v x Q R r a => ?_⟩
  cases e : (lstOf S v).bind boolsOf with
  | none => simp only [e] at a; exact a.elim
  | some ns =>
    simp only [e] at a
    obtain ⟨p, rfl, h⟩ := lbools_of R r e
    exact ⟨p, ns, rfl, h, a ρ H _ R.refl R rfl⟩
theorem cList : CallP X (.type "list") fList := by
  refine ⟨_, call_list_of, callM1 fun ρ S H v x Q R r a => ?_⟩
  cases e : seqOf S v with
  | none => simp only [e] at a; exact a.elim
  | some xs =>
    simp only [e] at a
    obtain ⟨p, ws, rfl, h1, h2⟩ := seq_of R r e
    exact ⟨p, ws, rfl, h1, (mkL_ans R a h2).2⟩
theorem cTup : CallP X (.type "tuple") tupL := by
  refine ⟨_, call_tuple_of, callM1 fun ρ S H v x Q R r a => ?_⟩
  have lst : ∀ xs, lstOf S v = some xs → Ans (kxOf X) Q ρ H (some (.tup xs, S)) → ∃ p ys, [x] = [V.ref p] ∧ ((SqL X.K H p ys ∧ ∀ l, H l = none → Q (.ref l) (upd H l (.tup ys))) ∨ (SqT X.K H p ys ∧ Q (.ref p) H)) := fun xs e a => by
    obtain ⟨p, ws, rfl, h1, h2⟩ := lst_of R r e
    refine ⟨p, ws, rfl, .inl ⟨h1, fun l hl => ?_⟩⟩
    obtain ⟨E, R2⟩ := R.own (o := .tup ws) hl
    exact a ρ _ _ E R2 ⟨l, ws, rfl, SqT.of upd_same, h2.ext E⟩
  cases v with
  | tup xs =>
    obtain ⟨p, ws, rfl, h1, h2⟩ := r
    exact ⟨p, ws, rfl, .inr ⟨h1, a ρ H _ R.refl R ⟨p, ws, rfl, h1, h2⟩⟩⟩
  | ref n =>
    have a : Ans (kxOf X) Q ρ H (match lstOf S (.ref n) with
      | some xs => some (.tup xs, S)
      | none => none) := a
    cases e : lstOf S (.ref n) with
    | none => rw [e] at a; exact a.elim
    | some xs => rw [e] at a; exact lst xs e a
  | rol xs => exact lst xs rfl a
  | _ => exact a.elim
theorem tyx_of {K : KX} {ρ : List Addr} {S : Sto} {H : Hp} {v : Va} {x : V} {k : String} (R : RS K ρ S H) (r : Rv K ρ H v x) (e : kindV S v = some k) : TyX K.K H x (.type k) := by
  cases v with
  | non => cases r; cases e; exact .base .non
  | bl b => cases r; cases e; exact .base (.bl b)
  | int i => cases r; cases e; exact .base (.int i)
  | str z => cases r; cases e; exact .base (.str z)
  | adr a => cases e
  | ty a => cases e
  | exc _ _ _ _ => cases e
  | tup xs =>
    cases e
    obtain ⟨p, ws, rfl, h1, _⟩ := r
    rcases h1 with (h | ⟨o, h⟩) | ⟨o, its, n, h1, h2, _⟩
    · exact .base (.tup h)
    · exact .fTuple h
    · exact .kTuple h1 h2
  | rol xs =>
    cases e
    obtain ⟨p, ws, rfl, h1, _⟩ := r
    rcases h1 with ⟨o, h⟩ | ⟨o, its, n, h1, h2, _⟩
    · exact .base (.frz h)
    · exact .kList h1 h2
  | ref n =>
    obtain ⟨p, h1, rfl⟩ := r
    have e : (match S[n]? with
      | some (.lst _) => some "list"
      | _ => none) = some k := e
    cases q : S[n]? with
    | none => rw [q] at e; cases e
    | some o =>
      rw [q] at e
      cases o with
      | setT ks => cases e
      | raw o => cases e
      | tbl _ => cases e
      | dct _ => cases e
      | lst xs =>
        cases e
        obtain ⟨_, ws, h2, _⟩ := R.at_ n p _ h1 q
        exact .base (.lst h2)
theorem cIsi : CallP X (.builtin "isinstance") fIsi := by
  refine ⟨_, call_isi, callM2 fun ρ S H v w x y Q R r r' a => ?_⟩
  cases e : kindV S v with
  | none => simp only [e] at a; exact a.elim
  | some k =>
    simp only [e] at a
    cases w with
    | ty T =>
      cases r'
      simp only at a
      cases e2 : kitB k T with
      | none => rw [e2] at a; exact a.elim
      | some b =>
        rw [e2] at a
        exact ⟨x, .ty T, .type k, .type T, b, rfl, .ty T, tyx_of R r e, kit_ty e2, a ρ H _ R.refl R rfl⟩
    | _ => exact a.elim
end
end PM

namespace PM
open PySem PySem.Spec PyProof.Rows L2 Q2
/-! ### what is walked -/
def iAny (K : PySem.W.Frag) (tl : TE) : TI := fun σ H R => tl σ H fun x H1 => ∃ a, x = .ref a ∧ (((∃ xs, SqL K H1 a xs) ∧ R (Itl K a) H1) ∨ ((∃ xs, SqT K H1 a xs) ∧ R (Itt K a) H1))
theorem pi_any {X : Cx} {tg l : Expr} {tl : TE} (hl : PE X l tl) : PI X tg l (iAny X.K tl) := by
  refine ⟨fun pins s σ H R I h => ?_⟩
  refine thn (hl.run pins s σ H _ I h) fun v s1 ⟨x, H1, I1, r1, q1⟩ => ?_
  obtain ⟨a, rfl, q⟩ := q1
  cases r1
  rcases q with ⟨⟨xs, hq⟩, q⟩ | ⟨⟨xs, hq⟩, q⟩
  · obtain ⟨its, rv, p, hz⟩ := I1.list hq
    refine wpAny_pyIter_list p.isList ?_
    refine ⟨s1.heap.objs.size, [s1.heap.objs.size], _, _, H1, rfl, I1.kept (t' := s1.toks) fun b o e => Heap.get?_push_of_some _ e, turn_list a _, ⟨_, Heap.get?_push_size _ rfl, rfl, rfl⟩, fun b hb => ?_, q⟩
    have e : b = s1.heap.objs.size := by simpa using hb
    subst e
    exact I1.fpOk (Nat.le_refl _) (I1.hok.fresh (Nat.le_refl _))
  · obtain ⟨its, rv, p, hz⟩ := I1.tuple hq
    refine wpAny_pyIter_tuple (show s1.heap.IsTuple a its.toArray from p) ?_
    refine ⟨s1.heap.objs.size, [s1.heap.objs.size], _, _, H1, rfl, I1.kept (t' := s1.toks) fun b o e => Heap.get?_push_of_some _ e, turn_tuple a _, ⟨_, Heap.get?_push_size _ rfl, rfl, rfl⟩, fun b hb => ?_, q⟩
    have e : b = s1.heap.objs.size := by simpa using hb
    subst e
    exact I1.fpOk (Nat.le_refl _) (I1.hok.fresh (Nat.le_refl _))
section
variable {K : KX} {ρ : List Addr} {S : Sto} {H : Hp}
theorem get_none {xs : List Va} {ws : List V} (h : Rvs K ρ H xs ws) {i : Nat} (e : xs[i]? = none) : ws.length ≤ i := by
  rw [← h.len]
  exact List.getElem?_eq_none_iff.mp e
theorem it_list {n : Nat} {a : Addr} (ha : ρ[n]? = some a) : ItOk K ρ H (.ref n) (Itl K.K a) := fun ρ' S' H' E R i => by
  have ha' := E.get ha
  cases e : S'[n]? with
  | none => simp only [ItV.get, e]
  | some o =>
    cases o with
    | raw o => simp only [ItV.get, e]
    | tbl _ => simp only [ItV.get, e]
    | dct _ => simp only [ItV.get, e]
    | setT o => simp only [ItV.get, e]
    | lst xs =>
      obtain ⟨_, ws, h1, h2⟩ := R.at_ n a _ ha' e
      cases ex : xs[i]? with
      | none => simp only [ItV.get, e, ex]; exact ⟨ws, SqL.of h1, get_none h2 ex⟩
      | some x =>
        obtain ⟨w, h3, h4⟩ := h2.get ex
        simp only [ItV.get, e, ex]
        refine ⟨⟨ws, w, SqL.of h1, h3⟩, fun y H'' hy => ?_⟩
        obtain ⟨rfl, hy⟩ := hy
        cases h3.symm.trans (hy ws (SqL.of h1))
        exact ⟨R.refl, R, h4⟩
theorem it_tup {xs : List Va} {a : Addr} {ws : List V} (ha : SqT K.K H a ws) (hx : Rvs K ρ H xs ws) : ItOk K ρ H (.itm xs) (Itt K.K a) := fun ρ' S' H' E R i => by
  have ha' := E.sqt ha
  have hx' := hx.ext E
  cases ex : xs[i]? with
  | none => simp only [ItV.get, ex]; exact ⟨ws, ha', get_none hx' ex⟩
  | some x =>
    obtain ⟨w, h3, h4⟩ := hx'.get ex
    simp only [ItV.get, ex]
    refine ⟨⟨ws, w, ha', h3⟩, fun y H'' hy => ?_⟩
    obtain ⟨rfl, hy⟩ := hy
    cases h3.symm.trans (hy ws ha')
    exact ⟨R.refl, R, h4⟩
theorem it_rol {xs : List Va} {a : Addr} {ws : List V} (ha : FzL K.K H a ws) (hx : Rvs K ρ H xs ws) : ItOk K ρ H (.itm xs) (Itl K.K a) := fun ρ' S' H' E R i => by
  have ha' := (E.fzl ha).sq
  have hx' := hx.ext E
  cases ex : xs[i]? with
  | none => simp only [ItV.get, ex]; exact ⟨ws, ha', get_none hx' ex⟩
  | some x =>
    obtain ⟨w, h3, h4⟩ := hx'.get ex
    simp only [ItV.get, ex]
    refine ⟨⟨ws, w, ha', h3⟩, fun y H'' hy => ?_⟩
    obtain ⟨rfl, hy⟩ := hy
    cases h3.symm.trans (hy ws ha')
    exact ⟨R.refl, R, h4⟩
theorem it_rng {lo c : Int} {n : Nat} : ItOk K ρ H (.rng lo c n) (Itc lo c n) := fun ρ' S' H' E R i => by
  by_cases h : i < n
  · simp only [ItV.get, if_pos h]
    refine ⟨h, fun y H'' hy => ?_⟩
    obtain ⟨rfl, rfl⟩ := hy
    exact ⟨R.refl, R, rfl⟩
  · simp only [ItV.get, if_neg h]
    exact Nat.le_of_not_lt h
theorem it_rng1 {lo : Int} {n : Nat} : ItOk K ρ H (.rng lo 1 n) (Itr lo n) := fun ρ' S' H' E R i => by
  by_cases h : i < n
  · simp only [ItV.get, if_pos h]
    refine ⟨h, fun y H'' hy => ?_⟩
    obtain ⟨rfl, rfl⟩ := hy
    exact ⟨R.refl, R, by show V.int (lo + (i : Int)) = V.int (lo + (i : Nat) * 1); rw [Int.mul_one]⟩
  · simp only [ItV.get, if_neg h]
    exact Nat.le_of_not_lt h
/-- a new pair -/
theorem pair_new {i : Nat} {x : Va} {w : V} (R : RS K ρ S H) (hx : Rv K ρ H x w) {T : Addr} (hT : H T = none) : Ext ρ ρ H (upd H T (.tup [.int (i : Nat), w])) ∧ RS K ρ S (upd H T (.tup [.int (i : Nat), w])) ∧ Rv K ρ (upd H T (.tup [.int (i : Nat), w])) (pairE i x) (.ref T) := by
  obtain ⟨E, R2⟩ := R.own (o := .tup [.int (i : Nat), w]) hT
  exact ⟨E, R2, T, _, rfl, SqT.of upd_same, Rvs.cons (x := .int (i : Nat)) rfl (Rvs.cons (hx.ext E) Rvs.nil)⟩
theorem it_enm {n : Nat} {a : Addr} (ha : ρ[n]? = some a) : ItOk K ρ H (.enm n) (Ite K.K a) := fun ρ' S' H' E R i => by
  have ha' := E.get ha
  cases e : S'[n]? with
  | none => simp only [ItV.get, e]
  | some o =>
    cases o with
    | raw o => simp only [ItV.get, e]
    | tbl _ => simp only [ItV.get, e]
    | dct _ => simp only [ItV.get, e]
    | setT o => simp only [ItV.get, e]
    | lst xs =>
      obtain ⟨_, ws, h1, h2⟩ := R.at_ n a _ ha' e
      cases ex : xs[i]? with
      | none => simp only [ItV.get, e, ex, Option.map_none]; exact ⟨ws, SqL.of h1, get_none h2 ex⟩
      | some x =>
        obtain ⟨w, h3, h4⟩ := h2.get ex
        simp only [ItV.get, e, ex, Option.map_some]
        refine ⟨⟨ws, w, SqL.of h1, h3⟩, fun y H'' hy => ?_⟩
        obtain ⟨T, z, rfl, hT, rfl, hy⟩ := hy
        cases h3.symm.trans (hy ws (SqL.of h1))
        exact pair_new R h4 hT
theorem it_enmI {xs : List Va} {a : Addr} {ws : List V} (ha : SqT K.K H a ws) (hx : Rvs K ρ H xs ws) : ItOk K ρ H (.enmI xs) (ItET K.K a) := fun ρ' S' H' E R i => by
  have ha' := E.sqt ha
  have hx' := hx.ext E
  cases ex : xs[i]? with
  | none => simp only [ItV.get, ex, Option.map_none]; exact ⟨ws, ha', get_none hx' ex⟩
  | some x =>
    obtain ⟨w, h3, h4⟩ := hx'.get ex
    simp only [ItV.get, ex, Option.map_some]
    refine ⟨⟨ws, w, ha', h3⟩, fun y H'' hy => ?_⟩
    obtain ⟨T, z, rfl, hT, rfl, hy⟩ := hy
    cases h3.symm.trans (hy ws ha')
    exact pair_new R h4 hT
theorem it_enmR {xs : List Va} {a : Addr} {ws : List V} (ha : FzL K.K H a ws) (hx : Rvs K ρ H xs ws) : ItOk K ρ H (.enmI xs) (Ite K.K a) := fun ρ' S' H' E R i => by
  have ha' := (E.fzl ha).sq
  have hx' := hx.ext E
  cases ex : xs[i]? with
  | none => simp only [ItV.get, ex, Option.map_none]; exact ⟨ws, ha', get_none hx' ex⟩
  | some x =>
    obtain ⟨w, h3, h4⟩ := hx'.get ex
    simp only [ItV.get, ex, Option.map_some]
    refine ⟨⟨ws, w, ha', h3⟩, fun y H'' hy => ?_⟩
    obtain ⟨T, z, rfl, hT, rfl, hy⟩ := hy
    cases h3.symm.trans (hy ws ha')
    exact pair_new R h4 hT
end
/-- a list or a tuple is walked -/
def mWalk (m : ME) : MI := fun Γ S => (m Γ S).bind fun v S1 => match v with
  | .ref n => match S1[n]? with
    | some (.lst _) => .ok (.ref n) S1
    | _ => .bad
  | .tup xs => .ok (.itm xs) S1
  | .rol xs => .ok (.itm xs) S1
  | _ => .bad
def mEnum (t : MA) : MI := fun Γ S => (t Γ S).bind fun vs S1 => match vs with
  | [.ref n] => match S1[n]? with
    | some (.lst _) => .ok (.enm n) S1
    | _ => .bad
  | [.tup xs] => .ok (.enmI xs) S1
  | [.rol xs] => .ok (.enmI xs) S1
  | _ => .bad
@[irreducible] def rngOk (i j : Int) : Bool := decide (-(2 ^ 62) ≤ i ∧ i < 2 ^ 62 ∧ -(2 ^ 62) ≤ j ∧ j < 2 ^ 62)
def mRng1 (t : MA) : MI := fun Γ S => (t Γ S).bind fun vs S1 => match vs with
  | [.int j] => if rngOk 0 j = true then .ok (.rng 0 1 j.toNat) S1 else .bad
  | _ => .bad
def mRng2 (t : MA) : MI := fun Γ S => (t Γ S).bind fun vs S1 => match vs with
  | [.int i, .int j] => if rngOk i j = true then .ok (.rng i 1 (j - i).toNat) S1 else .bad
  | _ => .bad
def mRev1 (m : ME) : MI := fun Γ S => (m Γ S).bind fun v S1 => match v with
  | .int j => if rngOk 0 j = true then .ok (.rng (j.toNat - 1 : Int) (-1) j.toNat) S1 else .bad
  | _ => .bad
section
variable {X : Cx} {W : XW} {tg e : Expr} {m : ME} {t : MA} {p pos : Pos}
theorem pmi_any (h : PM X W e m) : PMI X W tg e (mWalk m) := by
  refine pi_imp (pi_any h) fun σ H R' ⟨ρ, Γ, S, R, G, q⟩ => ?_
  refine ⟨ρ, Γ, S, R, G, q.bind fun v S1 ρ1 H1 x E1 R1 rx q1 => ?_⟩
  cases v with
  | ref n =>
    obtain ⟨a, ha, rfl⟩ := rx
    refine ⟨a, rfl, ?_⟩
    cases e : S1[n]? with
    | none => simp only [e] at q1; exact q1.elim
    | some o =>
      cases o with
      | lst xs =>
        simp only [e] at q1
        obtain ⟨_, ws, h1, _⟩ := R1.at_ n a _ ha e
        exact .inl ⟨⟨ws, SqL.of h1⟩, q1 ρ1 H1 _ R1.refl R1 (it_list ha)⟩
      | setT o => simp only [e] at q1; exact q1.elim
      | raw o => simp only [e] at q1; exact q1.elim
      | tbl _ => simp only [e] at q1; exact q1.elim
      | dct _ => simp only [e] at q1; exact q1.elim
  | tup xs =>
    obtain ⟨a, ws, rfl, h1, h2⟩ := rx
    exact ⟨a, rfl, .inr ⟨⟨ws, h1⟩, q1 ρ1 H1 _ R1.refl R1 (it_tup h1 h2)⟩⟩
  | rol xs =>
    obtain ⟨a, ws, rfl, h1, h2⟩ := rx
    exact ⟨a, rfl, .inl ⟨⟨ws, h1.sq⟩, q1 ρ1 H1 _ R1.refl R1 (it_rol h1 h2)⟩⟩
  | _ => exact q1.elim
theorem pmi_enum {elts : List Expr} {kk : Nat} {tpos : Pos} (hg : Gl X "enumerate") (hm : X.mg "enumerate" = none) (h : PMA X W [e] t) (hs : starEach [e] X.env = [(false, eval e X.env)] := by rfl) :
    PMI X W (.Tuple elts kk tpos) (.Call (.Name "enumerate" p) [e] [] pos) (mEnum t) := by
  refine pi_imp (pi_enumA hg hm h hs) fun σ H R' ⟨ρ, Γ, S, R, G, q⟩ => ?_
  refine ⟨ρ, Γ, S, R, G, q.bind fun vs S1 ρ1 H1 xs E1 R1 rx q1 => ?_⟩
  cases vs with
  | nil => exact q1.elim
  | cons v vs =>
    cases vs with
    | cons u us => exact (by cases v <;> exact q1.elim)
    | nil =>
      obtain ⟨x, rfl, r1⟩ := one_of rx rfl
      cases v with
      | ref n =>
        obtain ⟨a, ha, rfl⟩ := r1
        cases e : S1[n]? with
        | none => simp only [e] at q1; exact q1.elim
        | some o =>
          cases o with
          | lst xs =>
            simp only [e] at q1
            obtain ⟨_, ws, h1, _⟩ := R1.at_ n a _ ha e
            exact ⟨a, ws, _, rfl, .inl ⟨SqL.of h1, rfl⟩, q1 ρ1 H1 _ R1.refl R1 (it_enm ha)⟩
          | setT o => simp only [e] at q1; exact q1.elim
          | raw o => simp only [e] at q1; exact q1.elim
          | tbl _ => simp only [e] at q1; exact q1.elim
          | dct _ => simp only [e] at q1; exact q1.elim
      | tup xs =>
        obtain ⟨a, ws, rfl, h1, h2⟩ := r1
        exact ⟨a, ws, _, rfl, .inr ⟨h1, rfl⟩, q1 ρ1 H1 _ R1.refl R1 (it_enmI h1 h2)⟩
      | rol xs =>
        obtain ⟨a, ws, rfl, h1, h2⟩ := r1
        exact ⟨a, ws, _, rfl, .inl ⟨h1.sq, rfl⟩, q1 ρ1 H1 _ R1.refl R1 (it_enmR h1 h2)⟩
      | _ => exact q1.elim
theorem rng_of {i j : Int} (h : rngOk i j = true) : -(2 ^ 62) ≤ i ∧ i < 2 ^ 62 ∧ -(2 ^ 62) ≤ j ∧ j < 2 ^ 62 := by unfold rngOk at h; exact of_decide_eq_true h
theorem pmi_range1 (hg : Gl X "range") (hm : X.mg "range" = none) (h : PMA X W [e] t) (hs : starEach [e] X.env = [(false, eval e X.env)] := by rfl) : PMI X W tg (.Call (.Name "range" p) [e] [] pos) (mRng1 t) := by
  refine pi_imp (pi_range1 hg hm h hs) fun σ H R' ⟨ρ, Γ, S, R, G, q⟩ => ?_
  refine ⟨ρ, Γ, S, R, G, q.bind fun vs S1 ρ1 H1 xs E1 R1 rx q1 => ?_⟩
  cases vs with
  | nil => exact q1.elim
  | cons v vs =>
    cases vs with
    | cons u us => exact (by cases v <;> exact q1.elim)
    | nil =>
      obtain ⟨x, rfl, r1⟩ := one_of rx rfl
      cases v with
      | int j =>
        cases r1
        by_cases c : rngOk 0 j = true
        · simp only [if_pos c] at q1
          have := rng_of c
          exact ⟨j, rfl, this.2.2.1, this.2.2.2, q1 ρ1 H1 _ R1.refl R1 it_rng1⟩
        · simp only [if_neg c] at q1
          exact q1.elim
      | _ => exact q1.elim
theorem pmi_range2 {e2 : Expr} (hg : Gl X "range") (hm : X.mg "range" = none) (h : PMA X W [e, e2] t) (hs : starEach [e, e2] X.env = [(false, eval e X.env), (false, eval e2 X.env)] := by rfl) (hs2 : starEach [e2] X.env = [(false, eval e2 X.env)] := by rfl) : PMI X W tg (.Call (.Name "range" p) [e, e2] [] pos) (mRng2 t) := by
  refine pi_imp (pi_range2 hg hm h hs hs2) fun σ H R' ⟨ρ, Γ, S, R, G, q⟩ => ?_
  refine ⟨ρ, Γ, S, R, G, q.bind fun vs S1 ρ1 H1 xs E1 R1 rx q1 => ?_⟩
  have bad : ∀ {r : Res ItV}, Aft (kxOf X) W σ (ItOk (kxOf X)) R' ρ1 H1 r → r = .bad → False := fun h e => by rw [e] at h; exact h
  match vs, rx, q1 with
  | [.int i, .int j], rx, q1 =>
    obtain ⟨x, y, rfl, r1, r2⟩ := two_of rx rfl
    cases r1
    cases r2
    by_cases c : rngOk i j = true
    · simp only [if_pos c] at q1
      exact ⟨i, j, rfl, rng_of c, q1 ρ1 H1 _ R1.refl R1 it_rng1⟩
    · simp only [if_neg c] at q1
      exact q1.elim
  | [], _, q1 => exact q1.elim
  | [v], _, q1 => exact (bad q1 (by cases v <;> rfl)).elim
  | v :: w :: u :: r, _, q1 => exact (bad q1 (by cases v <;> first | rfl | (cases w <;> rfl))).elim
  | [.non, w], _, q1 => exact q1.elim
  | [.bl _, w], _, q1 => exact q1.elim
  | [.str _, w], _, q1 => exact q1.elim
  | [.tup _, w], _, q1 => exact q1.elim
  | [.rol _, w], _, q1 => exact q1.elim
  | [.ref _, w], _, q1 => exact q1.elim
  | [.adr _, w], _, q1 => exact q1.elim
  | [.exc _ _ _ _, w], _, q1 => exact q1.elim
  | [.ty _, w], _, q1 => exact q1.elim
  | [.int i, .non], _, q1 => exact q1.elim
  | [.int i, .bl _], _, q1 => exact q1.elim
  | [.int i, .str _], _, q1 => exact q1.elim
  | [.int i, .tup _], _, q1 => exact q1.elim
  | [.int i, .rol _], _, q1 => exact q1.elim
  | [.int i, .ref _], _, q1 => exact q1.elim
  | [.int i, .adr _], _, q1 => exact q1.elim
  | [.int i, .exc _ _ _ _], _, q1 => exact q1.elim
  | [.int i, .ty _], _, q1 => exact q1.elim
theorem pmi_rev1 {p2 pos2 : Pos} (hg : Gl X "reversed") (hm : X.mg "reversed" = none) (hg2 : Gl X "range") (hm2 : X.mg "range" = none) (h : PM X W e m) (na : starEach [e] X.env = (false, eval e X.env) :: starEach [] X.env := by rfl) (hs : starEach [Expr.Call (.Name "range" p2) [e] [] pos2] X.env = (false, eval (Expr.Call (.Name "range" p2) [e] [] pos2) X.env) :: starEach [] X.env := by rfl) :
    PMI X W tg (.Call (.Name "reversed" p) [.Call (.Name "range" p2) [e] [] pos2] [] pos) (mRev1 m) := by
  refine pi_imp (pi_revR hg hm (prg_1 hg2 hm2 h na) hs) fun σ H R' ⟨ρ, Γ, S, R, G, q⟩ => ?_
  refine ⟨ρ, Γ, S, R, G, q.bind fun v S1 ρ1 H1 x E1 R1 rx q1 => ?_⟩
  cases v with
  | int j =>
    cases rx
    by_cases c : rngOk 0 j = true
    · simp only [if_pos c] at q1
      have r := rng_of c
      refine ⟨j, rfl, r.1, r.2.1, r.2.2.1, r.2.2.2, ?_⟩
      have e1 : (0 : Int) + (((j - 0).toNat : Nat) : Int) - 1 = (j.toNat : Int) - 1 := by simp
      have e2 : (j - 0).toNat = j.toNat := by simp
      rw [e1, e2]
      exact q1 ρ1 H1 _ R1.refl R1 it_rng
    · simp only [if_neg c] at q1
      exact q1.elim
  | _ => exact q1.elim
/-! ### slices -/
def PMO (X : Cx) (W : XW) (e : Option Expr) (m : Option ME) : Prop := match e, m with
  | none, none => True
  | some e, some m => PM X W e m
  | _, _ => False
def mOpt (m : Option ME) : En → Sto → Res (Option Int) := fun Γ S => match m with
  | none => .ok none S
  | some m => (m Γ S).bind fun v S1 => match v with
    | .int i => .ok (some i) S1
    | _ => .bad
abbrev FS := Va → Option Int → Option Int → Sto → Option (Va × Sto)
def SlP (X : Cx) (f : FS) : Prop := ∃ r, SlR X r ∧ ∀ ρ S H v x lo hi Q, RS (kxOf X) ρ S H → Rv (kxOf X) ρ H v x → Ans (kxOf X) Q ρ H (f v lo hi S) → r x lo hi H Q
def mSl (f : FS) (a : ME) (lo hi : Option ME) : ME := fun Γ S => (a Γ S).bind fun v S1 => (mOpt lo Γ S1).bind fun l S2 => (mOpt hi Γ S2).bind fun u S3 => lift (f v l u S3)
theorem pm_slice {f : FS} {a : Expr} {ma : ME} {lo hi : Option Expr} {ml mh : Option ME} {p2 : Pos} (hf : SlP X f) (ha : PM X W a ma) (hl : PMO X W lo ml) (hh : PMO X W hi mh) : PM X W (.Subscript a (.Slice lo hi none p2) pos) (mSl f ma ml mh) := by
  obtain ⟨r, hr, hf⟩ := hf
  have po : ∀ (e : Option Expr) (m : Option ME), PMO X W e m → ∃ t : TO, PO X e t ∧ ∀ (σ : L2.St) (H : Hp) (Q : Option Int → Hp → Prop), (∃ ρ Γ S, RS (kxOf X) ρ S H ∧ RE (kxOf X) ρ H Γ σ ∧ Aft (kxOf X) W σ (fun _ _ (a b : Option Int) => b = a) Q ρ H (mOpt m Γ S)) → t σ H Q := fun e m h => by
    cases e with
    | none =>
      cases m with
      | none => exact ⟨_, po_none, fun σ H Q ⟨ρ, Γ, S, R, G, q⟩ => q ρ H none R.refl R rfl⟩
      | some m => exact h.elim
    | some e =>
      cases m with
      | none => exact h.elim
      | some m =>
        refine ⟨_, po_some (show PE X e _ from h), fun σ H Q ⟨ρ, Γ, S, R, G, q⟩ => ?_⟩
        refine ⟨ρ, Γ, S, R, G, (show Aft _ _ _ _ Q ρ H ((m Γ S).bind _) from q).bind fun v S1 ρ1 H1 x E1 R1 rx q1 => ?_⟩
        cases v with
        | int i => cases rx; exact ⟨i, rfl, q1 ρ1 H1 _ R1.refl R1 rfl⟩
        | _ => exact q1.elim
  obtain ⟨tl, hl1, hl2⟩ := po lo ml hl
  obtain ⟨th, hh1, hh2⟩ := po hi mh hh
  refine pe_imp (pe_slice hr ha hl1 hh1) fun σ H Q ⟨ρ, Γ, S, R, G, q⟩ => ?_
  refine ⟨ρ, Γ, S, R, G, q.bind fun v S1 ρ1 H1 x E1 R1 rx q1 => ?_⟩
  refine hl2 σ H1 _ ⟨ρ1, Γ, S1, R1, G.ext E1, q1.bind fun l S2 ρ2 H2 l' E2 R2 rl q2 => ?_⟩
  subst rl
  refine hh2 σ H2 _ ⟨ρ2, Γ, S2, R2, (G.ext E1).ext E2, q2.bind fun u S3 ρ3 H3 u' E3 R3 ru q3 => ?_⟩
  subst ru
  exact hf ρ3 S3 H3 v x l' u' Q R3 ((rx.ext E2).ext E3) q3.ans
def cutA (xs : List Va) (lo hi : Option Int) : List Va := (xs.drop (HT.sIx xs.length 0 lo)).take (HT.sIx xs.length xs.length hi - HT.sIx xs.length 0 lo)
theorem Rvs.cut {K : KX} {ρ : List Addr} {H : Hp} {xs : List Va} {ws : List V} (h : Rvs K ρ H xs ws) (lo hi : Option Int) : Rvs K ρ H (cutA xs lo hi) (cutV ws lo hi) := by
  unfold cutA cutV
  rw [← h.len]
  exact (h.drop _).take _
def slL : FS := fun v lo hi S => match lstOf S v with
  | some xs => mkL S (cutA xs lo hi)
  | none => none
def slT : FS := fun v lo hi S => match v with
  | .tup xs => if HT.sIx xs.length 0 lo = 0 ∧ HT.sIx xs.length xs.length hi = xs.length then none else some (.tup (cutA xs lo hi), S)
  | _ => none
def slS : FS := fun v lo hi S => match v with
  | .str z => if z.length ≤ sizeLine then some (.str (cutS z lo hi), S) else none
  | _ => none
def fSl : FS := fun v lo hi S => match slL v lo hi S with
  | some p => some p
  | none => match slT v lo hi S with
    | some p => some p
    | none => slS v lo hi S
theorem sSl : SlP X fSl := by
  refine ⟨fun x lo hi H Q => rSlL X.K x lo hi H Q ∨ rSlT X.K x lo hi H Q ∨ rSlS x lo hi H Q, ?_, fun ρ S H v x lo hi Q R rv a => ?_⟩
  · intro pins s σ H x v vl vu lo hi sl Q I rx hs pl pu h
    rcases h with h | h | h
    · exact sl_list pins s σ H x v vl vu lo hi sl Q I rx hs pl pu h
    · exact sl_tup pins s σ H x v vl vu lo hi sl Q I rx hs pl pu h
    · exact sl_str pins s σ H x v vl vu lo hi sl Q I rx hs pl pu h
  · unfold fSl at a
    cases e1 : slL v lo hi S with
    | some p =>
      rw [e1] at a
      have a : Ans (kxOf X) Q ρ H (slL v lo hi S) := by rw [e1]; exact a
      unfold slL at a
      cases e : lstOf S v with
      | none => rw [e] at a; exact a.elim
      | some xs =>
        rw [e] at a
        obtain ⟨p, ws, rfl, h1, h2⟩ := lst_of R rv e
        exact .inl ⟨p, ws, rfl, h1, (mkL_ans R a (h2.cut lo hi)).2⟩
    | none =>
      rw [e1] at a
      simp only at a
      cases e2 : slT v lo hi S with
      | some p =>
        rw [e2] at a
        have a : Ans (kxOf X) Q ρ H (slT v lo hi S) := by rw [e2]; exact a
        cases v with
        | tup xs =>
          obtain ⟨b, ws, rfl, h1, h2⟩ := rv
          unfold slT at a
          simp only at a
          by_cases c : HT.sIx xs.length 0 lo = 0 ∧ HT.sIx xs.length xs.length hi = xs.length
          · rw [if_pos c] at a; exact a.elim
          · rw [if_neg c] at a
            refine .inr (.inl ⟨b, ws, rfl, h1, by rw [← h2.len]; exact c, fun q hq => ?_⟩)
            obtain ⟨E, R2⟩ := R.own (o := .tup (cutV ws lo hi)) hq
            exact a ρ _ _ E R2 ⟨q, _, rfl, SqT.of upd_same, (h2.cut lo hi).ext E⟩
        | _ => exact a.elim
      | none =>
        rw [e2] at a
        simp only at a
        cases v with
        | str z =>
          cases rv
          obtain ⟨hl, a⟩ := ans_if (p := z.length ≤ sizeLine) (o := some (Va.str (cutS z lo hi), S)) a
          exact .inr (.inr ⟨z, rfl, hl, a ρ H _ R.refl R rfl⟩)
        | _ => exact a.elim
/-! ### xs[i] = e -/
def gSubM (o i : ME) : MG := fun v Γ S => (o Γ S).bind fun ov S1 => (i Γ S1).bind fun iv S2 => match ov, iv with
  | .ref n, .int k => match S2[n]? with
    | some (.lst xs) => match ixN xs.length k with
      | some j => .ok Γ (S2.set n (.lst (xs.set j v)))
      | none => .bad
    | _ => .bad
  | _, _ => .bad
theorem pmg_sub {o i : Expr} {mo mi : ME} (ho : PM X W o mo) (hi : PM X W i mi)
    (ha : ∀ v, assign (.Subscript o i pos) X.env v = (do
      let ov ← holding [v] (eval o X.env)
      let iv ← holding [v, ov] (eval i X.env)
      standAt pos
      holding [v, ov, iv] (setItem ov iv v)
      release [v, ov, iv] []) := by intro _; rfl) : PMG X W [] (.Subscript o i pos) (gSubM mo mi) := by
  refine pg_imp (pg_sub ho hi set_list ha) fun w σ H Q ⟨ρ, Γ, S, v, R, G, r, q⟩ => ?_
  refine ⟨ρ, Γ, S, R, G, q.bind fun ov S1 ρ1 H1 x E1 R1 rx q1 => ?_⟩
  refine ⟨ρ1, Γ, S1, R1, G.ext E1, q1.bind fun iv S2 ρ2 H2 y E2 R2 ry q2 => ?_⟩
  cases ov with
  | ref n =>
    cases iv with
    | int k =>
      obtain ⟨a, ha, rfl⟩ := rx.ext E2
      cases ry
      cases e : S2[n]? with
      | none => simp only [e] at q2; exact q2.elim
      | some ob =>
        cases ob with
        | setT _ => simp only [e] at q2; exact q2.elim
        | raw _ => simp only [e] at q2; exact q2.elim
        | tbl _ => simp only [e] at q2; exact q2.elim
        | dct _ => simp only [e] at q2; exact q2.elim
        | lst xs =>
          simp only [e] at q2
          obtain ⟨hl, ws, h1, h2⟩ := R2.at_ n a _ ha e
          cases ej : ixN xs.length k with
          | none => simp only [ej] at q2; exact q2.elim
          | some j =>
            simp only [ej] at q2
            refine ⟨a, ws, k, j, rfl, rfl, h1, by rw [← h2.len]; exact ej, ?_⟩
            obtain ⟨E3, R3⟩ := R2.put ha e (by rw [List.length_set]; exact hl) (h2.set j ((r.ext E1).ext E2))
            exact q2 ρ2 _ σ E3 R3 ⟨((G.ext E1).ext E2).ext E3, Agr.refl _ _⟩
    | _ => exact q2.elim
  | _ => exact q2.elim
/-! ### xs.append(e), xs.extend(ys), xs.pop() -/
def mApp (o : ME) (t : MA) : ME := fun Γ S => (o Γ S).bind fun ov S1 => match ov with
  | .ref n => match S1[n]? with
    | some (.lst _) => (t Γ S1).bind fun vs S2 => match vs, S2[n]? with
      | [v], some (.lst xs) => if xs.length < sizeLine then .ok .non (S2.set n (.lst (xs ++ [v]))) else .bad
      | _, _ => .bad
    | _ => .bad
  | _ => .bad
theorem pm_append {o : Expr} {es : List Expr} {mo : ME} {apos cpos : Pos} (ho : PM X W o mo) (ht : PMA X W (e :: es) t)
    (hbase : attributeBase o "append" X.env (eval o X.env) = eval o X.env := by rfl)
    (hfew : ((backTo cpos (starEach (e :: es) X.env)).all (fun x => !x.1) && (backToKw cpos (keywordEach [] X.env)).all (fun x => x.1.isSome)
      && decide ((e :: es).length + ([] : List Keyword).length + (if ([] : List Keyword).isEmpty then 0 else 1) < 30)) = true := by rfl)
    (hline : (apos.endLine == cpos.line) = true := by rfl) (hs : starEach (e :: es) X.env = (false, eval e X.env) :: starEach es X.env := by rfl) (hplain : (backTo cpos (starEach es X.env)).any (·.1) = false := by rfl) :
    PM X W (.Call (.Attribute o "append" apos) (e :: es) [] cpos) (mApp mo t) := by
  refine pe_imp (pe_bm PySem.F.plainAttrs_list PySem.F.slot_list_append PySem.F.type_list_append mt_append ho ht hbase hfew hline hs hplain) fun σ H Q ⟨ρ, Γ, S, R, G, q⟩ => ?_
  refine ⟨ρ, Γ, S, R, G, q.bind fun ov S1 ρ1 H1 x E1 R1 rx q1 => ?_⟩
  cases ov with
  | ref n =>
    obtain ⟨a, ha, rfl⟩ := rx
    cases e : S1[n]? with
    | none => simp only [e] at q1; exact q1.elim
    | some ob =>
      cases ob with
      | setT _ => simp only [e] at q1; exact q1.elim
      | raw _ => simp only [e] at q1; exact q1.elim
      | tbl _ => simp only [e] at q1; exact q1.elim
      | dct _ => simp only [e] at q1; exact q1.elim
      | lst xs1 =>
        simp only [e] at q1
        obtain ⟨_, ws1, h1, _⟩ := R1.at_ n a _ ha e
        refine ⟨.inl ⟨rfl, ws1, SqL.of h1⟩, ρ1, Γ, S1, R1, G.ext E1, q1.bind fun vs S2 ρ2 H2 ys E2 R2 ry q2 => ?_⟩
        match vs, ry, q2 with
        | [], _, q2 => exact q2.elim
        | _ :: _ :: _, _, q2 => exact q2.elim
        | [v], ry, q2 =>
          obtain ⟨y, rfl, r1⟩ := one_of ry rfl
          have ha2 := E2.get ha
          cases e2 : S2[n]? with
          | none => simp only [e2] at q2; exact q2.elim
          | some ob =>
            cases ob with
            | setT _ => simp only [e2] at q2; exact q2.elim
            | raw _ => simp only [e2] at q2; exact q2.elim
            | tbl _ => simp only [e2] at q2; exact q2.elim
            | dct _ => simp only [e2] at q2; exact q2.elim
            | lst xs =>
              simp only [e2] at q2
              obtain ⟨hl, ws, h3, h4⟩ := R2.at_ n a _ ha2 e2
              by_cases hlt : xs.length < sizeLine
              · rw [if_pos hlt] at q2
                refine ⟨a, ws, y, rfl, rfl, h3, by rw [← h4.len]; exact hlt, ?_⟩
                obtain ⟨E3, R3⟩ := R2.put ha2 e2 (by rw [List.length_append]; exact hlt) (h4.app (Rvs.cons r1 Rvs.nil))
                exact q2 ρ2 _ _ E3 R3 rfl
              · rw [if_neg hlt] at q2
                exact q2.elim
  | _ => exact q1.elim
def mPop (o : ME) : ME := fun Γ S => (o Γ S).bind fun ov S1 => match ov with
  | .ref n => match S1[n]? with
    | some (.lst xs) => match xs[xs.length - 1]? with
      | some v => .ok v (S1.set n (.lst xs.dropLast))
      | none => .bad
    | _ => .bad
  | _ => .bad
theorem Rvs.dropLast {K : KX} {ρ : List Addr} {H : Hp} {xs : List Va} {ws : List V} (h : Rvs K ρ H xs ws) : Rvs K ρ H xs.dropLast ws.dropLast := by
  rw [List.dropLast_eq_take, List.dropLast_eq_take, ← h.len]
  exact h.take _
theorem pm_pop {o : Expr} {mo : ME} {apos cpos : Pos} (ho : PM X W o mo)
    (hbase : attributeBase o "pop" X.env (eval o X.env) = eval o X.env := by rfl) (hline : (apos.endLine == cpos.line) = true := by rfl) :
    PM X W (.Call (.Attribute o "pop" apos) [] [] cpos) (mPop mo) := by
  refine pe_imp (pe_bm0 PySem.F.plainAttrs_list PySem.F.slot_list_pop PySem.F.type_list_pop mt_pop ho hbase hline) fun σ H Q ⟨ρ, Γ, S, R, G, q⟩ => ?_
  refine ⟨ρ, Γ, S, R, G, q.bind fun ov S1 ρ1 H1 x E1 R1 rx q1 => ?_⟩
  cases ov with
  | ref n =>
    obtain ⟨a, ha, rfl⟩ := rx
    cases e : S1[n]? with
    | none => simp only [e] at q1; exact q1.elim
    | some ob =>
      cases ob with
      | setT _ => simp only [e] at q1; exact q1.elim
      | raw _ => simp only [e] at q1; exact q1.elim
      | tbl _ => simp only [e] at q1; exact q1.elim
      | dct _ => simp only [e] at q1; exact q1.elim
      | lst xs =>
        simp only [e] at q1
        obtain ⟨hl, ws, h1, h2⟩ := R1.at_ n a _ ha e
        cases ev : xs[xs.length - 1]? with
        | none => simp only [ev] at q1; exact q1.elim
        | some v =>
          simp only [ev] at q1
          obtain ⟨w, h3, h4⟩ := h2.get ev
          refine ⟨.inl ⟨rfl, ws, SqL.of h1⟩, a, ws, w, rfl, rfl, h1, by rw [← h2.len]; exact h3, ?_⟩
          obtain ⟨E3, R3⟩ := R1.put ha e (by rw [List.length_dropLast]; omega) h2.dropLast
          exact q1 ρ1 _ _ E3 R3 (h4.ext E3)
  | _ => exact q1.elim
/-! ### list(range(..)) -/
def rgA (a b : Int) : List Va := (List.range (b - a).toNat).map fun i => Va.int (a + (i : Nat))
@[irreducible] def lrOk (j : Int) : Bool := decide (-(2 ^ 62) ≤ j ∧ j ≤ 2 ^ 24)
def mLRng1 (m : ME) : ME := fun Γ S => (m Γ S).bind fun v S1 => match v with
  | .int j => if lrOk j = true then lift (mkL S1 (rgA 0 j)) else .bad
  | _ => .bad
theorem rg_rel {K : KX} {ρ : List Addr} {H : Hp} (a b : Int) : Rvs K ρ H (rgA a b) (rgV a b) := by
  unfold rgA rgV
  refine Rvs.of (by simp) fun i x w h1 h2 => ?_
  rw [List.getElem?_map] at h1 h2
  cases e : (List.range (b - a).toNat)[i]? with
  | none => rw [e] at h1; cases h1
  | some k =>
    rw [e] at h1 h2
    cases h1
    cases h2
    rfl
theorem pm_lrng1 {p2 pos2 : Pos} (hc : X.calm = true) (hg : Gl X "list") (hm : X.mg "list" = none) (hg2 : Gl X "range") (hm2 : X.mg "range" = none) (h : PM X W e m) (na : starEach [e] X.env = (false, eval e X.env) :: starEach [] X.env := by rfl)
    (hs : starEach [Expr.Call (.Name "range" p2) [e] [] pos2] X.env = (false, eval (Expr.Call (.Name "range" p2) [e] [] pos2) X.env) :: starEach [] X.env := by rfl) : PM X W (.Call (.Name "list" p) [.Call (.Name "range" p2) [e] [] pos2] [] pos) (mLRng1 m) := by
  refine pe_imp (pe_listRg hc hg hm (prg_1 hg2 hm2 h na) hs) fun σ H Q ⟨ρ, Γ, S, R, G, q⟩ => ?_
  refine ⟨ρ, Γ, S, R, G, q.bind fun v S1 ρ1 H1 x E1 R1 rx q1 => ?_⟩
  cases v with
  | int j =>
    cases rx
    by_cases c' : lrOk j = true
    · have c : -(2 ^ 62) ≤ j ∧ j ≤ 2 ^ 24 := by unfold lrOk at c'; exact of_decide_eq_true c'
      simp only [if_pos c'] at q1
      have q1 : Ans (kxOf X) Q ρ1 H1 (mkL S1 (rgA 0 j)) := q1.ans
      refine ⟨j, rfl, ⟨by omega, by omega, c.1, by omega, by omega⟩, (mkL_ans R1 q1 (rg_rel 0 j)).2⟩
    · simp only [if_neg c'] at q1
      exact q1.elim
  | _ => exact q1.elim
end
end PM

namespace PM
open PySem PySem.Spec PyProof.Rows L2 Q2
section
variable {X : Cx} {W : XW}
theorem pms_par3 {i j l : Nat} {t : MA} {st : Stmt} (h : PS X st (tPar3 i j l (tMA (kxOf X) W t))) : PMS X W st (sPar3 i j l t) := by
  refine ps_imp h fun D σ H ⟨ρ, Γ, S, R, G, q⟩ => ?_
  refine ⟨ρ, Γ, S, R, G, AftS.bind G q fun vs S1 ρ1 H1 ws E1 R1 r1 q1 => ?_⟩
  match vs, r1, q1 with
  | [u, v, w], r1, q1 =>
    obtain ⟨z, _, rfl, rz, x, _, rfl, rx, y, _, rfl, ry, rfl⟩ := r1
    exact ⟨z, x, y, rfl, q1 ρ1 H1 _ R1.refl R1 ((((G.ext E1).set i rz).set j rx).set l ry)⟩
  | [], _, q1 => exact q1.elim
  | [_], _, q1 => exact q1.elim
  | [_, _], _, q1 => exact q1.elim
  | _ :: _ :: _ :: _ :: _, _, q1 => exact q1.elim
/-! ### x += e -/
theorem ipI_M {op : Operator} {f : Int → Int → Int} (h : PIp X op (ipI f)) : IpP X op (fI2 always fun i j => .int (f i j)) := by
  refine ⟨_, h, fun ρ S H v w x y Q R rv rw a => ?_⟩
  cases v with
  | int i =>
    cases w with
    | int j => cases rv; cases rw; exact ⟨i, j, rfl, rfl, a ρ H _ R.refl R rfl⟩
    | _ => exact a.elim
  | _ => exact a.elim
theorem ipAdd : IpP X .Add addI := ipI_M ip_add
theorem ipSub : IpP X .Sub subI := ipI_M ip_sub
end
/-! ### calls with keywords -/
def permL {α : Type} (o : List Nat) (us : List α) : List α := o.filterMap fun i => us[i]?
def permG {α : Type} (n m : Nat) (o : List Nat) (us ws : List α) : List α := if us.length = n ∧ ws.length = m then permL o (us ++ ws) else []
theorem permL_rel {vs : List V} {us : List Value} (o : List Nat) (h : Vals vs us) : Vals (permL o vs) (permL o us) := by
  unfold permL
  induction o with
  | nil => exact .nil
  | cons i o ih =>
    rw [List.filterMap_cons, List.filterMap_cons]
    cases e : vs[i]? with
    | none => rw [h.none_of e]; exact ih
    | some v =>
      obtain ⟨u, hu, r⟩ := h.get e
      rw [hu]
      exact .cons r ih
theorem permG_rel {n m : Nat} {o : List Nat} {vs : List V} {us : List Value} {zs : List V} {ws : List Value} (r : Vals vs us) (s : Vals zs ws) : Vals (permG n m o vs zs) (permG n m o us ws) := by
  unfold permG
  rw [r.length, s.length]
  split
  · exact permL_rel o (r.append s)
  · exact .nil
theorem kbn_of {K : PySem.W.Frag} {x : Str} {st : Stmt} {f : Addr} {fd : FuncData} {ps ks : List Str} (F : FnP K x st f fd) (n m : Nat) (o : List Nat) (hp : ps ≠ [])
    (h : ∀ (kV doc pm : Value) (an : Option Addr) (cdv ct : Value) (us ws : List Value), us.length = n → ws.length = m → bindArgs (PySem.W.fnOf x x (defArgs st) (defBody st) (defScope st) .none kV doc pm an cdv ct) ⟨us, ks.zip ws⟩ = pure (ps.zip (permL o (us ++ ws)))) : KBinds K fd ps ks (permG n m o) (permG n m o) := by
  obtain ⟨oc, od, kV, doc, pm, an, cdv, ct, osl, rfl, lk, hcd⟩ := F.ex
  refine ⟨fun s us ws _ hl => ?_, permG_rel⟩
  unfold permG at hl ⊢
  by_cases c : us.length = n ∧ ws.length = m
  · rw [if_pos c]
    exact .of_eq (h _ _ _ _ _ _ us ws c.1 c.2)
  · rw [if_neg c] at hl
    cases ps with
    | nil => exact absurd rfl hp
    | cons p ps => cases hl
theorem permV_rel {K : KX} {ρ : List Addr} {H : Hp} {vs : List Va} {us : List V} (o : List Nat) (h : Rvs K ρ H vs us) : Rvs K ρ H (permL o vs) (permL o us) := by
  unfold permL
  induction o with
  | nil => exact rfl
  | cons i o ih =>
    rw [List.filterMap_cons, List.filterMap_cons]
    cases e : vs[i]? with
    | none =>
      have : us[i]? = none := by
        rw [List.getElem?_eq_none_iff, ← h.len]
        exact List.getElem?_eq_none_iff.mp e
      rw [this]
      exact ih
    | some v =>
      obtain ⟨u, hu, r⟩ := h.get e
      rw [hu]
      exact Rvs.cons r ih
def mCallKw (n m : Nat) (o : List Nat) (g : MF) (t u : MA) : ME := fun Γ S => (t Γ S).bindN fun vs S1 => (u Γ S1).bindN fun ws S2 => if vs.length = n ∧ ws.length = m ∧ (permL o (vs ++ ws)).length = o.length then noX (g (permL o (vs ++ ws)) S2) else .bad
section
variable {X : Cx} {W : XW} {k : Nat} {x : Str} {ps ks : List Str} {g : MF} {f : Addr} {fd : FuncData} {e : Expr} {es : List Expr} {t u : MA} {kws : List Keyword} {n m : Nat} {o : List Nat} {p pos : Pos}
theorem ck_imp {mg : Str → Option Value} (ho : o.length = ps.length) (σ : L2.St) (H : Hp) (Q : VK) (h : tM (kxOf X) W (mCallKw n m o g t u) σ H Q) : tCallK (spM (kxOf X) mg ps.length g) (permG n m o) E0 (tMA (kxOf X) W t) (tMA (kxOf X) W u) σ H Q := by
  obtain ⟨ρ, Γ, S, R, G, q⟩ := h
  refine ⟨ρ, Γ, S, R, G, (show Aft _ W σ _ Q ρ H ((t Γ S).bindN _) from q).bindN fun vs S1 ρ1 H1 xs E1 R1 rx q1 => ?_⟩
  refine ⟨ρ1, Γ, S1, R1, G.ext E1, (show Aft _ W σ _ Q ρ1 H1 ((u Γ S1).bindN _) from q1).bindN fun ws S2 ρ2 H2 ys E2 R2 ry q2 => ?_⟩
  have c : vs.length = n ∧ ws.length = m ∧ (permL o (vs ++ ws)).length = o.length := by
    refine Decidable.byContradiction fun c => ?_
    have q2 : Aft (kxOf X) W σ (Rv (kxOf X)) Q ρ2 H2 (if vs.length = n ∧ ws.length = m ∧ (permL o (vs ++ ws)).length = o.length then noX (g (permL o (vs ++ ws)) S2) else .bad) := q2
    rw [if_neg c] at q2
    exact q2.elim
  have q2 : Aft (kxOf X) W σ (Rv (kxOf X)) Q ρ2 H2 (if vs.length = n ∧ ws.length = m ∧ (permL o (vs ++ ws)).length = o.length then noX (g (permL o (vs ++ ws)) S2) else .bad) := q2
  rw [if_pos c] at q2
  have rel := permV_rel o ((rx.ext E2).app ry)
  unfold permG
  rw [← rx.len, ← ry.len, if_pos ⟨c.1, c.2.1⟩]
  exact ⟨by rw [← rel.len, c.2.2, ho], ρ2, S2, _, R2, rel, q2.noX⟩
theorem passL' : Passes (L2.CX X.prog X.w) X E0 := passL
theorem pm_callK (D : Dx X.prog X.w X.K X.mg X.base k x ps g f fd) (hb : KBinds X.K fd ps ks (permG n m o) (permG n m o)) (ho : o.length = ps.length) (hr : Room k X.A) (hg : Gl X x) (ha : PMA X W (e :: es) t) (hk : PMK X W kws u)
    (hall : (backToKw pos (keywordEach kws X.env)).all (·.1.isSome) = true := by rfl) (hks : (backToKw pos (keywordEach kws X.env)).filterMap (·.1) = ks := by rfl)
    (hdb : (x == ("__debug__" : Str)) = false := by decide) (he : starEach (e :: es) X.env = (false, eval e X.env) :: starEach es X.env := by rfl)
    (hpl : ((backTo pos (starEach (e :: es) X.env)).any (·.1) || (backToKw pos (keywordEach kws X.env)).any (·.1.isNone)) = false := by rfl) :
    PM X W (.Call (.Name x p) (e :: es) kws pos) (mCallKw n m o g t u) :=
  pe_imp (pe_callK D.ok hr hg D.gl D.kp hb passL' ha hk hall hks hdb he hpl) (ck_imp ho)
theorem pm_callK0 (D : Dx X.prog X.w X.K X.mg X.base k x ps g f fd) (hb : KBinds X.K fd ps ks (permG n m o) (permG n m o)) (ho : o.length = ps.length) (hr : Room k X.A) (hg : Gl X x) (hk : PMK X W kws u)
    (hall : (backToKw pos (keywordEach kws X.env)).all (·.1.isSome) = true := by rfl) (hks : (backToKw pos (keywordEach kws X.env)).filterMap (·.1) = ks := by rfl)
    (hdb : (x == ("__debug__" : Str)) = false := by decide)
    (hpl : ((backTo pos (starEach [] X.env)).any (·.1) || (backToKw pos (keywordEach kws X.env)).any (·.1.isNone)) = false := by rfl) :
    PM X W (.Call (.Name x p) [] kws pos) (mCallKw n m o g maN u) := by
  refine pe_imp (pe_callK0 D.ok hr hg D.gl D.kp hb passL' hk hall hks hdb hpl) fun σ H Q h => ?_
  have h2 := ck_imp (X := X) (W := W) (t := maN) (mg := X.mg) (ps := ps) ho σ H Q h
  obtain ⟨ρ, Γ, S, R, G, q⟩ := h2
  exact q ρ H [] R.refl R rfl
end
/-! ### a def of which nothing is told -/
def mBadF : MF := fun _ _ => .bad
theorem bad_ok {P : Program} {w : World} {K : PySem.W.Frag} {mg : Str → Option Value} {base : Heap} {k n : Nat} {f : Addr} {fd : FuncData} {ps : List Str} (hn : ps.length = n) : FnOk P w K mg base (L2.CX P w) k f fd ps (spM ⟨K, P, w⟩ mg n mBadF) :=
  ⟨fun vs H Q E h => h.1.trans hn.symm, fun A outer s H args us vs Q E hr e0 hb r h => by
    obtain ⟨_, _, _, _, _, _, q⟩ := h
    exact q.elim⟩
/-- what is told of a def that raises nothing -/
theorem fn_up {P : Program} {w : World} {K : PySem.W.Frag} {mg : Str → Option Value} {base : Heap} {k : Nat} {f : Addr} {fd : FuncData} {ps : List Str} {sp sp' : Sp} (F : FnOk P w K mg base L2.CX0 k f fd ps sp) (h : ∀ vs H Q E, sp' vs H Q E → sp vs H Q E) : FnOk P w K mg base (L2.CX P w) k f fd ps sp' := by
  refine ⟨fun vs H Q E q => F.len vs H Q E (h _ _ _ _ q), fun A outer s H args us vs Q E hr e0 hb r q => ?_⟩
  refine codeAny_mono (F.run A outer s H args us vs Q E hr e0 hb r (h _ _ _ _ q)) fun r s' hq => ?_
  cases r with
  | ok fl => cases fl <;> exact hq
  | error e => exact (show False from hq).elim
/-! ### sets of tuples of ints -/
def tIntsOf : Va → Option (List Int)
  | .tup xs => intsOf xs
  | _ => none
section
variable {X : Cx} {W : XW}
def mSet0 : ME := fun _ S => .ok (.ref S.length) (S ++ [.setT []])
theorem RS.setNew {K : KX} {ρ : List Addr} {S : Sto} {H : Hp} (R : RS K ρ S H) {p : Addr} (hp : H p = none) : Ext ρ (ρ ++ [p]) H (upd H p (SetTO K.P K.w p [])) ∧ RS K (ρ ++ [p]) (S ++ [.setT []]) (upd H p (SetTO K.P K.w p [])) := by
  have hp' := R.fresh hp
  have E : Ext ρ (ρ ++ [p]) H (upd H p (SetTO K.P K.w p [])) := ⟨R.nt, ⟨[p], rfl⟩, fun b u h _ => by rw [upd_ne (ne_of_none h hp)]; exact h, fun b h n => by
    rcases List.mem_append.mp h with h | h
    · exact absurd h n
    · rw [List.mem_singleton.mp h]; exact hp⟩
  refine ⟨E, by simp [R.len], ?_, fun n a u h1 h2 => ?_⟩
  · refine List.nodup_append.mpr ⟨R.nd, by simp, fun x hx y hy z => hp' ?_⟩
    rw [← List.mem_singleton.mp hy, ← z]
    exact hx
  · by_cases hn : n < ρ.length
    · rw [List.getElem?_append_left hn] at h1
      rw [List.getElem?_append_left (by rw [← R.len]; exact hn)] at h2
      refine (R.at_ n a u h1 h2).ext E ?_
      have : a ≠ p := fun z => hp' (by rw [← z]; exact List.mem_of_getElem? h1)
      rw [upd_ne this]
    · have hn' : n = ρ.length := by
        have := (List.getElem?_eq_some_iff.mp h1).1
        simp at this
        omega
      subst hn'
      rw [List.getElem?_append_right (Nat.le_refl _), Nat.sub_self] at h1
      rw [List.getElem?_append_right (by rw [R.len]; exact Nat.le_refl _), R.len, Nat.sub_self] at h2
      cases h1
      cases h2
      exact ⟨[], upd_same, .nil, fun p hp => by cases hp⟩
theorem pm_set0 {x : Str} {p pos : Pos} (hg : Gl X x) (hm : X.mg x = none) (hv : bootBuiltins x = some (.type "set")) (hn : x ≠ "__name__" := by decide) (hdb : (x == ("__debug__" : Str)) = false := by decide) : PM X W (.Call (.Name x p) [] [] pos) mSet0 := by
  refine pe_imp (pe_callTy0 cr_set0T hg hm hv hn hdb) fun σ H Q ⟨ρ, Γ, S, R, G, q⟩ => ?_
  refine ⟨rfl, fun p hp => ?_⟩
  obtain ⟨E, R2⟩ := R.setNew hp
  exact q _ _ _ E R2 (R.last p)
/-- in a set: that it is no member -/
def inSet : F2 := fun v w S => match tIntsOf v, w with
  | some k, .ref n => match S[n]? with
    | some (.setT ks) => if k ∈ ks then none else some (.bl false, S)
    | _ => none
  | _, _ => none
theorem oInSet (un : X.A.units + 64 < cLine) : OpP X (compareOp .In) inSet := by
  refine ⟨_, op_outT un, fun ρ S H v w x y Q R rv rw a => ?_⟩
  unfold inSet at a
  cases e : tIntsOf v with
  | none => rw [e] at a; exact a.elim
  | some k =>
    rw [e] at a
    cases v with
    | tup xs =>
      obtain ⟨b, ws, rfl, h1, h2⟩ := rv
      have hk := ints_of h2 e
      cases w with
      | ref n =>
        obtain ⟨c, hc, rfl⟩ := rw
        simp only at a
        cases es : S[n]? with
        | none => rw [es] at a; exact a.elim
        | some o =>
          cases o with
          | lst _ => rw [es] at a; exact a.elim
          | raw _ => rw [es] at a; exact a.elim
          | tbl _ => rw [es] at a; exact a.elim
          | dct _ => rw [es] at a; exact a.elim
          | setT ks =>
            rw [es] at a
            simp only at a
            obtain ⟨L, h3, h4, h5⟩ := R.at_ n c _ hc es
            by_cases m : k ∈ ks
            · rw [if_pos m] at a; exact a.elim
            · rw [if_neg m] at a
              exact ⟨b, c, k, L, rfl, rfl, by rw [← hk]; exact h1, h3, h5, fun z => m (h4.mem_iff.mp z), a ρ H _ R.refl R rfl⟩
      | _ => exact a.elim
    | _ => cases e
def mAddS (o : ME) (t : MA) : ME := fun Γ S => (o Γ S).bind fun ov S1 => match ov with
  | .ref n => match S1[n]? with
    | some (.setT _) => (t Γ S1).bind fun vs S2 => match vs, S2[n]? with
      | [v], some (.setT ks) => match tIntsOf v with
        | some k => if k ∉ ks ∧ ks.length + 1 < 64 then .ok .non (S2.set n (.setT (k :: ks))) else .bad
        | none => .bad
      | _, _ => .bad
    | _ => .bad
  | _ => .bad
theorem RS.putS {K : KX} {ρ : List Addr} {S : Sto} {H : Hp} (R : RS K ρ S H) {n : Nat} {a : Addr} {o : Ob} {ks : List (List Int)} {L : List (Addr × List Int)} (ha : ρ[n]? = some a) (hs : S[n]? = some o) (hL : (L.map (·.2)).Perm ks) (h : ∀ p ∈ L, SqT K.K H p.1 (p.2.map V.int)) :
    Ext ρ ρ H (upd H a (SetTO K.P K.w a L)) ∧ RS K ρ (S.set n (.setT ks)) (upd H a (SetTO K.P K.w a L)) := by
  have am := List.mem_of_getElem? ha
  have E : Ext ρ ρ H (upd H a (SetTO K.P K.w a L)) := ⟨R.nt, ⟨[], by simp⟩, fun b u h hb => by rw [upd_ne (fun z => hb (by rw [z]; exact am))]; exact h, fun b h n => absurd h n⟩
  refine ⟨E, by simp [R.len], R.nd, fun m b u h1 h2 => ?_⟩
  by_cases e : n = m
  · subst e
    cases ha.symm.trans h1
    rw [List.getElem?_set_self (List.getElem?_eq_some_iff.mp hs).1] at h2
    cases h2
    exact ⟨L, upd_same, hL, fun p hp => E.sqt (h p hp)⟩
  · rw [List.getElem?_set_ne e] at h2
    refine (R.at_ m b u h1 h2).ext E ?_
    have : b ≠ a := fun z => by
      subst z
      have hm := (List.getElem?_eq_some_iff.mp h1)
      have hn := (List.getElem?_eq_some_iff.mp ha)
      exact nd_get R.nd e (hn.2.trans hm.2.symm)
    rw [upd_ne this]
theorem pm_addS {o e : Expr} {es : List Expr} {mo : ME} {t : MA} {apos cpos : Pos} (un : X.A.units + 64 < cLine) (ho : PM X W o mo) (ht : PMA X W (e :: es) t)
    (hbase : attributeBase o "add" X.env (eval o X.env) = eval o X.env := by rfl)
    (hfew : ((backTo cpos (starEach (e :: es) X.env)).all (fun x => !x.1) && (backToKw cpos (keywordEach [] X.env)).all (fun x => x.1.isSome) && decide ((e :: es).length + ([] : List Keyword).length + (if ([] : List Keyword).isEmpty then 0 else 1) < 30)) = true := by rfl)
    (hline : (apos.endLine == cpos.line) = true := by rfl) (hstar : starEach (e :: es) X.env = (false, eval e X.env) :: starEach es X.env := by rfl) (hplain : (backTo cpos (starEach es X.env)).any (·.1) = false := by rfl) :
    PM X W (.Call (.Attribute o "add" apos) (e :: es) [] cpos) (mAddS mo t) := by
  refine pe_imp (pe_addT un ho ht hbase hfew hline hstar hplain) fun σ H Q ⟨ρ, Γ, S, R, G, q⟩ => ?_
  refine ⟨ρ, Γ, S, R, G, q.bind fun ov S1 ρ1 H1 x E1 R1 rx q1 => ?_⟩
  cases ov with
  | ref n =>
    obtain ⟨a, ha, rfl⟩ := rx
    cases e : S1[n]? with
    | none => simp only [e] at q1; exact q1.elim
    | some ob =>
      cases ob with
      | lst _ => simp only [e] at q1; exact q1.elim
      | raw _ => simp only [e] at q1; exact q1.elim
      | tbl _ => simp only [e] at q1; exact q1.elim
      | dct _ => simp only [e] at q1; exact q1.elim
      | setT ks1 =>
        simp only [e] at q1
        obtain ⟨L1, h1, _, h2⟩ := R1.at_ n a _ ha e
        refine ⟨⟨a, L1, rfl, h1, h2⟩, ρ1, Γ, S1, R1, G.ext E1, q1.bind fun vs S2 ρ2 H2 ys E2 R2 ry q2 => ?_⟩
        match vs, ry, q2 with
        | [], _, q2 => exact q2.elim
        | _ :: _ :: _, _, q2 => exact q2.elim
        | [v], ry, q2 =>
          obtain ⟨y, rfl, r1⟩ := one_of ry rfl
          have ha2 := E2.get ha
          cases e2 : S2[n]? with
          | none => simp only [e2] at q2; exact q2.elim
          | some ob =>
            cases ob with
            | lst _ => simp only [e2] at q2; exact q2.elim
            | raw _ => simp only [e2] at q2; exact q2.elim
            | tbl _ => simp only [e2] at q2; exact q2.elim
            | dct _ => simp only [e2] at q2; exact q2.elim
            | setT ks =>
              simp only [e2] at q2
              obtain ⟨L, h3, h4, h5⟩ := R2.at_ n a _ ha2 e2
              cases ek : tIntsOf v with
              | none => simp only [ek] at q2; exact q2.elim
              | some k =>
                simp only [ek] at q2
                cases v with
                | tup xs =>
                  obtain ⟨b, ws, rfl, h6, h7⟩ := r1
                  have hk := ints_of h7 ek
                  by_cases c : k ∉ ks ∧ ks.length + 1 < 64
                  · rw [if_pos c] at q2
                    have hb : SqT (kxOf X).K H2 b (k.map V.int) := by rw [← hk]; exact h6
                    refine ⟨a, b, k, L, rfl, rfl, h3, hb, h5, fun z => c.1 (h4.mem_iff.mp z), ?_, fun L' pm => ?_⟩
                    · have := h4.length_eq
                      rw [List.length_map] at this
                      omega
                    · have hL' : (L'.map (fun p : Addr × List Int => p.2)).Perm (k :: ks) := (pm.map (fun p : Addr × List Int => p.2)).trans (List.Perm.cons k h4)
                      have hall : ∀ p ∈ L', SqT (kxOf X).K H2 p.1 (p.2.map V.int) := fun p hp => by
                        rcases List.mem_cons.mp (pm.mem_iff.mp hp) with z | z
                        · rw [z]; exact hb
                        · exact h5 p z
                      obtain ⟨E3, R3⟩ := R2.putS ha2 e2 hL' hall
                      exact q2 ρ2 _ _ E3 R3 rfl
                  · rw [if_neg c] at q2
                    exact q2.elim
                | _ => cases ek
  | _ => exact q1.elim
end
end PM

namespace PM
open PySem PySem.Spec PyProof.Rows L2 Q2
/-! ### sorted: of data -/
abbrev dle {β : Type} (k : β → PyData) : β → β → Bool := PySem.W.dataLe false k
def alikeB (ds : List PyData) : Bool := ds.all fun d => ds.all fun e => PySem.W.alike d e
def sortB (ds : List PyData) : Bool := (ds.all fun d => match d with
    | .tuple (_ :: _) => true
    | _ => false) || ds.all fun d => match d with
    | .none => false
    | .tuple _ => false
    | _ => true
theorem alike_of {ds : List PyData} (h : alikeB ds = true) : PySem.W.AllAlike ds := fun d hd e he => List.all_eq_true.mp (List.all_eq_true.mp h d hd) e he
theorem sort_of {ds : List PyData} (h : sortB ds = true) : PySem.W.Sortable ds := by
  unfold sortB at h
  rcases Bool.or_eq_true_iff.mp h with h | h
  · refine .inl fun d hd => ?_
    have := List.all_eq_true.mp h d hd
    cases d with
    | tuple xs =>
      cases xs with
      | nil => cases this
      | cons x r => exact ⟨x, r, rfl⟩
    | _ => cases this
  · refine .inr fun d hd => ?_
    have := List.all_eq_true.mp h d hd
    cases d with
    | none => cases this
    | tuple xs => cases this
    | _ => exact ⟨(fun z => by cases z), fun xs z => by cases z⟩
def sortable (ds : List PyData) : Bool := alikeB ds && sortB ds && ds.all fun d => decide (d.depth ≤ 40)
def sortPs (ps : List (Va × PyData)) : List Va := (ps.mergeSort (dle (·.2))).map (·.1)
def datsV (S : Sto) : List Va → Option (List (Va × PyData))
  | [] => some []
  | v :: r => match datOf S v, datsV S r with
    | some d, some ps => some ((v, d) :: ps)
    | _, _ => none
def fSort : FL := fL1 fun v S => match seqOf S v with
  | some xs => match datsV S xs with
    | some ps => if sortable (ps.map (·.2)) = true then mkL S (sortPs ps) else none
    | none => none
  | none => none
section
variable {X : Cx}
theorem eachV {K : KX} {H : Hp} : ∀ {bs : List (V × PyData)} {us : List Value}, Vals (bs.map (·.1)) us → PySem.W.EachIs (fun v (b : V × PyData) => RelV b.1 v) us bs
  | [], _, .nil => .nil
  | b :: bs, _, .cons r t => .cons r (eachV (K := K) (H := H) t)
theorem valsE : ∀ {bs : List (V × PyData)} {us : List Value}, PySem.W.EachIs (fun v (b : V × PyData) => RelV b.1 v) us bs → Vals (bs.map (·.1)) us
  | _, _, .nil => .nil
  | _, _, .cons h t => .cons h (valsE t)
theorem each_imp {α β : Type} {R R' : α → β → Prop} : ∀ {as : List α} {bs : List β}, PySem.W.EachIs R as bs → (∀ a b, b ∈ bs → R a b → R' a b) → PySem.W.EachIs R' as bs
  | _, _, .nil, _ => .nil
  | _, _, .cons h t, k => .cons (k _ _ (List.mem_cons_self ..) h) (each_imp t fun a b hb => k a b (List.mem_cons_of_mem _ hb))
def rSortD (K : PySem.W.Frag) : List V → Hp → VK → Prop := fun vs H Q => ∃ (a : Addr) (bs : List (V × PyData)), vs = [V.ref a] ∧ (SqL K H a (bs.map (·.1)) ∨ SqT K H a (bs.map (·.1))) ∧ (∀ b ∈ bs, Dp K H b.1 b.2) ∧
  PySem.W.AllAlike (bs.map (·.2)) ∧ PySem.W.Sortable (bs.map (·.2)) ∧ (∀ b ∈ bs, b.2.depth ≤ 40) ∧ ∀ p, H p = none → Q (.ref p) (upd H p (.lst ((bs.mergeSort (dle (·.2))).map (·.1))))
theorem cr_sortD (un : X.A.units + 64 < cLine) : CallR X (.builtin "sorted") (rSortD X.K) := by
  intro pins s σ H vs us Q I r h
  obtain ⟨a, bs, rfl, hs, ht, ha, ho, hd, q⟩ := h
  obtain rfl := Vals.ref1 r
  obtain ⟨its, rv, seq, hz⟩ := raw_seq I hs
  rw [List.length_map] at hz
  have ea := eachV (K := kxOf X) (H := H) rv
  refine sorted_plain (bs := bs) (enc := (·.2)) seq ea (each_imp ea fun v b hb hr => (ht b hb).reads I _ _ _ hr) ha ho hz (fun p hp => ?_) fun out hl e => ?_
  · have := hd p hp
    show X.A.units + 2 + p.2.depth < cLine
    omega
  · obtain ⟨ep, he⟩ := PyProof.Rows.sortedAll_at s.heap its (List.toArray out)
    refine ⟨.ref _, upd H (s.heap.objs.size + 1) (.lst ((bs.mergeSort (dle (·.2))).map (·.1))), I.laid (t' := s.toks) (fun _ _ => PyProof.Rows.sortedAll_old) (Nat.le_succ _) ⟨?_, out, ep, valsE e, he⟩, rfl, q _ (I.hok.fresh (Nat.le_succ _))⟩
    rw [List.length_map, List.length_mergeSort]
    exact hz
theorem dats_get {K : KX} {ρ : List Addr} {S : Sto} {H : Hp} (R : RS K ρ S H) : ∀ {xs : List Va} {ws : List V} {ps : List (Va × PyData)}, Rvs K ρ H xs ws → datsV S xs = some ps →
    ∃ ts : List (Va × V × PyData), ts.map (·.1) = xs ∧ ts.map (·.2.1) = ws ∧ ts.map (fun t => (t.1, t.2.2)) = ps ∧ ∀ t ∈ ts, Rv K ρ H t.1 t.2.1 ∧ Dp K.K H t.2.1 t.2.2
  | [], _, ps, h, e => by
    cases h
    cases e
    exact ⟨[], rfl, rfl, rfl, fun t h => absurd h (List.not_mem_nil)⟩
  | x :: xs, _, ps, h, e => by
    obtain ⟨w, r, rfl, h1, h2⟩ := h
    unfold datsV at e
    cases e1 : datOf S x with
    | none => rw [e1] at e; cases e
    | some d =>
      cases e2 : datsV S xs with
      | none => rw [e1, e2] at e; cases e
      | some ps' =>
        rw [e1, e2] at e
        cases e
        obtain ⟨ts, a, b, c, g⟩ := dats_get R h2 e2
        refine ⟨(x, w, d) :: ts, by simp [a], by simp [b], by simp [c], fun t ht => ?_⟩
        rcases List.mem_cons.mp ht with z | z
        · subst z
          exact ⟨h1, (dat_of R h1 e1).1⟩
        · exact g t z
theorem Rvs.map {K : KX} {ρ : List Addr} {H : Hp} {α : Type} {f : α → Va} {g : α → V} : ∀ {ts : List α}, (∀ t ∈ ts, Rv K ρ H (f t) (g t)) → Rvs K ρ H (ts.map f) (ts.map g)
  | [], _ => rfl
  | t :: ts, h => Rvs.cons (h t (List.mem_cons_self ..)) (Rvs.map fun x hx => h x (List.mem_cons_of_mem _ hx))
theorem cSort (un : X.A.units + 64 < cLine) : CallP X (.builtin "sorted") fSort := by
  refine ⟨_, cr_sortD un, callM1 fun ρ S H v x Q R r a => ?_⟩
  cases e : seqOf S v with
  | none => simp only [e] at a; exact a.elim
  | some xs =>
    simp only [e] at a
    obtain ⟨p, ws, rfl, h1, h2⟩ := seq_of R r e
    cases e2 : datsV S xs with
    | none => simp only [e2] at a; exact a.elim
    | some ps =>
      simp only [e2] at a
      obtain ⟨ts, t1, t2, t3, g⟩ := dats_get R h2 e2
      obtain ⟨c, a⟩ := ans_if a
      unfold sortable at c
      rw [Bool.and_eq_true, Bool.and_eq_true] at c
      have es : ps.map (·.2) = (ts.map (·.2)).map (·.2) := by rw [← t3]; simp [List.map_map, Function.comp_def]
      have ew : (ts.map (·.2)).map (·.1) = ws := by rw [← t2]; simp [List.map_map, Function.comp_def]
      have m1 : (ts.mergeSort (dle (fun t => t.2.2))).map (fun t => (t.1, t.2.2)) = ps.mergeSort (dle (·.2)) := by
        rw [← t3]
        exact List.map_mergeSort fun a _ b _ => rfl
      have m2 : (ts.mergeSort (dle (fun t => t.2.2))).map (·.2) = (ts.map (·.2)).mergeSort (dle (·.2)) := List.map_mergeSort fun a _ b _ => rfl
      refine ⟨p, ts.map (·.2), rfl, by rw [ew]; exact h1, fun b hb => ?_, by rw [← es]; exact alike_of c.1.1, by rw [← es]; exact sort_of c.1.2, fun b hb => ?_, ?_⟩
      · obtain ⟨t, ht, rfl⟩ := List.mem_map.mp hb
        exact (g t ht).2
      · refine of_decide_eq_true (List.all_eq_true.mp c.2 b.2 ?_)
        rw [es]
        exact List.mem_map_of_mem hb
      · refine (mkL_ans R a ?_).2
        unfold sortPs
        rw [← m1, ← m2, List.map_map, List.map_map]
        refine Rvs.map fun t ht => ?_
        exact (g t ((List.mergeSort_perm _ _).mem_iff.mp ht)).1
end
/-- in: a list of data, or a set that has it not -/
def inF : F2 := orF2 (inD false) inSet
theorem oInF {X : Cx} (hu : X.A.units + 65 < cLine) : OpP X (compareOp .In) inF := (oIn hu).or (oInSet (by omega))
/-! ### isinstance(x, (A, B)) -/
def kitAnyB (k : String) : List String → Option Bool
  | [] => some false
  | c :: r => match kitB k c with
    | some true => some true
    | some false => kitAnyB k r
    | none => none
theorem kitAny_of {K : PySem.W.Frag} {k : String} {b : Bool} : ∀ {ts : List String}, kitAnyB k ts = some b → PySem.W.kitAny K (.type k) (ts.map Value.type) = some b
  | [], h => h
  | c :: r, h => by
    unfold kitAnyB at h
    show (match PySem.W.kitOne K (.type k) (.type c) with
      | some true => some true
      | some false => PySem.W.kitAny K (.type k) (r.map Value.type)
      | none => none) = some b
    cases e : kitB k c with
    | none => rw [e] at h; cases h
    | some q =>
      rw [e] at h
      rw [kit_ty e]
      cases q with
      | true => exact h
      | false => exact kitAny_of h
def mIsiT (a : ME) (ts : List String) : ME := fun Γ S => (a Γ S).bind fun v S1 => match kindV S1 v with
  | some k => match kitAnyB k ts with
    | some b => .ok (.bl b) S1
    | none => .bad
  | none => .bad
theorem pairedTy : ∀ ts : List String, Paired ClsV (ts.map V.ty) (ts.map Value.type)
  | [] => .nil
  | t :: ts => .cons (.ty t) (pairedTy ts)
theorem pm_isiT {X : Cx} {W : XW} {x : Str} {e : Expr} {es : List Expr} {ma : ME} {ts : List String} {n : Nat} {p pos tpos : Pos} (hg : Gl X x) (hm : X.mg x = none) (hv : bootBuiltins x = some (.builtin "isinstance")) (ha : PM X W e ma) (ht : PA X es fun _ H Q => Q (ts.map V.ty) H) (hl : ts.length ≤ sizeLine)
    (hn : x ≠ "__name__" := by decide) (hdb : (x == ("__debug__" : Str)) = false := by decide)
    (he : starEach [e, .Tuple es n tpos] X.env = (false, eval e X.env) :: starEach [.Tuple es n tpos] X.env := by rfl) (he2 : starEach [.Tuple es n tpos] X.env = (false, eval (.Tuple es n tpos) X.env) :: starEach [] X.env := by rfl) (hpl : (backTo pos (starEach [.Tuple es n tpos] X.env)).any (·.1) = false := by rfl) :
    PM X W (.Call (.Name x p) [e, .Tuple es n tpos] [] pos) (mIsiT ma ts) := by
  refine pe_imp (pe_callB call_isiT hg hm hv (pa_cons ha (pa_cons (pe_tup ht) pa_nil he2) he) hn hdb he hpl) fun σ H Q ⟨ρ, Γ, S, R, G, q⟩ => ?_
  refine ⟨ρ, Γ, S, R, G, q.bind fun v S1 ρ1 H1 y E1 R1 rx q1 => ?_⟩
  refine ⟨by rw [List.length_map]; exact hl, fun l hl' => ?_⟩
  cases e1 : kindV S1 v with
  | none => simp only [e1] at q1; exact q1.elim
  | some k =>
    simp only [e1] at q1
    cases e2 : kitAnyB k ts with
    | none => simp only [e2] at q1; exact q1.elim
    | some b =>
      simp only [e2] at q1
      obtain ⟨E2, R2⟩ := R1.own (o := .tup (ts.map V.ty)) hl'
      exact ⟨y, l, ts.map V.ty, .type k, ts.map Value.type, b, rfl, upd_same, pairedTy ts, tyx_of R2 (rx.ext E2) e1, kitAny_of e2, q1 ρ1 _ _ E2 R2 rfl⟩
end PM

namespace PM
open PySem PySem.Spec PyProof.Rows L2 Q2
section
variable {X : Cx} {W : XW}
/-! ### xs[::-1], a list -/
def mRevSl (a : ME) : ME := fun Γ S => (a Γ S).bind fun v S1 => match lstOf S1 v with
  | some xs => lift (mkL S1 xs.reverse)
  | none => .bad
theorem pm_revSl {e : Expr} {ma : ME} {k : Nat} {p1 p2 p3 pos : Pos} (ha : PM X W e ma) : PM X W (.Subscript e (.Slice none none (some (.UnaryOp .USub (.Constant (.int 1) k p1) p2)) p3) pos) (mRevSl ma) := by
  refine pe_imp (pe_revL ha) fun σ H Q ⟨ρ, Γ, S, R, G, q⟩ => ?_
  refine ⟨ρ, Γ, S, R, G, q.bind fun v S1 ρ1 H1 x E1 R1 rx q1 => ?_⟩
  cases e : lstOf S1 v with
  | none => simp only [e] at q1; exact q1.elim
  | some xs =>
    simp only [e] at q1
    obtain ⟨p, ws, rfl, h1, h2⟩ := lst_of R1 rx e
    exact ⟨p, ws.reverse.reverse, rfl, by rw [List.reverse_reverse]; exact h1, by rw [List.reverse_reverse]; exact (mkL_ans R1 q1.ans h2.rev).2⟩
/-! ### xs.extend(ys), both lists of the store -/
def mExt (o : ME) (t : MA) : ME := fun Γ S => (o Γ S).bind fun ov S1 => match ov with
  | .ref n => match S1[n]? with
    | some (.lst _) => (t Γ S1).bind fun vs S2 => match vs, S2[n]? with
      | [.ref m], some (.lst xs) => match S2[m]? with
        | some (.lst ys) => if xs.length + ys.length ≤ sizeLine then .ok .non (S2.set n (.lst (xs ++ ys))) else .bad
        | _ => .bad
      | _, _ => .bad
    | _ => .bad
  | _ => .bad
theorem pm_extend {o e : Expr} {es : List Expr} {mo : ME} {t : MA} {apos cpos : Pos} (ho : PM X W o mo) (ht : PMA X W (e :: es) t)
    (hbase : attributeBase o "extend" X.env (eval o X.env) = eval o X.env := by rfl)
    (hfew : ((backTo cpos (starEach (e :: es) X.env)).all (fun x => !x.1) && (backToKw cpos (keywordEach [] X.env)).all (fun x => x.1.isSome)
      && decide ((e :: es).length + ([] : List Keyword).length + (if ([] : List Keyword).isEmpty then 0 else 1) < 30)) = true := by rfl)
    (hline : (apos.endLine == cpos.line) = true := by rfl) (hs : starEach (e :: es) X.env = (false, eval e X.env) :: starEach es X.env := by rfl) (hplain : (backTo cpos (starEach es X.env)).any (·.1) = false := by rfl) :
    PM X W (.Call (.Attribute o "extend" apos) (e :: es) [] cpos) (mExt mo t) := by
  refine pe_imp (pe_bm PySem.F.plainAttrs_list PySem.F.slot_list_extend PySem.F.type_list_extend mt_extend ho ht hbase hfew hline hs hplain) fun σ H Q ⟨ρ, Γ, S, R, G, q⟩ => ?_
  refine ⟨ρ, Γ, S, R, G, q.bind fun ov S1 ρ1 H1 x E1 R1 rx q1 => ?_⟩
  cases ov with
  | ref n =>
    obtain ⟨a, ha, rfl⟩ := rx
    cases e : S1[n]? with
    | none => simp only [e] at q1; exact q1.elim
    | some ob =>
      cases ob with
      | setT _ => simp only [e] at q1; exact q1.elim
      | raw _ => simp only [e] at q1; exact q1.elim
      | tbl _ => simp only [e] at q1; exact q1.elim
      | dct _ => simp only [e] at q1; exact q1.elim
      | lst xs1 =>
        simp only [e] at q1
        obtain ⟨_, ws1, h1, _⟩ := R1.at_ n a _ ha e
        refine ⟨.inl ⟨rfl, ws1, SqL.of h1⟩, ρ1, Γ, S1, R1, G.ext E1, q1.bind fun vs S2 ρ2 H2 ys E2 R2 ry q2 => ?_⟩
        cases vs with
        | nil => exact q2.elim
        | cons v r =>
          cases r with
          | cons _ _ => cases v <;> exact q2.elim
          | nil =>
            obtain ⟨y, rfl, r1⟩ := one_of ry rfl
            have ha2 := E2.get ha
            cases v with
            | ref m =>
              obtain ⟨b, hb, rfl⟩ := r1
              cases e2 : S2[n]? with
              | none => simp only [e2] at q2; exact q2.elim
              | some ob =>
                cases ob with
                | setT _ => simp only [e2] at q2; exact q2.elim
                | raw _ => simp only [e2] at q2; exact q2.elim
                | tbl _ => simp only [e2] at q2; exact q2.elim
                | dct _ => simp only [e2] at q2; exact q2.elim
                | lst xs =>
                  cases e3 : S2[m]? with
                  | none => simp only [e2, e3] at q2; exact q2.elim
                  | some ob =>
                    cases ob with
                    | setT _ => simp only [e2, e3] at q2; exact q2.elim
                    | raw _ => simp only [e2, e3] at q2; exact q2.elim
                    | tbl _ => simp only [e2, e3] at q2; exact q2.elim
                    | dct _ => simp only [e2, e3] at q2; exact q2.elim
                    | lst zs =>
                      simp only [e2, e3] at q2
                      obtain ⟨_, ws, h4, h5⟩ := R2.at_ n a _ ha2 e2
                      obtain ⟨_, us, h6, h7⟩ := R2.at_ m b _ hb e3
                      by_cases hl : xs.length + zs.length ≤ sizeLine
                      · rw [if_pos hl] at q2
                        refine ⟨a, b, ws, us, rfl, rfl, h4, h6, by rw [← h5.len, ← h7.len]; exact hl, ?_⟩
                        obtain ⟨E3, R3⟩ := R2.put ha2 e2 (by rw [List.length_append]; exact hl) (h5.app h7)
                        exact q2 ρ2 _ _ E3 R3 rfl
                      · rw [if_neg hl] at q2
                        exact q2.elim
            | _ => exact q2.elim
  | _ => exact q1.elim
/-! ### o[i] op= e, a list -/
def sAugSub (f : F2) (o i m : ME) : MS := fun Γ S => thenS Γ (o Γ S) fun ov S1 => thenS Γ (i Γ S1) fun iv S2 => match ov, iv with
  | .ref n, .int k => match S2[n]? with
    | some (.lst xs) => match L2.atI xs k with
      | some x => thenS Γ (m Γ S2) fun v S3 => thenS Γ (lift (f x v S3)) fun z S4 => match S4[n]? with
        | some (.lst ys) => match ixN ys.length k with
          | some j => .nx Γ (S4.set n (.lst (ys.set j z)))
          | none => .bad
        | _ => .bad
      | none => .bad
    | _ => .bad
  | _, _ => .bad
theorem get_list : PGet X (rIxL X.K) := by
  intro pins s σ H x y v u Q I rx ry h
  obtain ⟨p, xs, i, z, rfl, rfl, hq, he, q⟩ := h
  cases rx
  obtain ⟨t, rfl⟩ := ry
  obtain ⟨its, r, pl, hz⟩ := I.list hq
  obtain ⟨j, h1, h2, h3, h4, h5⟩ := atI_get he
  obtain ⟨w, ew, rw'⟩ := r.get h2
  have hl := r.length
  have hn := line63
  have fin : EP X pins σ Q w s := ⟨z, H, I, rw', q⟩
  by_cases h0 : 0 ≤ i
  · have hj : i.toNat = j := by
      rw [seqIndex_of h0 h5] at h1
      exact Option.some.inj h1
    exact wpAny_getItem_list pl.isList h0 (by omega) (by rw [hj]; simpa using ew) fin
  · have hj : (i + (its.toArray.size : Int)).toNat = j := by
      rw [seqIndex_neg (by omega) h4] at h1
      rw [List.size_toArray, ← hl]
      exact Option.some.inj h1
    exact wpAny_getItem_list_neg pl.isList (by omega) (by rw [List.size_toArray] <;> omega) (by omega) (by rw [hj]; simpa using ew) fin
theorem pms_augSub {o i e : Expr} {mo mi m : ME} {op : Operator} {f : F2} {tpos pos : Pos} (hf : IpP X op f) (ho : PM X W o mo) (hi : PM X W i mi) (h : PM X W e m)
    (ha : ∀ ov iv new, augStore i ov iv new = (do holding [new, ov, iv] (setItem ov iv new); release [new, ov, iv] []; pure .next) := by intros; rfl) : PMS X W (.AugAssign (.Subscript o i tpos) op e pos) (sAugSub f mo mi m) := by
  obtain ⟨r, hr, hm⟩ := hf
  refine ps_imp (ps_augS (pos := pos) ho hi get_list h hr set_list ha) fun D σ H ⟨ρ, Γ, S, R, G, q⟩ => ?_
  refine ⟨ρ, Γ, S, R, G, AftS.bind G q fun ov S1 ρ1 H1 x E1 R1 rx q1 => ?_⟩
  refine ⟨ρ1, Γ, S1, R1, G.ext E1, AftS.bind (G.ext E1) q1 fun iv S2 ρ2 H2 y E2 R2 ry q2 => ?_⟩
  cases ov with
  | ref n =>
    cases iv with
    | int k =>
      obtain ⟨a, ha, rfl⟩ := rx.ext E2
      cases ry
      cases e1 : S2[n]? with
      | none => simp only [e1] at q2; exact q2.elim
      | some ob =>
        cases ob with
        | setT _ => simp only [e1] at q2; exact q2.elim
        | raw _ => simp only [e1] at q2; exact q2.elim
        | tbl _ => simp only [e1] at q2; exact q2.elim
        | dct _ => simp only [e1] at q2; exact q2.elim
        | lst xs =>
          simp only [e1] at q2
          obtain ⟨hl, ws, h1, h2⟩ := R2.at_ n a _ ha e1
          cases e2 : L2.atI xs k with
          | none => simp only [e2] at q2; exact q2.elim
          | some x =>
            simp only [e2] at q2
            obtain ⟨u, h3, r3⟩ := h2.atI e2
            have G2 := (G.ext E1).ext E2
            refine ⟨a, ws, k, u, rfl, rfl, SqL.of h1, h3, ρ2, Γ, S2, R2, G2, AftS.bind G2 q2 fun v S3 ρ3 H3 y E3 R3 ry q3 => ?_⟩
            refine hm ρ3 S3 H3 x v u y _ R3 (r3.ext E3) ry ?_
            cases e3 : f x v S3 with
            | none => rw [e3] at q3; exact q3.elim
            | some p =>
              obtain ⟨z, S4⟩ := p
              rw [e3] at q3
              intro ρ4 H4 z' E4 R4 rz
              have q3 : AftS (kxOf X) W D ρ3 H3 (match S4[n]? with
                | some (.lst ys) => match ixN ys.length k with
                  | some j => .nx Γ (S4.set n (.lst (ys.set j z)))
                  | none => .bad
                | _ => .bad) := q3
              have ha4 := E4.get (E3.get ha)
              cases e4 : S4[n]? with
              | none => simp only [e4] at q3; exact q3.elim
              | some ob =>
                cases ob with
                | setT _ => simp only [e4] at q3; exact q3.elim
                | raw _ => simp only [e4] at q3; exact q3.elim
                | tbl _ => simp only [e4] at q3; exact q3.elim
                | dct _ => simp only [e4] at q3; exact q3.elim
                | lst ys =>
                  simp only [e4] at q3
                  obtain ⟨hl4, ws4, h5, h6⟩ := R4.at_ n a _ ha4 e4
                  cases e5 : ixN ys.length k with
                  | none => simp only [e5] at q3; exact q3.elim
                  | some j =>
                    simp only [e5] at q3
                    refine ⟨a, ws4, k, j, rfl, rfl, h5, by rw [← h6.len]; exact e5, ?_⟩
                    obtain ⟨E5, R5⟩ := R4.put ha4 e4 (by rw [List.length_set]; exact hl4) (h6.set j rz)
                    exact q3 ρ4 _ σ (E4.trans E5) R5 (((G2.ext E3).ext E4).ext E5)
    | _ => exact q2.elim
  | _ => exact q2.elim
end
end PM

namespace PM
open PySem PySem.Spec PyProof.Rows L2 Q2
/-! ### comprehensions of two clauses: the list stands in the store from the start -/
def putG (n : Nat) (v : Va) (S : Sto) : Option Sto := match S[n]? with
  | some (.lst xs) => if xs.length < sizeLine then some (S.set n (.lst (xs ++ [v]))) else none
  | _ => none
def compG (n : Nat) (it : ItV) (g : MG) (mt : MT) (me : ME) (Γ : En) : Nat → Nat → Sto → Res Unit
  | 0, i, S => match it.get i S with
    | some none => .ok () S
    | _ => .bad
  | k + 1, i, S => match it.get i S with
    | some none => .ok () S
    | none => .bad
    | some (some x) => (g x Γ S).bindN fun Γ1 S1 => (mt Γ1 S1).bindN fun b S2 => if b = true then (me Γ1 S2).bindN fun y S3 => match putG n y S3 with
        | some S4 => compG n it g mt me Γ k (i + 1) S4
        | none => .bad
        else compG n it g mt me Γ k (i + 1) S2
def comp2G (n : Nat) (it : ItV) (g : MG) (mt : MT) (mi1 : MI) (g1 : MG) (mt1 : MT) (me : ME) (vs1 : List Nat) (Γ : En) : Nat → Nat → Sto → Res Unit
  | 0, i, S => match it.get i S with
    | some none => .ok () S
    | _ => .bad
  | k + 1, i, S => match it.get i S with
    | some none => .ok () S
    | none => .bad
    | some (some x) => (g x Γ S).bindN fun Γ1 S1 => (mt Γ1 S1).bindN fun b S2 => if b = true then (mi1 Γ1 S2).bindN fun it1 S3 => (compG n it1 g1 mt1 me (wipeE Γ1 vs1) (it1.fuel S3) 0 S3).bindN fun _ S4 => comp2G n it g mt mi1 g1 mt1 me vs1 Γ k (i + 1) S4
        else comp2G n it g mt mi1 g1 mt1 me vs1 Γ k (i + 1) S2
def mLc2 (mi : MI) (g : MG) (mt : MT) (mi1 : MI) (g1 : MG) (mt1 : MT) (me : ME) (vs vs1 : List Nat) : ME := fun Γ S => (mi Γ S).bind fun it S1 => (comp2G S1.length it g mt mi1 g1 mt1 me vs1 (wipeE Γ vs) (it.fuel S1) 0 (S1 ++ [.lst []])).bindN fun _ S2 => .ok (.ref S1.length) S2
section
variable {X : Cx} {W : XW}
theorem lc2_imp {K : KX} {mi mi1 : MI} {g g1 : MG} {mt mt1 : MT} {me : ME} {us us1 vs vs1 : List Nat} (sub : ∀ i ∈ us, i ∈ vs) (sub1 : ∀ i ∈ us1, i ∈ vs1) (σ : L2.St) (H : Hp) (Q : VK) (h : tM K W (mLc2 mi g mt mi1 g1 mt1 me vs vs1) σ H Q) :
    tLc2 (tMI K W mi) (tMG K WF us g) (tMT K WF mt) (tMI K WF mi1) (tMG K WF us1 g1) (tMT K WF mt1) (tM K WF me) vs vs1 σ H Q := by
  obtain ⟨ρ, Γ, S, R, G, q⟩ := h
  refine ⟨ρ, Γ, S, R, G, q.bind fun it S1 ρ1 H1 J E1 R1 hJ q1 => ?_⟩
  intro D nD
  obtain ⟨E2, R2⟩ := R1.new (xs := []) (ws := []) nD (Nat.zero_le _) rfl
  generalize hn : S1.length = n at q1
  have hD0 : (ρ1 ++ [D])[n]? = some D := by rw [← hn, ← R1.len, List.getElem?_append_right (Nat.le_refl _), Nat.sub_self]; rfl
  refine ⟨fun i m H' => ∃ ρ' S', Ext (ρ1 ++ [D]) ρ' (upd H1 D (.lst [])) H' ∧ RS K ρ' S' H' ∧ Aft K W σ (Rv K) Q ρ1 H1 ((comp2G n it g mt mi1 g1 mt1 me vs1 (wipeE Γ vs) m i S').bindN fun _ S2 => .ok (.ref n) S2), ⟨_, _, _, R2.refl, R2, q1⟩, ?_⟩
  rintro i m H' ⟨ρ', S', E', R', q'⟩
  have EE := E2.trans E'
  have hD := E'.get hD0
  have stop : J.stop i H' → Aft K W σ (Rv K) Q ρ1 H1 (Res.ok (.ref n) S') → J.stop i H' ∧ Q (.ref D) H' := fun h1 h2 => ⟨h1, h2 ρ' H' (.ref D) EE R' ⟨D, hD, rfl⟩⟩
  have go := hJ ρ' S' H' EE R' i
  cases m with
  | zero =>
    unfold comp2G at q'
    cases e : it.get i S' with
    | none => rw [e] at q'; exact q'.elim
    | some o =>
      cases o with
      | some x => rw [e] at q'; exact q'.elim
      | none =>
        rw [e] at q' go
        exact .inl (stop go q')
  | succ k =>
    unfold comp2G at q'
    cases e : it.get i S' with
    | none => rw [e] at q'; exact q'.elim
    | some o =>
      cases o with
      | none =>
        rw [e] at q' go
        exact .inl (stop go q')
      | some x =>
        rw [e] at q' go
        refine .inr ⟨go.1, fun H2 => ∃ ρ2 S2, Ext (ρ1 ++ [D]) ρ2 (upd H1 D (.lst [])) H2 ∧ RS K ρ2 S2 H2 ∧ Aft K W σ (Rv K) Q ρ1 H1 ((comp2G n it g mt mi1 g1 mt1 me vs1 (wipeE Γ vs) k (i + 1) S2).bindN fun _ S2 => .ok (.ref n) S2), fun H2 h => ⟨k, Nat.lt_succ_self k, h⟩, fun y H2 hy => ?_⟩
        obtain ⟨E3, R3, r3⟩ := go.2 y H2 hy
        have G3 : RE K ρ' H2 (wipeE Γ vs) (L2.wipe σ vs) := (((G.ext E1).ext EE).ext E3).wipe vs
        have q' : Aft K W σ (Rv K) Q ρ1 H1 (((g x (wipeE Γ vs) S').bindN fun Γ1 S1 => (mt Γ1 S1).bindN fun b S2 => if b = true then (mi1 Γ1 S2).bindN fun it1 S3 => (compG n it1 g1 mt1 me (wipeE Γ1 vs1) (it1.fuel S3) 0 S3).bindN fun _ S4 => comp2G n it g mt mi1 g1 mt1 me vs1 (wipeE Γ vs) k (i + 1) S4
          else comp2G n it g mt mi1 g1 mt1 me vs1 (wipeE Γ vs) k (i + 1) S2).bindN fun _ S2 => .ok (.ref n) S2) := q'
        refine ⟨ρ', wipeE Γ vs, S', x, R3, G3, r3, ?_⟩
        cases eg : g x (wipeE Γ vs) S' with
        | bad => rw [eg] at q'; exact q'.elim
        | ex a b c d => rw [eg] at q'; exact q'.elim
        | ok Γ4 S4 =>
          rw [eg, bindN_ok] at q'
          rintro ρ4 H4 σ4 E4 R4 ⟨G4, ag⟩
          refine ⟨(ag vs sub).trans (wipe_wipe σ vs), ρ4, Γ4, S4, R4, G4, ?_⟩
          cases et : mt Γ4 S4 with
          | bad => rw [et] at q'; exact q'.elim
          | ex a b c d => rw [et] at q'; exact q'.elim
          | ok b S5 =>
            rw [et, bindN_ok] at q'
            rintro ρ5 H5 b' E5 R5 rfl
            have E15 : Ext (ρ1 ++ [D]) ρ5 (upd H1 D (.lst [])) H5 := ((E'.trans E3).trans E4).trans E5
            cases b' with
            | false => exact iteF ⟨ρ5, S5, E15, R5, q'⟩
            | true =>
              refine iteT ⟨ρ5, Γ4, S5, R5, G4.ext E5, ?_⟩
              rw [if_pos rfl] at q'
              cases em : mi1 Γ4 S5 with
              | bad => rw [em] at q'; exact q'.elim
              | ex a b c d => rw [em] at q'; exact q'.elim
              | ok it1 S6 =>
                rw [em, bindN_ok] at q'
                intro ρ6 H6 J1 E6 R6 hJ1
                have G6 := (G4.ext E5).ext E6
                refine ⟨fun j kk H' => ∃ ρ' S', Ext ρ6 ρ' H6 H' ∧ RS K ρ' S' H' ∧ Aft K W σ (Rv K) Q ρ1 H1 (((compG n it1 g1 mt1 me (wipeE Γ4 vs1) kk j S').bindN fun _ S4 => comp2G n it g mt mi1 g1 mt1 me vs1 (wipeE Γ vs) k (i + 1) S4).bindN fun _ S2 => .ok (.ref n) S2), ⟨_, ρ6, S6, R6.refl, R6, q'⟩, ?_⟩
                rintro j kk H7 ⟨ρ7, S7, E7, R7, q7⟩
                have E17 : Ext (ρ1 ++ [D]) ρ7 (upd H1 D (.lst [])) H7 := (E15.trans E6).trans E7
                have go1 := hJ1 ρ7 S7 H7 E7 R7 j
                cases kk with
                | zero =>
                  unfold compG at q7
                  cases e1 : it1.get j S7 with
                  | none => rw [e1] at q7; exact q7.elim
                  | some o =>
                    cases o with
                    | some x => rw [e1] at q7; exact q7.elim
                    | none =>
                      rw [e1] at q7 go1
                      exact .inl ⟨go1, ρ7, S7, E17, R7, q7⟩
                | succ k1 =>
                  unfold compG at q7
                  cases e1 : it1.get j S7 with
                  | none => rw [e1] at q7; exact q7.elim
                  | some o =>
                    cases o with
                    | none =>
                      rw [e1] at q7 go1
                      exact .inl ⟨go1, ρ7, S7, E17, R7, q7⟩
                    | some x1 =>
                      rw [e1] at q7 go1
                      refine .inr ⟨go1.1, fun H2 => ∃ ρ2 S2, Ext ρ6 ρ2 H6 H2 ∧ RS K ρ2 S2 H2 ∧ Aft K W σ (Rv K) Q ρ1 H1 (((compG n it1 g1 mt1 me (wipeE Γ4 vs1) k1 (j + 1) S2).bindN fun _ S4 => comp2G n it g mt mi1 g1 mt1 me vs1 (wipeE Γ vs) k (i + 1) S4).bindN fun _ S2 => .ok (.ref n) S2), fun H2 h => ⟨k1, Nat.lt_succ_self k1, h⟩, fun y1 H8 hy1 => ?_⟩
                      obtain ⟨E8, R8, r8⟩ := go1.2 y1 H8 hy1
                      have G8 : RE K ρ7 H8 (wipeE Γ4 vs1) (L2.wipe σ4 vs1) := ((G6.ext E7).ext E8).wipe vs1
                      have q7 : Aft K W σ (Rv K) Q ρ1 H1 ((((g1 x1 (wipeE Γ4 vs1) S7).bindN fun Γ1 S1 => (mt1 Γ1 S1).bindN fun b S2 => if b = true then (me Γ1 S2).bindN fun y S3 => match putG n y S3 with
                        | some S4 => compG n it1 g1 mt1 me (wipeE Γ4 vs1) k1 (j + 1) S4
                        | none => .bad
                        else compG n it1 g1 mt1 me (wipeE Γ4 vs1) k1 (j + 1) S2).bindN fun _ S4 => comp2G n it g mt mi1 g1 mt1 me vs1 (wipeE Γ vs) k (i + 1) S4).bindN fun _ S2 => .ok (.ref n) S2) := q7
                      refine ⟨ρ7, wipeE Γ4 vs1, S7, x1, R8, G8, r8, ?_⟩
                      cases eg1 : g1 x1 (wipeE Γ4 vs1) S7 with
                      | bad => rw [eg1] at q7; exact q7.elim
                      | ex a b c d => rw [eg1] at q7; exact q7.elim
                      | ok Γ9 S9 =>
                        rw [eg1, bindN_ok] at q7
                        rintro ρ9 H9 σ9 E9 R9 ⟨G9, ag9⟩
                        refine ⟨(ag9 vs1 sub1).trans (wipe_wipe σ4 vs1), ρ9, Γ9, S9, R9, G9, ?_⟩
                        cases et1 : mt1 Γ9 S9 with
                        | bad => rw [et1] at q7; exact q7.elim
                        | ex a b c d => rw [et1] at q7; exact q7.elim
                        | ok b1 S10 =>
                          rw [et1, bindN_ok] at q7
                          rintro ρ10 H10 b1' E10 R10 rfl
                          have E710 : Ext ρ6 ρ10 H6 H10 := ((E7.trans E8).trans E9).trans E10
                          cases b1' with
                          | false => exact iteF ⟨ρ10, S10, E710, R10, q7⟩
                          | true =>
                            refine iteT ⟨ρ10, Γ9, S10, R10, G9.ext E10, ?_⟩
                            rw [if_pos rfl] at q7
                            cases ee : me Γ9 S10 with
                            | bad => rw [ee] at q7; exact q7.elim
                            | ex a b c d => rw [ee] at q7; exact q7.elim
                            | ok z S11 =>
                              rw [ee, bindN_ok] at q7
                              intro ρ11 H11 z' E11 R11 rz
                              have hD11 : ρ11[n]? = some D := ((E15.trans E6).trans (E710.trans E11)).get hD0
                              cases ep : putG n z S11 with
                              | none => simp only [ep] at q7; exact q7.elim
                              | some S12 =>
                                simp only [ep] at q7
                                unfold putG at ep
                                cases es : S11[n]? with
                                | none => rw [es] at ep; cases ep
                                | some ob =>
                                  rw [es] at ep
                                  cases ob with
                                  | setT _ => cases ep
                                  | raw _ => cases ep
                                  | tbl _ => cases ep
                                  | dct _ => cases ep
                                  | lst xs =>
                                    simp only at ep
                                    by_cases hl : xs.length < sizeLine
                                    · rw [if_pos hl] at ep
                                      cases ep
                                      obtain ⟨_, ws, hw, rw'⟩ := R11.at_ n D _ hD11 es
                                      obtain ⟨E12, R12⟩ := R11.put hD11 es (xs := xs ++ [z]) (ws := ws ++ [z']) (by rw [List.length_append]; exact hl) (rw'.app (Rvs.cons rz Rvs.nil))
                                      exact ⟨ws, hw, by rw [← rw'.len]; exact hl, ρ11, _, (E710.trans E11).trans E12, R12, q7⟩
                                    · rw [if_neg hl] at ep
                                      cases ep
section
variable {elt tg iter tg1 iter1 : Expr} {ifs ifs1 : List Expr} {scope : Scope} {own : List (Str × Nat)} {vs1 us us1 : List Nat} {pos : Pos} {mi mi1 : MI} {g g1 : MG} {mt mt1 : MT} {me : ME}
theorem pm_lc2 (hc : X.calm = true) (hN : X.N.Nodup) (hi : PMI X W tg iter mi) (ok : BlkOk X.N X.env.scope scope own) (hv : ∀ i ∈ vs1, i ∈ own.map (·.2)) (sub : ∀ i ∈ us, i ∈ own.map (·.2)) (sub1 : ∀ i ∈ us1, i ∈ vs1)
    (hg : ∀ (s : Shared) (H : Hp) (C : Addr) (cl : List (Str × Addr)) (fp : List Addr), PMG (X.blk s H scope (compEnvC scope cl C X.env) fp) WF us tg g) (ht : ∀ (s : Shared) (H : Hp) (C : Addr) (cl : List (Str × Addr)) (fp : List Addr), PMTs (X.blk s H scope (compEnvC scope cl C X.env) fp) WF ifs mt)
    (hi1 : ∀ (s : Shared) (H : Hp) (C : Addr) (cl : List (Str × Addr)) (fp : List Addr), PMI (X.blk s H scope (compEnvC scope cl C X.env) fp) WF tg1 iter1 mi1)
    (hg1 : ∀ (s : Shared) (H : Hp) (C : Addr) (cl : List (Str × Addr)) (fp : List Addr), PMG (X.blk s H scope (compEnvC scope cl C X.env) fp) WF us1 tg1 g1) (ht1 : ∀ (s : Shared) (H : Hp) (C : Addr) (cl : List (Str × Addr)) (fp : List Addr), PMTs (X.blk s H scope (compEnvC scope cl C X.env) fp) WF ifs1 mt1)
    (he : ∀ (s : Shared) (H : Hp) (C : Addr) (cl : List (Str × Addr)) (fp : List Addr), PM (X.blk s H scope (compEnvC scope cl C X.env) fp) WF elt me) (hs : ∀ x, foldedSetIterable iter X.env x = pure x := by intro _; rfl) (hs1 : ∀ env x, foldedSetIterable iter1 env x = pure x := by intro _ _; rfl) :
    PM X W (.ListComp elt [⟨tg, iter, ifs, 0⟩, ⟨tg1, iter1, ifs1, 0⟩] scope pos) (mLc2 mi g mt mi1 g1 mt1 me (own.map (·.2)) vs1) :=
  pe_imp (pe_lc2 (g := tMG (kxOf X) WF us g) (tt := tMT (kxOf X) WF mt) (wi1 := tMI (kxOf X) WF mi1) (g1 := tMG (kxOf X) WF us1 g1) (tt1 := tMT (kxOf X) WF mt1) (te := tM (kxOf X) WF me) hc hN hi ok hv hg ht hi1 hg1 ht1 he hs hs1) (lc2_imp sub sub1)
theorem pms_lc2 {i : Nat} {y : Str} {py spos : Pos} (hc : X.calm = true) (hN : X.N.Nodup) (hy : X.N[i]? = some y) (hyl : X.env.scope.names.lookup y = some .local)
    (hsw : swapsWith (.ListComp elt [⟨tg, iter, ifs, 0⟩, ⟨tg1, iter1, ifs1, 0⟩] scope pos) (some (.Name y py)) spos.line X.env = pure true) (hi : PMI X W tg iter mi) (ok : BlkOk X.N X.env.scope scope own) (hv : ∀ i ∈ vs1, i ∈ own.map (·.2)) (sub : ∀ i ∈ us, i ∈ own.map (·.2)) (sub1 : ∀ i ∈ us1, i ∈ vs1)
    (hg : ∀ (s : Shared) (H : Hp) (C : Addr) (cl : List (Str × Addr)) (fp : List Addr), PMG (X.blk s H scope (compEnvC scope cl C X.env) fp) WF us tg g) (ht : ∀ (s : Shared) (H : Hp) (C : Addr) (cl : List (Str × Addr)) (fp : List Addr), PMTs (X.blk s H scope (compEnvC scope cl C X.env) fp) WF ifs mt)
    (hi1 : ∀ (s : Shared) (H : Hp) (C : Addr) (cl : List (Str × Addr)) (fp : List Addr), PMI (X.blk s H scope (compEnvC scope cl C X.env) fp) WF tg1 iter1 mi1)
    (hg1 : ∀ (s : Shared) (H : Hp) (C : Addr) (cl : List (Str × Addr)) (fp : List Addr), PMG (X.blk s H scope (compEnvC scope cl C X.env) fp) WF us1 tg1 g1) (ht1 : ∀ (s : Shared) (H : Hp) (C : Addr) (cl : List (Str × Addr)) (fp : List Addr), PMTs (X.blk s H scope (compEnvC scope cl C X.env) fp) WF ifs1 mt1)
    (he : ∀ (s : Shared) (H : Hp) (C : Addr) (cl : List (Str × Addr)) (fp : List Addr), PM (X.blk s H scope (compEnvC scope cl C X.env) fp) WF elt me) (hs : ∀ x, foldedSetIterable iter X.env x = pure x := by intro _; rfl) (hs1 : ∀ env x, foldedSetIterable iter1 env x = pure x := by intro _ _; rfl) :
    PMS X W (.Assign [.Name y py] (.ListComp elt [⟨tg, iter, ifs, 0⟩, ⟨tg1, iter1, ifs1, 0⟩] scope pos) spos) (sSet i (mLc2 mi g mt mi1 g1 mt1 me (own.map (·.2)) vs1)) :=
  pms_set (ps_imp (ps_setLc2 (g := tMG (kxOf X) WF us g) (tt := tMT (kxOf X) WF mt) (wi1 := tMI (kxOf X) WF mi1) (g1 := tMG (kxOf X) WF us1 g1) (tt1 := tMT (kxOf X) WF mt1) (te := tM (kxOf X) WF me) hc hN hy hyl hsw hi ok hv hg ht hi1 hg1 ht1 he hs hs1) fun D σ H h => lc2_imp sub sub1 σ H _ h)
end
end
end PM

namespace PM
open PySem PySem.Spec PyProof.Rows L2 Q2 RZ
section
variable {X : Cx} {W : XW}
/-! ### zip of two lists, of two tuples -/
def zipT2 (v w : Va) (S : Sto) : Res ItV := match v, w with
  | .tup xs, .tup ys => .ok (.zipT xs ys) S
  | _, _ => .bad
def zipOf (v w : Va) (S : Sto) : Res ItV := match lstOf S v, lstOf S w with
  | some _, some _ => .ok (.zip v w) S
  | _, _ => zipT2 v w S
def mZip (t : MA) : MI := fun Γ S => (t Γ S).bind fun vs S1 => match vs with
  | [v, w] => zipOf v w S1
  | _ => .bad
theorem pair_yld {K : KX} {ρ : List Addr} {S : Sto} {H H' : Hp} {x y : Va} {u v z : V} {T : Addr} (R : RS K ρ S H) (hx : Rv K ρ H x u) (hy : Rv K ρ H y v) (e : z = .ref T) (nT : H T = none) (e2 : H' = upd H T (.tup [u, v])) : Ext ρ ρ H H' ∧ RS K ρ S H' ∧ Rv K ρ H' (.tup [x, y]) z := by
  subst e
  subst e2
  obtain ⟨E, R2⟩ := R.own (o := .tup [u, v]) nT
  exact ⟨E, R2, T, [u, v], rfl, SqT.of upd_same, Rvs.cons (hx.ext E) (Rvs.cons (hy.ext E) rfl)⟩
theorem pmi_zip {e e2 : Expr} {t : MA} {p pos tpos : Pos} {elts : List Expr} {kk : Nat} (hg : Gl X "zip") (hm : X.mg "zip" = none) (ha : PMA X W [e, e2] t)
    (hs : starEach [e, e2] X.env = (false, eval e X.env) :: starEach [e2] X.env := by rfl) (hpl : (backTo pos (starEach [e2] X.env)).any (·.1) = false := by rfl) :
    PMI X W (.Tuple elts kk tpos) (.Call (.Name "zip" p) [e, e2] [] pos) (mZip t) := by
  refine pi_imp (pi_zipA hg hm ha hs hpl) fun σ H R' ⟨ρ, Γ, S, R, G, q⟩ => ?_
  refine ⟨ρ, Γ, S, R, G, q.bind fun vs S1 ρ1 H1 ws E1 R1 rx q1 => ?_⟩
  match vs, rx, q1 with
  | [], _, q1 => exact q1.elim
  | [_], _, q1 => exact q1.elim
  | _ :: _ :: _ :: _, _, q1 => exact q1.elim
  | [v, w], rx, q1 =>
    obtain ⟨x, y, rfl, r1, r2⟩ := two_of rx rfl
    have q1 : Aft (kxOf X) W σ (ItOk (kxOf X)) R' ρ1 H1 (zipOf v w S1) := q1
    unfold zipOf at q1
    have tupCase : (∀ xs ys, lstOf S1 v = some xs → lstOf S1 w = some ys → False) → ∃ xs ys, v = .tup xs ∧ w = .tup ys ∧ Aft (kxOf X) W σ (ItOk (kxOf X)) R' ρ1 H1 (.ok (.zipT xs ys) S1) := by
      intro hno
      have q2 : Aft (kxOf X) W σ (ItOk (kxOf X)) R' ρ1 H1 (zipT2 v w S1) := by
        cases ea : lstOf S1 v with
        | none => simp only [ea] at q1; exact q1
        | some xs =>
          cases eb : lstOf S1 w with
          | none => simp only [ea, eb] at q1; exact q1
          | some ys => exact (hno xs ys ea eb).elim
      cases v with
      | tup xs =>
        cases w with
        | tup ys => exact ⟨xs, ys, rfl, rfl, q2⟩
        | _ => exact q2.elim
      | _ => exact q2.elim
    by_cases hl : ∃ xs ys, lstOf S1 v = some xs ∧ lstOf S1 w = some ys
    · obtain ⟨xs, ys, ea, eb⟩ := hl
      simp only [ea, eb] at q1
      obtain ⟨a, us, rfl, h1, h2⟩ := lst_of R1 r1 ea
      obtain ⟨b, zs, rfl, h3, h4⟩ := lst_of R1 r2 eb
      refine ⟨a, b, us, zs, rfl, .inl ⟨h1, h3, q1 ρ1 H1 (Itz X.K a b) R1.refl R1 fun ρ' S' H' E' R'' i => ?_⟩⟩
      cases ea' : lstOf S' v with
      | none => simp only [ItV.get, ea']
      | some xs' =>
        cases eb' : lstOf S' w with
        | none => simp only [ItV.get, ea', eb']
        | some ys' =>
          obtain ⟨a', us', e1, h1', h2'⟩ := lst_of R'' (r1.ext E') ea'
          cases e1
          obtain ⟨b', zs', e2, h3', h4'⟩ := lst_of R'' (r2.ext E') eb'
          cases e2
          cases ex : xs'[i]? with
          | none =>
            simp only [ItV.get, ea', eb', ex, pair2]
            refine ⟨us', zs', h1', h3', .inl ?_⟩
            rw [← h2'.len]
            exact List.getElem?_eq_none_iff.mp ex
          | some x =>
            cases ey : ys'[i]? with
            | none =>
              simp only [ItV.get, ea', eb', ex, ey, pair2]
              refine ⟨us', zs', h1', h3', .inr ?_⟩
              rw [← h4'.len]
              exact List.getElem?_eq_none_iff.mp ey
            | some y =>
              obtain ⟨u, hu, ru⟩ := h2'.get ex
              obtain ⟨z, hz, rz⟩ := h4'.get ey
              simp only [ItV.get, ea', eb', ex, ey, pair2]
              refine ⟨⟨us', zs', u, z, h1', h3', hu, hz⟩, fun v' H'' hy => ?_⟩
              obtain ⟨T, p1, p2, e3, e4, e5, e6, e7⟩ := hy
              have k1 := e6 _ h1'
              have k2 := e7 _ h3'
              rw [hu] at k1
              rw [hz] at k2
              cases k1
              cases k2
              exact pair_yld R'' ru rz e3 e4 e5
    · obtain ⟨xs, ys, rfl, rfl, q2⟩ := tupCase fun xs ys h1 h2 => hl ⟨xs, ys, h1, h2⟩
      obtain ⟨a, us, rfl, h1, h2⟩ := r1
      obtain ⟨b, zs, rfl, h3, h4⟩ := r2
      refine ⟨a, b, us, zs, rfl, .inr ⟨h1, h3, q2 ρ1 H1 (ItzT X.K a b) R1.refl R1 fun ρ' S' H' E' R'' i => ?_⟩⟩
      have h1' := E'.sqt (K := kxOf X) h1
      have h3' := E'.sqt (K := kxOf X) h3
      have h2' := Rvs.ext E' h2
      have h4' := Rvs.ext E' h4
      cases ex : xs[i]? with
      | none =>
        simp only [ItV.get, ex, pair2]
        refine ⟨us, zs, h1', h3', .inl ?_⟩
        rw [← h2.len]
        exact List.getElem?_eq_none_iff.mp ex
      | some x =>
        cases ey : ys[i]? with
        | none =>
          simp only [ItV.get, ex, ey, pair2]
          refine ⟨us, zs, h1', h3', .inr ?_⟩
          rw [← h4.len]
          exact List.getElem?_eq_none_iff.mp ey
        | some y =>
          obtain ⟨u, hu, ru⟩ := h2'.get ex
          obtain ⟨z, hz, rz⟩ := h4'.get ey
          simp only [ItV.get, ex, ey, pair2]
          refine ⟨⟨us, zs, u, z, h1', h3', hu, hz⟩, fun v' H'' hy => ?_⟩
          obtain ⟨T, p1, p2, e3, e4, e5, e6, e7⟩ := hy
          have k1 := e6 _ h1'
          have k2 := e7 _ h3'
          rw [hu] at k1
          rw [hz] at k2
          cases k1
          cases k2
          exact pair_yld R'' ru rz e3 e4 e5
end
section
variable {X : Cx}
/-! ### x *= e -/
theorem iop_mulW : OpR X (inplaceOp .Mult) (rI CMulW fun i j => .int (i * j)) := opI fun _ _ _ _ _ _ _ hc q => imul_int q hc.ok
theorem ipMul : IpP X .Mult mulI := by
  have h : OpP X (inplaceOp .Mult) mulI := opI2 (rI_or iop_mul iop_mulW) (fun i j h => or_dec (p := (-(2 ^ 64) < i ∧ i < 2 ^ 64) ∨ (-(2 ^ 64) < j ∧ j < 2 ^ 64)) (q := i.natAbs.log2 + j.natAbs.log2 < 1000000) (by unfold mulC at h; exact h)) fun _ _ _ _ => rfl
  exact h
end
/-! ### xs.pop(i) -/
theorem Rvs.erase {K : KX} {ρ : List Addr} {H : Hp} {xs : List Va} {ws : List V} (h : Rvs K ρ H xs ws) (k : Nat) : Rvs K ρ H (xs.eraseIdx k) (ws.eraseIdx k) := by
  rw [List.eraseIdx_eq_take_drop_succ, List.eraseIdx_eq_take_drop_succ]
  exact (h.take k).app (h.drop (k + 1))
def mPopAt (o : ME) (t : MA) : ME := fun Γ S => (o Γ S).bind fun ov S1 => match ov with
  | .ref n => match S1[n]? with
    | some (.lst _) => (t Γ S1).bind fun vs S2 => match vs, S2[n]? with
      | [.int i], some (.lst xs) => match seqIndex? i xs.length with
        | some k => match xs[k]? with
          | some y => if -(2 ^ 63) ≤ i ∧ i < 2 ^ 63 then .ok y (S2.set n (.lst (xs.eraseIdx k))) else .bad
          | none => .bad
        | none => .bad
      | _, _ => .bad
    | _ => .bad
  | _ => .bad
theorem pm_popAt {X : Cx} {W : XW} {o e : Expr} {es : List Expr} {mo : ME} {t : MA} {apos cpos : Pos} (ho : PM X W o mo) (ht : PMA X W (e :: es) t)
    (hbase : attributeBase o "pop" X.env (eval o X.env) = eval o X.env := by rfl)
    (hfew : ((backTo cpos (starEach (e :: es) X.env)).all (fun x => !x.1) && (backToKw cpos (keywordEach [] X.env)).all (fun x => x.1.isSome)
      && decide ((e :: es).length + ([] : List Keyword).length + (if ([] : List Keyword).isEmpty then 0 else 1) < 30)) = true := by rfl)
    (hline : (apos.endLine == cpos.line) = true := by rfl) (hs : starEach (e :: es) X.env = (false, eval e X.env) :: starEach es X.env := by rfl) (hplain : (backTo cpos (starEach es X.env)).any (·.1) = false := by rfl) :
    PM X W (.Call (.Attribute o "pop" apos) (e :: es) [] cpos) (mPopAt mo t) := by
  refine pe_imp (pe_bm PySem.F.plainAttrs_list PySem.F.slot_list_pop PySem.F.type_list_pop mt_popAt ho ht hbase hfew hline hs hplain) fun σ H Q ⟨ρ, Γ, S, R, G, q⟩ => ?_
  refine ⟨ρ, Γ, S, R, G, q.bind fun ov S1 ρ1 H1 x E1 R1 rx q1 => ?_⟩
  cases ov with
  | ref n =>
    obtain ⟨a, ha, rfl⟩ := rx
    cases e : S1[n]? with
    | none => simp only [e] at q1; exact q1.elim
    | some ob =>
      cases ob with
      | setT _ => simp only [e] at q1; exact q1.elim
      | raw _ => simp only [e] at q1; exact q1.elim
      | tbl _ => simp only [e] at q1; exact q1.elim
      | dct _ => simp only [e] at q1; exact q1.elim
      | lst xs1 =>
        simp only [e] at q1
        obtain ⟨_, ws1, h1, _⟩ := R1.at_ n a _ ha e
        refine ⟨.inl ⟨rfl, ws1, SqL.of h1⟩, ρ1, Γ, S1, R1, G.ext E1, q1.bind fun vs S2 ρ2 H2 ys E2 R2 ry q2 => ?_⟩
        cases vs with
        | nil => exact q2.elim
        | cons v r =>
          cases r with
          | cons _ _ => cases v <;> exact q2.elim
          | nil =>
            obtain ⟨y, rfl, r1⟩ := one_of ry rfl
            have ha2 := E2.get ha
            cases v with
            | int i =>
              cases r1
              cases e2 : S2[n]? with
              | none => simp only [e2] at q2; exact q2.elim
              | some ob =>
                cases ob with
                | setT _ => simp only [e2] at q2; exact q2.elim
                | raw _ => simp only [e2] at q2; exact q2.elim
                | tbl _ => simp only [e2] at q2; exact q2.elim
                | dct _ => simp only [e2] at q2; exact q2.elim
                | lst xs =>
                  simp only [e2] at q2
                  obtain ⟨hl, ws, h4, h5⟩ := R2.at_ n a _ ha2 e2
                  cases e3 : seqIndex? i xs.length with
                  | none => simp only [e3] at q2; exact q2.elim
                  | some k =>
                    simp only [e3] at q2
                    cases e4 : xs[k]? with
                    | none => simp only [e4] at q2; exact q2.elim
                    | some z =>
                      simp only [e4] at q2
                      by_cases hb : -(2 ^ 63) ≤ i ∧ i < 2 ^ 63
                      · rw [if_pos hb] at q2
                        obtain ⟨u, hu, ru⟩ := h5.get e4
                        refine ⟨a, ws, i, k, u, rfl, rfl, h4, hb.1, hb.2, by rw [← h5.len]; exact e3, hu, ?_⟩
                        obtain ⟨E3, R3⟩ := R2.put ha2 e2 (Nat.le_trans (List.length_eraseIdx_le xs k) hl) (h5.erase k)
                        exact q2 ρ2 _ _ E3 R3 (ru.ext E3)
                      · rw [if_neg hb] at q2
                        exact q2.elim
            | _ => exact q2.elim
  | _ => exact q1.elim
/-! ### f() -/
theorem pm_call0 {X : Cx} {W : XW} {k : Nat} {x : Str} {g : MF} {f : Addr} {fd : FuncData} {p pos : Pos} (D : Dx X.prog X.w X.K X.mg X.base k x [] g f fd) (tk : Takes X (wx X.mg W)) (hr : Room k X.A) (hg : Gl X x)
    (hdb : (x == ("__debug__" : Str)) = false := by decide) : PM X W (.Call (.Name x p) [] [] pos) (mCall g maN) := by
  have h : PE X (.Call (.Name x p) [] [] pos) (tCallS (spM ⟨X.K, X.prog, X.w⟩ X.mg 0 g) (WE (wx X.mg W)) tNil) := by
    refine ⟨fun pins s σ H Q I h => ?_⟩
    refine wpAny_Call_Name_kw (ld_glob I hg D.gl ?_ hdb)
    exact PySem.W.callWith_K0 I.kIn D.kp (run_fnS (us := []) D.ok hr D.bd (passAt tk σ) I .nil h)
  refine pe_imp h fun σ H Q ⟨ρ, Γ, S, R, G, q⟩ => ?_
  have q : Aft (kxOf X) W σ (Rv (kxOf X)) Q ρ H (g [] S) := q
  exact ⟨rfl, ρ, S, [], R, rfl, q.call⟩
end PM

namespace PM
open PySem PySem.Spec PyProof.Rows L2
/-- the binary figures of a number as signs -/
def binL (n : Nat) : List Nat := (Nat.toDigits 2 n).map Char.toNat
theorem binL_ne (n : Nat) : (binL n).isEmpty = false := by
  unfold binL
  cases e : Nat.toDigits 2 n with
  | nil => exact absurd e Nat.toDigits_ne_nil
  | cons x y => rfl
theorem bf_give {a : Int} {t : Tok} (h0 : 0 ≤ a) (hl : (binL a.natAbs).length ≤ sizeLine) : ∀ u, Meets (Builtin.«int.__format__» ⟨[.int a t, .str (Str.ofString "b") u], []⟩) (fun _ R s => ∀ t' k, R (.ok (.ret (.str (⟨(binL a.natAbs).toArray⟩ : PySem.Str) t'))) { s with toks := k }) := by
  intro u
  apply W.KPc.meets_of
  intro prog w A R s hh hQ
  unfold Builtin.«int.__format__»
  refine wpAny_bind (wpAny_of_eq (a := (_, _)) rfl ?_)
  refine wpAny_bind (wpAny_of_eq (a := _) rfl ?_)
  kxf_if
  refine wpAny_bind (wpAny_typeNameOf (T := "str") (typeIs_str _ _ _) (by decide) fun _ => ?_)
  refine wpAny_bind (wpAny_of_eq (a := some _) rfl ?_)
  kxf_if
  kxf_if
  refine wpAny_bind (wpAny_typeNameOfCut_int ?_)
  repeat kxf_if
  have hd : decide (a < 0) = false := decide_eq_false (by omega)
  have key : ∀ X : PySem.Str, X = (⟨(binL a.natAbs).toArray⟩ : PySem.Str) → wpAny (model prog w) A (retStr X) s hh R := fun X e => by
    refine W.KXf.ret_text e ?_ hQ
    rw [e]
    exact hl
  refine key _ ?_
  rw [hd]
  have he := binL_ne a.natAbs
  show (⟨(List.replicate ((-1 : Int) - (((0 : Nat) : Int) + ((0 : Nat) : Int) + ((0 : Nat) : Int)) - (if (binL a.natAbs).isEmpty = true then [] else List.replicate ((0 : Int).toNat - (binL a.natAbs).length) 48 ++ binL a.natAbs).length).toNat 32 ++ [] ++ [] ++ List.replicate 0 32 ++ (if (binL a.natAbs).isEmpty = true then [] else List.replicate ((0 : Int).toNat - (binL a.natAbs).length) 48 ++ binL a.natAbs) ++ [] ++ List.replicate 0 32).toArray⟩ : PySem.Str) = _
  rw [he]
  have e1 : (0 : Int).toNat - (binL a.natAbs).length = 0 := by simp
  have e2 : ((-1 : Int) - (((0 : Nat) : Int) + ((0 : Nat) : Int) + ((0 : Nat) : Int)) - ((if false = true then [] else List.replicate 0 48 ++ binL a.natAbs : List Nat).length : Int)).toNat = 0 := by omega
  rw [e1, e2]
  simp
/-- {x:b} of a number that is none below 0 -/
def tFmtB (te : TE) : TE := fun σ H Q => te σ H fun x H1 => ∃ i : Int, x = .int i ∧ 0 ≤ i ∧ (binL i.natAbs).length ≤ sizeLine ∧ Q (.str (⟨(binL i.natAbs).toArray⟩ : PySem.Str)) H1
theorem pe_fmtB {X : Cx} {e : Expr} {te : TE} {j : Nat} {pos p2 p3 : Pos} (he : PE X e te) : PE X (.FormattedValue e (-1) (some (.JoinedStr [.Constant (.str (Str.ofString "b")) j p2] p3)) pos) (tFmtB te) := by
  refine ⟨fun pins s σ H Q I h => ?_⟩
  refine wpAny_FormattedValue_spec (thn (he.run pins s σ H _ I h) fun v s1 hv => ?_)
  obtain ⟨x, H1, I1, r1, i, rfl, h0, hl, q⟩ := hv
  obtain ⟨t, rfl⟩ := r1
  refine thn ((pe_joined1 (pos := p3) (pe_str (X := X) (x := Str.ofString "b") (j := j) (pos := p2))).run pins s1 σ H1 (fun y H2 => y = .str (Str.ofString "b") ∧ H2 = H1) I1 ⟨rfl, rfl⟩) fun v s2 hv => ?_
  obtain ⟨y, H2, I2, r2, rfl, rfl⟩ := hv
  obtain ⟨t2, rfl⟩ := r2
  exact ⟨_, _, rfl, W.KXf.field_int rfl (by decide) (by decide) (bf_give h0 hl) fun t' k => ⟨.str _, _, I2.tok _, ⟨_, rfl⟩, q⟩⟩
end PM

namespace PM
open PySem PySem.Spec PyProof.Rows L2 PySem.NumText PySem.Calls
/-- signs 0 and 1, read with base 4 -/
def Bits (l : List Nat) : Prop := ∀ z ∈ l, z = 48 ∨ z = 49
def num4 (l : List Nat) : Nat := l.foldl (fun n z => n * 4 + (z - 48)) 0
section
variable {l : List Nat} {z : Nat}
theorem Bits.tl (h : Bits (z :: l)) : Bits l := fun y hy => h y (List.mem_cons_of_mem _ hy)
theorem Bits.hd (h : Bits (z :: l)) : z = 48 ∨ z = 49 := h z (List.mem_cons_self ..)
theorem step4 (h : z = 48 ∨ z = 49) (ds : Array Nat) (b : Bool) : PySem.NumText.step 4 (ds, b) z = some (ds.push (z - 48), true) := by
  rcases h with rfl | rfl <;> rfl
theorem steps4 : ∀ (l : List Nat) (ds : Array Nat) (b : Bool), Bits l → l ≠ [] → l.foldlM (PySem.NumText.step 4) (ds, b) = some (l.foldl (fun out z => out.push (z - 48)) ds, true)
  | [], _, _, _, n => absurd rfl n
  | [z], ds, b, h, _ => by
    simp only [List.foldlM_cons, step4 h.hd]
    rfl
  | z :: y :: r, ds, b, h, _ => by
    rw [List.foldlM_cons, step4 h.hd]
    exact steps4 (y :: r) _ true h.tl (by simp)
theorem figs4 (h : Bits l) (n : l ≠ []) : digits? 4 l = some (l.foldl (fun out z => out.push (z - 48)) #[]) := by
  unfold digits?
  rw [steps4 l _ _ h n]
  rfl
theorem fold4 : ∀ (l : List Nat) (ds : Array Nat), (l.foldl (fun out z => out.push (z - 48)) ds).foldl (fun n d => n * 4 + d) 0 = l.foldl (fun n z => n * 4 + (z - 48)) (ds.foldl (fun n d => n * 4 + d) 0)
  | [], _ => rfl
  | z :: r, ds => by
    rw [List.foldl_cons, fold4 r, List.foldl_cons]
    exact congrArg (fun n => r.foldl _ n) (by simp)
theorem noBlank (h : Bits l) : l.dropWhile blank = l := by
  cases l with
  | nil => rfl
  | cons z r => exact dropWhile_of (by rcases h.hd with rfl | rfl <;> decide)
theorem noSign (h : Bits l) : sign l = (false, l) := by
  cases l with
  | nil => rfl
  | cons z r => exact sign_of (by rcases h.hd with rfl | rfl <;> decide) (by rcases h.hd with rfl | rfl <;> decide)
theorem base4 (h : Bits l) : based 4 l = (4, false, l) := by
  match l, h with
  | [], _ => rfl
  | [z], h => rcases h.hd with rfl | rfl <;> rfl
  | z :: y :: r, h => rcases h.hd with rfl | rfl <;> rcases h.tl.hd with rfl | rfl <;> rfl
theorem read4 (h : Bits l) (n : l ≠ []) : (int_private% "readNumeral") 0 4 l = (int_private% "Numeral.value") ((num4 l : Nat) : Int) := by
  have hr : Bits l.reverse := fun y hy => h y (List.mem_reverse.mp hy)
  refine (readNumeral_eq 0 4 l).trans ?_
  rw [noBlank h, noSign h]
  show judge 0 false (based 4 l).1 (based 4 l).2.1 (digits? (based 4 l).1 ((List.dropWhile blank (based 4 l).2.2.reverse).reverse)) = _
  rw [base4 h]
  show judge 0 false 4 false (digits? 4 ((List.dropWhile blank l.reverse).reverse)) = _
  rw [noBlank hr, List.reverse_reverse, figs4 h n]
  show (int_private% "Numeral.value") ((Array.foldl (fun n d => n * 4 + d) 0 (l.foldl (fun out z => out.push (z - 48)) (#[] : Array Nat)) : Nat) : Int) = _
  rw [fold4]
  rfl
theorem seen4 {x : PySem.Str} (h : Bits x.cps.toList) : numTextOf x = x.cps.toList ∧ numSeenOf x = x.cps.toList := by
  have lt : ∀ y ∈ x.cps.toList, y < 128 ∧ y ≠ 0 := fun y hy => by rcases h y hy with rfl | rfl <;> decide
  have e1 : numTextOf x = x.cps.toList := by
    unfold numTextOf
    rw [if_pos]
    rw [← Array.all_toList]
    exact List.all_eq_true.mpr fun y hy => by simpa using (lt y hy).1
  refine ⟨e1, ?_⟩
  unfold numSeenOf
  rw [e1]
  exact takeWhile_all fun y hy => by simpa using (lt y hy).2
structure Kept (p : Prop) : Prop where
  get : p
theorem new4 {x : PySem.Str} {u t : Tok} (hl : x.length ≤ 640) (h : Bits x.cps.toList) (n : x.cps.toList ≠ []) : Gives (Builtin.«int.__new__» ⟨[.type "int", .str x u, .int 4 t], []⟩) (.int ((num4 x.cps.toList : Nat) : Int)) := by
  obtain ⟨e1, e2⟩ := seen4 h
  have k : Kept ((numSeenOf x).length ≤ 640 ∧ (int_private% "readNumeral") 0 4 (numSeenOf x) = (int_private% "Numeral.value") ((num4 x.cps.toList : Nat) : Int) ∧ ((numSeenOf x).length == (numTextOf x).length) = true) := by
    rw [e1, e2]
    exact ⟨by rw [Array.length_toList]; exact hl, read4 h n, beq_self_eq_true _⟩
  refine .of_wp fun M A E s Q hQ => ?_
  obtain ⟨hp, g, d, tk, os⟩ := s
  have g1 := F.conv_sub_int
  have g2 := F.madeHere_int
  have g3 : typeOf (.str x u) = pure (.type "str") := rfl
  clear hl h n e1 e2
  repeat (any_goals (first
    | assumption
    | ((with_reducible show wpAny _ _ ((int_private% "intFromText") _ _ _) _ _ _); refine Hx.wp_textB k.get.1 k.get.2.1 k.get.2.2 ?_)
    | wp_step))
  all_goals first | exact ⟨_, rfl, hQ⟩ | skip
end
/-- int(text, 4) of a text of signs 0 and 1 -/
def rInt4 : List V → Hp → VK → Prop := fun xs H Q => ∃ l : List Nat, xs = [.str (⟨l.toArray⟩ : PySem.Str), .int 4] ∧ l ≠ [] ∧ l.length ≤ 640 ∧ Bits l ∧ Q (.int ((num4 l : Nat) : Int)) H
theorem cr_int4 {X : Cx} : CallR X (.type "int") rInt4 := by
  intro pins s σ H xs us Q I r h
  obtain ⟨l, rfl, n, hl, hb, q⟩ := h
  obtain ⟨u, w', rfl, r1, r2⟩ := vals2 r
  obtain ⟨t1, rfl⟩ := r1
  obtain ⟨t2, rfl⟩ := r2
  have e : (⟨l.toArray⟩ : PySem.Str).cps.toList = l := rfl
  have g := new4 (x := (⟨l.toArray⟩ : PySem.Str)) (u := t1) (t := t2) (by simpa [PySem.Str.length] using hl) hb n
  rw [e] at g
  exact callType_new F.called_int F.newNe_int (Hx.typeCall_int_2 _ _) (Hx.newCall_int_2 _ _) (fun obj => F.initArgs_range_2 obj _ _) F.entry_int_new g.meets (show (Made.int ((num4 l : Nat) : Int)).post _ s from ⟨rfl, .int ((num4 l : Nat) : Int), H, I.tok _, ⟨_, rfl⟩, q⟩)
end PM

namespace PM
open PySem PySem.Spec PyProof.Rows L2 Q2
section
variable {X : Cx} {W : XW}
/-! ### f'{x:b}', int(text, 4), x.bit_length() -/
def binF : F1 := fun v S => match v with
  | .int i => if 0 ≤ i ∧ (binL i.natAbs).length ≤ 640 then some (.str (⟨(binL i.natAbs).toArray⟩ : PySem.Str), S) else none
  | _ => none
theorem pm_binF {e : Expr} {m : ME} {j : Nat} {pos p2 p3 p4 : Pos} (h : PM X W e m) : PM X W (.JoinedStr [.FormattedValue e (-1) (some (.JoinedStr [.Constant (.str (Str.ofString "b")) j p2] p3)) pos] p4) (m1 binF m) := by
  refine pe_imp (pe_joined1 (pe_fmtB h)) fun σ H Q ⟨ρ, Γ, S, R, G, q⟩ => ?_
  refine ⟨ρ, Γ, S, R, G, q.bind fun v S1 ρ1 H1 x E1 R1 rx q1 => ?_⟩
  have q1 := q1.ans
  cases v with
  | int i =>
    cases rx
    have q1 : Ans (kxOf X) Q ρ1 H1 (if 0 ≤ i ∧ (binL i.natAbs).length ≤ 640 then some (.str (⟨(binL i.natAbs).toArray⟩ : PySem.Str), S1) else none) := q1
    obtain ⟨hl, a⟩ := ans_if q1
    exact ⟨i, rfl, hl.1, Nat.le_trans hl.2 (show 640 ≤ 2 ^ 24 by decide), a ρ1 H1 _ R1.refl R1 rfl⟩
  | _ => exact q1.elim
def isBits (l : List Nat) : Bool := l.all fun z => z == 48 || z == 49
def int4V (v w : Va) (S : Sto) : Option (Va × Sto) := match v with
  | .str z => match w with
    | .int i => if i = 4 ∧ z.cps.toList ≠ [] ∧ z.cps.toList.length ≤ 640 ∧ isBits z.cps.toList = true then some (.int ((num4 z.cps.toList : Nat) : Int), S) else none
    | _ => none
  | _ => none
def fInt4 : FL := fL2 int4V
theorem cInt4 : CallP X (.type "int") fInt4 := by
  refine ⟨_, cr_int4, callM2 fun ρ S H v w x y Q R r r' a => ?_⟩
  cases v with
  | str z =>
    cases w with
    | int i =>
      cases r
      cases r'
      have a : Ans (kxOf X) Q ρ H (if i = 4 ∧ z.cps.toList ≠ [] ∧ z.cps.toList.length ≤ 640 ∧ isBits z.cps.toList = true then some (.int ((num4 z.cps.toList : Nat) : Int), S) else none) := a
      obtain ⟨⟨e4, h1, h2, h3⟩, b⟩ := ans_if a
      subst e4
      refine ⟨z.cps.toList, rfl, h1, h2, fun y hy => ?_, b ρ H _ R.refl R rfl⟩
      have := List.all_eq_true.mp h3 y hy
      simpa using this
    | _ => exact a.elim
  | _ => exact a.elim
def bitsI : F1 := fun v S => match v with
  | .int i => some (.int (Builtin.Int.intBits i : Nat), S)
  | _ => none
theorem pm_bits {o : Expr} {m : ME} {apos pos : Pos} (h : PM X W o m) (hbase : attributeBase o "bit_length" X.env (eval o X.env) = eval o X.env := by rfl) (hline : (apos.endLine == pos.line) = true := by rfl) : PM X W (.Call (.Attribute o "bit_length" apos) [] [] pos) (m1 bitsI m) := by
  refine pe_imp (pe_bits h hbase hline) fun σ H Q ⟨ρ, Γ, S, R, G, q⟩ => ?_
  refine ⟨ρ, Γ, S, R, G, q.bind fun v S1 ρ1 H1 x E1 R1 rx q1 => ?_⟩
  have q1 := q1.ans
  cases v with
  | int i =>
    cases rx
    exact ⟨i, rfl, q1 ρ1 H1 _ R1.refl R1 rfl⟩
  | _ => exact q1.elim
/-! ### a comprehension in another one -/
theorem re_look {env : Env} {x : Str} : ∀ {l : List (Str × NameKind)}, (l.lookup x = some .cell ∨ l.lookup x = some .free) → ((l.map fun (n, k) => if (k == NameKind.free && env.scope.kind == .function && env.kindOf n == some .cell) then (n, NameKind.cell) else (n, k)).lookup x = some .cell ∨ (l.map fun (n, k) => if (k == NameKind.free && env.scope.kind == .function && env.kindOf n == some .cell) then (n, NameKind.cell) else (n, k)).lookup x = some .free)
  | [], h => by rcases h with h | h <;> cases h
  | (n, k) :: r, h => by
    simp only [List.map_cons]
    by_cases e : x == n
    · have h0 : k = .cell ∨ k = .free := by
        rcases h with h | h
        · simp only [List.lookup_cons, e] at h
          exact .inl (Option.some.inj h)
        · simp only [List.lookup_cons, e] at h
          exact .inr (Option.some.inj h)
      split
      · exact .inl (by simp only [List.lookup_cons, e])
      · rcases h0 with rfl | rfl
        · exact .inl (by simp only [List.lookup_cons, e])
        · exact .inr (by simp only [List.lookup_cons, e])
    · have e' : (x == n) = false := by simpa using e
      have h0 : r.lookup x = some .cell ∨ r.lookup x = some .free := by simpa only [List.lookup_cons, e'] using h
      have ih := re_look (env := env) h0
      split
      · simpa only [List.lookup_cons, e'] using ih
      · simpa only [List.lookup_cons, e'] using ih
theorem blk_in {X : Cx} {s : Shared} {H : Hp} {sco scope : Scope} {C : Addr} {cl : List (Str × Addr)} {fp : List Addr} {N : List Str} {own : List (Str × Nat)} (h : blkC N sco scope own = true) (hN : (X.blk s H sco (compEnvC sco cl C X.env) fp).N = N := by rfl) : BlkOk (X.blk s H sco (compEnvC sco cl C X.env) fp).N (X.blk s H sco (compEnvC sco cl C X.env) fp).env.scope scope own := by
  rw [hN]
  have b := blkOk_by h
  exact ⟨b.kind, b.uniq, b.ix, fun y hy e => re_look (b.free y hy e), b.own⟩
end
end PM

namespace PM
open PySem PySem.Spec PyProof.Rows L2 PySem.NumText PySem.Calls
/-- signs 0 and 1, read with base 2 -/
def num2 (l : List Nat) : Nat := l.foldl (fun n z => n * 2 + (z - 48)) 0
section
variable {l : List Nat} {z : Nat}
theorem step2 (h : z = 48 ∨ z = 49) (ds : Array Nat) (b : Bool) : PySem.NumText.step 2 (ds, b) z = some (ds.push (z - 48), true) := by
  rcases h with rfl | rfl <;> rfl
theorem steps2 : ∀ (l : List Nat) (ds : Array Nat) (b : Bool), Bits l → l ≠ [] → l.foldlM (PySem.NumText.step 2) (ds, b) = some (l.foldl (fun out z => out.push (z - 48)) ds, true)
  | [], _, _, _, n => absurd rfl n
  | [z], ds, b, h, _ => by
    simp only [List.foldlM_cons, step2 h.hd]
    rfl
  | z :: y :: r, ds, b, h, _ => by
    rw [List.foldlM_cons, step2 h.hd]
    exact steps2 (y :: r) _ true h.tl (by simp)
theorem figs2 (h : Bits l) (n : l ≠ []) : digits? 2 l = some (l.foldl (fun out z => out.push (z - 48)) #[]) := by
  unfold digits?
  rw [steps2 l _ _ h n]
  rfl
theorem fold2 : ∀ (l : List Nat) (ds : Array Nat), (l.foldl (fun out z => out.push (z - 48)) ds).foldl (fun n d => n * 2 + d) 0 = l.foldl (fun n z => n * 2 + (z - 48)) (ds.foldl (fun n d => n * 2 + d) 0)
  | [], _ => rfl
  | z :: r, ds => by
    rw [List.foldl_cons, fold2 r, List.foldl_cons]
    exact congrArg (fun n => r.foldl _ n) (by simp)
theorem base2 (h : Bits l) : based 2 l = (2, false, l) := by
  match l, h with
  | [], _ => rfl
  | [z], h => rcases h.hd with rfl | rfl <;> rfl
  | z :: y :: r, h => rcases h.hd with rfl | rfl <;> rcases h.tl.hd with rfl | rfl <;> rfl
theorem read2 (h : Bits l) (n : l ≠ []) : (int_private% "readNumeral") 0 2 l = (int_private% "Numeral.value") ((num2 l : Nat) : Int) := by
  have hr : Bits l.reverse := fun y hy => h y (List.mem_reverse.mp hy)
  refine (readNumeral_eq 0 2 l).trans ?_
  rw [noBlank h, noSign h]
  show judge 0 false (based 2 l).1 (based 2 l).2.1 (digits? (based 2 l).1 ((List.dropWhile blank (based 2 l).2.2.reverse).reverse)) = _
  rw [base2 h]
  show judge 0 false 2 false (digits? 2 ((List.dropWhile blank l.reverse).reverse)) = _
  rw [noBlank hr, List.reverse_reverse, figs2 h n]
  show (int_private% "Numeral.value") ((Array.foldl (fun n d => n * 2 + d) 0 (l.foldl (fun out z => out.push (z - 48)) (#[] : Array Nat)) : Nat) : Int) = _
  rw [fold2]
  rfl
theorem new2 {x : PySem.Str} {u t : Tok} (hl : x.length ≤ 640) (h : Bits x.cps.toList) (n : x.cps.toList ≠ []) : Gives (Builtin.«int.__new__» ⟨[.type "int", .str x u, .int 2 t], []⟩) (.int ((num2 x.cps.toList : Nat) : Int)) := by
  obtain ⟨e1, e2⟩ := seen4 h
  have k : Kept ((numSeenOf x).length ≤ 640 ∧ (int_private% "readNumeral") 0 2 (numSeenOf x) = (int_private% "Numeral.value") ((num2 x.cps.toList : Nat) : Int) ∧ ((numSeenOf x).length == (numTextOf x).length) = true) := by
    rw [e1, e2]
    exact ⟨by rw [Array.length_toList]; exact hl, read2 h n, beq_self_eq_true _⟩
  refine .of_wp fun M A E s Q hQ => ?_
  obtain ⟨hp, g, d, tk, os⟩ := s
  have g1 := F.conv_sub_int
  have g2 := F.madeHere_int
  have g3 : typeOf (.str x u) = pure (.type "str") := rfl
  clear hl h n e1 e2
  repeat (any_goals (first
    | assumption
    | ((with_reducible show wpAny _ _ ((int_private% "intFromText") _ _ _) _ _ _); refine Hx.wp_textB k.get.1 k.get.2.1 k.get.2.2 ?_)
    | wp_step))
  all_goals first | exact ⟨_, rfl, hQ⟩ | skip
end
/-- int(text, 2) of a text of signs 0 and 1 -/
def rInt2 : List V → Hp → VK → Prop := fun xs H Q => ∃ l : List Nat, xs = [.str (⟨l.toArray⟩ : PySem.Str), .int 2] ∧ l ≠ [] ∧ l.length ≤ 640 ∧ Bits l ∧ Q (.int ((num2 l : Nat) : Int)) H
theorem cr_int2 {X : Cx} : CallR X (.type "int") rInt2 := by
  intro pins s σ H xs us Q I r h
  obtain ⟨l, rfl, n, hl, hb, q⟩ := h
  obtain ⟨u, w', rfl, r1, r2⟩ := vals2 r
  obtain ⟨t1, rfl⟩ := r1
  obtain ⟨t2, rfl⟩ := r2
  have e : (⟨l.toArray⟩ : PySem.Str).cps.toList = l := rfl
  have g := new2 (x := (⟨l.toArray⟩ : PySem.Str)) (u := t1) (t := t2) (by simpa [PySem.Str.length] using hl) hb n
  rw [e] at g
  exact callType_new F.called_int F.newNe_int (Hx.typeCall_int_2 _ _) (Hx.newCall_int_2 _ _) (fun obj => F.initArgs_range_2 obj _ _) F.entry_int_new g.meets (show (Made.int ((num2 l : Nat) : Int)).post _ s from ⟨rfl, .int ((num2 l : Nat) : Int), H, I.tok _, ⟨_, rfl⟩, q⟩)
end PM

namespace PM
open PySem PySem.Spec PyProof.Rows L2 Q2
def int2V (v w : Va) (S : Sto) : Option (Va × Sto) := match v with
  | .str z => match w with
    | .int i => if i = 2 ∧ z.cps.toList ≠ [] ∧ z.cps.toList.length ≤ 640 ∧ isBits z.cps.toList = true then some (.int ((num2 z.cps.toList : Nat) : Int), S) else none
    | _ => none
  | _ => none
def fInt2 : FL := fL2 int2V
theorem cInt2 : CallP X (.type "int") fInt2 := by
  refine ⟨_, cr_int2, callM2 fun ρ S H v w x y Q R r r' a => ?_⟩
  cases v with
  | str z =>
    cases w with
    | int i =>
      cases r
      cases r'
      have a : Ans (kxOf X) Q ρ H (if i = 2 ∧ z.cps.toList ≠ [] ∧ z.cps.toList.length ≤ 640 ∧ isBits z.cps.toList = true then some (.int ((num2 z.cps.toList : Nat) : Int), S) else none) := a
      obtain ⟨⟨e2, h1, h2, h3⟩, b⟩ := ans_if a
      subst e2
      refine ⟨z.cps.toList, rfl, h1, h2, fun y hy => ?_, b ρ H _ R.refl R rfl⟩
      have := List.all_eq_true.mp h3 y hy
      simpa using this
    | _ => exact a.elim
  | _ => exact a.elim
end PM

namespace LZ
open PySem PySem.Spec PyProof.Rows
abbrev ZipO (h : Heap) (z TI TO a : Addr) (b : Bool) : Prop :=
  h.get? z = some { cls := .type "zip", dict := none, data := .fields #[rawInt a, .bool b, .bool false, .ref TI, .ref TO], slots := #[] }
section
variable {prog : Program} {w : World} {A : Around} {E : Value → Shared → Prop} {s : Shared} {z TI TO i1 i2 l1 l2 a : Addr} {b : Bool} {oa : Obj} {k : Nat} {xs ys : Array Value} {x y : Value}
/-- is it free? no: what was given out stands -/
theorem zo_busy {Q : Bool → Shared → Prop} (p0 : ZipO s.heap z TI TO a b) (pa : s.heap.get? a = some oa) (hQ : ∀ h', ZipO h' z TI TO a true → Heap.SameBut z s.heap h' → Q false { s with heap := h' }) : wpAny (model prog w) A (Builtin.SmallTypes.ownedTupleIsFree (.ref z)) Q E s := by
  unfold Builtin.SmallTypes.ownedTupleIsFree
  refine wpAny_bind (wpAny_field p0 rfl (x := rawInt a) rfl ?_)
  show wpAny _ _ (loadIfAlive ((a : Nat) : Int).toNat >>= _) _ _ s
  rw [show ((a : Nat) : Int).toNat = a from Int.toNat_natCast a]
  refine wpAny_bind (PySem.W.kdx_alive pa ?_)
  simp only [Option.isNone_some, if_false, Bool.false_eq_true]
  refine wpAny_bind (wpAny_field p0 rfl (x := .bool b) rfl ?_)
  cases b with
  | true => exact wpAny_ite_false (by decide) (wpAny_pure (hQ s.heap p0 (Heap.SameBut.refl _ _)))
  | false =>
    refine wpAny_ite_true (by decide) ?_
    exact wpAny_bind (wpAny_setField_rec p0 (by simp) fun h' p' sb => wpAny_pure (hQ h' p' sb))
theorem zo_item {Q : Value → Shared → Prop} (D : ZipApart z TI TO i1 i2 l1 l2) (p0 : ZipO s.heap z TI TO a b) (pa : s.heap.get? a = some oa) (p1 : IsPair s.heap TI (.ref i1) (.ref i2)) (q1 : s.heap.IsListIter i1 l1 k) (q2 : s.heap.IsListIter i2 l2 k)
    (g1 : s.heap.IsList l1 xs) (g2 : s.heap.IsList l2 ys) (hx : xs[k]? = some x) (hy : ys[k]? = some y)
    (hQ : ∀ h', ZipO h' z TI TO a true → h'.IsListIter i1 l1 (k + 1) → h'.IsListIter i2 l2 (k + 1) → IsPair h' s.heap.objs.size x y → h'.objs.size = s.heap.objs.size + 1 → (∀ c o, c ≠ z → c ≠ i1 → c ≠ i2 → s.heap.get? c = some o → h'.get? c = some o) → Q (.ref s.heap.objs.size) { s with heap := h' }) :
    wpAny (model prog w) A (Builtin.«zip.__next__» ⟨[.ref z], []⟩) (fun fin s' => ∃ v, fin = .done (.ret v) ∧ Q v s') E s := by
  show wpAny _ _ (field (.ref z) 2 >>= _) _ _ s
  refine wpAny_bind (wpAny_field p0 rfl (x := .bool false) rfl ?_)
  show wpAny _ _ (field (.ref z) 3 >>= _) _ _ s
  refine wpAny_bind (wpAny_field p0 rfl (x := .ref TI) rfl ?_)
  refine wpAny_bind (wpAny_seqItems p1 rfl ?_)
  show wpAny _ _ (Builtin.SmallTypes.ownedTupleIsFree (.ref z) >>= _) _ _ s
  refine wpAny_bind (zo_busy p0 pa fun h1 r1 sb1 => ?_)
  simp only [Bool.false_eq_true, if_false, ← Array.forIn_toList, List.forIn_cons, List.forIn_nil]
  refine wpAny_bind (wpAny_bind (wpAny_bind (wpAny_holding ?_)))
  show wpAny _ _ (Builtin.SmallTypes.nextOf (.ref i1) >>= _) _ _ { s with heap := h1 }
  refine wpAny_bind (wpAny_nextOf_list_item (q1.extBut sb1.extBut D.i1z) (g1.extBut sb1.extBut D.l1z) hx fun h2 r2 sb2 => wpAny_pure ?_)
  refine wpAny_pure (wpAny_bind (wpAny_bind (wpAny_holding ?_)))
  show wpAny _ _ (Builtin.SmallTypes.nextOf (.ref i2) >>= _) _ _ { s with heap := h2 }
  refine wpAny_bind (wpAny_nextOf_list_item ((q2.extBut sb1.extBut D.i2z).extBut sb2.extBut (Ne.symm D.i12)) ((g2.extBut sb1.extBut D.l2z).extBut sb2.extBut D.l2i1) hy fun h3 r3 sb3 => wpAny_pure ?_)
  refine wpAny_pure (wpAny_pure ?_)
  show wpAny _ _ (newTuple [x, y] >>= _) _ _ { s with heap := h3 }
  refine wpAny_bind (wpAny_newTuple ?_)
  have sz : h3.objs.size = s.heap.objs.size := by rw [sb3.1, sb2.1, sb1.1]
  have zl : z < s.heap.objs.size := Heap.lt_size p0
  have nz : ZipO h3 z TI TO a true := sb3.extBut _ _ (Ne.symm D.i2z) (sb2.extBut _ _ (Ne.symm D.i1z) r1)
  have kp : ∀ c o, c ≠ z → c ≠ i1 → c ≠ i2 → s.heap.get? c = some o → h3.get? c = some o := fun c o c1 c2 c3 e => sb3.extBut _ _ c3 (sb2.extBut _ _ c2 (sb1.extBut _ _ c1 e))
  refine wpAny_pure ⟨_, rfl, ?_⟩
  show Q (.ref h3.objs.size) _
  have tn : IsPair (h3.push { cls := .type "tuple", data := .seq #[x, y] }) h3.objs.size x y := Heap.get?_push_size _ rfl
  rw [sz] at tn ⊢
  exact hQ (h3.push { cls := .type "tuple", data := .seq #[x, y] }) (Heap.get?_push_of_some _ nz) ((r2.extBut sb3.extBut D.i12).at fun o e => Heap.get?_push_of_some _ e) (r3.at fun o e => Heap.get?_push_of_some _ e) tn (by rw [Heap.size_push, sz]) fun c o c1 c2 c3 e => Heap.get?_push_of_some _ (kp c o c1 c2 c3 e)
theorem zo_end {Q : PySem.Fin → Shared → Prop} (hh : A.handled = none) (D : ZipApart z TI TO i1 i2 l1 l2) (p0 : ZipO s.heap z TI TO a b) (pa : s.heap.get? a = some oa) (p1 : IsPair s.heap TI (.ref i1) (.ref i2)) (q1 : s.heap.IsListIter i1 l1 k) (q2 : s.heap.IsListIter i2 l2 k)
    (g1 : s.heap.IsList l1 xs) (g2 : s.heap.IsList l2 ys) (hx : xs[k]? = none)
    (hE : ∀ h' e, (∀ c o, c ≠ z → c ≠ i1 → c ≠ i2 → s.heap.get? c = some o → h'.get? c = some o) → (∃ o, h'.get? e = some o ∧ o.cls = .type "StopIteration") → E (.ref e) { s with heap := h' }) :
    wpAny (model prog w) A (Builtin.«zip.__next__» ⟨[.ref z], []⟩) Q E s := by
  show wpAny _ _ (field (.ref z) 2 >>= _) _ _ s
  refine wpAny_bind (wpAny_field p0 rfl (x := .bool false) rfl ?_)
  show wpAny _ _ (field (.ref z) 3 >>= _) _ _ s
  refine wpAny_bind (wpAny_field p0 rfl (x := .ref TI) rfl ?_)
  refine wpAny_bind (wpAny_seqItems p1 rfl ?_)
  show wpAny _ _ (Builtin.SmallTypes.ownedTupleIsFree (.ref z) >>= _) _ _ s
  refine wpAny_bind (zo_busy p0 pa fun h1 r1 sb1 => ?_)
  simp only [Bool.false_eq_true, if_false, ← Array.forIn_toList, List.forIn_cons, List.forIn_nil]
  refine wpAny_bind (wpAny_bind (wpAny_bind (wpAny_holding ?_)))
  show wpAny _ _ (Builtin.SmallTypes.nextOf (.ref i1) >>= _) _ _ { s with heap := h1 }
  exact wpAny_bind (wpAny_nextOf_list_end hh (q1.extBut sb1.extBut D.i1z) (g1.extBut sb1.extBut D.l1z) hx fun h2 e sb2 he => hE h2 e (fun c o c1 c2 _ q => sb2 _ _ c2 (sb1.extBut _ _ c1 q)) he)
theorem zo_nextItem {Q : Option Value → Shared → Prop} (D : ZipApart z TI TO i1 i2 l1 l2) (p0 : ZipO s.heap z TI TO a b) (pa : s.heap.get? a = some oa) (p1 : IsPair s.heap TI (.ref i1) (.ref i2)) (q1 : s.heap.IsListIter i1 l1 k) (q2 : s.heap.IsListIter i2 l2 k)
    (g1 : s.heap.IsList l1 xs) (g2 : s.heap.IsList l2 ys) (hx : xs[k]? = some x) (hy : ys[k]? = some y)
    (hQ : ∀ h', ZipO h' z TI TO a true → h'.IsListIter i1 l1 (k + 1) → h'.IsListIter i2 l2 (k + 1) → IsPair h' s.heap.objs.size x y → h'.objs.size = s.heap.objs.size + 1 → (∀ c o, c ≠ z → c ≠ i1 → c ≠ i2 → s.heap.get? c = some o → h'.get? c = some o) → Q (some (.ref s.heap.objs.size)) { s with heap := h' }) :
    wpAny (model prog w) A (pyNext (.ref z)) Q E s := by
  have ty : s.TypeIs (.ref z) "zip" := ⟨_, p0, rfl⟩
  unfold pyNext
  exact wpAny_bind (wpAny_attempt (wpAny_callSpecial?_slot (name := Str.ofString "__next__") ty F.slot_zip_next (wpAny_call_entry F.slot_zip_next ty F.entry_zip_next
    (zo_item D p0 pa p1 q1 q2 g1 g2 hx hy fun h' b1 b2 b3 b4 b5 b6 => wpAny_pure (hQ h' b1 b2 b3 b4 b5 b6)) (F.args_zip_next_1 _))))
end
end LZ

namespace LZ
open PySem PySem.Spec PyProof.Rows
section
variable {prog : Program} {w : World} {A : Around} {E : Value → Shared → Prop} {s : Shared} {z TI TO i1 i2 l1 l2 a : Addr} {b : Bool} {oa : Obj} {k : Nat} {xs ys : Array Value} {x y : Value}
theorem zo_nextEnd {Q : Option Value → Shared → Prop} (hh : A.handled = none) (D : ZipApart z TI TO i1 i2 l1 l2) (p0 : ZipO s.heap z TI TO a b) (pa : s.heap.get? a = some oa) (p1 : IsPair s.heap TI (.ref i1) (.ref i2)) (q1 : s.heap.IsListIter i1 l1 k) (q2 : s.heap.IsListIter i2 l2 k)
    (g1 : s.heap.IsList l1 xs) (g2 : s.heap.IsList l2 ys) (hx : xs[k]? = none) (hQ : ∀ h', (∀ c o, c ≠ z → c ≠ i1 → c ≠ i2 → s.heap.get? c = some o → h'.get? c = some o) → Q none { s with heap := h' }) : wpAny (model prog w) A (pyNext (.ref z)) Q E s := by
  have ty : s.TypeIs (.ref z) "zip" := ⟨_, p0, rfl⟩
  unfold pyNext
  refine wpAny_bind (wpAny_attempt (wpAny_callSpecial?_slot (name := Str.ofString "__next__") ty F.slot_zip_next (wpAny_call_entry F.slot_zip_next ty F.entry_zip_next
    (zo_end hh D p0 pa p1 q1 q2 g1 g2 hx fun h' e kp he => ?_) (F.args_zip_next_1 _))))
  obtain ⟨o, e1, e2⟩ := he
  exact wpAny_bind (wpAny_isInstance (T := "StopIteration") (b := true) ⟨o, e1, e2⟩ isSubtype_stop (wpAny_pure (hQ _ kp)))
end
/-- the walk under way: i pairs are drawn -/
structure ZW (h : Heap) (z TI TO i1 i2 l1 l2 M : Addr) (xs ys : Array Value) (i : Nat) (as : List Addr) : Prop where
  st : (i = 0 ∧ IsZip h z TI TO .none ∧ ∃ u v, IsPair h TO u v) ∨ ∃ T b oT, M ≤ T ∧ ZipO h z TI TO T b ∧ h.get? T = some oT
  p1 : IsPair h TI (.ref i1) (.ref i2)
  q1 : h.IsListIter i1 l1 i
  q2 : h.IsListIter i2 l2 i
  g1 : h.IsList l1 xs
  g2 : h.IsList l2 ys
  len : as.length = i
  rise : as.Pairwise (· < ·)
  lo : ∀ a ∈ as, M ≤ a
  pr : ∀ (j : Nat) (a : Addr), as[j]? = some a → ∃ x y, xs[j]? = some x ∧ ys[j]? = some y ∧ IsPair h a x y
structure ZB (z TI TO i1 i2 l1 l2 S M : Addr) : Prop where
  D : ZipApart z TI TO i1 i2 l1 l2
  lS : S < M
  lz : z < M
  lTI : TI < M
  lTO : TO < M
  li1 : i1 < M
  li2 : i2 < M
  ll1 : l1 < M
  ll2 : l2 < M
  nz : S ≠ z
  nTI : S ≠ TI
  nTO : S ≠ TO
  ni1 : S ≠ i1
  ni2 : S ≠ i2
  nl1 : S ≠ l1
  nl2 : S ≠ l2
section
variable {h h' : Heap} {z TI TO i1 i2 l1 l2 S M : Addr} {xs ys : Array Value} {i : Nat} {as : List Addr}
theorem ZW.keep (B : ZB z TI TO i1 i2 l1 l2 S M) (W : ZW h z TI TO i1 i2 l1 l2 M xs ys i as) (kp : ∀ b o, b ≠ S → h.get? b = some o → h'.get? b = some o) : ZW h' z TI TO i1 i2 l1 l2 M xs ys i as := by
  have hS := B.lS
  refine ⟨?_, kp _ _ (Ne.symm B.nTI) W.p1, W.q1.at fun o e => kp _ _ (Ne.symm B.ni1) e, W.q2.at fun o e => kp _ _ (Ne.symm B.ni2) e, W.g1.at fun o e => kp _ _ (Ne.symm B.nl1) e, W.g2.at fun o e => kp _ _ (Ne.symm B.nl2) e, W.len, W.rise, W.lo, fun j a e => ?_⟩
  · rcases W.st with ⟨e, e2, u, v, e3⟩ | ⟨T, b, oT, e1, e2, e3⟩
    · exact .inl ⟨e, kp _ _ (Ne.symm B.nz) e2, u, v, kp _ _ (Ne.symm B.nTO) e3⟩
    · exact .inr ⟨T, b, oT, e1, kp _ _ (Ne.symm B.nz) e2, kp _ _ (fun q => by rw [q] at e1; exact absurd e1 (Nat.not_le.mpr hS)) e3⟩
  · obtain ⟨x, y, e1, e2, e3⟩ := W.pr j a e
    have := W.lo a (List.mem_of_getElem? e)
    exact ⟨x, y, e1, e2, kp _ _ (fun q => by rw [q] at this; exact absurd this (Nat.not_le.mpr hS)) e3⟩
theorem ne_lt {a b : Addr} (h : b < M) (h2 : M ≤ a) : a ≠ b := fun q => by rw [q] at h2; exact absurd h2 (Nat.not_le.mpr h)
variable {prog : Program} {w : World} {A : Around} {E : Value → Shared → Prop} {s : Shared} {x y : Value}
/-- the next pair -/
theorem ZW.item {Q : Option Value → Shared → Prop} (B : ZB z TI TO i1 i2 l1 l2 S M) (W : ZW s.heap z TI TO i1 i2 l1 l2 M xs ys i as) (hM : M ≤ s.heap.objs.size) (hx : xs[i]? = some x) (hy : ys[i]? = some y)
    (hQ : ∀ h', ZW h' z TI TO i1 i2 l1 l2 M xs ys (i + 1) (as ++ [s.heap.objs.size]) → h'.objs.size = s.heap.objs.size + 1 → (∀ c o, c ≠ z → c ≠ TO → c ≠ i1 → c ≠ i2 → s.heap.get? c = some o → h'.get? c = some o) → Q (some (.ref s.heap.objs.size)) { s with heap := h' }) :
    wpAny (model prog w) A (pyNext (.ref z)) Q E s := by
  have fin : ∀ h', (∃ T b oT, M ≤ T ∧ ZipO h' z TI TO T b ∧ h'.get? T = some oT) → h'.IsListIter i1 l1 (i + 1) → h'.IsListIter i2 l2 (i + 1) → IsPair h' s.heap.objs.size x y → (∀ c o, c ≠ z → c ≠ TO → c ≠ i1 → c ≠ i2 → s.heap.get? c = some o → h'.get? c = some o) →
      ZW h' z TI TO i1 i2 l1 l2 M xs ys (i + 1) (as ++ [s.heap.objs.size]) := fun h' st r1 r2 r3 kp => by
    refine ⟨.inr st, kp _ _ B.D.TIz B.D.TITO B.D.TIi1 B.D.TIi2 W.p1, r1, r2, W.g1.at fun o e => kp _ _ B.D.l1z B.D.l1TO B.D.l1i1 B.D.l1i2 e, W.g2.at fun o e => kp _ _ B.D.l2z B.D.l2TO B.D.l2i1 B.D.l2i2 e, by rw [List.length_append, W.len]; rfl, ?_, fun a ha => ?_, fun j a e => ?_⟩
    · refine List.pairwise_append.mpr ⟨W.rise, List.pairwise_singleton _ _, fun a ha b hb => ?_⟩
      rw [List.mem_singleton.mp hb]
      obtain ⟨j, hj⟩ := List.mem_iff_getElem?.mp ha
      obtain ⟨_, _, _, _, e⟩ := W.pr j a hj
      exact Heap.lt_size e
    · rcases List.mem_append.mp ha with ha | ha
      · exact W.lo a ha
      · rw [List.mem_singleton.mp ha]; exact hM
    · by_cases hj : j < as.length
      · rw [List.getElem?_append_left hj] at e
        obtain ⟨x', y', e1, e2, e3⟩ := W.pr j a e
        have := W.lo a (List.mem_of_getElem? e)
        exact ⟨x', y', e1, e2, kp _ _ (ne_lt B.lz this) (ne_lt B.lTO this) (ne_lt B.li1 this) (ne_lt B.li2 this) e3⟩
      · have hj' : j = as.length := by
          have := (List.getElem?_eq_some_iff.mp e).1
          rw [List.length_append, List.length_singleton] at this
          omega
        subst hj'
        rw [List.getElem?_append_right (Nat.le_refl _), Nat.sub_self] at e
        cases e
        exact ⟨x, y, by rw [W.len]; exact hx, by rw [W.len]; exact hy, r3⟩
  rcases W.st with ⟨e, e2, u, v, e3⟩ | ⟨T, b, oT, e1, e2, e3⟩
  · exact wpAny_pyNext_zip_item B.D e2 W.p1 e3 W.q1 W.q2 W.g1 W.g2 hx hy fun h' c1 c2 c3 c4 c5 c6 c7 => hQ h' (fin h' ⟨_, false, _, hM, c1, c5⟩ c3 c4 c5 c7) c6 c7
  · refine zo_nextItem B.D e2 e3 W.p1 W.q1 W.q2 W.g1 W.g2 hx hy fun h' c1 c2 c3 c4 c5 c6 => ?_
    have kp : ∀ c o, c ≠ z → c ≠ TO → c ≠ i1 → c ≠ i2 → s.heap.get? c = some o → h'.get? c = some o := fun c o d1 _ d3 d4 e => c6 c o d1 d3 d4 e
    exact hQ h' (fin h' ⟨T, true, oT, e1, c1, kp _ _ (ne_lt B.lz e1) (ne_lt B.lTO e1) (ne_lt B.li1 e1) (ne_lt B.li2 e1) e3⟩ c2 c3 c4 kp) c5 kp
theorem ZW.done {Q : Option Value → Shared → Prop} (hh : A.handled = none) (B : ZB z TI TO i1 i2 l1 l2 S M) (W : ZW s.heap z TI TO i1 i2 l1 l2 M xs ys i as) (hx : xs[i]? = none)
    (hQ : ∀ h', (∀ c o, c ≠ z → c ≠ TO → c ≠ i1 → c ≠ i2 → s.heap.get? c = some o → h'.get? c = some o) → Q none { s with heap := h' }) : wpAny (model prog w) A (pyNext (.ref z)) Q E s := by
  rcases W.st with ⟨e, e2, u, v, e3⟩ | ⟨T, b, oT, e1, e2, e3⟩
  · exact wpAny_pyNext_zip_end hh B.D e2 W.p1 e3 W.q1 W.q2 W.g1 W.g2 (.inl hx) hQ
  · exact zo_nextEnd hh B.D e2 e3 W.p1 W.q1 W.q2 W.g1 W.g2 hx fun h' kp => hQ h' fun c o d1 _ d3 d4 e => kp c o d1 d3 d4 e
/-- the pairs are put into the list at S -/
theorem zip_fill {R : Result → Shared → Prop} (hh : A.handled = none) (B : ZB z TI TO i1 i2 l1 l2 S M) (hn : xs.size ≤ sizeLine) (hl : xs.size = ys.size) (res : Value) {h0 : Heap}
    (hR : ∀ (h' : Heap) (tk c' : Nat) (acc : Array Value) (as : List Addr), (∀ b o, b ≠ S → b ≠ z → b ≠ TO → b ≠ i1 → b ≠ i2 → h0.get? b = some o → h'.get? b = some o) → h'.get? S = some { cls := .type "list", dict := none, data := .seq acc c', slots := #[] } → as.length = xs.size → as.Pairwise (· < ·) → (∀ a ∈ as, M ≤ a) →
      (∀ (j : Nat) (a : Addr), as[j]? = some a → ∃ x y, xs[j]? = some x ∧ ys[j]? = some y ∧ IsPair h' a x y) → acc.toList = as.map Value.ref → R (.ok (.ret res)) { s with heap := h', toks := tk }) :
    ∀ (m i : Nat) (h : Heap) (tk c : Nat) (acc : Array Value) (as : List Addr), xs.size - i = m → i ≤ xs.size → ZW h z TI TO i1 i2 l1 l2 M xs ys i as → (∀ b o, b ≠ S → b ≠ z → b ≠ TO → b ≠ i1 → b ≠ i2 → h0.get? b = some o → h.get? b = some o) → M ≤ h.objs.size →
      h.get? S = some { cls := .type "list", dict := none, data := .seq acc c, slots := #[] } → acc.toList = as.map Value.ref →
      codeAny (model prog w) A (.builtin "list.extend.loop" ⟨[.ref S, .ref z, res], []⟩) R { s with heap := h, toks := tk } := by
  intro m
  induction m with
  | zero =>
    intro i h tk c acc as hm hi W kp hM hS hacc
    have hi' : i = xs.size := by omega
    subst hi'
    refine codeAny_builtin F.entry_extend_loop ?_
    rw [Around.under_plainId F.plain_extend_loop]
    show wpAny _ A.in1 (pyNext (.ref z) >>= _) _ _ { s with heap := h, toks := tk }
    refine wpAny_bind (ZW.done (s := { s with heap := h, toks := tk }) (A := A.in1) hh B W (by simp) fun h' kp' => ?_)
    refine wpAny_pure (hR h' tk c acc as (fun b o b1 b2 b3 b4 b5 e => kp' b o b2 b3 b4 b5 (kp b o b1 b2 b3 b4 b5 e)) (kp' S _ B.nz B.nTO B.ni1 B.ni2 hS) W.len W.rise W.lo (fun j a e => ?_) hacc)
    obtain ⟨x, y, e1, e2, e3⟩ := W.pr j a e
    have := W.lo a (List.mem_of_getElem? e)
    exact ⟨x, y, e1, e2, kp' _ _ (ne_lt B.lz this) (ne_lt B.lTO this) (ne_lt B.li1 this) (ne_lt B.li2 this) e3⟩
  | succ m ih =>
    intro i h tk c acc as hm hi W kp hM hS hacc
    have lt : i < xs.size := by omega
    have lt2 : i < ys.size := by omega
    refine codeAny_builtin F.entry_extend_loop ?_
    rw [Around.under_plainId F.plain_extend_loop]
    show wpAny _ A.in1 (pyNext (.ref z) >>= _) _ _ { s with heap := h, toks := tk }
    refine wpAny_bind (ZW.item (s := { s with heap := h, toks := tk }) B W hM (Array.getElem?_eq_getElem lt) (Array.getElem?_eq_getElem lt2) fun h' W' sz' kp' => ?_)
    dsimp only at W' sz' kp' ⊢
    have hS' := kp' S _ B.nz B.nTO B.ni1 B.ni2 hS
    have hsz : acc.size = i := by rw [← Array.length_toList, hacc, List.length_map, W.len]
    have up : ∀ b o, b ≠ S → h'.get? b = some o → (h'.update S (Obj.mapSeq (·.push (Value.ref h.objs.size)))).get? b = some o := fun b o hb e => by rw [Heap.get?_update_other _ _ (Ne.symm hb)]; exact e
    show wpAny _ A.in1 (updateSeq S (·.push (Value.ref h.objs.size)) >>= _) _ _ { s with heap := h', toks := tk }
    refine wpAny_bind (wpAny_updateSeq hS' rfl (wpAny_pure ⟨plainId_quiet F.plain_extend_loop _, ih (i + 1) _ tk _ (acc.push (Value.ref h.objs.size)) (as ++ [h.objs.size]) (by omega) lt (W'.keep B up) (fun b o b1 b2 b3 b4 b5 e => up b o b1 (kp' b o b2 b3 b4 b5 (kp b o b1 b2 b3 b4 b5 e))) ?_ (Heap.get?_update_self _ hS' rfl) (by rw [Array.toList_push, hacc, List.map_append]; rfl)⟩)
      (by rw [hsz]; omega) (by show (acc.push (Value.ref h.objs.size)).size ≤ sizeLine + 1; rw [Array.size_push, hsz]; omega))
    have e1 : (h'.update S (Obj.mapSeq (·.push (Value.ref h.objs.size)))).objs.size = h'.objs.size := (Heap.SameBut.update ..).1
    exact Nat.le_trans hM (Nat.le_trans (Nat.le_succ _) (Nat.le_of_eq (sz'.symm.trans e1.symm)))
end
end LZ

namespace LZ
open PySem PySem.Spec PyProof.Rows
theorem zip_noLen : typeLookup (.type "zip") "__len__" = pure none := by rw [typeLookup_type, builtinLookup_eq_fast]; kernel_rfl
theorem zip_noHint : typeLookup (.type "zip") "__length_hint__" = pure none := by rw [typeLookup_type, builtinLookup_eq_fast]; kernel_rfl
section
variable {prog : Program} {w : World} {A : Around} {E : Value → Shared → Prop} {s : Shared} {z TI TO i1 i2 l1 l2 S M : Addr} {xs ys : Array Value}
theorem zip_hint {Q : Bool → Shared → Prop} (ty : s.TypeIs (.ref z) "zip") (h : Q true s) : wpAny (model prog w) A (Builtin.List.listLengthHint (.ref z)) Q E s := by
  unfold Builtin.List.listLengthHint
  refine wpAny_bind (wpAny_specialOf ty zip_noLen ?_)
  refine wpAny_ite_split (fun q => absurd q (by decide)) fun _ => ?_
  refine wpAny_ite_split (fun q => absurd q (by decide)) fun _ => ?_
  exact wpAny_bind (wpAny_specialOf ty zip_noHint (wpAny_pure h))
theorem zip_extend {R : Result → Shared → Prop} (hh : A.handled = none) (B : ZB z TI TO i1 i2 l1 l2 S M) (hn : xs.size ≤ sizeLine) (hl : xs.size = ys.size) (res : Value) (c0 : Nat) (hM : M ≤ s.heap.objs.size) (W : ZW s.heap z TI TO i1 i2 l1 l2 M xs ys 0 []) (pz : IsZip s.heap z TI TO .none)
    (hS : s.heap.get? S = some { cls := .type "list", data := .seq #[] c0 })
    (hR : ∀ (h' : Heap) (tk c' : Nat) (acc : Array Value) (as : List Addr), (∀ b o, b ≠ S → b ≠ z → b ≠ TO → b ≠ i1 → b ≠ i2 → s.heap.get? b = some o → h'.get? b = some o) → h'.get? S = some { cls := .type "list", dict := none, data := .seq acc c', slots := #[] } → as.length = xs.size → as.Pairwise (· < ·) → (∀ a ∈ as, M ≤ a) →
      (∀ (j : Nat) (a : Addr), as[j]? = some a → ∃ x y, xs[j]? = some x ∧ ys[j]? = some y ∧ IsPair h' a x y) → acc.toList = as.map Value.ref → R (.ok (.ret res)) { s with heap := h', toks := tk }) :
    wpAny (model prog w) A.in1 (Builtin.List.listExtendWith (.ref S) (.ref z) res) (fun fin s' => match fin with | .done f => R (.ok f) s' | .again c' => c'.quiet = true ∧ codeAny (model prog w) A c' R s') (fun e s' => R (.error e) s') s := by
  have ty : s.TypeIs (.ref z) "zip" := ⟨_, pz, rfl⟩
  unfold Builtin.List.listExtendWith
  refine wpAny_bind (wpAny_typeOf ty ?_)
  have n1 : Builtin.List.listSameRef (.ref S) (.ref z) = false := by simp [Builtin.List.listSameRef, B.nz]
  simp only [n1, show (Value.type "zip" == Value.type "list") = false by decide, show (Value.type "zip" == Value.type "tuple") = false by decide, Bool.or_false, Bool.false_eq_true, if_false]
  refine wpAny_bind (wpAny_pyIter_zip pz ?_)
  refine wpAny_bind (wpAny_holding (zip_hint ty ?_))
  simp only [Bool.true_or, if_true]
  refine wpAny_bind (wpAny_rule ?_)
  refine wpAny_bind ?_
  show wpAny _ _ (updateSeq S (·.push .none) >>= fun _ => updateSeq S (·.pop)) _ _ s
  refine wpAny_bind (wpAny_updateSeq hS rfl ?_)
  have hS2 := Heap.get?_update_self (Obj.mapSeq (·.push Value.none)) hS rfl
  refine wpAny_updateSeq (hz := by seq_fits) hS2 rfl ?_
  have hS3 := Heap.get?_update_self (Obj.mapSeq (·.pop)) hS2 rfl
  have up : ∀ b o, b ≠ S → s.heap.get? b = some o → ((s.heap.update S (Obj.mapSeq (·.push Value.none))).update S (Obj.mapSeq (·.pop))).get? b = some o := fun b o hb e => by rw [Heap.get?_update_other _ _ (Ne.symm hb), Heap.get?_update_other _ _ (Ne.symm hb)]; exact e
  refine wpAny_pure ⟨plainId_quiet F.plain_extend_loop _, ?_⟩
  refine zip_fill hh B hn hl res (h0 := s.heap) hR xs.size 0 _ _ _ #[] [] rfl (Nat.zero_le _) (W.keep B up) (fun b o b1 _ _ _ _ e => up b o b1 e) ?_ hS3 rfl
  rw [(Heap.SameBut.update ..).1, (Heap.SameBut.update ..).1]
  exact hM
theorem zip_init {R : Result → Shared → Prop} (hh : A.handled = none) (B : ZB z TI TO i1 i2 l1 l2 S M) (hn : xs.size ≤ sizeLine) (hl : xs.size = ys.size) (hM : M ≤ s.heap.objs.size) (W : ZW s.heap z TI TO i1 i2 l1 l2 M xs ys 0 []) (pz : IsZip s.heap z TI TO .none) (hS : s.heap.get? S = some { cls := .type "list", data := .seq #[] })
    (hR : ∀ (h' : Heap) (tk c' : Nat) (acc : Array Value) (as : List Addr), (∀ b o, b ≠ S → b ≠ z → b ≠ TO → b ≠ i1 → b ≠ i2 → s.heap.get? b = some o → h'.get? b = some o) → h'.get? S = some { cls := .type "list", dict := none, data := .seq acc c', slots := #[] } → as.length = xs.size → as.Pairwise (· < ·) → (∀ a ∈ as, M ≤ a) →
      (∀ (j : Nat) (a : Addr), as[j]? = some a → ∃ x y, xs[j]? = some x ∧ ys[j]? = some y ∧ IsPair h' a x y) → acc.toList = as.map Value.ref → R (.ok (.ret .none)) { s with heap := h', toks := tk }) :
    wpAny (model prog w) A.in1 (Builtin.«list.__init__» ⟨[.ref S, .ref z], []⟩) (fun fin s' => match fin with | .done f => R (.ok f) s' | .again c' => c'.quiet = true ∧ codeAny (model prog w) A c' R s') (fun e s' => R (.error e) s') s := by
  show wpAny _ _ (do let old ← Builtin.List.listItems (.ref S); Builtin.List.listUpdate (.ref S) (fun _ => #[]); letGo old.toList.reverse; Builtin.List.listExtendWith (.ref S) (.ref z) .none) _ _ s
  refine wpAny_bind ?_
  unfold Builtin.List.listItems
  refine wpAny_bind (wpAny_seqItems hS rfl (wpAny_pure ?_))
  show wpAny _ _ (updateSeq S (fun _ => #[]) >>= fun _ => letGo (#[] : Array Value).toList.reverse >>= fun _ => Builtin.List.listExtendWith (.ref S) (.ref z) .none) _ _ s
  refine wpAny_bind (wpAny_updateSeq hS rfl ?_)
  have hS2 := Heap.get?_update_self (Obj.mapSeq (fun _ => (#[] : Array Value))) hS rfl
  have up : ∀ b o, b ≠ S → s.heap.get? b = some o → (s.heap.update S (Obj.mapSeq (fun _ => (#[] : Array Value)))).get? b = some o := fun b o hb e => by rw [Heap.get?_update_other _ _ (Ne.symm hb)]; exact e
  refine wpAny_bind (wpAny_letGo ?_)
  refine zip_extend hh B hn hl .none _ ?_ (W.keep B up) (up _ _ (Ne.symm B.nz) pz) hS2 fun h' tk c' acc as kp h1 h2 h3 h4 h5 h6 => hR h' tk c' acc as (fun b o b1 b2 b3 b4 b5 e => kp b o b1 b2 b3 b4 b5 (up b o b1 e)) h1 h2 h3 h4 h5 h6
  show M ≤ (s.heap.update S _).objs.size
  rw [(Heap.SameBut.update ..).1]
  exact hM
/-- list(zip(l1, l2)), the zip made already -/
theorem list_zip {Q : Value → Shared → Prop} (hh : A.handled = none) (D : ZipApart z TI TO i1 i2 l1 l2) (hn : xs.size ≤ sizeLine) (hl : xs.size = ys.size) (pz : IsZip s.heap z TI TO .none) (p1 : IsPair s.heap TI (.ref i1) (.ref i2)) (p2 : ∃ u v, IsPair s.heap TO u v) (q1 : s.heap.IsListIter i1 l1 0) (q2 : s.heap.IsListIter i2 l2 0) (g1 : s.heap.IsList l1 xs) (g2 : s.heap.IsList l2 ys)
    (hQ : ∀ (h' : Heap) (tk c' : Nat) (acc : Array Value) (as : List Addr), (∀ b o, b ≠ z → b ≠ TO → b ≠ i1 → b ≠ i2 → s.heap.get? b = some o → h'.get? b = some o) → h'.get? s.heap.objs.size = some { cls := .type "list", dict := none, data := .seq acc c', slots := #[] } → as.length = xs.size → as.Pairwise (· < ·) → (∀ a ∈ as, s.heap.objs.size < a) →
      (∀ (j : Nat) (a : Addr), as[j]? = some a → ∃ x y, xs[j]? = some x ∧ ys[j]? = some y ∧ IsPair h' a x y) → acc.toList = as.map Value.ref → Q (.ref s.heap.objs.size) { s with heap := h', toks := tk }) :
    wpAny (model prog w) A (call (.type "list") [.ref z]) Q E s := by
  refine callType_codes (Q₁ := fun obj s₁ => obj = .ref s.heap.objs.size ∧ s₁ = { s with heap := s.heap.push { cls := .type "list", data := .seq #[] } }) F.called_list (F.typeCall_list_1 _) F.entry_list_init (PySem.code_list_new _ ⟨rfl, rfl⟩) fun obj s1 h1 => ?_
  obtain ⟨rfl, rfl⟩ := h1
  have hS : (s.heap.push { cls := .type "list", data := .seq #[] }).get? s.heap.objs.size = some { cls := .type "list", data := .seq #[] } := Heap.get?_push_size _ rfl
  obtain ⟨u, v, p2⟩ := p2
  have zl : z < s.heap.objs.size := Heap.lt_size pz
  have tl := Heap.lt_size p1
  have tol := Heap.lt_size p2
  have i1l : i1 < s.heap.objs.size := by obtain ⟨_, e, _⟩ := q1; exact Heap.lt_size e
  have i2l : i2 < s.heap.objs.size := by obtain ⟨_, e, _⟩ := q2; exact Heap.lt_size e
  have l1l : l1 < s.heap.objs.size := by obtain ⟨_, e, _⟩ := g1; exact Heap.lt_size e
  have l2l : l2 < s.heap.objs.size := by obtain ⟨_, e, _⟩ := g2; exact Heap.lt_size e
  have B : ZB z TI TO i1 i2 l1 l2 s.heap.objs.size (s.heap.objs.size + 1) := ⟨D, Nat.lt_succ_self _, Nat.lt_succ_of_lt zl, Nat.lt_succ_of_lt tl, Nat.lt_succ_of_lt tol, Nat.lt_succ_of_lt i1l, Nat.lt_succ_of_lt i2l, Nat.lt_succ_of_lt l1l, Nat.lt_succ_of_lt l2l, Nat.ne_of_gt zl, Nat.ne_of_gt tl, Nat.ne_of_gt tol, Nat.ne_of_gt i1l, Nat.ne_of_gt i2l, Nat.ne_of_gt l1l, Nat.ne_of_gt l2l⟩
  have up : ∀ b o, s.heap.get? b = some o → (s.heap.push { cls := .type "list", data := .seq #[] }).get? b = some o := fun b o e => Heap.get?_push_of_some _ e
  have W : ZW (s.heap.push { cls := .type "list", data := .seq #[] }) z TI TO i1 i2 l1 l2 (s.heap.objs.size + 1) xs ys 0 [] := ⟨.inl ⟨rfl, up _ _ pz, u, v, up _ _ p2⟩, up _ _ p1, q1.at fun o e => up _ _ e, q2.at fun o e => up _ _ e, g1.at fun o e => up _ _ e, g2.at fun o e => up _ _ e, rfl, List.Pairwise.nil, (fun _ h => absurd h (by simp)), fun j a h => by simp at h⟩
  refine ⟨⟨_, hS, rfl⟩, F.args_list_init_2 _ _, zip_init (A := A.in1) hh B hn hl (by rw [Heap.size_push]; exact Nat.le_refl _) W (up _ _ pz) hS fun h' tk c' acc as kp e1 e2 e3 e4 e5 e6 => ?_⟩
  exact ⟨rfl, hQ h' tk c' acc as (fun b o b2 b3 b4 b5 e => kp b o (Nat.ne_of_lt (Heap.lt_size e)) b2 b3 b4 b5 (up _ _ e)) e1 e2 e3 (fun a ha => e4 a ha) e5 e6⟩
end
end LZ

namespace LZ
open PySem PySem.Spec PyProof.Rows L2
/-- pairs at new places -/
def putP : Hp → List Addr → List (V × V) → Hp
  | H, a :: as, p :: ps => putP (upd H a (.tup [p.1, p.2])) as ps
  | H, _, _ => H
theorem putP_off : ∀ (as : List Addr) (ps : List (V × V)) (H : Hp) {b : Addr}, b ∉ as → putP H as ps b = H b
  | [], _, _, _, _ => rfl
  | _ :: _, [], _, _, _ => rfl
  | a :: as, p :: ps, H, b, h => by
    have h1 : b ≠ a := fun q => h (by rw [q]; exact List.mem_cons_self ..)
    show putP (upd H a (.tup [p.1, p.2])) as ps b = H b
    rw [putP_off as ps _ fun q => h (List.mem_cons_of_mem _ q), upd_ne h1]
theorem putP_at : ∀ (as : List Addr) (ps : List (V × V)) (H : Hp), as.Nodup → ∀ (j : Nat) (a : Addr) (p : V × V), as[j]? = some a → ps[j]? = some p → putP H as ps a = some (.tup [p.1, p.2])
  | [], _, _, _, j, a, p, h, _ => by simp at h
  | _ :: _, [], _, _, j, a, p, _, h => by simp at h
  | a :: as, p :: ps, H, nd, 0, b, q, h1, h2 => by
    cases h1
    cases h2
    show putP (upd H a (.tup [p.1, p.2])) as ps a = _
    rw [putP_off as ps _ (List.nodup_cons.mp nd).1, upd_same]
  | a :: as, p :: ps, H, nd, j + 1, b, q, h1, h2 => putP_at as ps _ (List.nodup_cons.mp nd).2 j b q (by simpa using h1) (by simpa using h2)
section
variable {X : Cx}
theorem pairs_laid {pins : List (Addr × Obj)} {σ : L2.St} {H : Hp} {s : Shared} {h' : Heap} {tk : Nat} {ps : List (V × V)} {xs ys : List Value} {acc : Array Value} {c : Nat} {as : List Addr} {q : Addr} (I : Inv X pins σ H s) (hz : ps.length ≤ sizeLine) (v1 : Vals (ps.map (·.1)) xs) (v2 : Vals (ps.map (·.2)) ys)
    (hk : ∀ b o, s.heap.get? b = some o → h'.get? b = some o) (hq : s.heap.objs.size ≤ q) (hS : h'.get? q = some { cls := .type "list", dict := none, data := .seq acc c, slots := #[] }) (hl : as.length = ps.length) (up : as.Pairwise (· < ·)) (lo : ∀ a ∈ as, q < a)
    (hp : ∀ (j : Nat) (a : Addr), as[j]? = some a → ∃ x y, xs[j]? = some x ∧ ys[j]? = some y ∧ IsPair h' a x y) (ha : acc.toList = as.map Value.ref) :
    ∃ H' : Hp, (∀ b o, H b = some o → H' b = some o) ∧ H q = none ∧ (∀ t ∈ as, H t = none) ∧ q ∉ as ∧ H' q = some (.lst (as.map V.ref)) ∧ (∀ (j : Nat) (a : Addr) (p : V × V), as[j]? = some a → ps[j]? = some p → H' a = some (.tup [p.1, p.2])) ∧ Inv X pins σ H' { s with heap := h', toks := tk } := by
  have nq : q ∉ as := fun z => Nat.lt_irrefl _ (lo _ z)
  have nd : as.Nodup := up.imp fun h => Nat.ne_of_lt h
  have fr : ∀ t ∈ as, H t = none := fun t ht => I.hok.fresh (Nat.le_trans hq (Nat.le_of_lt (lo t ht)))
  have fq : H q = none := I.hok.fresh hq
  have at_ := putP_at as ps (upd H q (.lst (as.map V.ref))) nd
  have off : ∀ b, b ∉ as → b ≠ q → putP (upd H q (.lst (as.map V.ref))) as ps b = H b := fun b h1 h2 => by rw [putP_off as ps _ h1, upd_ne h2]
  have low : ∀ b o, s.heap.get? b = some o → b ∉ as ∧ b ≠ q := fun b o e => ⟨fun z => absurd (Nat.lt_of_lt_of_le (Heap.lt_size e) hq) (Nat.not_lt.mpr (Nat.le_of_lt (lo b z))), Nat.ne_of_lt (Nat.lt_of_lt_of_le (Heap.lt_size e) hq)⟩
  have kp : ∀ b u, H b = some u → (putP (upd H q (.lst (as.map V.ref))) as ps) b = some u := fun b u e => by
    rw [off b (fun z => by rw [fr b z] at e; cases e) (fun z => by rw [z, fq] at e; cases e)]
    exact e
  have eq_ : putP (upd H q (.lst (as.map V.ref))) as ps q = some (.lst (as.map V.ref)) := by rw [putP_off as ps _ nq, upd_same]
  refine ⟨putP (upd H q (.lst (as.map V.ref))) as ps, kp, fq, fr, nq, eq_, at_, ?_⟩
  refine I.call' (ch := []) rfl ⟨fun b o e _ _ _ => hk b o e, fun b o e _ _ _ => ⟨o.slots, hk b o e⟩, fun b o e n _ => ?_, fun b o e _ => ⟨o, hk b o e⟩, fun b us e => kp b _ e, fun b o u e => kp b _ e, fun b us e => ⟨#[], by rw [kp b _ e]; simp⟩⟩ (fun b u e => ?_) I.bare fun b z => by simp at z
  · obtain ⟨z1, z2⟩ := low b o e
    rw [off b z1 z2]
    exact n
  · by_cases hb : b ∈ as
    · obtain ⟨j, hj⟩ := List.mem_iff_getElem?.mp hb
      have hlt := (List.getElem?_eq_some_iff.mp hj).1
      have hpj : ps[j]? = some ps[j] := List.getElem?_eq_getElem (by omega)
      rw [at_ j b _ hj hpj] at e
      cases e
      obtain ⟨x, y, e1, e2, e3⟩ := hp j b hj
      obtain ⟨x', f1, f2⟩ := v1.get (i := j) (x := ps[j].1) (by rw [List.getElem?_map, hpj]; rfl)
      obtain ⟨y', g1, g2⟩ := v2.get (i := j) (x := ps[j].2) (by rw [List.getElem?_map, hpj]; rfl)
      cases f1.symm.trans e1
      cases g1.symm.trans e2
      exact ⟨by show 2 ≤ sizeLine; decide, [_, _], .cons f2 (.cons g2 .nil), ⟨_, e3, rfl, _, rfl⟩⟩
    · by_cases hb2 : b = q
      · subst hb2
        rw [eq_] at e
        cases e
        refine ⟨by rw [List.length_map]; omega, acc.toList, c, by rw [ha]; exact vals_refs as, ?_⟩
        rw [Array.toArray_toList]
        exact hS
      · rw [off b hb hb2] at e
        exact (I.hok b u e).stay (fun d v _ y => hk d v y) (fun d y => kp d _ y) fun d us y => kp d _ y
/-- list(zip(e, e2)) of two lists, one as long as the other -/
def tLZip (K : PySem.W.Frag) (ta : TA) : TE := fun σ H Q => ta σ H fun vs H1 => ∃ (a b : Addr) (ps : List (V × V)), vs = [.ref a, .ref b] ∧ SqL K H1 a (ps.map (·.1)) ∧ SqL K H1 b (ps.map (·.2)) ∧
  ∀ (H' : Hp) (q : Addr) (as : List Addr), (∀ b o, H1 b = some o → H' b = some o) → H1 q = none → (∀ t ∈ as, H1 t = none) → q ∉ as → H' q = some (.lst (as.map V.ref)) → as.length = ps.length → (∀ (j : Nat) (a : Addr) (p : V × V), as[j]? = some a → ps[j]? = some p → H' a = some (.tup [p.1, p.2])) → Q (.ref q) H'
theorem pe_listZip {e e2 : Expr} {ta : TA} {p p2 pos pos2 : Pos} (hc : X.calm = true) (hg : Gl X "list") (hm : X.mg "list" = none) (hg2 : Gl X "zip") (hm2 : X.mg "zip" = none) (ha : PA X [e, e2] ta)
    (hs : starEach [e, e2] X.env = (false, eval e X.env) :: starEach [e2] X.env := by rfl) (hpl : (backTo pos2 (starEach [e2] X.env)).any (·.1) = false := by rfl)
    (na : starEach [Expr.Call (.Name "zip" p2) [e, e2] [] pos2] X.env = (false, eval (.Call (.Name "zip" p2) [e, e2] [] pos2) X.env) :: starEach [] X.env := by rfl) :
    PE X (.Call (.Name "list" p) [.Call (.Name "zip" p2) [e, e2] [] pos2] [] pos) (tLZip X.K ta) := by
  refine ⟨fun pins s σ H Q I h => ?_⟩
  refine Call_ (ld_blt I hg hm boot_list (PyProof.Rows.callWith_type1 (args_cons ?_ na) na))
  refine Call_ (ld_blt I hg2 hm2 PyProof.Rows.boot_zip (PyProof.Rows.callWith_type1 (thn (ha.run pos2 pins s σ H _ I h) fun us s1 ⟨vs, H1, I1, r1, q1⟩ => ?_) hs hpl))
  obtain ⟨a, b, ps, ex, sa, sb, q1⟩ := q1
  subst ex
  cases r1 with
  | cons r rr =>
    cases rr with
    | cons r' rr =>
      cases rr
      cases r
      cases r'
      obtain ⟨xs, v1, g1, z1⟩ := I1.list sa
      obtain ⟨ys, v2, g2, z2⟩ := I1.list sb
      refine call_zip_2 g1.isList g2.isList fun h' c1 c2 c3 c4 c5 c6 kp => args_nil ?_
      have lx := v1.length
      have ly := v2.length
      rw [List.length_map] at lx ly z1
      have gx : h'.IsList a xs.toArray := g1.isList.at fun o e => kp _ _ e
      have gy : h'.IsList b ys.toArray := g2.isList.at fun o e => kp _ _ e
      refine list_zip (s := { s1 with heap := h' }) (I1.ok.hd hc) (PySem.W.ktu_apart s1.heap.objs.size a b g1.lt g2.lt) (by simp; omega) (by simp; omega) c1 c2 ⟨_, _, c3⟩ c4 c5 gx gy fun h2 tk c' acc as kp2 d1 d2 d3 d4 d5 d6 => ?_
      have hq : s1.heap.objs.size ≤ h'.objs.size := by rw [c6]; exact Nat.le_add_right _ _
      have all : ∀ b o, s1.heap.get? b = some o → h2.get? b = some o := fun b o e => by
        have hb := Heap.lt_size e
        exact kp2 b o (Nat.ne_of_lt (Nat.lt_of_lt_of_le hb (Nat.le_add_right _ _))) (Nat.ne_of_lt (Nat.lt_of_lt_of_le hb (Nat.le_add_right _ _))) (Nat.ne_of_lt hb) (Nat.ne_of_lt (Nat.lt_of_lt_of_le hb (Nat.le_add_right _ _))) (kp _ _ e)
      obtain ⟨H', k1, k2, k3, k4, k5, k6, J⟩ := pairs_laid (tk := tk) I1 z1 v1 v2 all hq d1 (by rw [d2]; simp; omega) d3 d4 (fun j t e => by
        obtain ⟨x, y, e1, e2, e3⟩ := d5 j t e
        exact ⟨x, y, by simpa using e1, by simpa using e2, e3⟩) d6
      exact ⟨.ref h'.objs.size, H', J, rfl, q1 H' h'.objs.size as k1 k2 k3 k4 k5 (by rw [d2]; simp; omega) k6⟩
end
end LZ
namespace PM
open PySem PySem.Spec PyProof.Rows L2 Q2
/-- a list and what it holds are new -/
theorem RS.newIn {K : KX} {ρ : List Addr} {S : Sto} {H H' : Hp} (R : RS K ρ S H) {q : Addr} {xs : List Va} {ws : List V} (kp : ∀ b o, H b = some o → H' b = some o) (fq : H q = none) (hl : xs.length ≤ sizeLine) (hq : H' q = some (.lst ws)) (h : Rvs K (ρ ++ [q]) H' xs ws) : Ext ρ (ρ ++ [q]) H H' ∧ RS K (ρ ++ [q]) (S ++ [.lst xs]) H' := by
  have hq' := R.fresh fq
  have E : Ext ρ (ρ ++ [q]) H H' := ⟨R.nt, ⟨[q], rfl⟩, fun b u e _ => kp b u e, fun b hb n => by
    rcases List.mem_append.mp hb with hb | hb
    · exact absurd hb n
    · rw [List.mem_singleton.mp hb]; exact fq⟩
  refine ⟨E, by simp [R.len], ?_, fun n a u h1 h2 => ?_⟩
  · refine List.nodup_append.mpr ⟨R.nd, by simp, fun x hx y hy z => hq' ?_⟩
    rw [← List.mem_singleton.mp hy, ← z]
    exact hx
  · by_cases hn : n < ρ.length
    · rw [List.getElem?_append_left hn] at h1
      rw [List.getElem?_append_left (by rw [← R.len]; exact hn)] at h2
      have ro := R.at_ n a u h1 h2
      obtain ⟨o, e, _⟩ := ro.nt
      exact ro.ext E (by rw [e, kp _ _ e])
    · have hn' : n = ρ.length := by
        have := (List.getElem?_eq_some_iff.mp h1).1
        simp at this
        omega
      subst hn'
      rw [List.getElem?_append_right (Nat.le_refl _), Nat.sub_self] at h1
      rw [List.getElem?_append_right (by rw [R.len]; exact Nat.le_refl _), R.len, Nat.sub_self] at h2
      cases h1
      cases h2
      exact ⟨hl, ws, hq, h⟩
def zipP : List Va → List Va → List Va
  | x :: xs, y :: ys => .tup [x, y] :: zipP xs ys
  | _, _ => []
theorem zipP_len : ∀ {xs ys : List Va}, xs.length = ys.length → (zipP xs ys).length = xs.length
  | [], [], _ => rfl
  | x :: xs, y :: ys, h => by
    show (zipP xs ys).length + 1 = xs.length + 1
    rw [zipP_len (by simpa using h)]
def mLZip (t : MA) : ME := fun Γ S => (t Γ S).bind fun vs S1 => match vs with
  | [v, w] => match lstOf S1 v, lstOf S1 w with
    | some xs, some ys => if xs.length = ys.length ∧ xs.length ≤ sizeLine then .ok (.ref S1.length) (S1 ++ [.lst (zipP xs ys)]) else .bad
    | _, _ => .bad
  | _ => .bad
theorem lst_sq {K : KX} {ρ : List Addr} {S : Sto} {H : Hp} {v : Va} {xs : List Va} {u : V} (R : RS K ρ S H) (r : Rv K ρ H v u) (h : lstOf S v = some xs) : ∃ a ws, u = .ref a ∧ SqL K.K H a ws ∧ Rvs K ρ H xs ws := by
  cases v with
  | ref n =>
    obtain ⟨a, h1, rfl⟩ := r
    unfold lstOf at h
    simp only at h
    cases e : S[n]? with
    | none => rw [e] at h; cases h
    | some o =>
      rw [e] at h
      cases o with
      | lst ys =>
        cases h
        obtain ⟨_, ws, h3, h4⟩ := R.at_ n a _ h1 e
        exact ⟨a, ws, rfl, SqL.of h3, h4⟩
      | setT _ => cases h
      | raw _ => cases h
      | tbl _ => cases h
      | dct _ => cases h
  | rol ys =>
    cases h
    obtain ⟨a, ws, rfl, h1, h2⟩ := r
    exact ⟨a, ws, rfl, h1.sq, h2⟩
  | _ => cases h
theorem zip_rel {K : KX} {ρ ρ' : List Addr} {H H' : Hp} (E : Ext ρ ρ' H H') : ∀ {xs ys : List Va} {ps : List (V × V)} {as : List Addr}, Rvs K ρ H xs (ps.map (·.1)) → Rvs K ρ H ys (ps.map (·.2)) → as.length = ps.length → (∀ (j : Nat) (a : Addr) (p : V × V), as[j]? = some a → ps[j]? = some p → H' a = some (.tup [p.1, p.2])) → Rvs K ρ' H' (zipP xs ys) (as.map V.ref)
  | [], _, [], [], _, _, _, _ => rfl
  | x :: xs, y :: ys, p :: ps, a :: as, h1, h2, hl, hp => by
    obtain ⟨w, r, e1, r1, t1⟩ := h1
    obtain ⟨w', r', e2, r2, t2⟩ := h2
    cases e1
    cases e2
    refine Rvs.cons ⟨a, [p.1, p.2], rfl, SqT.of (hp 0 a p rfl rfl), Rvs.cons (r1.ext E) (Rvs.cons (r2.ext E) rfl)⟩ (zip_rel E t1 t2 (by simpa using hl) fun j b q e1 e2 => hp (j + 1) b q (by simpa using e1) (by simpa using e2))
  | [], _, p :: ps, _, h1, _, _, _ => by cases h1
  | x :: xs, _, [], _, h1, _, _, _ => by obtain ⟨w, r, e, _⟩ := h1; cases e
  | _, [], p :: ps, _, _, h2, _, _ => by cases h2
  | _, y :: ys, [], _, _, h2, _, _ => by obtain ⟨w, r, e, _⟩ := h2; cases e
  | _, _, p :: ps, [], _, _, hl, _ => by simp at hl
  | _, _, [], a :: as, _, _, hl, _ => by simp at hl
theorem pm_listZip {X : Cx} {W : XW} {e e2 : Expr} {t : MA} {p p2 pos pos2 : Pos} (hc : X.calm = true) (hg : Gl X "list") (hm : X.mg "list" = none) (hg2 : Gl X "zip") (hm2 : X.mg "zip" = none) (ha : PMA X W [e, e2] t)
    (hs : starEach [e, e2] X.env = (false, eval e X.env) :: starEach [e2] X.env := by rfl) (hpl : (backTo pos2 (starEach [e2] X.env)).any (·.1) = false := by rfl)
    (na : starEach [Expr.Call (.Name "zip" p2) [e, e2] [] pos2] X.env = (false, eval (.Call (.Name "zip" p2) [e, e2] [] pos2) X.env) :: starEach [] X.env := by rfl) :
    PM X W (.Call (.Name "list" p) [.Call (.Name "zip" p2) [e, e2] [] pos2] [] pos) (mLZip t) := by
  refine pe_imp (LZ.pe_listZip hc hg hm hg2 hm2 ha hs hpl na) fun σ H Q ⟨ρ, Γ, S, R, G, q⟩ => ?_
  refine ⟨ρ, Γ, S, R, G, q.bind fun vs S1 ρ1 H1 ws E1 R1 rx q1 => ?_⟩
  match vs, rx, q1 with
  | [], _, q1 => exact q1.elim
  | [_], _, q1 => exact q1.elim
  | _ :: _ :: _ :: _, _, q1 => exact q1.elim
  | [v, w], rx, q1 =>
    obtain ⟨x, y, rfl, r1, r2⟩ := two_of rx rfl
    cases ev : lstOf S1 v with
    | none => simp only [ev] at q1; exact q1.elim
    | some xs =>
      cases ew : lstOf S1 w with
      | none => simp only [ev, ew] at q1; exact q1.elim
      | some ys =>
        simp only [ev, ew] at q1
        by_cases hl : xs.length = ys.length ∧ xs.length ≤ sizeLine
        · rw [if_pos hl] at q1
          obtain ⟨a, us, rfl, s1, t1⟩ := lst_sq R1 r1 ev
          obtain ⟨b, zs, rfl, s2, t2⟩ := lst_sq R1 r2 ew
          have l1 := t1.len
          have l2 := t2.len
          have e1 : (us.zip zs).map (·.1) = us := by rw [List.map_fst_zip]; omega
          have e2 : (us.zip zs).map (·.2) = zs := by rw [List.map_snd_zip]; omega
          refine ⟨a, b, us.zip zs, rfl, by rw [e1]; exact s1, by rw [e2]; exact s2, fun H' q as k1 k2 k3 k4 k5 k6 k7 => ?_⟩
          have E0 : Ext ρ1 (ρ1 ++ [q]) H1 H' := ⟨R1.nt, ⟨[q], rfl⟩, fun b u e _ => k1 b u e, fun b hb n => by
            rcases List.mem_append.mp hb with hb | hb
            · exact absurd hb n
            · rw [List.mem_singleton.mp hb]; exact k2⟩
          have rel := zip_rel E0 (xs := xs) (ys := ys) (ps := us.zip zs) (as := as) (by rw [e1]; exact t1) (by rw [e2]; exact t2) k6 k7
          obtain ⟨E, R2⟩ := R1.newIn k1 k2 (xs := zipP xs ys) (by rw [zipP_len hl.1]; exact hl.2) k5 rel
          exact q1 _ _ _ E R2 (R1.last q)
        · rw [if_neg hl] at q1
          exact q1.elim
end PM

namespace Q2
open PySem PySem.Spec PyProof.Rows L2
section
variable {prog : Program} {w : World} {A : Around} {E : Value → Shared → Prop} {s : Shared}
theorem sliceApplied_rev2 {sl : Addr} {tk : Tok} {Q : Int × Int × Nat → Shared → Prop} (hs : s.heap.IsSliceOf sl .none .none (.int (-1) tk)) (h : Q (1, -1, 2) s) :
    wpAny (model prog w) A (Builtin.Slice.sliceApplied (.ref sl) (pure ((2 : Nat) : Int))) Q E s := by
  obtain ⟨os, hos, hcs, hds⟩ := id hs
  unfold Builtin.Slice.sliceApplied Builtin.Slice.sliceFields
  refine wpAny_bind (wpAny_bind (wpAny_field hos hds (x := .none) rfl (wpAny_bind (wpAny_field hos hds (x := .none) rfl (wpAny_bind (wpAny_field hos hds (x := .int (-1) tk) rfl (wpAny_pure ?_)))))))
  refine wpAny_bind (slicePart_int ?_)
  show wpAny _ _ (if ((-1 : Int) == 0) = true then _ else _) _ _ s
  rw [if_neg (by decide)]
  refine wpAny_bind (slicePart_none (wpAny_bind (slicePart_none (wpAny_bind (wpAny_pure ?_)))))
  show wpAny _ _ (match Builtin.Slice.sliceAdjust none none (-1) ((2 : Nat) : Int) with | (lo, hi) => pure (lo, (-1 : Int), Builtin.Slice.slicePlaces lo hi (-1))) _ _ s
  rw [show Builtin.Slice.sliceAdjust none none (-1) ((2 : Nat) : Int) = (1, -1) by decide]
  show wpAny _ _ (pure ((1 : Int), (-1 : Int), Builtin.Slice.slicePlaces 1 (-1) (-1))) _ _ s
  rw [show Builtin.Slice.slicePlaces 1 (-1) (-1) = 2 by decide]
  exact wpAny_pure h
theorem getItem_tuple_rev2 {t sl : Addr} {u v : Value} {tk : Tok} {Q : Value → Shared → Prop} (ht : IsTup s.heap t #[u, v]) (hs : s.heap.IsSliceOf sl .none .none (.int (-1) tk))
    (h : Q (.ref s.heap.objs.size) { s with heap := s.heap.push { cls := .type "tuple", data := .seq #[v, u] } }) : wpAny (model prog w) A (getItem (.ref t) (.ref sl)) Q E s := by
  have hdrop : sizeOk (.seq #[v, u]) := by
    show 2 ≤ sizeLine
    decide
  obtain ⟨os, hos, hcs, hds⟩ := id hs
  have hTs : s.TypeIs (.ref sl) "slice" := ⟨os, hos, hcs⟩
  unfold getItem
  try with_reducible refine wpAny_holding ?_
  first | refine wpAny_bind (wpAny_pure ?_) | skip
  refine wpAny_bind (wpAny_sequenceKey ht.typeIs (by decide) ?_)
  refine wpAny_bind (wpAny_callSpecial?_slot (name := Str.ofString "__getitem__") ht.typeIs PyProof.Rows.slot_tuple_getitem
    (wpAny_call_entry PyProof.Rows.slot_tuple_getitem ht.typeIs entry_tuple_getitem ?_ (args_tuple_getitem _ _)))
  show wpAny _ _ (Builtin.Tuple.tupleItemsOf (.ref t) >>= _) _ _ s
  refine wpAny_bind (tupleItemsOf_ ht ?_)
  refine wpAny_bind (wpAny_typeOf hTs ?_)
  rw [if_pos (by decide)]
  refine wpAny_bind (sliceApplied_rev2 hs ?_)
  show wpAny _ _ (if ((1 : Int) == 0 && (-1 : Int) == 1 && (2 : Nat) == 2) = true then _ else _) _ _ s
  rw [if_neg (by decide)]
  have pick : ((List.range 2).filterMap fun (k : Nat) => (#[u, v] : Array Value)[((1 : Int) + (k : Int) * (-1)).toNat]?).toArray = #[v, u] := rfl
  rw [pick]
  first
    | exact wpAny_bind (m := Builtin.Tuple.tupleExact _) (wpAny_newObj_type (wpAny_pure ⟨_, rfl, wpAny_pure h⟩) hdrop)
    | exact wpAny_bind (m := Builtin.Tuple.tupleExact _) (wpAny_newObj_type (wpAny_bind (wpAny_pure (wpAny_pure ⟨_, rfl, wpAny_pure h⟩))) hdrop)
    | exact wpAny_bind (wpAny_bind (m := Builtin.Tuple.tupleExact _) (wpAny_newObj_type (wpAny_pure (wpAny_pure ⟨_, rfl, wpAny_pure h⟩)) hdrop))
    | exact wpAny_bind (wpAny_bind (m := Builtin.Tuple.tupleExact _) (wpAny_newObj_type (wpAny_pure ⟨_, rfl, wpAny_pure h⟩) hdrop))
end
section
variable {X : Cx}
/-- t[::-1] of a pair -/
def tRevT (K : PySem.W.Frag) (te : TE) : TE := fun σ H Q => te σ H fun x H1 => ∃ a p q, x = .ref a ∧ SqT K H1 a [p, q] ∧ ∀ r, H1 r = none → Q (.ref r) (upd H1 r (.tup [q, p]))
theorem pe_revT {e : Expr} {te : TE} {k : Nat} {p1 p2 p3 pos : Pos} (he : PE X e te) : PE X (.Subscript e (.Slice none none (some (.UnaryOp .USub (.Constant (.int 1) k p1) p2)) p3) pos) (tRevT X.K te) := by
  refine ⟨fun pins s σ H Q I h => ?_⟩
  refine Subscript_ (thn (he.run pins s σ H _ I h) fun v s1 ⟨x, H1, I1, r1, q1⟩ => ?_)
  obtain ⟨a, xp, xq, ex, hx, q⟩ := q1
  subst ex
  cases r1
  have hst : PO X (some (.UnaryOp .USub (.Constant (.int 1) k p1) p2)) (tPart (tUn (rU fun i => .int (-i)) (tC (.int 1)))) := po_some (pe_un un_neg pe_int)
  refine wpAny_Slice (thn (po_none.run pins s1 σ H1 (fun o H2 => o = none ∧ H2 = H1) I1 ⟨rfl, rfl⟩) fun vl s2 ⟨l, H2, I2, pl, el, e2⟩ => ?_)
  subst el e2
  refine thn (po_none.run pins s2 σ H2 (fun o H3 => o = none ∧ H3 = H2) I2 ⟨rfl, rfl⟩) fun vu s3 ⟨u, H3, I3, pu, eu, e3⟩ => ?_
  subst eu e3
  refine thn (hst.run pins s3 σ H3 (fun o H4 => o = some (-1) ∧ H4 = H3) I3 ⟨1, rfl, -1, rfl, rfl, rfl⟩) fun vs s4 ⟨o, H4, I4, ps, eo, e4⟩ => ?_
  subst eo e4
  have I5 : Inv X pins σ H4 { s4 with heap := s4.heap.push { cls := .type "slice", data := .fields #[vl, vu, vs] } } := I4.kept (t' := s4.toks) fun b ob q => Heap.get?_push_of_some _ q
  obtain ⟨its, r, ht, hz⟩ := I5.tuple hx
  cases pl
  cases pu
  cases ps

  cases r with
  | cons r1 rr =>
    rename_i u1 us
    cases rr with
    | cons r2 rr2 =>
      rename_i u2 us2
      cases rr2
      show wpAny (model X.prog X.w) X.A (subscriptTail e (.Slice none none (some (.UnaryOp .USub (.Constant (.int 1) k p1) p2)) p3) (.ref a) (.ref s4.heap.objs.size)) (EP X pins σ Q) X.xe { s4 with heap := s4.heap.push { cls := .type "slice", data := .fields #[.none, .none, .int (-1) _] } }
      refine tail_any (ops := [.ref a, .ref s4.heap.objs.size]) ht.typeIs (PyProof.Rows.slot_tuple_getitem.lookup) ?_ (by with_unfolding_all rfl)
      refine getItem_tuple_rev2 (u := u1) (v := u2) ht (Heap.IsSliceOf.new _ .none .none _) ?_
      refine ⟨.ref _, _, I5.laid (t' := s4.toks) (o := .tup [xq, xp]) (fun b ob q => Heap.get?_push_of_some _ q) (Nat.le_refl _) ?_, rfl, q _ (I5.hok.fresh (Nat.le_refl _))⟩
      exact ⟨by show 2 ≤ sizeLine; decide, [u2, u1], .cons r2 (.cons r1 .nil), IsTup.new _ _⟩
end
end Q2

namespace Q2
open PySem PySem.Spec PyProof.Rows L2 PySem.Builtin PySem.Builtin.Str
/-- every other sign of a text, from a on -/
def every2 (a : Int) (z : PySem.Str) : PySem.Str := ⟨((strSliceIndices (some a) none 2 z.length).filterMap (z.cps[·]?)).toArray⟩
def tSl2 (a : Int) (te : TE) : TE := fun σ H Q => te σ H fun x H1 => ∃ z : PySem.Str, x = .str z ∧ (every2 a z).length ≤ sizeLine ∧ Q (.str (every2 a z)) H1
theorem made2 (z : PySem.Str) (t : Tok) (a : Int) (u1 u2 : Tok) : sliceMade z t (some (a, u1)) none (some (2, u2)) = Made.str (every2 a z) := by
  unfold sliceMade
  rw [if_neg (by simp)]
  rfl
theorem pe_sl2 {X : Cx} {e : Expr} {te : TE} {a : Int} {k1 k2 : Nat} {p1 p2 p3 pos : Pos} (he : PE X e te) : PE X (.Subscript e (.Slice (some (.Constant (.int a) k1 p1)) none (some (.Constant (.int 2) k2 p2)) p3) pos) (tSl2 a te) := by
  refine ⟨fun pins s σ H Q I h => ?_⟩
  refine Subscript_ (thn (he.run pins s σ H _ I h) fun v s1 ⟨x, H1, I1, r1, q1⟩ => ?_)
  obtain ⟨z, ex, hl, q⟩ := q1
  subst ex
  obtain ⟨t, rfl⟩ := r1
  have hlo : PO X (some (.Constant (.int a) k1 p1)) (tPart (tC (.int a))) := po_some pe_int
  have hst : PO X (some (.Constant (.int 2) k2 p2)) (tPart (tC (.int 2))) := po_some pe_int
  refine wpAny_Slice (thn (hlo.run pins s1 σ H1 (fun o H2 => o = some a ∧ H2 = H1) I1 ⟨a, rfl, rfl, rfl⟩) fun vl s2 ⟨l, H2, I2, pl, el, e2⟩ => ?_)
  subst el e2
  refine thn (po_none.run pins s2 σ H2 (fun o H3 => o = none ∧ H3 = H2) I2 ⟨rfl, rfl⟩) fun vu s3 ⟨u, H3, I3, pu, eu, e3⟩ => ?_
  subst eu e3
  refine thn (hst.run pins s3 σ H3 (fun o H4 => o = some 2 ∧ H4 = H3) I3 ⟨2, rfl, rfl, rfl⟩) fun vs s4 ⟨o, H4, I4, ps, eo, e4⟩ => ?_
  subst eo e4
  have I5 : Inv X pins σ H4 { s4 with heap := s4.heap.push { cls := .type "slice", data := .fields #[vl, vu, vs] } } := I4.kept (t' := s4.toks) fun b ob q => Heap.get?_push_of_some _ q
  cases pl
  cases pu
  cases ps

  show wpAny (model X.prog X.w) X.A (subscriptTail e (.Slice (some (.Constant (.int a) k1 p1)) none (some (.Constant (.int 2) k2 p2)) p3) (.str z t) (.ref s4.heap.objs.size)) (EP X pins σ Q) X.xe { s4 with heap := s4.heap.push { cls := .type "slice", data := .fields #[.int a _, .none, .int 2 _] } }
  refine tail_any (ops := [.str z t, .ref s4.heap.objs.size]) (typeIs_str _ z t) (F.slot_str_getitem.lookup) ?_ (by with_unfolding_all rfl)
  refine PySem.wpAny_getItem_str_slice (l := some (a, _)) (u := none) (st := some (2, _)) ⟨_, Heap.get?_push_size _ rfl, rfl, rfl⟩ rfl ?_
  rw [made2]
  exact ⟨hl, ⟨.str _, _, I5.tok _, ⟨_, rfl⟩, q⟩⟩
end Q2

namespace PM
open PySem PySem.Spec PyProof.Rows L2 Q2
/-! ### t[a::2], t.zfill(n) of a text -/
def sl2F (a : Int) : F1 := fun v S => match v with
  | .str z => if (every2 a z).length ≤ sizeLine then some (.str (every2 a z), S) else none
  | _ => none
theorem pm_sl2 {X : Cx} {W : XW} {e : Expr} {m : ME} {a : Int} {k1 k2 : Nat} {p1 p2 p3 pos : Pos} (h : PM X W e m) : PM X W (.Subscript e (.Slice (some (.Constant (.int a) k1 p1)) none (some (.Constant (.int 2) k2 p2)) p3) pos) (m1 (sl2F a) m) := by
  refine pe_imp (pe_sl2 h) fun σ H Q ⟨ρ, Γ, S, R, G, q⟩ => ?_
  refine ⟨ρ, Γ, S, R, G, q.bind fun v S1 ρ1 H1 x E1 R1 rx q1 => ?_⟩
  have q1 := q1.ans
  cases v with
  | str z =>
    cases rx
    have q1 : Ans (kxOf X) Q ρ1 H1 (if (every2 a z).length ≤ sizeLine then some (.str (every2 a z), S1) else none) := q1
    obtain ⟨hl, b⟩ := ans_if q1
    exact ⟨z, rfl, hl, b ρ1 H1 _ R1.refl R1 rfl⟩
  | _ => exact q1.elim
def mZf (o : ME) (t : MA) : ME := fun Γ S => (o Γ S).bind fun ov S1 => match ov with
  | .str z => (t Γ S1).bind fun vs S2 => match vs with
    | [.int i] => if PadOk i = true then .ok (.str (Txt.zfill z i)) S2 else .bad
    | _ => .bad
  | _ => .bad
theorem pm_zfill {X : Cx} {W : XW} {o e : Expr} {es : List Expr} {mo : ME} {t : MA} {apos cpos : Pos} (ho : PM X W o mo) (ht : PMA X W (e :: es) t)
    (hbase : attributeBase o "zfill" X.env (eval o X.env) = eval o X.env := by rfl)
    (hfew : ((backTo cpos (starEach (e :: es) X.env)).all (fun x => !x.1) && (backToKw cpos (keywordEach [] X.env)).all (fun x => x.1.isSome)
      && decide ((e :: es).length + ([] : List Keyword).length + (if ([] : List Keyword).isEmpty then 0 else 1) < 30)) = true := by rfl)
    (hline : (apos.endLine == cpos.line) = true := by rfl) (hs : starEach (e :: es) X.env = (false, eval e X.env) :: starEach es X.env := by rfl) (hplain : (backTo cpos (starEach es X.env)).any (·.1) = false := by rfl) :
    PM X W (.Call (.Attribute o "zfill" apos) (e :: es) [] cpos) (mZf mo t) := by
  refine pe_imp (pe_bm PySem.F.plainAttrs_str PySem.F.slot_str_zfill PySem.F.type_str_zfill mt_zfill ho ht hbase hfew hline hs hplain) fun σ H Q ⟨ρ, Γ, S, R, G, q⟩ => ?_
  refine ⟨ρ, Γ, S, R, G, q.bind fun ov S1 ρ1 H1 x E1 R1 rx q1 => ?_⟩
  cases ov with
  | str z =>
    cases rx
    refine ⟨?_, ρ1, Γ, S1, R1, G.ext E1, q1.bind fun vs S2 ρ2 H2 ys E2 R2 ry q2 => ?_⟩
    · rfl
    · cases vs with
      | nil => exact q2.elim
      | cons v r =>
        cases r with
        | cons _ _ => cases v <;> exact q2.elim
        | nil =>
          obtain ⟨y, rfl, r1⟩ := one_of ry rfl
          cases v with
          | int i =>
            cases r1
            have q3 : Aft (kxOf X) W σ (Rv (kxOf X)) Q ρ2 H2 (if PadOk i = true then Res.ok (Va.str (Txt.zfill z i)) S2 else Res.bad) := q2
            by_cases hp : PadOk i = true
            · rw [if_pos hp] at q3
              exact ⟨z, i, rfl, rfl, hp, q3 ρ2 H2 _ R2.refl R2 rfl⟩
            · rw [if_neg hp] at q3
              exact q3.elim
          | _ => exact q2.elim
  | _ => exact q1.elim
end PM

namespace PM
open PySem PySem.Spec PyProof.Rows L2 Q2
/-! ### << of great numbers -/
@[irreducible] def shlCW (i j : Int) : Bool := decide (0 ≤ j ∧ (Builtin.Int.intBits i : Int) + j ≤ 2 ^ 27)
def shlW : F2 := fI2 shlCW fun i j => .int (i * 2 ^ j.toNat)
theorem oShlW {X : Cx} : OpP X (binaryOp .LShift) shlW := opI2 op_shlW (fun i j h => of_decide_eq_true (p := 0 ≤ j ∧ (Builtin.Int.intBits i : Int) + j ≤ 2 ^ 27) (by unfold shlCW at h; exact h)) fun _ _ _ _ => rfl
end PM

namespace PM
open PySem PySem.Spec PyProof.Rows L2 Q2
/-! ### weakest conditions -/
def Wp {α : Type} (r : Res α) (Q : α → Sto → Prop) : Prop := match r with
  | .ok a S => Q a S
  | _ => False
structure Po where
  nx : En → Sto → Prop
  rt : Va → Sto → Prop
  bk : En → Sto → Prop := fun _ _ => False
  ct : En → Sto → Prop := fun _ _ => False
def Ws (r : Rs) (P : Po) : Prop := match r with
  | .nx Γ S => P.nx Γ S
  | .rt v S => P.rt v S
  | .bk Γ S => P.bk Γ S
  | .ct Γ S => P.ct Γ S
  | _ => False
def Wo (o : Option (Va × Sto)) (Q : Va → Sto → Prop) : Prop := match o with
  | some (v, S) => Q v S
  | none => False
section
variable {α β : Type} {Q Q' : α → Sto → Prop} {Γ : En} {S : Sto} {P : Po}
theorem Wp.mono {r : Res α} (h : Wp r Q) (hq : ∀ a S, Q a S → Q' a S) : Wp r Q' := by
  cases r with
  | ok a S => exact hq a S h
  | bad => exact h
  | ex c f v S => exact h
theorem Wp.bind {r : Res α} {k : α → Sto → Res β} {R : β → Sto → Prop} (h : Wp r fun a S => Wp (k a S) R) : Wp (r.bind k) R := by
  cases r with
  | ok a S => exact h
  | bad => exact h
  | ex c f v S => exact h
theorem Wp.bindN {r : Res α} {k : α → Sto → Res β} {R : β → Sto → Prop} (h : Wp r fun a S => Wp (k a S) R) : Wp (r.bindN k) R := by
  cases r with
  | ok a S => exact h
  | bad => exact h
  | ex c f v S => exact h
theorem Wp.noX {r : Res α} (h : Wp r Q) : Wp (noX r) Q := by
  cases r with
  | ok a S => exact h
  | bad => exact h
  | ex c f v S => exact h
theorem Wp.thenS {r : Res α} {k : α → Sto → Rs} (h : Wp r fun a S => Ws (k a S) P) : Ws (PM.thenS Γ r k) P := by
  cases r with
  | ok a S => exact h
  | bad => exact h
  | ex c f v S => exact h
theorem Wp.lift {o : Option (Va × Sto)} {Q : Va → Sto → Prop} (h : Wo o Q) : Wp (PM.lift o) Q := by
  cases o with
  | none => exact h
  | some p => exact h
theorem Wp.ok {a : α} (h : Q a S) : Wp (.ok a S) Q := h
theorem Wp.eq {r : Res α} {a : α} (e : r = .ok a S) (h : Q a S) : Wp r Q := by rw [e]; exact h
theorem Wp.get {r : Res α} (h : Wp r Q) : ∃ a S', r = .ok a S' ∧ Q a S' := by
  cases r with
  | ok a S => exact ⟨a, S, rfl, h⟩
  | bad => exact h.elim
  | ex c f v S => exact h.elim
theorem Wo.eq {o : Option (Va × Sto)} {v : Va} {Q : Va → Sto → Prop} (e : o = some (v, S)) (h : Q v S) : Wo o Q := by rw [e]; exact h
end
section
variable {Q : Va → Sto → Prop} {QL : List Va → Sto → Prop} {QB : Bool → Sto → Prop} {Γ : En} {S : Sto} {P : Po}
theorem w_var {i : Nat} {v : Va} (h : Γ[i]? = some (some v)) (q : Q v S) : Wp (mV i Γ S) Q := by
  unfold mV
  rw [h]
  exact q
theorem w_c {v : Va} (q : Q v S) : Wp (mC v Γ S) Q := q
theorem w_m1 {f : F1} {a : ME} (h : Wp (a Γ S) fun v S1 => Wo (f v S1) Q) : Wp (m1 f a Γ S) Q := Wp.bind (h.mono fun _ _ h => Wp.lift h)
theorem w_m2 {f : F2} {a b : ME} (h : Wp (a Γ S) fun v S1 => Wp (b Γ S1) fun w S2 => Wo (f v w S2) Q) : Wp (m2 f a b Γ S) Q := Wp.bind (h.mono fun _ _ h => Wp.bind (h.mono fun _ _ h => Wp.lift h))
theorem w_maN (q : QL [] S) : Wp (maN Γ S) QL := q
theorem w_maC {a : ME} {t : MA} (h : Wp (a Γ S) fun v S1 => Wp (t Γ S1) fun vs S2 => QL (v :: vs) S2) : Wp (maC a t Γ S) QL := Wp.bind (h.mono fun _ _ h => Wp.bind h)
theorem w_mL {f : FL} {t : MA} (h : Wp (t Γ S) fun vs S1 => Wo (f vs S1) Q) : Wp (mL f t Γ S) Q := Wp.bind (h.mono fun _ _ h => Wp.lift h)
theorem w_call {g : MF} {t : MA} (h : Wp (t Γ S) fun vs S1 => Wp (g vs S1) Q) : Wp (mCall g t Γ S) Q := Wp.bind h
theorem w_callKw {n m : Nat} {o : List Nat} {g : MF} {t u : MA} (h : Wp (t Γ S) fun vs S1 => Wp (u Γ S1) fun ws S2 => (vs.length = n ∧ ws.length = m ∧ (permL o (vs ++ ws)).length = o.length) ∧ Wp (g (permL o (vs ++ ws)) S2) Q) : Wp (mCallKw n m o g t u Γ S) Q :=
  Wp.bindN (h.mono fun _ _ h => Wp.bindN (h.mono fun _ _ h => by rw [if_pos h.1]; exact h.2.noX))
theorem w_mtOf {a : ME} (h : Wp (a Γ S) fun v S1 => ∃ b, v = .bl b ∧ QB b S1) : Wp (mtOf a Γ S) QB := Wp.bind (h.mono fun _ _ h => by obtain ⟨b, rfl, q⟩ := h; exact q)
theorem w_mtTru {a : ME} (h : Wp (a Γ S) fun v S1 => ∃ b, tru S1 v = some b ∧ QB b S1) : Wp (mtTru a Γ S) QB := Wp.bind (h.mono fun _ _ h => by obtain ⟨b, e, q⟩ := h; simp only [e]; exact q)
theorem w_mtNot {a : MT} (h : Wp (a Γ S) fun b S1 => QB (!b) S1) : Wp (mtNot a Γ S) QB := Wp.bind h
theorem w_mtAnd {a b : MT} (h : Wp (a Γ S) fun c S1 => if c = true then Wp (b Γ S1) QB else QB false S1) : Wp (mtAnd a b Γ S) QB := Wp.bind (h.mono fun c _ h => by
  cases c with
  | true => exact h
  | false => exact h)
theorem w_mtOr {a b : MT} (h : Wp (a Γ S) fun c S1 => if c = true then QB true S1 else Wp (b Γ S1) QB) : Wp (mtOr a b Γ S) QB := Wp.bind (h.mono fun c _ h => by
  cases c with
  | true => exact h
  | false => exact h)
theorem w_meAnd {a b : ME} (h : Wp (a Γ S) fun v S1 => ∃ c, v = .bl c ∧ if c = true then Wp (b Γ S1) Q else Q (.bl false) S1) : Wp (meAnd a b Γ S) Q := Wp.bind (h.mono fun _ _ h => by
  obtain ⟨c, rfl, h⟩ := h
  cases c with
  | true => exact h
  | false => exact h)
theorem w_meOr {a b : ME} (h : Wp (a Γ S) fun v S1 => ∃ c, v = .bl c ∧ if c = true then Q (.bl true) S1 else Wp (b Γ S1) Q) : Wp (meOr a b Γ S) Q := Wp.bind (h.mono fun _ _ h => by
  obtain ⟨c, rfl, h⟩ := h
  cases c with
  | true => exact h
  | false => exact h)
theorem w_mNot {a : ME} (h : Wp (a Γ S) fun v S1 => ∃ c, v = .bl c ∧ Q (.bl (!c)) S1) : Wp (mNot a Γ S) Q := Wp.bind (h.mono fun _ _ h => by
  obtain ⟨c, rfl, h⟩ := h
  exact h)
theorem w_isN {a : ME} (h : Wp (a Γ S) fun v S1 => Q (.bl (isNonV v)) S1) : Wp (mIsN a Γ S) Q := Wp.bind h
theorem w_notN {a : ME} (h : Wp (a Γ S) fun v S1 => Q (.bl (!isNonV v)) S1) : Wp (mNotN a Γ S) Q := Wp.bind h
theorem w_if {c : MT} {a b : ME} (h : Wp (c Γ S) fun k S1 => if k = true then Wp (a Γ S1) Q else Wp (b Γ S1) Q) : Wp (mIf c a b Γ S) Q := Wp.bind (h.mono fun c _ h => by
  cases c with
  | true => exact h
  | false => exact h)
theorem w_isiT {a : ME} {ts : List String} (h : Wp (a Γ S) fun v S1 => ∃ k b, kindV S1 v = some k ∧ kitAnyB k ts = some b ∧ Q (.bl b) S1) : Wp (mIsiT a ts Γ S) Q := Wp.bind (h.mono fun _ _ h => by
  obtain ⟨k, b, h1, h2, q⟩ := h
  simp only [h1, h2]
  exact q)
theorem w_chain {f g : F2} {a b c : ME} (h : Wp (a Γ S) fun v S1 => Wp (b Γ S1) fun w S2 => Wo (f v w S2) fun z S3 => ∃ k, z = .bl k ∧ if k = true then Wp (c Γ S3) fun u S4 => Wo (g w u S4) Q else Q (.bl false) S3) : Wp (mChain f g a b c Γ S) Q :=
  Wp.bind (h.mono fun _ _ h => Wp.bind (h.mono fun _ _ h => Wp.bind (Wp.mono (Wp.lift h) fun _ _ h => by
    obtain ⟨k, rfl, h⟩ := h
    cases k with
    | true => exact Wp.bind (Wp.mono h fun _ _ h => Wp.lift h)
    | false => exact h)))
/-! ### statements -/
theorem ws_seq {a b : MS} (h : Ws (a Γ S) { P with nx := fun Γ' S' => Ws (b Γ' S') P }) : Ws (sSeq a b Γ S) P := by
  unfold sSeq
  cases e : a Γ S <;> rw [e] at h <;> exact h
theorem ws_nil (h : P.nx Γ S) : Ws (sNil Γ S) P := h
theorem ws_expr {m : ME} (h : Wp (m Γ S) fun _ S1 => P.nx Γ S1) : Ws (sExpr m Γ S) P := Wp.thenS h
theorem ws_ret {m : ME} (h : Wp (m Γ S) P.rt) : Ws (sRet m Γ S) P := Wp.thenS h
theorem ws_if {c : MT} {a b : MS} (h : Wp (c Γ S) fun k S1 => if k = true then Ws (a Γ S1) P else Ws (b Γ S1) P) : Ws (sIf c a b Γ S) P := Wp.thenS (h.mono fun c _ h => by
  cases c with
  | true => exact h
  | false => exact h)
theorem ws_set {i : Nat} {m : ME} (h : Wp (m Γ S) fun v S1 => P.nx (Γ.set i (some v)) S1) : Ws (sSet i m Γ S) P := Wp.thenS h
theorem ws_par {i j : Nat} {t : MA} (h : Wp (t Γ S) fun vs S1 => ∃ v w, vs = [v, w] ∧ P.nx ((Γ.set i (some v)).set j (some w)) S1) : Ws (sPar i j t Γ S) P := Wp.thenS (h.mono fun _ _ h => by
  obtain ⟨v, w, rfl, h⟩ := h
  exact h)
theorem ws_par3 {i j l : Nat} {t : MA} (h : Wp (t Γ S) fun vs S1 => ∃ u v w, vs = [u, v, w] ∧ P.nx (((Γ.set i (some u)).set j (some v)).set l (some w)) S1) : Ws (sPar3 i j l t Γ S) P := Wp.thenS (h.mono fun _ _ h => by
  obtain ⟨u, v, w, rfl, h⟩ := h
  exact h)
theorem ws_aug {i : Nat} {f : F2} {m : ME} {x : Va} (hx : Γ[i]? = some (some x)) (h : Wp (m Γ S) fun v S1 => Wo (f x v S1) fun z S2 => P.nx (Γ.set i (some z)) S2) : Ws (sAug i f m Γ S) P := by
  unfold sAug
  rw [hx]
  exact Wp.thenS (h.mono fun _ _ h => Wp.thenS (Wp.lift h))
theorem ws_augSub {f : F2} {o i m : ME} (h : Wp (o Γ S) fun ov S1 => Wp (i Γ S1) fun iv S2 => ∃ n k xs x, ov = .ref n ∧ iv = .int k ∧ S2[n]? = some (.lst xs) ∧ L2.atI xs k = some x ∧ Wp (m Γ S2) fun v S3 => Wo (f x v S3) fun z S4 => ∃ ys j, S4[n]? = some (.lst ys) ∧ ixN ys.length k = some j ∧ P.nx Γ (S4.set n (.lst (ys.set j z)))) : Ws (sAugSub f o i m Γ S) P :=
  Wp.thenS (h.mono fun _ _ h => Wp.thenS (h.mono fun _ S2 h => by
    obtain ⟨n, k, xs, x, rfl, rfl, e1, e2, h⟩ := h
    simp only [e1, e2]
    refine Wp.thenS (h.mono fun _ _ h => Wp.thenS (Wp.mono (Wp.lift h) fun _ S4 h => ?_))
    obtain ⟨ys, j, e3, e4, h⟩ := h
    simp only [e3, e4]
    exact h))
theorem ws_asg {m : ME} {g : MG} (h : Wp (m Γ S) fun v S1 => Wp (g v Γ S1) fun Γ1 S2 => P.nx Γ1 S2) : Ws (sAsg m g Γ S) P := Wp.thenS (h.mono fun _ _ h => Wp.thenS h)
theorem ws_cnt (h : P.ct Γ S) : Ws (sCnt Γ S) P := h
theorem ws_brk (h : P.bk Γ S) : Ws (sBrk Γ S) P := h
theorem ws_for {mi : MI} {g : MG} {b : MS} (h : Wp (mi Γ S) fun it S1 => Ws (loopF it g b (it.fuel S1) 0 Γ S1) P) : Ws (sFor mi g b Γ S) P := Wp.thenS h
/-! ### targets -/
section
variable {QE : En → Sto → Prop} {v : Va}
theorem wg_v {i : Nat} (q : QE (Γ.set i (some v)) S) : Wp (gV i v Γ S) QE := q
theorem wg_t {n : Nat} {t : MGs} {xs : List Va} (h : xs.length = n) (q : Wp (t xs Γ S) QE) : Wp (gT n t (.tup xs) Γ S) QE := by
  unfold gT
  simp only
  rw [if_pos h]
  exact q.noX
theorem wg_n (q : QE Γ S) : Wp (gsN [] Γ S) QE := q
theorem wg_c {g : MG} {t : MGs} {r : List Va} (q : Wp (g v Γ S) fun Γ1 S1 => Wp (t r Γ1 S1) QE) : Wp (gsC g t (v :: r) Γ S) QE := Wp.bind (q.noX.mono fun _ _ h => h.noX)
theorem wg_sub {o i : ME} (h : Wp (o Γ S) fun ov S1 => Wp (i Γ S1) fun iv S2 => ∃ n k xs j, ov = .ref n ∧ iv = .int k ∧ S2[n]? = some (.lst xs) ∧ ixN xs.length k = some j ∧ QE Γ (S2.set n (.lst (xs.set j v)))) : Wp (gSubM o i v Γ S) QE :=
  Wp.bind (h.mono fun _ _ h => Wp.bind (h.mono fun _ _ h => by
    obtain ⟨n, k, xs, j, rfl, rfl, e1, e2, q⟩ := h
    simp only [e1, e2]
    exact q))
end
/-! ### methods -/
theorem w_app {o : ME} {t : MA} (h : Wp (o Γ S) fun ov S1 => ∃ n ys, ov = .ref n ∧ S1[n]? = some (.lst ys) ∧ Wp (t Γ S1) fun vs S2 => ∃ v xs, vs = [v] ∧ S2[n]? = some (.lst xs) ∧ xs.length < sizeLine ∧ Q .non (S2.set n (.lst (xs ++ [v])))) : Wp (mApp o t Γ S) Q :=
  Wp.bind (h.mono fun _ _ h => by
    obtain ⟨n, ys, rfl, e1, h⟩ := h
    simp only [e1]
    refine Wp.bind (h.mono fun _ _ h => ?_)
    obtain ⟨v, xs, rfl, e2, hl, q⟩ := h
    simp only [e2]
    rw [if_pos hl]
    exact q)
theorem w_ext {o : ME} {t : MA} (h : Wp (o Γ S) fun ov S1 => ∃ n ys, ov = .ref n ∧ S1[n]? = some (.lst ys) ∧ Wp (t Γ S1) fun vs S2 => ∃ m xs zs, vs = [.ref m] ∧ S2[n]? = some (.lst xs) ∧ S2[m]? = some (.lst zs) ∧ xs.length + zs.length ≤ sizeLine ∧ Q .non (S2.set n (.lst (xs ++ zs)))) : Wp (mExt o t Γ S) Q :=
  Wp.bind (h.mono fun _ _ h => by
    obtain ⟨n, ys, rfl, e1, h⟩ := h
    simp only [e1]
    refine Wp.bind (h.mono fun _ _ h => ?_)
    obtain ⟨m, xs, zs, rfl, e2, e3, hl, q⟩ := h
    simp only [e2, e3]
    rw [if_pos hl]
    exact q)
theorem w_revSl {a : ME} (h : Wp (a Γ S) fun v S1 => ∃ xs, lstOf S1 v = some xs ∧ xs.length ≤ sizeLine ∧ Q (.ref S1.length) (S1 ++ [.lst xs.reverse])) : Wp (mRevSl a Γ S) Q := Wp.bind (h.mono fun _ S1 h => by
  obtain ⟨xs, e, hl, q⟩ := h
  simp only [e]
  unfold mkL
  rw [if_pos (by rw [List.length_reverse]; exact hl)]
  exact q)
theorem w_pop {o : ME} (h : Wp (o Γ S) fun ov S1 => ∃ n xs v, ov = .ref n ∧ S1[n]? = some (.lst xs) ∧ xs[xs.length - 1]? = some v ∧ Q v (S1.set n (.lst xs.dropLast))) : Wp (mPop o Γ S) Q :=
  Wp.bind (h.mono fun _ _ h => by
    obtain ⟨n, xs, v, rfl, e1, e2, q⟩ := h
    simp only [e1, e2]
    exact q)
theorem w_set0 (q : Q (.ref S.length) (S ++ [.setT []])) : Wp (mSet0 Γ S) Q := q
theorem w_addS {o : ME} {t : MA} (h : Wp (o Γ S) fun ov S1 => ∃ n ks1, ov = .ref n ∧ S1[n]? = some (.setT ks1) ∧ Wp (t Γ S1) fun vs S2 => ∃ v ks k, vs = [v] ∧ S2[n]? = some (.setT ks) ∧ tIntsOf v = some k ∧ k ∉ ks ∧ ks.length + 1 < 64 ∧ Q .non (S2.set n (.setT (k :: ks)))) : Wp (mAddS o t Γ S) Q :=
  Wp.bind (h.mono fun _ _ h => by
    obtain ⟨n, ks1, rfl, e1, h⟩ := h
    simp only [e1]
    refine Wp.bind (h.mono fun _ _ h => ?_)
    obtain ⟨v, ks, k, rfl, e2, e3, h1, h2, q⟩ := h
    simp only [e2, e3]
    rw [if_pos ⟨h1, h2⟩]
    exact q)
theorem w_lrng1 {m : ME} (h : Wp (m Γ S) fun v S1 => ∃ j, v = .int j ∧ (-(2 ^ 62) ≤ j ∧ j ≤ 2 ^ 24) ∧ Wo (mkL S1 (rgA 0 j)) Q) : Wp (mLRng1 m Γ S) Q :=
  Wp.bind (h.mono fun _ _ h => by
    obtain ⟨j, rfl, c, h⟩ := h
    simp only
    rw [if_pos (show lrOk j = true by unfold lrOk; exact decide_eq_true c)]
    exact Wp.lift h)
theorem w_sl {f : FS} {a : ME} {lo hi : Option ME} (h : Wp (a Γ S) fun v S1 => Wp (mOpt lo Γ S1) fun l S2 => Wp (mOpt hi Γ S2) fun u S3 => Wo (f v l u S3) Q) : Wp (mSl f a lo hi Γ S) Q :=
  Wp.bind (h.mono fun _ _ h => Wp.bind (h.mono fun _ _ h => Wp.bind (h.mono fun _ _ h => Wp.lift h)))
theorem w_optN {QO : Option Int → Sto → Prop} (q : QO none S) : Wp (mOpt none Γ S) QO := q
theorem w_optS {QO : Option Int → Sto → Prop} {m : ME} (h : Wp (m Γ S) fun v S1 => ∃ i, v = .int i ∧ QO (some i) S1) : Wp (mOpt (some m) Γ S) QO := Wp.bind (h.mono fun _ _ h => by
  obtain ⟨i, rfl, q⟩ := h
  exact q)
/-! ### what is walked -/
section
variable {QI : ItV → Sto → Prop}
theorem w_walk {m : ME} (h : Wp (m Γ S) fun v S1 => (∃ n xs, v = .ref n ∧ S1[n]? = some (.lst xs) ∧ QI (.ref n) S1) ∨ ∃ xs, (v = .tup xs ∨ v = .rol xs) ∧ QI (.itm xs) S1) : Wp (mWalk m Γ S) QI := Wp.bind (h.mono fun _ _ h => by
  rcases h with ⟨n, xs, rfl, e, q⟩ | ⟨xs, rfl | rfl, q⟩
  · simp only [e]
    exact q
  · exact q
  · exact q)
theorem w_enum {t : MA} (h : Wp (t Γ S) fun vs S1 => ∃ v, vs = [v] ∧ ((∃ n xs, v = .ref n ∧ S1[n]? = some (.lst xs) ∧ QI (.enm n) S1) ∨ ∃ xs, (v = .tup xs ∨ v = .rol xs) ∧ QI (.enmI xs) S1)) : Wp (mEnum t Γ S) QI := Wp.bind (h.mono fun _ _ h => by
  obtain ⟨v, rfl, h⟩ := h
  rcases h with ⟨n, xs, rfl, e, q⟩ | ⟨xs, rfl | rfl, q⟩
  · simp only [e]
    exact q
  · exact q
  · exact q)
theorem rngOk_of {i j : Int} (h : -(2 ^ 62) ≤ i ∧ i < 2 ^ 62 ∧ -(2 ^ 62) ≤ j ∧ j < 2 ^ 62) : rngOk i j = true := by unfold rngOk; exact decide_eq_true h
theorem w_rng1 {t : MA} (h : Wp (t Γ S) fun vs S1 => ∃ j, vs = [.int j] ∧ (-(2 ^ 62) ≤ j ∧ j < 2 ^ 62) ∧ QI (.rng 0 1 j.toNat) S1) : Wp (mRng1 t Γ S) QI := Wp.bind (h.mono fun _ _ h => by
  obtain ⟨j, rfl, c, q⟩ := h
  simp only
  rw [if_pos (rngOk_of (i := 0) (j := j) ⟨by decide, by decide, c⟩)]
  exact q)
theorem w_rng2 {t : MA} (h : Wp (t Γ S) fun vs S1 => ∃ i j, vs = [.int i, .int j] ∧ (-(2 ^ 62) ≤ i ∧ i < 2 ^ 62 ∧ -(2 ^ 62) ≤ j ∧ j < 2 ^ 62) ∧ QI (.rng i 1 (j - i).toNat) S1) : Wp (mRng2 t Γ S) QI := Wp.bind (h.mono fun _ _ h => by
  obtain ⟨i, j, rfl, c, q⟩ := h
  simp only
  rw [if_pos (rngOk_of c)]
  exact q)
theorem w_rev1 {m : ME} (h : Wp (m Γ S) fun v S1 => ∃ j, v = .int j ∧ (-(2 ^ 62) ≤ j ∧ j < 2 ^ 62) ∧ QI (.rng (j.toNat - 1 : Int) (-1) j.toNat) S1) : Wp (mRev1 m Γ S) QI := Wp.bind (h.mono fun _ _ h => by
  obtain ⟨j, rfl, c, q⟩ := h
  simp only
  rw [if_pos (rngOk_of (i := 0) (j := j) ⟨by decide, by decide, c⟩)]
  exact q)
end
/-! ### loops -/
theorem loop_it {it : ItV} {g : MG} {b : MS} (n : Nat) (x : Nat → Va) (Inv : Nat → En → Sto → Prop) (hgo : ∀ i Γ S, i < n → Inv i Γ S → it.get i S = some (some (x i))) (hst : ∀ Γ S, Inv n Γ S → it.get n S = some none)
    (hs : ∀ i Γ S, i < n → Inv i Γ S → Wp (g (x i) Γ S) fun Γ1 S1 => Ws (b Γ1 S1) { nx := Inv (i + 1), ct := Inv (i + 1), bk := P.nx, rt := P.rt }) (hd : ∀ Γ S, Inv n Γ S → P.nx Γ S) :
    ∀ (k i : Nat) (Γ : En) (S : Sto), i ≤ n → n ≤ i + k → Inv i Γ S → Ws (loopF it g b k i Γ S) P
  | 0, i, Γ, S, h1, h2, h => by
    have e : i = n := by omega
    subst e
    unfold loopF
    rw [hst Γ S h]
    exact hd Γ S h
  | k + 1, i, Γ, S, h1, h2, h => by
    by_cases hlt : i < n
    · unfold loopF
      rw [hgo i Γ S hlt h]
      refine Wp.thenS ((hs i Γ S hlt h).mono fun Γ1 S1 q => ?_)
      cases e : b Γ1 S1 with
      | bad => rw [e] at q; exact q
      | nx Γ2 S2 => rw [e] at q; exact loop_it n x Inv hgo hst hs hd k (i + 1) Γ2 S2 hlt (by omega) q
      | ct Γ2 S2 => rw [e] at q; exact loop_it n x Inv hgo hst hs hd k (i + 1) Γ2 S2 hlt (by omega) q
      | bk Γ2 S2 => rw [e] at q; exact q
      | rt v S2 => rw [e] at q; exact q
      | ex a b c d f => rw [e] at q; exact q
    · have e : i = n := by omega
      subst e
      unfold loopF
      rw [hst Γ S h]
      exact hd Γ S h
/-- over a list that stands still -/
theorem loop_list {m : Nat} {xs : List Va} {g : MG} {b : MS} (Inv : Nat → En → Sto → Prop) (hl : ∀ i Γ S, i ≤ xs.length → Inv i Γ S → S[m]? = some (.lst xs)) (h0 : Inv 0 Γ S)
    (hs : ∀ i x Γ S, xs[i]? = some x → Inv i Γ S → Wp (g x Γ S) fun Γ1 S1 => Ws (b Γ1 S1) { nx := Inv (i + 1), ct := Inv (i + 1), bk := P.nx, rt := P.rt }) (hd : ∀ Γ S, Inv xs.length Γ S → P.nx Γ S) :
    Ws (loopF (.ref m) g b ((ItV.ref m).fuel S) 0 Γ S) P := by
  have hf : (ItV.ref m).fuel S = xs.length := by simp only [ItV.fuel, hl 0 Γ S (Nat.zero_le _) h0]
  rw [hf]
  refine loop_it xs.length (fun i => xs.getD i .non) (fun i Γ S => i ≤ xs.length ∧ Inv i Γ S) (fun i Γ S hi h => ?_) (fun Γ S h => ?_) (fun i Γ S hi h => ?_) (fun Γ S h => hd Γ S h.2) xs.length 0 Γ S (Nat.zero_le _) (by omega) ⟨Nat.zero_le _, h0⟩
  · simp only [ItV.get, hl i Γ S h.1 h.2, List.getD_eq_getElem?_getD, List.getElem?_eq_getElem hi, Option.getD_some]
  · simp only [ItV.get, hl _ Γ S h.1 h.2, List.getElem?_eq_none (Nat.le_refl _)]
  · have e : xs[i]? = some (xs.getD i .non) := by rw [List.getD_eq_getElem?_getD, List.getElem?_eq_getElem hi]; rfl
    refine (hs i _ Γ S e h.2).mono fun Γ1 S1 q => ?_
    cases e : b Γ1 S1 with
    | bad => rw [e] at q; exact q
    | nx Γ2 S2 => rw [e] at q; exact ⟨hi, q⟩
    | ct Γ2 S2 => rw [e] at q; exact ⟨hi, q⟩
    | bk Γ2 S2 => rw [e] at q; exact q
    | rt v S2 => rw [e] at q; exact q
    | ex a b c d f => rw [e] at q; exact q
theorem loop_itm {xs : List Va} {g : MG} {b : MS} (Inv : Nat → En → Sto → Prop) (h0 : Inv 0 Γ S)
    (hs : ∀ i x Γ S, xs[i]? = some x → Inv i Γ S → Wp (g x Γ S) fun Γ1 S1 => Ws (b Γ1 S1) { nx := Inv (i + 1), ct := Inv (i + 1), bk := P.nx, rt := P.rt }) (hd : ∀ Γ S, Inv xs.length Γ S → P.nx Γ S) :
    Ws (loopF (.itm xs) g b ((ItV.itm xs).fuel S) 0 Γ S) P := by
  refine loop_it xs.length (fun i => xs.getD i .non) Inv (fun i Γ S hi h => ?_) (fun Γ S h => ?_) (fun i Γ S hi h => ?_) (fun Γ S h => hd Γ S h) _ 0 Γ S (Nat.zero_le _) (by show xs.length ≤ 0 + xs.length; omega) h0
  · simp only [ItV.get, List.getD_eq_getElem?_getD, List.getElem?_eq_getElem hi, Option.getD_some]
  · simp only [ItV.get, List.getElem?_eq_none (Nat.le_refl _)]
  · exact hs i _ Γ S (by rw [List.getD_eq_getElem?_getD, List.getElem?_eq_getElem hi]; rfl) h
theorem loop_rng {lo c : Int} {n : Nat} {g : MG} {b : MS} (Inv : Nat → En → Sto → Prop) (h0 : Inv 0 Γ S)
    (hs : ∀ i Γ S, i < n → Inv i Γ S → Wp (g (.int (lo + (i : Nat) * c)) Γ S) fun Γ1 S1 => Ws (b Γ1 S1) { nx := Inv (i + 1), ct := Inv (i + 1), bk := P.nx, rt := P.rt }) (hd : ∀ Γ S, Inv n Γ S → P.nx Γ S) :
    Ws (loopF (.rng lo c n) g b ((ItV.rng lo c n).fuel S) 0 Γ S) P :=
  loop_it n (fun i => .int (lo + (i : Nat) * c)) Inv (fun i Γ S hi h => by simp only [ItV.get, if_pos hi]) (fun Γ S h => by simp only [ItV.get, if_neg (Nat.lt_irrefl _)]) (fun i Γ S hi h => hs i Γ S hi h) hd _ 0 Γ S (Nat.zero_le _) (by show n ≤ 0 + n; omega) h0
theorem loop_enm {m : Nat} {xs : List Va} {g : MG} {b : MS} (Inv : Nat → En → Sto → Prop) (hl : ∀ i Γ S, i ≤ xs.length → Inv i Γ S → S[m]? = some (.lst xs)) (h0 : Inv 0 Γ S)
    (hs : ∀ i x Γ S, xs[i]? = some x → Inv i Γ S → Wp (g (.tup [.int (i : Nat), x]) Γ S) fun Γ1 S1 => Ws (b Γ1 S1) { nx := Inv (i + 1), ct := Inv (i + 1), bk := P.nx, rt := P.rt }) (hd : ∀ Γ S, Inv xs.length Γ S → P.nx Γ S) :
    Ws (loopF (.enm m) g b ((ItV.enm m).fuel S) 0 Γ S) P := by
  have hf : (ItV.enm m).fuel S = xs.length := by simp only [ItV.fuel, hl 0 Γ S (Nat.zero_le _) h0]
  rw [hf]
  refine loop_it xs.length (fun i => pairE i (xs.getD i .non)) (fun i Γ S => i ≤ xs.length ∧ Inv i Γ S) (fun i Γ S hi h => ?_) (fun Γ S h => ?_) (fun i Γ S hi h => ?_) (fun Γ S h => hd Γ S h.2) xs.length 0 Γ S (Nat.zero_le _) (by omega) ⟨Nat.zero_le _, h0⟩
  · simp only [ItV.get, hl i Γ S h.1 h.2, List.getD_eq_getElem?_getD, List.getElem?_eq_getElem hi, Option.getD_some, Option.map_some]
  · simp only [ItV.get, hl _ Γ S h.1 h.2, List.getElem?_eq_none (Nat.le_refl _), Option.map_none]
  · have e : xs[i]? = some (xs.getD i .non) := by rw [List.getD_eq_getElem?_getD, List.getElem?_eq_getElem hi]; rfl
    refine (hs i _ Γ S e h.2).mono fun Γ1 S1 q => ?_
    cases e : b Γ1 S1 with
    | bad => rw [e] at q; exact q
    | nx Γ2 S2 => rw [e] at q; exact ⟨hi, q⟩
    | ct Γ2 S2 => rw [e] at q; exact ⟨hi, q⟩
    | bk Γ2 S2 => rw [e] at q; exact q
    | rt v S2 => rw [e] at q; exact q
    | ex a b c d f => rw [e] at q; exact q
theorem loop_enmI {xs : List Va} {g : MG} {b : MS} (Inv : Nat → En → Sto → Prop) (h0 : Inv 0 Γ S)
    (hs : ∀ i x Γ S, xs[i]? = some x → Inv i Γ S → Wp (g (.tup [.int (i : Nat), x]) Γ S) fun Γ1 S1 => Ws (b Γ1 S1) { nx := Inv (i + 1), ct := Inv (i + 1), bk := P.nx, rt := P.rt }) (hd : ∀ Γ S, Inv xs.length Γ S → P.nx Γ S) :
    Ws (loopF (.enmI xs) g b ((ItV.enmI xs).fuel S) 0 Γ S) P := by
  refine loop_it xs.length (fun i => pairE i (xs.getD i .non)) Inv (fun i Γ S hi h => ?_) (fun Γ S h => ?_) (fun i Γ S hi h => ?_) (fun Γ S h => hd Γ S h) _ 0 Γ S (Nat.zero_le _) (by show xs.length ≤ 0 + xs.length; omega) h0
  · simp only [ItV.get, List.getD_eq_getElem?_getD, List.getElem?_eq_getElem hi, Option.getD_some, Option.map_some]
  · simp only [ItV.get, List.getElem?_eq_none (Nat.le_refl _), Option.map_none]
  · exact hs i _ Γ S (by rw [List.getD_eq_getElem?_getD, List.getElem?_eq_getElem hi]; rfl) h
/-- while, by a measure -/
theorem ws_while {c : MT} {b : MS} {fuel : Nat} (Inv : En → Sto → Prop) (μ : En → Sto → Nat) (h0 : Inv Γ S) (hf : μ Γ S < fuel)
    (hs : ∀ Γ S, Inv Γ S → Wp (c Γ S) fun k S1 => if k = true then Ws (b Γ S1) { nx := fun Γ' S' => Inv Γ' S' ∧ μ Γ' S' < μ Γ S, ct := fun Γ' S' => Inv Γ' S' ∧ μ Γ' S' < μ Γ S, bk := P.nx, rt := P.rt } else P.nx Γ S1) : Ws (sWhile fuel c b Γ S) P := by
  unfold sWhile
  induction fuel generalizing Γ S with
  | zero => omega
  | succ k ih =>
    unfold loopW
    refine Wp.thenS ((hs Γ S h0).mono fun z S1 q => ?_)
    cases z with
    | false => exact q
    | true =>
      rw [if_pos rfl] at q ⊢
      cases e : b Γ S1 with
      | bad => rw [e] at q; exact q
      | nx Γ2 S2 => rw [e] at q; exact ih q.1 (by have := q.2; omega)
      | ct Γ2 S2 => rw [e] at q; exact ih q.1 (by have := q.2; omega)
      | bk Γ2 S2 => rw [e] at q; exact q
      | rt v S2 => rw [e] at q; exact q
      | ex a b c d f => rw [e] at q; exact q
/-! ### comprehensions -/
theorem w_lc {mi : MI} {g : MG} {mt : MT} {me : ME} {vs : List Nat} (h : Wp (mi Γ S) fun it S1 => Wp (compF it g mt me (wipeE Γ vs) (it.fuel S1) 0 [] S1) fun acc S2 => Q (.ref S2.length) (S2 ++ [.lst acc])) : Wp (mLc mi g mt me vs Γ S) Q :=
  Wp.bind (h.mono fun _ _ h => Wp.bindN h)
theorem comp_it {it : ItV} {g : MG} {mt : MT} {me : ME} (n : Nat) (x : Nat → Va) (Inv : Nat → List Va → Sto → Prop) (hn : n < sizeLine) (hgo : ∀ i acc S, i < n → Inv i acc S → it.get i S = some (some (x i))) (hst : ∀ acc S, Inv n acc S → it.get n S = some none)
    (hs : ∀ i acc S, i < n → Inv i acc S → Wp (g (x i) Γ S) fun Γ1 S1 => Wp (mt Γ1 S1) fun k S2 => if k = true then Wp (me Γ1 S2) fun y S3 => Inv (i + 1) (acc ++ [y]) S3 else Inv (i + 1) acc S2) (hd : ∀ acc S, Inv n acc S → QL acc S) :
    ∀ (k i : Nat) (acc : List Va) (S : Sto), i ≤ n → n ≤ i + k → acc.length ≤ i → Inv i acc S → Wp (compF it g mt me Γ k i acc S) QL
  | 0, i, acc, S, h1, h2, h3, h => by
    have e : i = n := by omega
    subst e
    unfold compF
    rw [hst acc S h]
    exact hd acc S h
  | k + 1, i, acc, S, h1, h2, h3, h => by
    by_cases hlt : i < n
    · unfold compF
      rw [hgo i acc S hlt h]
      refine Wp.bindN ((hs i acc S hlt h).mono fun Γ1 S1 q => Wp.bindN (q.mono fun z S2 q => ?_))
      cases z with
      | false => exact comp_it n x Inv hn hgo hst hs hd k (i + 1) acc S2 hlt (by omega) (by omega) q
      | true =>
        refine Wp.bindN (Wp.mono q fun y S3 q => ?_)
        show Wp (if acc.length < sizeLine then _ else _) _
        rw [if_pos (by omega)]
        exact comp_it n x Inv hn hgo hst hs hd k (i + 1) (acc ++ [y]) S3 hlt (by omega) (by rw [List.length_append]; show acc.length + 1 ≤ _; omega) q
    · have e : i = n := by omega
      subst e
      unfold compF
      rw [hst acc S h]
      exact hd acc S h
theorem comp_list {m : Nat} {xs : List Va} {g : MG} {mt : MT} {me : ME} (Inv : Nat → List Va → Sto → Prop) (hn : xs.length < sizeLine) (hl : ∀ i acc S, i ≤ xs.length → Inv i acc S → S[m]? = some (.lst xs)) (h0 : Inv 0 [] S)
    (hs : ∀ i x acc S, xs[i]? = some x → Inv i acc S → Wp (g x Γ S) fun Γ1 S1 => Wp (mt Γ1 S1) fun k S2 => if k = true then Wp (me Γ1 S2) fun y S3 => Inv (i + 1) (acc ++ [y]) S3 else Inv (i + 1) acc S2) (hd : ∀ acc S, Inv xs.length acc S → QL acc S) :
    Wp (compF (.ref m) g mt me Γ ((ItV.ref m).fuel S) 0 [] S) QL := by
  have hf : (ItV.ref m).fuel S = xs.length := by simp only [ItV.fuel, hl 0 [] S (Nat.zero_le _) h0]
  rw [hf]
  refine comp_it xs.length (fun i => xs.getD i .non) (fun i acc S => i ≤ xs.length ∧ Inv i acc S) hn (fun i acc S hi h => ?_) (fun acc S h => ?_) (fun i acc S hi h => ?_) (fun acc S h => hd acc S h.2) xs.length 0 [] S (Nat.zero_le _) (by omega) (Nat.le_refl _) ⟨Nat.zero_le _, h0⟩
  · simp only [ItV.get, hl i acc S h.1 h.2, List.getD_eq_getElem?_getD, List.getElem?_eq_getElem hi, Option.getD_some]
  · simp only [ItV.get, hl _ acc S h.1 h.2, List.getElem?_eq_none (Nat.le_refl _)]
  · refine (hs i _ acc S (by rw [List.getD_eq_getElem?_getD, List.getElem?_eq_getElem hi]; rfl) h.2).mono fun Γ1 S1 q => q.mono fun k S2 q => ?_
    cases k with
    | true => exact Wp.mono q fun y S3 q => ⟨hi, q⟩
    | false => exact ⟨hi, q⟩
theorem comp_enm {m : Nat} {xs : List Va} {g : MG} {mt : MT} {me : ME} (Inv : Nat → List Va → Sto → Prop) (hn : xs.length < sizeLine) (hl : ∀ i acc S, i ≤ xs.length → Inv i acc S → S[m]? = some (.lst xs)) (h0 : Inv 0 [] S)
    (hs : ∀ i x acc S, xs[i]? = some x → Inv i acc S → Wp (g (.tup [.int (i : Nat), x]) Γ S) fun Γ1 S1 => Wp (mt Γ1 S1) fun k S2 => if k = true then Wp (me Γ1 S2) fun y S3 => Inv (i + 1) (acc ++ [y]) S3 else Inv (i + 1) acc S2) (hd : ∀ acc S, Inv xs.length acc S → QL acc S) :
    Wp (compF (.enm m) g mt me Γ ((ItV.enm m).fuel S) 0 [] S) QL := by
  have hf : (ItV.enm m).fuel S = xs.length := by simp only [ItV.fuel, hl 0 [] S (Nat.zero_le _) h0]
  rw [hf]
  refine comp_it xs.length (fun i => pairE i (xs.getD i .non)) (fun i acc S => i ≤ xs.length ∧ Inv i acc S) hn (fun i acc S hi h => ?_) (fun acc S h => ?_) (fun i acc S hi h => ?_) (fun acc S h => hd acc S h.2) xs.length 0 [] S (Nat.zero_le _) (by omega) (Nat.le_refl _) ⟨Nat.zero_le _, h0⟩
  · simp only [ItV.get, hl i acc S h.1 h.2, List.getD_eq_getElem?_getD, List.getElem?_eq_getElem hi, Option.getD_some, Option.map_some]
  · simp only [ItV.get, hl _ acc S h.1 h.2, List.getElem?_eq_none (Nat.le_refl _), Option.map_none]
  · refine (hs i _ acc S (by rw [List.getD_eq_getElem?_getD, List.getElem?_eq_getElem hi]; rfl) h.2).mono fun Γ1 S1 q => q.mono fun k S2 q => ?_
    cases k with
    | true => exact Wp.mono q fun y S3 q => ⟨hi, q⟩
    | false => exact ⟨hi, q⟩
theorem comp_enmI {xs : List Va} {g : MG} {mt : MT} {me : ME} (Inv : Nat → List Va → Sto → Prop) (hn : xs.length < sizeLine) (h0 : Inv 0 [] S)
    (hs : ∀ i x acc S, xs[i]? = some x → Inv i acc S → Wp (g (.tup [.int (i : Nat), x]) Γ S) fun Γ1 S1 => Wp (mt Γ1 S1) fun k S2 => if k = true then Wp (me Γ1 S2) fun y S3 => Inv (i + 1) (acc ++ [y]) S3 else Inv (i + 1) acc S2) (hd : ∀ acc S, Inv xs.length acc S → QL acc S) :
    Wp (compF (.enmI xs) g mt me Γ ((ItV.enmI xs).fuel S) 0 [] S) QL := by
  refine comp_it xs.length (fun i => pairE i (xs.getD i .non)) Inv hn (fun i acc S hi h => ?_) (fun acc S h => ?_) (fun i acc S hi h => ?_) hd _ 0 [] S (Nat.zero_le _) (by show xs.length ≤ 0 + xs.length; omega) (Nat.le_refl _) h0
  · simp only [ItV.get, List.getD_eq_getElem?_getD, List.getElem?_eq_getElem hi, Option.getD_some, Option.map_some]
  · simp only [ItV.get, List.getElem?_eq_none (Nat.le_refl _), Option.map_none]
  · exact hs i _ acc S (by rw [List.getD_eq_getElem?_getD, List.getElem?_eq_getElem hi]; rfl) h
theorem comp_itm {xs : List Va} {g : MG} {mt : MT} {me : ME} (Inv : Nat → List Va → Sto → Prop) (hn : xs.length < sizeLine) (h0 : Inv 0 [] S)
    (hs : ∀ i x acc S, xs[i]? = some x → Inv i acc S → Wp (g x Γ S) fun Γ1 S1 => Wp (mt Γ1 S1) fun k S2 => if k = true then Wp (me Γ1 S2) fun y S3 => Inv (i + 1) (acc ++ [y]) S3 else Inv (i + 1) acc S2) (hd : ∀ acc S, Inv xs.length acc S → QL acc S) :
    Wp (compF (.itm xs) g mt me Γ ((ItV.itm xs).fuel S) 0 [] S) QL := by
  refine comp_it xs.length (fun i => xs.getD i .non) Inv hn (fun i acc S hi h => ?_) (fun acc S h => ?_) (fun i acc S hi h => ?_) hd _ 0 [] S (Nat.zero_le _) (by show xs.length ≤ 0 + xs.length; omega) (Nat.le_refl _) h0
  · simp only [ItV.get, List.getD_eq_getElem?_getD, List.getElem?_eq_getElem hi, Option.getD_some]
  · simp only [ItV.get, List.getElem?_eq_none (Nat.le_refl _)]
  · exact hs i _ acc S (by rw [List.getD_eq_getElem?_getD, List.getElem?_eq_getElem hi]; rfl) h
theorem comp_rng {lo c : Int} {n : Nat} {g : MG} {mt : MT} {me : ME} (Inv : Nat → List Va → Sto → Prop) (hn : n < sizeLine) (h0 : Inv 0 [] S)
    (hs : ∀ i acc S, i < n → Inv i acc S → Wp (g (.int (lo + (i : Nat) * c)) Γ S) fun Γ1 S1 => Wp (mt Γ1 S1) fun k S2 => if k = true then Wp (me Γ1 S2) fun y S3 => Inv (i + 1) (acc ++ [y]) S3 else Inv (i + 1) acc S2) (hd : ∀ acc S, Inv n acc S → QL acc S) :
    Wp (compF (.rng lo c n) g mt me Γ ((ItV.rng lo c n).fuel S) 0 [] S) QL :=
  comp_it n (fun i => .int (lo + (i : Nat) * c)) Inv hn (fun i acc S hi h => by simp only [ItV.get, if_pos hi]) (fun acc S h => by simp only [ItV.get, if_neg (Nat.lt_irrefl _)]) hs hd _ 0 [] S (Nat.zero_le _) (by show n ≤ 0 + n; omega) (Nat.le_refl _) h0
end
/-! ### defs -/
def runF (r : Rs) : Res Va := match r with
  | .nx _ S' => .ok .non S'
  | .rt v S' => .ok v S'
  | .ex c f v _ S' => .ex c f v S'
  | _ => .bad
theorem w_run {r : Rs} {Q : Va → Sto → Prop} (h : Ws r { nx := fun _ S => Q .non S, rt := Q }) : Wp (runF r) Q := by
  cases r with
  | nx Γ S => exact h
  | rt v S => exact h
  | _ => exact h.elim
theorem w_fn {n : Nat} {b : MS} {as : List Va} {S : Sto} {Q : Va → Sto → Prop} (Γ : En) (e : as.map some ++ List.replicate (n - as.length) none = Γ) (h : Ws (b Γ S) { nx := fun _ S => Q .non S, rt := Q }) : Wp (fnM n b as S) Q := by
  have : fnM n b as S = runF (b (as.map some ++ List.replicate (n - as.length) none) S) := by unfold fnM runF; rfl
  rw [this, e]
  exact w_run h
theorem w_fn1 {k : Nat} {b : MS} {x : Va} {S : Sto} {Q : Va → Sto → Prop} (h : Ws (b (some x :: List.replicate k none) S) { nx := fun _ S => Q .non S, rt := Q }) : Wp (fnM (k + 1) b [x] S) Q := w_fn _ rfl h
theorem w_fn2 {k : Nat} {b : MS} {x y : Va} {S : Sto} {Q : Va → Sto → Prop} (h : Ws (b (some x :: some y :: List.replicate k none) S) { nx := fun _ S => Q .non S, rt := Q }) : Wp (fnM (k + 2) b [x, y] S) Q := w_fn _ rfl h
theorem w_fn3 {k : Nat} {b : MS} {x y z : Va} {S : Sto} {Q : Va → Sto → Prop} (h : Ws (b (some x :: some y :: some z :: List.replicate k none) S) { nx := fun _ S => Q .non S, rt := Q }) : Wp (fnM (k + 3) b [x, y, z] S) Q := w_fn _ rfl h
theorem w_fn4 {k : Nat} {b : MS} {x y z u : Va} {S : Sto} {Q : Va → Sto → Prop} (h : Ws (b (some x :: some y :: some z :: some u :: List.replicate k none) S) { nx := fun _ S => Q .non S, rt := Q }) : Wp (fnM (k + 4) b [x, y, z, u] S) Q := w_fn _ rfl h
theorem w_fn5 {k : Nat} {b : MS} {x y z u v : Va} {S : Sto} {Q : Va → Sto → Prop} (h : Ws (b (some x :: some y :: some z :: some u :: some v :: List.replicate k none) S) { nx := fun _ S => Q .non S, rt := Q }) : Wp (fnM (k + 5) b [x, y, z, u, v] S) Q := w_fn _ rfl h
theorem w_fn6 {k : Nat} {b : MS} {x y z u v t : Va} {S : Sto} {Q : Va → Sto → Prop} (h : Ws (b (some x :: some y :: some z :: some u :: some v :: some t :: List.replicate k none) S) { nx := fun _ S => Q .non S, rt := Q }) : Wp (fnM (k + 6) b [x, y, z, u, v, t] S) Q := w_fn _ rfl h
theorem ite_t {A B : Prop} (h : A) : if true = true then A else B := by rw [if_pos rfl]; exact h
theorem ite_f {A B : Prop} (h : B) : if false = true then A else B := by rw [if_neg (by decide)]; exact h
theorem ite_d {p A B : Prop} {_ : Decidable p} (h1 : p → A) (h2 : ¬ p → B) : if decide p = true then A else B := by
  by_cases h : p
  · rw [if_pos (decide_eq_true h)]; exact h1 h
  · rw [if_neg (by simpa using h)]; exact h2 h
/-! ### the operators on ints -/
section
variable {S : Sto} {Q : Va → Sto → Prop} {i j : Int}
theorem wo_add (q : Q (.int (i + j)) S) : Wo (fAdd (.int i) (.int j) S) Q := q
theorem wo_addI (q : Q (.int (i + j)) S) : Wo (addI (.int i) (.int j) S) Q := q
theorem wo_sub (q : Q (.int (i - j)) S) : Wo (subI (.int i) (.int j) S) Q := q
theorem wo_fI2 {C : Int → Int → Bool} {g : Int → Int → Va} (h : C i j = true) (q : Q (g i j) S) : Wo (fI2 C g (.int i) (.int j) S) Q := by
  rw [fI2_int, if_pos h]
  exact q
theorem mulC_l (h : -18446744073709551616 < i ∧ i < 18446744073709551616) : mulC i j = true := by
  unfold mulC
  rw [Bool.or_eq_true]
  exact .inl (decide_eq_true (.inl ⟨by have := h.1; omega, by have := h.2; omega⟩))
theorem mulC_r (h : -18446744073709551616 < j ∧ j < 18446744073709551616) : mulC i j = true := by
  unfold mulC
  rw [Bool.or_eq_true]
  exact .inl (decide_eq_true (.inr ⟨by have := h.1; omega, by have := h.2; omega⟩))
theorem mulC_w {a b : Nat} (ha : i.natAbs < 2 ^ a) (hb : j.natAbs < 2 ^ b) (h0 : 0 < a) (h1 : 0 < b) (h : a + b ≤ 1000000) : mulC i j = true := by
  unfold mulC
  rw [Bool.or_eq_true]
  exact .inr (decide_eq_true (wide_mul ha hb h0 h1 h))
theorem wo_mul (h : mulC i j = true) (q : Q (.int (i * j)) S) : Wo (fMul (.int i) (.int j) S) Q := by
  rw [fMul_int i j S h]
  exact q
theorem wo_mul_l (h : -18446744073709551616 < i ∧ i < 18446744073709551616) (q : Q (.int (i * j)) S) : Wo (fMul (.int i) (.int j) S) Q := wo_mul (mulC_l h) q
theorem wo_mul_r (h : -18446744073709551616 < j ∧ j < 18446744073709551616) (q : Q (.int (i * j)) S) : Wo (fMul (.int i) (.int j) S) Q := wo_mul (mulC_r h) q
theorem wo_mod (h : 0 < j) (q : Q (.int (i % j)) S) : Wo (modI (.int i) (.int j) S) Q := wo_fI2 (by unfold modC; exact decide_eq_true h) q
theorem log_lt {n b : Nat} (h : n < 2 ^ b) (hb : 0 < b) : n.log2 < b := by
  by_cases h0 : n = 0
  · subst h0; simpa using hb
  · exact (Nat.log2_lt h0).2 h
theorem wo_div (h : 0 < j ∧ j < 1000000000000000000000000000000000000000000) (q : Q (.int (i / j)) S) : Wo (divI (.int i) (.int j) S) Q :=
  wo_fI2 (by unfold divC; exact decide_eq_true ⟨h.1, Nat.lt_of_lt_of_le (log_lt (b := 200) (Nat.lt_of_lt_of_le (by omega : j.natAbs < 1000000000000000000000000000000000000000000) (by decide)) (by decide)) (by decide)⟩) q
theorem wo_pow (h : 0 ≤ j ∧ j ≤ 1000000 ∧ -18446744073709551616 < i ∧ i < 18446744073709551616) (q : Q (.int (i ^ j.toNat)) S) : Wo (powI (.int i) (.int j) S) Q := by
  refine wo_fI2 ?_ q
  unfold powC
  rw [Bool.or_eq_true]
  exact .inl (decide_eq_true ⟨h.1, h.2.1, by omega⟩)
theorem wo_shl (h : 0 ≤ j ∧ j ≤ 1000000 ∧ -18446744073709551616 < i ∧ i < 18446744073709551616) (q : Q (.int (i * 2 ^ j.toNat)) S) : Wo (shlI (.int i) (.int j) S) Q := wo_fI2 (by unfold shlC; exact decide_eq_true ⟨h.1, h.2.1, by omega⟩) q
theorem wo_shr (h : 0 ≤ j) (q : Q (.int (i / 2 ^ j.toNat)) S) : Wo (shrI (.int i) (.int j) S) Q := wo_fI2 (by unfold shrC; exact decide_eq_true h) q
theorem wo_and (q : Q (.int (Builtin.bitAnd i j)) S) : Wo (andI (.int i) (.int j) S) Q := q
theorem wo_or (q : Q (.int (Builtin.bitOr i j)) S) : Wo (orI (.int i) (.int j) S) Q := q
theorem wo_xor (q : Q (.int (Builtin.bitXor i j)) S) : Wo (xorI (.int i) (.int j) S) Q := q
theorem wo_lt (q : Q (.bl (decide (i < j))) S) : Wo (ltI (.int i) (.int j) S) Q := q
theorem wo_le (q : Q (.bl (decide (i ≤ j))) S) : Wo (leI (.int i) (.int j) S) Q := q
theorem wo_gt (q : Q (.bl (decide (j < i))) S) : Wo (gtI (.int i) (.int j) S) Q := q
theorem wo_ge (q : Q (.bl (decide (j ≤ i))) S) : Wo (geI (.int i) (.int j) S) Q := q
theorem wo_neg (q : Q (.int (-i)) S) : Wo (negI (.int i) S) Q := q
theorem dat_int (S : Sto) (i : Int) : datOf S (.int i) = some (.int i) := by
  unfold datOf toD
  simp only
  rw [if_pos (by rfl)]
theorem beqD (i j : Int) : (i == j) = decide (i = j) := by
  by_cases h : i = j
  · subst h; simp
  · simp [h]
theorem wo_eqI (q : Q (.bl (decide (i = j))) S) : Wo (fEq (.int i) (.int j) S) Q := by
  unfold fEq
  rw [dat_int, dat_int]
  have e : PyData.eqv (.int i) (.int j) = decide (i = j) := by simp [PyData.eqv, beqD]
  simp only [e]
  exact q
theorem wo_neI (q : Q (.bl (decide (i ≠ j))) S) : Wo (fNe (.int i) (.int j) S) Q := by
  unfold fNe
  rw [dat_int, dat_int]
  have e : (!PyData.eqv (.int i) (.int j)) = decide (i ≠ j) := by simp [PyData.eqv, beqD]
  simp only [e]
  exact q
theorem wo_int (q : Q (.int i) S) : Wo (fInt [.int i] S) Q := q
theorem wo_intB {b : Bool} (q : Q (.int (if b = true then 1 else 0)) S) : Wo (fInt [.bl b] S) Q := q
theorem wo_abs (q : Q (.int (if i < 0 then -i else i)) S) : Wo (fAbs [.int i] S) Q := q
theorem wo_max2 (q : Q (.int (max i j)) S) : Wo (fMax [.int i, .int j] S) Q := by
  have e : (if j > i then j else i) = max i j := by omega
  show Q (.int (if j > i then j else i)) S
  rw [e]
  exact q
theorem wo_min2 (q : Q (.int (min i j)) S) : Wo (fMin [.int i, .int j] S) Q := by
  have e : (if j < i then j else i) = min i j := by omega
  show Q (.int (if j < i then j else i)) S
  rw [e]
  exact q
theorem wo_tup {vs : List Va} (h : vs.length ≤ sizeLine) (q : Q (.tup vs) S) : Wo (fTup vs S) Q := by
  unfold fTup
  rw [if_pos h]
  exact q
theorem wo_lst {vs : List Va} (h : vs.length ≤ sizeLine) (q : Q (.ref S.length) (S ++ [.lst vs])) : Wo (fLst vs S) Q := by
  unfold fLst
  rw [if_pos h]
  exact q
theorem wo_mkL {vs : List Va} (h : vs.length ≤ sizeLine) (q : Q (.ref S.length) (S ++ [.lst vs])) : Wo (mkL S vs) Q := by
  unfold mkL
  rw [if_pos h]
  exact q
theorem wo_isi {v : Va} {k T : String} {b : Bool} (h1 : kindV S v = some k) (h2 : kitB k T = some b) (q : Q (.bl b) S) : Wo (fIsi [v, .ty T] S) Q := by
  show Wo (match kindV S v, Va.ty T with
    | some k, .ty T => match kitB k T with
      | some b => some (.bl b, S)
      | none => none
    | _, _ => none) Q
  rw [h1]
  simp only [h2]
  exact q
theorem wo_ixL {v x : Va} {xs : List Va} (h1 : lstOf S v = some xs) (h2 : L2.atI xs i = some x) (q : Q x S) : Wo (fIx v (.int i) S) Q := by
  rw [fIx_lst h1 h2]
  exact q
theorem wo_ixT {x : Va} {xs : List Va} (h2 : L2.atI xs i = some x) (q : Q x S) : Wo (fIx (.tup xs) (.int i) S) Q := by
  rw [fIx_tup h2]
  exact q
theorem wo_len {v : Va} {xs : List Va} (h : seqOf S v = some xs) (q : Q (.int xs.length) S) : Wo (fLen [v] S) Q := by
  have e : lenQ [v] S = some (.int xs.length, S) := by
    show (match seqOf S v with
      | some xs => some (Va.int xs.length, S)
      | none => none) = _
    rw [h]
  unfold fLen orFL
  rw [e]
  exact q
theorem lst_ref {n : Nat} {xs : List Va} (h : S[n]? = some (.lst xs)) : lstOf S (.ref n) = some xs := by
  unfold lstOf
  simp only [h]
theorem wo_addL {v w : Va} {xs ys : List Va} (h : lstOf S v = some xs) (h' : lstOf S w = some ys) (hl : (xs ++ ys).length ≤ sizeLine) (q : Q (.ref S.length) (S ++ [.lst (xs ++ ys)])) : Wo (fAdd v w S) Q := by
  rw [fAdd_lst h h']
  exact wo_mkL hl q
theorem wo_addT {x : Va} {xs ys : List Va} (h : (x :: xs).length + ys.length ≤ sizeLine) (q : Q (.tup (x :: xs ++ ys)) S) : Wo (fAdd (.tup (x :: xs)) (.tup ys) S) Q := by
  rw [fAdd_tup h]
  exact q
theorem wo_eq {v w : Va} {d e : PyData} (h1 : datOf S v = some d) (h2 : datOf S w = some e) (q : Q (.bl (PyData.eqv d e)) S) : Wo (fEq v w S) Q := by
  unfold fEq
  rw [h1, h2]
  exact q
theorem wo_ne {v w : Va} {d e : PyData} (h1 : datOf S v = some d) (h2 : datOf S w = some e) (q : Q (.bl (!PyData.eqv d e)) S) : Wo (fNe v w S) Q := by
  unfold fNe
  rw [h1, h2]
  exact q
theorem wo_in {v w : Va} {d : PyData} {ds : List PyData} (h1 : datOf S v = some d) (h2 : datsOf S w = some ds) (q : Q (.bl (ds.any fun z => PyData.eqv z d)) S) : Wo (inD false v w S) Q := by
  unfold inD
  rw [h1, h2]
  exact q
theorem wo_notIn {v w : Va} {d : PyData} {ds : List PyData} (h1 : datOf S v = some d) (h2 : datsOf S w = some ds) (q : Q (.bl (!ds.any fun z => PyData.eqv z d)) S) : Wo (inD true v w S) Q := by
  unfold inD
  rw [h1, h2]
  exact q
end
end PM

namespace PM
open PySem PySem.Spec PyProof.Rows L2 Q2
/-! ### values that read as data -/
structure Rd (S : Sto) (n : Nat) (v : Va) (d : PyData) : Prop where
  rd : ∀ m, n < m → toD S m v = some d
  lay : d.canLay0 = true
  dp : d.depth ≤ n
section
variable {S : Sto} {n : Nat} {v : Va} {d : PyData}
theorem Rd.dat (h : Rd S n v d) (hn : n < 64) : datOf S v = some d := by
  unfold datOf
  rw [h.rd 64 hn]
  simp only
  rw [if_pos]
  unfold SeqAt.shaped
  rw [h.lay, Bool.true_and]
  exact decide_eq_true (Nat.le_trans h.dp (Nat.le_of_lt hn))
theorem pos_of {n m : Nat} (h : n < m) : ∃ k, m = k + 1 := ⟨m - 1, by omega⟩
theorem Rd.int {i : Int} : Rd S 0 (.int i) (.int i) := ⟨fun m h => by obtain ⟨k, rfl⟩ := pos_of h; rfl, rfl, Nat.le_refl _⟩
theorem Rd.bl {b : Bool} : Rd S 0 (.bl b) (.bool b) := ⟨fun m h => by obtain ⟨k, rfl⟩ := pos_of h; rfl, rfl, Nat.le_refl _⟩
theorem Rd.non : Rd S 0 .non .none := ⟨fun m h => by obtain ⟨k, rfl⟩ := pos_of h; rfl, rfl, Nat.le_refl _⟩
theorem Rd.str {z : Str} (h : PyData.strOk z = true) : Rd S 0 (.str z) (.str z) := ⟨fun m h => by obtain ⟨k, rfl⟩ := pos_of h; rfl, h, Nat.le_refl _⟩
theorem Rd.le {m : Nat} (h : Rd S n v d) (hm : n ≤ m) : Rd S m v d := ⟨fun k hk => h.rd k (by omega), h.lay, Nat.le_trans h.dp hm⟩
inductive RdA (S : Sto) (n : Nat) : List Va → List PyData → Prop
  | nil : RdA S n [] []
  | cons {v : Va} {d : PyData} {vs : List Va} {ds : List PyData} : Rd S n v d → RdA S n vs ds → RdA S n (v :: vs) (d :: ds)
theorem RdA.mapM {vs : List Va} {ds : List PyData} (h : RdA S n vs ds) {m : Nat} (hm : n < m) : vs.mapM (toD S m) = some ds := by
  induction h with
  | nil => rfl
  | cons h _ ih =>
    rw [List.mapM_cons, h.rd m hm, ih]
    rfl
theorem RdA.lay {vs : List Va} {ds : List PyData} (h : RdA S n vs ds) : PyData.canLayAll0 ds = true := by
  induction h with
  | nil => rfl
  | cons h _ ih => simp only [PyData.canLayAll0, h.lay, ih, Bool.and_self]
theorem RdA.dp {vs : List Va} {ds : List PyData} (h : RdA S n vs ds) : PyData.depthAll ds ≤ n := by
  induction h with
  | nil => simp [PyData.depthAll]
  | cons h _ ih =>
    have := h.dp
    simp only [PyData.depthAll]
    omega
theorem RdA.map {α : Type} {f : α → Va} {g : α → PyData} : ∀ {l : List α}, (∀ a ∈ l, Rd S n (f a) (g a)) → RdA S n (l.map f) (l.map g)
  | [], _ => .nil
  | a :: l, h => .cons (h a (List.mem_cons_self ..)) (RdA.map fun b hb => h b (List.mem_cons_of_mem _ hb))
theorem Rd.tup {vs : List Va} {ds : List PyData} (h : RdA S n vs ds) : Rd S (n + 1) (.tup vs) (.tuple ds) := by
  refine ⟨fun m hm => ?_, h.lay, ?_⟩
  · obtain ⟨k, rfl⟩ := pos_of hm
    show (vs.mapM (toD S k)).map PyData.tuple = _
    rw [h.mapM (by omega)]
    rfl
  · have := h.dp
    simp only [PyData.depth]
    omega
theorem Rd.rol {vs : List Va} {ds : List PyData} (h : RdA S n vs ds) : Rd S (n + 1) (.rol vs) (.list ds) := by
  refine ⟨fun m hm => ?_, h.lay, ?_⟩
  · obtain ⟨k, rfl⟩ := pos_of hm
    show (vs.mapM (toD S k)).map PyData.list = _
    rw [h.mapM (by omega)]
    rfl
  · have := h.dp
    simp only [PyData.depth]
    omega
theorem Rd.ref {k : Nat} {vs : List Va} {ds : List PyData} (e : S[k]? = some (.lst vs)) (h : RdA S n vs ds) : Rd S (n + 1) (.ref k) (.list ds) := by
  refine ⟨fun m hm => ?_, h.lay, ?_⟩
  · obtain ⟨j, rfl⟩ := pos_of hm
    show (match S[k]? with
      | some (.lst xs) => (xs.mapM (toD S j)).map PyData.list
      | _ => none) = _
    rw [e]
    simp only
    rw [h.mapM (by omega)]
    rfl
  · have := h.dp
    simp only [PyData.depth]
    omega
theorem Rd.dats {ds : List PyData} (h : Rd S n v (.list ds)) (hn : n < 64) : datsOf S v = some ds := by
  unfold datsOf
  rw [h.dat hn]
end
/-! ### equality of data is equality -/
def EqD {α : Type} (f : α → PyData) : Prop := ∀ a b, PyData.eqv (f a) (f b) = true ↔ a = b
theorem EqD.int : EqD PyData.int := fun a b => by simp [PyData.eqv]
theorem EqD.str : EqD PyData.str := fun a b => by simp [PyData.eqv]
section
variable {α β γ : Type} {f : α → PyData} {g : β → PyData} {h : γ → PyData}
theorem EqD.all (hf : EqD f) : ∀ xs ys : List α, PyData.eqvAll (xs.map f) (ys.map f) = true ↔ xs = ys
  | [], [] => by simp [PyData.eqvAll]
  | [], _ :: _ => by simp [PyData.eqvAll]
  | _ :: _, [] => by simp [PyData.eqvAll]
  | x :: xs, y :: ys => by
    simp only [List.map_cons, PyData.eqvAll, Bool.and_eq_true, List.cons.injEq]
    rw [hf x y, hf.all xs ys]
theorem EqD.list (hf : EqD f) : EqD fun xs : List α => PyData.list (xs.map f) := fun a b => by
  simp only [PyData.eqv]
  exact hf.all a b
theorem EqD.tup (hf : EqD f) : EqD fun xs : List α => PyData.tuple (xs.map f) := fun a b => by
  simp only [PyData.eqv]
  exact hf.all a b
theorem EqD.pair (hf : EqD f) (hg : EqD g) : EqD fun p : α × β => PyData.tuple [f p.1, g p.2] := fun a b => by
  simp only [PyData.eqv, PyData.eqvAll, Bool.and_eq_true, Bool.and_true]
  rw [hf, hg]
  exact ⟨fun h => Prod.ext h.1 h.2, fun h => by rw [h]; exact ⟨rfl, rfl⟩⟩
theorem EqD.trip (hf : EqD f) (hg : EqD g) (hh : EqD h) : EqD fun p : α × β × γ => PyData.tuple [f p.1, g p.2.1, h p.2.2] := fun a b => by
  simp only [PyData.eqv, PyData.eqvAll, Bool.and_eq_true, Bool.and_true]
  rw [hf, hg, hh]
  exact ⟨fun h => Prod.ext h.1 (Prod.ext h.2.1 h.2.2), fun h => by rw [h]; exact ⟨rfl, rfl, rfl⟩⟩
theorem EqD.any (hf : EqD f) [DecidableEq α] (a : α) (l : List α) : ((l.map f).any fun z => PyData.eqv z (f a)) = decide (a ∈ l) := by
  induction l with
  | nil => rfl
  | cons x l ih =>
    simp only [List.map_cons, List.any_cons, ih]
    by_cases e : x = a
    · rw [(hf x a).mpr e]
      simp [e]
    · have : PyData.eqv (f x) (f a) = false := by
        cases q : PyData.eqv (f x) (f a) with
        | false => rfl
        | true => exact absurd ((hf x a).mp q) e
      rw [this]
      have e' : ¬ a = x := fun z => e z.symm
      simp [e']
theorem EqD.dec (hf : EqD f) [DecidableEq α] (a b : α) : PyData.eqv (f a) (f b) = decide (a = b) := by
  by_cases e : a = b
  · rw [(hf a b).mpr e, decide_eq_true e]
  · rw [decide_eq_false e]
    cases q : PyData.eqv (f a) (f b) with
    | false => rfl
    | true => exact absurd ((hf a b).mp q) e
end
section
variable {α : Type} {f : α → PyData} [DecidableEq α] {S : Sto} {Q : Va → Sto → Prop} {v w : Va} {a b : α} {l : List α} {m n : Nat}
theorem wo_eqD (hf : EqD f) (h1 : Rd S m v (f a)) (h2 : Rd S n w (f b)) (hm : m < 64) (hn : n < 64) (q : Q (.bl (decide (a = b))) S) : Wo (fEq v w S) Q := wo_eq (h1.dat hm) (h2.dat hn) (by rw [hf.dec]; exact q)
theorem wo_neD (hf : EqD f) (h1 : Rd S m v (f a)) (h2 : Rd S n w (f b)) (hm : m < 64) (hn : n < 64) (q : Q (.bl (decide (a ≠ b))) S) : Wo (fNe v w S) Q := wo_ne (h1.dat hm) (h2.dat hn) (by rw [hf.dec]; rw [← decide_not]; exact q)
theorem wo_inD (hf : EqD f) (h1 : Rd S m v (f a)) (h2 : Rd S n w (.list (l.map f))) (hm : m < 64) (hn : n < 64) (q : Q (.bl (decide (a ∈ l))) S) : Wo (inF v w S) Q := by
  have h : Wo (inD false v w S) fun z S' => S' = S ∧ z = .bl (decide (a ∈ l)) := wo_in (h1.dat hm) (h2.dats hn) (by rw [hf.any]; exact ⟨rfl, rfl⟩)
  unfold inF orF2
  cases e : inD false v w S with
  | none => rw [e] at h; exact h.elim
  | some p =>
    obtain ⟨z, S'⟩ := p
    rw [e] at h
    obtain ⟨h3, h4⟩ := h
    subst h3
    subst h4
    exact q
omit [DecidableEq α] in
theorem wo_inSet {k : List Int} {ks : List (List Int)} {j : Nat} (h1 : tIntsOf v = some k) (h2 : S[j]? = some (.setT ks)) (h3 : k ∉ ks) (q : Q (.bl false) S) : Wo (inF v (.ref j) S) Q := by
  have h : inD false v (.ref j) S = none := by
    unfold inD datsOf
    have : datOf S (.ref j) = none := by
      unfold datOf
      have : toD S 64 (.ref j) = none := by
        show (match S[j]? with
          | some (.lst xs) => (xs.mapM (toD S 63)).map PyData.list
          | _ => none) = _
        rw [h2]
      rw [this]
    rw [this]
    cases datOf S v <;> rfl
  unfold inF orF2
  rw [h]
  unfold inSet
  rw [h1]
  simp only [h2]
  rw [if_neg h3]
  exact q
theorem wo_notInD (hf : EqD f) (h1 : Rd S m v (f a)) (h2 : Rd S n w (.list (l.map f))) (hm : m < 64) (hn : n < 64) (q : Q (.bl (decide (a ∉ l))) S) : Wo (inD true v w S) Q := wo_notIn (h1.dat hm) (h2.dats hn) (by rw [hf.any]; rw [← decide_not]; exact q)
end
/-! ### pairs and triples of ints -/
abbrev ptV (p : Int × Int) : Va := .tup [.int p.1, .int p.2]
abbrev clV (p : Int × Int × Int) : Va := .tup [.int p.1, .int p.2.1, .int p.2.2]
abbrev ptP (p : Int × Int) : PyData := .tuple [.int p.1, .int p.2]
abbrev clP (p : Int × Int × Int) : PyData := .tuple [.int p.1, .int p.2.1, .int p.2.2]
theorem ptE : EqD ptP := EqD.pair EqD.int EqD.int
theorem clE : EqD clP := EqD.trip EqD.int EqD.int EqD.int
section
variable {S : Sto}
theorem ptR {p : Int × Int} : Rd S 1 (ptV p) (ptP p) := Rd.tup (.cons Rd.int (.cons Rd.int .nil))
theorem clR {p : Int × Int × Int} : Rd S 1 (clV p) (clP p) := Rd.tup (.cons Rd.int (.cons Rd.int (.cons Rd.int .nil)))
theorem ptsR {k : Nat} {l : List (Int × Int)} (h : S[k]? = some (.lst (l.map ptV))) : Rd S 2 (.ref k) (.list (l.map ptP)) := Rd.ref h (RdA.map fun a _ => ptR)
theorem clsR {k : Nat} {l : List (Int × Int × Int)} (h : S[k]? = some (.lst (l.map clV))) : Rd S 2 (.ref k) (.list (l.map clP)) := Rd.ref h (RdA.map fun a _ => clR)
end
/-! ### stores -/
theorem get_set {S : Sto} {n : Nat} {o p : Ob} (h : S[n]? = some o) : (S.set n p)[n]? = some p := List.getElem?_set_self (List.getElem?_eq_some_iff.mp h).1
theorem get_ne {S : Sto} {n m : Nat} {o p : Ob} (hn : n ≠ m) (h : S[m]? = some o) : (S.set n p)[m]? = some o := by rw [List.getElem?_set_ne hn]; exact h
theorem get_app {S T : Sto} {n : Nat} {o : Ob} (h : S[n]? = some o) : (S ++ T)[n]? = some o := by rw [List.getElem?_append_left (List.getElem?_eq_some_iff.mp h).1]; exact h
theorem get_last {S : Sto} {o : Ob} : (S ++ [o])[S.length]? = some o := by rw [List.getElem?_append_right (Nat.le_refl _), Nat.sub_self]; rfl
theorem lt_get {S : Sto} {n : Nat} {o : Ob} (h : S[n]? = some o) : n < S.length := (List.getElem?_eq_some_iff.mp h).1
theorem seq_ref {S : Sto} {n : Nat} {xs : List Va} (h : S[n]? = some (.lst xs)) : seqOf S (.ref n) = some xs := lst_ref h
/-- all stands but what lies at n -/
def Kp (n : Nat) (S S' : Sto) : Prop := S.length ≤ S'.length ∧ ∀ i o, i ≠ n → S[i]? = some o → S'[i]? = some o
/-- all stands -/
def Gr (S S' : Sto) : Prop := ∃ T, S' = S ++ T
theorem Gr.refl (S : Sto) : Gr S S := ⟨[], by simp⟩
theorem Gr.trans {S S1 S2 : Sto} (a : Gr S S1) (b : Gr S1 S2) : Gr S S2 := by
  obtain ⟨T, rfl⟩ := a
  obtain ⟨U, rfl⟩ := b
  exact ⟨T ++ U, by rw [List.append_assoc]⟩
theorem Gr.app (S T : Sto) : Gr S (S ++ T) := ⟨T, rfl⟩
theorem Gr.get {S S' : Sto} (g : Gr S S') {n : Nat} {o : Ob} (h : S[n]? = some o) : S'[n]? = some o := by
  obtain ⟨T, rfl⟩ := g
  exact get_app h
theorem Gr.len {S S' : Sto} (g : Gr S S') : S.length ≤ S'.length := by
  obtain ⟨T, rfl⟩ := g
  simp
theorem Kp.refl (n : Nat) (S : Sto) : Kp n S S := ⟨Nat.le_refl _, fun _ _ _ h => h⟩
theorem Kp.trans {n : Nat} {S S1 S2 : Sto} (a : Kp n S S1) (b : Kp n S1 S2) : Kp n S S2 := ⟨Nat.le_trans a.1 b.1, fun i o hi h => b.2 i o hi (a.2 i o hi h)⟩
theorem Gr.kp {n : Nat} {S S' : Sto} (g : Gr S S') : Kp n S S' := ⟨g.len, fun _ _ _ h => g.get h⟩
theorem Kp.set (n : Nat) (S : Sto) (o : Ob) : Kp n S (S.set n o) := ⟨by simp, fun i p hi h => get_ne (fun z => hi z.symm) h⟩
theorem Kp.get {n : Nat} {S S' : Sto} (k : Kp n S S') {i : Nat} {o : Ob} (hi : i ≠ n) (h : S[i]? = some o) : S'[i]? = some o := k.2 i o hi h
theorem at_nat {xs : List Va} {i : Int} (h0 : 0 ≤ i) (h1 : i < xs.length) : ∃ x, L2.atI xs i = some x ∧ xs[i.toNat]? = some x ∧ x ∈ xs := by
  have h : i.toNat < xs.length := by omega
  refine ⟨xs[i.toNat], ?_, List.getElem?_eq_getElem h, List.getElem_mem h⟩
  unfold L2.atI L2.ixN
  rw [if_pos h0, if_pos h1]
  exact List.getElem?_eq_getElem h
/-! ### branches -/
theorem ite_nd {p A B : Prop} {_ : Decidable p} (h1 : ¬ p → A) (h2 : p → B) : if (!decide p) = true then A else B := by
  by_cases h : p
  · rw [if_neg (by simp [h])]; exact h2 h
  · rw [if_pos (by simp [h])]; exact h1 h
theorem ite_nt {A B : Prop} (h : B) : if (!true) = true then A else B := by rw [if_neg (by decide)]; exact h
theorem ite_nf {A B : Prop} (h : A) : if (!false) = true then A else B := by rw [if_pos (by decide)]; exact h
theorem kind_ref {S : Sto} {n : Nat} {xs : List Va} (h : S[n]? = some (.lst xs)) : kindV S (.ref n) = some "list" := by
  unfold kindV
  simp only [h]
theorem kb_int_int : kitB "int" "int" = some true := by decide +kernel
theorem kb_int_bool : kitB "int" "bool" = some false := by decide +kernel
theorem kb_int_str : kitB "int" "str" = some false := by decide +kernel
theorem kb_int_list : kitB "int" "list" = some false := by decide +kernel
theorem kb_int_tuple : kitB "int" "tuple" = some false := by decide +kernel
theorem kb_bool_int : kitB "bool" "int" = some true := by decide +kernel
theorem kb_bool_bool : kitB "bool" "bool" = some true := by decide +kernel
theorem kb_bool_str : kitB "bool" "str" = some false := by decide +kernel
theorem kb_bool_list : kitB "bool" "list" = some false := by decide +kernel
theorem kb_bool_tuple : kitB "bool" "tuple" = some false := by decide +kernel
theorem kb_str_int : kitB "str" "int" = some false := by decide +kernel
theorem kb_str_bool : kitB "str" "bool" = some false := by decide +kernel
theorem kb_str_str : kitB "str" "str" = some true := by decide +kernel
theorem kb_str_list : kitB "str" "list" = some false := by decide +kernel
theorem kb_str_tuple : kitB "str" "tuple" = some false := by decide +kernel
theorem kb_list_int : kitB "list" "int" = some false := by decide +kernel
theorem kb_list_bool : kitB "list" "bool" = some false := by decide +kernel
theorem kb_list_str : kitB "list" "str" = some false := by decide +kernel
theorem kb_list_list : kitB "list" "list" = some true := by decide +kernel
theorem kb_list_tuple : kitB "list" "tuple" = some false := by decide +kernel
theorem kb_tuple_int : kitB "tuple" "int" = some false := by decide +kernel
theorem kb_tuple_bool : kitB "tuple" "bool" = some false := by decide +kernel
theorem kb_tuple_str : kitB "tuple" "str" = some false := by decide +kernel
theorem kb_tuple_list : kitB "tuple" "list" = some false := by decide +kernel
theorem kb_tuple_tuple : kitB "tuple" "tuple" = some true := by decide +kernel
theorem kb_NoneType_int : kitB "NoneType" "int" = some false := by decide +kernel
theorem kb_NoneType_bool : kitB "NoneType" "bool" = some false := by decide +kernel
theorem kb_NoneType_str : kitB "NoneType" "str" = some false := by decide +kernel
theorem kb_NoneType_list : kitB "NoneType" "list" = some false := by decide +kernel
theorem kb_NoneType_tuple : kitB "NoneType" "tuple" = some false := by decide +kernel
theorem ka_tuple : kitAnyB "tuple" ["list", "tuple"] = some true := by decide +kernel
theorem ka_list : kitAnyB "list" ["list", "tuple"] = some true := by decide +kernel
/-! ### loops, whatever is walked -/
def IsSeq (S : Sto) (v : Va) (xs : List Va) : Prop := (∃ k, v = .ref k ∧ S[k]? = some (.lst xs)) ∨ v = .tup xs ∨ v = .rol xs
theorem IsSeq.ref {S : Sto} {k : Nat} {xs : List Va} (h : S[k]? = some (.lst xs)) : IsSeq S (.ref k) xs := .inl ⟨k, rfl, h⟩
theorem IsSeq.seq {S : Sto} {v : Va} {xs : List Va} (h : IsSeq S v xs) : seqOf S v = some xs := by
  rcases h with ⟨k, rfl, h⟩ | rfl | rfl
  · exact seq_ref h
  · rfl
  · rfl
theorem IsSeq.gr {S S' : Sto} (g : Gr S S') {v : Va} {xs : List Va} (h : IsSeq S v xs) : IsSeq S' v xs := by
  rcases h with ⟨k, rfl, h⟩ | h
  · exact .inl ⟨k, rfl, g.get h⟩
  · exact .inr h
theorem IsSeq.dat {S : Sto} {v : Va} {xs : List Va} (h : IsSeq S v xs) {i : Int} {x : Va} (e : L2.atI xs i = some x) {Q : Va → Sto → Prop} (q : Q x S) : Wo (fIx v (.int i) S) Q := by
  rcases h with ⟨k, rfl, h⟩ | rfl | rfl
  · exact wo_ixL (lst_ref h) e q
  · exact wo_ixT e q
  · exact wo_ixL rfl e q
theorem IsSeq.len {S : Sto} {v : Va} {xs : List Va} (h : IsSeq S v xs) {Q : Va → Sto → Prop} (q : Q (.int xs.length) S) : Wo (fLen [v] S) Q := wo_len h.seq q
theorem IsSeq.isi {S : Sto} {v : Va} {xs : List Va} (h : IsSeq S v xs) : ∃ k, kindV S v = some k ∧ kitAnyB k ["list", "tuple"] = some true := by
  rcases h with ⟨k, rfl, h⟩ | rfl | rfl
  · exact ⟨_, kind_ref h, ka_list⟩
  · exact ⟨_, rfl, ka_tuple⟩
  · exact ⟨_, rfl, ka_list⟩
section
variable {Γ : En} {S : Sto} {P : Po} {Q : Va → Sto → Prop}
theorem ws_forW {m : ME} {g : MG} {b : MS} (v : Va) (xs : List Va) (Inv : Nat → En → Sto → Prop) (hm : Wp (m Γ S) fun w S1 => w = v ∧ Inv 0 Γ S1) (hl : ∀ i Γ S, Inv i Γ S → IsSeq S v xs)
    (hs : ∀ i x Γ S, xs[i]? = some x → Inv i Γ S → Wp (g x Γ S) fun Γ1 S1 => Ws (b Γ1 S1) { nx := Inv (i + 1), ct := Inv (i + 1), bk := P.nx, rt := P.rt }) (hd : ∀ Γ S, Inv xs.length Γ S → P.nx Γ S) : Ws (sFor (mWalk m) g b Γ S) P := by
  refine ws_for (w_walk (hm.mono fun w S1 h => ?_))
  obtain ⟨rfl, h0⟩ := h
  rcases hl _ _ _ h0 with ⟨k, rfl, h⟩ | rfl | rfl
  · refine .inl ⟨k, xs, rfl, h, loop_list Inv (fun i Γ S _ h => ?_) h0 hs hd⟩
    rcases hl _ _ _ h with ⟨k', e, h⟩ | e | e
    · cases e; exact h
    · cases e
    · cases e
  · exact .inr ⟨xs, .inl rfl, loop_itm Inv h0 hs hd⟩
  · exact .inr ⟨xs, .inr rfl, loop_itm Inv h0 hs hd⟩
theorem ws_forE {m : ME} {g : MG} {b : MS} (v : Va) (xs : List Va) (Inv : Nat → En → Sto → Prop) (hm : Wp (m Γ S) fun w S1 => w = v ∧ Inv 0 Γ S1) (hl : ∀ i Γ S, Inv i Γ S → IsSeq S v xs)
    (hs : ∀ i x Γ S, xs[i]? = some x → Inv i Γ S → Wp (g (.tup [.int (i : Nat), x]) Γ S) fun Γ1 S1 => Ws (b Γ1 S1) { nx := Inv (i + 1), ct := Inv (i + 1), bk := P.nx, rt := P.rt }) (hd : ∀ Γ S, Inv xs.length Γ S → P.nx Γ S) : Ws (sFor (mEnum (maC m maN)) g b Γ S) P := by
  refine ws_for (w_enum (w_maC (hm.mono fun w S1 h => w_maN ⟨_, rfl, ?_⟩)))
  obtain ⟨rfl, h0⟩ := h
  rcases hl _ _ _ h0 with ⟨k, rfl, h⟩ | rfl | rfl
  · refine .inl ⟨k, xs, rfl, h, loop_enm Inv (fun i Γ S _ h => ?_) h0 hs hd⟩
    rcases hl _ _ _ h with ⟨k', e, h⟩ | e | e
    · cases e; exact h
    · cases e
    · cases e
  · exact .inr ⟨xs, .inl rfl, loop_enmI Inv h0 hs hd⟩
  · exact .inr ⟨xs, .inr rfl, loop_enmI Inv h0 hs hd⟩
theorem ws_forR {m : ME} {g : MG} {b : MS} (n : Int) (hn : -(2 ^ 62) ≤ n ∧ n < 2 ^ 62) (Inv : Nat → En → Sto → Prop) (hm : Wp (m Γ S) fun w S1 => w = .int n ∧ Inv 0 Γ S1)
    (hs : ∀ i Γ S, i < n.toNat → Inv i Γ S → Wp (g (.int (i : Nat)) Γ S) fun Γ1 S1 => Ws (b Γ1 S1) { nx := Inv (i + 1), ct := Inv (i + 1), bk := P.nx, rt := P.rt }) (hd : ∀ Γ S, Inv n.toNat Γ S → P.nx Γ S) : Ws (sFor (mRng1 (maC m maN)) g b Γ S) P := by
  refine ws_for (w_rng1 (w_maC (hm.mono fun w S1 h => w_maN ⟨n, ?_, hn, ?_⟩)))
  · rw [h.1]
  · refine loop_rng Inv h.2 (fun i Γ S hi h => ?_) hd
    have e : (0 : Int) + (i : Nat) * 1 = (i : Nat) := by omega
    rw [e]
    exact hs i Γ S hi h
theorem ws_forR2 {m m' : ME} {g : MG} {b : MS} (l n : Int) (hl : -(2 ^ 62) ≤ l ∧ l < 2 ^ 62) (hn : -(2 ^ 62) ≤ n ∧ n < 2 ^ 62) (Inv : Nat → En → Sto → Prop) (hm : Wp (m Γ S) fun w S1 => w = .int l ∧ Wp (m' Γ S1) fun w S2 => w = .int n ∧ Inv 0 Γ S2)
    (hs : ∀ i Γ S, i < (n - l).toNat → Inv i Γ S → Wp (g (.int (l + (i : Nat))) Γ S) fun Γ1 S1 => Ws (b Γ1 S1) { nx := Inv (i + 1), ct := Inv (i + 1), bk := P.nx, rt := P.rt }) (hd : ∀ Γ S, Inv (n - l).toNat Γ S → P.nx Γ S) : Ws (sFor (mRng2 (maC m (maC m' maN))) g b Γ S) P := by
  refine ws_for (w_rng2 (w_maC (hm.mono fun w S1 h => w_maC (h.2.mono fun w' S2 h' => w_maN ⟨l, n, ?_, ⟨hl.1, hl.2, hn.1, hn.2⟩, ?_⟩))))
  · rw [h.1, h'.1]
  · refine loop_rng Inv h'.2 (fun i Γ S hi h => ?_) hd
    have e : l + (i : Nat) * 1 = l + (i : Nat) := by omega
    rw [e]
    exact hs i Γ S hi h
theorem w_lcW {m : ME} {g : MG} {mt : MT} {me : ME} {vs : List Nat} (v : Va) (xs : List Va) (Inv : Nat → List Va → Sto → Prop) (hn : xs.length < sizeLine) (hm : Wp (m Γ S) fun w S1 => w = v ∧ Inv 0 [] S1) (hl : ∀ i acc S, Inv i acc S → IsSeq S v xs)
    (hs : ∀ i x acc S, xs[i]? = some x → Inv i acc S → Wp (g x (wipeE Γ vs) S) fun Γ1 S1 => Wp (mt Γ1 S1) fun k S2 => if k = true then Wp (me Γ1 S2) fun y S3 => Inv (i + 1) (acc ++ [y]) S3 else Inv (i + 1) acc S2) (hd : ∀ acc S, Inv xs.length acc S → Q (.ref S.length) (S ++ [.lst acc])) : Wp (mLc (mWalk m) g mt me vs Γ S) Q := by
  refine w_lc (w_walk (hm.mono fun w S1 h => ?_))
  obtain ⟨rfl, h0⟩ := h
  rcases hl _ _ _ h0 with ⟨k, rfl, h⟩ | rfl | rfl
  · refine .inl ⟨k, xs, rfl, h, comp_list Inv hn (fun i Γ S _ h => ?_) h0 hs hd⟩
    rcases hl _ _ _ h with ⟨k', e, h⟩ | e | e
    · cases e; exact h
    · cases e
    · cases e
  · exact .inr ⟨xs, .inl rfl, comp_itm Inv hn h0 hs hd⟩
  · exact .inr ⟨xs, .inr rfl, comp_itm Inv hn h0 hs hd⟩
theorem w_lcE {m : ME} {g : MG} {mt : MT} {me : ME} {vs : List Nat} (v : Va) (xs : List Va) (Inv : Nat → List Va → Sto → Prop) (hn : xs.length < sizeLine) (hm : Wp (m Γ S) fun w S1 => w = v ∧ Inv 0 [] S1) (hl : ∀ i acc S, Inv i acc S → IsSeq S v xs)
    (hs : ∀ i x acc S, xs[i]? = some x → Inv i acc S → Wp (g (.tup [.int (i : Nat), x]) (wipeE Γ vs) S) fun Γ1 S1 => Wp (mt Γ1 S1) fun k S2 => if k = true then Wp (me Γ1 S2) fun y S3 => Inv (i + 1) (acc ++ [y]) S3 else Inv (i + 1) acc S2) (hd : ∀ acc S, Inv xs.length acc S → Q (.ref S.length) (S ++ [.lst acc])) : Wp (mLc (mEnum (maC m maN)) g mt me vs Γ S) Q := by
  refine w_lc (w_enum (w_maC (hm.mono fun w S1 h => w_maN ⟨_, rfl, ?_⟩)))
  obtain ⟨rfl, h0⟩ := h
  rcases hl _ _ _ h0 with ⟨k, rfl, h⟩ | rfl | rfl
  · refine .inl ⟨k, xs, rfl, h, comp_enm Inv hn (fun i Γ S _ h => ?_) h0 hs hd⟩
    rcases hl _ _ _ h with ⟨k', e, h⟩ | e | e
    · cases e; exact h
    · cases e
    · cases e
  · exact .inr ⟨xs, .inl rfl, comp_enmI Inv hn h0 hs hd⟩
  · exact .inr ⟨xs, .inr rfl, comp_enmI Inv hn h0 hs hd⟩
theorem w_lcR {m : ME} {g : MG} {mt : MT} {me : ME} {vs : List Nat} (n : Int) (hn : -(2 ^ 62) ≤ n ∧ n < 2 ^ 24) (Inv : Nat → List Va → Sto → Prop) (hm : Wp (m Γ S) fun w S1 => w = .int n ∧ Inv 0 [] S1)
    (hs : ∀ i acc S, i < n.toNat → Inv i acc S → Wp (g (.int (i : Nat)) (wipeE Γ vs) S) fun Γ1 S1 => Wp (mt Γ1 S1) fun k S2 => if k = true then Wp (me Γ1 S2) fun y S3 => Inv (i + 1) (acc ++ [y]) S3 else Inv (i + 1) acc S2) (hd : ∀ acc S, Inv n.toNat acc S → Q (.ref S.length) (S ++ [.lst acc])) : Wp (mLc (mRng1 (maC m maN)) g mt me vs Γ S) Q := by
  refine w_lc (w_rng1 (w_maC (hm.mono fun w S1 h => w_maN ⟨n, ?_, ⟨hn.1, by omega⟩, ?_⟩)))
  · rw [h.1]
  · refine comp_rng Inv (by show n.toNat < 2 ^ 24; omega) h.2 (fun i acc S hi h => ?_) hd
    have e : (0 : Int) + (i : Nat) * 1 = (i : Nat) := by omega
    rw [e]
    exact hs i acc S hi h
end
theorem map_at {α β : Type} {f : α → β} {l : List α} {i : Nat} {x : β} (h : (l.map f)[i]? = some x) : ∃ p, l[i]? = some p ∧ x = f p := by
  rw [List.getElem?_map] at h
  cases e : l[i]? with
  | none => rw [e] at h; cases h
  | some p => rw [e] at h; cases h; exact ⟨p, rfl, rfl⟩
theorem take_at {α : Type} {l : List α} {i : Nat} {x : α} (h : l[i]? = some x) : l.take (i + 1) = l.take i ++ [x] := by
  obtain ⟨hi, e⟩ := List.getElem?_eq_some_iff.mp h
  rw [List.take_succ, h]
  rfl
theorem app_set {S T : Sto} {o p : Ob} : (S ++ o :: T).set S.length p = S ++ p :: T := by
  rw [List.set_append_right _ _ (Nat.le_refl _), Nat.sub_self]
  rfl
theorem app_at {S T : Sto} {o : Ob} : (S ++ o :: T)[S.length]? = some o := by
  rw [List.getElem?_append_right (Nat.le_refl _), Nat.sub_self]
  rfl
section
variable {Γ : En} {S : Sto} {P : Po} {Q : Va → Sto → Prop} {α : Type}
/-- [h(x) for x in l if p(x)], nothing is changed -/
theorem w_comp {m : ME} {g : MG} {mt : MT} {me : ME} {vs : List Nat} (v : Va) (l : List α) (enc : α → Va) (p : α → Bool) (h : α → Va) (hn : l.length < sizeLine) (hv : IsSeq S v (l.map enc)) (hm : Wp (m Γ S) fun w S1 => w = v ∧ S1 = S)
    (hs : ∀ q S', q ∈ l → Gr S S' → Wp (g (enc q) (wipeE Γ vs) S') fun Γ1 S1 => Wp (mt Γ1 S1) fun k S2 => k = p q ∧ if p q = true then Wp (me Γ1 S2) fun y S3 => y = h q ∧ Gr S S3 else Gr S S2) (hd : ∀ S2, Gr S S2 → Q (.ref S2.length) (S2 ++ [.lst ((l.filter p).map h)])) : Wp (mLc (mWalk m) g mt me vs Γ S) Q := by
  refine w_lcW v (l.map enc) (fun i acc S' => acc = ((l.take i).filter p).map h ∧ Gr S S') (by rw [List.length_map]; exact hn) (hm.mono fun w S1 h => ?_) (fun i acc S' h => hv.gr h.2) (fun i x acc S' hx h => ?_) (fun acc S' h => ?_)
  · obtain ⟨rfl, rfl⟩ := h
    exact ⟨rfl, by simp, Gr.refl _⟩
  · obtain ⟨rfl, g⟩ := h
    obtain ⟨q, hq, rfl⟩ := map_at hx
    refine (hs q S' (List.mem_of_getElem? hq) g).mono fun Γ1 S1 h => h.mono fun k S2 h => ?_
    obtain ⟨rfl, h⟩ := h
    rw [take_at hq, List.filter_append, List.map_append]
    by_cases e : p q = true
    · rw [if_pos e] at h
      rw [if_pos e]
      refine Wp.mono h fun y S3 h => ?_
      obtain ⟨rfl, g⟩ := h
      exact ⟨by simp [e], g⟩
    · rw [if_neg e] at h
      rw [if_neg e]
      exact ⟨by simp [e], h⟩
  · obtain ⟨rfl, g⟩ := h
    rw [List.length_map, List.take_length]
    exact hd S' g
end
section
variable {Γ : En} {S : Sto} {Q : Va → Sto → Prop} {α : Type}
/-- [x for i, x in enumerate(l) if i != n] -/
theorem w_others {m : ME} {mt : MT} {me : ME} {a b : Nat} (v : Va) (l : List α) (enc : α → Va) (n : Nat) (hn : l.length < sizeLine) (hv : IsSeq S v (l.map enc)) (hm : Wp (m Γ S) fun w S1 => w = v ∧ S1 = S)
    (ht : ∀ (i : Nat) (q : α) S', Gr S S' → Wp (mt (((wipeE Γ [a, b]).set a (some (.int i))).set b (some (enc q))) S') fun k S2 => k = decide (i ≠ n) ∧ S2 = S') (he : ∀ (i : Nat) (q : α) S', Wp (me (((wipeE Γ [a, b]).set a (some (.int i))).set b (some (enc q))) S') fun y S2 => y = enc q ∧ S2 = S') (hd : ∀ S2, Gr S S2 → Q (.ref S2.length) (S2 ++ [.lst ((l.eraseIdx n).map enc)])) : Wp (mLc (mEnum (maC m maN)) (gT 2 (gsC (gV a) (gsC (gV b) gsN))) mt me [a, b] Γ S) Q := by
  refine w_lcE v (l.map enc) (fun i acc S' => acc = ((l.take i).eraseIdx n).map enc ∧ Gr S S') (by rw [List.length_map]; exact hn) (hm.mono fun w S1 h => ?_) (fun i acc S' h => hv.gr h.2) (fun i x acc S' hx h => ?_) (fun acc S' h => ?_)
  · obtain ⟨rfl, rfl⟩ := h
    exact ⟨rfl, by simp, Gr.refl _⟩
  · obtain ⟨rfl, g⟩ := h
    obtain ⟨q, hq, rfl⟩ := map_at hx
    have hlt := (List.getElem?_eq_some_iff.mp hq).1
    refine wg_t rfl (wg_c (wg_v (wg_c (wg_v (wg_n ?_)))))
    refine (ht i q S' g).mono fun k S2 h => ?_
    obtain ⟨rfl, rfl⟩ := h
    rw [take_at hq]
    have hlen : (l.take i).length = i := by rw [List.length_take]; omega
    by_cases e : i = n
    · rw [if_neg (by simp [e])]
      refine ⟨?_, g⟩
      subst e
      rw [List.eraseIdx_append_of_length_le (by rw [hlen]; exact Nat.le_refl _), hlen, Nat.sub_self]
      rw [List.eraseIdx_of_length_le (by rw [hlen]; exact Nat.le_refl _)]
      simp
    · rw [if_pos (by simp [e])]
      refine (he i q _).mono fun y S3 h => ?_
      obtain ⟨rfl, rfl⟩ := h
      refine ⟨?_, g⟩
      by_cases e2 : n < i
      · rw [List.eraseIdx_append_of_lt_length (by rw [hlen]; exact e2), List.map_append]
        rfl
      · rw [List.eraseIdx_of_length_le (by rw [hlen]; omega), List.eraseIdx_of_length_le (by rw [List.length_append, hlen]; simp; omega), List.map_append]
        rfl
  · obtain ⟨rfl, g⟩ := h
    rw [List.length_map, List.take_length]
    exact hd S' g
end
/-! ### sorted -/
section
variable {S : Sto} {Q : Va → Sto → Prop} {α : Type} {enc : α → Va} {g : α → PyData} {n : Nat}
theorem dats_map (hn : n < 64) : ∀ {l : List α}, (∀ p ∈ l, Rd S n (enc p) (g p)) → datsV S (l.map enc) = some (l.map fun p => (enc p, g p))
  | [], _ => rfl
  | a :: l, h => by
    show (match datOf S (enc a), datsV S (l.map enc) with
      | some d, some ps => some ((enc a, d) :: ps)
      | _, _ => none) = _
    rw [(h a (List.mem_cons_self ..)).dat hn, dats_map hn fun b hb => h b (List.mem_cons_of_mem _ hb)]
    rfl
theorem wo_sort {v : Va} {l : List α} (hv : IsSeq S v (l.map enc)) (hR : ∀ p ∈ l, Rd S n (enc p) (g p)) (hn : n < 64) (hs : sortable (l.map g) = true) (hl : l.length ≤ sizeLine) (q : Q (.ref S.length) (S ++ [.lst ((l.mergeSort (dle g)).map enc)])) : Wo (fSort [v] S) Q := by
  have e : fSort [v] S = mkL S ((l.mergeSort (dle g)).map enc) := by
    show (match seqOf S v with
      | some xs => match datsV S xs with
        | some ps => if sortable (ps.map (fun q : Va × PyData => q.2)) = true then mkL S (sortPs ps) else none
        | none => none
      | none => none) = _
    rw [hv.seq]
    simp only
    rw [dats_map hn hR]
    simp only
    have e1 : (l.map fun p => (enc p, g p)).map (fun q : Va × PyData => q.2) = l.map g := by simp [List.map_map, Function.comp_def]
    rw [e1, if_pos hs]
    unfold sortPs
    have e2 : (l.mergeSort (dle g)).map (fun p => (enc p, g p)) = (l.map fun p => (enc p, g p)).mergeSort (dle fun q : Va × PyData => q.2) := List.map_mergeSort fun a _ b _ => rfl
    rw [← e2, List.map_map]
    rfl
  rw [e]
  exact wo_mkL (by rw [List.length_map, List.length_mergeSort]; exact hl) q
theorem sortable_of {l : List α} (h1 : ∀ a b, PySem.W.alike (g a) (g b) = true) (h2 : ∀ a, ∃ x r, g a = .tuple (x :: r)) (h3 : ∀ a, (g a).depth ≤ 40) : sortable (l.map g) = true := by
  unfold sortable
  rw [Bool.and_eq_true, Bool.and_eq_true]
  refine ⟨⟨?_, ?_⟩, ?_⟩
  · refine List.all_eq_true.mpr fun d hd => List.all_eq_true.mpr fun e he => ?_
    obtain ⟨a, _, rfl⟩ := List.mem_map.mp hd
    obtain ⟨b, _, rfl⟩ := List.mem_map.mp he
    exact h1 a b
  · refine Bool.or_eq_true_iff.mpr (.inl (List.all_eq_true.mpr fun d hd => ?_))
    obtain ⟨a, _, rfl⟩ := List.mem_map.mp hd
    obtain ⟨x, r, e⟩ := h2 a
    rw [e]
  · refine List.all_eq_true.mpr fun d hd => ?_
    obtain ⟨a, _, rfl⟩ := List.mem_map.mp hd
    exact decide_eq_true (h3 a)
end
theorem sortablePts (l : List (Int × Int)) : sortable (l.map ptP) = true := sortable_of (fun a b => by simp [PySem.W.alike, PySem.W.alikeAll]) (fun a => ⟨_, _, rfl⟩) fun a => by
  have : (ptP a).depth = 1 := depth_pt a.1 a.2
  omega
theorem wo_sl31 {S : Sto} {Q : Va → Sto → Prop} {x y z : Va} (q : Q (.tup [y, z]) S) : Wo (fSl (.tup [x, y, z]) (some 1) none S) Q := q
/-! ### a list so many times; the first ones -/
theorem wo_rep {S : Sto} {Q : Va → Sto → Prop} {n : Nat} {k : Int} {xs : List Va} (h : S[n]? = some (.lst xs)) (hk : 0 ≤ k ∧ k ≤ 16777216) (hl : xs.length * k.toNat ≤ 16777216) (q : Q (.ref S.length) (S ++ [.lst (List.replicate k.toNat xs).flatten])) : Wo (fMul (.ref n) (.int k) S) Q := by
  have e : fMul (.ref n) (.int k) S = some (.ref S.length, S ++ [.lst (List.replicate k.toNat xs).flatten]) := by
    unfold fMul orF2 mulI fI2
    simp only
    show (match S[n]? with
      | some (.lst xs) => if -(2 ^ 63) ≤ k ∧ k < 2 ^ 63 ∧ xs.length * k.toNat ≤ sizeLine then mkL S (List.replicate k.toNat xs).flatten else none
      | _ => none) = _
    rw [h]
    simp only
    rw [if_pos ⟨by omega, by omega, hl⟩]
    unfold mkL
    rw [if_pos]
    show (List.replicate k.toNat xs).flatten.length ≤ 16777216
    rw [List.length_flatten, List.map_replicate, List.sum_replicate_nat]
    rw [Nat.mul_comm] at hl
    exact hl
  rw [e]
  exact q
theorem wo_slTo {S : Sto} {Q : Va → Sto → Prop} {v : Va} {k : Int} {xs : List Va} (h : lstOf S v = some xs) (hk : 0 ≤ k) (hl : xs.length ≤ 16777216) (q : Q (.ref S.length) (S ++ [.lst (xs.take k.toNat)])) : Wo (fSl v none (some k) S) Q := by
  have e : fSl v none (some k) S = some (.ref S.length, S ++ [.lst (xs.take k.toNat)]) := by
    have e1 : cutA xs none (some k) = xs.take k.toNat := by
      have e0 : HT.sIx xs.length xs.length (some k) = min k.toNat xs.length := by
        unfold HT.sIx
        simp only
        rw [if_neg (by omega)]
      have e2 : HT.sIx xs.length 0 none = 0 := rfl
      unfold cutA
      rw [e0, e2, Nat.sub_zero, List.drop_zero]
      by_cases z : k.toNat ≤ xs.length
      · rw [Nat.min_eq_left z]
      · rw [Nat.min_eq_right (by omega), List.take_length, List.take_of_length_le (by omega)]
    have e3 : slL v none (some k) S = some (.ref S.length, S ++ [.lst (xs.take k.toNat)]) := by
      unfold slL
      rw [h]
      simp only
      rw [e1]
      unfold mkL
      rw [if_pos]
      have := List.length_take_le' k.toNat xs
      show _ ≤ 16777216
      omega
    unfold fSl
    rw [e3]
  rw [e]
  exact q
theorem dec_t {α : Type} {p : Prop} {_ : Decidable p} {a b : α} (h : p) : (if decide p = true then a else b) = a := by rw [if_pos (decide_eq_true h)]
theorem dec_f {α : Type} {p : Prop} {_ : Decidable p} {a b : α} (h : ¬ p) : (if decide p = true then a else b) = b := by rw [if_neg (by simpa using h)]
/-! ### what stood stands -/
def Lo (S S' : Sto) : Prop := S.length ≤ S'.length ∧ ∀ (i : Nat) (o : Ob), S[i]? = some o → S'[i]? = some o
theorem Lo.refl (S : Sto) : Lo S S := ⟨Nat.le_refl _, fun _ _ h => h⟩
theorem Lo.trans {S S1 S2 : Sto} (a : Lo S S1) (b : Lo S1 S2) : Lo S S2 := ⟨Nat.le_trans a.1 b.1, fun i o h => b.2 i o (a.2 i o h)⟩
theorem Gr.lo {S S' : Sto} (g : Gr S S') : Lo S S' := ⟨g.len, fun _ _ h => g.get h⟩
theorem Lo.gr {S S1 S2 : Sto} (a : Lo S S1) (g : Gr S1 S2) : Lo S S2 := a.trans g.lo
theorem Lo.get {S S' : Sto} (a : Lo S S') {i : Nat} {o : Ob} (h : S[i]? = some o) : S'[i]? = some o := a.2 i o h
theorem Lo.set {S S' : Sto} (a : Lo S S') {i : Nat} (hi : S.length ≤ i) (o : Ob) : Lo S (S'.set i o) := ⟨by simpa using a.1, fun j p h => get_ne (fun z => by have := lt_get h; omega) (a.2 j p h)⟩
theorem wo_tupR {S : Sto} {Q : Va → Sto → Prop} {k : Nat} {xs : List Va} (h : S[k]? = some (.lst xs)) (q : Q (.tup xs) S) : Wo (tupL [.ref k] S) Q := by
  have e : tupL [.ref k] S = some (.tup xs, S) := by
    show (match lstOf S (.ref k) with
      | some xs => some (Va.tup xs, S)
      | none => none) = _
    rw [lst_ref h]
  rw [e]
  exact q
theorem ws_merge {c : Bool} {a b : Rs} {P : Po} (N : En → Sto → Prop) (ha : c = true → Ws a { nx := N, rt := fun _ _ => False }) (hb : c = false → Ws b { nx := N, rt := fun _ _ => False }) (hN : ∀ Γ S, N Γ S → P.nx Γ S) : if c = true then Ws a P else Ws b P := by
  have up : ∀ r : Rs, Ws r { nx := N, rt := fun _ _ => False } → Ws r P := fun r h => by
    cases r with
    | nx Γ S => exact hN Γ S h
    | _ => exact h.elim
  cases c with
  | true => exact up a (ha rfl)
  | false => exact up b (hb rfl)
end PM

namespace PM
open PySem PySem.Spec PyProof.Rows L2 Q2
/-! ### a, b = a list -/
def gTL (n : Nat) (t : MGs) : MG := fun v Γ S => match lstOf S v with
  | some xs => if xs.length = n then noX (t xs Γ S) else .bad
  | none => .bad
theorem pmg_lst {X : Cx} {W : XW} {es : List Expr} {t : MGs} {pos : Pos} {vs : List Nat} {k n : Nat} (hc : X.calm = true) (h : PMGs X W vs es t) (hn : (assignEach es X.env).length = n := by rfl) (hst : (assignEach es X.env).findIdx? (·.1) = none := by rfl) : PMG X W vs (.Tuple es k pos) (gTL n t) := by
  refine pg_imp (pg_lst hc h hn hst) fun w σ H Q ⟨ρ, Γ, S, v, R, G, r, q⟩ => ?_
  unfold gTL at q
  cases e : lstOf S v with
  | none => rw [e] at q; exact q.elim
  | some xs =>
    rw [e] at q
    simp only at q
    obtain ⟨a, ws, rfl, h1, h2⟩ := lst_of R r e
    by_cases hl : xs.length = n
    · rw [if_pos hl] at q
      exact ⟨a, ws, rfl, h1, by rw [← h2.len]; exact hl, ρ, Γ, S, xs, R, G, h2, q.noX⟩
    · rw [if_neg hl] at q
      exact q.elim
theorem wg_tl {Γ : En} {S : Sto} {QE : En → Sto → Prop} {n : Nat} {t : MGs} {v : Va} {xs : List Va} (e : lstOf S v = some xs) (h : xs.length = n) (q : Wp (t xs Γ S) QE) : Wp (gTL n t v Γ S) QE := by
  unfold gTL
  rw [e]
  simp only
  rw [if_pos h]
  exact q.noX
end PM

/-! an own exception over ValueError whose __init__ says super().__init__('..') and self.f = f -/
namespace Q3
open PySem PySem.Spec PyProof.Rows L2 PySem.W
/-- how such an __init__ is written -/
structure SupTxt (params : Arguments) (body : List Stmt) (scope : Scope) (f : Str) : Prop where
  body : ∃ (msg n : Str) (p0 p1 p2 p3 p4 p5 p6 p7 p8 p9 : Pos) (j : Nat), (p2.endLine == p4.line) = true ∧ n ≠ "self" ∧ (n == ("__debug__" : Str)) = false ∧ scope.names.lookup n = some .local ∧
    body = [.Expr (.Call (.Attribute (.Call (.Name "super" p0) [] [] p1) "__init__" p2) [.Constant (.str msg) j p3] [] p4) p5, .Assign [.Attribute (.Name "self" p6) f p7] (.Name n p8) p9] ∧
    (∃ ar, (params.posonlyargs ++ params.args).head? = some ar ∧ ar.arg = "self") ∧
    (∀ (nm q : Str) (dV kV doc pm cdv ct : Value) (an : Option Addr) (cc : Addr) (a u : Value), dV = .none → bindArgs (ksFn nm q params [.Expr (.Call (.Attribute (.Call (.Name "super" p0) [] [] p1) "__init__" p2) [.Constant (.str msg) j p3] [] p4) p5, .Assign [.Attribute (.Name "self" p6) f p7] (.Name n p8) p9] scope dV kV doc pm an cdv ct cc) ⟨[a, u], []⟩ = pure ([("self", a), (n, u)] : List (Str × Value)))
  self : scope.names.lookup ("self" : Str) = some .local
  sup : scope.names.lookup ("super" : Str) = some .globalImplicit
  cls : scope.names.lookup ("__class__" : Str) = some .free
  cell : ∀ x ∈ scope.names, x.2 ≠ .cell
  co : scope.isCoroutine = false
  gen : scope.isGenerator = false
  kind : scope.kind = .function
/-- what the written part says of the class -/
structure SupC (P : Program) (K : PySem.W.Frag) (mg : Str → Option Value) (C : Addr) (x f : Str) : Prop where
  o : OexC K C
  gl : mg x = some (.ref C)
  sb : mg "super" = none
  no : PySem.W.findIn K (.ref C) f = some none
  sub : PySem.W.mroIn K C (.ref C) = some true
  up : PySem.W.ks_superIn K C C "__init__" = some (some (.builtin "ValueError.__init__"))
  ve : PySem.W.subIn K (.ref C) (.type "ValueError") = some true
  opq : PySem.W.nsIn K cStatics "thirdparty.any" = some none
  top : (P.main.scope.names.lookup ("super" : Str)).isSome = false
  ini : ∃ (fI : Addr) (oc : Value) (od : Option Addr) (osl : Array (Option Value)) (q : Str) (params : Arguments) (body : List Stmt) (scope : Scope) (kV doc pm ct : Value) (an : Option Addr) (cda cc : Addr),
    SupTxt params body scope f ∧ PySem.W.findIn K (.ref C) "__init__" = some (some (.ref fI)) ∧ PySem.W.typeIn K (.ref fI) = some (.type "function") ∧
    K.lookup fI = some ⟨oc, od, .func (ksFn "__init__" q params body scope .none kV doc pm an (.ref cda) ct cc), osl⟩ ∧ PySem.W.codeIn K (.ref cda) q = true ∧
    (∃ (ccl : Value) (cdd : Option Addr) (vs : Array Value) (ccs : Array (Option Value)) (file : Str) (tf : Tok), K.lookup cda = some ⟨ccl, cdd, .fields vs, ccs⟩ ∧ vs[2]? = some (.str file tf) ∧ ((P.main.file : Str) == file) = true) ∧
    (∃ (cl : Value) (cld : Option Addr) (csl : Array (Option Value)), K.lookup cc = some ⟨cl, cld, .cell (some (.ref C)), csl⟩)
theorem he_sup {env : Env} {o : Expr} {m msg : Str} {j : Nat} {p2 p3 p4 : Pos} (hline : (p2.endLine == p4.line) = true) :
    eval (.Call (.Attribute o m p2) [.Constant (.str msg) j p3] [] p4) env = (do
      let ov ← attributeBase o m env (eval o env)
      standAt p2.atName
      let (f, first) ← holding [ov] (getMethod ov m (do return (← importBound o env).getD true))
      callWith p4 f first (backTo p4 (starEach [.Constant (.str msg) j p3] env)) []) := by
  have hform : methodCallForm ([Expr.Constant (.str msg) j p3].length + ([] : List Keyword).length) (backTo p4 (starEach [.Constant (.str msg) j p3] env)) (backToKw p4 (keywordEach [] env)) = true := by rfl
  have hpos : methodCallPos true o env p2 p4 = pure p4 := by unfold methodCallPos; simp [hline]
  rw [arm_eval_Call]
  unfold methodCall
  rw [hform, hpos]
  rfl
section
variable {X : Cx} {pins : List (Addr × Obj)} {σ : L2.St} {H : Hp} {s : Shared}
/-- the own __init__ run: what stood stands, the exception has a dict with its field -/
theorem init_run {C a t0 : Addr} {x f : Str} {A : Around} {v : Value} {h : Heap} {g : Array GenState} {d : Drawn} {t : Nat} {os : OsState} {R : Result → Shared → Prop} (T : SupC X.prog X.K X.mg C x f) {fI : Addr} (hfi : PySem.W.findIn X.K (.ref C) "__init__" = some (some (.ref fI)))
    {B : Heap} (KB : X.K.In B) (kB : ∀ b o, B.get? b = some o → h.get? b = some o) (nB : B.get? a = none) (glob : h.Ns mainGlobals X.mg) {mb : Str → Option Value} (blt : h.Ns builtinsNs mb) (hboot : mb "super" = some (.type "super")) (lim : h.NoLimit) (room : A.depth < recursionLimit)
    (ha : h.get? a = some (PySem.HandSPX.excO C t0))
    (hq : ∀ h' tk dx t1, (∀ b o, b ≠ a → h.get? b = some o → h'.get? b = some o) → h.objs.size ≤ dx → dx ≠ a → h'.get? a = some { cls := .ref C, dict := some dx, data := .fields #[.ref t1, .none, .none, .none, .bool false, .none] } →
      h'.Ns1 dx (fun y => if y = f then some v else none) → R (.ok (.ret .none)) ⟨h', g, d, tk, os⟩) :
    codeAny (model X.prog X.w) A (.call (.ref fI) ⟨[.ref a, v], []⟩) R ⟨h, g, d, t, os⟩ := by
  have KX : X.K.In h := KB.keeps kB
  obtain ⟨fI', oc, od, osl, q, params, body, scope, kV, doc, pm, ct, an, cda, cc, TX, hi, ti, lk, hcd, ⟨ccl, cdd, vs, ccs, file, tf, lc, hvs, hfile⟩, ⟨cl, cld, csl, lcell⟩⟩ := T.ini
  obtain rfl : fI' = fI := by
    have := hi.symm.trans hfi
    simpa using this
  obtain ⟨msg, n, p0, p1, p2, p3, p4, p5, p6, p7, p8, p9, j, hline, hns, hnd, hnl, rfl, ⟨ar, har, harg⟩, hbind⟩ := TX.body
  obtain ⟨nm, qn, N, bs, bm, sn, sub, ab, col, dd, k0, k1, k2, k3, k5, hC, hbm⟩ := T.o.cls
  have hcl : PySem.W.clsIn X.K C = some { name := nm, bases := bs, mro := .ref C :: bm, ns := N, qualname := qn, hasDict := true, slotNames := sn, subclasses := sub, abstract := ab, collection := col, hasDel := false } := by unfold PySem.W.clsIn; rw [hC] <;> rfl
  have hCh := KX _ _ hC
  have xC : a ≠ C := fun z => by
    rw [z, hCh] at ha
    cases ha
  refine ks_codeAny_call_defAt (fd := ksFn "__init__" q params [.Expr (.Call (.Attribute (.Call (.Name "super" p0) [] [] p1) "__init__" p2) [.Constant (.str msg) j p3] [] p4) p5, .Assign [.Attribute (.Name "self" p6) f p7] (.Name n p8) p9] scope .none kV doc pm an (.ref cda) ct cc)
    (binds := ([("self", .ref a), (n, v)] : List (Str × Value))) room (KX _ _ lk) rfl lim (PySem.W.codeRec_of KX hcd) rfl (.of_eq (hbind _ _ _ _ _ _ _ _ _ _ _ _ rfl)) TX.cell ?_ ?_ TX.co TX.gen TX.kind
  · intro y hy
    rcases List.mem_cons.mp hy with rfl | hy
    · exact TX.self
    · rw [List.mem_singleton.mp hy]
      exact hnl
  intro h1 hns1 k1'
  have KX1 : X.K.In h1 := KX.keeps k1'
  have ha1 := k1' _ _ ha
  have look_self : (([("self", Value.ref a), (n, v)] : List (Str × Value)).reverse.lookup ("self" : Str)) = some (Value.ref a) := by
    show List.lookup ("self" : Str) [(n, v), ("self", Value.ref a)] = _
    have e : (("self" : Str) == n) = false := by simpa using fun z : ("self" : Str) = n => hns z.symm
    simp [List.lookup, e]
  have look_n : (([("self", Value.ref a), (n, v)] : List (Str × Value)).reverse.lookup n) = some v := by
    show List.lookup n [(n, v), ("self", Value.ref a)] = _
    simp [List.lookup]
  refine ks_wpAt_execs_cons (ks_wpAt_Expr_any ?_ (by show ((scope.kind == ScopeKind.module) && _) = false; rw [TX.kind]; rfl) (by rfl))
  refine ks_wpAt_MethodCall (ks_wpAt_super_base TX.sup TX.cls (by decide) rfl (KX1 _ _ lk) rfl har rfl (KX1 _ _ lc) rfl hvs hfile T.top ?_) (he_sup hline)
  refine ks_loadName_global TX.kind TX.sup (Calls.loadGlobal_builtin (glob.keeps k1') T.sb (blt.keeps k1') hboot ⟨rfl, ?_⟩)
  refine wpAny_loadName_free TX.kind TX.cls rfl ⟨_, KX1 _ _ lcell, rfl⟩ ?_
  refine wpAny_loadName_local (name := ar.arg) TX.kind (by rw [harg]; exact TX.self) hns1 (by rw [harg]; exact look_self) ?_
  have hC1 := KX1 _ _ hC
  refine ks_wpAny_isType_cls hC1 rfl ⟨rfl, ?_⟩
  refine ks_wpAny_call_super hC1 rfl ha1 rfl (fun c z => by cases z) (looks_mroIn KX1 T.sub) (fun h2 e2 k2 => ?_)
  have KX2 : X.K.In h2 := KX1.keeps k2
  have ha2 := k2 _ _ ha1
  have hup := T.up
  unfold ks_superIn at hup
  rw [hcl, Option.bind_some] at hup
  have I2 : InstAt h2 a (PySem.HandSPX.excO C t0) C none := ⟨ha2, rfl, rfl, trivial⟩
  refine kxs_getMethod kxs_ValueError e2 (looks_opaque KX2 T.opq) (l₀ := .ref C :: bm) (fun A Q E s k q => wpAny_bind ((looks_clsIn KX2 hcl) A _ E s k (wpAny_pure q))) rfl KX2 hup (I2.type.andThen (looks_subIn KX2 T.ve)) xC (by decide) ?_
  have hu3 : (h2.push (kxs_mw "ValueError.__init__" a)).get? h2.objs.size = some (kxs_mw "ValueError.__init__" a) := Heap.get?_push_size _ rfl
  have k3 : ∀ b o, h2.get? b = some o → (h2.push (kxs_mw "ValueError.__init__" a)).get? b = some o := fun b o e => Heap.get?_push_of_some _ e
  have ha3 := k3 _ _ ha2
  have KX3 := KX2.keeps k3
  generalize h2.push (kxs_mw "ValueError.__init__" a) = h3 at hu3 k3 ha3 KX3
  generalize h2.objs.size = u at hu3
  show wpAny _ _ (callWith p4 (.ref u) [] (backTo p4 (starEach [.Constant (.str msg) j p3] _)) []) _ _ _
  refine kxs_callWith (i := "ValueError.__init__") (x := a) rfl (Calls.evalArgs_plain (rest := []) ?_)
  refine Calls.spliced_cons (wpAny_Constant_str (k := j) (pos := p3) (Calls.spliced_nil ⟨hu3, ?_⟩))
  refine wpAny_call (codeAny_of_tree ?_)
  show wpAny _ _ (callAny (.ref u) ⟨[.str msg _], []⟩) _ _ _
  simp only [callAny]
  refine wpAny_bind (wpAny_load hu3 ?_)
  simp only [kxs_mw, show (Value.type "method-wrapper" == Value.type "method" || Value.type "method-wrapper" == Value.type "builtin_function_or_method" || Value.type "method-wrapper" == Value.type "method-wrapper") = true by decide, if_true]
  refine KFB.if_so (by decide) ?_
  refine wpAny_bind (check_bound_init PySem.F.excBase_ValueError.toExcCallFacts (KX3 _ _ hC) ha3 rfl ?_)
  refine wpAny_bind (wpAny_pure (wpAny_pure ?_))
  refine ⟨plainId_quiet PySem.F.excBase_ValueError.init.plain _, codeAny_builtin PySem.F.excBase_ValueError.initEntry ?_⟩
  refine exc_init_tree (cls := .ref C) (t0 := t0) (dv := none) (c2 := .none) (c3 := .none) (b4 := .bool false) ha3 (by show 1 ≤ 2 ^ 24; decide) fun h4 k4 ha4 _ => ?_
  have kO : ∀ b o, b ≠ a → h.get? b = some o → h4.get? b = some o := fun b o hb e => k4 b o hb (k3 _ _ (k2 _ _ (k1' _ _ e)))
  show PySem.wpAt _ _ _ (execs [.Assign [.Attribute (.Name "self" p6) f p7] (.Name n p8) p9] _) _ _ _
  have aL : a ≠ h.objs.size := Nat.ne_of_lt (Heap.lt_size ha)
  have hns4 : h4.Ns h.objs.size (fun x => ([("self", Value.ref a), (n, v)] : List (Str × Value)).reverse.lookup x) := by
    obtain ⟨oL, es, ep, e, r⟩ := hns1
    exact ⟨oL, es, ep, k4 _ _ (fun z => aL z.symm) (k3 _ _ (k2 _ _ e)), r⟩
  refine ks_wpAt_execs_cons (ks_wpAt_Assign_Attr (PySem.wpAt_of_wpAny (wpAny_Name (wpAny_loadName_local TX.kind hnl hns4 look_n ?_) hnd)) (by rfl))
  refine wpAny_Name (wpAny_loadName_local TX.kind TX.self hns4 look_self ?_)
  have KX4 : X.K.In h4 := KB.keeps fun b o e => kO b o (fun z => by rw [z, nB] at e; cases e) (kB b o e)
  refine PySem.W.set_plain KX4 (ox := { cls := .ref C, dict := none, data := .fields #[.ref h3.objs.size, .none, .none, .none, .bool false, .none] }) (od := none) ⟨ha4, rfl, rfl, trivial⟩ T.o.sa ?_
  refine PySem.HandSPX.exc_osa KX4 ha4 hcl (show PySem.HandSPX.refsVE (.ref C :: bm) = true from hbm) rfl T.no (fun h' tk' dx k dn dne hx hn => ?_)
  refine PySem.wpAt_of_wpAny (wpAny_execs_nil (hq h' tk' dx _ (fun b o hb e => k b o hb (kO b o hb e)) (Nat.le_trans ?_ dn) dne hx hn))
  obtain ⟨oL, es, ep, e, r⟩ := hns4
  exact Nat.le_of_lt (Heap.lt_size e)
end
end Q3

namespace Q3
open PySem PySem.Spec PyProof.Rows L2 PySem.W
section
variable {X : Cx}
/-- x(e): an exception with its field -/
def tMkS (C : Addr) (f : Str) (te : TE) : L2.St → Hp → XK → Prop := fun σ H Q => te σ H fun v H1 => ∀ d, H1 d = none → Q (.ref C) (some d) (upd H1 d (.xd [(f, v)]))
theorem pmk_sup {C : Addr} {x f : Str} {e : Expr} {te : TE} {k : Nat} {p pos : Pos} (T : SupC X.prog X.K X.mg C x f) (hr : Room (k + 1) X.A) (hg : Gl X x) (ha : PE X e te)
    (hdb : (x == ("__debug__" : Str)) = false := by decide) (he : starEach [e] X.env = (false, eval e X.env) :: starEach [] X.env := by rfl) (hpl : (backTo pos (starEach [] X.env)).any (·.1) = false := by rfl) :
    PMk X (.Call (.Name x p) [e] [] pos) (tMkS C f te) := by
  intro pins s σ H Q I h
  obtain ⟨nm, q, N, bs, bm, sn, sub, ab, col, dd, k0, k1, k2, k3, k5, hC, hbm⟩ := T.o.cls
  obtain ⟨fI, oc, od, osl, q', params, body, scope, kV, doc, pm, ct, an, cda, cc, TX, hi, ti, rest'⟩ := id T.ini
  refine wpAny_Call_Name_kw (ld_glob I hg T.gl ?_ hdb)
  refine PySem.W.callWith_K (h₀ := X.base) I.ok.mod.kin T.o.kC (thn ((pa_cons ha pa_nil he).run pos pins s σ H (fun vs H1 => match vs with
    | [v] => ∀ d, H1 d = none → Q (.ref C) (some d) (upd H1 d (.xd [(f, v)]))
    | _ => False) I h) fun us s1 ⟨vs, H1, I1, r1, q1⟩ => ⟨I1.kIn, ?_⟩) he hpl
  obtain ⟨v, rfl⟩ : ∃ v, vs = [v] := by
    match vs, q1 with
    | [v], _ => exact ⟨v, rfl⟩
    | [], q => exact q.elim
    | _ :: _ :: _, q => exact q.elim
  have q1 : ∀ d, H1 d = none → Q (.ref C) (some d) (upd H1 d (.xd [(f, v)])) := q1
  obtain ⟨u, rfl, rv⟩ : ∃ u, us = [u] ∧ RelV v u := by
    cases r1 with
    | cons a b => cases b; exact ⟨_, rfl, a⟩
  show wpAny _ _ (call (.ref C) [u]) _ _ _
  obtain ⟨hp, g, dr, tk, os⟩ := s1
  have kk : ∀ b o, hp.get? b = some o → ((hp.push (PySem.W.kdv_tup [u])).push (PySem.HandSPX.excO C hp.objs.size)).get? b = some o := fun b o e => Heap.get?_push_of_some _ (Heap.get?_push_of_some _ e)
  have hget : ((hp.push (PySem.W.kdv_tup [u])).push (PySem.HandSPX.excO C hp.objs.size)).get? (hp.objs.size + 1) = some (PySem.HandSPX.excO C hp.objs.size) := by heap_get
  have I2 : Inv X pins σ (upd H1 (hp.objs.size + 1) (exo (hp.objs.size + 1) C none)) ⟨(hp.push (PySem.W.kdv_tup [u])).push (PySem.HandSPX.excO C hp.objs.size), g, dr, tk, os⟩ :=
    I1.laid (t' := tk) (a := hp.objs.size + 1) (o := exo (hp.objs.size + 1) C none) (h' := (hp.push (PySem.W.kdv_tup [u])).push (PySem.HandSPX.excO C hp.objs.size)) kk (Nat.le_succ _) (exo_ok hget)
  obtain ⟨mb, hb1, hb2⟩ := I.mod.blt
  have nB : X.base.get? (hp.objs.size + 1) = none := by
    cases z : X.base.get? (hp.objs.size + 1) with
    | none => rfl
    | some o => exact absurd (Heap.lt_size (show hp.get? (hp.objs.size + 1) = some o from I1.bk _ _ z)) (Nat.not_lt.mpr (Nat.le_succ hp.objs.size))
  refine wpAny_call (PySem.HandSPX.call_own PySem.F.excBase_ValueError (fun Y => PySem.HandSPX.refsVE_contains Y bm hbm) (I1.kIn _ _ hC) (PySem.W.looks_findIn I1.kIn hi) (fun self => PySem.W.bind_fn I1.kIn self ti) (by show 1 ≤ 2 ^ 24; decide) ?_)
  refine init_run (t0 := hp.objs.size) T hi I.ok.mod.kin (fun b o e => kk b o (I1.bk b o e)) nB (I.mod.glob.keeps fun b o e => kk b o (I1.bk b o e)) (hb1.keeps fun b o e => kk b o (I1.bk b o e)) ((hb2 _ (by decide)).trans PyProof.Rows.Boot.«super») ?_ (hr.make C [u] []).depth hget ?_
  · exact I2.nolimit
  intro h' tk' dx t1 k dn dne hx hn
  have dn0 : hp.objs.size ≤ dx := Nat.le_trans (Nat.le_trans (Nat.le_succ _) (Nat.le_of_lt (Heap.lt_size hget))) dn
  obtain ⟨G, g1', g2'⟩ := restrict h' fun b => decide (b ≠ hp.objs.size + 1)
  have gk : ∀ b, b ≠ hp.objs.size + 1 → G.get? b = h'.get? b := fun b hb => g1' b (decide_eq_true hb)
  have ge : G.get? (hp.objs.size + 1) = none := g2' _ (by simp)
  have nha : ∀ {b : Addr} {o : Obj}, hp.get? b = some o → b ≠ hp.objs.size + 1 := fun {b o} z => Nat.ne_of_lt (Nat.lt_of_lt_of_le (Heap.lt_size z) (Nat.le_succ _))
  have J : Inv X pins σ (upd H1 dx (.xd [(f, v)])) ⟨G, g, dr, tk', os⟩ :=
    I1.laid (t' := tk') (a := dx) (o := .xd [(f, v)]) (h' := G) (fun b o z => by rw [gk b (nha z)]; exact k b o (nha z) (kk b o z)) dn0
      ⟨_, hn.at fun o y => (gk dx dne).trans y, relO_put (fs := []) rv fun g => True.intro⟩
  refine ⟨rfl, ?_⟩
  show MkP X pins σ Q (.ref (hp.objs.size + 1)) ⟨h', g, dr, tk', os⟩
  refine ⟨hp.objs.size + 1, _, _, ⟨G, g, dr, tk', os⟩, upd H1 dx (.xd [(f, v)]), .ref C, some dx, rfl, J, fun b o z => ?_, ge, hx, ⟨rfl, rfl⟩, rfl, rfl, ?_, rfl, I1.bare, raises_own T.o.exC T.o.tyC, q1 dx (I1.hok.fresh dn0)⟩
  · by_cases hb : b = hp.objs.size + 1
    · rw [hb, ge] at z
      cases z
    · exact (gk b hb).symm.trans z
  · rw [upd_ne (Ne.symm dne)]
    exact I1.hok.fresh (Nat.le_succ _)
end
end Q3

namespace PM
open PySem PySem.Spec PyProof.Rows L2 Q2
/-! ### raise X(e) -/
def sRaise (c f : Str) (m : ME) : MS := fun Γ S => thenS Γ (m Γ S) fun v S1 => .ex c f v Γ S1
theorem pms_raise {X : Cx} {W : XW} {C : Addr} {x f : Str} {e : Expr} {m : ME} {k : Nat} {p pos pos' : Pos} (T : Q3.SupC X.prog X.K X.mg C x f) (tk : Takes X (wx X.mg W)) (hr : Room (k + 1) X.A) (hg : Gl X x) (h : PM X W e m) (hc : X.calm = true := by rfl)
    (hdb : (x == ("__debug__" : Str)) = false := by decide) (he : starEach [e] X.env = (false, eval e X.env) :: starEach [] X.env := by rfl) (hpl : (backTo pos (starEach [] X.env)).any (·.1) = false := by rfl) :
    PMS X W (.Raise (some (.Call (.Name x p) [e] [] pos)) none pos') (sRaise x f m) := by
  refine ps_imp (ps_raise hc tk (Q3.pmk_sup T hr hg h hdb he hpl)) fun D σ H ⟨ρ, Γ, S, R, G, q⟩ => ?_
  refine ⟨ρ, Γ, S, R, G, AftS.bind G q fun v S1 ρ1 H1 w E1 R1 r1 q1 => fun d hd => ?_⟩
  obtain ⟨E2, R2⟩ := R1.own (o := .xd [(f, w)]) hd
  exact ⟨x, d, T.gl, rfl, q1 ρ1 _ σ w d E2 R2 ((G.ext E1).ext E2) (r1.ext E2) upd_same⟩
end PM

/-! try with any row of clauses, each with a name or without -/
namespace Q3
open PySem PySem.Spec PyProof.Rows L2 PySem.W
abbrev Clause := Value × Option Nat × (Addr → Value → Option Addr → TS)
def behind : Option Nat → Ends → Ends
  | none, D => D
  | some i, D => { nx := fun σ H => D.nx (σ.set i none) H, rt := D.rt, bk := fun σ H => D.bk (σ.set i none) H, ct := fun σ H => D.ct (σ.set i none) H }
def named : Option Nat → Addr → L2.St → L2.St
  | none, _, σ => σ
  | some i, a, σ => σ.set i (some (.ref a))
/-- what the clauses wish, from the first one on -/
def wMix (K : PySem.W.Frag) (Wout : WX) (D : Ends) : List Clause → WX
  | [] => Wout
  | (c, o, ts) :: r => fun cls d σ H => ∃ b, PySem.W.exmOne K cls c = some b ∧ (b = true → ∀ a, H a = none → ts a cls d (behind o D) (named o a σ) H) ∧ (b = false → wMix K Wout D r cls d σ H)
inductive ClOk (X : Cx) : List ExceptHandler → List Clause → Prop
  | nil : ClOk X [] []
  | plain {x : Str} {c : Value} {ts : Addr → Value → Option Addr → TS} {st : Stmt} {suite : List Stmt} {np p : Pos} {hs : List ExceptHandler} {l : List Clause} (nm : Names X x c)
      (su : ∀ (a : Addr) (oe : Obj) (cls : Value) (d : Option Addr) (pn : List (Addr × Obj)), Zc cls d oe → (∃ vs, oe.data = .fields vs) → PSs (X.suite a ((a, oe) :: pn)) (st :: suite) (ts a cls d)) (rest : ClOk X hs l) :
      ClOk X (.ExceptHandler (some (.Name x np)) none (st :: suite) p :: hs) ((c, none, ts) :: l)
  | bound {x n : Str} {i : Nat} {c : Value} {ts : Addr → Value → Option Addr → TS} {st : Stmt} {suite : List Stmt} {np p : Pos} {hs : List ExceptHandler} {l : List Clause} (nm : Names X x c) (nd : X.N.Nodup) (ix : X.N[i]? = some n) (lo : X.env.kindOf n = some .local)
      (su : ∀ (a : Addr) (oe : Obj) (cls : Value) (d : Option Addr) (pn : List (Addr × Obj)), Zc cls d oe → (∃ vs, oe.data = .fields vs) → PSs (X.suite a ((a, oe) :: pn)) (st :: suite) (ts a cls d)) (rest : ClOk X hs l) :
      ClOk X (.ExceptHandler (some (.Name x np)) (some n) (st :: suite) p :: hs) ((c, some i, ts) :: l)
section
variable {X : Cx}
theorem name_at {Y : Cx} {pins : List (Addr × Obj)} {σ : L2.St} {H : Hp} {s : Shared} {x : Str} {c : Value} {np : Pos} {Q : Value → Shared → Prop} {E : Value → Shared → Prop} (I : Inv Y pins σ H s) (nm : Names Y x c) (q : Q c s) : wpAny (model Y.prog Y.w) Y.A (eval (.Name x np) Y.env) Q E s := by
  obtain ⟨g, db, m | ⟨m, v, z⟩⟩ := nm
  · exact ld_glob I g m q db
  · exact ld_blt I g m v q z db
/-- the clauses, one after the other -/
theorem clauses {pins : List (Addr × Obj)} {Wout : WX} {D : Ends} {a : Addr} {B : Heap} {sI s : Shared} {h3 : Heap} {σ : L2.St} {H : Hp} {cls : Value} {d : Option Addr} (hs : X.stack = X.env :: X.outer) (hf : X.env.frame = some X.env.locals) (tk : Takes X Wout)
    (J : Inv X pins σ H sI) (fl : HandSPX.FlyingZ B (X.env :: X.outer) a (Zc cls d) h3) (na : H a = none) (nL : a ≠ X.env.locals) (nF : a ∉ X.fs)
    (back : ∀ h, HandSPX.FlyingZ B (X.env :: X.outer) a (Zc cls d) h → h3.UpToSlots h → Inv X pins σ H { s with heap := h })
    (out : ∀ h, HandSPX.HeldZ B (X.env :: X.outer) a (Zc cls d) X.env.locals h → h3.UpToSlots h → Wout cls d σ H → XE X Wout (.ref a) { s with heap := h }) (up0 : h3.UpToSlots h3) :
    ∀ {hds : List ExceptHandler} {l : List Clause}, ClOk X hds l → wMix X.K Wout D l cls d σ H → wpAny (model X.prog X.w) X.A (handleBy (.ref a) X.env hds) (SP X pins D) X.xe { s with heap := h3 } := by
  intro hds l hk
  have ok := J.ok
  obtain ⟨oe, vs, he, hz, hd⟩ := fl.there
  have S0 := (back h3 fl up0).suite he hd na nL nF
  induction hk with
  | nil =>
    intro w
    refine wpAny_handleBy_nil ?_
    obtain ⟨_, _, _, oe1, vs1, T, oT, ts1, g1, g2, g3, g4, _⟩ := id fl
    unfold PySem.passOn
    refine wpAny_bind (wpAny_field g1 g3 g4 ?_)
    rw [if_neg (by simp)]
    have go : wpAny (model X.prog X.w) X.A (setFlight (.ref a) X.env.frame) (fun _ s4 => wpAny (model X.prog X.w) X.A (throw (.ref a) : Sem Flow) (SP X pins D) X.xe s4) X.xe { s with heap := h3 } := by
      rw [hf]
      exact HandSPX.setFlight_upZ fl fun h4 held up => wpAny_throw (tk _ _ (out h4 held up w))
    first
      | exact wpAny_bind (wpAny_pure (wpAny_bind go))
      | exact wpAny_bind go
  | @plain x c ts st suite np p hs' l' nm su rest ih =>
    intro w
    obtain ⟨b, hb, yes, no⟩ := w
    refine wpAny_handleBy_cons (codeAny_handlers_test ?_) (by intro q; cases q)
    have LT : Looks (model X.prog X.w) h3 (typeOf (.ref a)) cls := fun A Q E s k q => wpAny_typeOf_ref (k _ _ he) (by rw [hz.1]; exact q)
    have LM := exm_one (M := model X.prog X.w) ((back h3 fl up0).kIn) LT hb
    refine name_at (Y := X.suite a ((a, oe) :: (X.pn ++ pins))) S0 nm (LM.here ?_)
    cases b with
    | false => exact ih (no rfl)
    | true =>
      refine codeAny_handlers_suite (HandSPX.lands_againZ fl fun h4 fl4 up4 => ?_)
      obtain ⟨oe4, vs4, he4, hz4, hd4⟩ := fl4.there
      have S4 := (back h4 fl4 up4).suite he4 hd4 na nL nF
      refine wpAny_mono ((su a oe4 cls d (X.pn ++ pins) hz4 ⟨_, hd4⟩).run [] _ _ H _ S4 (yes rfl a na)) (fun fl' s6 hsp => ?_) (fun _ _ z => z.elim)
      cases fl' with
      | ret u =>
        obtain ⟨v6, σ6, H6, S6, r6, q6⟩ := hsp
        exact ⟨_, _, _, S6.unsuite ok, r6, q6⟩
      | next =>
        obtain ⟨σ6, H6, S6, q6⟩ := hsp
        exact ⟨_, _, S6.unsuite ok, q6⟩
      | brk =>
        obtain ⟨σ6, H6, S6, q6⟩ := hsp
        exact ⟨_, _, S6.unsuite ok, q6⟩
      | cont =>
        obtain ⟨σ6, H6, S6, q6⟩ := hsp
        exact ⟨_, _, S6.unsuite ok, q6⟩
  | @bound x n i c ts st suite np p hs' l' nm nd ix lo su rest ih =>
    intro w
    obtain ⟨b, hb, yes, no⟩ := w
    refine wpAny_handleBy_cons (codeAny_handlers_test ?_) (by intro q; cases q)
    have LT : Looks (model X.prog X.w) h3 (typeOf (.ref a)) cls := fun A Q E s k q => wpAny_typeOf_ref (k _ _ he) (by rw [hz.1]; exact q)
    have LM := exm_one (M := model X.prog X.w) ((back h3 fl up0).kIn) LT hb
    refine name_at (Y := X.suite a ((a, oe) :: (X.pn ++ pins))) S0 nm (LM.here ?_)
    cases b with
    | false => exact ih (no rfl)
    | true =>
      refine codeAny_handlers_suite_as (HandSPX.lands_againZ fl fun h4 fl4 up4 => ?_)
      obtain ⟨oe4, vs4, he4, hz4, hd4⟩ := fl4.there
      have S4 := (back h4 fl4 up4).suite he4 hd4 na nL nF
      refine store_ok (X := X.suite a ((a, oe4) :: (X.pn ++ pins))) (v := .ref a) S4 nd ix (.inl lo) rfl (fun s5 S5 => ?_) (.inr lo)
      refine wpAny_mono ((su a oe4 cls d (X.pn ++ pins) hz4 ⟨_, hd4⟩).run [] s5 _ H _ S5 (yes rfl a na)) (fun fl' s6 hsp => ?_) (fun _ _ z => z.elim)
      have gone : ∀ {σ6 : L2.St} {H6 : Hp} {Q : Shared → Prop}, Inv (X.suite a ((a, oe4) :: (X.pn ++ pins))) [] σ6 H6 s6 → (∀ s7, Inv X pins (σ6.set i none) H6 s7 → Q s7) →
          wpAny (model X.prog X.w) X.A (do bindName X.env n .none; unbindBehindTheSuite X.env n p) (fun _ s7 => Q s7) X.xe s6 := fun S6 hq => gone_ok (S6.unsuite ok) nd ix lo hq
      cases fl' with
      | ret u =>
        obtain ⟨v6, σ6, H6, S6, r6, q6⟩ := hsp
        exact gone S6 fun s7 J7 => ⟨_, _, _, J7, r6, q6⟩
      | next =>
        obtain ⟨σ6, H6, S6, q6⟩ := hsp
        exact gone S6 fun s7 J7 => ⟨_, _, J7, q6⟩
      | brk =>
        obtain ⟨σ6, H6, S6, q6⟩ := hsp
        exact gone S6 fun s7 J7 => ⟨_, _, J7, q6⟩
      | cont =>
        obtain ⟨σ6, H6, S6, q6⟩ := hsp
        exact gone S6 fun s7 J7 => ⟨_, _, J7, q6⟩
theorem ps_try_mix {Wout : WX} {body : List Stmt} {h₀ : ExceptHandler} {hds : List ExceptHandler} {l : List Clause} {pos : Pos} {tb : WX → TS} (hs : X.stack = X.env :: X.outer) (hf : X.env.frame = some X.env.locals) (tk : Takes X Wout)
    (hb : ∀ (W : WX) (pn : List (Addr × Obj)) (xe : Value → Shared → Prop), Takes (X.tr pn xe) W → PassesOwn (model X.prog X.w) X.A X.env xe → PSs (X.tr pn xe) body (tb W))
    (hh : ClOk X (h₀ :: hds) l) : PS X (.Try body (h₀ :: hds) [] [] pos) (fun D σ H => tb (wMix X.K Wout D l) D σ H) := by
  refine ⟨fun pins s σ H D I h => ?_⟩
  have ok := I.ok
  have fr : X.A.frames = some (X.env :: X.outer) := by rw [ok.frames, hs]
  -- the body; what leaves it comes to the clauses
  let xe : Value → Shared → Prop := fun e s₁ => wpAny (model X.prog X.w) X.A (noteFrame e X.env) (fun _ s₂ => wpAny (model X.prog X.w) X.A (setFlight e none) (fun _ s₃ => wpAny (model X.prog X.w) X.A (handleBy e X.env (h₀ :: hds)) (SP X pins D) X.xe s₃) X.xe s₂) X.xe s₁
  have caught : Takes (X.tr (X.pn ++ pins) xe) (wMix X.K Wout D l) := fun u s' xx => by
    obtain ⟨a, B, sI, pins', σ', H', cls, d, rfl, J', nb, up, sky, na, os, ag, w⟩ := xx
    have J : Inv X pins σ' H' sI := J'.ofTry ok
    have sky' : Sky B (X.env :: X.outer) a (Zc cls d) X.env.locals s'.heap := by rw [← hs]; exact sky
    show wpAny (model X.prog X.w) X.A (noteFrame (.ref a) X.env) _ _ _
    refine Sky.land Zc.steady fr hf sky' fun h3 fl3 up3 => ?_
    obtain ⟨oe3, vs3, he3, hz3, hd3⟩ := fl3.there
    have off : a ∉ frs (X.env :: X.outer) := fun hm => by
      obtain ⟨_, o', e', hnf⟩ := fl3.2.2.1.mem hm
      rw [he3] at e'
      cases e'
      exact hnf _ hd3
    have nL : a ≠ X.env.locals := fun z => off (List.mem_filterMap.mpr ⟨X.env, List.mem_cons_self, by rw [hf, z]⟩)
    have nF : a ∉ X.fs := fun hm => by
      obtain ⟨e, he, q⟩ := List.mem_filterMap.mp hm
      exact off (List.mem_filterMap.mpr ⟨e, List.mem_cons_of_mem _ he, q⟩)
    refine clauses (s := s') hs hf tk J fl3 na nL nF (fun h fl u => J.landed nb fl.1 ((up.trans up3).trans u) os ag) (fun h held u w' => ?_) (fun b o e _ => ⟨o.slots, e⟩) hh w
    exact ⟨a, B, sI, pins, σ', H', cls, d, rfl, J, nb, (up.trans up3).trans u, .inr (.inr (by rw [hs]; exact held)), na, os, ag, w'⟩
  refine wpAny_Try_except (wpAny_mono ((hb (wMix X.K Wout D l) (X.pn ++ pins) xe caught PassesOwn.looking).run [] s σ H D (I.toTry _) h) (fun f s1 hsp => ?_) (fun e s1 he => he))
  cases f with
  | ret u =>
    obtain ⟨v, σ', H', J', r, q⟩ := hsp
    exact ⟨v, σ', H', J'.ofTry ok, r, q⟩
  | next =>
    obtain ⟨σ', H', J', q⟩ := hsp
    exact wpAny_execs_nil ⟨σ', H', J'.ofTry ok, q⟩
  | brk =>
    obtain ⟨σ', H', J', q⟩ := hsp
    exact ⟨σ', H', J'.ofTry ok, q⟩
  | cont =>
    obtain ⟨σ', H', J', q⟩ := hsp
    exact ⟨σ', H', J'.ofTry ok, q⟩
end
end Q3

namespace PM
open PySem PySem.Spec PyProof.Rows L2 Q2
/-! ### try .. except -/
/-- a clause takes what a class raises: leaves under one base -/
def exTab (base : Str) (L : List Str) (c x : Str) : Option Bool := if c ∈ L then (if x = base then some true else if x ∈ L then some (decide (c = x)) else none) else none
/-- behind a suite: its name goes, and nothing is raised -/
def cutS (i : Nat) : Rs → Rs
  | .nx Γ S => .nx (Γ.set i none) S
  | .bk Γ S => .bk (Γ.set i none) S
  | .ct Γ S => .ct (Γ.set i none) S
  | .rt v S => .rt v S
  | _ => .bad
def noXS : Rs → Rs
  | .ex _ _ _ _ _ => .bad
  | r => r
structure Cl where
  x : Str
  o : Option Nat
  su : Addr → Addr → MS
def tryCl (tab : Str → Str → Option Bool) (c f : Str) (v : Va) (Γ : En) (S : Sto) : List Cl → Rs
  | [] => .ex c f v Γ S
  | k :: r => match tab c k.x with
    | some true => match k.o with
      | none => noXS (k.su 0 0 Γ S)
      | some i => cutS i (k.su 0 0 (Γ.set i (some (.exc 0 0 f v))) S)
    | some false => tryCl tab c f v Γ S r
    | none => .bad
def sTry (tab : Str → Str → Option Bool) (mb : MS) (cl : List Cl) : MS := fun Γ S => match mb Γ S with
  | .ex c f v Γ1 S1 => tryCl tab c f v Γ1 S1 cl
  | r => r
/-- a suite tells the same wherever the exception lies -/
def Free (i : Nat) (su : Addr → Addr → MS) : Prop := ∀ (a d : Addr) (f : Str) (v : Va) (Γ : En) (S : Sto), cutS i (su a d (Γ.set i (some (.exc a d f v))) S) = cutS i (su 0 0 (Γ.set i (some (.exc 0 0 f v))) S)
/-- the clauses of a try, with what they tell -/
inductive ClM (X : Cx) (tab : Str → Str → Option Bool) : List ExceptHandler → List Cl → Prop
  | nil : ClM X tab [] []
  | plain {x : Str} {C : Value} {m : MS} {st : Stmt} {suite : List Stmt} {np p : Pos} {hs : List ExceptHandler} {l : List Cl} (nm : Names X x C) (gl : X.mg x = some C)
      (ex : ∀ c cls b, tab c x = some b → X.mg c = some cls → PySem.W.exmOne X.K cls C = some b)
      (su : ∀ (a : Addr) (oe : Obj) (cls : Value) (d : Option Addr) (pn : List (Addr × Obj)), Zc cls d oe → (∃ vs, oe.data = .fields vs) → PMSs (X.suite a ((a, oe) :: pn)) WF (st :: suite) m) (rest : ClM X tab hs l) :
      ClM X tab (.ExceptHandler (some (.Name x np)) none (st :: suite) p :: hs) (⟨x, none, fun _ _ => m⟩ :: l)
  | bound {x n : Str} {i : Nat} {C : Value} {m : Addr → Addr → MS} {st : Stmt} {suite : List Stmt} {np p : Pos} {hs : List ExceptHandler} {l : List Cl} (nm : Names X x C) (gl : X.mg x = some C) (nd : X.N.Nodup) (ix : X.N[i]? = some n) (lo : X.env.kindOf n = some .local)
      (ex : ∀ c cls b, tab c x = some b → X.mg c = some cls → PySem.W.exmOne X.K cls C = some b) (fr : Free i m)
      (su : ∀ (a dd : Addr) (oe : Obj) (c : Str) (cls : Value) (pn : List (Addr × Obj)), tab c x = some true → X.mg c = some cls → Zc cls (some dd) oe → (∃ vs, oe.data = .fields vs) → PMSs (X.suite a ((a, oe) :: pn)) WF (st :: suite) (m a dd)) (rest : ClM X tab hs l) :
      ClM X tab (.ExceptHandler (some (.Name x np)) (some n) (st :: suite) p :: hs) (⟨x, some i, m⟩ :: l)
/-- a wish by class names, of a wish by classes -/
def xwOf (mg : Str → Option Value) (W : WX) : XW := fun c dd σ H => ∀ cls, mg c = some cls → W cls (some dd) σ H
section
variable {X : Cx} {W : XW}
theorem takes_xw {pn : List (Addr × Obj)} {xe : Value → Shared → Prop} {V : WX} (tk : Takes (X.tr pn xe) V) : Takes (X.tr pn xe) (wx X.mg (xwOf X.mg V)) := tk.imp fun cls d σ H h => by
  obtain ⟨c, dd, h1, rfl, h2⟩ := h
  exact h2 cls h1
theorem AftS.noXS {K : KX} {W W' : XW} {D : Ends} {ρ : List Addr} {H : Hp} {r : Rs} (h : AftS K W D ρ H (noXS r)) : AftS K W' D ρ H r := by
  cases r with
  | ex c f v Γ S => exact h.elim
  | bad => exact h
  | nx Γ S => exact h
  | rt v S => exact h
  | bk Γ S => exact h
  | ct Γ S => exact h
/-- the exception's slot is emptied -/
theorem RE.gone {K : KX} {ρ : List Addr} {H : Hp} {Γ : En} {σ : L2.St} (G : RE K ρ H Γ σ) (i : Nat) : RE K ρ H (Γ.set i none) (σ.set i none) := by
  refine ⟨by simp [G.len], fun j v e => ?_⟩
  rw [List.getElem?_set] at e
  by_cases z : i = j
  · rw [if_pos z] at e
    split at e <;> cases e
  · rw [if_neg z] at e
    rw [List.getElem?_set_ne z]
    exact G.at_ j v e
theorem AftS.cutS {K : KX} {W W' : XW} {D : Ends} {ρ : List Addr} {H : Hp} {r : Rs} {i : Nat} (h : AftS K W D ρ H (cutS i r)) : AftS K W' (Q3.behind (some i) D) ρ H r := by
  cases r with
  | ex c f v Γ S => exact h.elim
  | bad => exact h
  | nx Γ S => exact fun ρ' H' σ' E R G => h ρ' H' _ E R (G.gone i)
  | rt v S => exact h
  | bk Γ S => exact fun ρ' H' σ' E R G => h ρ' H' _ E R (G.gone i)
  | ct Γ S => exact fun ρ' H' σ' E R G => h ρ' H' _ E R (G.gone i)
/-- the readings of the suites, for the rule of clauses -/
def tsOf (X : Cx) (tab : Str → Str → Option Bool) (k : Cl) : Addr → Value → Option Addr → TS := fun a cls d D σ H =>
  ∃ c dd f v w ρ Γ S, tab c k.x = some true ∧ X.mg c = some cls ∧ d = some dd ∧ RS (kxOf X) ρ S H ∧ RE (kxOf X) ρ H Γ σ ∧ Rv (kxOf X) ρ H v w ∧ H dd = some (.xd [(f, w)]) ∧ AftS (kxOf X) WF D ρ H (k.su a dd Γ S)
theorem cl_ok {tab : Str → Str → Option Bool} {hs : List ExceptHandler} {l : List Cl} (h : ClM X tab hs l) : ∃ l' : List Q3.Clause, Q3.ClOk X hs l' ∧ ∀ (W : XW) (D : Ends) (c f : Str) (v : Va) (Γ : En) (S : Sto) (ρ : List Addr) (H : Hp) (σ : L2.St) (w : V) (dd : Addr) (cls : Value), X.mg c = some cls → RS (kxOf X) ρ S H → RE (kxOf X) ρ H Γ σ → Rv (kxOf X) ρ H v w → H dd = some (.xd [(f, w)]) →
    AftS (kxOf X) W D ρ H (tryCl tab c f v Γ S l) → Q3.wMix X.K (wx X.mg W) D l' cls (some dd) σ H := by
  induction h with
  | nil => exact ⟨[], .nil, fun W D c f v Γ S ρ H σ w dd cls hc R G r e q => ⟨c, dd, hc, rfl, q ρ H σ w dd R.refl R G r e⟩⟩
  | @plain x C m st suite np p hs l nm gl ex su rest ih =>
    obtain ⟨l', h1, h2⟩ := ih
    refine ⟨(C, none, tsOf X tab ⟨x, none, fun _ _ => m⟩) :: l', .plain nm (fun a oe cls d pn hz hf => ?_) h1, fun W D c f v Γ S ρ H σ w dd cls hc R G r e q => ?_⟩
    · refine pss_imp (su a oe cls d pn hz hf) fun D σ H ⟨c, dd, f, v, w, ρ, Γ, S, _, _, _, R, G, _, _, q⟩ => ⟨ρ, Γ, S, R, G, q⟩
    · unfold tryCl at q
      cases t : tab c x with
      | none => simp only [t] at q; exact q.elim
      | some b =>
        refine ⟨b, ex c cls b t hc, fun hb a na => ?_, fun hb => ?_⟩
        · subst hb
          simp only [t] at q
          exact ⟨c, dd, f, v, w, ρ, Γ, S, t, hc, rfl, R, G, r, e, q.noXS⟩
        · subst hb
          simp only [t] at q
          exact h2 W D c f v Γ S ρ H σ w dd cls hc R G r e q
  | @bound x n i C m st suite np p hs l nm gl nd ix lo ex fr su rest ih =>
    obtain ⟨l', h1, h2⟩ := ih
    refine ⟨(C, some i, tsOf X tab ⟨x, some i, m⟩) :: l', .bound nm nd ix lo (fun a oe cls d pn hz hf => ?_) h1, fun W D c f v Γ S ρ H σ w dd cls hc R G r e q => ?_⟩
    · cases d with
      | none => exact pss_imp pss_never fun D σ H ⟨c, dd, f, v, w, ρ, Γ, S, _, _, z, _⟩ => nomatch z
      | some d0 =>
        by_cases z : ∃ c, tab c x = some true ∧ X.mg c = some cls
        · obtain ⟨c, z1, z2⟩ := z
          refine pss_imp (su a d0 oe c cls pn z1 z2 hz hf) fun D σ H ⟨c', dd, f, v, w, ρ, Γ, S, _, _, ed, R, G, _, _, q⟩ => ⟨ρ, Γ, S, R, G, ?_⟩
          cases ed
          exact q
        · exact pss_imp pss_never fun D σ H ⟨c, dd, f, v, w, ρ, Γ, S, z1, z2, _⟩ => absurd ⟨c, z1, z2⟩ z
    · unfold tryCl at q
      cases t : tab c x with
      | none => simp only [t] at q; exact q.elim
      | some b =>
        refine ⟨b, ex c cls b t hc, fun hb a na => ?_, fun hb => ?_⟩
        · subst hb
          simp only [t] at q
          rw [← fr a dd f v Γ S] at q
          refine ⟨c, dd, f, v, w, ρ, Γ.set i (some (.exc a dd f v)), S, t, hc, rfl, R, ?_, r, e, q.cutS⟩
          exact G.set i ⟨rfl, R.noxd e, w, e, r⟩
        · subst hb
          simp only [t] at q
          exact h2 W D c f v Γ S ρ H σ w dd cls hc R G r e q
theorem pms_try {tab : Str → Str → Option Bool} {body : List Stmt} {mb : MS} {h₀ : ExceptHandler} {hds : List ExceptHandler} {cl : List Cl} {pos : Pos} (hs : X.stack = X.env :: X.outer) (hf : X.env.frame = some X.env.locals) (tk : Takes X (wx X.mg W))
    (hb : ∀ (V : XW) (pn : List (Addr × Obj)) (xe : Value → Shared → Prop), Takes (X.tr pn xe) (wx X.mg V) → PassesOwn (model X.prog X.w) X.A X.env xe → PMSs (X.tr pn xe) V body mb)
    (hh : ClM X tab (h₀ :: hds) cl) : PMS X W (.Try body (h₀ :: hds) [] [] pos) (sTry tab mb cl) := by
  obtain ⟨l', h1, h2⟩ := cl_ok hh
  refine ps_imp (Q3.ps_try_mix (tb := fun V => tMS (kxOf X) (xwOf X.mg V) mb) hs hf tk (fun V pn xe tk' po => hb (xwOf X.mg V) pn xe (takes_xw tk') po) h1) fun D σ H ⟨ρ, Γ, S, R, G, q⟩ => ?_
  refine ⟨ρ, Γ, S, R, G, ?_⟩
  unfold sTry at q
  cases e : mb Γ S with
  | ex c f v Γ1 S1 =>
    rw [e] at q
    exact fun ρ' H' σ' w d E R' G' r hd cls hc => h2 W D c f v Γ1 S1 ρ' H' σ' w d cls hc R' G' r hd (q.shift E)
  | bad => rw [e] at q; exact q
  | nx Γ' S' => rw [e] at q; exact q
  | rt v S' => rw [e] at q; exact q
  | bk Γ' S' => rw [e] at q; exact q
  | ct Γ' S' => rw [e] at q; exact q
/-! ### error.f in a suite -/
def mErr (i : Nat) (f' : Str) (a d : Addr) : ME := fun Γ S => match Γ[i]? with
  | some (some (.exc a' d' f v)) => if a' = a ∧ d' = d ∧ f = f' then .ok v S else .bad
  | _ => .bad
theorem mErr_set {i : Nat} {f' f : Str} {a d : Addr} {Γ : En} {S : Sto} {v : Va} : mErr i f' a d (Γ.set i (some (.exc a d f v))) S = if i < Γ.length ∧ f = f' then .ok v S else .bad := by
  unfold mErr
  rw [List.getElem?_set]
  by_cases h : i < Γ.length
  · simp [h]
  · simp [h]
theorem pm_err {i : Nat} {a dd C : Addr} {oe : Obj} {pn : List (Addr × Obj)} {y n : Str} {pos p : Pos} {W : XW} (T : XfC X.K C) (hno : PySem.W.findIn X.K (.ref C) n = some none) (hz : Zc (.ref C) (some dd) oe) (hf : ∃ vs, oe.data = .fields vs)
    (hv : PE (X.suite a ((a, oe) :: pn)) (.Name y p) (tVar i)) (hb : attributeBase (.Name y p) n X.env (eval (.Name y p) X.env) = eval (.Name y p) X.env := by rfl) :
    PM (X.suite a ((a, oe) :: pn)) W (.Attribute (.Name y p) n pos) (mErr i n a dd) := by
  refine pe_imp (pe_xf T hno hz hf hv) fun σ H Q ⟨ρ, Γ, S, R, G, q⟩ => ?_
  unfold mErr at q
  cases e : Γ[i]? with
  | none => rw [e] at q; exact q.elim
  | some o =>
    cases o with
    | none => rw [e] at q; exact q.elim
    | some u =>
      rw [e] at q
      cases u with
      | exc a' d' f v =>
        simp only at q
        by_cases c : a' = a ∧ d' = dd ∧ f = n
        · rw [if_pos c] at q
          obtain ⟨rfl, rfl, rfl⟩ := c
          obtain ⟨w, h1, h2, h3, u, h4, h5⟩ := G.at_ i _ e
          exact ⟨w, h1, h2, rfl, d', _, u, rfl, h4, by simp [List.lookup], q ρ H u R.refl R h5⟩
        · rw [if_neg c] at q
          exact q.elim
      | _ => exact q.elim
end
end PM

/-! sum(lists, list), from the semantics up -/
namespace LZ
open PySem PySem.Spec PyProof.Rows
theorem args_sum2 (a b : Value) : argsOk "sum" ⟨[a, b], []⟩ := by unfold argsOk; kernel_rfl
theorem sub_list_str : isSubtype (.type "list") (.type "str") = pure false := by rw [isSubtype_type]; kernel_rfl
theorem sub_list_bytes : isSubtype (.type "list") (.type "bytes") = pure false := by rw [isSubtype_type]; kernel_rfl
theorem sub_list_bytearray : isSubtype (.type "list") (.type "bytearray") = pure false := by rw [isSubtype_type]; kernel_rfl
def restR (row : Nat → List Value) (i : Nat) : Nat → List Value
  | 0 => []
  | k + 1 => row i ++ restR row (i + 1) k
section
variable {prog : Program} {w : World} {A : Around} {E : Value → Shared → Prop} {s : Shared}
theorem add_raw {l b : Addr} {vs ws : List Value} {Q : Value → Shared → Prop} (hl : s.heap.IsList l vs.toArray) (hb : s.heap.IsList b ws.toArray) (hsz : vs.length + ws.length ≤ sizeLine)
    (h : Q (.ref s.heap.objs.size) { s with heap := s.heap.push { cls := .type "list", data := .seq (vs ++ ws).toArray } }) : wpAny (model prog w) A (binaryOp .Add (.ref l) (.ref b)) Q E s := by
  obtain ⟨⟨cls, dd, data, sl⟩, ho, hc, n, hd⟩ := id hl
  obtain ⟨⟨cls2, dd2, data2, sl2⟩, ho2, hc2, n2, hd2⟩ := id hb
  simp only at hc hd hc2 hd2
  subst hc hd hc2 hd2
  have e : vs.toArray ++ ws.toArray = (vs ++ ws).toArray := by simp
  refine concat_meets ⟨_, ho, rfl⟩ ⟨_, ho2, rfl⟩ noFill_list_add seq_list_add PySem.F.slot_list_add PySem.F.entry_list_add (PySem.F.args_list_add_2 _ _) (list_addW l b vs.toArray ws.toArray n n2 dd dd2 sl sl2 (by simpa using hsz)) ⟨ho, ho2, ?_⟩
  rw [e]
  exact h
theorem sum_rows {R : Result → Shared → Prop} {I : Addr} {fp wr : List Addr} {n : Nat} {P : Nat → Value → Prop} {St : Nat → Heap → Prop} (W : Walks prog w A.in1 I fp wr n P St) (S : Addr) (hSf : S ∉ fp) (row : Nat → List Value) {h0 : Heap} (hwr : ∀ b ∈ wr, h0.objs.size ≤ b) (hfp : ∀ b ∈ fp, b < S) (hS0 : h0.objs.size ≤ S)
    (hrow : ∀ j v, j < n → P j v → ∃ p, v = .ref p ∧ h0.IsList p (row j).toArray) :
    ∀ (k i : Nat) (s : Shared) (T : Addr) (acc : List Value) (c : Nat), n - i = k → i ≤ n → St i s.heap → (∀ b o, h0.get? b = some o → s.heap.get? b = some o) → S < s.heap.objs.size → s.heap.get? S = some { cls := .type "list", dict := none, data := .seq #[.ref T] c, slots := #[] } →
    s.heap.IsList T acc.toArray → T ≠ S → T ∉ fp → acc.length + (restR row i k).length ≤ sizeLine →
    (∀ h' tk T', (∀ b o, h0.get? b = some o → h'.get? b = some o) → ((k = 0 ∧ T' = T ∧ ∀ o, s.heap.get? T = some o → h'.get? T = some o) ∨ (0 < k ∧ h0.objs.size ≤ T' ∧ ∃ c', h'.get? T' = some { cls := .type "list", data := .seq (acc ++ restR row i k).toArray c' })) → R (.ok (.ret (.ref T'))) { s with heap := h', toks := tk }) →
    codeAny (model prog w) A (.builtin "sum.loop" ⟨[.ref I, .ref S, rawInt 2, rawInt 0], []⟩) R s := by
  have hSw : S ∉ wr := fun h => hSf (W.sub _ h)
  have lt0 : ∀ {b : Addr} {o : Obj}, h0.get? b = some o → b ∉ wr ∧ b ≠ S := fun {b o} e => ⟨fun z => absurd (Heap.lt_size e) (Nat.not_lt.mpr (hwr b z)), fun z => absurd (Heap.lt_size e) (Nat.not_lt.mpr (by rw [z]; exact hS0))⟩
  intro k
  induction k with
  | zero =>
    intro i s T acc c hk hi hst kp hSs hS hT hTS hTf hz hR
    have hin : i = n := by omega
    subst hin
    refine codeAny_builtin F.entry_sum_loop ?_
    rw [Around.under_plainId F.plain_sum_loop _]
    show wpAny _ A.in1 (seqItems? (.ref S) >>= _) _ _ s
    refine wpAny_bind (wpAny_seqItems hS rfl ?_)
    show wpAny _ A.in1 (tryCatch (pyNext (.ref I)) _ >>= _) _ _ s
    refine wpAny_bind (wpAny_tryCatch (W.done s _ _ hst fun h' tk hk' => ?_))
    exact wpAny_pure (hR h' tk T (fun b o e => hk' b o (lt0 e).1 (kp b o e)) (.inl ⟨rfl, rfl, fun o e => hk' T o (fun z => hTf (W.sub _ z)) e⟩))
  | succ k ih =>
    intro i s T acc c hk hi hst kp hSs hS hT hTS hTf hz hR
    have hlt : i < n := by omega
    refine codeAny_builtin F.entry_sum_loop ?_
    rw [Around.under_plainId F.plain_sum_loop _]
    show wpAny _ A.in1 (seqItems? (.ref S) >>= _) _ _ s
    refine wpAny_bind (wpAny_seqItems hS rfl ?_)
    show wpAny _ A.in1 (tryCatch (pyNext (.ref I)) _ >>= _) _ _ s
    refine wpAny_bind (wpAny_tryCatch (W.item i s _ _ hlt hst fun v h1 tk hP hst1 hk1 => ?_))
    obtain ⟨p, rfl, hp⟩ := hrow i v hlt hP
    have kp1 : ∀ b o, h0.get? b = some o → h1.get? b = some o := fun b o e => hk1 b o (lt0 e).1 (kp b o e)
    have hS1 := hk1 S _ hSw hS
    have hT1 : h1.IsList T acc.toArray := hT.at fun o e => hk1 T o (fun z => hTf (W.sub _ z)) e
    have hp1 : h1.IsList p (row i).toArray := hp.at fun o e => kp1 _ _ e
    have hz' : acc.length + (row i).length + (restR row (i + 1) k).length ≤ sizeLine := by
      have : (restR row i (k + 1)).length = (row i).length + (restR row (i + 1) k).length := List.length_append
      rw [this] at hz
      omega
    show wpAny _ A.in1 ((holding [Value.ref p] (binaryOp .Add (.ref T) (.ref p))).attempt >>= _) _ _ _
    refine wpAny_bind (wpAny_attempt (wpAny_holding (add_raw (s := { s with heap := h1, toks := tk }) hT1 hp1 (by omega) ?_)))
    show wpAny _ A.in1 (updateSeq S (fun _ => #[Value.ref h1.objs.size]) >>= _) _ _ _
    have pu : ∀ b o, h1.get? b = some o → (h1.push { cls := .type "list", data := .seq (acc ++ row i).toArray }).get? b = some o := fun b o e => Heap.get?_push_of_some _ e
    have hT2 : (h1.push { cls := .type "list", data := .seq (acc ++ row i).toArray }).get? h1.objs.size = some { cls := .type "list", data := .seq (acc ++ row i).toArray } := Heap.get?_push_size _ rfl
    have s1 : (h1.push { cls := .type "list", data := .seq (acc ++ row i).toArray }).objs.size = h1.objs.size + 1 := Heap.size_push _ _
    have hSl : S < h1.objs.size := Heap.lt_size hS1
    have h0l : h0.objs.size ≤ h1.objs.size := Nat.le_of_lt (Nat.lt_of_le_of_lt hS0 hSl)
    have hS2 := pu _ _ hS1
    generalize (h1.push { cls := .type "list", data := .seq (acc ++ row i).toArray }) = h2 at pu hT2 s1 hS2
    refine wpAny_bind (wpAny_updateSeq hS2 rfl ?_)
    have hS3 := Heap.get?_update_self (Obj.mapSeq fun _ => #[Value.ref h1.objs.size]) hS2 rfl
    refine wpAny_bind (wpAny_letGo ?_)
    refine wpAny_bind (wpAny_updateSeq hS3 rfl (wpAny_pure ⟨plainId_quiet F.plain_sum_loop _, ?_⟩))
    have hS4 := Heap.get?_update_self (Obj.mapSeq fun _ => #[Value.ref h1.objs.size]) hS3 rfl
    have up : ∀ b o, b ≠ S → h2.get? b = some o → ((h2.update S (Obj.mapSeq fun _ => #[Value.ref h1.objs.size])).update S (Obj.mapSeq fun _ => #[Value.ref h1.objs.size])).get? b = some o := fun b o hb e => by
      rw [Heap.get?_update_other _ _ (Ne.symm hb), Heap.get?_update_other _ _ (Ne.symm hb)]; exact e
    have s3 : ((h2.update S (Obj.mapSeq fun _ => #[Value.ref h1.objs.size])).update S (Obj.mapSeq fun _ => #[Value.ref h1.objs.size])).objs.size = h1.objs.size + 1 := by
      rw [(Heap.SameBut.update ..).1, (Heap.SameBut.update ..).1]; exact s1
    generalize ((h2.update S (Obj.mapSeq fun _ => #[Value.ref h1.objs.size])).update S (Obj.mapSeq fun _ => #[Value.ref h1.objs.size])) = h4 at hS4 up s3
    have nS : h1.objs.size ≠ S := Nat.ne_of_gt hSl
    have gT : h4.get? h1.objs.size = some { cls := .type "list", data := .seq (acc ++ row i).toArray } := up _ _ nS hT2
    refine ih (i + 1) _ h1.objs.size (acc ++ row i) _ (by omega) hlt (W.frame _ _ _ hst1 fun b hb o e => up b o (fun z => hSf (by rw [← z]; exact hb)) (pu b o e)) (fun b o e => up b o (lt0 e).2 (pu b o (kp1 b o e))) (by show S < h4.objs.size; rw [s3]; exact Nat.lt_succ_of_lt hSl) hS4 ⟨_, gT, rfl, _, rfl⟩ nS (fun z => ?_) (by rw [List.length_append]; omega) fun h' tk' T' k' h'' => ?_
    · exact absurd (hfp _ z) (Nat.not_lt.mpr (Nat.le_of_lt hSl))
    · refine hR h' tk' T' k' (.inr ?_)
      rcases h'' with ⟨rfl, rfl, h7⟩ | ⟨_, h5, c', h6⟩
      · refine ⟨Nat.succ_pos _, h0l, 0, ?_⟩
        rw [h7 _ gT]
        show _ = some ({ cls := .type "list", data := .seq (acc ++ (row i ++ [])).toArray _ } : Obj)
        rw [List.append_nil]
      · refine ⟨Nat.succ_pos _, h5, c', ?_⟩
        rw [h6]
        show _ = some ({ cls := .type "list", data := .seq (acc ++ (row i ++ restR row (i + 1) k)).toArray _ } : Obj)
        rw [List.append_assoc]
theorem sum_lists {l b : Addr} {xs : Array Value} {st : List Value} {row : Nat → List Value} {Q : Value → Shared → Prop} (hh : A.handled = none) (hl : s.heap.IsList l xs) (hb : s.heap.IsList b st.toArray) (hbl : b ≠ l) (hrow : ∀ j v, xs[j]? = some v → ∃ p, v = .ref p ∧ s.heap.IsList p (row j).toArray) (hz : st.length + (restR row 0 xs.size).length ≤ sizeLine)
    (h : ∀ h' tk T', (∀ b o, s.heap.get? b = some o → h'.get? b = some o) → ((xs.size = 0 ∧ T' = b) ∨ (0 < xs.size ∧ s.heap.objs.size ≤ T' ∧ ∃ c', h'.get? T' = some { cls := .type "list", data := .seq (st ++ restR row 0 xs.size).toArray c' })) → Q (.ref T') { s with heap := h', toks := tk }) :
    wpAny (model prog w) A (call (.builtin "sum") [.ref l, .ref b]) Q E s := by
  refine call_function_tree PySem.F.kind_sum PySem.F.plain_sum PySem.F.entry_sum (args_sum2 _ _) ?_
  unfold Builtin.«sum»
  simp only [List.length_cons, List.length_nil]
  rw [if_neg (by decide)]
  refine wpAny_bind (wpAny_of_eq (show Builtin.Builtins.bindParams "sum" ["start"] 0 ⟨[.ref b], []⟩ = pure [some (.ref b)] from rfl) ?_)
  have hlt : l < s.heap.objs.size := by obtain ⟨_, e, _⟩ := hl; exact Heap.lt_size e
  have hbt : b < s.heap.objs.size := by obtain ⟨_, e, _⟩ := hb; exact Heap.lt_size e
  refine wpAny_bind (wpAny_pyIter_list hl ?_)
  have pu : ∀ c o, s.heap.get? c = some o → (s.heap.push { cls := .type "list_iterator", data := .fields #[.ref l, .int 0 0] }).get? c = some o := fun c o e => Heap.get?_push_of_some _ e
  have it0 : (s.heap.push { cls := .type "list_iterator", data := .fields #[.ref l, .int 0 0] }).IsListIter s.heap.objs.size l 0 := ⟨_, Heap.get?_push_size _ rfl, rfl, rfl⟩
  have sz0 : (s.heap.push { cls := .type "list_iterator", data := .fields #[.ref l, .int 0 0] }).objs.size = s.heap.objs.size + 1 := Heap.size_push _ _
  generalize (s.heap.push { cls := .type "list_iterator", data := .fields #[.ref l, .int 0 0] }) = h1 at pu it0 sz0
  have hb1 : h1.IsList b st.toArray := hb.at fun o e => pu _ _ e
  have ty : ({ s with heap := h1 } : Shared).TypeIs (.ref b) "list" := by obtain ⟨o, e, c, _⟩ := hb1; exact ⟨o, e, c⟩
  refine wpAny_bind (wpAny_pure ?_)
  simp only [List.forIn_cons, List.forIn_nil]
  refine wpAny_bind (wpAny_bind (wpAny_bind (wpAny_isInstance (T := "list") (b := false) ty sub_list_str ?_)))
  simp only [Bool.false_eq_true, if_false]
  refine wpAny_pure (wpAny_bind (wpAny_bind (wpAny_isInstance (T := "list") (b := false) ty sub_list_bytes ?_)))
  simp only [Bool.false_eq_true, if_false]
  refine wpAny_pure (wpAny_bind (wpAny_bind (wpAny_isInstance (T := "list") (b := false) ty sub_list_bytearray ?_)))
  simp only [Bool.false_eq_true, if_false]
  refine wpAny_pure (wpAny_pure ?_)
  refine wpAny_bind (wpAny_newObj_type ?_)
  have pu2 : ∀ c o, h1.get? c = some o → (h1.push { cls := .type "list", data := .seq #[.ref b] }).get? c = some o := fun c o e => Heap.get?_push_of_some _ e
  have hS : (h1.push { cls := .type "list", data := .seq #[.ref b] }).get? h1.objs.size = some { cls := .type "list", data := .seq #[.ref b] } := Heap.get?_push_size _ rfl
  have sz1 : (h1.push { cls := .type "list", data := .seq #[.ref b] }).objs.size = h1.objs.size + 1 := Heap.size_push _ _
  refine wpAny_pure ⟨plainId_quiet PySem.F.plain_sum_loop _, sum_rows (h0 := s.heap) (Walks.list (A := A.in1) hh s.heap.objs.size l (Nat.ne_of_lt hlt) xs) h1.objs.size (fun z => ?_) row (fun c hc => ?_) (fun c hc => ?_) ?_ (fun j v _ e => hrow j v e) xs.size 0 _ b st _ rfl (Nat.zero_le _) ⟨it0.at fun o e => pu2 _ _ e, (hl.at fun o e => pu _ _ e).at fun o e => pu2 _ _ e⟩ (fun c o e => pu2 _ _ (pu _ _ e)) (Nat.lt_of_lt_of_eq (Nat.lt_succ_self _) sz1.symm) hS (hb1.at fun o e => pu2 _ _ e) (fun z => ?_) (fun z => ?_) hz fun h' tk T' k hT => ?_⟩
  · rcases List.mem_cons.mp z with z | z
    · rw [sz0] at z; exact absurd z (Nat.ne_of_gt (Nat.lt_succ_self _))
    · rw [List.mem_singleton.mp z] at sz0; exact absurd (Nat.lt_trans hlt (Nat.lt_of_lt_of_eq (Nat.lt_succ_self _) sz0.symm)) (Nat.lt_irrefl _)
  · rw [List.mem_singleton.mp hc]; exact Nat.le_refl _
  · rw [sz0]
    rcases List.mem_cons.mp hc with rfl | hc
    · exact Nat.lt_succ_self _
    · rw [List.mem_singleton.mp hc]; exact Nat.lt_succ_of_lt hlt
  · rw [sz0]; exact Nat.le_succ _
  · rw [z, sz0] at hbt; exact absurd hbt (Nat.not_lt.mpr (Nat.le_succ _))
  · rcases List.mem_cons.mp z with z | z
    · exact absurd z (Nat.ne_of_lt hbt)
    · exact hbl (List.mem_singleton.mp z)
  · refine h h' tk T' k ?_
    rcases hT with ⟨h1, h2, _⟩ | hT
    · exact .inl ⟨h1, h2⟩
    · exact .inr hT
end
end LZ

namespace LZ
open PySem PySem.Spec PyProof.Rows L2
def rSumL (K : PySem.W.Frag) : List V → Hp → VK → Prop := fun vs H Q => ∃ (a b : Addr) (ps : List Addr) (rows : List (List V)) (st : List V), vs = [.ref a, .ref b] ∧ b ≠ a ∧ SqL K H a (ps.map V.ref) ∧ SqL K H b st ∧ rows.length = ps.length ∧
  (∀ (j : Nat) (p : Addr) (r : List V), ps[j]? = some p → rows[j]? = some r → SqL K H p r) ∧ (st ++ rows.flatten).length ≤ sizeLine ∧ (ps = [] → Q (.ref b) H) ∧ (ps ≠ [] → ∀ q, H q = none → Q (.ref q) (upd H q (.lst (st ++ rows.flatten))))
theorem vals_rest {rows : List (List V)} {row : Nat → List Value} (h : ∀ (j : Nat) (r : List V), rows[j]? = some r → Vals r (row j)) : ∀ (k i : Nat), i + k = rows.length → Vals ((rows.drop i).flatten) (restR row i k)
  | 0, i, e => by rw [List.drop_of_length_le (by omega)]; exact .nil
  | k + 1, i, e => by
    have hi : i < rows.length := by omega
    rw [List.drop_eq_getElem_cons hi]
    show Vals (rows[i] ++ (rows.drop (i + 1)).flatten) (row i ++ restR row (i + 1) k)
    exact (h i _ (List.getElem?_eq_getElem hi)).append (vals_rest h k (i + 1) (by omega))
section
variable {X : Cx}
theorem cr_sumL (hc : X.calm = true) : CallR X (.builtin "sum") (rSumL X.K) := by
  intro pins s σ H vs us Q I r h
  obtain ⟨a, b, ps, rows, st, rfl, hne, sa, sb, hl, hp, hz, q0, q1⟩ := h
  cases r with
  | cons r rr =>
    cases rr with
    | cons r' rr =>
      cases rr
      cases r
      cases r'
      obtain ⟨xs, v1, g1, z1⟩ := I.list sa
      obtain ⟨ts, v2, g2, z2⟩ := I.list sb
      have ex : ∀ j : Nat, ∃ its : List Value, ∀ p r, ps[j]? = some p → rows[j]? = some r → s.heap.IsList p its.toArray ∧ Vals r its := fun j => by
        cases e : ps[j]? with
        | none => exact ⟨[], fun p r z => nomatch z⟩
        | some p =>
          cases e2 : rows[j]? with
          | none => exact ⟨[], fun p r _ z => nomatch z⟩
          | some r =>
            obtain ⟨its, v3, g3, z3⟩ := I.list (hp j p r e e2)
            refine ⟨its, fun p' r' e3 e4 => ?_⟩
            cases e3
            cases e4
            exact ⟨g3.isList, v3⟩
      have row := fun j => Classical.choose (ex j)
      have hrow' : ∃ row : Nat → List Value, ∀ j p r, ps[j]? = some p → rows[j]? = some r → s.heap.IsList p (row j).toArray ∧ Vals r (row j) := ⟨fun j => Classical.choose (ex j), fun j => Classical.choose_spec (ex j)⟩
      clear row
      obtain ⟨row, hrow⟩ := hrow'
      have lx := v1.length
      rw [List.length_map] at lx
      have at_ : ∀ (j : Nat) (r : List V), rows[j]? = some r → Vals r (row j) := fun j r e => by
        have hj := (List.getElem?_eq_some_iff.mp e).1
        exact (hrow j _ r (List.getElem?_eq_getElem (by omega : j < ps.length)) e).2
      have vr : Vals rows.flatten (restR row 0 xs.length) := by
        have := vals_rest at_ xs.length 0 (by omega)
        exact this
      have vall := v2.append vr
      have ll := vall.length
      refine sum_lists (row := row) (I.ok.hd hc) g1.isList g2.isList hne (fun j v e => ?_) ?_ fun h' tk T' k hT => ?_
      · have e' : xs[j]? = some v := by simpa using e
        have hj : j < xs.length := (List.getElem?_eq_some_iff.mp e').1
        have hpj : ps[j]? = some ps[j] := List.getElem?_eq_getElem (by omega)
        have hrj : rows[j]? = some rows[j] := List.getElem?_eq_getElem (by omega)
        obtain ⟨u, f1, f2⟩ := v1.get (i := j) (x := V.ref ps[j]) (by rw [List.getElem?_map, hpj]; rfl)
        cases f1.symm.trans e'
        cases f2
        exact ⟨_, rfl, (hrow j _ _ hpj hrj).1⟩
      · have : (ts ++ restR row 0 xs.length).length ≤ sizeLine := by rw [← ll]; exact hz
        rw [List.length_append] at this
        simpa using this
      · rcases hT with ⟨h1, rfl⟩ | ⟨h0, h1, c', h2⟩
        · have e0 : xs.length = 0 := by simpa using h1
          exact ⟨.ref _, H, I.kept k, rfl, q0 (List.eq_nil_of_length_eq_zero (by omega))⟩
        · by_cases e0 : ps = []
          · subst e0
            have e1 : xs.length = 0 := by simpa using lx.symm
            have h0' : 0 < xs.length := by simpa using h0
            omega
          · refine ⟨.ref T', _, I.laid (t' := tk) (a := T') (o := .lst (st ++ rows.flatten)) (h' := h') k h1 ⟨hz, _, c', vall, ?_⟩, rfl, q1 e0 T' (I.hok.fresh h1)⟩
            have e2 : xs.toArray.size = xs.length := by simp
            rw [h2, e2]
end
end LZ
namespace PM
open PySem PySem.Spec PyProof.Rows L2 Q2
/-- the lists that stand at some places -/
def rowsOf (S : Sto) : List Va → Option (List (List Va))
  | [] => some []
  | .ref n :: r => match S[n]?, rowsOf S r with
    | some (.lst xs), some l => some (xs :: l)
    | _, _ => none
  | _ :: _ => none
def fSumL : FL := fL2 fun v w S => match v, w with
  | .ref i, .ref j => if i = j then none else match S[i]?, S[j]? with
    | some (.lst vs), some (.lst st) => match rowsOf S vs with
      | some rows => if rows = [] then some (.ref j, S) else mkL S (st ++ rows.flatten)
      | none => none
    | _, _ => none
  | _, _ => none
theorem rows_rel {K : KX} {ρ : List Addr} {S : Sto} {H : Hp} (R : RS K ρ S H) : ∀ {vs : List Va} {ws : List V} {rows : List (List Va)}, Rvs K ρ H vs ws → rowsOf S vs = some rows → ∃ (ps : List Addr) (us : List (List V)), ws = ps.map V.ref ∧ rows.length = ps.length ∧ us.length = ps.length ∧ (∀ (j : Nat) (p : Addr) (r : List V), ps[j]? = some p → us[j]? = some r → SqL K.K H p r) ∧ Rvs K ρ H rows.flatten us.flatten
  | [], _, _, h, e => by
    cases h
    cases e
    exact ⟨[], [], rfl, rfl, rfl, fun j p r z => by simp at z, rfl⟩
  | v :: vs, _, rows, h, e => by
    obtain ⟨w, r, rfl, h1, h2⟩ := h
    cases v with
    | ref n =>
      unfold rowsOf at e
      cases e1 : S[n]? with
      | none => rw [e1] at e; simp at e
      | some o =>
        cases o with
        | lst xs =>
          cases e2 : rowsOf S vs with
          | none => rw [e1, e2] at e; simp at e
          | some l =>
            rw [e1, e2] at e
            cases e
            obtain ⟨ps, us, rfl, l1, l2, hp, hr⟩ := rows_rel R h2 e2
            obtain ⟨a, ea, rfl⟩ := h1
            obtain ⟨_, ws, hw, hx⟩ := R.at_ n a _ ea e1
            refine ⟨a :: ps, ws :: us, rfl, by simp [l1], by simp [l2], fun j p r z1 z2 => ?_, ?_⟩
            · cases j with
              | zero => cases z1; cases z2; exact SqL.of hw
              | succ j => exact hp j p r z1 z2
            · show Rvs K ρ H (xs ++ l.flatten) (ws ++ us.flatten)
              exact hx.app hr
        | _ => rw [e1] at e; simp at e
    | _ => unfold rowsOf at e; cases e
theorem cSumL {X : Cx} (hc : X.calm = true) : CallP X (.builtin "sum") fSumL := by
  refine ⟨_, LZ.cr_sumL hc, callM2 fun ρ S H v w x y Q R r r' q => ?_⟩
  cases v with
  | ref i =>
    cases w with
    | ref j =>
      simp only at q
      by_cases ij : i = j
      · rw [if_pos ij] at q; exact q.elim
      · rw [if_neg ij] at q
        cases e1 : S[i]? with
        | none => rw [e1] at q; exact q.elim
        | some o =>
          cases o with
          | lst vs =>
            cases e2 : S[j]? with
            | none => rw [e1, e2] at q; exact q.elim
            | some o2 =>
              cases o2 with
              | lst st =>
                cases e3 : rowsOf S vs with
                | none => rw [e1, e2] at q; simp only [e3] at q; exact q.elim
                | some rows =>
                  rw [e1, e2] at q
                  simp only [e3] at q
                  obtain ⟨a, ea, rfl⟩ := r
                  obtain ⟨b, eb, rfl⟩ := r'
                  obtain ⟨_, ws, hw, hx⟩ := R.at_ i a _ ea e1
                  obtain ⟨_, ts, ht, hy⟩ := R.at_ j b _ eb e2
                  obtain ⟨ps, us, rfl, l1, l2, hp, hr⟩ := rows_rel R hx e3
                  have hne : b ≠ a := fun z => by
                    subst z
                    have h1 := (List.getElem?_eq_some_iff.mp ea)
                    have h2 := (List.getElem?_eq_some_iff.mp eb)
                    obtain ⟨i1, e4⟩ := h1
                    obtain ⟨j1, e5⟩ := h2
                    exact ij ((List.getElem_inj R.nd).mp (e4.trans e5.symm))
                  have rel : Rvs (kxOf X) ρ H (st ++ rows.flatten) (ts ++ us.flatten) := hy.app hr
                  have ll := rel.len
                  by_cases e0 : rows = []
                  · rw [if_pos e0] at q
                    have p0 : ps = [] := List.eq_nil_of_length_eq_zero (by rw [← l1, e0]; rfl)
                    have u0 : us = [] := List.eq_nil_of_length_eq_zero (by rw [l2, p0]; rfl)
                    refine ⟨a, b, ps, us, ts, rfl, hne, SqL.of hw, SqL.of ht, l2, hp, ?_, fun _ => q ρ H _ R.refl R ⟨b, eb, rfl⟩, fun z => absurd p0 z⟩
                    obtain ⟨hz, _⟩ := R.at_ j b _ eb e2
                    rw [u0, List.flatten_nil, List.append_nil, ← hy.len]
                    exact hz
                  · rw [if_neg e0] at q
                    unfold mkL at q
                    by_cases hz : (st ++ rows.flatten).length ≤ sizeLine
                    · rw [if_pos hz] at q
                      refine ⟨a, b, ps, us, ts, rfl, hne, SqL.of hw, SqL.of ht, l2, hp, by rw [← ll]; exact hz, fun z => absurd (List.eq_nil_of_length_eq_zero (by rw [l1, z]; rfl)) e0, fun _ p hp' => ?_⟩
                      obtain ⟨E, R2⟩ := R.new hp' hz rel
                      exact q _ _ _ E R2 (R.last p)
                    · rw [if_neg hz] at q
                      exact q.elim
              | _ => rw [e1, e2] at q; exact q.elim
          | _ => rw [e1] at q; exact q.elim
    | _ => exact q.elim
  | _ => exact q.elim
end PM

namespace PM
open PySem PySem.Spec PyProof.Rows L2 Q2
/-! ### clauses of leaf classes under one base -/
def ExA (K : PySem.W.Frag) (mg : Str → Option Value) (C : Value) (base x : Str) : List Str → Prop
  | [] => True
  | c :: r => (∃ cls, mg c = some cls ∧ PySem.W.exmOne K cls C = some (if x = base then true else decide (c = x))) ∧ ExA K mg C base x r
theorem ExA.get {K : PySem.W.Frag} {mg : Str → Option Value} {C : Value} {base x : Str} : ∀ {L : List Str}, ExA K mg C base x L → ∀ c ∈ L, ∀ cls, mg c = some cls → PySem.W.exmOne K cls C = some (if x = base then true else decide (c = x))
  | c :: r, h, d, hd, cls, hc => by
    rcases List.mem_cons.mp hd with rfl | hd
    · obtain ⟨cls', h1, h2⟩ := h.1
      cases h1.symm.trans hc
      exact h2
    · exact ExA.get h.2 d hd cls hc
theorem ExA.tab {K : PySem.W.Frag} {mg : Str → Option Value} {C : Value} {base x : Str} {L : List Str} (h : ExA K mg C base x L) (c : Str) (cls : Value) (b : Bool) (e : exTab base L c x = some b) (hc : mg c = some cls) : PySem.W.exmOne K cls C = some b := by
  unfold exTab at e
  by_cases h1 : c ∈ L
  · rw [if_pos h1] at e
    have := h.get c h1 cls hc
    by_cases h2 : x = base
    · rw [if_pos h2] at e this
      cases e
      exact this
    · rw [if_neg h2] at e this
      by_cases h3 : x ∈ L
      · rw [if_pos h3] at e
        cases e
        exact this
      · rw [if_neg h3] at e
        cases e
  · rw [if_neg h1] at e
    cases e
theorem leaf_cls {base x c : Str} {L : List Str} (hx : x ≠ base) (e : exTab base L c x = some true) : c = x := by
  unfold exTab at e
  by_cases h1 : c ∈ L
  · rw [if_pos h1, if_neg hx] at e
    by_cases h3 : x ∈ L
    · rw [if_pos h3] at e
      simpa using e
    · rw [if_neg h3] at e
      cases e
  · rw [if_neg h1] at e
    cases e
theorem ClM.leaf {X : Cx} {base : Str} {L : List Str} {x n : Str} {i : Nat} {C : Addr} {m : Addr → Addr → MS} {st : Stmt} {suite : List Stmt} {np p : Pos} {hs : List ExceptHandler} {l : List Cl} (hg : Gl X x) (gl : X.mg x = some (.ref C)) (nd : X.N.Nodup) (ix : X.N[i]? = some n) (lo : X.env.kindOf n = some .local)
    (ex : ExA X.K X.mg (.ref C) base x L) (fr : Free i m) (hx : x ≠ base)
    (su : ∀ (a dd : Addr) (oe : Obj) (pn : List (Addr × Obj)), Zc (.ref C) (some dd) oe → (∃ vs, oe.data = .fields vs) → PMSs (X.suite a ((a, oe) :: pn)) WF (st :: suite) (m a dd)) (rest : ClM X (exTab base L) hs l) (hdb : (x == ("__debug__" : Str)) = false := by decide) :
      ClM X (exTab base L) (.ExceptHandler (some (.Name x np)) (some n) (st :: suite) p :: hs) (⟨x, some i, m⟩ :: l) :=
  .bound ⟨hg, hdb, .inl gl⟩ gl nd ix lo ex.tab fr (fun a dd oe c cls pn tb gc hz hf => by
    obtain rfl := leaf_cls hx tb
    cases gl.symm.trans gc
    exact su a dd oe pn hz hf) rest
theorem ClM.bare {X : Cx} {base : Str} {L : List Str} {x : Str} {C : Addr} {m : MS} {st : Stmt} {suite : List Stmt} {np p : Pos} {hs : List ExceptHandler} {l : List Cl} (hg : Gl X x) (gl : X.mg x = some (.ref C)) (ex : ExA X.K X.mg (.ref C) base x L)
    (su : ∀ (a : Addr) (oe : Obj) (pn : List (Addr × Obj)), PMSs (X.suite a ((a, oe) :: pn)) WF (st :: suite) m) (rest : ClM X (exTab base L) hs l) (hdb : (x == ("__debug__" : Str)) = false := by decide) :
      ClM X (exTab base L) (.ExceptHandler (some (.Name x np)) none (st :: suite) p :: hs) (⟨x, none, fun _ _ => m⟩ :: l) :=
  .plain ⟨hg, hdb, .inl gl⟩ gl ex.tab (fun a oe cls d pn hz hf => su a oe pn) rest
/-! ### suites that tell the same wherever the exception lies -/
def FreeE (i : Nat) (m : Addr → Addr → ME) : Prop := ∀ (a d : Addr) (f : Str) (v : Va) (Γ : En) (S : Sto), m a d (Γ.set i (some (.exc a d f v))) S = m 0 0 (Γ.set i (some (.exc 0 0 f v))) S
def FreeA (i : Nat) (m : Addr → Addr → MA) : Prop := ∀ (a d : Addr) (f : Str) (v : Va) (Γ : En) (S : Sto), m a d (Γ.set i (some (.exc a d f v))) S = m 0 0 (Γ.set i (some (.exc 0 0 f v))) S
section
variable {i : Nat}
theorem fr_err {f : Str} : FreeE i (mErr i f) := fun a d f' v Γ S => by rw [mErr_set, mErr_set]
theorem fr_c {v : Va} : FreeE i fun _ _ => mC v := fun a d f v' Γ S => rfl
theorem fr_v {j : Nat} (h : i ≠ j := by decide) : FreeE i fun _ _ => mV j := fun a d f v' Γ S => by
  show mV j _ S = mV j _ S
  unfold mV
  rw [List.getElem?_set_ne h, List.getElem?_set_ne h]
theorem fr_2 {g : F2} {m m' : Addr → Addr → ME} (h : FreeE i m) (h' : FreeE i m') : FreeE i fun a d => m2 g (m a d) (m' a d) := fun a d f v Γ S => by
  show m2 g _ _ _ S = m2 g _ _ _ S
  unfold m2
  rw [h a d f v Γ S]
  congr 1
  funext u S1
  rw [h' a d f v Γ S1]
theorem fr_N : FreeA i fun _ _ => maN := fun a d f v Γ S => rfl
theorem fr_C {m : Addr → Addr → ME} {t : Addr → Addr → MA} (h : FreeE i m) (h' : FreeA i t) : FreeA i fun a d => maC (m a d) (t a d) := fun a d f v Γ S => by
  show maC _ _ _ S = maC _ _ _ S
  unfold maC
  rw [h a d f v Γ S]
  congr 1
  funext u S1
  rw [h' a d f v Γ S1]
theorem fr_L {g : FL} {t : Addr → Addr → MA} (h : FreeA i t) : FreeE i fun a d => mL g (t a d) := fun a d f v Γ S => by
  show mL g _ _ S = mL g _ _ S
  unfold mL
  rw [h a d f v Γ S]
theorem fr_ret {m : Addr → Addr → ME} (h : FreeE i m) : Free i fun a d => sRet (m a d) := fun a d f v Γ S => by
  show cutS i (sRet _ _ S) = cutS i (sRet _ _ S)
  unfold sRet
  rw [h a d f v Γ S]
  cases m 0 0 (Γ.set i (some (.exc 0 0 f v))) S <;> rfl
theorem fr_set {j : Nat} {m : Addr → Addr → ME} (h : FreeE i m) (hij : i ≠ j := by decide) : Free i fun a d => sSet j (m a d) := fun a d f v Γ S => by
  show cutS i (sSet j _ _ S) = cutS i (sSet j _ _ S)
  unfold sSet
  rw [h a d f v Γ S]
  cases m 0 0 (Γ.set i (some (.exc 0 0 f v))) S with
  | ok u S1 =>
    show Rs.nx ((((Γ.set i _).set j _)).set i none) S1 = Rs.nx ((((Γ.set i _).set j _)).set i none) S1
    rw [List.set_comm _ _ hij, List.set_comm _ _ hij, List.set_set, List.set_set]
  | bad => rfl
  | ex c f v S => rfl
end
/-! ### weakest conditions -/
/-- what a suite may end in: an exception of these names -/
structure Px where
  P : Po
  ex : Str → Str → Va → Sto → Prop
def Wsx (r : Rs) (P : Px) : Prop := match r with
  | .ex c f v Γ S => P.ex c f v S
  | r => Ws r P.P
def Wpx {α : Type} (r : Res α) (Q : α → Sto → Prop) (X : Str → Str → Va → Sto → Prop) : Prop := match r with
  | .ok a S => Q a S
  | .ex c f v S => X c f v S
  | .bad => False
theorem Wp.x {α : Type} {r : Res α} {Q : α → Sto → Prop} {X : Str → Str → Va → Sto → Prop} (h : Wp r Q) : Wpx r Q X := by
  cases r with
  | ok a S => exact h
  | bad => exact h
  | ex c f v S => exact h.elim
theorem Ws.x {r : Rs} {P : Px} (h : Ws r P.P) : Wsx r P := by
  cases r with
  | ex c f v Γ S => exact h.elim
  | _ => exact h
/-! ### classes -/
def iniOf (s : Stmt) : Stmt := match s with
  | .ClassDef _ _ _ (b :: _) _ _ _ _ _ _ _ => b
  | s => s
theorem sup_mk {P : Program} {K : PySem.W.Frag} {h : Heap} {mg : Str → Option Value} {x f : Str} {c : Stmt} {qual : Str} (X : K.In h) (G : h.Ns mainGlobals mg) (tx : Q3.SupTxt (defArgs c) (defBody c) (defScope c) f) {C fI cda cc : Addr}
    {nm q : Str} {N : Addr} {bs bm : List Value} {sn : List Str} {sub : List Value} {ab : Bool} {col : Option Bool} {dd : Option Addr} {m0 m1 m2 m3 m5 : Option Value} {oc kV doc pm ct : Value} {od an : Option Addr} {osl : Array (Option Value)}
    {ccl : Value} {cdd : Option Addr} {vs : Array Value} {ccs : Array (Option Value)} {file : Str} {tf : Tok} {cl : Value} {cld : Option Addr} {csl : Array (Option Value)}
    (aC : PySem.W.nsIn K mainGlobals x = some (some (.ref C))) (aS : PySem.W.nsIn K mainGlobals "super" = some none)
    (xL : K.lookup C = some (excClassObj nm q C N bs bm true sn sub ab col dd m0 m1 m2 m3 m5 "ValueError.__new__"))
    (sa : PySem.W.findIn K (.ref C) "__setattr__" = some (some (.builtin "object.__setattr__"))) (no : PySem.W.findIn K (.ref C) f = some none)
    (eC : PySem.W.subIn K (.ref C) (.type "BaseException") = some true) (tC : PySem.W.typeIn K (.ref C) = some (.type "type")) (kC : PySem.W.keepIn K (.ref C) = true)
    (mC : PySem.W.mroIn K C (.ref C) = some true) (uC : PySem.W.ks_superIn K C C "__init__" = some (some (.builtin "ValueError.__init__"))) (vC : PySem.W.subIn K (.ref C) (.type "ValueError") = some true) (oq : PySem.W.nsIn K cStatics "thirdparty.any" = some none)
    (iC : PySem.W.findIn K (.ref C) "__init__" = some (some (.ref fI))) (tI : PySem.W.typeIn K (.ref fI) = some (.type "function"))
    (lI : K.lookup fI = some ⟨oc, od, .func (PySem.W.ksFn "__init__" qual (defArgs c) (defBody c) (defScope c) .none kV doc pm an (.ref cda) ct cc), osl⟩) (cI : PySem.W.codeIn K (.ref cda) qual = true)
    (lD : K.lookup cda = some ⟨ccl, cdd, .fields vs, ccs⟩) (lC : K.lookup cc = some ⟨cl, cld, .cell (some (.ref C)), csl⟩)
    (hbm : PySem.HandSPX.refsVE bm = true) (hvs : vs[2]? = some (.str file tf)) (hfile : ((P.main.file : Str) == file) = true) (htop : (P.main.scope.names.lookup ("super" : Str)).isSome = false) :
    Q3.SupC P K mg C x f :=
  ⟨⟨⟨nm, q, N, bs, bm, sn, sub, ab, col, dd, m0, m1, m2, m3, m5, xL, hbm⟩, sa, eC, tC, kC⟩, PySem.W.mg_of X G aC, PySem.W.mg_none_of X G aS, no, mC, uC, vC, oq, htop,
    ⟨fI, oc, od, osl, qual, defArgs c, defBody c, defScope c, kV, doc, pm, ct, an, cda, cc, tx, iC, tI, lI, cI, ⟨ccl, cdd, vs, ccs, file, tf, lD, hvs, hfile⟩, ⟨cl, cld, csl, lC⟩⟩⟩
theorem exa_ref {K : PySem.W.Frag} {h : Heap} {mg : Str → Option Value} (X : K.In h) (G : h.Ns mainGlobals mg) {c : Str} {D C : Addr} {b : Bool} (aD : PySem.W.nsIn K mainGlobals c = some (some (.ref D))) (h1 : PySem.W.subIn K (.ref C) (.type "BaseException") = some true) (hdct : PySem.W.hasDictIn K C = true) (ht : PySem.W.typeIn K (.ref C) = some (.type "type"))
    (h4 : PySem.W.subIn K (.ref D) (.ref C) = some b) : ∃ cls, mg c = some cls ∧ PySem.W.exmOne K cls (.ref C) = some b := ⟨_, PySem.W.mg_of X G aD, PySem.W.exm_ref h1 hdct ht h4⟩
theorem xf_mk {K : PySem.W.Frag} {C : Addr} (ga : PySem.W.findIn K (.ref C) "__getattribute__" = some (some (.builtin "BaseException.__getattribute__"))) (gg : PySem.W.findIn K (.ref C) "__getattr__" = some none) (exC : PySem.W.subIn K (.ref C) (.type "BaseException") = some true) (hdC : PySem.W.hasDictIn K C = true) : XfC K C := ⟨ga, gg, exC, hdC⟩
end PM

namespace PM
open PySem PySem.Spec PyProof.Rows L2 Q2
def top (i : Nat) : Stmt := PySem.Challenge.pw_planesplits_k61_whole_even_trees.main.body.getD i (.Pass ⟨0, 0, 0, 0⟩)
abbrev s_is_integer : Stmt := top 9
abbrev s_is_coordinate : Stmt := top 10
abbrev s_is_point : Stmt := top 11
abbrev s_check_point : Stmt := top 12
abbrev s_check_points : Stmt := top 13
abbrev s_y_key : Stmt := top 15
abbrev s_path_of : Stmt := top 19
abbrev s_fault_in_sides : Stmt := top 20
abbrev s_check_middle : Stmt := top 21
abbrev s_grown_sides : Stmt := top 22
abbrev s_side_nodes : Stmt := top 23
abbrev s_side_points : Stmt := top 24
abbrev s_count_levels : Stmt := top 25
abbrev s_way_by_sides : Stmt := top 26
abbrev s_put_at_end : Stmt := top 27
abbrev s_without_top : Stmt := top 28
abbrev s_sizes_of : Stmt := top 30
abbrev s_middle : Stmt := top 32
abbrev s_is_even : Stmt := top 33
abbrev s_in_order : Stmt := top 34
abbrev s_height : Stmt := top 35
abbrev s_taken : Stmt := top 36
abbrev s_law_mixed : Stmt := top 38
abbrev s_law_source : Stmt := top 39
abbrev s_law_take : Stmt := top 40
abbrev s_law_pick : Stmt := top 41
abbrev s_law_spots : Stmt := top 42
abbrev s_law_end : Stmt := top 43
abbrev s_law_box : Stmt := top 44
abbrev s_law_holds : Stmt := top 45
abbrev s_law_shuffled : Stmt := top 46
abbrev s_law_moved : Stmt := top 47
abbrev s_law_mirrored : Stmt := top 48
abbrev s_law_turned_about : Stmt := top 49
abbrev s_law : Stmt := top 50
abbrev c_InvalidPoint : Stmt := iniOf (top 2)
theorem x_InvalidPoint : Q3.SupTxt (defArgs c_InvalidPoint) (defBody c_InvalidPoint) (defScope c_InvalidPoint) "value" := by
  refine' ⟨⟨_, "value", _, _, _, _, _, _, _, _, _, _, _, ?a, ?b, ?c, ?d, ?e, ?f, ?g⟩, ?h1, ?h2, ?h3, ?h4, ?h5, ?h6, ?h7⟩
  case e => exact rfl
  case a => rfl
  case b => decide
  case c => decide
  case d => rfl
  case f => exact ⟨_, rfl, rfl⟩
  case g => exact fun _ _ _ _ _ _ _ _ _ _ _ _ h => by subst h; rfl
  case h1 => rfl
  case h2 => rfl
  case h3 => rfl
  case h4 => decide
  case h5 => rfl
  case h6 => rfl
  case h7 => rfl
abbrev c_InvalidPoints : Stmt := iniOf (top 3)
theorem x_InvalidPoints : Q3.SupTxt (defArgs c_InvalidPoints) (defBody c_InvalidPoints) (defScope c_InvalidPoints) "index" := by
  refine' ⟨⟨_, "index", _, _, _, _, _, _, _, _, _, _, _, ?a, ?b, ?c, ?d, ?e, ?f, ?g⟩, ?h1, ?h2, ?h3, ?h4, ?h5, ?h6, ?h7⟩
  case e => exact rfl
  case a => rfl
  case b => decide
  case c => decide
  case d => rfl
  case f => exact ⟨_, rfl, rfl⟩
  case g => exact fun _ _ _ _ _ _ _ _ _ _ _ _ h => by subst h; rfl
  case h1 => rfl
  case h2 => rfl
  case h3 => rfl
  case h4 => decide
  case h5 => rfl
  case h6 => rfl
  case h7 => rfl
abbrev c_InvalidTree : Stmt := iniOf (top 4)
theorem x_InvalidTree : Q3.SupTxt (defArgs c_InvalidTree) (defBody c_InvalidTree) (defScope c_InvalidTree) "path" := by
  refine' ⟨⟨_, "path", _, _, _, _, _, _, _, _, _, _, _, ?a, ?b, ?c, ?d, ?e, ?f, ?g⟩, ?h1, ?h2, ?h3, ?h4, ?h5, ?h6, ?h7⟩
  case e => exact rfl
  case a => rfl
  case b => decide
  case c => decide
  case d => rfl
  case f => exact ⟨_, rfl, rfl⟩
  case g => exact fun _ _ _ _ _ _ _ _ _ _ _ _ h => by subst h; rfl
  case h1 => rfl
  case h2 => rfl
  case h3 => rfl
  case h4 => decide
  case h5 => rfl
  case h6 => rfl
  case h7 => rfl
abbrev c_NotThere : Stmt := iniOf (top 5)
theorem x_NotThere : Q3.SupTxt (defArgs c_NotThere) (defBody c_NotThere) (defScope c_NotThere) "point" := by
  refine' ⟨⟨_, "point", _, _, _, _, _, _, _, _, _, _, _, ?a, ?b, ?c, ?d, ?e, ?f, ?g⟩, ?h1, ?h2, ?h3, ?h4, ?h5, ?h6, ?h7⟩
  case e => exact rfl
  case a => rfl
  case b => decide
  case c => decide
  case d => rfl
  case f => exact ⟨_, rfl, rfl⟩
  case g => exact fun _ _ _ _ _ _ _ _ _ _ _ _ h => by subst h; rfl
  case h1 => rfl
  case h2 => rfl
  case h3 => rfl
  case h4 => decide
  case h5 => rfl
  case h6 => rfl
  case h7 => rfl
end PM

namespace PM
open PySem PySem.Spec PyProof.Rows L2 Q2
/-! ### t[::-1] of a pair -/
def mRevT (m : ME) : ME := fun Γ S => (m Γ S).bind fun v S1 => match v with
  | .tup xs => match xs with
    | [x, y] => .ok (.tup [y, x]) S1
    | _ => .bad
  | _ => .bad
theorem pm_revT {X : Cx} {W : XW} {e : Expr} {m : ME} {k : Nat} {p1 p2 p3 pos : Pos} (h : PM X W e m) : PM X W (.Subscript e (.Slice none none (some (.UnaryOp .USub (.Constant (.int 1) k p1) p2)) p3) pos) (mRevT m) := by
  refine pe_imp (pe_revT h) fun σ H Q ⟨ρ, Γ, S, R, G, q⟩ => ?_
  refine ⟨ρ, Γ, S, R, G, q.bind fun v S1 ρ1 H1 x E1 R1 rx q1 => ?_⟩
  cases v with
  | tup xs =>
    match xs, rx, q1 with
    | [], _, q1 => exact q1.elim
    | [_], _, q1 => exact q1.elim
    | _ :: _ :: _ :: _, _, q1 => exact q1.elim
    | [u, v], rx, q1 =>
      obtain ⟨a, ws, rfl, h1, w1, _, rfl, r1, w2, _, rfl, r2, rfl⟩ := rx
      refine ⟨a, w1, w2, rfl, h1, fun p hp => ?_⟩
      obtain ⟨E, R2⟩ := R1.own (o := .tup [w2, w1]) hp
      exact q1 ρ1 _ _ E R2 ⟨p, [w2, w1], rfl, SqT.of upd_same, Rvs.cons (r2.ext E) (Rvs.cons (r1.ext E) rfl)⟩
  | _ => exact q1.elim
end PM

/-! a lambda handed to a def: with a default that its body does not use, or without -/
namespace Q4
open PySem PySem.Spec PyProof.Rows L2 LamX
/-- the lambda's names: captured ones, globals, and own ones that nobody else has -/
structure LamN (sc scope : Scope) (N : List Str) : Prop where
  kd : scope.kind = .function
  co : scope.isCoroutine = false
  ge : scope.isGenerator = false
  nc : ∀ y ∈ scope.names, y.2 ≠ .cell
  off : ∀ y ∈ scope.names, y.2 = .local → y.1 ∉ N
  fr : ∀ y ∈ scope.names, y.2 = .free → sc.names.lookup y.1 = some .cell ∨ sc.names.lookup y.1 = some .free
def lamNB (sc scope : Scope) (N : List Str) : Bool :=
  decide (scope.kind = .function) && !scope.isCoroutine && !scope.isGenerator && scope.names.all fun y => !decide (y.2 = .cell) && (!decide (y.2 = .local) || !decide (y.1 ∈ N)) && (!decide (y.2 = .free) || decide (sc.names.lookup y.1 = some .cell) || decide (sc.names.lookup y.1 = some .free))
theorem lamN_by {sc scope : Scope} {N : List Str} (h : lamNB sc scope N = true) : LamN sc scope N := by
  unfold lamNB at h
  simp only [Bool.and_eq_true, Bool.or_eq_true, Bool.not_eq_true', decide_eq_true_eq, decide_eq_false_iff_not, List.all_eq_true] at h
  obtain ⟨⟨⟨a1, a2⟩, a3⟩, a4⟩ := h
  refine ⟨a1, a2, a3, fun y m => (a4 y m).1.1, fun y m e => ?_, fun y m e => ?_⟩
  · exact (a4 y m).1.2.resolve_left fun z => z e
  · rcases (a4 y m).2 with (z | z) | z
    · exact absurd e z
    · exact .inl z
    · exact .inr z
theorem LamN.has {X : Cx} {scope : Scope} (L : LamN X.env.scope scope X.N) (ok : X.Ok) : ∀ y ∈ scope.names, y.2 = .free → ∃ c, X.env.cells.lookup y.1 = some c := fun y m e => (L.fr y m e).elim (fun k => ok.has _ (.inl k)) fun k => ok.has _ (.inr k)
/-- its parameters: none, or one with an int as default -/
inductive LamD (params : Arguments) (body : Expr) (scope : Scope) : Prop
  | zero (h1 : params.defaults = []) (h2 : params.kw_defaults = []) (h3 : ∀ (q : Str) (cl : List (Str × Addr)) (doc pm cv ct : Value), bindArgs (PySem.W.kdv_fn "<lambda>" q params (.expr body) scope cl .none doc pm cv ct) ⟨[], []⟩ = pure [])
  | one {i : Int} {j : Nat} {p : Pos} {n : Str} (h1 : params.defaults = [.Constant (.int i) j p]) (h2 : params.kw_defaults = []) (h3 : scope.names.lookup n = some .local)
      (h4 : ∀ (q : Str) (cl : List (Str × Addr)) (d : Addr) (doc pm cv ct : Value), ∃ k : Option (Array Value) → Sem (List (Str × Value)), bindArgs (PySem.W.kdv_fn "<lambda>" q params (.expr body) scope cl (.ref d) doc pm cv ct) ⟨[], []⟩ = seqItems? (.ref d) >>= k ∧ ∀ v, k (some #[v]) = pure [(n, v)])
/-- the defaults of the made one -/
def DvA (X : Cx) (H : Hp) (h : Heap) (params : Arguments) (dV : Value) : Prop := (params.defaults = [] ∧ dV = .none) ∨ ∃ (d : Addr) (v : Value), params.defaults ≠ [] ∧ dV = .ref d ∧ h.get? d = some (PySem.W.kdv_tup [v]) ∧ H d = none ∧ d ∉ frs X.stack
/-- the table at P: what it tells bears the name q -/
def TabK (H : Hp) (P : Addr) (q : Str) (ps : Array Value) : Prop := H P = some (.tbl ps) ∧ TriplesOk ps.toList ∧ ∀ (pos : Pos) (cv : Value), codeAmong pos ps.toList = some cv → ∃ c, cv = .ref c ∧ H c = some (CodeO c q)
/-- what the making of a lambda leaves: its code object stood, or is new and told by the table -/
def LamH (P : Addr) (q : Str) (ps : Array Value) (H H1 : Hp) (c' : Addr) : Prop := H1 c' = some (CodeO c' q) ∧
  ((H1 = H ∧ ∃ pos, codeAmong pos ps.toList = some (.ref c')) ∨ ∃ more : Array Value, H c' = none ∧ H1 = upd (upd H P (.tbl (ps ++ more))) c' (CodeO c' q) ∧ TriplesOk (ps ++ more).toList ∧ ∀ (pos : Pos) (cv : Value), codeAmong pos (ps ++ more).toList = some cv → codeAmong pos ps.toList = some cv ∨ cv = .ref c')
section
variable {X : Cx} {pins : List (Addr × Obj)} {σ : L2.St} {H : Hp} {s : Shared}
abbrev lamObj (X : Cx) (params : Arguments) (body : Expr) (scope : Scope) (dV doc pm : Value) (c' : Addr) (ctv : Value) : Obj := PySem.W.kdv_obj "<lambda>" (X.env.qual ++ "<lambda>") params (.expr body) scope (cloFrom X.env.cells scope.names []) dV doc pm c' ctv
theorem far {f : Addr} (I : Inv X pins σ H s) (hf : s.heap.objs.size ≤ f) : f ∉ frs X.stack := fun z => (List.mem_cons.mp (I.stkSub _ z)).elim (fun e => Nat.lt_irrefl _ (Nat.lt_of_lt_of_le (e ▸ I.lt) hf)) fun e => I.nofs hf e
theorem lam_tail {c P : Addr} {params : Arguments} {body : Expr} {scope : Scope} {pos : Pos} {n : Nat} {dV : Value} {ps : Array Value} {E Q : Value → Shared → Prop} (I : Inv X pins σ H s) (TB : TabB X.base X.mg c P) (hcode : X.env.code = .ref c) (T : TabK H P (X.env.qual ++ "<lambda>") ps)
    (L : LamN X.env.scope scope X.N) (D : DvA X H s.heap params dV)
    (h : ∀ (f c' : Addr) (doc pm ctv : Value) (H1 : Hp) (s' : Shared), Inv X pins σ H1 s' → LamH P (X.env.qual ++ "<lambda>") ps H H1 c' → s'.heap.get? f = some (lamObj X params body scope dV doc pm c' ctv) → H1 f = none → f ∉ frs X.stack → DvA X H1 s'.heap params dV → Q (.ref f) s') :
    wpAny (model X.prog X.w) X.A (makeTail "<lambda>" (X.env.qual ++ "<lambda>") params (.expr body) scope X.env dV .none none pos n) Q E s := by
  obtain ⟨hP, ht, ha⟩ := T
  have gP : s.heap.get? P = some { cls := .none, data := .fields ps } := I.hok P _ hP
  have fre := L.has I.ok
  cases hc : codeAmong pos ps.toList with
  | some cv =>
    obtain ⟨c', rfl, hco⟩ := ha pos cv hc
    refine PySem.W.kdv_makeTailHit (mg := X.mg) (c := c) (P := P) (closure_ok fre) I.ok.glob (I.mod.glob.keeps I.bk) hcode (TB.code.keeps I.bk) gP ht hc (TB.bm.keeps I.bk) fun ctv doc h' tk hx hsz => ?_
    have up : ∀ b o, s.heap.get? b = some o → (h'.push (lamObj X params body scope dV doc ((X.mg "__name__").getD .none) c' ctv)).get? b = some o := fun b o e => Heap.get?_push_of_some _ (hx b o e)
    refine h h'.objs.size c' doc _ ctv H { s with heap := h'.push (lamObj X params body scope dV doc ((X.mg "__name__").getD .none) c' ctv), toks := tk } (I.kept up) ⟨hco, .inl ⟨rfl, pos, hc⟩⟩ (Heap.get?_push_size _ rfl) (I.hok.fresh hsz) (far I hsz) ?_
    rcases D with D | ⟨d, v, d1, d2, d3, d4, d5⟩
    · exact .inl D
    · exact .inr ⟨d, v, d1, d2, up _ _ d3, d4, d5⟩
  | none =>
    refine PySem.W.kdv_makeTail (mg := X.mg) (c := c) (P := P) (closure_ok fre) I.ok.glob (I.mod.glob.keeps I.bk) hcode (TB.code.keeps I.bk) gP ht hc TB.gP (TB.bm.keeps I.bk) fun c' ctv doc h' tk hx hge hlt hrec htb => ?_
    obtain ⟨c2, oc, vs, t, e2, hoc, hd, hv⟩ := hrec
    cases e2
    have hsz : s.heap.objs.size ≤ h'.objs.size := Nat.le_trans hge (Nat.le_of_lt hlt)
    have nC : H c' = none := I.hok.fresh hge
    have pu : ∀ b o, h'.get? b = some o → (h'.push (lamObj X params body scope dV doc ((X.mg "__name__").getD .none) c' ctv)).get? b = some o := fun b o e => Heap.get?_push_of_some _ e
    have I1 := inv_table (q := X.env.qual ++ "<lambda>") (t' := tk) (more := #[rawInt pos.line, rawInt pos.col, .ref c']) (h' := h'.push (lamObj X params body scope dV doc ((X.mg "__name__").getD .none) c' ctv)) I hP (fun b o hb e => pu b o (hx b o hb e)) (pu _ _ htb) hge ⟨oc, vs, t, pu _ _ hoc, hd, hv⟩
    have el : (ps ++ #[rawInt pos.line, rawInt pos.col, .ref c']).toList = ps.toList ++ [rawInt pos.line, rawInt pos.col, .ref c'] := by simp
    have fN : ∀ b, H b = none → b ≠ c' → upd (upd H P (.tbl (ps ++ #[rawInt pos.line, rawInt pos.col, .ref c']))) c' (CodeO c' (X.env.qual ++ "<lambda>")) b = none := fun b e z => by
      rw [upd_ne z, upd_ne (fun y => by rw [y, hP] at e; cases e)]
      exact e
    refine h h'.objs.size c' doc _ ctv _ _ I1 ⟨upd_same, .inr ⟨_, nC, rfl, by rw [el]; exact PySem.TriplesOk_snoc _ _ _ _ ht, fun p2 cv z => ?_⟩⟩ (Heap.get?_push_size _ rfl) (fN _ (I.hok.fresh hsz) (Nat.ne_of_gt hlt)) (far I hsz) ?_
    · rw [el] at z
      exact among_app _ ht z
    · rcases D with D | ⟨d, v, d1, d2, d3, d4, d5⟩
      · exact .inl D
      · have dl := Heap.lt_size d3
        have dP : d ≠ P := fun z => by rw [z, hP] at d4; cases d4
        exact .inr ⟨d, v, d1, d2, pu _ _ (hx _ _ dP d3), fN _ d4 (Nat.ne_of_lt (Nat.lt_of_lt_of_le dl hge)), d5⟩
end
end Q4

namespace Q4
open PySem PySem.Spec PyProof.Rows L2 LamX
section
variable {X : Cx} {pins : List (Addr × Obj)} {σ : L2.St} {H HZ : Hp} {s s1 : Shared}
theorem lam_eval {c P : Addr} {params : Arguments} {body : Expr} {scope : Scope} {pos : Pos} {ps : Array Value} {Q : Value → Shared → Prop} (I : Inv X pins σ H s) (TB : TabB X.base X.mg c P) (hcode : X.env.code = .ref c) (T : TabK H P (X.env.qual ++ "<lambda>") ps)
    (L : LamN X.env.scope scope X.N) (D : LamD params body scope)
    (h : ∀ (f c' : Addr) (dV doc pm ctv : Value) (H1 : Hp) (s' : Shared), Inv X pins σ H1 s' → LamH P (X.env.qual ++ "<lambda>") ps H H1 c' → s'.heap.get? f = some (lamObj X params body scope dV doc pm c' ctv) → H1 f = none → f ∉ frs X.stack → DvA X H1 s'.heap params dV → Q (.ref f) s') :
    wpAny (model X.prog X.w) X.A (eval (.Lambda params body scope pos) X.env) Q X.xe s := by
  cases D with
  | zero h1 h2 h3 =>
    refine PySem.W.kla_eval (by rw [defaultsOf_eq, h1, h2] <;> rfl) ?_
    rw [makeFunction_eq]
    simp only [List.zip_nil_right, List.filterMap_nil, List.isEmpty_nil, if_true, pure_bind]
    exact lam_tail I TB hcode T L (.inl ⟨h1, rfl⟩) fun f c' doc pm ctv H1 s' => h f c' .none doc pm ctv H1 s'
  | @one i j p n h1 h2 h3 h4 =>
    refine PySem.W.kdv_lam (by rw [h1] <;> rfl) h2 ?_
    rw [h1]
    refine PySem.W.kdv_all1 (thn ((pe_int (X := X) (i := i) (j := j) (pos := p)).run pins s σ H (fun _ H1 => H1 = H) I rfl) fun u s1 ⟨x, H1, I1, _, e⟩ => PySem.W.kdv_all0 ?_)
    subst e
    rw [makeFunction_eq]
    simp only [List.zip_nil_right, List.filterMap_nil, List.isEmpty_nil, List.isEmpty_cons, if_true, pure_bind, Bool.false_eq_true, if_false]
    refine wpAny_bind (wpAny_newTextTuple ?_)
    have I2 : Inv X pins σ H1 { s1 with heap := s1.heap.push (PySem.W.kdv_tup [u]) } := I1.kept (t' := s1.toks) fun b o e => Heap.get?_push_of_some _ e
    exact lam_tail I2 TB hcode T L (.inr ⟨s1.heap.objs.size, u, by rw [h1]; simp, rfl, Heap.get?_push_size _ rfl, I1.hok.fresh (Nat.le_refl _), far I1 (Nat.le_refl _)⟩) fun f c' doc pm ctv H2 s' => h f c' _ doc pm ctv H2 s'
/-- the body is entered: what the lambda captured stands -/
theorem lam_in {A : Around} {outer : List Env} {E : XK} {scope : Scope} {f c' : Addr} {h₁ : Heap} {tk : Nat} {bs : List (Str × Value)} (I : Inv X pins σ H s) (L : LamN X.env.scope scope X.N) (e0 : Env0 X.prog X.w X.K X.mg X.base A outer s1 HZ) (hd : A.handled = none)
    (un : Un (frs X.stack) [] H HZ s.heap s1.heap) (hns : h₁.Ns s1.heap.objs.size fun y => bs.reverse.lookup y) (kp : ∀ b o, s1.heap.get? b = some o → h₁.get? b = some o) : Inv (lamCx X A outer s1 HZ E scope f c') [] σ HZ { s1 with heap := h₁, toks := tk } := by
  have fre := L.has I.ok
  have cm : ∀ {y c}, (cloFrom X.env.cells scope.names []).lookup y = some c → X.env.cells.lookup y = some c := fun {y c} e => (cloFrom_mem (PySem.mem_of_lookup e)).elim (fun z => nomatch z) fun ⟨z1, z2⟩ => by
    obtain ⟨d, hd'⟩ := fre _ z1 rfl
    have hd' : X.env.cells.lookup y = some d := hd'
    rw [hd'] at z2
    have z2 : c = d := z2
    rw [z2]
    exact hd'
  have lk : ∀ {y}, scope.names.lookup y = some .free → ∃ c, (cloFrom X.env.cells scope.names []).lookup y = some c := fun {y} z => mem_lookup (cloFrom_has (cells := X.env.cells) (acc := []) (show (y, NameKind.free) ∈ scope.names from PySem.mem_of_lookup z))
  have ck : ∀ {c : Addr} {v : Option Value}, H c = none → s.heap.IsCell c v → h₁.IsCell c v := fun {c v} n ⟨o, ho, hd⟩ => by
    obtain ⟨sl, q⟩ := un.any ho n (by simp)
    exact ⟨_, kp _ _ q, hd⟩
  have nx : ∀ b : Addr, b ∉ (lamCx X A outer s1 HZ E scope f c').ex := fun b z => nomatch (show b ∈ ([] : List Addr) from z)
  refine ⟨⟨e0.mod, L.kd, rfl, rfl, Nat.le_refl _, fun y z c e1 e2 => I.ok.inj y z c (cm e1) (cm e2), ?has, ?fn, fun _ => hd, Around.frames_deeper e0.frames, .inr ⟨rfl, rfl⟩, fun b z => absurd z (nx b), e0.bs, e0.bsz, fun b _ _ => nx b, fun b z => absurd z (nx b), e0.funs, e0.frf⟩, rfl, e0.bare, Un.kept kp, ⟨_, hns, ?loc⟩, ?cell, e0.hok.fresh (Nat.le_refl _), ?freeC, fun q hq => absurd (show q ∈ ([] : List (Addr × Obj)) ++ [] from hq) (by simp), e0.hok.kept kp, I.len⟩
  case has => exact fun y z => (show scope.names.lookup y = some .cell ∨ scope.names.lookup y = some .free from z).elim (fun z => absurd rfl (L.nc _ (PySem.mem_of_lookup z))) lk
  case fn => exact fun y c z _ => nomatch (show false = true from z)
  case cell => exact fun y c e => let ⟨v, z⟩ := I.cell y c (cm e); ⟨v, ck (I.freeC y c (cm e)) z⟩
  case freeC =>
    intro y c e
    obtain ⟨v, o, ho, _⟩ := I.cell y c (cm e)
    exact un.free c o ho (I.freeC y c (cm e)) (by simp)
  case loc =>
    intro i y v e1 e2 e3
    have e1 : X.N[i]? = some y := e1
    rcases (show Vis scope y from e3) with k | k | k
    · exact absurd (List.mem_of_getElem? e1) (L.off _ (PySem.mem_of_lookup k) rfl)
    · exact absurd rfl (L.nc _ (PySem.mem_of_lookup k))
    · obtain ⟨m, _, hl⟩ := I.loc
      have hv : Vis X.env.scope y := (L.fr _ (PySem.mem_of_lookup k) rfl).elim (fun k => .inr (.inl k)) fun k => .inr (.inr k)
      obtain ⟨u, r, q⟩ := hl i y v e1 e2 hv
      obtain ⟨d, h2⟩ := lk k
      refine ⟨u, r, .inr ⟨.inr k, d, h2, ?_⟩⟩
      rcases q with ⟨k', _⟩ | ⟨_, d', e', z⟩
      · have k' : X.env.scope.names.lookup y = some .local := k'
        rcases L.fr _ (PySem.mem_of_lookup k) rfl with z | z <;> (have z : X.env.scope.names.lookup y = _ := z; rw [z] at k'; cases k')
      · have := (cm h2).symm.trans e'
        cases this
        exact ck (I.freeC y _ (cm h2)) z
end
end Q4

namespace Q4
open PySem PySem.Spec PyProof.Rows L2 LamX
section
variable {X : Cx} {pins : List (Addr × Obj)} {σ : L2.St} {H : Hp} {s : Shared}
theorem lam_binds {params : Arguments} {body : Expr} {scope : Scope} {dV doc pm cv ct : Value} {q : Str} {cl : List (Str × Addr)} {H1 : Hp} {s1 : Shared} (D : LamD params body scope) (dv : DvA X H s.heap params dV) (keep : ∀ d o, s.heap.get? d = some o → H d = none → d ∉ frs X.stack → s1.heap.get? d = some o) :
    ∃ bs : List (Str × Value), BindsTo s1 (PySem.W.kdv_fn "<lambda>" q params (.expr body) scope cl dV doc pm cv ct) ⟨[], []⟩ bs ∧ ∀ y ∈ bs, scope.names.lookup y.1 = some .local := by
  cases D with
  | zero h1 h2 h3 =>
    rcases dv with ⟨_, rfl⟩ | ⟨d, v, n, _⟩
    · exact ⟨[], .of_eq (h3 q cl doc pm cv ct), fun y z => nomatch z⟩
    · exact absurd h1 n
  | @one i j p n h1 h2 h3 h4 =>
    rcases dv with ⟨e, _⟩ | ⟨d, v, _, rfl, e1, e2, e3⟩
    · rw [h1] at e; cases e
    · obtain ⟨k, k1, k2⟩ := h4 q cl d doc pm cv ct
      exact ⟨[(n, v)], BindsTo.of_defaults (T := d) rfl (keep d _ e1 e2 e3) rfl k1 (k2 v), fun y z => by rw [List.mem_singleton.mp z]; exact h3⟩
theorem lam_act {CXg : CXT} {Eg : XK} {Ng : List Str} {qg : Str} {sg : Scope} {g f c' : Addr} {cdg doc pm ctv dV : Value} {params : Arguments} {body : Expr} {scope : Scope} {k i : Nat} {a : Str} {pn : List (Addr × Obj)} {xe : Value → Shared → Prop} {W : WX} {E : XK} {tb : TE} {p1 p2 : Pos}
    (I : Inv X pins σ H s) (L : LamN X.env.scope scope X.N) (D : LamD params body scope) (dv : DvA X H s.heap params dV) (hf : s.heap.get? f = some (lamObj X params body scope dV doc pm c' ctv)) (hfn : H f = none) (hfr : f ∉ frs X.stack)
    (tk : Takes ((cxOf CXg X.prog X.w X.K X.mg X.base Ng qg sg g cdg X.A X.stack s H Eg).tr pn xe) W) (hW : ∀ cls d σ' H', E cls d H' → W cls d σ' H') (hr : Room (k + 1) (X.A.deeper (envOfC qg sg s.heap.objs.size g cdg)))
    (hbody : ∀ (A : Around) (outer : List Env) (s2 : Shared) (H2 : Hp), Room k (A.deeper (lamEnv X scope s2.heap.objs.size f c')) → PE (lamCx X A outer s2 H2 E scope f c') body tb)
    (hN : Ng[i]? = some a) (hv : Vis sg a) (hd : (a == ("__debug__" : Str)) = false := by decide) (hcd : (a == ("__classdict__" : Str)) = false := by decide) :
    PE ((cxOf CXg X.prog X.w X.K X.mg X.base Ng qg sg g cdg X.A X.stack s H Eg).tr pn xe) (.Call (.Name a p1) [] [] p2) (fun σZ HZ Q => σZ[i]? = some (some (.ref f)) ∧ HZ c' = some (CodeO c' (X.env.qual ++ "<lambda>")) ∧ tb σ HZ Q) := by
  refine ⟨fun pz sZ σZ HZ Q IZ ⟨hs, hc, ht⟩ => ?_⟩
  refine wpAny_Call_Name_kw (thn ((pe_var (pos := p1) (i := i) hN hv hd hcd).run pz sZ σZ HZ (fun v H1 => v = .ref f ∧ H1 = HZ) IZ ⟨.ref f, hs, rfl, rfl⟩) fun u s1 ⟨v, H1, I1, r1, ev, eH⟩ => ?_)
  subst ev
  rw [eH] at I1
  obtain rfl : u = Value.ref f := r1
  have keep : ∀ d o, s.heap.get? d = some o → H d = none → d ∉ frs X.stack → s1.heap.get? d = some o := fun d o e n m => I1.base.keep d _ e n m (fun z => nomatch (show d ∈ ([] : List Addr) from z))
  have of1 := keep f _ hf hfn hfr
  refine PySem.W.callWith_F0 ⟨_, _, _, _, of1⟩ ?_
  obtain ⟨⟨oc, vs, t, hoc, hdc, hvc⟩, _, _⟩ := I1.hok c' _ hc
  obtain ⟨bs, hb, hbl⟩ := lam_binds (q := X.env.qual ++ "<lambda>") (cl := cloFrom X.env.cells scope.names []) (doc := doc) (pm := pm) (cv := .ref c') (ct := ctv) (s1 := s1) (H1 := HZ) D dv keep
  have go : codeAny (model X.prog X.w) (X.A.deeper (envOfC qg sg s.heap.objs.size g cdg)) (.call (.ref f) ⟨[], []⟩) (CR (L2.CX X.prog X.w) (envOfC qg sg s.heap.objs.size g cdg :: X.stack) X.prog X.w HZ s1 Q E) s1 := by
    refine PySem.W.kla_callFunE hr.depth of1 rfl L.co L.ge rfl ⟨c', oc, vs, t, rfl, hoc, hdc, hvc⟩ (hb _ _ _ _ ?_)
    refine wpAny_newFunctionEnv L.nc hbl (fun h₁ hns hsb => ⟨I1.nolimit.fresh _ hsb, ?_⟩) L.kd
    show codeAny _ _ (.expr body (lamEnv X scope s1.heap.objs.size f c')) _ _
    have up : ∀ b o, s1.heap.get? b = some o → h₁.get? b = some o := fun b o e => hsb.extBut b o (Nat.ne_of_lt (Heap.lt_size e)) (Heap.get?_push_of_some _ e)
    have J : Inv (lamCx X (X.A.deeper (envOfC qg sg s.heap.objs.size g cdg)) (envOfC qg sg s.heap.objs.size g cdg :: X.stack) s1 HZ E scope f c') [] σ HZ { s1 with heap := h₁, toks := s1.toks + bs.length } := lam_in I L I1.env0 hr.hd I1.base hns up
    refine PySem.W.kla_codeExpr (wpAny_mono ((hbody _ _ s1 HZ (hr.deeper _)).run [] _ _ HZ Q J ht) (fun v s' ⟨w', H', J', rv, q⟩ => ⟨w', H', J'.os, J'.bare, J'.base, J'.hok, rv, q⟩) fun e s' z => z)
  refine wpAny_call (codeAny_mono go fun r s' z => ?_)
  cases r with
  | error e => exact passes_call tk hW pz σZ HZ s1 e s' I1 z
  | ok fl =>
    cases fl with
    | ret u => exact I1.after z
    | _ => exact False.elim z
end
/-- what a def makes of the lambda that it is handed -/
def Gives (X : Cx) (Ng : List Str) (x : Str) (sg : Scope) (g : Addr) (cdg : Value) (bg : List Stmt) (a : Str) (q : Str) (TT : (XK → Hp → VK → Prop) → Hp → VK → Prop) : Prop :=
  ∀ (f c' : Addr) (s : Shared) (H : Hp) (Q : VK) (tl : XK → Hp → VK → Prop),
    (∀ (W : WX) (pn : List (Addr × Obj)) (xe : Value → Shared → Prop) (E : XK) (p1 p2 : Pos), Takes ((cxOf C8.CX0 X.prog X.w X.K X.mg X.base Ng x sg g cdg X.A X.stack s H C8.E0).tr pn xe) W → (∀ cls d σ' H', E cls d H' → W cls d σ' H') →
      PE ((cxOf C8.CX0 X.prog X.w X.K X.mg X.base Ng x sg g cdg X.A X.stack s H C8.E0).tr pn xe) (.Call (.Name a p1) [] [] p2) (fun σZ HZ Q => σZ[0]? = some (some (.ref f)) ∧ HZ c' = some (CodeO c' q) ∧ tl E HZ Q)) →
    H c' = some (CodeO c' q) → TT tl H Q → ∃ t, PSs (cxOf C8.CX0 X.prog X.w X.K X.mg X.base Ng x sg g cdg X.A X.stack s H C8.E0).nox bg t ∧ t { nx := fun _ H' => Q .non H', rt := Q } (L2.start Ng [.ref f]) H
/-- x(lambda: body) -/
def tLamC (P : Addr) (q : Str) (TT : (XK → Hp → VK → Prop) → Hp → VK → Prop) (t : XK → TE) : TE := fun σ H Q => ∃ ps, TabK H P q ps ∧ ∀ H1 c', LamH P q ps H H1 c' → TT (fun E H' Q' => t E σ H' Q') H1 Q
theorem pe_lamC {X : Cx} {TT : (XK → Hp → VK → Prop) → Hp → VK → Prop} {x a : Str} {g c P : Addr} {k : Nat} {pg : Arguments} {bg : List Stmt} {sg : Scope} {dV kV doc pm cdv ct oc : Value} {an od : Option Addr} {osl : Array (Option Value)} {Ng : List Str}
    {params : Arguments} {body : Expr} {scope : Scope} {t : XK → TE} {p lpos pos : Pos} (hg : Gl X x) (hm : X.mg x = some (.ref g)) (hk : PySem.W.keepIn X.K (.ref g) = true)
    (lk : X.K.lookup g = some ⟨oc, od, .func (PySem.W.fnOf x x pg bg sg dV kV doc pm an cdv ct), osl⟩) (hcg : PySem.W.codeIn X.K cdv x = true) (hb : L2.Binds X.K (PySem.W.fnOf x x pg bg sg dV kV doc pm an cdv ct) [a] []) (Sg : FnScope Ng [a] sg) (hNg : Ng[0]? = some a) (hva : Vis sg a)
    (hG : Gives X Ng x sg g cdv bg a (X.env.qual ++ "<lambda>") TT) (TB : TabB X.base X.mg c P) (hcode : X.env.code = .ref c) (hr : Room (k + 2) X.A) (L : LamN X.env.scope scope X.N) (D : LamD params body scope)
    (hbody : ∀ (A : Around) (outer : List Env) (s : Shared) (H : Hp) (E : XK) (f c' : Addr), Room k (A.deeper (lamEnv X scope s.heap.objs.size f c')) → PE (lamCx X A outer s H E scope f c') body (t E))
    (hdb : (x == ("__debug__" : Str)) = false := by decide) (hd : (a == ("__debug__" : Str)) = false := by decide) (hcd : (a == ("__classdict__" : Str)) = false := by decide) :
    PE X (.Call (.Name x p) [.Lambda params body scope lpos] [] pos) (tLamC P (X.env.qual ++ "<lambda>") TT t) := by
  refine ⟨fun pins s σ H Q I ⟨ps, hT, h⟩ => wpAny_Call_Name_kw (ld_glob I hg hm (PySem.W.callWith_K (h₀ := X.base) I.ok.mod.kin hk ?_ (by rfl) (by rfl)) hdb)⟩
  show wpAny _ _ (spliced ((false, eval (.Lambda params body scope lpos) X.env) :: backTo pos (starEach [] X.env))) _ _ s
  refine Calls.spliced_cons (lam_eval I TB hcode hT L D fun f c' dV' doc' pm' ctv H1 s' I1 lh hf hfn hfr dv => Calls.spliced_nil ⟨I1.kIn, ?_⟩)
  have go : codeAny (model X.prog X.w) X.A (.call (.ref g) ⟨[.ref f], []⟩) (CR C8.CX0 X.stack X.prog X.w H1 s' Q C8.E0) s' := by
    refine run_ofS (N := Ng) (ps := [a]) (us := [.ref f]) (vs := [.ref f]) lk hcg Sg hr I1.env0 (hb s' [.ref f] I1.kIn rfl) (.cons rfl .nil) rfl fun hr' => ?_
    obtain ⟨t', a1, a2⟩ := hG f c' s' H1 Q (fun E H' Q' => t E σ H' Q') (fun W pn xe E p1 p2 tk hW => lam_act (i := 0) I1 L D dv hf hfn hfr tk hW hr' (fun A outer s H hr2 => hbody A outer s H E f c' hr2) hNg hva hd hcd) lh.1 (h H1 c' lh)
    exact ⟨t', a1.nox, a2⟩
  refine wpAny_call (codeAny_mono go fun r s2 z => ?_)
  cases r with
  | error e => exact (show False from z).elim
  | ok fl =>
    cases fl with
    | ret u => exact I1.after z
    | _ => exact False.elim z
end Q4

namespace PM
open PySem PySem.Spec PyProof.Rows L2 Q2
/-! ### x(lambda: e) -/
/-- the table of a def's lambdas stands in the store -/
def hasT (x : Str) (S : Sto) : Bool := S.any fun o => match o with
  | .tbl q => decide (q = x)
  | _ => false
def mLam (x : Str) (ms : Res Va → Res Va) (e : ME) : ME := fun Γ S => if hasT x S = true then noX (ms (e Γ S)) else .bad
/-- what the def makes of the lambda's result -/
def ttm (K : KX) (mg : Str → Option Value) (ms : Res Va → Res Va) : (XK → Hp → VK → Prop) → Hp → VK → Prop := fun tl H Q => ∃ ρ S r, RS K ρ S H ∧ (∀ E Q', Aft K (xwE mg E) [] (Rv K) Q' ρ H r → tl E H Q') ∧ Aft K WF [] (Rv K) Q ρ H (ms r)
theorem Aft.noW {K : KX} {W W' : XW} {σ σ' : L2.St} {Q : VK} {ρ : List Addr} {H : Hp} {r : Res Va} (h : Aft K W σ (Rv K) Q ρ H (PM.noX r)) : Aft K W' σ' (Rv K) Q ρ H r := by
  cases r with
  | ok v S => exact h
  | bad => exact h
  | ex c f v S => exact h.elim
theorem hasT_at {x : Str} {S : Sto} (h : hasT x S = true) : ∃ j : Nat, S[j]? = some (Ob.tbl x) := by
  unfold hasT at h
  obtain ⟨o, ho, e⟩ := List.any_eq_true.mp h
  obtain ⟨j, hj⟩ := List.mem_iff_getElem?.mp ho
  cases o with
  | tbl q =>
    have e : q = x := by simpa using e
    subst e
    exact ⟨j, hj⟩
  | _ => cases e
theorem hasT_of {x : Str} {S : Sto} {j : Nat} (h : S[j]? = some (Ob.tbl x)) : hasT x S = true := by
  unfold hasT
  exact List.any_eq_true.mpr ⟨_, List.mem_of_getElem? h, by simp⟩
/-- the table is written, a code object is new: what stood in the store stands -/
theorem RS.tab {K : KX} {ρ : List Addr} {S : Sto} {H H1 : Hp} {x : Str} {j : Nat} {P c' : Addr} {ps : Array Value} (R : RS K ρ S H) (hj : S[j]? = some (Ob.tbl x)) (hP : ρ[j]? = some P) (hp : H P = some (.tbl ps)) (L : Q4.LamH P (lamQ x) ps H H1 c') : Ext ρ ρ H H1 ∧ RS K ρ S H1 := by
  obtain ⟨hc, h⟩ := L
  rcases h with ⟨rfl, _⟩ | ⟨more, nC, rfl, tr, am⟩
  · exact ⟨R.refl, R⟩
  · have inP : P ∈ ρ := List.mem_of_getElem? hP
    have off : ∀ b, b ≠ P → b ≠ c' → upd (upd H P (.tbl (ps ++ more))) c' (LamX.CodeO c' (lamQ x)) b = H b := fun b h1 h2 => by rw [upd_ne h2, upd_ne h1]
    have E : Ext ρ ρ H (upd (upd H P (.tbl (ps ++ more))) c' (LamX.CodeO c' (lamQ x))) := ⟨R.nt, ⟨[], by simp⟩, fun b o e n => by rw [off b (fun z => n (z ▸ inP)) (ne_of_none e nC)]; exact e, fun b h n => absurd h n⟩
    have nPc : P ≠ c' := ne_of_none hp nC
    refine ⟨E, R.len, R.nd, fun n a o h1 h2 => ?_⟩
    by_cases e : n = j
    · subst e
      obtain rfl : a = P := Option.some.inj (h1.symm.trans hP)
      obtain rfl : o = Ob.tbl x := Option.some.inj (h2.symm.trans hj)
      obtain ⟨ps', g1, g2, g3, g4⟩ := R.at_ n a _ h1 h2
      obtain rfl : ps' = ps := by
        have := g1.symm.trans hp
        injection this with this
        injection this
      refine ⟨ps' ++ more, by rw [upd_ne nPc, upd_same], tr, fun pos cv z => ?_, g4⟩
      rcases am pos cv z with z | z
      · obtain ⟨c0, z1, z2, z3⟩ := g3 pos cv z
        refine ⟨c0, z1, z2, ?_⟩
        rw [off c0 (fun y => z2 (y ▸ inP)) (ne_of_none z3 nC)]
        exact z3
      · exact ⟨c', z, R.fresh nC, upd_same⟩
    · have na : a ≠ P := fun z => by
        subst z
        obtain ⟨i1, e1⟩ := List.getElem?_eq_some_iff.mp h1
        obtain ⟨i2, e2⟩ := List.getElem?_eq_some_iff.mp hP
        exact e ((List.getElem_inj R.nd).mp (e1.trans e2.symm))
      have ro := R.at_ n a o h1 h2
      obtain ⟨u, hu, _⟩ := ro.nt
      exact ro.ext E (off a na (ne_of_none hu nC))
theorem pm_lam {X : Cx} {W : XW} {x g a : Str} {ga c P : Addr} {fd : FuncData} {st : Stmt} {Ng : List Str} {k : Nat} {ms : Res Va → Res Va} {e : ME} {params : Arguments} {body : Expr} {scope : Scope} {p lpos pos : Pos}
    (hx : X.env.qual = x ++ ".<locals>.") (hcode : X.env.code = .ref c) (ht : PySem.W.tabIn X.K x = some (c, P)) (TB : LamX.TabB X.base X.mg c P) (hg : Gl X g) (gl : X.mg g = some (.ref ga)) (F : FnP X.K g st ga fd) (bd : Binds X.K fd [a] []) (sc : FnScope Ng [a] (defScope st)) (hNg : Ng[0]? = some a) (hva : Vis (defScope st) a)
    (hG : ∀ cdv, Q4.Gives X Ng g (defScope st) ga cdv (defBody st) a (X.env.qual ++ "<lambda>") (ttm (kxOf X) X.mg ms)) (hr : Room (k + 2) X.A) (L : Q4.LamN X.env.scope scope X.N) (D : Q4.LamD params body scope)
    (hbody : ∀ (A : Around) (outer : List Env) (s : Shared) (H : Hp) (E : XK) (f c' : Addr), Room k (A.deeper (LamX.lamEnv X scope s.heap.objs.size f c')) → Takes (LamX.lamCx X A outer s H E scope f c') (wx X.mg (xwE X.mg E)) → PM (LamX.lamCx X A outer s H E scope f c') (xwE X.mg E) body e)
    (hdb : (g == ("__debug__" : Str)) = false := by decide) (hd : (a == ("__debug__" : Str)) = false := by decide) (hcd : (a == ("__classdict__" : Str)) = false := by decide) :
    PM X W (.Call (.Name g p) [.Lambda params body scope lpos] [] pos) (mLam x ms e) := by
  obtain ⟨oc, od, kV, doc, pm, an, cdv, ct, osl, rfl, lk, hcg⟩ := F.ex
  refine pe_imp (Q4.pe_lamC (t := fun E => tM (kxOf X) (xwE X.mg E) e) hg gl F.kp lk hcg bd sc hNg hva (hG cdv) TB hcode hr L D (fun A outer s H E f c' hr2 => hbody A outer s H E f c' hr2 ?_) hdb hd hcd) fun σ H Q ⟨ρ, Γ, S, R, G, q⟩ => ?_
  · exact (takes_of (X := LamX.lamCx X A outer s H E scope f c') (E := E) rfl rfl rfl rfl).imp fun cls d σ H h => by
      obtain ⟨c, dd, h1, rfl, h2⟩ := h
      exact h2 cls h1
  · unfold mLam at q
    by_cases hT : hasT x S = true
    · rw [if_pos hT] at q
      obtain ⟨j, hj⟩ := hasT_at hT
      obtain ⟨P', hP, ps, g1, g2, g3, c0, g4⟩ := R.adr hj
      have g4 : PySem.W.tabIn X.K x = some (c0, P') := g4
      cases ht.symm.trans g4
      have eq : X.env.qual ++ "<lambda>" = lamQ x := by rw [hx]; rfl
      rw [eq]
      refine ⟨ps, ⟨g1, g2, fun pos cv z => ?_⟩, fun H1 c' lh => ?_⟩
      · obtain ⟨c0, z1, _, z3⟩ := g3 pos cv z
        exact ⟨c0, z1, z3⟩
      · obtain ⟨E1, R1⟩ := R.tab hj hP g1 lh
        refine ⟨ρ, S, e Γ S, R1, fun E Q' aft => ⟨ρ, Γ, S, R1, G.ext E1, ?_⟩, (q.shift E1).noW⟩
        cases er : e Γ S with
        | bad => rw [er] at aft; exact aft
        | ok v S' => rw [er] at aft; exact aft
        | ex cc f v S' => rw [er] at aft; exact aft
    · rw [if_neg hT] at q
      exact q.elim
end PM

namespace PM
open PySem PySem.Spec PyProof.Rows L2 Q2
/-! ### a def that calls what it got, first of all, within try -/
def seqR (k : MS) : Rs → Rs
  | .nx Γ S => k Γ S
  | r => r
def finR : Rs → Res Va
  | .nx _ S => .ok .non S
  | .rt v S => .ok v S
  | .ex c f v _ S => .ex c f v S
  | _ => .bad
inductive AskK where
  | set (i : Nat) | ret | exp
def askR (kd : AskK) (Γ : En) (r : Res Va) : Rs := thenS Γ r fun v S => match kd with
  | .set i => .nx (Γ.set i (some v)) S
  | .ret => .rt v S
  | .exp => .nx Γ S
def excR (tab : Str → Str → Option Bool) (cl : List Cl) : Rs → Rs
  | .ex c f v Γ S => tryCl tab c f v Γ S cl
  | r => r
/-- n names; the call's place; the clauses; what follows -/
def mSaid (n : Nat) (kd : AskK) (tab : Str → Str → Option Bool) (cl : List Cl) (rest : MS) : Res Va → Res Va := fun r => finR (seqR rest (excR tab cl (askR kd (List.replicate n none) r)))
theorem fin_aft {K : KX} {Q : VK} {ρ : List Addr} {H : Hp} {r : Rs} (h : Aft K WF [] (Rv K) Q ρ H (finR r)) : AftS K WF { nx := fun _ H' => Q .non H', rt := Q } ρ H r := by
  cases r with
  | bad => exact h
  | nx Γ' S' => exact fun ρ' H' σ' E' R' G' => h ρ' H' .non E' R' rfl
  | rt v S' => exact h
  | bk Γ' S' => exact h.elim
  | ct Γ' S' => exact h.elim
  | ex c f v Γ' S' => exact fun ρ' H' σ' w d E' R' G' rv hd => h ρ' H' w d E' R' rv hd
theorem seq_aft {K : KX} {W : XW} {D : Ends} {ρ : List Addr} {H : Hp} {k : MS} {r : Rs} (h : AftS K W D ρ H (seqR k r)) : AftS K W { D with nx := tMS K W k D } ρ H r := by
  cases r with
  | nx Γ' S' => exact fun ρ' H' σ' E' R' G' => ⟨ρ', Γ', S', R', G', h.shift E'⟩
  | bad => exact h
  | rt v S' => exact h
  | bk Γ' S' => exact h
  | ct Γ' S' => exact h
  | ex c f v Γ' S' => exact h
theorem re0 {K : KX} {ρ : List Addr} {H : Hp} {n : Nat} {σ : L2.St} (h : σ.length = n) : RE K ρ H (List.replicate n none) σ := ⟨by simp [h], fun i v e => by
  rw [List.getElem?_replicate] at e
  split at e <;> cases e⟩
theorem takes_len {X : Cx} {W : WX} (t : Takes X W) : Takes X fun c d σ H => σ.length = X.N.length → W c d σ H := fun u s' ⟨a, B, sI, pins, σ, H, cls, d, e, I, nb, up, sky, na, os, ag, w⟩ => t u s' ⟨a, B, sI, pins, σ, H, cls, d, e, I, nb, up, sky, na, os, ag, w I.len⟩
theorem start_len {N : List Str} {v : V} (h : 0 < N.length) : (L2.start N [v]).length = N.length := by
  unfold L2.start
  simp
  omega
section
variable {X : Cx} {Ng : List Str} {x a q : Str} {sg : Scope} {g : Addr} {p1 p2 p3 p4 pos : Pos} {h₀ : ExceptHandler} {hds : List ExceptHandler} {rest : List Stmt} {tab : Str → Str → Option Bool} {cl : List Cl} {mr : MS}
abbrev saidCx (X : Cx) (Ng : List Str) (x : Str) (sg : Scope) (g : Addr) (cdg : Value) (s : Shared) (H : Hp) : Cx := (cxOf C8.CX0 X.prog X.w X.K X.mg X.base Ng x sg g cdg X.A X.stack s H C8.E0).nox
def endK (kd : AskK) (D : Ends) (σ : L2.St) : VK := fun w H2 => match kd with
  | .set i => D.nx (σ.set i (some w)) H2
  | .ret => D.rt w H2
  | .exp => D.nx σ H2
theorem gives_try {kd : AskK} {S1 : Stmt} {cdg : Value} (h0 : 0 < Ng.length)
    (hB : ∀ (s : Shared) (H : Hp) (pn : List (Addr × Obj)) (xe : Value → Shared → Prop) (te : TE), PE ((saidCx X Ng x sg g cdg s H).tr pn xe) (.Call (.Name a p1) [] [] p2) te → ∃ t : TS, PS ((saidCx X Ng x sg g cdg s H).tr pn xe) S1 t ∧ ∀ D σ H', te σ H' (endK kd D σ) → t D σ H')
    (hh : ∀ (s : Shared) (H : Hp), ClM (saidCx X Ng x sg g cdg s H) tab (h₀ :: hds) cl) (hr : ∀ (s : Shared) (H : Hp), PMSs (saidCx X Ng x sg g cdg s H) WF rest mr) (ne : ∀ f : Addr, (L2.start Ng [V.ref f])[0]? = some (some (V.ref f))) :
    Q4.Gives X Ng x sg g cdg (.Try [S1] (h₀ :: hds) [] [] pos :: rest) a q (ttm (kxOf X) X.mg (mSaid Ng.length kd tab cl mr)) := by
  intro f c' s H Q tl act hc ⟨ρ, S, r, R, htl, aq⟩
  obtain ⟨l', k1, k2⟩ := cl_ok (hh s H)
  have aq := seq_aft (fin_aft aq)
  let D1 : Ends := { nx := tMS (kxOf X) WF mr { nx := fun _ H' => Q .non H', rt := Q }, rt := Q }
  let TB : WX → TS := fun V D σ H' => ∃ Ech : XK, (∀ cls d σ' H', Ech cls d H' → σ'.length = Ng.length → V cls d σ' H') ∧ σ[0]? = some (some (.ref f)) ∧ H' c' = some (LamX.CodeO c' q) ∧ tl Ech H' (endK kd D σ)
  refine ⟨_, pss_cons (Q3.ps_try_mix (X := saidCx X Ng x sg g cdg s H) (Wout := wx X.mg WF) (tb := TB) rfl rfl takesF (fun V pn xe tk' po => pss_one ?body) k1) (hr s H), ?_⟩
  case body =>
    refine ⟨fun pins s' σ H' D I ⟨Ech, hW, h1, h2, h3⟩ => ?_⟩
    obtain ⟨t, t1, t2⟩ := hB s H pn xe _ (act (fun c d σ H => σ.length = Ng.length → V c d σ H) pn xe Ech p1 p2 (takes_len tk') (fun cls d σ' H' z => hW cls d σ' H' z))
    exact t1.run pins s' σ H' D I (t2 D σ H' ⟨h1, h2, h3⟩)
  · refine ⟨fun cls d H' => ∀ σ' : L2.St, σ'.length = Ng.length → Q3.wMix X.K (wx X.mg WF) D1 l' cls d σ' H', fun cls d σ' H' z hl => z σ' hl, ne f, hc, htl _ _ ?_⟩
    cases r with
    | bad => exact aq.elim
    | ok v S1 =>
      cases kd with
      | set i =>
        intro ρ' H' w E' R' rv
        exact aq ρ' H' ((L2.start Ng [V.ref f]).set i (some w)) E' R' ((re0 (start_len h0)).set i rv)
      | ret => exact fun ρ' H' w E' R' rv => aq ρ' H' w E' R' rv
      | exp => exact fun ρ' H' w E' R' rv => aq ρ' H' _ E' R' (re0 (start_len h0))
    | ex c fl v S1 =>
      intro ρ' H' w d E' R' rv hd cls hcls σ' hl
      exact k2 WF D1 c fl v _ S1 ρ' H' σ' w d cls hcls R' (re0 hl) rv hd (AftS.shift E' aq)
theorem gives_set {i : Nat} {y : Str} {cdg : Value} (hc : sg.names.lookup y = some .local) (nd : Ng.Nodup) (ix : Ng[i]? = some y) (hs : ∀ (s : Shared) (H : Hp), swapsWith (.Call (.Name a p1) [] [] p2) (some (.Name y p4)) p3.line (saidCx X Ng x sg g cdg s H).env = pure false)
    (hh : ∀ (s : Shared) (H : Hp), ClM (saidCx X Ng x sg g cdg s H) tab (h₀ :: hds) cl) (hr : ∀ (s : Shared) (H : Hp), PMSs (saidCx X Ng x sg g cdg s H) WF rest mr) (ne : ∀ f : Addr, (L2.start Ng [V.ref f])[0]? = some (some (V.ref f))) :
    Q4.Gives X Ng x sg g cdg (.Try [.Assign [.Name y p4] (.Call (.Name a p1) [] [] p2) p3] (h₀ :: hds) [] [] pos :: rest) a q (ttm (kxOf X) X.mg (mSaid Ng.length (.set i) tab cl mr)) :=
  gives_try (p1 := p1) (p2 := p2) (Nat.lt_of_le_of_lt (Nat.zero_le _) (List.getElem?_eq_some_iff.mp ix).1) (fun s H pn xe te he => ⟨_, ps_set (i := i) nd ix (.inl hc) he (hs s H) (.inr hc), fun D σ H' h => h⟩) hh hr ne
theorem gives_ret {cdg : Value} (h0 : 0 < Ng.length) (hh : ∀ (s : Shared) (H : Hp), ClM (saidCx X Ng x sg g cdg s H) tab (h₀ :: hds) cl) (hr : ∀ (s : Shared) (H : Hp), PMSs (saidCx X Ng x sg g cdg s H) WF rest mr) (ne : ∀ f : Addr, (L2.start Ng [V.ref f])[0]? = some (some (V.ref f))) :
    Q4.Gives X Ng x sg g cdg (.Try [.Return (some (.Call (.Name a p1) [] [] p2)) p3] (h₀ :: hds) [] [] pos :: rest) a q (ttm (kxOf X) X.mg (mSaid Ng.length .ret tab cl mr)) :=
  gives_try (p1 := p1) (p2 := p2) h0 (fun s H pn xe te he => ⟨_, ps_ret he, fun D σ H' h => h⟩) hh hr ne
theorem gives_exp {cdg : Value} (h0 : 0 < Ng.length) (hs : ∀ (s : Shared) (H : Hp), swapsWith (.Call (.Name a p1) [] [] p2) none p3.line (saidCx X Ng x sg g cdg s H).env = pure false) (hh : ∀ (s : Shared) (H : Hp), ClM (saidCx X Ng x sg g cdg s H) tab (h₀ :: hds) cl) (hr : ∀ (s : Shared) (H : Hp), PMSs (saidCx X Ng x sg g cdg s H) WF rest mr) (ne : ∀ f : Addr, (L2.start Ng [V.ref f])[0]? = some (some (V.ref f))) :
    Q4.Gives X Ng x sg g cdg (.Try [.Expr (.Call (.Name a p1) [] [] p2) p3] (h₀ :: hds) [] [] pos :: rest) a q (ttm (kxOf X) X.mg (mSaid Ng.length .exp tab cl mr)) :=
  gives_try (p1 := p1) (p2 := p2) h0 (fun s H pn xe te he => ⟨_, ps_expr he (hs s H), fun D σ H' h => h⟩) hh hr ne
end
end PM

namespace PM
open PySem PySem.Spec PyProof.Rows L2 Q2
/-! ### the law, at the top -/
theorem fn_imp {P : Program} {w : World} {K : PySem.W.Frag} {mg : Str → Option Value} {base : Heap} {cx : CXT} {k : Nat} {f : Addr} {fd : FuncData} {ps : List Str} {sp sp' : Sp} (F : FnOk P w K mg base cx k f fd ps sp) (h : ∀ vs H Q E, sp' vs H Q E → sp vs H Q E) : FnOk P w K mg base cx k f fd ps sp' :=
  ⟨fun vs H Q E q => F.len vs H Q E (h _ _ _ _ q), fun A outer s H args us vs Q E hr e0 hb r q => F.run A outer s H args us vs Q E hr e0 hb r (h _ _ _ _ q)⟩
def spTop (K : KX) (g : MF) : Sp := fun vs H Q _ => vs.length = 1 ∧ ∃ as S', Rvs K [] H as vs ∧ g as [] = .ok (.bl true) S' ∧ ∀ H', Q (.bl true) H'
theorem spTop_up {K : KX} {mg : Str → Option Value} {g : MF} : ∀ vs H Q E, spTop K g vs H Q E → spM K mg 1 g vs H Q E := by
  rintro vs H Q E ⟨hl, as, S', r, e, q⟩
  refine ⟨hl, [], [], as, ⟨rfl, List.nodup_nil, fun n a o h _ => by simp at h⟩, r, ?_⟩
  rw [e]
  intro ρ' H' w _ _ rw
  cases rw
  exact q H'
theorem fzl_of {K : PySem.W.Frag} {H : Hp} {a : Addr} {xs : List V} (o : Only H) (h : SqL K H a xs) : FzL K H a xs := by
  rcases h with (h | h) | h
  · rcases o a with z | ⟨_, _, z⟩
    · rw [h] at z; cases z
    · rw [h] at z; cases z
  · exact .inl h
  · exact .inr h
theorem ints_rol {K : KX} {ρ : List Addr} {H : Hp} : ∀ ns : List Int, Rvs K ρ H (ns.map Va.int) (ns.map V.int)
  | [] => rfl
  | n :: ns => Rvs.cons rfl (ints_rol ns)
theorem top_ok {K : KX} {g : MF} (h : ∀ ns : List Int, ns.length ≤ 63 → ∃ S', g [.rol (ns.map Va.int)] [] = .ok (.bl true) S') {H : Hp} {a : Addr} {ns : List Int} (hl : ns.length ≤ 63) (o : Only H) (hs : SqL K.K H a (ns.map V.int)) {E : XK} : spTop K g [.ref a] H (fun v _ => v = .bl true) E := by
  obtain ⟨S', e⟩ := h ns hl
  exact ⟨rfl, [.rol (ns.map Va.int)], S', Rvs.cons (x := .rol (ns.map Va.int)) ⟨a, _, rfl, fzl_of o hs, ints_rol ns⟩ rfl, e, fun _ => rfl⟩
/-- a tuple that stands in the written part -/
theorem tupW {K : KX} {a : Addr} {od : Option Addr} {its : Array Value} {n : Nat} {sl : Array (Option Value)} {xs : List Va} {ws : List V} (h : K.K.lookup a = some ⟨.type "tuple", od, .seq its n, sl⟩) (hl : its.size ≤ sizeLine) (v : Vals ws its.toList) (r : ∀ ρ H, Rvs K ρ H xs ws) : ∀ ρ H, Rv K ρ H (.tup xs) (.ref a) :=
  fun ρ H => ⟨a, ws, rfl, .inr ⟨_, its, n, h, rfl, rfl, hl, v⟩, r ρ H⟩
example {K : KX} {a : Addr} {od : Option Addr} {t1 t2 : Tok} {n : Nat} {sl : Array (Option Value)} (h : K.K.lookup a = some ⟨.type "tuple", od, .seq #[.int 3 t1, .none, .int 2 t2] n, sl⟩) : ∀ ρ H, Rv K ρ H (.tup [.int 3, .non, .int 2]) (.ref a) :=
  tupW (ws := [.int 3, .non, .int 2]) h (Nat.le_of_ble_eq_true rfl) (.cons ⟨_, rfl⟩ (.cons rfl (.cons ⟨_, rfl⟩ .nil))) (fun ρ H => Rvs.cons rfl (Rvs.cons rfl (Rvs.cons rfl rfl)))
end PM

namespace PM
open PySem PySem.Spec PyProof.Rows L2 Q2
/-! ### a def that makes lambdas: its code object is known -/
theorem code_tab {K : PySem.W.Frag} {x : Str} {f : Addr} {oc cdv : Value} {od : Option Addr} {fd : FuncData} {osl : Array (Option Value)} (hn : PySem.W.nsIn K mainGlobals x = some (some (.ref f))) (lk : K.lookup f = some ⟨oc, od, .func fd, osl⟩) (e : fd.code = cdv) {c P : Addr} (h : PySem.W.tabIn K x = some (c, P)) : cdv = .ref c := by
  unfold PySem.W.tabIn at h
  rw [hn] at h
  simp only [lk, e] at h
  split at h
  · split at h
    · split at h
      · cases h; rfl
      · cases h
    · cases h
  · cases h
theorem tab_mk {K : PySem.W.Frag} {x : Str} {f c P : Addr} {oc cc : Value} {od cd : Option Addr} {fd : FuncData} {osl csl : Array (Option Value)} {vs : Array Value} (hn : PySem.W.nsIn K mainGlobals x = some (some (.ref f))) (lk : K.lookup f = some ⟨oc, od, .func fd, osl⟩) (e : fd.code = .ref c) (lc : K.lookup c = some ⟨cc, cd, .fields vs, csl⟩) (h : vs[11]? = some (.ref P)) : PySem.W.tabIn K x = some (c, P) := by
  unfold PySem.W.tabIn
  rw [hn]
  simp only [lk, e, lc, h]
section
variable {P : Program} {w : World} {K : PySem.W.Frag} {mg : Str → Option Value} {base : Heap}
theorem fn_okC {k : Nat} {x : Str} {st : Stmt} {f : Addr} {fd : FuncData} {N ps : List Str} {m : MS} (F : FnP K x st f fd) (S : FnScope N ps (defScope st)) (hn : PySem.W.nsIn K mainGlobals x = some (some (.ref f)))
    (hb : ∀ (cdv : Value) (A : Around) (outer : List Env) (s : Shared) (H : Hp) (E : XK) (W : XW), (∀ {c P' : Addr}, PySem.W.tabIn K x = some (c, P') → cdv = .ref c) → Room k (A.deeper (envOfC x (defScope st) s.heap.objs.size f cdv)) →
      Takes (cxOf (L2.CX P w) P w K mg base N x (defScope st) f cdv A outer s H E) (wx mg W) → PMSs (cxOf (L2.CX P w) P w K mg base N x (defScope st) f cdv A outer s H E) W (defBody st) m) :
    FnOk P w K mg base (L2.CX P w) (k + 1) f fd ps (spM ⟨K, P, w⟩ mg ps.length (fnM N.length m)) := by
  obtain ⟨oc, od, kV, doc, pm, an, cdv, ct, osl, e, lk, hcd⟩ := F.ex
  have hc : ∀ {c P' : Addr}, PySem.W.tabIn K x = some (c, P') → cdv = .ref c := fun h => code_tab hn lk (by rw [e]) h
  subst e
  refine fn_of lk hcd S (fun vs H Q E h => h.1) fun A outer s H vs Q E hr h => ?_
  obtain ⟨hl, ρ, S0, as, R, r, q⟩ := h
  have tk : Takes (cxOf (L2.CX P w) P w K mg base N x (defScope st) f cdv A outer s H E) (wx mg (xwE mg E)) :=
    (takes_of (X := cxOf (L2.CX P w) P w K mg base N x (defScope st) f cdv A outer s H E) (E := E) rfl rfl rfl rfl).imp fun cls d σ H h => by
      obtain ⟨c, dd, h1, rfl, h2⟩ := h
      exact h2 cls h1
  refine ⟨_, hb cdv A outer s H E (xwE mg E) hc hr tk, ρ, _, S0, R, RE.start r N, ?_⟩
  unfold fnM at q
  cases e : m (as.map some ++ List.replicate (N.length - as.length) none) S0 with
  | bad => rw [e] at q; exact q
  | nx Γ' S' => rw [e] at q; exact fun ρ' H' σ' E' R' G' => q ρ' H' .non E' R' rfl
  | rt v S' => rw [e] at q; exact q
  | bk Γ' S' => rw [e] at q; exact q.elim
  | ct Γ' S' => rw [e] at q; exact q.elim
  | ex c f v Γ' S' => rw [e] at q; exact fun ρ' H' σ' w d E' R' G' rv hd => q ρ' H' w d E' R' rv hd
end
/-! ### the law, with tables -/
def spTopT (K : KX) (g : MF) : Sp := fun vs H Q _ => vs.length = 1 ∧ ∃ ρ S as S', RS K ρ S H ∧ Rvs K ρ H as vs ∧ g as S = .ok (.bl true) S' ∧ ∀ H', Q (.bl true) H'
theorem spTopT_up {K : KX} {mg : Str → Option Value} {g : MF} : ∀ vs H Q E, spTopT K g vs H Q E → spM K mg 1 g vs H Q E := by
  rintro vs H Q E ⟨hl, ρ, S, as, S', R, r, e, q⟩
  refine ⟨hl, ρ, S, as, R, r, ?_⟩
  rw [e]
  intro ρ' H' w _ _ rw
  cases rw
  exact q H'
/-- the store at the start: a table for each def that makes lambdas -/
def tabsOf (xs : List Str) : Sto := xs.map Ob.tbl
theorem rs_tabs {K : KX} {H : Hp} : ∀ {xs : List Str} {ps : List Addr}, (∀ p ∈ ps, H p = some (.tbl #[])) → ps.Nodup → xs.length = ps.length → (∀ (n : Nat) (x : Str) (p : Addr), xs[n]? = some x → ps[n]? = some p → ∃ c, PySem.W.tabIn K.K x = some (c, p)) → RS K ps (tabsOf xs) H := fun {xs ps} h nd hl ht =>
  ⟨by unfold tabsOf; simp [hl], nd, fun n a o h1 h2 => by
    unfold tabsOf at h2
    rw [List.getElem?_map] at h2
    cases e : xs[n]? with
    | none => rw [e] at h2; cases h2
    | some x =>
      rw [e] at h2
      cases h2
      exact ⟨#[], h a (List.mem_of_getElem? h1), True.intro, fun pos cv z => by
        have z' : codeAmong pos [] = some cv := z
        simp [codeAmong] at z', ht n x a e h1⟩⟩
/-- what the law must keep: the script as a list that nobody changes, or as one of the store -/
def LawT (xs : List Str) (g : MF) : Prop := ∀ (ns : List Int) (v : Va) (T : Sto), ns.length ≤ 63 → lstOf (tabsOf xs ++ T) v = some (ns.map Va.int) → ((∃ zs, v = .rol zs) ∨ ∃ j, v = .ref j) → ∃ S', g [v] (tabsOf xs ++ T) = .ok (.bl true) S'
theorem top_okT {K : KX} {g : MF} {xs : List Str} {ps : List Addr} (h : LawT xs g) {H : Hp} {a : Addr} {ns : List Int} (hl : ns.length ≤ 63) (hp : ∀ p ∈ ps, H p = some (.tbl #[])) (nd : ps.Nodup) (hlen : xs.length = ps.length) (ht : ∀ (n : Nat) (x : Str) (p : Addr), xs[n]? = some x → ps[n]? = some p → ∃ c, PySem.W.tabIn K.K x = some (c, p))
    (hs : SqL K.K H a (ns.map V.int)) {E : XK} : spTopT K g [.ref a] H (fun v _ => v = .bl true) E := by
  have R : RS K ps (tabsOf xs) H := rs_tabs hp nd hlen ht
  by_cases z : H a = some (.lst (ns.map V.int))
  · have na : a ∉ ps := fun m => by
      rw [hp a m] at z
      cases z
    have hz : (ns.map Va.int).length ≤ sizeLine := by rw [List.length_map, sizeLine_eq]; omega
    have R2 := R.adopt (xs := ns.map Va.int) na z hz (ints_rol ns)
    have hat : (tabsOf xs ++ [Ob.lst (ns.map Va.int)])[(tabsOf xs).length]? = some (.lst (ns.map Va.int)) := by
      rw [List.getElem?_append_right (Nat.le_refl _), Nat.sub_self]
      rfl
    obtain ⟨S', e⟩ := h ns (.ref (tabsOf xs).length) [.lst (ns.map Va.int)] hl (by unfold lstOf; simp only [hat]) (.inr ⟨_, rfl⟩)
    refine ⟨rfl, ps ++ [a], _, [.ref (tabsOf xs).length], S', R2, Rvs.cons (x := .ref _) ⟨a, ?_, rfl⟩ rfl, e, fun _ => rfl⟩
    rw [← R.len, List.getElem?_append_right (Nat.le_refl _), Nat.sub_self]
    rfl
  · obtain ⟨S', e⟩ := h ns (.rol (ns.map Va.int)) [] hl rfl (.inl ⟨_, rfl⟩)
    rw [List.append_nil] at e
    refine ⟨rfl, ps, _, [.rol (ns.map Va.int)], S', R, Rvs.cons (x := .rol (ns.map Va.int)) ⟨a, _, rfl, ?_, ints_rol ns⟩ rfl, e, fun _ => rfl⟩
    rcases hs with (h1 | h1) | h1
    · exact absurd h1 z
    · exact .inl h1
    · exact .inr h1
end PM
namespace LamX
open PySem PySem.Spec PyProof.Rows L2
/-- the end of a law: what is known of the tables at the head is handed on -/
theorem walk_tab {l : PySem.W.OpenLaw} {n k : Nat} {q : Program} {loose : List Str} {XP : (Str → Option Value) → Heap → Prop} {YP : World → Heap → Prop} {d : DefRec} {K : Params → PySem.W.Frag} {CX : World → CXT} {x : Str}
    (hn : l.most = some n) (hn2 : n ≤ sizeLine) (hdf : d.params.defaults = []) (hr : Room k callerA) (hY : ∀ (w : World) (h : Heap), YP w h → (K w.params).In h)
    (F : ∀ (w : World) (mg : Str → Option Value) (fa : Addr) (h : Heap), YP w h → (K w.params).In h → h.Ns mainGlobals mg → mg d.name = some (.ref fa) → (∀ {d' : DefRec} {y : Str} {c P : Addr}, (recsOf q).find? (fun e => e.name == y) = some d' → PySem.W.tabIn (K w.params) y = some (c, P) → PySem.W.CodeHd h c P ∧ h.get? P = some { cls := .none, data := .fields #[] }) → LawAtS l w (K w.params) (CX w) k n x mg fa h)
    (hCX : ∀ (w : World) (H : Hp) (s : Shared) (e : Value) (s' : Shared), CX w [] H s (fun _ _ _ => False) e s' → False) : PySem.W.WalkO q loose XP YP l.row.toRowW d [] (fun f vs => PySem.call f vs) := by
  refine Att.attach_callB hn hdf fun w s₀ s₁ mg mb fa o pm cd doc a vs ns G Y ho hd hcd hmg hobj hints hlen hbits hg => ?_
  have kx := hY w _ Y
  obtain ⟨fd, cs, sp, hT, nT, C, hb, hsp, hF⟩ := F w mg fa _ Y kx G.T.g hmg fun h1 h2 => PySem.W.tab_of G.T kx h1 h2
  exact law_callTs kx G.T.g G.T.b G.T.builtins G.T.nolimit hg hT nT C G.T.bmain hobj hints (Nat.le_trans hlen hn2) hr hF hb (fun H z1 z2 => hsp H a ns hlen hbits z1 z2) fun H e s' => hCX w H s₁ e s'
end LamX

namespace PM
open PySem PySem.Spec PyProof.Rows L2 Q2
inductive TabsIn (K : PySem.W.Frag) : List Str → List (Addr × Addr) → Prop
  | nil : TabsIn K [] []
  | cons {x : Str} {p : Addr × Addr} {xs : List Str} {cs : List (Addr × Addr)} : PySem.W.tabIn K x = some p → TabsIn K xs cs → TabsIn K (x :: xs) (p :: cs)
theorem TabsIn.len {K : PySem.W.Frag} {xs : List Str} {cs : List (Addr × Addr)} (h : TabsIn K xs cs) : xs.length = cs.length := by
  induction h with
  | nil => rfl
  | cons _ _ ih => simp [ih]
theorem TabsIn.get {K : PySem.W.Frag} {xs : List Str} {cs : List (Addr × Addr)} (h : TabsIn K xs cs) : ∀ {n : Nat} {x : Str} {p : Addr × Addr}, xs[n]? = some x → cs[n]? = some p → PySem.W.tabIn K x = some p := by
  induction h with
  | nil => intro n x p e; simp at e
  | cons h _ ih =>
    intro n x p e1 e2
    cases n with
    | zero => cases e1; cases e2; exact h
    | succ n => exact ih (by simpa using e1) (by simpa using e2)
theorem TabsIn.mem {K : PySem.W.Frag} {xs : List Str} {cs : List (Addr × Addr)} (h : TabsIn K xs cs) : ∀ p ∈ cs, ∃ x ∈ xs, PySem.W.tabIn K x = some p := by
  induction h with
  | nil => intro p m; cases m
  | cons h _ ih =>
    intro p m
    rcases List.mem_cons.mp m with rfl | m
    · exact ⟨_, List.mem_cons_self, h⟩
    · obtain ⟨x, m1, e⟩ := ih p m
      exact ⟨x, List.mem_cons_of_mem _ m1, e⟩
theorem lawAtS_of {l : PySem.W.OpenLaw} {w : World} {K : PySem.W.Frag} {mg : Str → Option Value} {fa : Addr} {h : Heap} {x : Str} {lev : Nat} {q : Program} {xs : List Str} {cs : List (Addr × Addr)} {g : MF} (hl : LawT xs g)
    (M : ∃ fd : FuncData, (∀ (s : Shared) (v : Value), BindsTo s fd ⟨[v], []⟩ [(x, v)]) ∧ TabsIn K xs cs ∧ ∀ base : Heap, K.In base → base.Ns mainGlobals mg → (∀ p ∈ cs, LamX.TabB base mg p.1 p.2) → FnOk l.prog w K mg base (L2.CX l.prog w) lev fa fd [x] (spTopT ⟨K, l.prog, w⟩ g))
    (htab : ∀ {d' : DefRec} {y : Str} {c P : Addr}, (recsOf q).find? (fun e => e.name == y) = some d' → PySem.W.tabIn K y = some (c, P) → PySem.W.CodeHd h c P ∧ h.get? P = some { cls := .none, data := .fields #[] })
    (nT : ∀ p ∈ cs, K.lookup p.2 = none) (rec_ : ∀ y ∈ xs, ∃ d' : DefRec, (recsOf q).find? (fun e => e.name == y) = some d') (nd : (cs.map (·.2)).Nodup) : LamX.LawAtS l w K (L2.CX l.prog w) lev 63 x mg fa h := by
  obtain ⟨fd, hb, T, hF⟩ := M
  have at_ : ∀ p ∈ cs, PySem.W.CodeHd h p.1 p.2 ∧ h.get? p.2 = some { cls := .none, data := .fields #[] } := fun p m => by
    obtain ⟨y, my, e⟩ := T.mem p m
    obtain ⟨d', hd⟩ := rec_ y my
    exact htab hd e
  refine ⟨fd, cs, spTopT ⟨K, l.prog, w⟩ g, fun p m => (at_ p m).2, nT, fun p m => (at_ p m).1, hb, fun H a ns hn _ hp hs => ?_, hF⟩
  refine top_okT (ps := cs.map (·.2)) hl hn (fun p m => ?_) nd (by rw [T.len]; simp) (fun n y p e1 e2 => ?_) hs
  · obtain ⟨r, mr, rfl⟩ := List.mem_map.mp m
    exact hp r mr
  · rw [List.getElem?_map] at e2
    cases e3 : cs[n]? with
    | none => rw [e3] at e2; cases e2
    | some r =>
      rw [e3] at e2
      cases e2
      exact ⟨r.1, T.get e1 e3⟩
end PM

namespace PM
open PySem PySem.Spec PyProof.Rows L2 Q2
/-! ### e is True, e is not False .. of bools -/
def rIsB (neg : Bool) : R2 := fun x y H Q => ∃ b c : Bool, x = .bl b ∧ y = .bl c ∧ Q (.bl (if neg = true then !decide (b = c) else decide (b = c))) H
def isB (neg : Bool) : F2 := fun v w S => match v, w with
  | .bl b, .bl c => some (.bl (if neg = true then !decide (b = c) else decide (b = c)), S)
  | _, _ => none
theorem op_isB {X : Cx} : OpR X (compareOp .Is) (rIsB false) := by
  intro pins s σ H x y v u Q I rx ry h
  obtain ⟨b, c, rfl, rfl, q⟩ := h
  cases rx
  cases ry
  have e : compareOp .Is (.bool b) (.bool c) = pure (.bool (decide (b = c))) := by cases b <;> cases c <;> rfl
  rw [e]
  exact wpAny_pure ⟨.bl _, H, I, rfl, q⟩
theorem op_notB {X : Cx} : OpR X (compareOp .IsNot) (rIsB true) := by
  intro pins s σ H x y v u Q I rx ry h
  obtain ⟨b, c, rfl, rfl, q⟩ := h
  cases rx
  cases ry
  have e : compareOp .IsNot (.bool b) (.bool c) = pure (.bool (!decide (b = c))) := by cases b <;> cases c <;> rfl
  rw [e]
  exact wpAny_pure ⟨.bl _, H, I, rfl, q⟩
theorem isB_m {K : KX} {neg : Bool} : OpM K (rIsB neg) (isB neg) := fun ρ S H v w x y Q R rv rw a => by
  cases v with
  | bl b =>
    cases w with
    | bl c => cases rv; cases rw; exact ⟨b, c, rfl, rfl, a ρ H _ R.refl R rfl⟩
    | _ => exact a.elim
  | _ => exact a.elim
theorem oIsB {X : Cx} : OpP X (compareOp .Is) (isB false) := ⟨_, op_isB, isB_m⟩
theorem oNotB {X : Cx} : OpP X (compareOp .IsNot) (isB true) := ⟨_, op_notB, isB_m⟩
theorem wo_isB {S : Sto} {Q : Va → Sto → Prop} {b c : Bool} (q : Q (.bl (decide (b = c))) S) : Wo (isB false (.bl b) (.bl c) S) Q := q
theorem wo_notB {S : Sto} {Q : Va → Sto → Prop} {b c : Bool} (q : Q (.bl (!decide (b = c))) S) : Wo (isB true (.bl b) (.bl c) S) Q := q
end PM

namespace PM
open PySem PySem.Spec PyProof.Rows L2 Q2
/-! ### () + t -/
def catE : F2 := fun v w S => match v, w with
  | .tup [], .tup ys => if ys.length ≤ sizeLine then some (.tup ys, S) else none
  | _, _ => none
theorem oCatE {X : Cx} : OpP X (binaryOp .Add) catE := by
  refine ⟨_, op_catA, fun ρ S H v w x y Q R rv rw a => ?_⟩
  cases v with
  | tup xs =>
    cases xs with
    | cons z zs => exact a.elim
    | nil =>
      cases w with
      | tup ys =>
        obtain ⟨hl, a⟩ := ans_if (p := ys.length ≤ sizeLine) (o := some (.tup ys, S)) a
        obtain ⟨p, ws, rfl, h1, r1⟩ := rv
        obtain ⟨p2, us, rfl, h2, r2⟩ := rw
        cases r1
        refine ⟨p, p2, [], us, rfl, rfl, h1, h2, by rw [← r2.len]; simpa using hl, fun _ => a ρ H _ R.refl R ⟨p2, us, rfl, h2, r2⟩, fun z => absurd rfl z, fun z => absurd rfl z⟩
      | _ => exact a.elim
  | _ => exact a.elim
def fAddE : F2 := orF2 fAdd catE
theorem oAddE {X : Cx} : OpP X (binaryOp .Add) fAddE := oAdd.or oCatE
theorem wo_addE {S : Sto} {Q : Va → Sto → Prop} {xs ys : List Va} (h : xs.length + ys.length ≤ sizeLine) (q : Q (.tup (xs ++ ys)) S) : Wo (fAddE (.tup xs) (.tup ys) S) Q := by
  cases xs with
  | nil =>
    have e : fAddE (.tup []) (.tup ys) S = some (.tup ys, S) := by
      have e1 : fAdd (.tup []) (.tup ys) S = none := rfl
      unfold fAddE orF2
      rw [e1]
      unfold catE
      simp only
      rw [if_pos (by simpa using h)]
    rw [e]
    exact q
  | cons x xs =>
    have e : fAddE (.tup (x :: xs)) (.tup ys) S = some (.tup (x :: xs ++ ys), S) := by
      unfold fAddE orF2
      rw [fAdd_tup (by simpa using h)]
    rw [e]
    exact q
end PM

namespace Q2
open PySem PySem.Spec PyProof.Rows L2
/-! ### t[::-1] of four, and a list extended by a tuple -/
section
variable {prog : Program} {w : World} {A : Around} {E : Value → Shared → Prop} {s : Shared}
theorem sliceApplied_rev4 {sl : Addr} {tk : Tok} {Q : Int × Int × Nat → Shared → Prop} (hs : s.heap.IsSliceOf sl .none .none (.int (-1) tk)) (h : Q (3, -1, 4) s) :
    wpAny (model prog w) A (Builtin.Slice.sliceApplied (.ref sl) (pure ((4 : Nat) : Int))) Q E s := by
  obtain ⟨os, hos, hcs, hds⟩ := id hs
  unfold Builtin.Slice.sliceApplied Builtin.Slice.sliceFields
  refine wpAny_bind (wpAny_bind (wpAny_field hos hds (x := .none) rfl (wpAny_bind (wpAny_field hos hds (x := .none) rfl (wpAny_bind (wpAny_field hos hds (x := .int (-1) tk) rfl (wpAny_pure ?_)))))))
  refine wpAny_bind (slicePart_int ?_)
  show wpAny _ _ (if ((-1 : Int) == 0) = true then _ else _) _ _ s
  rw [if_neg (by decide)]
  refine wpAny_bind (slicePart_none (wpAny_bind (slicePart_none (wpAny_bind (wpAny_pure ?_)))))
  show wpAny _ _ (match Builtin.Slice.sliceAdjust none none (-1) ((4 : Nat) : Int) with | (lo, hi) => pure (lo, (-1 : Int), Builtin.Slice.slicePlaces lo hi (-1))) _ _ s
  rw [show Builtin.Slice.sliceAdjust none none (-1) ((4 : Nat) : Int) = (3, -1) by decide]
  show wpAny _ _ (pure ((3 : Int), (-1 : Int), Builtin.Slice.slicePlaces 3 (-1) (-1))) _ _ s
  rw [show Builtin.Slice.slicePlaces 3 (-1) (-1) = 4 by decide]
  exact wpAny_pure h
theorem getItem_tuple_rev4 {t sl : Addr} {u v x y : Value} {tk : Tok} {Q : Value → Shared → Prop} (ht : IsTup s.heap t #[u, v, x, y]) (hs : s.heap.IsSliceOf sl .none .none (.int (-1) tk))
    (h : Q (.ref s.heap.objs.size) { s with heap := s.heap.push { cls := .type "tuple", data := .seq #[y, x, v, u] } }) : wpAny (model prog w) A (getItem (.ref t) (.ref sl)) Q E s := by
  have hdrop : sizeOk (.seq #[y, x, v, u]) := by
    show 4 ≤ sizeLine
    decide
  obtain ⟨os, hos, hcs, hds⟩ := id hs
  have hTs : s.TypeIs (.ref sl) "slice" := ⟨os, hos, hcs⟩
  unfold getItem
  try with_reducible refine wpAny_holding ?_
  first | refine wpAny_bind (wpAny_pure ?_) | skip
  refine wpAny_bind (wpAny_sequenceKey ht.typeIs (by decide) ?_)
  refine wpAny_bind (wpAny_callSpecial?_slot (name := Str.ofString "__getitem__") ht.typeIs PyProof.Rows.slot_tuple_getitem
    (wpAny_call_entry PyProof.Rows.slot_tuple_getitem ht.typeIs entry_tuple_getitem ?_ (args_tuple_getitem _ _)))
  show wpAny _ _ (Builtin.Tuple.tupleItemsOf (.ref t) >>= _) _ _ s
  refine wpAny_bind (tupleItemsOf_ ht ?_)
  refine wpAny_bind (wpAny_typeOf hTs ?_)
  rw [if_pos (by decide)]
  refine wpAny_bind (sliceApplied_rev4 hs ?_)
  show wpAny _ _ (if ((3 : Int) == 0 && (-1 : Int) == 1 && (4 : Nat) == 4) = true then _ else _) _ _ s
  rw [if_neg (by decide)]
  have pick : ((List.range 4).filterMap fun (k : Nat) => (#[u, v, x, y] : Array Value)[((3 : Int) + (k : Int) * (-1)).toNat]?).toArray = #[y, x, v, u] := rfl
  rw [pick]
  first
    | exact wpAny_bind (m := Builtin.Tuple.tupleExact _) (wpAny_newObj_type (wpAny_pure ⟨_, rfl, wpAny_pure h⟩) hdrop)
    | exact wpAny_bind (m := Builtin.Tuple.tupleExact _) (wpAny_newObj_type (wpAny_bind (wpAny_pure (wpAny_pure ⟨_, rfl, wpAny_pure h⟩))) hdrop)
    | exact wpAny_bind (wpAny_bind (m := Builtin.Tuple.tupleExact _) (wpAny_newObj_type (wpAny_pure (wpAny_pure ⟨_, rfl, wpAny_pure h⟩)) hdrop))
    | exact wpAny_bind (wpAny_bind (m := Builtin.Tuple.tupleExact _) (wpAny_newObj_type (wpAny_pure ⟨_, rfl, wpAny_pure h⟩) hdrop))
end
section
variable {X : Cx}
def tRev4 (K : PySem.W.Frag) (te : TE) : TE := fun σ H Q => te σ H fun x H1 => ∃ a v0 v1 v2 v3, x = .ref a ∧ SqT K H1 a [v0, v1, v2, v3] ∧ ∀ r, H1 r = none → Q (.ref r) (upd H1 r (.tup [v3, v2, v1, v0]))
theorem pe_rev4 {e : Expr} {te : TE} {k : Nat} {p1 p2 p3 pos : Pos} (he : PE X e te) : PE X (.Subscript e (.Slice none none (some (.UnaryOp .USub (.Constant (.int 1) k p1) p2)) p3) pos) (tRev4 X.K te) := by
  refine ⟨fun pins s σ H Q I h => ?_⟩
  refine Subscript_ (thn (he.run pins s σ H _ I h) fun v s1 ⟨x, H1, I1, r1, q1⟩ => ?_)
  obtain ⟨a, x0, x1, x2, x3, ex, hx, q⟩ := q1
  subst ex
  cases r1
  have hst : PO X (some (.UnaryOp .USub (.Constant (.int 1) k p1) p2)) (tPart (tUn (rU fun i => .int (-i)) (tC (.int 1)))) := po_some (pe_un un_neg pe_int)
  refine wpAny_Slice (thn (po_none.run pins s1 σ H1 (fun o H2 => o = none ∧ H2 = H1) I1 ⟨rfl, rfl⟩) fun vl s2 ⟨l, H2, I2, pl, el, e2⟩ => ?_)
  subst el e2
  refine thn (po_none.run pins s2 σ H2 (fun o H3 => o = none ∧ H3 = H2) I2 ⟨rfl, rfl⟩) fun vu s3 ⟨u, H3, I3, pu, eu, e3⟩ => ?_
  subst eu e3
  refine thn (hst.run pins s3 σ H3 (fun o H4 => o = some (-1) ∧ H4 = H3) I3 ⟨1, rfl, -1, rfl, rfl, rfl⟩) fun vs s4 ⟨o, H4, I4, ps, eo, e4⟩ => ?_
  subst eo e4
  have I5 : Inv X pins σ H4 { s4 with heap := s4.heap.push { cls := .type "slice", data := .fields #[vl, vu, vs] } } := I4.kept (t' := s4.toks) fun b ob q => Heap.get?_push_of_some _ q
  obtain ⟨its, r, ht, hz⟩ := I5.tuple hx
  cases pl
  cases pu
  cases ps
  cases r with
  | cons r1 rr =>
    rename_i u1 us
    cases rr with
    | cons r2 rr =>
      rename_i u2 us
      cases rr with
      | cons r3 rr =>
        rename_i u3 us
        cases rr with
        | cons r4 rr =>
          rename_i u4 us
          cases rr
          show wpAny (model X.prog X.w) X.A (subscriptTail e (.Slice none none (some (.UnaryOp .USub (.Constant (.int 1) k p1) p2)) p3) (.ref a) (.ref s4.heap.objs.size)) (EP X pins σ Q) X.xe { s4 with heap := s4.heap.push { cls := .type "slice", data := .fields #[.none, .none, _] } }
          refine tail_any (ops := [.ref a, .ref s4.heap.objs.size]) ht.typeIs (PyProof.Rows.slot_tuple_getitem.lookup) ?_ (by with_unfolding_all rfl)
          refine getItem_tuple_rev4 (u := u1) (v := u2) (x := u3) (y := u4) ht (Heap.IsSliceOf.new _ .none .none _) ?_
          refine ⟨.ref _, _, I5.laid (t' := s4.toks) (o := .tup [x3, x2, x1, x0]) (fun b ob q => Heap.get?_push_of_some _ q) (Nat.le_refl _) ?_, rfl, q _ (I5.hok.fresh (Nat.le_refl _))⟩
          exact ⟨by show 4 ≤ sizeLine; decide, [u4, u3, u2, u1], .cons r4 (.cons r3 (.cons r2 (.cons r1 .nil))), IsTup.new _ _⟩
theorem list_extend_tupleAt (l : Addr) (items : Array Value) (n : Nat) (b : Addr) (items2 : Array Value) (n2 : Nat) (dd2 : Option Addr) (sl2 : Array (Option Value)) (hs0 : ¬(!items.isEmpty && Builtin.List.listTooLong (items.size + items2.size)) = true) (hs1 : items.size ≤ sizeLine) (hs2 : items.size + items2.size ≤ sizeLine + 1) :
    Meets (Builtin.«list.extend» ⟨[.ref l, .ref b], []⟩) (fun _ R s => s.heap.get? l = some { cls := .type "list", dict := none, data := .seq items n, slots := #[] } ∧ s.heap.get? b = some { cls := .type "tuple", dict := dd2, data := .seq items2 n2, slots := sl2 } ∧ R (.ok (.ret Value.none)) { s with heap := s.heap.update l (Obj.mapSeq fun x => x ++ items2), toks := s.toks }) :=
  .of_wp fun prog w A R s h => by
    obtain ⟨hp, g, d, tk, os⟩ := s
    obtain ⟨hl, hb, h⟩ := h
    have f1 := AutoSeq1.idx_int
    have f2 := AutoSeq1.sub_tuple_tuple
    have f3 := AutoSeq1.sub_list_list
    have f4 := AutoSeq1.sub_tuple_list
    have f5 := AutoSeq1.sub_list_tuple
    have hz' : (items ++ items2).size ≤ sizeLine + 1 := by rw [Array.size_append]; exact hs2
    wp_walk using (wpAny_updateSeq hl rfl (hz := hs1) (_hz' := hz')), AutoSeq1.wpAny_loadPart' hl, AutoSeq1.wpAny_loadPart' hb
    exact ⟨_, rfl, h⟩
def rExtendT (K : PySem.W.Frag) : V → List V → Hp → VK → Prop := fun x vs H Q => ∃ l b xs zs, x = .ref l ∧ vs = [.ref b] ∧ H l = some (.lst xs) ∧ SqT K H b zs ∧ xs.length + zs.length ≤ sizeLine ∧ Q .non (upd H l (.lst (xs ++ zs)))
theorem mt_extendT : MtM X "list.extend" (rExtendT X.K) := by
  intro pins s σ H x vs v us Q I rx rv h
  obtain ⟨l, b, xs, zs, rfl, rfl, hH, hB, hz, q⟩ := h
  cases rx
  obtain ⟨u, rfl, ru⟩ := rv.one
  cases ru
  obtain ⟨z, its, n, r, hl, e⟩ := I.lstM hH
  obtain ⟨its2, r2, p2, hz2⟩ := I.tuple hB
  obtain ⟨⟨cls2, dd2, data2, sl2⟩, ho2, hc2, n2, hd2⟩ := id p2
  simp only at hc2 hd2
  subst hc2 hd2
  have h1 := r.length
  have h2 := r2.length
  have hsz : its.toArray.size + its2.toArray.size ≤ sizeLine := by rw [List.size_toArray, List.size_toArray]; omega
  have hlong : ¬ (!its.toArray.isEmpty && Builtin.List.listTooLong (its.toArray.size + its2.toArray.size)) = true := by
    rw [notLongL hsz, Bool.and_false]
    exact Bool.false_ne_true
  refine call_meets F.slot_list_extend ⟨_, e, rfl⟩ F.entry_list_extend (F.args_list_extend_2 _ _)
    (list_extend_tupleAt l its.toArray n b its2.toArray n2 dd2 sl2 hlong (by rw [List.size_toArray]; omega) (by omega)) ⟨e, ho2, ?_⟩
  refine ⟨.non, _, I.lset (its' := its ++ its2) hH e (by simp) (r.append r2) ?_, rfl, q⟩
  rw [List.length_append]
  omega
end
end Q2

namespace Q2
open PySem PySem.Spec PyProof.Rows L2
/-! ### tuples of two, compared -/
def lt2 (a b : Int × Int) : Bool := decide (a.1 < b.1 ∨ (a.1 = b.1 ∧ a.2 < b.2))
def rLt2 (K : PySem.W.Frag) : R2 := fun x y H Q => ∃ (a b : Addr) (p q : Int × Int), x = .ref a ∧ y = .ref b ∧ SqT K H a [.int p.1, .int p.2] ∧ SqT K H b [.int q.1, .int q.2] ∧ Q (.bl (lt2 p q)) H
section
variable {X : Cx}
theorem raw_pt2 {pins : List (Addr × Obj)} {σ : L2.St} {H : Hp} {s : Shared} {a : Addr} {p : Int × Int} (I : Inv X pins σ H s) (h : SqT X.K H a [.int p.1, .int p.2]) : ∃ tx ty, s.heap.IsTuple a #[.int p.1 tx, .int p.2 ty] := by
  obtain ⟨its, r1, p1, _⟩ := I.tuple h
  cases r1 with
  | cons rx rr =>
    cases rr with
    | cons ry rn =>
      cases rn
      obtain ⟨tx, rfl⟩ := rx
      obtain ⟨ty, rfl⟩ := ry
      exact ⟨tx, ty, p1⟩
theorem op_lt2 (hu : X.A.units < cLine) : OpR X (compareOp .Lt) (rLt2 X.K) := by
  intro pins s σ H vv uu v u Q I rx ry h
  obtain ⟨a, b, ⟨x, y⟩, ⟨x', y'⟩, rfl, rfl, ha, hb, q⟩ := h
  cases rx
  cases ry
  obtain ⟨tx, ty, p1⟩ := raw_pt2 I ha
  obtain ⟨tx', ty', p2⟩ := raw_pt2 I hb
  have R := Ob.RcOp.tuples_lt (A := X.A) (s := s) (e := fun j => match j with | 0 => x == x' | _ => y == y') (r := fun j => match j with | 0 => decide (x < x') | _ => decide (y < y')) p1 p2 hu (fun j h1 h2 => by
    match j, h1 with
    | 0, _ => exact SeqAt.EqAt.int_int _ _ _ _
    | 1, _ => exact SeqAt.EqAt.int_int _ _ _ _) (fun j h1 h2 _ => by
    match j, h1 with
    | 0, _ => exact Ob.RcOp.lt_int _ _ _ _
    | 1, _ => exact Ob.RcOp.lt_int _ _ _ _)
  have e : Ob.lexAt (fun j => match j with | 0 => x == x' | _ => y == y') (fun j => match j with | 0 => decide (x < x') | _ => decide (y < y')) (decide ((#[Value.int x tx, Value.int y ty] : Array Value).size < (#[Value.int x' tx', Value.int y' ty'] : Array Value).size)) 0 (min (#[Value.int x tx, Value.int y ty] : Array Value).size (#[Value.int x' tx', Value.int y' ty'] : Array Value).size) = lt2 (x, y) (x', y') := by
    show (if (x == x') = true then (if (y == y') = true then decide (2 < 2) else decide (y < y')) else decide (x < x')) = lt2 (x, y) (x', y')
    unfold lt2
    by_cases h1 : x = x'
    · subst h1
      by_cases h2 : y = y'
      · subst h2
        simp
      · simp [h2]
    · simp [h1]
  rw [e] at R
  exact R X.prog X.w X.xe (EP X pins σ Q) ⟨.bl _, H, I, rfl, q⟩
end
end Q2
namespace PM
open PySem PySem.Spec PyProof.Rows L2 Q2
section
variable {X : Cx} {W : XW}
def twoI : Va → Option (Int × Int)
  | .tup [.int x, .int y] => some (x, y)
  | _ => none
theorem twoI_eq {v : Va} {p : Int × Int} (h : twoI v = some p) : v = .tup [.int p.1, .int p.2] := by
  unfold twoI at h
  split at h
  · cases h; rfl
  · cases h
def ltT : F2 := fun v w S => match twoI v, twoI w with
  | some p, some q => some (.bl (lt2 p q), S)
  | _, _ => none
theorem rv_two {K : KX} {ρ : List Addr} {H : Hp} {p : Int × Int} {x : V} (h : Rv K ρ H (.tup [.int p.1, .int p.2]) x) : ∃ a, x = .ref a ∧ SqT K.K H a [.int p.1, .int p.2] := by
  obtain ⟨a, ws, rfl, h1, w1, _, rfl, r1, w2, _, rfl, r2, rfl⟩ := h
  have e1 : w1 = .int p.1 := r1
  have e2 : w2 = .int p.2 := r2
  subst e1 e2
  exact ⟨a, rfl, h1⟩
theorem oLtT (hu : X.A.units < cLine) : OpP X (compareOp .Lt) ltT := by
  refine ⟨_, op_lt2 hu, fun ρ S H v w x y Q R rv rw a => ?_⟩
  unfold ltT at a
  cases e1 : twoI v with
  | none => simp only [e1] at a; exact a.elim
  | some p =>
    cases e2 : twoI w with
    | none => simp only [e1, e2] at a; exact a.elim
    | some q =>
      simp only [e1, e2] at a
      have h1 := twoI_eq e1
      have h2 := twoI_eq e2
      subst h1 h2
      obtain ⟨b, rfl, hb⟩ := rv_two rv
      obtain ⟨c, rfl, hc⟩ := rv_two rw
      exact ⟨b, c, p, q, rfl, rfl, hb, hc, a ρ H _ R.refl R rfl⟩
def ltE : F2 := orF2 ltI ltT
theorem oLtE (hu : X.A.units + 64 < cLine) : OpP X (compareOp .Lt) ltE := oLtI.or (oLtT (by omega))
theorem wo_ltE {S : Sto} {Q : Va → Sto → Prop} {x y x' y' : Int} (q : Q (.bl (lt2 (x, y) (x', y'))) S) : Wo (ltE (.tup [.int x, .int y]) (.tup [.int x', .int y']) S) Q := q
/-! ### t[::-1] of four, a list extended by a tuple -/
def mRevT4 (m : ME) : ME := fun Γ S => (m Γ S).bind fun v S1 => match v with
  | .tup xs => match xs with
    | [x, y, z, u] => .ok (.tup [u, z, y, x]) S1
    | _ => .bad
  | _ => .bad
theorem pm_revT4 {e : Expr} {m : ME} {k : Nat} {p1 p2 p3 pos : Pos} (h : PM X W e m) : PM X W (.Subscript e (.Slice none none (some (.UnaryOp .USub (.Constant (.int 1) k p1) p2)) p3) pos) (mRevT4 m) := by
  refine pe_imp (pe_rev4 h) fun σ H Q ⟨ρ, Γ, S, R, G, q⟩ => ?_
  refine ⟨ρ, Γ, S, R, G, q.bind fun v S1 ρ1 H1 x E1 R1 rx q1 => ?_⟩
  cases v with
  | tup xs =>
    match xs, rx, q1 with
    | [], _, q1 => exact q1.elim
    | [_], _, q1 => exact q1.elim
    | [_, _], _, q1 => exact q1.elim
    | [_, _, _], _, q1 => exact q1.elim
    | _ :: _ :: _ :: _ :: _ :: _, _, q1 => exact q1.elim
    | [u, v, w, z], rx, q1 =>
      obtain ⟨a, ws, rfl, h1, w1, _, rfl, r1, w2, _, rfl, r2, w3, _, rfl, r3, w4, _, rfl, r4, rfl⟩ := rx
      refine ⟨a, w1, w2, w3, w4, rfl, h1, fun p hp => ?_⟩
      obtain ⟨E, R2⟩ := R1.own (o := .tup [w4, w3, w2, w1]) hp
      exact q1 ρ1 _ _ E R2 ⟨p, [w4, w3, w2, w1], rfl, SqT.of upd_same, Rvs.cons (r4.ext E) (Rvs.cons (r3.ext E) (Rvs.cons (r2.ext E) (Rvs.cons (r1.ext E) rfl)))⟩
  | _ => exact q1.elim
theorem w_revT4 {m : ME} {Γ : En} {S : Sto} {Q : Va → Sto → Prop} (h : Wp (m Γ S) fun v S1 => ∃ x y z u, v = .tup [x, y, z, u] ∧ Q (.tup [u, z, y, x]) S1) : Wp (mRevT4 m Γ S) Q := Wp.bind (h.mono fun _ _ h => by
  obtain ⟨x, y, z, u, rfl, q⟩ := h
  exact q)
def mExtT (o : ME) (t : MA) : ME := fun Γ S => (o Γ S).bind fun ov S1 => match ov with
  | .ref n => match S1[n]? with
    | some (.lst _) => (t Γ S1).bind fun vs S2 => match vs, S2[n]? with
      | [.tup ys], some (.lst xs) => if xs.length + ys.length ≤ sizeLine then .ok .non (S2.set n (.lst (xs ++ ys))) else .bad
      | _, _ => .bad
    | _ => .bad
  | _ => .bad
theorem pm_extendT {o e : Expr} {es : List Expr} {mo : ME} {t : MA} {apos cpos : Pos} (ho : PM X W o mo) (ht : PMA X W (e :: es) t)
    (hbase : attributeBase o "extend" X.env (eval o X.env) = eval o X.env := by rfl)
    (hfew : ((backTo cpos (starEach (e :: es) X.env)).all (fun x => !x.1) && (backToKw cpos (keywordEach [] X.env)).all (fun x => x.1.isSome)
      && decide ((e :: es).length + ([] : List Keyword).length + (if ([] : List Keyword).isEmpty then 0 else 1) < 30)) = true := by rfl)
    (hline : (apos.endLine == cpos.line) = true := by rfl) (hs : starEach (e :: es) X.env = (false, eval e X.env) :: starEach es X.env := by rfl) (hplain : (backTo cpos (starEach es X.env)).any (·.1) = false := by rfl) :
    PM X W (.Call (.Attribute o "extend" apos) (e :: es) [] cpos) (mExtT mo t) := by
  refine pe_imp (pe_bm PySem.F.plainAttrs_list PySem.F.slot_list_extend PySem.F.type_list_extend mt_extendT ho ht hbase hfew hline hs hplain) fun σ H Q ⟨ρ, Γ, S, R, G, q⟩ => ?_
  refine ⟨ρ, Γ, S, R, G, q.bind fun ov S1 ρ1 H1 x E1 R1 rx q1 => ?_⟩
  cases ov with
  | ref n =>
    obtain ⟨a, ha, rfl⟩ := rx
    cases e : S1[n]? with
    | none => simp only [e] at q1; exact q1.elim
    | some ob =>
      cases ob with
      | setT _ => simp only [e] at q1; exact q1.elim
      | raw _ => simp only [e] at q1; exact q1.elim
      | tbl _ => simp only [e] at q1; exact q1.elim
      | dct _ => simp only [e] at q1; exact q1.elim
      | lst xs1 =>
        simp only [e] at q1
        obtain ⟨_, ws1, h1, _⟩ := R1.at_ n a _ ha e
        refine ⟨.inl ⟨rfl, ws1, SqL.of h1⟩, ρ1, Γ, S1, R1, G.ext E1, q1.bind fun vs S2 ρ2 H2 ys E2 R2 ry q2 => ?_⟩
        cases vs with
        | nil => exact q2.elim
        | cons v r =>
          cases r with
          | cons _ _ => cases v <;> exact q2.elim
          | nil =>
            obtain ⟨y, rfl, r1⟩ := one_of ry rfl
            have ha2 := E2.get ha
            cases v with
            | tup zs =>
              obtain ⟨b, us, rfl, h6, h7⟩ := r1
              cases e2 : S2[n]? with
              | none => simp only [e2] at q2; exact q2.elim
              | some ob =>
                cases ob with
                | setT _ => simp only [e2] at q2; exact q2.elim
                | raw _ => simp only [e2] at q2; exact q2.elim
                | tbl _ => simp only [e2] at q2; exact q2.elim
                | dct _ => simp only [e2] at q2; exact q2.elim
                | lst xs =>
                  simp only [e2] at q2
                  obtain ⟨_, ws, h4, h5⟩ := R2.at_ n a _ ha2 e2
                  by_cases hl : xs.length + zs.length ≤ sizeLine
                  · rw [if_pos hl] at q2
                    refine ⟨a, b, ws, us, rfl, rfl, h4, h6, by rw [← h5.len, ← h7.len]; exact hl, ?_⟩
                    obtain ⟨E3, R3⟩ := R2.put ha2 e2 (by rw [List.length_append]; exact hl) (h5.app h7)
                    exact q2 ρ2 _ _ E3 R3 rfl
                  · rw [if_neg hl] at q2
                    exact q2.elim
            | _ => exact q2.elim
  | _ => exact q1.elim
theorem w_extT {o : ME} {t : MA} {Γ : En} {S : Sto} {Q : Va → Sto → Prop} (h : Wp (o Γ S) fun ov S1 => ∃ n ys, ov = .ref n ∧ S1[n]? = some (.lst ys) ∧ Wp (t Γ S1) fun vs S2 => ∃ xs zs, vs = [.tup zs] ∧ S2[n]? = some (.lst xs) ∧ xs.length + zs.length ≤ sizeLine ∧ Q .non (S2.set n (.lst (xs ++ zs)))) : Wp (mExtT o t Γ S) Q :=
  Wp.bind (h.mono fun ov S1 h => by
    obtain ⟨n, ys, rfl, e1, h⟩ := h
    simp only [e1]
    exact Wp.bind (h.mono fun vs S2 h => by
      obtain ⟨xs, zs, rfl, e2, hl, q⟩ := h
      simp only [e2, if_pos hl]
      exact q))
end
end PM

namespace PM
open PySem PySem.Spec PyProof.Rows L2 Q2
/-! ### a number in a tuple of numbers -/
def inT : F2 := fun v w S => match v, w with
  | .int i, .tup xs => match intsOf xs with
    | some ns => some (.bl (decide (i ∈ ns)), S)
    | none => none
  | _, _ => none
theorem flat_ints : ∀ ns : List Int, (ns.map V.int).all flatV = true
  | [] => rfl
  | n :: ns => by simp only [List.map_cons, List.all_cons, flat_ints ns, Bool.and_true]; rfl
theorem in_ints (i : Int) : ∀ ns : List Int, inV (.int i) (ns.map V.int) = decide (i ∈ ns)
  | [] => by simp [inV]
  | n :: ns => by
    have ih := in_ints i ns
    unfold inV at ih ⊢
    rw [List.map_cons, List.any_cons, ih]
    have e : eqV (.int n) (.int i) = decide (n = i) := by
      show (n == i) = decide (n = i)
      by_cases h : n = i <;> simp [h]
    rw [e]
    by_cases h1 : n = i
    · subst h1; simp
    · simp [h1]
      exact fun z => absurd z.symm h1
theorem oInT {X : Cx} : OpP X (compareOp .In) inT := by
  refine ⟨_, op_in_seq, fun ρ S H v w x y Q R rv rw a => ?_⟩
  cases v with
  | int i =>
    cases w with
    | tup xs =>
      unfold inT at a
      simp only at a
      cases e : intsOf xs with
      | none => rw [e] at a; exact a.elim
      | some ns =>
        rw [e] at a
        obtain ⟨p, ws, rfl, h1, r1⟩ := rw
        have hw := ints_of r1 e
        subst hw
        cases rv
        refine ⟨p, _, rfl, .inr h1, rfl, flat_ints ns, ?_⟩
        rw [if_neg (by decide), in_ints]
        exact a ρ H _ R.refl R rfl
    | _ => exact a.elim
  | _ => exact a.elim
def inFT : F2 := orF2 inF inT
theorem oInFT {X : Cx} (hu : X.A.units + 65 < cLine) : OpP X (compareOp .In) inFT := (oInF hu).or oInT
theorem wo_inT2 {S : Sto} {Q : Va → Sto → Prop} {i a b : Int} (q : Q (.bl (decide (i = a ∨ i = b))) S) : Wo (inT (.int i) (.tup [.int a, .int b]) S) Q := by
  have e : inT (.int i) (.tup [.int a, .int b]) S = some (.bl (decide (i ∈ [a, b])), S) := rfl
  rw [e]
  have e2 : decide (i ∈ [a, b]) = decide (i = a ∨ i = b) := by simp
  rw [e2]
  exact q
end PM

namespace Q2
open PySem PySem.Spec PyProof.Rows L2
/-! ### xs.count(x), data -/
def rCntD (K : PySem.W.Frag) : V → List V → Hp → VK → Prop := fun x xs H Q => ∃ (p : Addr) (ds : List PyData) (v : V) (d : PyData), x = .ref p ∧ xs = [v] ∧ Dp K H (.ref p) (.list ds) ∧ Dp K H v d ∧ SeqAt.shaped (.list ds) = true ∧ SeqAt.shaped d = true ∧ Q (.int ((ds.countP fun y => PyData.eqv y d : Nat) : Int)) H
theorem shaped_of {d : PyData} (h : SeqAt.shaped d = true) : d.canLay0 = true ∧ d.depth ≤ 64 := by
  unfold SeqAt.shaped at h
  rw [Bool.and_eq_true] at h
  exact ⟨h.1, of_decide_eq_true h.2⟩
theorem mt_countD {X : Cx} (hu : X.A.units + 65 < cLine) : MtM X "list.count" (rCntD X.K) := by
  intro pins s σ H x vs v us Q I rx rv h
  obtain ⟨p, ds, y, d, rfl, rfl, h1, h2, s1, s2, q⟩ := h
  cases rx
  obtain ⟨u, rfl, ru⟩ := rv.one
  obtain ⟨bs, hb⟩ := Dp.reads I _ _ u h2 ru
  obtain ⟨as, ha⟩ := Dp.reads I _ _ (.ref p) h1 rfl
  cases ha with
  | list e1 e2 e3 e4 =>
    rename_i o vs n as
    have hl : s.heap.IsList p vs := ⟨o, e1, e2, n, e3⟩
    obtain ⟨l1, d1⟩ := shaped_of s1
    obtain ⟨l2, d2⟩ := shaped_of s2
    have p1 := PyData.plainAll_of_canLay0 ds (by simpa [PyData.canLay0] using l1)
    have p2 := PyData.plain_of_canLay0 d l2
    refine SeqAt.count_list_data hl e4 hb p1 p2 (by omega) ?_
    exact ⟨.int _, H, I.kept (t' := s.toks + 1) fun _ _ q => q, ⟨_, rfl⟩, q⟩
end Q2
namespace PM
open PySem PySem.Spec PyProof.Rows L2 Q2
section
variable {X : Cx} {W : XW}
def mCnt (o : ME) (t : MA) : ME := fun Γ S => (o Γ S).bind fun ov S1 => match ov with
  | .ref n => match S1[n]? with
    | some (.lst _) => (t Γ S1).bind fun vs S2 => match vs with
      | [v] => match datsOf S2 (.ref n), datOf S2 v with
        | some ds, some d => .ok (.int ((ds.countP fun y => PyData.eqv y d : Nat) : Int)) S2
        | _, _ => .bad
      | _ => .bad
    | _ => .bad
  | _ => .bad
theorem pm_count (hu : X.A.units + 65 < cLine) {o e : Expr} {es : List Expr} {mo : ME} {t : MA} {apos cpos : Pos} (ho : PM X W o mo) (ht : PMA X W (e :: es) t)
    (hbase : attributeBase o "count" X.env (eval o X.env) = eval o X.env := by rfl)
    (hfew : ((backTo cpos (starEach (e :: es) X.env)).all (fun x => !x.1) && (backToKw cpos (keywordEach [] X.env)).all (fun x => x.1.isSome)
      && decide ((e :: es).length + ([] : List Keyword).length + (if ([] : List Keyword).isEmpty then 0 else 1) < 30)) = true := by rfl)
    (hline : (apos.endLine == cpos.line) = true := by rfl) (hs : starEach (e :: es) X.env = (false, eval e X.env) :: starEach es X.env := by rfl) (hplain : (backTo cpos (starEach es X.env)).any (·.1) = false := by rfl) :
    PM X W (.Call (.Attribute o "count" apos) (e :: es) [] cpos) (mCnt mo t) := by
  refine pe_imp (pe_bm PySem.F.plainAttrs_list PySem.F.slot_list_count PySem.F.type_list_count (mt_countD hu) ho ht hbase hfew hline hs hplain) fun σ H Q ⟨ρ, Γ, S, R, G, q⟩ => ?_
  refine ⟨ρ, Γ, S, R, G, q.bind fun ov S1 ρ1 H1 x E1 R1 rx q1 => ?_⟩
  cases ov with
  | ref n =>
    obtain ⟨a, ha, rfl⟩ := rx
    cases e : S1[n]? with
    | none => simp only [e] at q1; exact q1.elim
    | some ob =>
      cases ob with
      | setT _ => simp only [e] at q1; exact q1.elim
      | raw _ => simp only [e] at q1; exact q1.elim
      | tbl _ => simp only [e] at q1; exact q1.elim
      | dct _ => simp only [e] at q1; exact q1.elim
      | lst xs1 =>
        simp only [e] at q1
        obtain ⟨_, ws1, h1, _⟩ := R1.at_ n a _ ha e
        refine ⟨.inl ⟨rfl, ws1, SqL.of h1⟩, ρ1, Γ, S1, R1, G.ext E1, q1.bind fun vs S2 ρ2 H2 ys E2 R2 ry q2 => ?_⟩
        cases vs with
        | nil => exact q2.elim
        | cons v r =>
          cases r with
          | cons _ _ => exact q2.elim
          | nil =>
            obtain ⟨y, rfl, r1⟩ := one_of ry rfl
            have ha2 := E2.get ha
            cases e2 : datsOf S2 (.ref n) with
            | none => simp only [e2] at q2; exact q2.elim
            | some ds =>
              cases e3 : datOf S2 v with
              | none => simp only [e2, e3] at q2; exact q2.elim
              | some d =>
                simp only [e2, e3] at q2
                obtain ⟨c1, c2⟩ := dats_of R2 (show Rv (kxOf X) ρ2 H2 (.ref n) (.ref a) from ⟨a, ha2, rfl⟩) e2
                obtain ⟨c3, c4⟩ := dat_of R2 r1 e3
                exact ⟨a, ds, _, d, rfl, rfl, c1, c3, c2, c4, q2 ρ2 H2 _ R2.refl R2 rfl⟩
  | _ => exact q1.elim

end
end PM

namespace Q2
open PySem PySem.Spec PyProof.Rows L2
section
variable {X : Cx}
theorem raw_ptS {pins : List (Addr × Obj)} {σ : L2.St} {H : Hp} {s : Shared} (I : Inv X pins σ H s) {t : Addr} {x y : Int} (h : SqT X.K H t [.int x, .int y]) : ∃ tx ty, IsTup s.heap t #[.int x tx, .int y ty] := by
  obtain ⟨its, r, tup, _⟩ := I.tuple h
  cases r with
  | cons r1 rr =>
    cases rr with
    | cons r2 rn =>
      cases rn
      obtain ⟨tx, rfl⟩ := r1
      obtain ⟨ty, rfl⟩ := r2
      exact ⟨tx, ty, tup⟩
def rSortKR (K : PySem.W.Frag) (f : Addr) : List V → List V → Hp → VK → Prop := fun vs zs H Q => ∃ (a : Addr) (qs : Pts), vs = [V.ref a] ∧ zs = [.ref f] ∧ (SqL K H a (refsOf qs) ∨ SqT K H a (refsOf qs)) ∧ (∀ q ∈ qs, SqT K H q.1 [.int q.2.1, .int q.2.2]) ∧ ∀ p, H p = none → Q (.ref p) (upd H p (.lst (refsOf (sortY qs))))
theorem cr_sortKR {nm : Str} {st : Stmt} {f : Addr} {fd : FuncData} (F : Fun X.K nm nm st f fd) (S : Swaps st) (un : X.A.units + 64 < cLine) (room : X.A.depth < recursionLimit) : CallRK X (.builtin "sorted") [Str.ofString "key"] (rSortKR X.K f) := by
  intro pins s σ H vs zs us ws Q I r rz h
  obtain ⟨a, qs, rfl, rfl, hs, ht, q⟩ := h
  obtain rfl := Vals.ref1 r
  obtain rfl := Vals.ref1 rz
  obtain ⟨its, rv, seq, hz⟩ := raw_seq I hs
  rw [List.length_map] at hz
  refine sorted_keyed (bs := qs) (f := .ref f) (kw := [(Str.ofString "key", .ref f)]) keyY seq (each_refs rv) (alike_pts _ _ qs) (sortable_pts _ _ qs) hz (fun p hp => ?_) (PyProof.Rows.ksk_s1 _ _) (fun _ => PyProof.Rows.ksk_l1 _ _) (fun x => PyProof.Rows.ksk_t1 f x) (fun v p hv hp h tk keep => ?_) fun out c h' tk keep fresh hD hl e => ?_
  · have := depth_pt p.2.2 p.2.1
    show X.A.units + 2 + (PyData.tuple [.int p.2.2, .int p.2.1]).depth < cLine
    omega
  · rw [hv]
    obtain ⟨tx, ty, o, ho, hr⟩ := raw_ptS I (ht p hp)
    have I2 : Inv X pins σ H { s with heap := h, toks := tk } := I.kept keep
    exact swap_call F S I2.env0.in1.in1 room ⟨o, keep _ _ ho, hr⟩
  · refine ⟨.ref _, upd H (s.heap.objs.size + 1) (.lst (refsOf (sortY qs))), I.laid (t' := tk) keep (Nat.le_succ _) ⟨?_, out, c, vals_refs e, hD⟩, rfl, q _ (I.hok.fresh (Nat.le_succ _))⟩
    rw [List.length_map, List.length_mergeSort]
    exact hz
end
end Q2
namespace PM
open PySem PySem.Spec PyProof.Rows L2 Q2
section
variable {X : Cx} {W : XW}
def ptsOf : List Va → Option (List (Int × Int))
  | [] => some []
  | v :: r => match twoI v, ptsOf r with
    | some p, some l => some (p :: l)
    | _, _ => none
theorem ptsOf_split {K : KX} {ρ : List Addr} {H : Hp} : ∀ {vs : List Va} {ws : List V} {ps : List (Int × Int)}, Rvs K ρ H vs ws → ptsOf vs = some ps → ∃ qs : List (Addr × Int × Int), ws = refsOf qs ∧ qs.map (·.2) = ps ∧ ∀ q ∈ qs, SqT K.K H q.1 [.int q.2.1, .int q.2.2]
  | [], ws, ps, h, e => by
    cases h
    cases e
    exact ⟨[], rfl, rfl, fun q hq => by simp at hq⟩
  | v :: vs, ws, ps, h, e => by
    obtain ⟨w, r, rfl, hw, hr⟩ := h
    unfold ptsOf at e
    cases e1 : twoI v with
    | none => rw [e1] at e; simp at e
    | some p =>
      cases e2 : ptsOf vs with
      | none => rw [e1, e2] at e; simp at e
      | some l =>
        rw [e1, e2] at e
        cases e
        have hv := twoI_eq e1
        subst hv
        obtain ⟨a, rfl, ha⟩ := rv_two hw
        obtain ⟨qs, rfl, h2, h3⟩ := ptsOf_split hr e2
        refine ⟨(a, p) :: qs, rfl, by rw [List.map_cons, h2], fun q hq => ?_⟩
        rcases List.mem_cons.mp hq with rfl | hq
        · exact ha
        · exact h3 q hq
abbrev ptY (p : Int × Int) : PyData := .tuple [.int p.2, .int p.1]
def mSortY (t : MA) : ME := fun Γ S => (t Γ S).bind fun vs S1 => match vs with
  | [v] => match (seqOf S1 v).bind ptsOf with
    | some ps => lift (mkL S1 ((ps.mergeSort (dle ptY)).map fun p => Va.tup [.int p.1, .int p.2]))
    | none => .bad
  | _ => .bad
theorem rvs_pts {K : KX} {ρ : List Addr} {H : Hp} : ∀ {qs : List (Addr × Int × Int)}, (∀ q ∈ qs, SqT K.K H q.1 [.int q.2.1, .int q.2.2]) → Rvs K ρ H ((qs.map (·.2)).map fun p => Va.tup [.int p.1, .int p.2]) (refsOf qs)
  | [], _ => rfl
  | q :: qs, h => Rvs.cons ⟨q.1, _, rfl, h q (List.mem_cons_self ..), Rvs.cons rfl (Rvs.cons rfl rfl)⟩ (rvs_pts fun x hx => h x (List.mem_cons_of_mem _ hx))
theorem pm_sortY {st : Stmt} {f : Addr} {fd : FuncData} {e : Expr} {t : MA} {p p2 kp pos : Pos} (F : Fun X.K "y_key" "y_key" st f fd) (Sw : Swaps st) (un : X.A.units + 64 < cLine) (room : X.A.depth < recursionLimit) (hgs : Gl X "sorted") (hz : X.mg "sorted" = none) (hgy : Gl X "y_key") (gy : X.mg "y_key" = some (.ref f)) (ht : PMA X W [e] t)
    (h1 : backTo pos (starEach [e] X.env) = (false, eval e X.env) :: backTo pos (starEach [] X.env) := by rfl) (h2 : (backTo pos (starEach [e] X.env)).any (·.1) = false := by rfl)
    (h3 : (backToKw pos (keywordEach [⟨some "key", .Name "y_key" p2, kp⟩] X.env)).all (·.1.isSome) = true := by rfl) (h4 : (backToKw pos (keywordEach [⟨some "key", .Name "y_key" p2, kp⟩] X.env)).any (·.1.isNone) = false := by rfl)
    (h5 : (backToKw pos (keywordEach [⟨some "key", .Name "y_key" p2, kp⟩] X.env)).filterMap (·.1) = [Str.ofString "key"] := by rfl) :
    PM X W (.Call (.Name "sorted" p) [e] [⟨some "key", .Name "y_key" p2, kp⟩] pos) (mSortY t) := by
  refine pe_imp (pe_callBK (cr_sortKR F Sw un room) hgs hz (by decide +kernel) ht (pk_cons (pe_glob (v := .ref f) hgy gy rfl) pk_nil) (by decide) (by decide) h1 h2 h3 h4 h5) fun σ H Q ⟨ρ, Γ, S, R, G, q⟩ => ?_
  refine ⟨ρ, Γ, S, R, G, q.bind fun vs S1 ρ1 H1 ws E1 R1 rv q1 => ?_⟩
  cases vs with
  | nil => exact q1.elim
  | cons v r =>
    cases r with
    | cons _ _ => exact q1.elim
    | nil =>
      obtain ⟨y, rfl, r1⟩ := one_of rv rfl
      simp only at q1
      cases e2 : seqOf S1 v with
      | none => rw [e2] at q1; exact q1.elim
      | some xs =>
        rw [e2, Option.bind_some] at q1
        cases e3 : ptsOf xs with
        | none => rw [e3] at q1; exact q1.elim
        | some ps =>
          rw [e3] at q1
          simp only at q1
          obtain ⟨a, zs, rfl, hs, rz⟩ := seq_of R1 r1 e2
          obtain ⟨qs, rfl, h6, h7⟩ := ptsOf_split rz e3
          subst h6
          have em : (sortY qs).map (·.2) = (qs.map (·.2)).mergeSort (dle ptY) := List.map_mergeSort fun a _ b _ => rfl
          rw [← em] at q1
          exact ⟨a, qs, rfl, rfl, hs, h7, (mkL_ans R1 q1.ans (rvs_pts fun q hq => h7 q ((List.mergeSort_perm qs _).mem_iff.mp hq))).2⟩
end
end PM

namespace Q2
open PySem PySem.Spec PyProof.Rows L2
def rGt2 (K : PySem.W.Frag) : R2 := fun x y H Q => ∃ (a b : Addr) (p q : Int × Int), x = .ref a ∧ y = .ref b ∧ SqT K H a [.int p.1, .int p.2] ∧ SqT K H b [.int q.1, .int q.2] ∧ Q (.bl (lt2 q p)) H
section
variable {X : Cx}
theorem op_gt2 (hu : X.A.units < cLine) : OpR X (compareOp .Gt) (rGt2 X.K) := by
  intro pins s σ H vv uu v u Q I rx ry h
  obtain ⟨a, b, ⟨x, y⟩, ⟨x', y'⟩, rfl, rfl, ha, hb, q⟩ := h
  cases rx
  cases ry
  obtain ⟨tx, ty, p1⟩ := raw_pt2 I ha
  obtain ⟨tx', ty', p2⟩ := raw_pt2 I hb
  have R := Ob.RcOp.tuples_gt (A := X.A) (s := s) (e := fun j => match j with | 0 => x == x' | _ => y == y') (r := fun j => match j with | 0 => decide (x' < x) | _ => decide (y' < y)) p1 p2 hu (fun j h1 h2 => by
    match j, h1 with
    | 0, _ => exact SeqAt.EqAt.int_int _ _ _ _
    | 1, _ => exact SeqAt.EqAt.int_int _ _ _ _) (fun j h1 h2 _ => by
    match j, h1 with
    | 0, _ => exact Ob.RcOp.gt_int _ _ _ _
    | 1, _ => exact Ob.RcOp.gt_int _ _ _ _)
  have e : Ob.lexAt (fun j => match j with | 0 => x == x' | _ => y == y') (fun j => match j with | 0 => decide (x' < x) | _ => decide (y' < y)) (decide ((#[Value.int x tx, Value.int y ty] : Array Value).size > (#[Value.int x' tx', Value.int y' ty'] : Array Value).size)) 0 (min (#[Value.int x tx, Value.int y ty] : Array Value).size (#[Value.int x' tx', Value.int y' ty'] : Array Value).size) = lt2 (x', y') (x, y) := by
    show (if (x == x') = true then (if (y == y') = true then decide (2 > 2) else decide (y' < y)) else decide (x' < x)) = lt2 (x', y') (x, y)
    unfold lt2
    by_cases h1 : x = x'
    · subst h1
      by_cases h2 : y = y'
      · subst h2
        simp
      · simp [h2]
    · simp [h1]
      exact fun z _ => absurd z.symm h1
  rw [e] at R
  exact R X.prog X.w X.xe (EP X pins σ Q) ⟨.bl _, H, I, rfl, q⟩
end
end Q2
namespace PM
open PySem PySem.Spec PyProof.Rows L2 Q2
section
variable {X : Cx} {W : XW}
def gtT : F2 := fun v w S => match twoI v, twoI w with
  | some p, some q => some (.bl (lt2 q p), S)
  | _, _ => none
theorem oGtT (hu : X.A.units < cLine) : OpP X (compareOp .Gt) gtT := by
  refine ⟨_, op_gt2 hu, fun ρ S H v w x y Q R rv rw a => ?_⟩
  unfold gtT at a
  cases e1 : twoI v with
  | none => simp only [e1] at a; exact a.elim
  | some p =>
    cases e2 : twoI w with
    | none => simp only [e1, e2] at a; exact a.elim
    | some q =>
      simp only [e1, e2] at a
      have h1 := twoI_eq e1
      have h2 := twoI_eq e2
      subst h1 h2
      obtain ⟨b, rfl, hb⟩ := rv_two rv
      obtain ⟨c, rfl, hc⟩ := rv_two rw
      exact ⟨b, c, p, q, rfl, rfl, hb, hc, a ρ H _ R.refl R rfl⟩
def gtE : F2 := orF2 gtI gtT
theorem oGtE (hu : X.A.units + 64 < cLine) : OpP X (compareOp .Gt) gtE := oGtI.or (oGtT (by omega))
theorem wo_gtE {S : Sto} {Q : Va → Sto → Prop} {x y x' y' : Int} (q : Q (.bl (lt2 (x', y') (x, y))) S) : Wo (gtE (.tup [.int x, .int y]) (.tup [.int x', .int y']) S) Q := q
end
end PM

namespace PM
open PySem PySem.Spec PyProof.Rows L2 Q2
def v_ALL_KEYS : Va := (.tup [(.tup [(.int (-10000000000000000000000000000000)), (.int 0)]), (.tup [(.int 10000000000000000000000000000000), (.int 0)])])
def b_is_integer : MS :=
  (sRet (meAnd (mL fIsi (maC (mV 0) (maC (mC (.ty "int")) maN))) (mNot (mL fIsi (maC (mV 0) (maC (mC (.ty "bool")) maN))))))
def m_is_integer : MF := fnM 1 b_is_integer
def b_is_coordinate : MS :=
  (sRet (meAnd (mCall m_is_integer (maC (mV 0) maN)) (mChain leI leI (m1 negI (mC (.int 1000000000000000000000000000000))) (mV 0) (mC (.int 1000000000000000000000000000000)))))
def m_is_coordinate : MF := fnM 1 b_is_coordinate
def b_is_point : MS :=
  (sSeq (sIf (mtOr (mtNot (mtOf (mL fIsi (maC (mV 0) (maC (mC (.ty "tuple")) maN))))) (mtOf (m2 fNe (mL fLen (maC (mV 0) maN)) (mC (.int 2))))) (sRet (mC (.bl false))) sNil)
    (sRet (meAnd (mCall m_is_coordinate (maC (m2 fIx (mV 0) (mC (.int 0))) maN)) (mCall m_is_coordinate (maC (m2 fIx (mV 0) (mC (.int 1))) maN)))))
def m_is_point : MF := fnM 1 b_is_point
def b_check_point : MS :=
  (sIf (mtNot (mtOf (mCall m_is_point (maC (mV 0) maN)))) (sRaise "InvalidPoint" "value" (mV 0)) sNil)
def m_check_point : MF := fnM 1 b_check_point
def b_check_points : MS :=
  (sSeq (sIf (mtOr (mtNot (mtOf (mIsiT (mV 0) ["list", "tuple"]))) (mtOf (m2 gtI (mL fLen (maC (mV 0) maN)) (mC (.int 500))))) (sRaise "InvalidPoints" "index" (m1 negI (mC (.int 1)))) sNil)
    (sSeq (sSet 1 mSet0)
    (sFor (mEnum (maC (mV 0) maN)) (gT 2 (gsC (gV 2) (gsC (gV 3) gsN))) (sSeq (sIf (mtOr (mtNot (mtOf (mCall m_is_point (maC (mV 3) maN)))) (mtOf (m2 inF (mV 3) (mV 1)))) (sRaise "InvalidPoints" "index" (mV 2)) sNil)
    (sExpr (mAddS (mV 1) (maC (mV 3) maN)))))))
def m_check_points : MF := fnM 4 b_check_points
def b_y_key : MS :=
  (sRet (mL fTup (maC (m2 fIx (mV 0) (mC (.int 1))) (maC (m2 fIx (mV 0) (mC (.int 0))) maN))))
def m_y_key : MF := fnM 1 b_y_key
def b_path_of : MS :=
  (sSeq (sSet 1 (mL fLst maN))
    (sSeq (sWhile 1000000 (mtOf (mNotN (mV 0))) (sSeq (sExpr (mApp (mV 1) (maC (m2 fIx (mV 0) (mC (.int 1))) maN)))
    (sSet 0 (m2 fIx (mV 0) (mC (.int 0))))))
    (sRet (mL tupL (maC (mRevSl (mV 1)) maN)))))
def m_path_of : MF := fnM 2 b_path_of
def b_fault_in_sides : MS :=
  (sSeq (sSet 1 (mC (.int 0)))
    (sSeq (sSet 2 (mL fLst (maC (mL fTup (maC (mV 0) (maC (mC .non) (maC (mC (.int 0)) (maC (mC v_ALL_KEYS) (maC (mC v_ALL_KEYS) maN)))))) maN)))
    (sSeq (sWhile 1000000 (mtTru (mV 2)) (sSeq (sAsg (mPop (mV 2)) (gT 5 (gsC (gV 3) (gsC (gV 4) (gsC (gV 5) (gsC (gV 6) (gsC (gV 7) gsN)))))))
    (sSeq (sIf (mtOf (mIsN (mV 3))) sCnt sNil)
    (sSeq (sAug 1 addI (mC (.int 1)))
    (sSeq (sIf (mtOr (mtOf (m2 gtI (mV 1) (mC (.int 500)))) (mtOr (mtNot (mtOf (mL fIsi (maC (mV 3) (maC (mC (.ty "tuple")) maN))))) (mtOr (mtOf (m2 fNe (mL fLen (maC (mV 3) maN)) (mC (.int 3)))) (mtNot (mtOf (mCall m_is_point (maC (m2 fIx (mV 3) (mC (.int 0))) maN))))))) (sRet (mCall m_path_of (maC (mV 4) maN))) sNil)
    (sSeq (sAsg (mV 3) (gT 3 (gsC (gV 8) (gsC (gV 9) (gsC (gV 10) gsN)))))
    (sSeq (sAsg (mIf (mtOf (m2 fEq (mV 5) (mC (.int 1)))) (mL fTup (maC (mCall m_y_key (maC (mV 8) maN)) (maC (mV 8) maN))) (mL fTup (maC (mV 8) (maC (mCall m_y_key (maC (mV 8) maN)) maN)))) (gT 2 (gsC (gV 11) (gsC (gV 12) gsN))))
    (sSeq (sIf (mtOr (mtNot (mtOf (mChain ltE ltE (m2 fIx (mV 6) (mC (.int 0))) (mV 11) (m2 fIx (mV 6) (mC (.int 1)))))) (mtNot (mtOf (mChain ltE ltE (m2 fIx (mV 7) (mC (.int 0))) (mV 12) (m2 fIx (mV 7) (mC (.int 1))))))) (sRet (mCall m_path_of (maC (mV 4) maN))) sNil)
    (sSeq (sExpr (mApp (mV 2) (maC (mL fTup (maC (mV 10) (maC (mL fTup (maC (mV 4) (maC (mC (.int 1)) maN))) (maC (m2 subI (mC (.int 1)) (mV 5)) (maC (mV 7) (maC (mL fTup (maC (mV 11) (maC (m2 fIx (mV 6) (mC (.int 1))) maN))) maN)))))) maN)))
    (sExpr (mApp (mV 2) (maC (mL fTup (maC (mV 9) (maC (mL fTup (maC (mV 4) (maC (mC (.int 0)) maN))) (maC (m2 subI (mC (.int 1)) (mV 5)) (maC (mV 7) (maC (mL fTup (maC (m2 fIx (mV 6) (mC (.int 0))) (maC (mV 11) maN))) maN)))))) maN))))))))))))
    (sRet (mC .non)))))
def m_fault_in_sides : MF := fnM 13 b_fault_in_sides
def b_check_middle : MS :=
  (sSeq (sSet 1 (mCall m_fault_in_sides (maC (mV 0) maN)))
    (sIf (mtOf (mNotN (mV 1))) (sRaise "InvalidTree" "path" (mV 1)) sNil))
def m_check_middle : MF := fnM 2 b_check_middle
def b_grown_sides (g : MF) : MS :=
  (sSeq (sSet 2 (mL fLen (maC (mV 0) maN)))
    (sSeq (sIf (mtOf (m2 fEq (mV 2) (mC (.int 0)))) (sRet (mC .non)) sNil)
    (sSeq (sIf (mtOf (m2 fEq (mV 2) (mC (.int 1)))) (sRet (mL fTup (maC (m2 fIx (mV 0) (mC (.int 0))) (maC (mC .non) (maC (mC .non) maN))))) sNil)
    (sSeq (sSet 3 (mIf (mtOf (m2 fEq (mV 1) (mC (.int 1)))) (mSortY (maC (mV 0) maN)) (mL fSort (maC (mV 0) maN))))
    (sSeq (sSet 4 (m2 divI (mV 2) (mC (.int 2))))
    (sRet (mL fTup (maC (m2 fIx (mV 3) (mV 4)) (maC (mCall g (maC (mSl fSl (mV 3) none (some (mV 4))) (maC (m2 subI (mC (.int 1)) (mV 1)) maN))) (maC (mCall g (maC (mSl fSl (mV 3) (some (m2 fAdd (mV 4) (mC (.int 1)))) none) (maC (m2 subI (mC (.int 1)) (mV 1)) maN))) maN))))))))))
def m_grown_sides : Nat → MF
  | 0 => mBadF
  | n + 1 => fnM 5 (b_grown_sides (m_grown_sides n))
def b_side_nodes : MS :=
  (sSeq (sSet 1 (mL fLst maN))
    (sSeq (sSet 2 (mL fLst (maC (mV 0) maN)))
    (sSeq (sWhile 1000000 (mtTru (mV 2)) (sSeq (sSet 3 (mPop (mV 2)))
    (sWhile 1000000 (mtOf (mNotN (mV 3))) (sSeq (sExpr (mApp (mV 1) (maC (mV 3) maN)))
    (sSeq (sAsg (mV 3) (gT 3 (gsC (gV 4) (gsC (gV 5) (gsC (gV 6) gsN)))))
    (sSeq (sIf (mtOf (mNotN (mV 6))) (sExpr (mApp (mV 2) (maC (mV 6) maN))) sNil)
    (sSet 3 (mV 5))))))))
    (sRet (mV 1)))))
def m_side_nodes : MF := fnM 7 b_side_nodes
def b_side_points : MS :=
  (sRet (mLc (mWalk (mCall m_side_nodes (maC (mV 0) maN))) (gV 1) mtYes (m2 fIx (mV 1) (mC (.int 0))) [1]))
def m_side_points : MF := fnM 2 b_side_points
def b_count_levels : MS :=
  (sSeq (sSet 1 (mC (.int 0)))
    (sSeq (sSet 2 (mIf (mtOf (mIsN (mV 0))) (mL fLst maN) (mL fLst (maC (mV 0) maN))))
    (sSeq (sWhile 1000000 (mtTru (mV 2)) (sSeq (sAug 1 addI (mC (.int 1)))
    (sSet 2 (mLc2 (mWalk (mV 2)) (gV 3) mtYes (mWalk (mSl fSl (mV 3) (some (mC (.int 1))) none)) (gV 4) (mtOf (mNotN (mV 4))) (mV 4) [3, 4] [4]))))
    (sRet (mV 1)))))
def m_count_levels : MF := fnM 5 b_count_levels
def b_way_by_sides : MS :=
  (sSeq (sSet 2 (mL fLst maN))
    (sSeq (sSet 3 (mV 0))
    (sSeq (sSet 4 (mC (.int 0)))
    (sSeq (sSet 5 (mCall m_y_key (maC (mV 1) maN)))
    (sSeq (sWhile 1000000 (mtAnd (mtOf (mNotN (mV 3))) (mtOf (m2 fNe (m2 fIx (mV 3) (mC (.int 0))) (mV 1)))) (sSeq (sAsg (m2 fIx (mV 3) (mC (.int 0))) (gT 2 (gsC (gV 6) (gsC (gV 7) gsN))))
    (sSeq (sSet 8 (mIf (mtOf (m2 fEq (mV 4) (mC (.int 1)))) (m2 gtE (mV 5) (mL fTup (maC (mV 7) (maC (mV 6) maN)))) (m2 gtE (mV 1) (m2 fIx (mV 3) (mC (.int 0))))))
    (sSeq (sSet 9 (mIf (mtTru (mV 8)) (mC (.int 1)) (mC (.int 0))))
    (sSeq (sExpr (mApp (mV 2) (maC (mL fTup (maC (mV 3) (maC (mV 9) maN))) maN)))
    (sSeq (sSet 3 (m2 fIx (mV 3) (m2 fAdd (mC (.int 1)) (mV 9))))
    (sSet 4 (m2 subI (mC (.int 1)) (mV 4)))))))))
    (sRet (mL fTup (maC (mV 2) (maC (mV 3) maN)))))))))
def m_way_by_sides : MF := fnM 10 b_way_by_sides
def b_put_at_end : MS :=
  (sSeq (sFor (mWalk (mRevSl (mV 0))) (gT 2 (gsC (gT 3 (gsC (gV 2) (gsC (gV 3) (gsC (gV 4) gsN)))) (gsC (gV 5) gsN))) (sSet 1 (mIf (mtOf (m2 fEq (mV 5) (mC (.int 1)))) (mL fTup (maC (mV 2) (maC (mV 3) (maC (mV 1) maN)))) (mL fTup (maC (mV 2) (maC (mV 1) (maC (mV 4) maN)))))))
    (sRet (mV 1)))
def m_put_at_end : MF := fnM 6 b_put_at_end
def b_without_top : MS :=
  (sRet (mCall m_put_at_end (maC (mV 0) (maC (mCall (m_grown_sides 7) (maC (mSl fSl (mCall m_side_points (maC (mV 1) maN)) (some (mC (.int 1))) none) (maC (m2 andI (mL fLen (maC (mV 0) maN)) (mC (.int 1))) maN))) maN))))
def m_without_top : MF := fnM 2 b_without_top
def b_sizes_of : MS :=
  (sSeq (sSet 1 (mL fLst maN))
    (sSeq (sSet 2 (mL fLst maN))
    (sSeq (sFor (mWalk (mRevSl (mV 0))) (gV 3) (sSeq (sSet 4 (mC (.int 1)))
    (sSeq (sFor (mWalk (mV 3)) (gV 5) (sIf (mtOf (mNotN (mV 5))) (sAug 4 addI (mPop (mV 2))) sNil))
    (sSeq (sExpr (mApp (mV 2) (maC (mV 4) maN)))
    (sExpr (mApp (mV 1) (maC (mV 4) maN)))))))
    (sRet (mRevSl (mV 1))))))
def m_sizes_of : MF := fnM 6 b_sizes_of
def b_middle : MS :=
  (sSeq (sExpr (mCall m_check_points (maC (mV 0) maN)))
    (sRet (mCall (m_grown_sides 7) (maC (mV 0) (maC (mC (.int 0)) maN)))))
def m_middle : MF := fnM 1 b_middle
def b_is_even : MS :=
  (sSeq (sExpr (mCall m_check_middle (maC (mV 0) maN)))
    (sSeq (sSet 1 (mCall m_side_nodes (maC (mV 0) maN)))
    (sSeq (sSet 2 (mCall m_sizes_of (maC (mLc (mWalk (mV 1)) (gV 3) mtYes (mSl fSl (mV 3) (some (mC (.int 1))) none) [3]) maN)))
    (sSeq (sFor (mEnum (maC (mV 1) maN)) (gT 2 (gsC (gV 4) (gsC (gV 3) gsN))) (sSeq (sSet 5 (mIf (mtOf (mIsN (m2 fIx (mV 3) (mC (.int 1))))) (mC (.int 0)) (m2 fIx (mV 2) (m2 fAdd (mV 4) (mC (.int 1))))))
    (sIf (mtOf (m2 fNe (mV 5) (m2 divI (m2 fIx (mV 2) (mV 4)) (mC (.int 2))))) (sRet (mC (.bl false))) sNil)))
    (sRet (mC (.bl true)))))))
def m_is_even : MF := fnM 6 b_is_even
def b_in_order : MS :=
  (sSeq (sExpr (mCall m_check_middle (maC (mV 0) maN)))
    (sRet (mCall m_side_points (maC (mV 0) maN))))
def m_in_order : MF := fnM 1 b_in_order
def b_height : MS :=
  (sSeq (sExpr (mCall m_check_middle (maC (mV 0) maN)))
    (sRet (mCall m_count_levels (maC (mV 0) maN))))
def m_height : MF := fnM 1 b_height
def b_taken : MS :=
  (sSeq (sExpr (mCall m_check_middle (maC (mV 0) maN)))
    (sSeq (sExpr (mCall m_check_point (maC (mV 1) maN)))
    (sSeq (sAsg (mCall m_way_by_sides (maC (mV 0) (maC (mV 1) maN))) (gT 2 (gsC (gV 2) (gsC (gV 3) gsN))))
    (sSeq (sIf (mtOf (mIsN (mV 3))) (sRaise "NotThere" "point" (mV 1)) sNil)
    (sRet (mCall m_without_top (maC (mV 2) (maC (mV 3) maN))))))))
def m_taken : MF := fnM 4 b_taken
def b_law_mixed : MS :=
  (sSeq (sSet 2 (m2 modI (mL fInt (maC (m2 fMul (m2 fAdd (m2 modI (mL fInt (maC (mV 0) maN)) (mC (.int 2147483646))) (mC (.int 1))) (m2 fAdd (m2 fMul (mV 1) (mC (.int 7919))) (mC (.int 104729)))) maN)) (mC (.int 2147483647))))
    (sSeq (sSet 2 (m2 modI (mL fInt (maC (m2 fMul (m2 fAdd (mV 2) (m2 fMul (m2 modI (mL fInt (maC (m2 divI (mV 0) (mC (.int 2147483646))) maN)) (mC (.int 1000003))) (m2 fAdd (mV 1) (mC (.int 31))))) (mC (.int 48271))) maN)) (mC (.int 2147483629))))
    (sSeq (sSet 2 (m2 modI (mL fInt (maC (m2 fMul (mV 2) (m2 fAdd (m2 fAdd (m2 divI (mV 2) (mC (.int 1013))) (mC (.int 69621))) (mV 1))) maN)) (mC (.int 2147483587))))
    (sRet (m2 modI (mL fInt (maC (m2 fMul (mV 2) (m2 fAdd (m2 divI (mV 2) (mC (.int 2003))) (mC (.int 40692)))) maN)) (mC (.int 2147483563)))))))
def m_law_mixed : MF := fnM 3 b_law_mixed
def b_law_source : MS :=
  (sSeq (sIf (mtOf (m2 geI (mL fAbs (maC (mV 0) maN)) (m2 powI (mC (.int 10)) (mC (.int 18))))) (sRet (mL fLst (maC (mL fAbs (maC (mV 0) maN)) (maC (mL fAbs (maC (mV 0) maN)) (maC (mC (.int 0)) maN))))) sNil)
    (sRet (mL fLst (maC (mC (.int 0)) (maC (mL fAbs (maC (mV 0) maN)) (maC (mC (.int 0)) maN))))))
def m_law_source : MF := fnM 1 b_law_source
def b_law_take : MS :=
  (sSeq (sIf (mtOf (m2 gtI (m2 fIx (mV 0) (mC (.int 0))) (mC (.int 0)))) (sSeq (sSet 2 (m2 modI (mL fInt (maC (m2 fIx (mV 0) (mC (.int 0))) maN)) (mV 1)))
    (sSeq (sAsg (m2 divI (m2 fIx (mV 0) (mC (.int 0))) (mV 1)) (gSubM (mV 0) (mC (.int 0))))
    (sRet (mV 2)))) sNil)
    (sSeq (sAsg (m2 fAdd (m2 fIx (mV 0) (mC (.int 2))) (mC (.int 1))) (gSubM (mV 0) (mC (.int 2))))
    (sRet (m2 modI (mL fInt (maC (mCall m_law_mixed (maC (m2 fIx (mV 0) (mC (.int 1))) (maC (m2 fIx (mV 0) (mC (.int 2))) maN))) maN)) (mV 1)))))
def m_law_take : MF := fnM 3 b_law_take
def b_law_pick : MS :=
  (sRet (m2 fIx (mV 1) (mCall m_law_take (maC (mV 0) (maC (mL fLen (maC (mV 1) maN)) maN)))))
def m_law_pick : MF := fnM 2 b_law_pick
def b_law_spots : MS :=
  (sSeq (sPar 2 3 (maC (mCall m_law_take (maC (mV 0) (maC (m2 fAdd (mV 1) (mC (.int 1))) maN))) (maC (mCall m_law_pick (maC (mV 0) (maC (mL fLst (maC (mC (.int 3)) (maC (mC (.int 6)) (maC (mC (.int 20)) (maC (m2 powI (mC (.int 10)) (mC (.int 9))) (maC (m2 powI (mC (.int 10)) (mC (.int 30))) maN)))))) maN))) maN)))
    (sSeq (sSet 4 (mL fLst maN))
    (sSeq (sFor (mRng1 (maC (mV 2) maN)) (gV 5) (sSeq (sSet 6 (mL fTup (maC (m2 subI (mCall m_law_take (maC (mV 0) (maC (m2 fAdd (m2 fMul (mC (.int 2)) (mV 3)) (mC (.int 1))) maN))) (mV 3)) (maC (m2 subI (mCall m_law_take (maC (mV 0) (maC (m2 fAdd (m2 fMul (mC (.int 2)) (mV 3)) (mC (.int 1))) maN))) (mV 3)) maN))))
    (sSet 4 (m2 fAdd (mV 4) (m2 fMul (mL fLst (maC (mV 6) maN)) (mL fInt (maC (m2 (inD true) (mV 6) (mV 4)) maN)))))))
    (sRet (mV 4)))))
def m_law_spots : MF := fnM 7 b_law_spots
def b_law_shuffled : MS :=
  (sSeq (sPar 2 3 (maC (mL fList (maC (mV 1) maN)) (maC (mL fLst maN) maN)))
    (sSeq (sFor (mRng1 (maC (mL fLen (maC (mV 1) maN)) maN)) (gV 4) (sExpr (mApp (mV 3) (maC (mPopAt (mV 2) (maC (mCall m_law_take (maC (mV 0) (maC (mL fLen (maC (mV 2) maN)) maN))) maN)) maN))))
    (sRet (mV 3))))
def m_law_shuffled : MF := fnM 5 b_law_shuffled
def b_law_moved (g : MF) : MS :=
  (sSeq (sIf (mtOf (mIsN (mV 0))) (sRet (mC .non)) sNil)
    (sSeq (sSet 4 (mL fTup (maC (m2 fAdd (mV 1) (m2 fMul (mV 3) (m2 fIx (m2 fIx (mV 0) (mC (.int 0))) (mC (.int 0))))) (maC (m2 fAdd (mV 2) (m2 fMul (mV 3) (m2 fIx (m2 fIx (mV 0) (mC (.int 0))) (mC (.int 1))))) maN))))
    (sRet (mL fTup (maC (mV 4) (maC (mCall g (maC (m2 fIx (mV 0) (mC (.int 1))) (maC (mV 1) (maC (mV 2) (maC (mV 3) maN))))) (maC (mCall g (maC (m2 fIx (mV 0) (mC (.int 2))) (maC (mV 1) (maC (mV 2) (maC (mV 3) maN))))) maN)))))))
def m_law_moved : Nat → MF
  | 0 => mBadF
  | n + 1 => fnM 5 (b_law_moved (m_law_moved n))
def b_law_mirrored (g : MF) : MS :=
  (sSeq (sIf (mtOf (mIsN (mV 0))) (sRet (mC .non)) sNil)
    (sRet (mL fTup (maC (mL fTup (maC (m1 negI (m2 fIx (m2 fIx (mV 0) (mC (.int 0))) (mC (.int 0)))) (maC (m1 negI (m2 fIx (m2 fIx (mV 0) (mC (.int 0))) (mC (.int 1)))) maN))) (maC (mCall g (maC (m2 fIx (mV 0) (mC (.int 2))) maN)) (maC (mCall g (maC (m2 fIx (mV 0) (mC (.int 1))) maN)) maN))))))
def m_law_mirrored : Nat → MF
  | 0 => mBadF
  | n + 1 => fnM 1 (b_law_mirrored (m_law_mirrored n))
def b_law_turned_about (g : MF) : MS :=
  (sSeq (sIf (mtOf (mIsN (mV 0))) (sRet (mC .non)) sNil)
    (sRet (mL fTup (maC (mRevT (m2 fIx (mV 0) (mC (.int 0)))) (maC (mCall g (maC (m2 fIx (mV 0) (mC (.int 1))) maN)) (maC (mCall g (maC (m2 fIx (mV 0) (mC (.int 2))) maN)) maN))))))
def m_law_turned_about : Nat → MF
  | 0 => mBadF
  | n + 1 => fnM 1 (b_law_turned_about (m_law_turned_about n))
def b_law : MS :=
  (sSeq (sFor (mWalk (mSl fSl (m2 fAdd (mV 0) (mL fLst (maC (mC (.int 0)) maN))) none (some (mC (.int 4))))) (gV 1) (sSeq (sSet 2 (mCall m_law_source (maC (mV 1) maN)))
    (sSeq (sSet 3 (mCall m_law_spots (maC (mV 2) (maC (mC (.int 60)) maN))))
    (sSeq (sSet 4 (mIf (mtOf (m2 gtI (mL fMax (maC (m2 fAdd (mL fLst (maC (mC (.int 0)) maN)) (mLc (mWalk (mV 3)) (gT 2 (gsC (gV 5) (gsC (gV 6) gsN))) mtYes (m2 fAdd (mL fAbs (maC (mV 5) maN)) (mL fAbs (maC (mV 6) maN))) [5, 6])) maN)) (m2 powI (mC (.int 10)) (mC (.int 17))))) (m2 powI (mC (.int 10)) (mC (.int 13))) (mC (.int 1))))
    (sSeq (sSet 3 (mLc (mWalk (mV 3)) (gT 2 (gsC (gV 5) (gsC (gV 6) gsN))) mtYes (mL fTup (maC (m2 divI (mV 5) (mV 4)) (maC (m2 divI (mV 6) (mV 4)) maN))) [5, 6]))
    (sSeq (sSet 3 (mLc (mEnum (maC (mV 3) maN)) (gT 2 (gsC (gV 7) (gsC (gV 8) gsN))) (mtOf (m2 (inD true) (mV 8) (mSl fSl (mV 3) none (some (mV 7))))) (mV 8) [7, 8]))
    (sSeq (sSet 9 (mL fLen (maC (mLc (mWalk (mL fTup (maC (mC (.int 1)) (maC (mC (.int 2)) (maC (mC (.int 4)) (maC (mC (.int 8)) (maC (mC (.int 16)) (maC (mC (.int 32)) maN)))))))) (gV 7) (mtOf (m2 leI (mV 7) (mL fLen (maC (mV 3) maN)))) (mV 7) [7]) maN)))
    (sSeq (sSet 10 (mCall m_middle (maC (mV 3) maN)))
    (sSeq (sIf (mtOr (mtOf (m2 fNe (mCall m_height (maC (mV 10) maN)) (mV 9))) (mtOf (m2 fNe (mCall m_middle (maC (mCall m_law_shuffled (maC (mV 2) (maC (mV 3) maN))) maN)) (mV 10)))) (sRet (mC (.bl false))) sNil)
    (sSeq (sIf (mtOf (m2 fNe (mL fSort (maC (mCall m_in_order (maC (mV 10) maN)) maN)) (mL fSort (maC (mV 3) maN)))) (sRet (mC (.bl false))) sNil)
    (sSeq (sAsg (mL fTup (maC (mCall m_law_take (maC (mV 2) (maC (m2 powI (mC (.int 10)) (mC (.int 9))) maN))) (maC (m1 negI (mCall m_law_take (maC (mV 2) (maC (m2 powI (mC (.int 10)) (mC (.int 9))) maN)))) (maC (m2 fAdd (mC (.int 1)) (mCall m_law_take (maC (mV 2) (maC (m2 powI (mC (.int 10)) (mC (.int 6))) maN)))) maN)))) (gT 3 (gsC (gV 11) (gsC (gV 12) (gsC (gV 13) gsN)))))
    (sSeq (sIf (mtOf (m2 fNe (mCall m_middle (maC (mLc (mWalk (mV 3)) (gT 2 (gsC (gV 5) (gsC (gV 6) gsN))) mtYes (mL fTup (maC (m2 fAdd (mV 11) (m2 fMul (mV 13) (mV 5))) (maC (m2 fAdd (mV 12) (m2 fMul (mV 13) (mV 6))) maN))) [5, 6]) maN)) (mCall (m_law_moved 8) (maC (mV 10) (maC (mV 11) (maC (mV 12) (maC (mV 13) maN))))))) (sRet (mC (.bl false))) sNil)
    (sSeq (sSet 14 (mSl fSl (mV 3) none (some (m2 fIx (mLc (mWalk (mL fTup (maC (mC (.int 0)) (maC (mC (.int 1)) (maC (mC (.int 3)) (maC (mC (.int 7)) (maC (mC (.int 15)) (maC (mC (.int 31)) maN)))))))) (gV 7) (mtOf (m2 leI (mV 7) (mL fLen (maC (mV 3) maN)))) (mV 7) [7]) (m1 negI (mC (.int 1)))))))
    (sSeq (sIf (mtOf (m2 fNe (mCall m_middle (maC (mLc (mWalk (mV 14)) (gT 2 (gsC (gV 5) (gsC (gV 6) gsN))) mtYes (mL fTup (maC (m1 negI (mV 5)) (maC (m1 negI (mV 6)) maN))) [5, 6]) maN)) (mCall (m_law_mirrored 8) (maC (mCall m_middle (maC (mV 14) maN)) maN)))) (sRet (mC (.bl false))) sNil)
    (sSeq (sIf (mtOr (mtOf (m2 fNe (mCall m_middle (maC (mCall m_in_order (maC (mV 10) maN)) maN)) (mV 10))) (mtOf (m2 (isB true) (mCall m_is_even (maC (mV 10) maN)) (mC (.bl true))))) (sRet (mC (.bl false))) sNil)
    (sIf (mtOf (mNotN (mV 10))) (sSeq (sFor (mWalk (mL fTup (maC (mC (.int 1)) (maC (mC (.int 2)) maN)))) (gV 15) (sSeq (sSet 16 (mSl fSl (mCall m_in_order (maC (mIf (mtOf (m2 fEq (mV 15) (mC (.int 1)))) (mL fTup (maC (m2 fIx (mV 10) (mC (.int 0))) (maC (m2 fIx (mV 10) (mC (.int 1))) (maC (mC .non) maN)))) (mL fTup (maC (m2 fIx (mV 10) (mC (.int 0))) (maC (mC .non) (maC (m2 fIx (mV 10) (mC (.int 2))) maN))))) maN)) (some (mC (.int 1))) none))
    (sIf (mtOf (m2 fNe (mCall m_middle (maC (mLc (mWalk (mV 16)) (gV 8) mtYes (mRevT (mV 8)) [8]) maN)) (mCall (m_law_turned_about 8) (maC (m2 fIx (mV 10) (mV 15)) maN)))) (sRet (mC (.bl false))) sNil)))
    (sSeq (sIf (mtOf (m2 fNe (mL fSort (maC (mCall m_in_order (maC (mCall m_taken (maC (mV 10) (maC (m2 fIx (mV 10) (mC (.int 0))) maN))) maN)) maN)) (mL fSort (maC (mLc (mWalk (mV 3)) (gV 8) (mtOf (m2 fNe (mV 8) (m2 fIx (mV 10) (mC (.int 0))))) (mV 8) [8]) maN)))) (sRet (mC (.bl false))) sNil)
    (sIf (mtOf (m2 fNe (mCall m_taken (maC (mV 10) (maC (m2 fIx (mV 10) (mC (.int 0))) maN))) (mCall m_middle (maC (mLc (mWalk (mV 3)) (gV 8) (mtOf (m2 fNe (mV 8) (m2 fIx (mV 10) (mC (.int 0))))) (mV 8) [8]) maN)))) (sRet (mC (.bl false))) sNil))) sNil))))))))))))))))
    (sRet (mC (.bl true))))
def m_law : MF := fnM 17 b_law
end PM

namespace PM
open PySem PySem.Spec PyProof.Rows L2 Q2
structure Top (P : Program) (w : World) (K : PySem.W.Frag) (mg : Str → Option Value) (base : Heap) where
  f_is_integer : Addr
  fd_is_integer : FuncData
  F_is_integer : FnP K "is_integer" s_is_integer f_is_integer fd_is_integer
  b_is_integer : Binds K fd_is_integer ["value"] []
  m_is_integer : mg "is_integer" = some (.ref f_is_integer)
  f_is_coordinate : Addr
  fd_is_coordinate : FuncData
  F_is_coordinate : FnP K "is_coordinate" s_is_coordinate f_is_coordinate fd_is_coordinate
  b_is_coordinate : Binds K fd_is_coordinate ["value"] []
  m_is_coordinate : mg "is_coordinate" = some (.ref f_is_coordinate)
  f_is_point : Addr
  fd_is_point : FuncData
  F_is_point : FnP K "is_point" s_is_point f_is_point fd_is_point
  b_is_point : Binds K fd_is_point ["value"] []
  m_is_point : mg "is_point" = some (.ref f_is_point)
  f_check_point : Addr
  fd_check_point : FuncData
  F_check_point : FnP K "check_point" s_check_point f_check_point fd_check_point
  b_check_point : Binds K fd_check_point ["value"] []
  m_check_point : mg "check_point" = some (.ref f_check_point)
  f_check_points : Addr
  fd_check_points : FuncData
  F_check_points : FnP K "check_points" s_check_points f_check_points fd_check_points
  b_check_points : Binds K fd_check_points ["value"] []
  m_check_points : mg "check_points" = some (.ref f_check_points)
  f_y_key : Addr
  fd_y_key : FuncData
  F_y_key : FnP K "y_key" s_y_key f_y_key fd_y_key
  b_y_key : Binds K fd_y_key ["point"] []
  m_y_key : mg "y_key" = some (.ref f_y_key)
  f_path_of : Addr
  fd_path_of : FuncData
  F_path_of : FnP K "path_of" s_path_of f_path_of fd_path_of
  b_path_of : Binds K fd_path_of ["steps"] []
  m_path_of : mg "path_of" = some (.ref f_path_of)
  f_fault_in_sides : Addr
  fd_fault_in_sides : FuncData
  F_fault_in_sides : FnP K "fault_in_sides" s_fault_in_sides f_fault_in_sides fd_fault_in_sides
  b_fault_in_sides : Binds K fd_fault_in_sides ["value"] []
  m_fault_in_sides : mg "fault_in_sides" = some (.ref f_fault_in_sides)
  f_check_middle : Addr
  fd_check_middle : FuncData
  F_check_middle : FnP K "check_middle" s_check_middle f_check_middle fd_check_middle
  b_check_middle : Binds K fd_check_middle ["value"] []
  m_check_middle : mg "check_middle" = some (.ref f_check_middle)
  f_grown_sides : Addr
  fd_grown_sides : FuncData
  F_grown_sides : FnP K "grown_sides" s_grown_sides f_grown_sides fd_grown_sides
  b_grown_sides : Binds K fd_grown_sides ["points", "axis"] []
  m_grown_sides : mg "grown_sides" = some (.ref f_grown_sides)
  f_side_nodes : Addr
  fd_side_nodes : FuncData
  F_side_nodes : FnP K "side_nodes" s_side_nodes f_side_nodes fd_side_nodes
  b_side_nodes : Binds K fd_side_nodes ["tree"] []
  m_side_nodes : mg "side_nodes" = some (.ref f_side_nodes)
  f_side_points : Addr
  fd_side_points : FuncData
  F_side_points : FnP K "side_points" s_side_points f_side_points fd_side_points
  b_side_points : Binds K fd_side_points ["tree"] []
  m_side_points : mg "side_points" = some (.ref f_side_points)
  f_count_levels : Addr
  fd_count_levels : FuncData
  F_count_levels : FnP K "count_levels" s_count_levels f_count_levels fd_count_levels
  b_count_levels : Binds K fd_count_levels ["tree"] []
  m_count_levels : mg "count_levels" = some (.ref f_count_levels)
  f_way_by_sides : Addr
  fd_way_by_sides : FuncData
  F_way_by_sides : FnP K "way_by_sides" s_way_by_sides f_way_by_sides fd_way_by_sides
  b_way_by_sides : Binds K fd_way_by_sides ["tree", "point"] []
  m_way_by_sides : mg "way_by_sides" = some (.ref f_way_by_sides)
  f_put_at_end : Addr
  fd_put_at_end : FuncData
  F_put_at_end : FnP K "put_at_end" s_put_at_end f_put_at_end fd_put_at_end
  b_put_at_end : Binds K fd_put_at_end ["above", "tree"] []
  m_put_at_end : mg "put_at_end" = some (.ref f_put_at_end)
  f_without_top : Addr
  fd_without_top : FuncData
  F_without_top : FnP K "without_top" s_without_top f_without_top fd_without_top
  b_without_top : Binds K fd_without_top ["above", "node"] []
  m_without_top : mg "without_top" = some (.ref f_without_top)
  f_sizes_of : Addr
  fd_sizes_of : FuncData
  F_sizes_of : FnP K "sizes_of" s_sizes_of f_sizes_of fd_sizes_of
  b_sizes_of : Binds K fd_sizes_of ["rows"] []
  m_sizes_of : mg "sizes_of" = some (.ref f_sizes_of)
  f_middle : Addr
  fd_middle : FuncData
  F_middle : FnP K "middle" s_middle f_middle fd_middle
  b_middle : Binds K fd_middle ["points"] []
  m_middle : mg "middle" = some (.ref f_middle)
  f_is_even : Addr
  fd_is_even : FuncData
  F_is_even : FnP K "is_even" s_is_even f_is_even fd_is_even
  b_is_even : Binds K fd_is_even ["tree"] []
  m_is_even : mg "is_even" = some (.ref f_is_even)
  f_in_order : Addr
  fd_in_order : FuncData
  F_in_order : FnP K "in_order" s_in_order f_in_order fd_in_order
  b_in_order : Binds K fd_in_order ["tree"] []
  m_in_order : mg "in_order" = some (.ref f_in_order)
  f_height : Addr
  fd_height : FuncData
  F_height : FnP K "height" s_height f_height fd_height
  b_height : Binds K fd_height ["tree"] []
  m_height : mg "height" = some (.ref f_height)
  f_taken : Addr
  fd_taken : FuncData
  F_taken : FnP K "taken" s_taken f_taken fd_taken
  b_taken : Binds K fd_taken ["tree", "point"] []
  m_taken : mg "taken" = some (.ref f_taken)
  f_law_mixed : Addr
  fd_law_mixed : FuncData
  F_law_mixed : FnP K "_law_mixed" s_law_mixed f_law_mixed fd_law_mixed
  b_law_mixed : Binds K fd_law_mixed ["_law_cell", "_law_draw"] []
  m_law_mixed : mg "_law_mixed" = some (.ref f_law_mixed)
  f_law_source : Addr
  fd_law_source : FuncData
  F_law_source : FnP K "_law_source" s_law_source f_law_source fd_law_source
  b_law_source : Binds K fd_law_source ["_law_cell"] []
  m_law_source : mg "_law_source" = some (.ref f_law_source)
  f_law_take : Addr
  fd_law_take : FuncData
  F_law_take : FnP K "_law_take" s_law_take f_law_take fd_law_take
  b_law_take : Binds K fd_law_take ["_law_source_here", "_law_bound"] []
  m_law_take : mg "_law_take" = some (.ref f_law_take)
  f_law_pick : Addr
  fd_law_pick : FuncData
  F_law_pick : FnP K "_law_pick" s_law_pick f_law_pick fd_law_pick
  b_law_pick : Binds K fd_law_pick ["_law_source_here", "_law_some"] []
  m_law_pick : mg "_law_pick" = some (.ref f_law_pick)
  f_law_spots : Addr
  fd_law_spots : FuncData
  F_law_spots : FnP K "_law_spots" s_law_spots f_law_spots fd_law_spots
  b_law_spots : Binds K fd_law_spots ["_law_source_here", "_law_most"] []
  m_law_spots : mg "_law_spots" = some (.ref f_law_spots)
  f_law_shuffled : Addr
  fd_law_shuffled : FuncData
  F_law_shuffled : FnP K "_law_shuffled" s_law_shuffled f_law_shuffled fd_law_shuffled
  b_law_shuffled : Binds K fd_law_shuffled ["_law_source_here", "_law_some"] []
  m_law_shuffled : mg "_law_shuffled" = some (.ref f_law_shuffled)
  f_law_moved : Addr
  fd_law_moved : FuncData
  F_law_moved : FnP K "_law_moved" s_law_moved f_law_moved fd_law_moved
  b_law_moved : Binds K fd_law_moved ["_law_wood", "_law_a", "_law_b", "_law_grow"] []
  m_law_moved : mg "_law_moved" = some (.ref f_law_moved)
  f_law_mirrored : Addr
  fd_law_mirrored : FuncData
  F_law_mirrored : FnP K "_law_mirrored" s_law_mirrored f_law_mirrored fd_law_mirrored
  b_law_mirrored : Binds K fd_law_mirrored ["_law_wood"] []
  m_law_mirrored : mg "_law_mirrored" = some (.ref f_law_mirrored)
  f_law_turned_about : Addr
  fd_law_turned_about : FuncData
  F_law_turned_about : FnP K "_law_turned_about" s_law_turned_about f_law_turned_about fd_law_turned_about
  b_law_turned_about : Binds K fd_law_turned_about ["_law_wood"] []
  m_law_turned_about : mg "_law_turned_about" = some (.ref f_law_turned_about)
  f_law : Addr
  fd_law : FuncData
  F_law : FnP K "law" s_law f_law fd_law
  b_law : Binds K fd_law ["_law_script"] []
  m_law : mg "law" = some (.ref f_law)
  t_FARTHEST_COORDINATE : Tok
  c_FARTHEST_COORDINATE : mg "FARTHEST_COORDINATE" = some (.int 1000000000000000000000000000000 t_FARTHEST_COORDINATE)
  t_MOST_POINTS : Tok
  c_MOST_POINTS : mg "MOST_POINTS" = some (.int 500 t_MOST_POINTS)
  t_MOST_NODES : Tok
  c_MOST_NODES : mg "MOST_NODES" = some (.int 500 t_MOST_NODES)
  a_ALL_KEYS : Addr
  c_ALL_KEYS : mg "ALL_KEYS" = some (.ref a_ALL_KEYS)
  r_ALL_KEYS : ∀ ρ H, Rv ⟨K, P, w⟩ ρ H v_ALL_KEYS (.ref a_ALL_KEYS)
  a_InvalidPoint : Addr
  e_InvalidPoint : Q3.SupC P K mg a_InvalidPoint "InvalidPoint" "value"
  a_InvalidPoints : Addr
  e_InvalidPoints : Q3.SupC P K mg a_InvalidPoints "InvalidPoints" "index"
  a_InvalidTree : Addr
  e_InvalidTree : Q3.SupC P K mg a_InvalidTree "InvalidTree" "path"
  a_NotThere : Addr
  e_NotThere : Q3.SupC P K mg a_NotThere "NotThere" "point"
  n_abs : mg "abs" = none
  n_bool : mg "bool" = none
  n_enumerate : mg "enumerate" = none
  n_int : mg "int" = none
  n_isinstance : mg "isinstance" = none
  n_len : mg "len" = none
  n_list : mg "list" = none
  n_max : mg "max" = none
  n_range : mg "range" = none
  n_set : mg "set" = none
  n_sorted : mg "sorted" = none
  n_tuple : mg "tuple" = none
section
variable {P : Program} {w : World} {K : PySem.W.Frag} {mg : Str → Option Value} {base : Heap}
theorem room_dep {A : Around} {k : Nat} (hr : Room k A) : A.depth < recursionLimit := by have := hr.dp; omega
theorem hu65 {A : Around} {k : Nat} (hr : Room k A) : A.units + 65 < cLine := by have := hr.un; omega
abbrev N_is_integer : List Str := ["value"]
theorem sc_is_integer : FnScope N_is_integer ["value"] (defScope s_is_integer) := ⟨rfl, rfl, rfl, by decide +kernel, rfl, by decide +kernel, by decide +kernel⟩
theorem d_is_integer (Z : Top P w K mg base) : Dx P w K mg base 1 "is_integer" ["value"] m_is_integer Z.f_is_integer Z.fd_is_integer :=
  ⟨fn_ok (N := N_is_integer) (ps := ["value"]) (k := 0) (m := b_is_integer) Z.F_is_integer sc_is_integer fun cdv A outer s H E W hr tk => by
      have PO := passes_of (X := cxOf (L2.CX P w) P w K mg base N_is_integer "is_integer" (defScope s_is_integer) Z.f_is_integer cdv A outer s H E) rfl
      exact (pmss_one (pms_ret (pm_and (pm_callB cIsi (by rfl) Z.n_isinstance (by decide +kernel) (pma_cons (pm_var (pv 0)) (pma_cons (pm_const (w := .ty "int") (pe_bltn (v := .ty "int") (by rfl) Z.n_int (by decide +kernel) rfl) (fun _ _ => rfl)) pma_nil))) (pm_one (pm_not (pm_callB cIsi (by rfl) Z.n_isinstance (by decide +kernel) (pma_cons (pm_var (pv 0)) (pma_cons (pm_const (w := .ty "bool") (pe_bltn (v := .ty "bool") (by rfl) Z.n_bool (by decide +kernel) rfl) (fun _ _ => rfl)) pma_nil)))))))), Z.F_is_integer.kp, Z.b_is_integer, Z.m_is_integer⟩
abbrev N_is_coordinate : List Str := ["value"]
theorem sc_is_coordinate : FnScope N_is_coordinate ["value"] (defScope s_is_coordinate) := ⟨rfl, rfl, rfl, by decide +kernel, rfl, by decide +kernel, by decide +kernel⟩
theorem d_is_coordinate (Z : Top P w K mg base) : Dx P w K mg base 2 "is_coordinate" ["value"] m_is_coordinate Z.f_is_coordinate Z.fd_is_coordinate :=
  ⟨fn_ok (N := N_is_coordinate) (ps := ["value"]) (k := 1) (m := b_is_coordinate) Z.F_is_coordinate sc_is_coordinate fun cdv A outer s H E W hr tk => by
      have PO := passes_of (X := cxOf (L2.CX P w) P w K mg base N_is_coordinate "is_coordinate" (defScope s_is_coordinate) Z.f_is_coordinate cdv A outer s H E) rfl
      exact (pmss_one (pms_ret (pm_and (pm_call (d_is_integer Z) tk (hr.mono (by decide)) (by rfl) (pma_cons (pm_var (pv 0)) pma_nil) rfl (hn := ArgN.len (n := 1) (.cons .nil))) (pm_one (pm_chain oLe oLe (pm_neg (pm_const (w := .int 1000000000000000000000000000000) (pe_glob (v := .int 1000000000000000000000000000000) (by rfl) Z.c_FARTHEST_COORDINATE ⟨_, rfl⟩) (fun _ _ => rfl))) (pm_var (pv 0)) (pm_const (w := .int 1000000000000000000000000000000) (pe_glob (v := .int 1000000000000000000000000000000) (by rfl) Z.c_FARTHEST_COORDINATE ⟨_, rfl⟩) (fun _ _ => rfl))))))), Z.F_is_coordinate.kp, Z.b_is_coordinate, Z.m_is_coordinate⟩
abbrev N_is_point : List Str := ["value"]
theorem sc_is_point : FnScope N_is_point ["value"] (defScope s_is_point) := ⟨rfl, rfl, rfl, by decide +kernel, rfl, by decide +kernel, by decide +kernel⟩
theorem d_is_point (Z : Top P w K mg base) : Dx P w K mg base 3 "is_point" ["value"] m_is_point Z.f_is_point Z.fd_is_point :=
  ⟨fn_ok (N := N_is_point) (ps := ["value"]) (k := 2) (m := b_is_point) Z.F_is_point sc_is_point fun cdv A outer s H E W hr tk => by
      have PO := passes_of (X := cxOf (L2.CX P w) P w K mg base N_is_point "is_point" (defScope s_is_point) Z.f_is_point cdv A outer s H E) rfl
      exact (pmss_cons (pms_if (PW.pt (pmw_or (pmt_not (pmt_val (pm_callB cIsi (by rfl) Z.n_isinstance (by decide +kernel) (pma_cons (pm_var (pv 0)) (pma_cons (pm_const (w := .ty "tuple") (pe_bltn (v := .ty "tuple") (by rfl) Z.n_tuple (by decide +kernel) rfl) (fun _ _ => rfl)) pma_nil))))) (pmw_or1 (pmt_cmp (oNe hr.units) (pm_callB cLen (by rfl) Z.n_len PySem.boot_len (pma_cons (pm_var (pv 0)) pma_nil)) pm_int (nomark _))))) (pmss_one (pms_ret pm_bl)) pmss_nil)
        (pmss_one (pms_ret (pm_and (pm_call (d_is_coordinate Z) tk (hr.mono (by decide)) (by rfl) (pma_cons (pm_ix iIx (pm_var (pv 0)) pm_int (fun _ _ => rfl)) pma_nil) rfl (hn := ArgN.len (n := 1) (.cons .nil))) (pm_one (pm_call (d_is_coordinate Z) tk (hr.mono (by decide)) (by rfl) (pma_cons (pm_ix iIx (pm_var (pv 0)) pm_int (fun _ _ => rfl)) pma_nil) rfl (hn := ArgN.len (n := 1) (.cons .nil)))))))), Z.F_is_point.kp, Z.b_is_point, Z.m_is_point⟩
abbrev N_check_point : List Str := ["value"]
theorem sc_check_point : FnScope N_check_point ["value"] (defScope s_check_point) := ⟨rfl, rfl, rfl, by decide +kernel, rfl, by decide +kernel, by decide +kernel⟩
theorem d_check_point (Z : Top P w K mg base) : Dx P w K mg base 4 "check_point" ["value"] m_check_point Z.f_check_point Z.fd_check_point :=
  ⟨fn_ok (N := N_check_point) (ps := ["value"]) (k := 3) (m := b_check_point) Z.F_check_point sc_check_point fun cdv A outer s H E W hr tk => by
      have PO := passes_of (X := cxOf (L2.CX P w) P w K mg base N_check_point "check_point" (defScope s_check_point) Z.f_check_point cdv A outer s H E) rfl
      exact (pmss_one (pms_if (pmt_not (pmt_val (pm_call (d_is_point Z) tk (hr.mono (by decide)) (by rfl) (pma_cons (pm_var (pv 0)) pma_nil) rfl (hn := ArgN.len (n := 1) (.cons .nil))))) (pmss_one (pms_raise (k := 0) Z.e_InvalidPoint tk (hr.mono (by decide)) (by rfl) (pm_var (pv 0)))) pmss_nil)), Z.F_check_point.kp, Z.b_check_point, Z.m_check_point⟩
abbrev N_check_points : List Str := ["value", "seen", "index", "entry"]
theorem sc_check_points : FnScope N_check_points ["value"] (defScope s_check_points) := ⟨rfl, rfl, rfl, by decide +kernel, rfl, by decide +kernel, by decide +kernel⟩
theorem d_check_points (Z : Top P w K mg base) : Dx P w K mg base 4 "check_points" ["value"] m_check_points Z.f_check_points Z.fd_check_points :=
  ⟨fn_ok (N := N_check_points) (ps := ["value"]) (k := 3) (m := b_check_points) Z.F_check_points sc_check_points fun cdv A outer s H E W hr tk => by
      have PO := passes_of (X := cxOf (L2.CX P w) P w K mg base N_check_points "check_points" (defScope s_check_points) Z.f_check_points cdv A outer s H E) rfl
      exact (pmss_cons (pms_if (PW.pt (pmw_or (pmt_not (pmt_val (pm_isiT (ts := ["list", "tuple"]) (by rfl) Z.n_isinstance (by decide +kernel) (pm_var (pv 0)) (pa_cons (pe_bltn (v := .ty "list") (by rfl) Z.n_list (by decide +kernel) rfl) (pa_cons (pe_bltn (v := .ty "tuple") (by rfl) Z.n_tuple (by decide +kernel) rfl) pa_nil)) (by decide)))) (pmw_or1 (pmt_cmp oGtI (pm_callB cLen (by rfl) Z.n_len PySem.boot_len (pma_cons (pm_var (pv 0)) pma_nil)) (pm_const (w := .int 500) (pe_glob (v := .int 500) (by rfl) Z.c_MOST_POINTS ⟨_, rfl⟩) (fun _ _ => rfl)) (nomark _))))) (pmss_one (pms_raise (k := 0) Z.e_InvalidPoints tk (hr.mono (by decide)) (by rfl) (pm_neg pm_int))) pmss_nil)
        (pmss_cons (pms_set (ps_set (i := 1) sc_check_points.nd rfl (.inl rfl) (pm_set0 (by rfl) Z.n_set (by decide +kernel))))
        (pmss_one (pms_for PO rfl (pmi_enum (by rfl) Z.n_enumerate (pma_cons (pm_var (pv 0)) pma_nil)) (pmg_tup rfl (pmgs_cons (pmg_name (pg_name (i := 2) sc_check_points.nd rfl (.inl rfl))) (pmgs_cons (pmg_name (pg_name (i := 3) sc_check_points.nd rfl (.inl rfl))) pmgs_nil))) (pmss_cons (pms_if (PW.pt (pmw_or (pmt_not (pmt_val (pm_call (d_is_point Z) tk (hr.mono (by decide)) (by rfl) (pma_cons (pm_var (pv 3)) pma_nil) rfl (hn := ArgN.len (n := 1) (.cons .nil))))) (pmw_or1 (pmt_cmp (oInF (hu65 hr)) (pm_var (pv 3)) (pm_var (pv 1)) (by with_unfolding_all rfl))))) (pmss_one (pms_raise (k := 0) Z.e_InvalidPoints tk (hr.mono (by decide)) (by rfl) (pm_var (pv 2)))) pmss_nil)
        (pmss_one (pms_expr (pm_addS hr.units (pm_var (pv 1)) (pma_cons (pm_var (pv 3)) pma_nil))))))))), Z.F_check_points.kp, Z.b_check_points, Z.m_check_points⟩
abbrev N_y_key : List Str := ["point"]
theorem sc_y_key : FnScope N_y_key ["point"] (defScope s_y_key) := ⟨rfl, rfl, rfl, by decide +kernel, rfl, by decide +kernel, by decide +kernel⟩
theorem d_y_key (Z : Top P w K mg base) : Dx P w K mg base 1 "y_key" ["point"] m_y_key Z.f_y_key Z.fd_y_key :=
  ⟨fn_ok (N := N_y_key) (ps := ["point"]) (k := 0) (m := b_y_key) Z.F_y_key sc_y_key fun cdv A outer s H E W hr tk => by
      have PO := passes_of (X := cxOf (L2.CX P w) P w K mg base N_y_key "y_key" (defScope s_y_key) Z.f_y_key cdv A outer s H E) rfl
      exact (pmss_one (pms_ret (pm_tup (pma_cons (pm_ix iIx (pm_var (pv 0)) pm_int (fun _ _ => rfl)) (pma_cons (pm_ix iIx (pm_var (pv 0)) pm_int (fun _ _ => rfl)) pma_nil))))), Z.F_y_key.kp, Z.b_y_key, Z.m_y_key⟩
theorem swaps_y : Swaps s_y_key := ⟨"point", _, _, _, _, _, _, _, _, _, _, _, sc_y_key, rfl, by decide, rfl, fun _ _ _ _ _ _ _ _ _ => rfl⟩
abbrev N_path_of : List Str := ["steps", "path"]
theorem sc_path_of : FnScope N_path_of ["steps"] (defScope s_path_of) := ⟨rfl, rfl, rfl, by decide +kernel, rfl, by decide +kernel, by decide +kernel⟩
theorem d_path_of (Z : Top P w K mg base) : Dx P w K mg base 1 "path_of" ["steps"] m_path_of Z.f_path_of Z.fd_path_of :=
  ⟨fn_ok (N := N_path_of) (ps := ["steps"]) (k := 0) (m := b_path_of) Z.F_path_of sc_path_of fun cdv A outer s H E W hr tk => by
      have PO := passes_of (X := cxOf (L2.CX P w) P w K mg base N_path_of "path_of" (defScope s_path_of) Z.f_path_of cdv A outer s H E) rfl
      exact (pmss_cons (pms_set (ps_set (i := 1) sc_path_of.nd rfl (.inl rfl) (pm_lst pma_nil)))
        (pmss_cons (pms_while 1000000 PO (pmt_notN (b := .Constant .none 0 ⟨0, 0, 0, 0⟩) (pt_cmp (pc_notN (pm_var (pv 0))))) (pmss_cons (pms_expr (pm_append (pm_var (pv 1)) (pma_cons (pm_ix iIx (pm_var (pv 0)) pm_int (fun _ _ => rfl)) pma_nil)))
        (pmss_one (pms_set (ps_set (i := 0) sc_path_of.nd rfl (.inl rfl) (pm_ix iIx (pm_var (pv 0)) pm_int (fun _ _ => rfl)))))))
        (pmss_one (pms_ret (pm_callTy cTup (by rfl) Z.n_tuple (by decide +kernel) (pma_cons (pm_revSl (pm_var (pv 1))) pma_nil)))))), Z.F_path_of.kp, Z.b_path_of, Z.m_path_of⟩
abbrev N_fault_in_sides : List Str := ["value", "many", "pile", "thing", "steps", "axis", "own", "other", "point", "low", "high", "key", "key2"]
theorem sc_fault_in_sides : FnScope N_fault_in_sides ["value"] (defScope s_fault_in_sides) := ⟨rfl, rfl, rfl, by decide +kernel, rfl, by decide +kernel, by decide +kernel⟩
theorem d_fault_in_sides (Z : Top P w K mg base) : Dx P w K mg base 4 "fault_in_sides" ["value"] m_fault_in_sides Z.f_fault_in_sides Z.fd_fault_in_sides :=
  ⟨fn_ok (N := N_fault_in_sides) (ps := ["value"]) (k := 3) (m := b_fault_in_sides) Z.F_fault_in_sides sc_fault_in_sides fun cdv A outer s H E W hr tk => by
      have PO := passes_of (X := cxOf (L2.CX P w) P w K mg base N_fault_in_sides "fault_in_sides" (defScope s_fault_in_sides) Z.f_fault_in_sides cdv A outer s H E) rfl
      exact (pmss_cons (pms_set (ps_set (i := 1) sc_fault_in_sides.nd rfl (.inl rfl) pm_int))
        (pmss_cons (pms_set (ps_set (i := 2) sc_fault_in_sides.nd rfl (.inl rfl) (pm_lst (pma_cons (pm_tup (pma_cons (pm_var (pv 0)) (pma_cons pm_non (pma_cons pm_int (pma_cons (pm_const (w := .ref Z.a_ALL_KEYS) (pe_glob (v := .ref Z.a_ALL_KEYS) (by rfl) Z.c_ALL_KEYS rfl) (fun ρ H => Z.r_ALL_KEYS ρ H)) (pma_cons (pm_const (w := .ref Z.a_ALL_KEYS) (pe_glob (v := .ref Z.a_ALL_KEYS) (by rfl) Z.c_ALL_KEYS rfl) (fun ρ H => Z.r_ALL_KEYS ρ H)) pma_nil)))))) pma_nil))))
        (pmss_cons (pms_while 1000000 PO (pmt_tru (pm_var (pv 2))) (pmss_cons (pms_asg (pm_pop (pm_var (pv 2))) (pmg_tup rfl (pmgs_cons (pmg_name (pg_name (i := 3) sc_fault_in_sides.nd rfl (.inl rfl))) (pmgs_cons (pmg_name (pg_name (i := 4) sc_fault_in_sides.nd rfl (.inl rfl))) (pmgs_cons (pmg_name (pg_name (i := 5) sc_fault_in_sides.nd rfl (.inl rfl))) (pmgs_cons (pmg_name (pg_name (i := 6) sc_fault_in_sides.nd rfl (.inl rfl))) (pmgs_cons (pmg_name (pg_name (i := 7) sc_fault_in_sides.nd rfl (.inl rfl))) pmgs_nil)))))))
        (pmss_cons (pms_if (pmt_isN (b := .Constant .none 0 ⟨0, 0, 0, 0⟩) (pt_cmp (pc_isN (pm_var (pv 3))))) (pmss_one pms_cnt) pmss_nil)
        (pmss_cons (pms_aug (i := 1) sc_fault_in_sides.nd rfl (.inl rfl) ipAdd pm_int)
        (pmss_cons (pms_if (PW.pt (pmw_or (pmt_cmp oGtI (pm_var (pv 1)) (pm_const (w := .int 500) (pe_glob (v := .int 500) (by rfl) Z.c_MOST_NODES ⟨_, rfl⟩) (fun _ _ => rfl)) (nomark _)) (pmw_or (pmt_not (pmt_val (pm_callB cIsi (by rfl) Z.n_isinstance (by decide +kernel) (pma_cons (pm_var (pv 3)) (pma_cons (pm_const (w := .ty "tuple") (pe_bltn (v := .ty "tuple") (by rfl) Z.n_tuple (by decide +kernel) rfl) (fun _ _ => rfl)) pma_nil))))) (pmw_or (pmt_cmp (oNe hr.units) (pm_callB cLen (by rfl) Z.n_len PySem.boot_len (pma_cons (pm_var (pv 3)) pma_nil)) pm_int (nomark _)) (pmw_or1 (pmt_not (pmt_val (pm_call (d_is_point Z) tk (hr.mono (by decide)) (by rfl) (pma_cons (pm_ix iIx (pm_var (pv 3)) pm_int (fun _ _ => rfl)) pma_nil) rfl (hn := ArgN.len (n := 1) (.cons .nil)))))))))) (pmss_one (pms_ret (pm_call (d_path_of Z) tk (hr.mono (by decide)) (by rfl) (pma_cons (pm_var (pv 4)) pma_nil) rfl (hn := ArgN.len (n := 1) (.cons .nil))))) pmss_nil)
        (pmss_cons (pms_asg (pm_var (pv 3)) (pmg_tup rfl (pmgs_cons (pmg_name (pg_name (i := 8) sc_fault_in_sides.nd rfl (.inl rfl))) (pmgs_cons (pmg_name (pg_name (i := 9) sc_fault_in_sides.nd rfl (.inl rfl))) (pmgs_cons (pmg_name (pg_name (i := 10) sc_fault_in_sides.nd rfl (.inl rfl))) pmgs_nil)))))
        (pmss_cons (pms_asg (pm_if (pmt_cmp (oEq hr.units) (pm_var (pv 5)) pm_int (nomark _)) (pm_tup (pma_cons (pm_call (d_y_key Z) tk (hr.mono (by decide)) (by rfl) (pma_cons (pm_var (pv 8)) pma_nil) rfl (hn := ArgN.len (n := 1) (.cons .nil))) (pma_cons (pm_var (pv 8)) pma_nil))) (pm_tup (pma_cons (pm_var (pv 8)) (pma_cons (pm_call (d_y_key Z) tk (hr.mono (by decide)) (by rfl) (pma_cons (pm_var (pv 8)) pma_nil) rfl (hn := ArgN.len (n := 1) (.cons .nil))) pma_nil)))) (pmg_tup rfl (pmgs_cons (pmg_name (pg_name (i := 11) sc_fault_in_sides.nd rfl (.inl rfl))) (pmgs_cons (pmg_name (pg_name (i := 12) sc_fault_in_sides.nd rfl (.inl rfl))) pmgs_nil))))
        (pmss_cons (pms_if (PW.pt (pmw_or (pmt_not (pmt_chain (oLtE hr.units) (oLtE hr.units) (pm_ix iIx (pm_var (pv 6)) pm_int (fun _ _ => rfl)) (pm_var (pv 11)) (pm_ix iIx (pm_var (pv 6)) pm_int (fun _ _ => rfl)))) (pmw_or1 (pmt_not (pmt_chain (oLtE hr.units) (oLtE hr.units) (pm_ix iIx (pm_var (pv 7)) pm_int (fun _ _ => rfl)) (pm_var (pv 12)) (pm_ix iIx (pm_var (pv 7)) pm_int (fun _ _ => rfl))))))) (pmss_one (pms_ret (pm_call (d_path_of Z) tk (hr.mono (by decide)) (by rfl) (pma_cons (pm_var (pv 4)) pma_nil) rfl (hn := ArgN.len (n := 1) (.cons .nil))))) pmss_nil)
        (pmss_cons (pms_expr (pm_append (pm_var (pv 2)) (pma_cons (pm_tup (pma_cons (pm_var (pv 10)) (pma_cons (pm_tup (pma_cons (pm_var (pv 4)) (pma_cons pm_int pma_nil))) (pma_cons (pm_op oSub pm_int (pm_var (pv 5))) (pma_cons (pm_var (pv 7)) (pma_cons (pm_tup (pma_cons (pm_var (pv 11)) (pma_cons (pm_ix iIx (pm_var (pv 6)) pm_int (fun _ _ => rfl)) pma_nil))) pma_nil)))))) pma_nil)))
        (pmss_one (pms_expr (pm_append (pm_var (pv 2)) (pma_cons (pm_tup (pma_cons (pm_var (pv 9)) (pma_cons (pm_tup (pma_cons (pm_var (pv 4)) (pma_cons pm_int pma_nil))) (pma_cons (pm_op oSub pm_int (pm_var (pv 5))) (pma_cons (pm_var (pv 7)) (pma_cons (pm_tup (pma_cons (pm_ix iIx (pm_var (pv 6)) pm_int (fun _ _ => rfl)) (pma_cons (pm_var (pv 11)) pma_nil))) pma_nil)))))) pma_nil)))))))))))))
        (pmss_one (pms_ret pm_non))))), Z.F_fault_in_sides.kp, Z.b_fault_in_sides, Z.m_fault_in_sides⟩
abbrev N_check_middle : List Str := ["value", "path"]
theorem sc_check_middle : FnScope N_check_middle ["value"] (defScope s_check_middle) := ⟨rfl, rfl, rfl, by decide +kernel, rfl, by decide +kernel, by decide +kernel⟩
theorem d_check_middle (Z : Top P w K mg base) : Dx P w K mg base 5 "check_middle" ["value"] m_check_middle Z.f_check_middle Z.fd_check_middle :=
  ⟨fn_ok (N := N_check_middle) (ps := ["value"]) (k := 4) (m := b_check_middle) Z.F_check_middle sc_check_middle fun cdv A outer s H E W hr tk => by
      have PO := passes_of (X := cxOf (L2.CX P w) P w K mg base N_check_middle "check_middle" (defScope s_check_middle) Z.f_check_middle cdv A outer s H E) rfl
      exact (pmss_cons (pms_set (ps_set (i := 1) sc_check_middle.nd rfl (.inl rfl) (pm_call (d_fault_in_sides Z) tk (hr.mono (by decide)) (by rfl) (pma_cons (pm_var (pv 0)) pma_nil) rfl (hn := ArgN.len (n := 1) (.cons .nil)))))
        (pmss_one (pms_if (pmt_notN (b := .Constant .none 0 ⟨0, 0, 0, 0⟩) (pt_cmp (pc_notN (pm_var (pv 1))))) (pmss_one (pms_raise (k := 0) Z.e_InvalidTree tk (hr.mono (by decide)) (by rfl) (pm_var (pv 1)))) pmss_nil))), Z.F_check_middle.kp, Z.b_check_middle, Z.m_check_middle⟩
abbrev N_grown_sides : List Str := ["points", "axis", "many", "row", "half"]
theorem sc_grown_sides : FnScope N_grown_sides ["points", "axis"] (defScope s_grown_sides) := ⟨rfl, rfl, rfl, by decide +kernel, rfl, by decide +kernel, by decide +kernel⟩
theorem d_grown_sides (Z : Top P w K mg base) : ∀ n, Dx P w K mg base (2 + n) "grown_sides" ["points", "axis"] (m_grown_sides n) Z.f_grown_sides Z.fd_grown_sides
  | 0 => ⟨bad_ok rfl, Z.F_grown_sides.kp, Z.b_grown_sides, Z.m_grown_sides⟩
  | n + 1 => by
    have ih := d_grown_sides Z n
    exact ⟨fn_ok (N := N_grown_sides) (ps := ["points", "axis"]) (k := 2 + n) (m := b_grown_sides (m_grown_sides n)) Z.F_grown_sides sc_grown_sides fun cdv A outer s H E W hr tk => by
      have PO := passes_of (X := cxOf (L2.CX P w) P w K mg base N_grown_sides "grown_sides" (defScope s_grown_sides) Z.f_grown_sides cdv A outer s H E) rfl
      exact (pmss_cons (pms_set (ps_set (i := 2) sc_grown_sides.nd rfl (.inl rfl) (pm_callB cLen (by rfl) Z.n_len PySem.boot_len (pma_cons (pm_var (pv 0)) pma_nil))))
        (pmss_cons (pms_if (pmt_cmp (oEq hr.units) (pm_var (pv 2)) pm_int (nomark _)) (pmss_one (pms_ret pm_non)) pmss_nil)
        (pmss_cons (pms_if (pmt_cmp (oEq hr.units) (pm_var (pv 2)) pm_int (nomark _)) (pmss_one (pms_ret (pm_tup (pma_cons (pm_ix iIx (pm_var (pv 0)) pm_int (fun _ _ => rfl)) (pma_cons pm_non (pma_cons pm_non pma_nil)))))) pmss_nil)
        (pmss_cons (pms_set (ps_set (i := 3) sc_grown_sides.nd rfl (.inl rfl) (pm_if (pmt_cmp (oEq hr.units) (pm_var (pv 1)) pm_int (nomark _)) (pm_sortY Z.F_y_key swaps_y hr.units (room_dep hr) (by rfl) Z.n_sorted (by rfl) Z.m_y_key (pma_cons (pm_var (pv 0)) pma_nil)) (pm_callB (cSort hr.units) (by rfl) Z.n_sorted (by decide +kernel) (pma_cons (pm_var (pv 0)) pma_nil)))))
        (pmss_cons (pms_set (ps_set (i := 4) sc_grown_sides.nd rfl (.inl rfl) (pm_op oDiv (pm_var (pv 2)) pm_int)))
        (pmss_one (pms_ret (pm_tup (pma_cons (pm_ix iIx (pm_var (pv 3)) (pm_var (pv 4)) (fun _ _ => rfl)) (pma_cons (pm_call ih tk hr (by rfl) (pma_cons (pm_slice sSl (pm_var (pv 3)) True.intro (pm_var (pv 4))) (pma_cons (pm_op oSub pm_int (pm_var (pv 1))) pma_nil)) rfl (hn := ArgN.len (n := 2) (.cons (.cons .nil)))) (pma_cons (pm_call ih tk hr (by rfl) (pma_cons (pm_slice sSl (pm_var (pv 3)) (pm_op oAdd (pm_var (pv 4)) pm_int) True.intro) (pma_cons (pm_op oSub pm_int (pm_var (pv 1))) pma_nil)) rfl (hn := ArgN.len (n := 2) (.cons (.cons .nil)))) pma_nil))))))))))), Z.F_grown_sides.kp, Z.b_grown_sides, Z.m_grown_sides⟩
abbrev N_side_nodes : List Str := ["tree", "nodes", "pile", "node", "point", "low", "high"]
theorem sc_side_nodes : FnScope N_side_nodes ["tree"] (defScope s_side_nodes) := ⟨rfl, rfl, rfl, by decide +kernel, rfl, by decide +kernel, by decide +kernel⟩
theorem d_side_nodes (Z : Top P w K mg base) : Dx P w K mg base 1 "side_nodes" ["tree"] m_side_nodes Z.f_side_nodes Z.fd_side_nodes :=
  ⟨fn_ok (N := N_side_nodes) (ps := ["tree"]) (k := 0) (m := b_side_nodes) Z.F_side_nodes sc_side_nodes fun cdv A outer s H E W hr tk => by
      have PO := passes_of (X := cxOf (L2.CX P w) P w K mg base N_side_nodes "side_nodes" (defScope s_side_nodes) Z.f_side_nodes cdv A outer s H E) rfl
      exact (pmss_cons (pms_set (ps_set (i := 1) sc_side_nodes.nd rfl (.inl rfl) (pm_lst pma_nil)))
        (pmss_cons (pms_set (ps_set (i := 2) sc_side_nodes.nd rfl (.inl rfl) (pm_lst (pma_cons (pm_var (pv 0)) pma_nil))))
        (pmss_cons (pms_while 1000000 PO (pmt_tru (pm_var (pv 2))) (pmss_cons (pms_set (ps_set (i := 3) sc_side_nodes.nd rfl (.inl rfl) (pm_pop (pm_var (pv 2)))))
        (pmss_one (pms_while 1000000 PO (pmt_notN (b := .Constant .none 0 ⟨0, 0, 0, 0⟩) (pt_cmp (pc_notN (pm_var (pv 3))))) (pmss_cons (pms_expr (pm_append (pm_var (pv 1)) (pma_cons (pm_var (pv 3)) pma_nil)))
        (pmss_cons (pms_asg (pm_var (pv 3)) (pmg_tup rfl (pmgs_cons (pmg_name (pg_name (i := 4) sc_side_nodes.nd rfl (.inl rfl))) (pmgs_cons (pmg_name (pg_name (i := 5) sc_side_nodes.nd rfl (.inl rfl))) (pmgs_cons (pmg_name (pg_name (i := 6) sc_side_nodes.nd rfl (.inl rfl))) pmgs_nil)))))
        (pmss_cons (pms_if (pmt_notN (b := .Constant .none 0 ⟨0, 0, 0, 0⟩) (pt_cmp (pc_notN (pm_var (pv 6))))) (pmss_one (pms_expr (pm_append (pm_var (pv 2)) (pma_cons (pm_var (pv 6)) pma_nil)))) pmss_nil)
        (pmss_one (pms_set (ps_set (i := 3) sc_side_nodes.nd rfl (.inl rfl) (pm_var (pv 5))))))))))))
        (pmss_one (pms_ret (pm_var (pv 1))))))), Z.F_side_nodes.kp, Z.b_side_nodes, Z.m_side_nodes⟩
abbrev N_side_points : List Str := ["tree", "node"]
theorem sc_side_points : FnScope N_side_points ["tree"] (defScope s_side_points) := ⟨rfl, rfl, rfl, by decide +kernel, rfl, by decide +kernel, by decide +kernel⟩
theorem d_side_points (Z : Top P w K mg base) : Dx P w K mg base 2 "side_points" ["tree"] m_side_points Z.f_side_points Z.fd_side_points :=
  ⟨fn_ok (N := N_side_points) (ps := ["tree"]) (k := 1) (m := b_side_points) Z.F_side_points sc_side_points fun cdv A outer s H E W hr tk => by
      have PO := passes_of (X := cxOf (L2.CX P w) P w K mg base N_side_points "side_points" (defScope s_side_points) Z.f_side_points cdv A outer s H E) rfl
      exact (pmss_one (pms_ret (pm_lc (own := [("node", 1)]) rfl sc_side_points.nd (pmi_any (pm_call (d_side_nodes Z) tk (hr.mono (by decide)) (by rfl) (pma_cons (pm_var (pv 0)) pma_nil) rfl (hn := ArgN.len (n := 1) (.cons .nil)))) (blkOk_by (own := [("node", 1)]) (N := N_side_points) (sc := defScope s_side_points) (by decide +kernel)) (by decide) (fun _ _ _ _ _ => (pmg_name (pg_name (i := 1) sc_side_points.nd rfl (Or.inl rfl)))) (fun _ _ _ _ _ => pmts_nil) (fun _ _ _ _ _ => (pm_ix iIx (pm_var (pv 1)) pm_int (fun _ _ => rfl)))))), Z.F_side_points.kp, Z.b_side_points, Z.m_side_points⟩
abbrev N_count_levels : List Str := ["tree", "levels", "row", "node", "side"]
theorem sc_count_levels : FnScope N_count_levels ["tree"] (defScope s_count_levels) := ⟨rfl, rfl, rfl, by decide +kernel, rfl, by decide +kernel, by decide +kernel⟩
theorem d_count_levels (Z : Top P w K mg base) : Dx P w K mg base 1 "count_levels" ["tree"] m_count_levels Z.f_count_levels Z.fd_count_levels :=
  ⟨fn_ok (N := N_count_levels) (ps := ["tree"]) (k := 0) (m := b_count_levels) Z.F_count_levels sc_count_levels fun cdv A outer s H E W hr tk => by
      have PO := passes_of (X := cxOf (L2.CX P w) P w K mg base N_count_levels "count_levels" (defScope s_count_levels) Z.f_count_levels cdv A outer s H E) rfl
      exact (pmss_cons (pms_set (ps_set (i := 1) sc_count_levels.nd rfl (.inl rfl) pm_int))
        (pmss_cons (pms_set (ps_set (i := 2) sc_count_levels.nd rfl (.inl rfl) (pm_if (pmt_isN (b := .Constant .none 0 ⟨0, 0, 0, 0⟩) (pt_cmp (pc_isN (pm_var (pv 0))))) (pm_lst pma_nil) (pm_lst (pma_cons (pm_var (pv 0)) pma_nil)))))
        (pmss_cons (pms_while 1000000 PO (pmt_tru (pm_var (pv 2))) (pmss_cons (pms_aug (i := 1) sc_count_levels.nd rfl (.inl rfl) ipAdd pm_int)
        (pmss_one (pms_lc2 (i := 2) (own := [("node", 3), ("side", 4)]) rfl sc_count_levels.nd rfl rfl (sw_true rfl rfl rfl (by decide +kernel)) (pmi_any (pm_var (pv 2))) (blkOk_by (own := [("node", 3), ("side", 4)]) (N := N_count_levels) (sc := defScope s_count_levels) (by decide +kernel)) (vs1 := [4]) (by decide) (by decide) (by decide) (fun _ _ _ _ _ => (pmg_name (pg_name (i := 3) sc_count_levels.nd rfl (Or.inl rfl)))) (fun _ _ _ _ _ => pmts_nil) (fun _ _ _ _ _ => (pmi_any (pm_slice sSl (pm_var (pv 3)) pm_int True.intro))) (fun _ _ _ _ _ => (pmg_name (pg_name (i := 4) sc_count_levels.nd rfl (Or.inl rfl)))) (fun _ _ _ _ _ => (pmts_one (pmt_notN (b := .Constant .none 0 ⟨0, 0, 0, 0⟩) (pt_cmp (pc_notN (pm_var (pv 4))))))) (fun _ _ _ _ _ => (pm_var (pv 4)))))))
        (pmss_one (pms_ret (pm_var (pv 1))))))), Z.F_count_levels.kp, Z.b_count_levels, Z.m_count_levels⟩
abbrev N_way_by_sides : List Str := ["tree", "point", "above", "node", "axis", "key", "x", "y", "is_high", "side"]
theorem sc_way_by_sides : FnScope N_way_by_sides ["tree", "point"] (defScope s_way_by_sides) := ⟨rfl, rfl, rfl, by decide +kernel, rfl, by decide +kernel, by decide +kernel⟩
theorem d_way_by_sides (Z : Top P w K mg base) : Dx P w K mg base 2 "way_by_sides" ["tree", "point"] m_way_by_sides Z.f_way_by_sides Z.fd_way_by_sides :=
  ⟨fn_ok (N := N_way_by_sides) (ps := ["tree", "point"]) (k := 1) (m := b_way_by_sides) Z.F_way_by_sides sc_way_by_sides fun cdv A outer s H E W hr tk => by
      have PO := passes_of (X := cxOf (L2.CX P w) P w K mg base N_way_by_sides "way_by_sides" (defScope s_way_by_sides) Z.f_way_by_sides cdv A outer s H E) rfl
      exact (pmss_cons (pms_set (ps_set (i := 2) sc_way_by_sides.nd rfl (.inl rfl) (pm_lst pma_nil)))
        (pmss_cons (pms_set (ps_set (i := 3) sc_way_by_sides.nd rfl (.inl rfl) (pm_var (pv 0))))
        (pmss_cons (pms_set (ps_set (i := 4) sc_way_by_sides.nd rfl (.inl rfl) pm_int))
        (pmss_cons (pms_set (ps_set (i := 5) sc_way_by_sides.nd rfl (.inl rfl) (pm_call (d_y_key Z) tk (hr.mono (by decide)) (by rfl) (pma_cons (pm_var (pv 1)) pma_nil) rfl (hn := ArgN.len (n := 1) (.cons .nil)))))
        (pmss_cons (pms_while 1000000 PO (PW.pt (pmw_and (pmt_notN (b := .Constant .none 0 ⟨0, 0, 0, 0⟩) (pt_cmp (pc_notN (pm_var (pv 3))))) (pmw_and1 (pmt_cmp (oNe hr.units) (pm_ix iIx (pm_var (pv 3)) pm_int (fun _ _ => rfl)) (pm_var (pv 1)) (nomark _))))) (pmss_cons (pms_asg (pm_ix iIx (pm_var (pv 3)) pm_int (fun _ _ => rfl)) (pmg_tup rfl (pmgs_cons (pmg_name (pg_name (i := 6) sc_way_by_sides.nd rfl (.inl rfl))) (pmgs_cons (pmg_name (pg_name (i := 7) sc_way_by_sides.nd rfl (.inl rfl))) pmgs_nil))))
        (pmss_cons (pms_set (ps_set (i := 8) sc_way_by_sides.nd rfl (.inl rfl) (pm_if (pmt_cmp (oEq hr.units) (pm_var (pv 4)) pm_int (nomark _)) (pm_cmp (oGtE hr.units) (pm_var (pv 5)) (pm_tup (pma_cons (pm_var (pv 7)) (pma_cons (pm_var (pv 6)) pma_nil))) (nomark _)) (pm_cmp (oGtE hr.units) (pm_var (pv 1)) (pm_ix iIx (pm_var (pv 3)) pm_int (fun _ _ => rfl)) (nomark _)))))
        (pmss_cons (pms_set (ps_set (i := 9) sc_way_by_sides.nd rfl (.inl rfl) (pm_if (pmt_tru (pm_var (pv 8))) pm_int pm_int)))
        (pmss_cons (pms_expr (pm_append (pm_var (pv 2)) (pma_cons (pm_tup (pma_cons (pm_var (pv 3)) (pma_cons (pm_var (pv 9)) pma_nil))) pma_nil)))
        (pmss_cons (pms_set (ps_set (i := 3) sc_way_by_sides.nd rfl (.inl rfl) (pm_ix iIx (pm_var (pv 3)) (pm_op oAdd pm_int (pm_var (pv 9))) (fun _ _ => rfl))))
        (pmss_one (pms_set (ps_set (i := 4) sc_way_by_sides.nd rfl (.inl rfl) (pm_op oSub pm_int (pm_var (pv 4))))))))))))
        (pmss_one (pms_ret (pm_tup (pma_cons (pm_var (pv 2)) (pma_cons (pm_var (pv 3)) pma_nil)))))))))), Z.F_way_by_sides.kp, Z.b_way_by_sides, Z.m_way_by_sides⟩
abbrev N_put_at_end : List Str := ["above", "tree", "point", "low", "high", "side"]
theorem sc_put_at_end : FnScope N_put_at_end ["above", "tree"] (defScope s_put_at_end) := ⟨rfl, rfl, rfl, by decide +kernel, rfl, by decide +kernel, by decide +kernel⟩
theorem d_put_at_end (Z : Top P w K mg base) : Dx P w K mg base 1 "put_at_end" ["above", "tree"] m_put_at_end Z.f_put_at_end Z.fd_put_at_end :=
  ⟨fn_ok (N := N_put_at_end) (ps := ["above", "tree"]) (k := 0) (m := b_put_at_end) Z.F_put_at_end sc_put_at_end fun cdv A outer s H E W hr tk => by
      have PO := passes_of (X := cxOf (L2.CX P w) P w K mg base N_put_at_end "put_at_end" (defScope s_put_at_end) Z.f_put_at_end cdv A outer s H E) rfl
      exact (pmss_cons (pms_for PO rfl (pmi_any (pm_revSl (pm_var (pv 0)))) (pmg_tup rfl (pmgs_cons (pmg_tup rfl (pmgs_cons (pmg_name (pg_name (i := 2) sc_put_at_end.nd rfl (.inl rfl))) (pmgs_cons (pmg_name (pg_name (i := 3) sc_put_at_end.nd rfl (.inl rfl))) (pmgs_cons (pmg_name (pg_name (i := 4) sc_put_at_end.nd rfl (.inl rfl))) pmgs_nil)))) (pmgs_cons (pmg_name (pg_name (i := 5) sc_put_at_end.nd rfl (.inl rfl))) pmgs_nil))) (pmss_one (pms_set (ps_set (i := 1) sc_put_at_end.nd rfl (.inl rfl) (pm_if (pmt_cmp (oEq hr.units) (pm_var (pv 5)) pm_int (nomark _)) (pm_tup (pma_cons (pm_var (pv 2)) (pma_cons (pm_var (pv 3)) (pma_cons (pm_var (pv 1)) pma_nil)))) (pm_tup (pma_cons (pm_var (pv 2)) (pma_cons (pm_var (pv 1)) (pma_cons (pm_var (pv 4)) pma_nil)))))))))
        (pmss_one (pms_ret (pm_var (pv 1))))), Z.F_put_at_end.kp, Z.b_put_at_end, Z.m_put_at_end⟩
abbrev N_without_top : List Str := ["above", "node"]
theorem sc_without_top : FnScope N_without_top ["above", "node"] (defScope s_without_top) := ⟨rfl, rfl, rfl, by decide +kernel, rfl, by decide +kernel, by decide +kernel⟩
theorem d_without_top (Z : Top P w K mg base) : Dx P w K mg base 10 "without_top" ["above", "node"] m_without_top Z.f_without_top Z.fd_without_top :=
  ⟨fn_ok (N := N_without_top) (ps := ["above", "node"]) (k := 9) (m := b_without_top) Z.F_without_top sc_without_top fun cdv A outer s H E W hr tk => by
      have PO := passes_of (X := cxOf (L2.CX P w) P w K mg base N_without_top "without_top" (defScope s_without_top) Z.f_without_top cdv A outer s H E) rfl
      exact (pmss_one (pms_ret (pm_call (d_put_at_end Z) tk (hr.mono (by decide)) (by rfl) (pma_cons (pm_var (pv 0)) (pma_cons (pm_call (d_grown_sides Z 7) tk (hr.mono (by decide)) (by rfl) (pma_cons (pm_slice sSl (pm_call (d_side_points Z) tk (hr.mono (by decide)) (by rfl) (pma_cons (pm_var (pv 1)) pma_nil) rfl (hn := ArgN.len (n := 1) (.cons .nil))) pm_int True.intro) (pma_cons (pm_op oAnd (pm_callB cLen (by rfl) Z.n_len PySem.boot_len (pma_cons (pm_var (pv 0)) pma_nil)) pm_int) pma_nil)) rfl (hn := ArgN.len (n := 2) (.cons (.cons .nil)))) pma_nil)) rfl (hn := ArgN.len (n := 2) (.cons (.cons .nil)))))), Z.F_without_top.kp, Z.b_without_top, Z.m_without_top⟩
abbrev N_sizes_of : List Str := ["rows", "sizes", "pile", "parts", "size", "part"]
theorem sc_sizes_of : FnScope N_sizes_of ["rows"] (defScope s_sizes_of) := ⟨rfl, rfl, rfl, by decide +kernel, rfl, by decide +kernel, by decide +kernel⟩
theorem d_sizes_of (Z : Top P w K mg base) : Dx P w K mg base 1 "sizes_of" ["rows"] m_sizes_of Z.f_sizes_of Z.fd_sizes_of :=
  ⟨fn_ok (N := N_sizes_of) (ps := ["rows"]) (k := 0) (m := b_sizes_of) Z.F_sizes_of sc_sizes_of fun cdv A outer s H E W hr tk => by
      have PO := passes_of (X := cxOf (L2.CX P w) P w K mg base N_sizes_of "sizes_of" (defScope s_sizes_of) Z.f_sizes_of cdv A outer s H E) rfl
      exact (pmss_cons (pms_set (ps_set (i := 1) sc_sizes_of.nd rfl (.inl rfl) (pm_lst pma_nil)))
        (pmss_cons (pms_set (ps_set (i := 2) sc_sizes_of.nd rfl (.inl rfl) (pm_lst pma_nil)))
        (pmss_cons (pms_for PO rfl (pmi_any (pm_revSl (pm_var (pv 0)))) (pmg_name (pg_name (i := 3) sc_sizes_of.nd rfl (.inl rfl))) (pmss_cons (pms_set (ps_set (i := 4) sc_sizes_of.nd rfl (.inl rfl) pm_int))
        (pmss_cons (pms_for PO rfl (pmi_any (pm_var (pv 3))) (pmg_name (pg_name (i := 5) sc_sizes_of.nd rfl (.inl rfl))) (pmss_one (pms_if (pmt_notN (b := .Constant .none 0 ⟨0, 0, 0, 0⟩) (pt_cmp (pc_notN (pm_var (pv 5))))) (pmss_one (pms_aug (i := 4) sc_sizes_of.nd rfl (.inl rfl) ipAdd (pm_pop (pm_var (pv 2))))) pmss_nil)))
        (pmss_cons (pms_expr (pm_append (pm_var (pv 2)) (pma_cons (pm_var (pv 4)) pma_nil)))
        (pmss_one (pms_expr (pm_append (pm_var (pv 1)) (pma_cons (pm_var (pv 4)) pma_nil))))))))
        (pmss_one (pms_ret (pm_revSl (pm_var (pv 1)))))))), Z.F_sizes_of.kp, Z.b_sizes_of, Z.m_sizes_of⟩
abbrev N_middle : List Str := ["points"]
theorem sc_middle : FnScope N_middle ["points"] (defScope s_middle) := ⟨rfl, rfl, rfl, by decide +kernel, rfl, by decide +kernel, by decide +kernel⟩
theorem d_middle (Z : Top P w K mg base) : Dx P w K mg base 10 "middle" ["points"] m_middle Z.f_middle Z.fd_middle :=
  ⟨fn_ok (N := N_middle) (ps := ["points"]) (k := 9) (m := b_middle) Z.F_middle sc_middle fun cdv A outer s H E W hr tk => by
      have PO := passes_of (X := cxOf (L2.CX P w) P w K mg base N_middle "middle" (defScope s_middle) Z.f_middle cdv A outer s H E) rfl
      exact (pmss_cons (pms_expr (pm_call (d_check_points Z) tk (hr.mono (by decide)) (by rfl) (pma_cons (pm_var (pv 0)) pma_nil) rfl (hn := ArgN.len (n := 1) (.cons .nil))))
        (pmss_one (pms_ret (pm_call (d_grown_sides Z 7) tk (hr.mono (by decide)) (by rfl) (pma_cons (pm_var (pv 0)) (pma_cons pm_int pma_nil)) rfl (hn := ArgN.len (n := 2) (.cons (.cons .nil))))))), Z.F_middle.kp, Z.b_middle, Z.m_middle⟩
abbrev N_is_even : List Str := ["tree", "nodes", "sizes", "node", "number", "low"]
theorem sc_is_even : FnScope N_is_even ["tree"] (defScope s_is_even) := ⟨rfl, rfl, rfl, by decide +kernel, rfl, by decide +kernel, by decide +kernel⟩
theorem d_is_even (Z : Top P w K mg base) : Dx P w K mg base 6 "is_even" ["tree"] m_is_even Z.f_is_even Z.fd_is_even :=
  ⟨fn_ok (N := N_is_even) (ps := ["tree"]) (k := 5) (m := b_is_even) Z.F_is_even sc_is_even fun cdv A outer s H E W hr tk => by
      have PO := passes_of (X := cxOf (L2.CX P w) P w K mg base N_is_even "is_even" (defScope s_is_even) Z.f_is_even cdv A outer s H E) rfl
      exact (pmss_cons (pms_expr (pm_call (d_check_middle Z) tk (hr.mono (by decide)) (by rfl) (pma_cons (pm_var (pv 0)) pma_nil) rfl (hn := ArgN.len (n := 1) (.cons .nil))))
        (pmss_cons (pms_set (ps_set (i := 1) sc_is_even.nd rfl (.inl rfl) (pm_call (d_side_nodes Z) tk (hr.mono (by decide)) (by rfl) (pma_cons (pm_var (pv 0)) pma_nil) rfl (hn := ArgN.len (n := 1) (.cons .nil)))))
        (pmss_cons (pms_set (ps_set (i := 2) sc_is_even.nd rfl (.inl rfl) (pm_call (d_sizes_of Z) tk (hr.mono (by decide)) (by rfl) (pma_cons (pm_lc (own := [("node", 3)]) rfl sc_is_even.nd (pmi_any (pm_var (pv 1))) (blkOk_by (own := [("node", 3)]) (N := N_is_even) (sc := defScope s_is_even) (by decide +kernel)) (by decide) (fun _ _ _ _ _ => (pmg_name (pg_name (i := 3) sc_is_even.nd rfl (Or.inl rfl)))) (fun _ _ _ _ _ => pmts_nil) (fun _ _ _ _ _ => (pm_slice sSl (pm_var (pv 3)) pm_int True.intro))) pma_nil) rfl (hn := ArgN.len (n := 1) (.cons .nil)))))
        (pmss_cons (pms_for PO rfl (pmi_enum (by rfl) Z.n_enumerate (pma_cons (pm_var (pv 1)) pma_nil)) (pmg_tup rfl (pmgs_cons (pmg_name (pg_name (i := 4) sc_is_even.nd rfl (.inl rfl))) (pmgs_cons (pmg_name (pg_name (i := 3) sc_is_even.nd rfl (.inl rfl))) pmgs_nil))) (pmss_cons (pms_set (ps_set (i := 5) sc_is_even.nd rfl (.inl rfl) (pm_if (pmt_isN (b := .Constant .none 0 ⟨0, 0, 0, 0⟩) (pt_cmp (pc_isN (pm_ix iIx (pm_var (pv 3)) pm_int (fun _ _ => rfl))))) pm_int (pm_ix iIx (pm_var (pv 2)) (pm_op oAdd (pm_var (pv 4)) pm_int) (fun _ _ => rfl)))))
        (pmss_one (pms_if (pmt_cmp (oNe hr.units) (pm_var (pv 5)) (pm_op oDiv (pm_ix iIx (pm_var (pv 2)) (pm_var (pv 4)) (fun _ _ => rfl)) pm_int) (nomark _)) (pmss_one (pms_ret pm_bl)) pmss_nil))))
        (pmss_one (pms_ret pm_bl)))))), Z.F_is_even.kp, Z.b_is_even, Z.m_is_even⟩
abbrev N_in_order : List Str := ["tree"]
theorem sc_in_order : FnScope N_in_order ["tree"] (defScope s_in_order) := ⟨rfl, rfl, rfl, by decide +kernel, rfl, by decide +kernel, by decide +kernel⟩
theorem d_in_order (Z : Top P w K mg base) : Dx P w K mg base 6 "in_order" ["tree"] m_in_order Z.f_in_order Z.fd_in_order :=
  ⟨fn_ok (N := N_in_order) (ps := ["tree"]) (k := 5) (m := b_in_order) Z.F_in_order sc_in_order fun cdv A outer s H E W hr tk => by
      have PO := passes_of (X := cxOf (L2.CX P w) P w K mg base N_in_order "in_order" (defScope s_in_order) Z.f_in_order cdv A outer s H E) rfl
      exact (pmss_cons (pms_expr (pm_call (d_check_middle Z) tk (hr.mono (by decide)) (by rfl) (pma_cons (pm_var (pv 0)) pma_nil) rfl (hn := ArgN.len (n := 1) (.cons .nil))))
        (pmss_one (pms_ret (pm_call (d_side_points Z) tk (hr.mono (by decide)) (by rfl) (pma_cons (pm_var (pv 0)) pma_nil) rfl (hn := ArgN.len (n := 1) (.cons .nil)))))), Z.F_in_order.kp, Z.b_in_order, Z.m_in_order⟩
abbrev N_height : List Str := ["tree"]
theorem sc_height : FnScope N_height ["tree"] (defScope s_height) := ⟨rfl, rfl, rfl, by decide +kernel, rfl, by decide +kernel, by decide +kernel⟩
theorem d_height (Z : Top P w K mg base) : Dx P w K mg base 6 "height" ["tree"] m_height Z.f_height Z.fd_height :=
  ⟨fn_ok (N := N_height) (ps := ["tree"]) (k := 5) (m := b_height) Z.F_height sc_height fun cdv A outer s H E W hr tk => by
      have PO := passes_of (X := cxOf (L2.CX P w) P w K mg base N_height "height" (defScope s_height) Z.f_height cdv A outer s H E) rfl
      exact (pmss_cons (pms_expr (pm_call (d_check_middle Z) tk (hr.mono (by decide)) (by rfl) (pma_cons (pm_var (pv 0)) pma_nil) rfl (hn := ArgN.len (n := 1) (.cons .nil))))
        (pmss_one (pms_ret (pm_call (d_count_levels Z) tk (hr.mono (by decide)) (by rfl) (pma_cons (pm_var (pv 0)) pma_nil) rfl (hn := ArgN.len (n := 1) (.cons .nil)))))), Z.F_height.kp, Z.b_height, Z.m_height⟩
abbrev N_taken : List Str := ["tree", "point", "above", "node"]
theorem sc_taken : FnScope N_taken ["tree", "point"] (defScope s_taken) := ⟨rfl, rfl, rfl, by decide +kernel, rfl, by decide +kernel, by decide +kernel⟩
theorem d_taken (Z : Top P w K mg base) : Dx P w K mg base 11 "taken" ["tree", "point"] m_taken Z.f_taken Z.fd_taken :=
  ⟨fn_ok (N := N_taken) (ps := ["tree", "point"]) (k := 10) (m := b_taken) Z.F_taken sc_taken fun cdv A outer s H E W hr tk => by
      have PO := passes_of (X := cxOf (L2.CX P w) P w K mg base N_taken "taken" (defScope s_taken) Z.f_taken cdv A outer s H E) rfl
      exact (pmss_cons (pms_expr (pm_call (d_check_middle Z) tk (hr.mono (by decide)) (by rfl) (pma_cons (pm_var (pv 0)) pma_nil) rfl (hn := ArgN.len (n := 1) (.cons .nil))))
        (pmss_cons (pms_expr (pm_call (d_check_point Z) tk (hr.mono (by decide)) (by rfl) (pma_cons (pm_var (pv 1)) pma_nil) rfl (hn := ArgN.len (n := 1) (.cons .nil))))
        (pmss_cons (pms_asg (pm_call (d_way_by_sides Z) tk (hr.mono (by decide)) (by rfl) (pma_cons (pm_var (pv 0)) (pma_cons (pm_var (pv 1)) pma_nil)) rfl (hn := ArgN.len (n := 2) (.cons (.cons .nil)))) (pmg_tup rfl (pmgs_cons (pmg_name (pg_name (i := 2) sc_taken.nd rfl (.inl rfl))) (pmgs_cons (pmg_name (pg_name (i := 3) sc_taken.nd rfl (.inl rfl))) pmgs_nil))))
        (pmss_cons (pms_if (pmt_isN (b := .Constant .none 0 ⟨0, 0, 0, 0⟩) (pt_cmp (pc_isN (pm_var (pv 3))))) (pmss_one (pms_raise (k := 0) Z.e_NotThere tk (hr.mono (by decide)) (by rfl) (pm_var (pv 1)))) pmss_nil)
        (pmss_one (pms_ret (pm_call (d_without_top Z) tk (hr.mono (by decide)) (by rfl) (pma_cons (pm_var (pv 2)) (pma_cons (pm_var (pv 3)) pma_nil)) rfl (hn := ArgN.len (n := 2) (.cons (.cons .nil)))))))))), Z.F_taken.kp, Z.b_taken, Z.m_taken⟩
abbrev N_law_mixed : List Str := ["_law_cell", "_law_draw", "_law_figure"]
theorem sc_law_mixed : FnScope N_law_mixed ["_law_cell", "_law_draw"] (defScope s_law_mixed) := ⟨rfl, rfl, rfl, by decide +kernel, rfl, by decide +kernel, by decide +kernel⟩
theorem d_law_mixed (Z : Top P w K mg base) : Dx P w K mg base 1 "_law_mixed" ["_law_cell", "_law_draw"] m_law_mixed Z.f_law_mixed Z.fd_law_mixed :=
  ⟨fn_ok (N := N_law_mixed) (ps := ["_law_cell", "_law_draw"]) (k := 0) (m := b_law_mixed) Z.F_law_mixed sc_law_mixed fun cdv A outer s H E W hr tk => by
      have PO := passes_of (X := cxOf (L2.CX P w) P w K mg base N_law_mixed "_law_mixed" (defScope s_law_mixed) Z.f_law_mixed cdv A outer s H E) rfl
      exact (pmss_cons (pms_set (ps_set (i := 2) sc_law_mixed.nd rfl (.inl rfl) (pm_op oMod (pm_callTy cInt (by rfl) Z.n_int (by decide +kernel) (pma_cons (pm_op oMul (pm_op oAdd (pm_op oMod (pm_callTy cInt (by rfl) Z.n_int (by decide +kernel) (pma_cons (pm_var (pv 0)) pma_nil)) pm_int) pm_int) (pm_op oAdd (pm_op oMul (pm_var (pv 1)) pm_int) pm_int)) pma_nil)) pm_int)))
        (pmss_cons (pms_set (ps_set (i := 2) sc_law_mixed.nd rfl (.inl rfl) (pm_op oMod (pm_callTy cInt (by rfl) Z.n_int (by decide +kernel) (pma_cons (pm_op oMul (pm_op oAdd (pm_var (pv 2)) (pm_op oMul (pm_op oMod (pm_callTy cInt (by rfl) Z.n_int (by decide +kernel) (pma_cons (pm_op oDiv (pm_var (pv 0)) pm_int) pma_nil)) pm_int) (pm_op oAdd (pm_var (pv 1)) pm_int))) pm_int) pma_nil)) pm_int)))
        (pmss_cons (pms_set (ps_set (i := 2) sc_law_mixed.nd rfl (.inl rfl) (pm_op oMod (pm_callTy cInt (by rfl) Z.n_int (by decide +kernel) (pma_cons (pm_op oMul (pm_var (pv 2)) (pm_op oAdd (pm_op oAdd (pm_op oDiv (pm_var (pv 2)) pm_int) pm_int) (pm_var (pv 1)))) pma_nil)) pm_int)))
        (pmss_one (pms_ret (pm_op oMod (pm_callTy cInt (by rfl) Z.n_int (by decide +kernel) (pma_cons (pm_op oMul (pm_var (pv 2)) (pm_op oAdd (pm_op oDiv (pm_var (pv 2)) pm_int) pm_int)) pma_nil)) pm_int)))))), Z.F_law_mixed.kp, Z.b_law_mixed, Z.m_law_mixed⟩
abbrev N_law_source : List Str := ["_law_cell"]
theorem sc_law_source : FnScope N_law_source ["_law_cell"] (defScope s_law_source) := ⟨rfl, rfl, rfl, by decide +kernel, rfl, by decide +kernel, by decide +kernel⟩
theorem d_law_source (Z : Top P w K mg base) : Dx P w K mg base 1 "_law_source" ["_law_cell"] m_law_source Z.f_law_source Z.fd_law_source :=
  ⟨fn_ok (N := N_law_source) (ps := ["_law_cell"]) (k := 0) (m := b_law_source) Z.F_law_source sc_law_source fun cdv A outer s H E W hr tk => by
      have PO := passes_of (X := cxOf (L2.CX P w) P w K mg base N_law_source "_law_source" (defScope s_law_source) Z.f_law_source cdv A outer s H E) rfl
      exact (pmss_cons (pms_if (pmt_cmp oGe (pm_callB cAbs (by rfl) Z.n_abs (by decide +kernel) (pma_cons (pm_var (pv 0)) pma_nil)) (pm_op oPow pm_int pm_int) (nomark _)) (pmss_one (pms_ret (pm_lst (pma_cons (pm_callB cAbs (by rfl) Z.n_abs (by decide +kernel) (pma_cons (pm_var (pv 0)) pma_nil)) (pma_cons (pm_callB cAbs (by rfl) Z.n_abs (by decide +kernel) (pma_cons (pm_var (pv 0)) pma_nil)) (pma_cons pm_int pma_nil)))))) pmss_nil)
        (pmss_one (pms_ret (pm_lst (pma_cons pm_int (pma_cons (pm_callB cAbs (by rfl) Z.n_abs (by decide +kernel) (pma_cons (pm_var (pv 0)) pma_nil)) (pma_cons pm_int pma_nil))))))), Z.F_law_source.kp, Z.b_law_source, Z.m_law_source⟩
abbrev N_law_take : List Str := ["_law_source_here", "_law_bound", "_law_drawn"]
theorem sc_law_take : FnScope N_law_take ["_law_source_here", "_law_bound"] (defScope s_law_take) := ⟨rfl, rfl, rfl, by decide +kernel, rfl, by decide +kernel, by decide +kernel⟩
theorem d_law_take (Z : Top P w K mg base) : Dx P w K mg base 2 "_law_take" ["_law_source_here", "_law_bound"] m_law_take Z.f_law_take Z.fd_law_take :=
  ⟨fn_ok (N := N_law_take) (ps := ["_law_source_here", "_law_bound"]) (k := 1) (m := b_law_take) Z.F_law_take sc_law_take fun cdv A outer s H E W hr tk => by
      have PO := passes_of (X := cxOf (L2.CX P w) P w K mg base N_law_take "_law_take" (defScope s_law_take) Z.f_law_take cdv A outer s H E) rfl
      exact (pmss_cons (pms_if (pmt_cmp oGtI (pm_ix iIx (pm_var (pv 0)) pm_int (fun _ _ => rfl)) pm_int (nomark _)) (pmss_cons (pms_set (ps_set (i := 2) sc_law_take.nd rfl (.inl rfl) (pm_op oMod (pm_callTy cInt (by rfl) Z.n_int (by decide +kernel) (pma_cons (pm_ix iIx (pm_var (pv 0)) pm_int (fun _ _ => rfl)) pma_nil)) (pm_var (pv 1)))))
        (pmss_cons (pms_asg (pm_op oDiv (pm_ix iIx (pm_var (pv 0)) pm_int (fun _ _ => rfl)) (pm_var (pv 1))) (pmg_sub (pm_var (pv 0)) pm_int))
        (pmss_one (pms_ret (pm_var (pv 2)))))) pmss_nil)
        (pmss_cons (pms_asg (pm_op oAdd (pm_ix iIx (pm_var (pv 0)) pm_int (fun _ _ => rfl)) pm_int) (pmg_sub (pm_var (pv 0)) pm_int))
        (pmss_one (pms_ret (pm_op oMod (pm_callTy cInt (by rfl) Z.n_int (by decide +kernel) (pma_cons (pm_call (d_law_mixed Z) tk (hr.mono (by decide)) (by rfl) (pma_cons (pm_ix iIx (pm_var (pv 0)) pm_int (fun _ _ => rfl)) (pma_cons (pm_ix iIx (pm_var (pv 0)) pm_int (fun _ _ => rfl)) pma_nil)) rfl (hn := ArgN.len (n := 2) (.cons (.cons .nil)))) pma_nil)) (pm_var (pv 1))))))), Z.F_law_take.kp, Z.b_law_take, Z.m_law_take⟩
abbrev N_law_pick : List Str := ["_law_source_here", "_law_some"]
theorem sc_law_pick : FnScope N_law_pick ["_law_source_here", "_law_some"] (defScope s_law_pick) := ⟨rfl, rfl, rfl, by decide +kernel, rfl, by decide +kernel, by decide +kernel⟩
theorem d_law_pick (Z : Top P w K mg base) : Dx P w K mg base 3 "_law_pick" ["_law_source_here", "_law_some"] m_law_pick Z.f_law_pick Z.fd_law_pick :=
  ⟨fn_ok (N := N_law_pick) (ps := ["_law_source_here", "_law_some"]) (k := 2) (m := b_law_pick) Z.F_law_pick sc_law_pick fun cdv A outer s H E W hr tk => by
      have PO := passes_of (X := cxOf (L2.CX P w) P w K mg base N_law_pick "_law_pick" (defScope s_law_pick) Z.f_law_pick cdv A outer s H E) rfl
      exact (pmss_one (pms_ret (pm_ix iIx (pm_var (pv 1)) (pm_call (d_law_take Z) tk (hr.mono (by decide)) (by rfl) (pma_cons (pm_var (pv 0)) (pma_cons (pm_callB cLen (by rfl) Z.n_len PySem.boot_len (pma_cons (pm_var (pv 1)) pma_nil)) pma_nil)) rfl (hn := ArgN.len (n := 2) (.cons (.cons .nil)))) (fun _ _ => rfl)))), Z.F_law_pick.kp, Z.b_law_pick, Z.m_law_pick⟩
abbrev N_law_spots : List Str := ["_law_source_here", "_law_most", "_law_many", "_law_wide", "_law_found", "_law_turn", "_law_spot"]
theorem sc_law_spots : FnScope N_law_spots ["_law_source_here", "_law_most"] (defScope s_law_spots) := ⟨rfl, rfl, rfl, by decide +kernel, rfl, by decide +kernel, by decide +kernel⟩
theorem d_law_spots (Z : Top P w K mg base) : Dx P w K mg base 4 "_law_spots" ["_law_source_here", "_law_most"] m_law_spots Z.f_law_spots Z.fd_law_spots :=
  ⟨fn_ok (N := N_law_spots) (ps := ["_law_source_here", "_law_most"]) (k := 3) (m := b_law_spots) Z.F_law_spots sc_law_spots fun cdv A outer s H E W hr tk => by
      have PO := passes_of (X := cxOf (L2.CX P w) P w K mg base N_law_spots "_law_spots" (defScope s_law_spots) Z.f_law_spots cdv A outer s H E) rfl
      exact (pmss_cons (pms_par (ps_par (i := 2) (j := 3) rfl sc_law_spots.nd rfl rfl (by decide) rfl rfl (pma_cons (pm_call (d_law_take Z) tk (hr.mono (by decide)) (by rfl) (pma_cons (pm_var (pv 0)) (pma_cons (pm_op oAdd (pm_var (pv 1)) pm_int) pma_nil)) rfl (hn := ArgN.len (n := 2) (.cons (.cons .nil)))) (pma_cons (pm_call (d_law_pick Z) tk (hr.mono (by decide)) (by rfl) (pma_cons (pm_var (pv 0)) (pma_cons (pm_lst (pma_cons pm_int (pma_cons pm_int (pma_cons pm_int (pma_cons (pm_op oPow pm_int pm_int) (pma_cons (pm_op oPow pm_int pm_int) pma_nil)))))) pma_nil)) rfl (hn := ArgN.len (n := 2) (.cons (.cons .nil)))) pma_nil)) rfl))
        (pmss_cons (pms_set (ps_set (i := 4) sc_law_spots.nd rfl (.inl rfl) (pm_lst pma_nil)))
        (pmss_cons (pms_for PO rfl (pmi_range1 (by rfl) Z.n_range (pma_cons (pm_var (pv 2)) pma_nil)) (pmg_name (pg_name (i := 5) sc_law_spots.nd rfl (.inl rfl))) (pmss_cons (pms_set (ps_set (i := 6) sc_law_spots.nd rfl (.inl rfl) (pm_tup (pma_cons (pm_op oSub (pm_call (d_law_take Z) tk (hr.mono (by decide)) (by rfl) (pma_cons (pm_var (pv 0)) (pma_cons (pm_op oAdd (pm_op oMul pm_int (pm_var (pv 3))) pm_int) pma_nil)) rfl (hn := ArgN.len (n := 2) (.cons (.cons .nil)))) (pm_var (pv 3))) (pma_cons (pm_op oSub (pm_call (d_law_take Z) tk (hr.mono (by decide)) (by rfl) (pma_cons (pm_var (pv 0)) (pma_cons (pm_op oAdd (pm_op oMul pm_int (pm_var (pv 3))) pm_int) pma_nil)) rfl (hn := ArgN.len (n := 2) (.cons (.cons .nil)))) (pm_var (pv 3))) pma_nil)))))
        (pmss_one (pms_set (ps_set (i := 4) sc_law_spots.nd rfl (.inl rfl) (pm_op oAdd (pm_var (pv 4)) (pm_op oMul (pm_lst (pma_cons (pm_var (pv 6)) pma_nil)) (pm_callTy cInt (by rfl) Z.n_int (by decide +kernel) (pma_cons (pm_cmp (oNotIn (hu65 hr)) (pm_var (pv 6)) (pm_var (pv 4)) (by with_unfolding_all rfl)) pma_nil)))))))))
        (pmss_one (pms_ret (pm_var (pv 4))))))), Z.F_law_spots.kp, Z.b_law_spots, Z.m_law_spots⟩
abbrev N_law_shuffled : List Str := ["_law_source_here", "_law_some", "_law_left", "_law_found", "_law_turn"]
theorem sc_law_shuffled : FnScope N_law_shuffled ["_law_source_here", "_law_some"] (defScope s_law_shuffled) := ⟨rfl, rfl, rfl, by decide +kernel, rfl, by decide +kernel, by decide +kernel⟩
theorem d_law_shuffled (Z : Top P w K mg base) : Dx P w K mg base 3 "_law_shuffled" ["_law_source_here", "_law_some"] m_law_shuffled Z.f_law_shuffled Z.fd_law_shuffled :=
  ⟨fn_ok (N := N_law_shuffled) (ps := ["_law_source_here", "_law_some"]) (k := 2) (m := b_law_shuffled) Z.F_law_shuffled sc_law_shuffled fun cdv A outer s H E W hr tk => by
      have PO := passes_of (X := cxOf (L2.CX P w) P w K mg base N_law_shuffled "_law_shuffled" (defScope s_law_shuffled) Z.f_law_shuffled cdv A outer s H E) rfl
      exact (pmss_cons (pms_par (ps_par (i := 2) (j := 3) rfl sc_law_shuffled.nd rfl rfl (by decide) rfl rfl (pma_cons (pm_callTy cList (by rfl) Z.n_list (by decide +kernel) (pma_cons (pm_var (pv 1)) pma_nil)) (pma_cons (pm_lst pma_nil) pma_nil)) rfl))
        (pmss_cons (pms_for PO rfl (pmi_range1 (by rfl) Z.n_range (pma_cons (pm_callB cLen (by rfl) Z.n_len PySem.boot_len (pma_cons (pm_var (pv 1)) pma_nil)) pma_nil)) (pmg_name (pg_name (i := 4) sc_law_shuffled.nd rfl (.inl rfl))) (pmss_one (pms_expr (pm_append (pm_var (pv 3)) (pma_cons (pm_popAt (pm_var (pv 2)) (pma_cons (pm_call (d_law_take Z) tk (hr.mono (by decide)) (by rfl) (pma_cons (pm_var (pv 0)) (pma_cons (pm_callB cLen (by rfl) Z.n_len PySem.boot_len (pma_cons (pm_var (pv 2)) pma_nil)) pma_nil)) rfl (hn := ArgN.len (n := 2) (.cons (.cons .nil)))) pma_nil)) pma_nil)))))
        (pmss_one (pms_ret (pm_var (pv 3)))))), Z.F_law_shuffled.kp, Z.b_law_shuffled, Z.m_law_shuffled⟩
abbrev N_law_moved : List Str := ["_law_wood", "_law_a", "_law_b", "_law_grow", "_law_spot"]
theorem sc_law_moved : FnScope N_law_moved ["_law_wood", "_law_a", "_law_b", "_law_grow"] (defScope s_law_moved) := ⟨rfl, rfl, rfl, by decide +kernel, rfl, by decide +kernel, by decide +kernel⟩
theorem d_law_moved (Z : Top P w K mg base) : ∀ n, Dx P w K mg base (1 + n) "_law_moved" ["_law_wood", "_law_a", "_law_b", "_law_grow"] (m_law_moved n) Z.f_law_moved Z.fd_law_moved
  | 0 => ⟨bad_ok rfl, Z.F_law_moved.kp, Z.b_law_moved, Z.m_law_moved⟩
  | n + 1 => by
    have ih := d_law_moved Z n
    exact ⟨fn_ok (N := N_law_moved) (ps := ["_law_wood", "_law_a", "_law_b", "_law_grow"]) (k := 1 + n) (m := b_law_moved (m_law_moved n)) Z.F_law_moved sc_law_moved fun cdv A outer s H E W hr tk => by
      have PO := passes_of (X := cxOf (L2.CX P w) P w K mg base N_law_moved "_law_moved" (defScope s_law_moved) Z.f_law_moved cdv A outer s H E) rfl
      exact (pmss_cons (pms_if (pmt_isN (b := .Constant .none 0 ⟨0, 0, 0, 0⟩) (pt_cmp (pc_isN (pm_var (pv 0))))) (pmss_one (pms_ret pm_non)) pmss_nil)
        (pmss_cons (pms_set (ps_set (i := 4) sc_law_moved.nd rfl (.inl rfl) (pm_tup (pma_cons (pm_op oAdd (pm_var (pv 1)) (pm_op oMul (pm_var (pv 3)) (pm_ix iIx (pm_ix iIx (pm_var (pv 0)) pm_int (fun _ _ => rfl)) pm_int (fun _ _ => rfl)))) (pma_cons (pm_op oAdd (pm_var (pv 2)) (pm_op oMul (pm_var (pv 3)) (pm_ix iIx (pm_ix iIx (pm_var (pv 0)) pm_int (fun _ _ => rfl)) pm_int (fun _ _ => rfl)))) pma_nil)))))
        (pmss_one (pms_ret (pm_tup (pma_cons (pm_var (pv 4)) (pma_cons (pm_call ih tk hr (by rfl) (pma_cons (pm_ix iIx (pm_var (pv 0)) pm_int (fun _ _ => rfl)) (pma_cons (pm_var (pv 1)) (pma_cons (pm_var (pv 2)) (pma_cons (pm_var (pv 3)) pma_nil)))) rfl (hn := ArgN.len (n := 4) (.cons (.cons (.cons (.cons .nil)))))) (pma_cons (pm_call ih tk hr (by rfl) (pma_cons (pm_ix iIx (pm_var (pv 0)) pm_int (fun _ _ => rfl)) (pma_cons (pm_var (pv 1)) (pma_cons (pm_var (pv 2)) (pma_cons (pm_var (pv 3)) pma_nil)))) rfl (hn := ArgN.len (n := 4) (.cons (.cons (.cons (.cons .nil)))))) pma_nil)))))))), Z.F_law_moved.kp, Z.b_law_moved, Z.m_law_moved⟩
abbrev N_law_mirrored : List Str := ["_law_wood"]
theorem sc_law_mirrored : FnScope N_law_mirrored ["_law_wood"] (defScope s_law_mirrored) := ⟨rfl, rfl, rfl, by decide +kernel, rfl, by decide +kernel, by decide +kernel⟩
theorem d_law_mirrored (Z : Top P w K mg base) : ∀ n, Dx P w K mg base (1 + n) "_law_mirrored" ["_law_wood"] (m_law_mirrored n) Z.f_law_mirrored Z.fd_law_mirrored
  | 0 => ⟨bad_ok rfl, Z.F_law_mirrored.kp, Z.b_law_mirrored, Z.m_law_mirrored⟩
  | n + 1 => by
    have ih := d_law_mirrored Z n
    exact ⟨fn_ok (N := N_law_mirrored) (ps := ["_law_wood"]) (k := 1 + n) (m := b_law_mirrored (m_law_mirrored n)) Z.F_law_mirrored sc_law_mirrored fun cdv A outer s H E W hr tk => by
      have PO := passes_of (X := cxOf (L2.CX P w) P w K mg base N_law_mirrored "_law_mirrored" (defScope s_law_mirrored) Z.f_law_mirrored cdv A outer s H E) rfl
      exact (pmss_cons (pms_if (pmt_isN (b := .Constant .none 0 ⟨0, 0, 0, 0⟩) (pt_cmp (pc_isN (pm_var (pv 0))))) (pmss_one (pms_ret pm_non)) pmss_nil)
        (pmss_one (pms_ret (pm_tup (pma_cons (pm_tup (pma_cons (pm_neg (pm_ix iIx (pm_ix iIx (pm_var (pv 0)) pm_int (fun _ _ => rfl)) pm_int (fun _ _ => rfl))) (pma_cons (pm_neg (pm_ix iIx (pm_ix iIx (pm_var (pv 0)) pm_int (fun _ _ => rfl)) pm_int (fun _ _ => rfl))) pma_nil))) (pma_cons (pm_call ih tk hr (by rfl) (pma_cons (pm_ix iIx (pm_var (pv 0)) pm_int (fun _ _ => rfl)) pma_nil) rfl (hn := ArgN.len (n := 1) (.cons .nil))) (pma_cons (pm_call ih tk hr (by rfl) (pma_cons (pm_ix iIx (pm_var (pv 0)) pm_int (fun _ _ => rfl)) pma_nil) rfl (hn := ArgN.len (n := 1) (.cons .nil))) pma_nil))))))), Z.F_law_mirrored.kp, Z.b_law_mirrored, Z.m_law_mirrored⟩
abbrev N_law_turned_about : List Str := ["_law_wood"]
theorem sc_law_turned_about : FnScope N_law_turned_about ["_law_wood"] (defScope s_law_turned_about) := ⟨rfl, rfl, rfl, by decide +kernel, rfl, by decide +kernel, by decide +kernel⟩
theorem d_law_turned_about (Z : Top P w K mg base) : ∀ n, Dx P w K mg base (1 + n) "_law_turned_about" ["_law_wood"] (m_law_turned_about n) Z.f_law_turned_about Z.fd_law_turned_about
  | 0 => ⟨bad_ok rfl, Z.F_law_turned_about.kp, Z.b_law_turned_about, Z.m_law_turned_about⟩
  | n + 1 => by
    have ih := d_law_turned_about Z n
    exact ⟨fn_ok (N := N_law_turned_about) (ps := ["_law_wood"]) (k := 1 + n) (m := b_law_turned_about (m_law_turned_about n)) Z.F_law_turned_about sc_law_turned_about fun cdv A outer s H E W hr tk => by
      have PO := passes_of (X := cxOf (L2.CX P w) P w K mg base N_law_turned_about "_law_turned_about" (defScope s_law_turned_about) Z.f_law_turned_about cdv A outer s H E) rfl
      exact (pmss_cons (pms_if (pmt_isN (b := .Constant .none 0 ⟨0, 0, 0, 0⟩) (pt_cmp (pc_isN (pm_var (pv 0))))) (pmss_one (pms_ret pm_non)) pmss_nil)
        (pmss_one (pms_ret (pm_tup (pma_cons (pm_revT (pm_ix iIx (pm_var (pv 0)) pm_int (fun _ _ => rfl))) (pma_cons (pm_call ih tk hr (by rfl) (pma_cons (pm_ix iIx (pm_var (pv 0)) pm_int (fun _ _ => rfl)) pma_nil) rfl (hn := ArgN.len (n := 1) (.cons .nil))) (pma_cons (pm_call ih tk hr (by rfl) (pma_cons (pm_ix iIx (pm_var (pv 0)) pm_int (fun _ _ => rfl)) pma_nil) rfl (hn := ArgN.len (n := 1) (.cons .nil))) pma_nil))))))), Z.F_law_turned_about.kp, Z.b_law_turned_about, Z.m_law_turned_about⟩
abbrev N_law : List Str := ["_law_script", "_law_cell", "_law_source_here", "_law_spots_here", "_law_less", "_law_x", "_law_y", "_law_k", "_law_spot", "_law_due", "_law_wood", "_law_a", "_law_b", "_law_grow", "_law_full", "_law_side", "_law_inner"]
theorem sc_law : FnScope N_law ["_law_script"] (defScope s_law) := ⟨rfl, rfl, rfl, by decide +kernel, rfl, by decide +kernel, by decide +kernel⟩
theorem d_law (Z : Top P w K mg base) : Dx P w K mg base 12 "law" ["_law_script"] m_law Z.f_law Z.fd_law :=
  ⟨fn_ok (N := N_law) (ps := ["_law_script"]) (k := 11) (m := b_law) Z.F_law sc_law fun cdv A outer s H E W hr tk => by
      have PO := passes_of (X := cxOf (L2.CX P w) P w K mg base N_law "law" (defScope s_law) Z.f_law cdv A outer s H E) rfl
      exact (pmss_cons (pms_for PO rfl (pmi_any (pm_slice sSl (pm_op oAdd (pm_var (pv 0)) (pm_lst (pma_cons pm_int pma_nil))) True.intro pm_int)) (pmg_name (pg_name (i := 1) sc_law.nd rfl (.inl rfl))) (pmss_cons (pms_set (ps_set (i := 2) sc_law.nd rfl (.inl rfl) (pm_call (d_law_source Z) tk (hr.mono (by decide)) (by rfl) (pma_cons (pm_var (pv 1)) pma_nil) rfl (hn := ArgN.len (n := 1) (.cons .nil)))))
        (pmss_cons (pms_set (ps_set (i := 3) sc_law.nd rfl (.inr rfl) (pm_call (d_law_spots Z) tk (hr.mono (by decide)) (by rfl) (pma_cons (pm_var (pv 2)) (pma_cons pm_int pma_nil)) rfl (hn := ArgN.len (n := 2) (.cons (.cons .nil))))))
        (pmss_cons (pms_set (ps_set (i := 4) sc_law.nd rfl (.inr rfl) (pm_if (pmt_cmp oGtI (pm_callB (cMax rfl) (by rfl) Z.n_max (by decide +kernel) (pma_cons (pm_op oAdd (pm_lst (pma_cons pm_int pma_nil)) (pm_lc (own := [("_law_x", 5), ("_law_y", 6)]) rfl sc_law.nd (pmi_any (pm_var (pv 3))) (blkOk_by (own := [("_law_x", 5), ("_law_y", 6)]) (N := N_law) (sc := defScope s_law) (by decide +kernel)) (by decide) (fun _ _ _ _ _ => (pmg_tup rfl (pmgs_cons (pmg_name (pg_name (i := 5) sc_law.nd rfl (Or.inl rfl) (.inr rfl))) (pmgs_cons (pmg_name (pg_name (i := 6) sc_law.nd rfl (Or.inl rfl) (.inr rfl))) pmgs_nil)))) (fun _ _ _ _ _ => pmts_nil) (fun _ _ _ _ _ => (pm_op oAdd (pm_callB cAbs (by rfl) Z.n_abs (by decide +kernel) (pma_cons (pm_var (pv 5)) pma_nil)) (pm_callB cAbs (by rfl) Z.n_abs (by decide +kernel) (pma_cons (pm_var (pv 6)) pma_nil)))))) pma_nil)) (pm_op oPow pm_int pm_int) (nomark _)) (pm_op oPow pm_int pm_int) pm_int)))
        (pmss_cons (pms_set (ps_set (i := 3) sc_law.nd rfl (.inr rfl) (pm_lc (own := [("_law_x", 5), ("_law_y", 6)]) rfl sc_law.nd (pmi_any (pm_var (pv 3))) (blkOk_by (own := [("_law_x", 5), ("_law_y", 6)]) (N := N_law) (sc := defScope s_law) (by decide +kernel)) (by decide) (fun _ _ _ _ _ => (pmg_tup rfl (pmgs_cons (pmg_name (pg_name (i := 5) sc_law.nd rfl (Or.inl rfl) (.inr rfl))) (pmgs_cons (pmg_name (pg_name (i := 6) sc_law.nd rfl (Or.inl rfl) (.inr rfl))) pmgs_nil)))) (fun _ _ _ _ _ => pmts_nil) (fun _ _ _ _ _ => (pm_tup (pma_cons (pm_op oDiv (pm_var (pv 5)) (pm_var (pv 4))) (pma_cons (pm_op oDiv (pm_var (pv 6)) (pm_var (pv 4))) pma_nil)))))))
        (pmss_cons (pms_set (ps_set (i := 3) sc_law.nd rfl (.inr rfl) (pm_lc (own := [("_law_k", 7), ("_law_spot", 8)]) rfl sc_law.nd (pmi_enum (by rfl) Z.n_enumerate (pma_cons (pm_var (pv 3)) pma_nil)) (blkOk_by (own := [("_law_k", 7), ("_law_spot", 8)]) (N := N_law) (sc := defScope s_law) (by decide +kernel)) (by decide) (fun _ _ _ _ _ => (pmg_tup rfl (pmgs_cons (pmg_name (pg_name (i := 7) sc_law.nd rfl (Or.inl rfl) (.inr rfl))) (pmgs_cons (pmg_name (pg_name (i := 8) sc_law.nd rfl (Or.inl rfl) (.inr rfl))) pmgs_nil)))) (fun _ _ _ _ _ => (pmts_one (pmt_cmp (oNotIn (hu65 hr)) (pm_var (pv 8)) (pm_slice sSl (pm_var (pv 3)) True.intro (pm_var (pv 7))) (by with_unfolding_all rfl)))) (fun _ _ _ _ _ => (pm_var (pv 8))))))
        (pmss_cons (pms_set (ps_set (i := 9) sc_law.nd rfl (.inl rfl) (pm_callB cLen (by rfl) Z.n_len PySem.boot_len (pma_cons (pm_lc (own := [("_law_k", 7)]) rfl sc_law.nd (pmi_any (pm_tup (pma_cons pm_int (pma_cons pm_int (pma_cons pm_int (pma_cons pm_int (pma_cons pm_int (pma_cons pm_int pma_nil)))))))) (blkOk_by (own := [("_law_k", 7)]) (N := N_law) (sc := defScope s_law) (by decide +kernel)) (by decide) (fun _ _ _ _ _ => (pmg_name (pg_name (i := 7) sc_law.nd rfl (Or.inl rfl)))) (fun _ _ _ _ _ => (pmts_one (pmt_cmp oLe (pm_var (pv 7)) (pm_callB cLen (by rfl) Z.n_len PySem.boot_len (pma_cons (pm_var (pv 3)) pma_nil)) (by with_unfolding_all rfl)))) (fun _ _ _ _ _ => (pm_var (pv 7)))) pma_nil))))
        (pmss_cons (pms_set (ps_set (i := 10) sc_law.nd rfl (.inr rfl) (pm_call (d_middle Z) tk (hr.mono (by decide)) (by rfl) (pma_cons (pm_var (pv 3)) pma_nil) rfl (hn := ArgN.len (n := 1) (.cons .nil)))))
        (pmss_cons (pms_if (PW.pt (pmw_or (pmt_cmp (oNe hr.units) (pm_call (d_height Z) tk (hr.mono (by decide)) (by rfl) (pma_cons (pm_var (pv 10)) pma_nil) rfl (hn := ArgN.len (n := 1) (.cons .nil))) (pm_var (pv 9)) (nomark _)) (pmw_or1 (pmt_cmp (oNe hr.units) (pm_call (d_middle Z) tk (hr.mono (by decide)) (by rfl) (pma_cons (pm_call (d_law_shuffled Z) tk (hr.mono (by decide)) (by rfl) (pma_cons (pm_var (pv 2)) (pma_cons (pm_var (pv 3)) pma_nil)) rfl (hn := ArgN.len (n := 2) (.cons (.cons .nil)))) pma_nil) rfl (hn := ArgN.len (n := 1) (.cons .nil))) (pm_var (pv 10)) (nomark _))))) (pmss_one (pms_ret pm_bl)) pmss_nil)
        (pmss_cons (pms_if (pmt_cmp (oNe hr.units) (pm_callB (cSort hr.units) (by rfl) Z.n_sorted (by decide +kernel) (pma_cons (pm_call (d_in_order Z) tk (hr.mono (by decide)) (by rfl) (pma_cons (pm_var (pv 10)) pma_nil) rfl (hn := ArgN.len (n := 1) (.cons .nil))) pma_nil)) (pm_callB (cSort hr.units) (by rfl) Z.n_sorted (by decide +kernel) (pma_cons (pm_var (pv 3)) pma_nil)) (nomark _)) (pmss_one (pms_ret pm_bl)) pmss_nil)
        (pmss_cons (pms_asg (pm_tup (pma_cons (pm_call (d_law_take Z) tk (hr.mono (by decide)) (by rfl) (pma_cons (pm_var (pv 2)) (pma_cons (pm_op oPow pm_int pm_int) pma_nil)) rfl (hn := ArgN.len (n := 2) (.cons (.cons .nil)))) (pma_cons (pm_neg (pm_call (d_law_take Z) tk (hr.mono (by decide)) (by rfl) (pma_cons (pm_var (pv 2)) (pma_cons (pm_op oPow pm_int pm_int) pma_nil)) rfl (hn := ArgN.len (n := 2) (.cons (.cons .nil))))) (pma_cons (pm_op oAdd pm_int (pm_call (d_law_take Z) tk (hr.mono (by decide)) (by rfl) (pma_cons (pm_var (pv 2)) (pma_cons (pm_op oPow pm_int pm_int) pma_nil)) rfl (hn := ArgN.len (n := 2) (.cons (.cons .nil))))) pma_nil)))) (pmg_tup rfl (pmgs_cons (pmg_name (pg_name (i := 11) sc_law.nd rfl (.inr rfl))) (pmgs_cons (pmg_name (pg_name (i := 12) sc_law.nd rfl (.inr rfl))) (pmgs_cons (pmg_name (pg_name (i := 13) sc_law.nd rfl (.inr rfl))) pmgs_nil)))))
        (pmss_cons (pms_if (pmt_cmp (oNe hr.units) (pm_call (d_middle Z) tk (hr.mono (by decide)) (by rfl) (pma_cons (pm_lc (own := [("_law_x", 5), ("_law_y", 6)]) rfl sc_law.nd (pmi_any (pm_var (pv 3))) (blkOk_by (own := [("_law_x", 5), ("_law_y", 6)]) (N := N_law) (sc := defScope s_law) (by decide +kernel)) (by decide) (fun _ _ _ _ _ => (pmg_tup rfl (pmgs_cons (pmg_name (pg_name (i := 5) sc_law.nd rfl (Or.inl rfl) (.inr rfl))) (pmgs_cons (pmg_name (pg_name (i := 6) sc_law.nd rfl (Or.inl rfl) (.inr rfl))) pmgs_nil)))) (fun _ _ _ _ _ => pmts_nil) (fun _ _ _ _ _ => (pm_tup (pma_cons (pm_op oAdd (pm_var (pv 11)) (pm_op oMul (pm_var (pv 13)) (pm_var (pv 5)))) (pma_cons (pm_op oAdd (pm_var (pv 12)) (pm_op oMul (pm_var (pv 13)) (pm_var (pv 6)))) pma_nil))))) pma_nil) rfl (hn := ArgN.len (n := 1) (.cons .nil))) (pm_call (d_law_moved Z 8) tk (hr.mono (by decide)) (by rfl) (pma_cons (pm_var (pv 10)) (pma_cons (pm_var (pv 11)) (pma_cons (pm_var (pv 12)) (pma_cons (pm_var (pv 13)) pma_nil)))) rfl (hn := ArgN.len (n := 4) (.cons (.cons (.cons (.cons .nil)))))) (nomark _)) (pmss_one (pms_ret pm_bl)) pmss_nil)
        (pmss_cons (pms_set (ps_set (i := 14) sc_law.nd rfl (.inl rfl) (pm_slice sSl (pm_var (pv 3)) True.intro (pm_ix iIx (pm_lc (own := [("_law_k", 7)]) rfl sc_law.nd (pmi_any (pm_tup (pma_cons pm_int (pma_cons pm_int (pma_cons pm_int (pma_cons pm_int (pma_cons pm_int (pma_cons pm_int pma_nil)))))))) (blkOk_by (own := [("_law_k", 7)]) (N := N_law) (sc := defScope s_law) (by decide +kernel)) (by decide) (fun _ _ _ _ _ => (pmg_name (pg_name (i := 7) sc_law.nd rfl (Or.inl rfl)))) (fun _ _ _ _ _ => (pmts_one (pmt_cmp oLe (pm_var (pv 7)) (pm_callB cLen (by rfl) Z.n_len PySem.boot_len (pma_cons (pm_var (pv 3)) pma_nil)) (by with_unfolding_all rfl)))) (fun _ _ _ _ _ => (pm_var (pv 7)))) (pm_neg pm_int) (fun _ _ => rfl)))))
        (pmss_cons (pms_if (pmt_cmp (oNe hr.units) (pm_call (d_middle Z) tk (hr.mono (by decide)) (by rfl) (pma_cons (pm_lc (own := [("_law_x", 5), ("_law_y", 6)]) rfl sc_law.nd (pmi_any (pm_var (pv 14))) (blkOk_by (own := [("_law_x", 5), ("_law_y", 6)]) (N := N_law) (sc := defScope s_law) (by decide +kernel)) (by decide) (fun _ _ _ _ _ => (pmg_tup rfl (pmgs_cons (pmg_name (pg_name (i := 5) sc_law.nd rfl (Or.inl rfl) (.inr rfl))) (pmgs_cons (pmg_name (pg_name (i := 6) sc_law.nd rfl (Or.inl rfl) (.inr rfl))) pmgs_nil)))) (fun _ _ _ _ _ => pmts_nil) (fun _ _ _ _ _ => (pm_tup (pma_cons (pm_neg (pm_var (pv 5))) (pma_cons (pm_neg (pm_var (pv 6))) pma_nil))))) pma_nil) rfl (hn := ArgN.len (n := 1) (.cons .nil))) (pm_call (d_law_mirrored Z 8) tk (hr.mono (by decide)) (by rfl) (pma_cons (pm_call (d_middle Z) tk (hr.mono (by decide)) (by rfl) (pma_cons (pm_var (pv 14)) pma_nil) rfl (hn := ArgN.len (n := 1) (.cons .nil))) pma_nil) rfl (hn := ArgN.len (n := 1) (.cons .nil))) (nomark _)) (pmss_one (pms_ret pm_bl)) pmss_nil)
        (pmss_cons (pms_if (PW.pt (pmw_or (pmt_cmp (oNe hr.units) (pm_call (d_middle Z) tk (hr.mono (by decide)) (by rfl) (pma_cons (pm_call (d_in_order Z) tk (hr.mono (by decide)) (by rfl) (pma_cons (pm_var (pv 10)) pma_nil) rfl (hn := ArgN.len (n := 1) (.cons .nil))) pma_nil) rfl (hn := ArgN.len (n := 1) (.cons .nil))) (pm_var (pv 10)) (nomark _)) (pmw_or1 (pmt_cmp oNotB (pm_call (d_is_even Z) tk (hr.mono (by decide)) (by rfl) (pma_cons (pm_var (pv 10)) pma_nil) rfl (hn := ArgN.len (n := 1) (.cons .nil))) pm_bl (nomark _))))) (pmss_one (pms_ret pm_bl)) pmss_nil)
        (pmss_one (pms_if (pmt_notN (b := .Constant .none 0 ⟨0, 0, 0, 0⟩) (pt_cmp (pc_notN (pm_var (pv 10))))) (pmss_cons (pms_for PO rfl (pmi_any (pm_tup (pma_cons pm_int (pma_cons pm_int pma_nil)))) (pmg_name (pg_name (i := 15) sc_law.nd rfl (.inl rfl))) (pmss_cons (pms_set (ps_set (i := 16) sc_law.nd rfl (.inl rfl) (pm_slice sSl (pm_call (d_in_order Z) tk (hr.mono (by decide)) (by rfl) (pma_cons (pm_if (pmt_cmp (oEq hr.units) (pm_var (pv 15)) pm_int (nomark _)) (pm_tup (pma_cons (pm_ix iIx (pm_var (pv 10)) pm_int (fun _ _ => rfl)) (pma_cons (pm_ix iIx (pm_var (pv 10)) pm_int (fun _ _ => rfl)) (pma_cons pm_non pma_nil)))) (pm_tup (pma_cons (pm_ix iIx (pm_var (pv 10)) pm_int (fun _ _ => rfl)) (pma_cons pm_non (pma_cons (pm_ix iIx (pm_var (pv 10)) pm_int (fun _ _ => rfl)) pma_nil))))) pma_nil) rfl (hn := ArgN.len (n := 1) (.cons .nil))) pm_int True.intro)))
        (pmss_one (pms_if (pmt_cmp (oNe hr.units) (pm_call (d_middle Z) tk (hr.mono (by decide)) (by rfl) (pma_cons (pm_lc (own := [("_law_spot", 8)]) rfl sc_law.nd (pmi_any (pm_var (pv 16))) (blkOk_by (own := [("_law_spot", 8)]) (N := N_law) (sc := defScope s_law) (by decide +kernel)) (by decide) (fun _ _ _ _ _ => (pmg_name (pg_name (i := 8) sc_law.nd rfl (Or.inl rfl)))) (fun _ _ _ _ _ => pmts_nil) (fun _ _ _ _ _ => (pm_revT (pm_var (pv 8))))) pma_nil) rfl (hn := ArgN.len (n := 1) (.cons .nil))) (pm_call (d_law_turned_about Z 8) tk (hr.mono (by decide)) (by rfl) (pma_cons (pm_ix iIx (pm_var (pv 10)) (pm_var (pv 15)) (fun _ _ => rfl)) pma_nil) rfl (hn := ArgN.len (n := 1) (.cons .nil))) (nomark _)) (pmss_one (pms_ret pm_bl)) pmss_nil))))
        (pmss_cons (pms_if (pmt_cmp (oNe hr.units) (pm_callB (cSort hr.units) (by rfl) Z.n_sorted (by decide +kernel) (pma_cons (pm_call (d_in_order Z) tk (hr.mono (by decide)) (by rfl) (pma_cons (pm_call (d_taken Z) tk (hr.mono (by decide)) (by rfl) (pma_cons (pm_var (pv 10)) (pma_cons (pm_ix iIx (pm_var (pv 10)) pm_int (fun _ _ => rfl)) pma_nil)) rfl (hn := ArgN.len (n := 2) (.cons (.cons .nil)))) pma_nil) rfl (hn := ArgN.len (n := 1) (.cons .nil))) pma_nil)) (pm_callB (cSort hr.units) (by rfl) Z.n_sorted (by decide +kernel) (pma_cons (pm_lc (own := [("_law_spot", 8)]) rfl sc_law.nd (pmi_any (pm_var (pv 3))) (blkOk_by (own := [("_law_spot", 8)]) (N := N_law) (sc := defScope s_law) (by decide +kernel)) (by decide) (fun _ _ _ _ _ => (pmg_name (pg_name (i := 8) sc_law.nd rfl (Or.inl rfl)))) (fun _ _ _ _ _ => (pmts_one (pmt_cmp (oNe hr.units) (pm_var (pv 8)) (pm_ix iIx (pm_var (pv 10)) pm_int (fun _ _ => rfl)) (by with_unfolding_all rfl)))) (fun _ _ _ _ _ => (pm_var (pv 8)))) pma_nil)) (nomark _)) (pmss_one (pms_ret pm_bl)) pmss_nil)
        (pmss_one (pms_if (pmt_cmp (oNe hr.units) (pm_call (d_taken Z) tk (hr.mono (by decide)) (by rfl) (pma_cons (pm_var (pv 10)) (pma_cons (pm_ix iIx (pm_var (pv 10)) pm_int (fun _ _ => rfl)) pma_nil)) rfl (hn := ArgN.len (n := 2) (.cons (.cons .nil)))) (pm_call (d_middle Z) tk (hr.mono (by decide)) (by rfl) (pma_cons (pm_lc (own := [("_law_spot", 8)]) rfl sc_law.nd (pmi_any (pm_var (pv 3))) (blkOk_by (own := [("_law_spot", 8)]) (N := N_law) (sc := defScope s_law) (by decide +kernel)) (by decide) (fun _ _ _ _ _ => (pmg_name (pg_name (i := 8) sc_law.nd rfl (Or.inl rfl)))) (fun _ _ _ _ _ => (pmts_one (pmt_cmp (oNe hr.units) (pm_var (pv 8)) (pm_ix iIx (pm_var (pv 10)) pm_int (fun _ _ => rfl)) (by with_unfolding_all rfl)))) (fun _ _ _ _ _ => (pm_var (pv 8)))) pma_nil) rfl (hn := ArgN.len (n := 1) (.cons .nil))) (nomark _)) (pmss_one (pms_ret pm_bl)) pmss_nil)))) pmss_nil)))))))))))))))))
        (pmss_one (pms_ret pm_bl))), Z.F_law.kp, Z.b_law, Z.m_law⟩
end
end PM

namespace PM
open PySem PySem.Spec PyProof.Rows L2 Q2
local macro_rules | `(tactic| walk_at "fn") => `(tactic| (first | refine w_fn1 ?_ | refine w_fn2 ?_ | refine w_fn3 ?_ | refine w_fn4 ?_ | refine w_fn5 ?_ | refine w_fn6 ?_); dsimp only [List.replicate])
local macro_rules | `(tactic| walk_at "kb") => `(tactic| with_reducible first | exact kb_int_int | exact kb_int_bool | exact kb_int_str | exact kb_int_list | exact kb_int_tuple | exact kb_bool_int | exact kb_bool_bool | exact kb_bool_str | exact kb_bool_list | exact kb_bool_tuple | exact kb_str_int | exact kb_str_bool | exact kb_str_str | exact kb_str_list | exact kb_str_tuple | exact kb_list_int | exact kb_list_bool | exact kb_list_str | exact kb_list_list | exact kb_list_tuple | exact kb_tuple_int | exact kb_tuple_bool | exact kb_tuple_str | exact kb_tuple_list | exact kb_tuple_tuple | exact kb_NoneType_int | exact kb_NoneType_bool | exact kb_NoneType_str | exact kb_NoneType_list | exact kb_NoneType_tuple)
local macro_rules | `(tactic| walk_at "go1") => `(tactic| first
  | ((with_reducible refine w_var (v := ?v) ?h ?_); case h => exact rfl)
  | with_reducible first
  | refine w_c ?_ | refine w_m2 ?_ | refine w_m1 ?_ | refine w_maC ?_ | refine w_maN ?_ | refine w_mL ?_ | refine w_call ?_
  | refine w_mtOf ?_ | refine w_mtNot ?_ | refine w_mtAnd ?_ | refine w_mtOr ?_ | refine w_meAnd ?_ | refine w_meOr ?_ | refine w_mNot ?_
  | refine ws_seq ?_ | (refine ws_set ?_) | refine ws_ret ?_ | refine ws_if ?_ | refine ws_expr ?_ | refine ws_nil ?_ | refine ws_asg ?_
  | refine wo_int ?_ | refine wo_add ?_ | refine wo_addI ?_ | refine wo_sub ?_ | refine wo_lt ?_ | refine wo_le ?_ | refine wo_gt ?_ | refine wo_ge ?_
  | refine wo_max2 ?_ | refine wo_min2 ?_ | refine wo_abs ?_ | refine wo_neg ?_ | refine wo_eqI ?_ | refine wo_neI ?_ | refine wo_intB ?_ | refine wo_ixT rfl ?_ | refine ws_brk ?_ | refine ws_cnt ?_ | refine w_if ?_ | refine ws_par ?_ | refine ws_par3 ?_ | (refine ⟨_, _, rfl, ?_⟩) | (refine ⟨_, _, _, rfl, ?_⟩) | refine w_isN ?_ | refine w_notN ?_ | refine ite_t ?_ | refine ite_f ?_ | refine ite_nt ?_ | refine ite_nf ?_ | refine w_chain ?_ | refine w_isiT ?_ | refine wg_sub ?_ | (refine ⟨_, rfl, ?_⟩) | refine wg_v ?_ | refine wg_c ?_ | refine wg_n ?_ | refine w_sl ?_ | refine w_optS ?_ | refine w_optN ?_ | refine wo_sl31 ?_)
local macro_rules | `(tactic| walk_at "go2") => `(tactic| first
  | walk_at "go1"
  | ((with_reducible refine wo_mod ?h ?_); case h => omega) | ((with_reducible refine wo_div ?h ?_); case h => omega) | ((with_reducible refine wo_mul_l ?h ?_); case h => omega) | ((with_reducible refine wo_mul_r ?h ?_); case h => omega)
  | ((with_reducible refine wo_shr ?h ?_); case h => omega) | ((with_reducible refine wo_shl ?h ?_); case h => omega) | ((with_reducible refine wo_pow ?h ?_); case h => omega)
  | ((with_reducible refine ite_d ?a ?b); (case b => exact fun h => absurd (by omega) h); intro _)
  | ((with_reducible refine ite_d ?a ?b); (case a => exact fun h => absurd h (by omega)); intro _)
  | ((with_reducible refine ite_d ?a ?b) <;> intro _)
  | ((with_reducible refine ⟨_, _, ?xs, ?j, rfl, rfl, ?h, ?e, ?_⟩); (case h => assumption); (case e => exact rfl))
  | ((with_reducible refine ite_nd ?a ?b); (case b => exact fun h => absurd h (by omega)); intro _)
  | ((with_reducible refine ite_nd ?a ?b); (case a => exact fun h => absurd (by omega) h); intro _)
  | ((with_reducible refine ite_nd ?a ?b) <;> intro _)
  | ((with_reducible refine wg_t ?h ?_); case h => exact rfl)
  | ((with_reducible refine wo_addL (xs := ?xs) (ys := ?ys) (lst_ref ?h1) (lst_ref ?h2) ?h3 ?_); (case h1 => first | assumption | exact get_app (by assumption)); (case h2 => first | assumption | exact get_app (by assumption)); (case h3 => (show _ ≤ 2 ^ 24; simp only [List.length_append, List.length_cons, List.length_nil, List.length_map]; omega)))
  | ((with_reducible refine wo_isi (k := ?k) (b := ?b) ?h1 ?h2 ?_); (case h1 => first | exact rfl | exact kind_ref (by assumption)); (case h2 => walk_at "kb"))
  | ((with_reducible refine wo_len (xs := ?xs) ?h ?_); (case h => first | exact rfl | exact seq_ref (by assumption)))
  | ((with_reducible refine wo_ixL (xs := ?xs) (x := ?x) ?h1 ?h2 ?_); (case h1 => exact lst_ref (by assumption)); (case h2 => exact rfl))
  | ((with_reducible refine wo_tup ?h ?_); case h => (simp only [List.length_cons, List.length_nil]; decide)) | ((with_reducible refine wo_lst ?h ?_); case h => (simp only [List.length_cons, List.length_nil]; decide)))
local macro_rules | `(tactic| walk_at "go") => `(tactic| (repeat' walk_at "go2") <;> try dsimp only [List.set_cons_zero, List.set_cons_succ])

def Src (S : Sto) (n : Nat) : Prop := ∃ a b c : Int, S[n]? = some (.lst [.int a, .int b, .int c])
structure Mv (n : Nat) (S S' : Sto) : Prop where
  src : Src S' n
  kp : Kp n S S'
theorem Mv.refl {n : Nat} {S : Sto} (h : Src S n) : Mv n S S := ⟨h, Kp.refl n S⟩
theorem Mv.trans {n : Nat} {S S1 S2 : Sto} (a : Mv n S S1) (b : Mv n S1 S2) : Mv n S S2 := ⟨b.src, a.kp.trans b.kp⟩
theorem Gr.mv {n : Nat} {S S' : Sto} (h : Src S n) (g : Gr S S') : Mv n S S' := ⟨by obtain ⟨a, b, c, h⟩ := h; exact ⟨a, b, c, g.get h⟩, g.kp⟩
theorem Mv.get {n : Nat} {S S' : Sto} (m : Mv n S S') {i : Nat} {o : Ob} (hi : i ≠ n) (h : S[i]? = some o) : S'[i]? = some o := m.kp.get hi h
theorem Src.lt {n : Nat} {S : Sto} (h : Src S n) : n < S.length := by obtain ⟨a, b, c, h⟩ := h; exact lt_get h
theorem mv_set {S : Sto} {n : Nat} (h : Src S n) (a b c : Int) : Mv n S (S.set n (.lst [.int a, .int b, .int c])) := ⟨by obtain ⟨_, _, _, h⟩ := h; exact ⟨a, b, c, get_set h⟩, Kp.set n S _⟩
theorem sp_mixed {S : Sto} {i j : Int} : Wp (m_law_mixed [.int i, .int j] S) (fun v S' => S' = S ∧ ∃ r : Int, v = .int r) := by
  walk_at "fn"
  unfold b_law_mixed
  walk_at "go"
  exact ⟨rfl, _, rfl⟩
theorem sp_take {S : Sto} {n : Nat} {B : Int} (h : Src S n) (hB : 0 < B ∧ B < 10000000000000000000000000000000) : Wp (m_law_take [.ref n, .int B] S) (fun v S' => ∃ r : Int, v = .int r ∧ 0 ≤ r ∧ r < B ∧ Mv n S S') := by
  have hs := h
  obtain ⟨a, b, c, h⟩ := h
  have := hB.1
  have g : (S.set n (.lst [.int a, .int b, .int (c + 1)]))[n]? = some (.lst [.int a, .int b, .int (c + 1)]) := get_set h
  walk_at "fn"
  unfold b_law_take
  walk_at "go"
  · exact ⟨Int.emod_nonneg _ (by omega), Int.emod_lt_of_pos _ (by omega), mv_set hs _ _ _⟩
  · refine sp_mixed.mono ?_
    rintro v S' ⟨rfl, r, rfl⟩
    walk_at "go"
    exact ⟨Int.emod_nonneg _ (by omega), Int.emod_lt_of_pos _ (by omega), mv_set hs _ _ _⟩
theorem sp_source {S : Sto} {i : Int} : Wp (m_law_source [.int i] S) (fun v S' => v = .ref S.length ∧ Src S' S.length ∧ Gr S S') := by
  walk_at "fn"
  unfold b_law_source
  walk_at "go"
  · exact ⟨rfl, ⟨_, _, _, get_last⟩, Gr.app _ _⟩
  · exact ⟨rfl, ⟨_, _, _, get_last⟩, Gr.app _ _⟩
theorem sp_pick {S : Sto} {n k : Nat} {xs : List Va} (h : Src S n) (hk : S[k]? = some (.lst xs)) (hn : k ≠ n) (hx : 0 < xs.length) (hl : xs.length < 1000000000) : Wp (m_law_pick [.ref n, .ref k] S) (fun v S' => v ∈ xs ∧ Mv n S S') := by
  walk_at "fn"
  unfold b_law_pick
  walk_at "go"
  refine (sp_take h (by omega)).mono ?_
  rintro v S' ⟨r, rfl, h0, h1, m⟩
  obtain ⟨x, e, _, hx⟩ := at_nat h0 h1
  exact wo_ixL (lst_ref (m.get hn hk)) e ⟨hx, m⟩
end PM

namespace PM
/-! ### trees of numbers, and the rows that tell them -/
inductive IT where
  | nil : IT
  | node (k : Nat) (ch : Fin 4 → IT) : IT
namespace IT
def rt (m : Nat) : IT → Nat
  | nil => m
  | node k _ => k
def Mem (m : Nat) : IT → Prop
  | nil => False
  | node k ch => m = k ∨ ∃ j, Mem m (ch j)
/-- all below a node have greater numbers, and no number stands twice -/
def Asc : IT → Prop
  | nil => True
  | node k ch => (∀ j m, Mem m (ch j) → k < m) ∧ (∀ i j m, Mem m (ch i) → Mem m (ch j) → i = j) ∧ ∀ j, Asc (ch j)
def Rep (rows : List (List Nat)) (m : Nat) : IT → Prop
  | nil => True
  | node k ch => rows[k]? = some [(ch 0).rt m, (ch 1).rt m, (ch 2).rt m, (ch 3).rt m] ∧ ∀ j, Rep rows m (ch j)
def ins (f : Nat → Nat → Fin 4) (n : Nat) : IT → IT
  | nil => node n fun _ => nil
  | node k ch => node k fun j => if j = f k n then ins f n (ch j) else ch j
def isNil : IT → Bool
  | nil => true
  | node _ _ => false
/-- where a number is hung: at which one, as which part -/
def tgt (f : Nat → Nat → Fin 4) (n : Nat) : IT → Nat × Fin 4
  | nil => (0, 0)
  | node k ch => if (ch (f k n)).isNil = true then (k, f k n) else tgt f n (ch (f k n))
theorem mem_ins {f : Nat → Nat → Fin 4} {n m : Nat} : ∀ {t : IT}, Mem m (ins f n t) ↔ m = n ∨ Mem m t
  | nil => by simp [ins, Mem]
  | node k ch => by
    simp only [ins, Mem]
    constructor
    · rintro (h | ⟨j, h⟩)
      · exact .inr (.inl h)
      · by_cases e : j = f k n
        · rw [if_pos e] at h
          rcases mem_ins.mp h with h | h
          · exact .inl h
          · exact .inr (.inr ⟨j, h⟩)
        · rw [if_neg e] at h
          exact .inr (.inr ⟨j, h⟩)
    · rintro (h | h | ⟨j, h⟩)
      · exact .inr ⟨f k n, by rw [if_pos rfl]; exact mem_ins.mpr (.inl h)⟩
      · exact .inl h
      · refine .inr ⟨j, ?_⟩
        by_cases e : j = f k n
        · rw [if_pos e]
          exact mem_ins.mpr (.inr h)
        · rw [if_neg e]
          exact h
theorem asc_ins {f : Nat → Nat → Fin 4} {n : Nat} : ∀ {t : IT}, Asc t → (∀ m, Mem m t → m < n) → Asc (ins f n t)
  | nil, _, _ => ⟨fun _ _ h => h.elim, fun _ _ _ h => h.elim, fun _ => trivial⟩
  | node k ch, ⟨h1, h2, h3⟩, hn => by
    have lt : ∀ {j m}, Mem m (ch j) → m < n := fun h => hn _ (.inr ⟨_, h⟩)
    have kn : k < n := hn k (.inl rfl)
    have key : ∀ {j m}, Mem m (if j = f k n then ins f n (ch j) else ch j) → (m = n ∧ j = f k n) ∨ Mem m (ch j) := fun {j m} h => by
      by_cases e : j = f k n
      · rw [if_pos e] at h
        rcases mem_ins.mp h with h | h
        · exact .inl ⟨h, e⟩
        · exact .inr h
      · rw [if_neg e] at h
        exact .inr h
    refine ⟨fun j m h => ?_, fun i j m hi hj => ?_, fun j => ?_⟩
    · rcases key h with ⟨rfl, _⟩ | h
      · exact kn
      · exact h1 j m h
    · rcases key hi with ⟨e, ei⟩ | hi
      · rcases key hj with ⟨_, ej⟩ | hj
        · rw [ei, ej]
        · have := lt hj
          omega
      · rcases key hj with ⟨e, _⟩ | hj
        · have := lt hi
          omega
        · exact h2 i j m hi hj
    · by_cases e : j = f k n
      · show Asc (if j = f k n then ins f n (ch j) else ch j)
        rw [if_pos e]
        exact asc_ins (h3 j) fun m h => lt h
      · show Asc (if j = f k n then ins f n (ch j) else ch j)
        rw [if_neg e]
        exact h3 j
theorem rt_mem {m : Nat} : ∀ {t : IT}, t.isNil = false → Mem (t.rt m) t
  | nil, h => by cases h
  | node k ch, _ => .inl rfl
theorem rt_nil {m : Nat} : ∀ {t : IT}, t.isNil = true → t.rt m = m
  | nil, _ => rfl
  | node k ch, h => by cases h
theorem rt_ins {f : Nat → Nat → Fin 4} {n m : Nat} : ∀ {t : IT}, (ins f n t).rt m = if t.isNil = true then n else t.rt m
  | nil => rfl
  | node k ch => rfl
theorem tgt_mem {f : Nat → Nat → Fin 4} {n : Nat} : ∀ {t : IT}, t.isNil = false → Mem (tgt f n t).1 t
  | nil, h => by cases h
  | node k ch, _ => by
    unfold tgt
    split
    · exact .inl rfl
    · rename_i h
      exact .inr ⟨f k n, tgt_mem (by simpa using h)⟩
/-- the rows with a number more, hung at a part -/
structure Hung (rows rows' : List (List Nat)) (kp : Nat × Fin 4) (n m : Nat) : Prop where
  old : ∀ k r, rows[k]? = some r → rows'[k]? = some (if k = kp.1 then r.set kp.2 n else r)
  new : rows'[n]? = some [m, m, m, m]
theorem rep_other {rows rows' : List (List Nat)} {m : Nat} {kp : Nat × Fin 4} {n : Nat} (H : Hung rows rows' kp n m) : ∀ {t : IT}, ¬ Mem kp.1 t → Rep rows m t → Rep rows' m t
  | nil, _, _ => trivial
  | node k ch, hm, ⟨h1, h2⟩ => by
    refine ⟨?_, fun j => rep_other H (fun h => hm (.inr ⟨j, h⟩)) (h2 j)⟩
    rw [H.old k _ h1, if_neg (fun e => hm (.inl e.symm))]
theorem isNil_eq {t : IT} (h : t.isNil = true) : t = nil := by
  cases t with
  | nil => rfl
  | node _ _ => cases h
theorem rep_hang {f : Nat → Nat → Fin 4} {rows rows' : List (List Nat)} {m n : Nat} : ∀ {t : IT}, Hung rows rows' (tgt f n t) n m → t.isNil = false → Asc t → Rep rows m t → Rep rows' m (ins f n t)
  | nil, _, h, _, _ => by cases h
  | node k ch, H, _, ⟨h1, h2, h3⟩, ⟨r1, r2⟩ => by
    have kn : ∀ j, ¬ Mem k (ch j) := fun j h => by have := h1 j k h; omega
    unfold tgt at H
    have key : ∀ j, (if j = f k n then ins f n (ch j) else ch j).rt m = if j = f k n then (if (ch (f k n)).isNil = true then n else (ch j).rt m) else (ch j).rt m := fun j => by
      by_cases q : j = f k n
      · rw [if_pos q, if_pos q, rt_ins, q]
      · rw [if_neg q, if_neg q]
    by_cases e : (ch (f k n)).isNil = true
    · rw [if_pos e] at H
      refine ⟨?_, fun j => ?_⟩
      · rw [H.old k _ r1, if_pos rfl, key, key, key, key, if_pos e, if_pos e, if_pos e, if_pos e]
        show some (List.set [(ch 0).rt m, (ch 1).rt m, (ch 2).rt m, (ch 3).rt m] (f k n) n) = _
        generalize f k n = p
        match p with
        | 0 => rfl
        | 1 => rfl
        | 2 => rfl
        | 3 => rfl
      · show Rep _ m (if j = f k n then ins f n (ch j) else ch j)
        by_cases q : j = f k n
        · rw [if_pos q, q, isNil_eq e]
          exact ⟨H.new, fun _ => trivial⟩
        · rw [if_neg q]
          exact rep_other H (kn j) (r2 j)
    · rw [if_neg e] at H
      have e' : (ch (f k n)).isNil = false := by simpa using e
      have tm := tgt_mem (f := f) (n := n) e'
      refine ⟨?_, fun j => ?_⟩
      · rw [H.old k _ r1, if_neg (fun h => kn (f k n) (Eq.mpr (congrArg (fun z => Mem z (ch (f k n))) h) tm)), key, key, key, key, if_neg e, if_neg e, if_neg e, if_neg e]
        simp only [ite_self]
      · show Rep _ m (if j = f k n then ins f n (ch j) else ch j)
        by_cases q : j = f k n
        · rw [if_pos q, q]
          exact rep_hang H e' (h3 _) (r2 _)
        · rw [if_neg q]
          exact rep_other H (fun h => q (h2 _ _ _ h tm)) (r2 j)
/-! ### the tree that comes of dividing at the first one -/
def grow (f : Nat → Nat → Fin 4) : Nat → List Nat → IT
  | 0, _ => nil
  | _ + 1, [] => nil
  | n + 1, k :: r => node k fun j => grow f n (r.filter fun m => decide (f k m = j))
theorem grow_snoc {f : Nat → Nat → Fin 4} {a : Nat} : ∀ (n : Nat) (l : List Nat), l.length + 1 ≤ n → grow f n (l ++ [a]) = ins f a (grow f n l)
  | 0, l, h => by omega
  | n + 1, [], h => by
    show node a (fun j => grow f n _) = node a fun _ => nil
    congr 1
    funext j
    cases n <;> rfl
  | n + 1, k :: r, h => by
    show node k _ = node k _
    congr 1
    funext j
    show grow f n ((r ++ [a]).filter _) = if j = f k a then ins f a (grow f n (r.filter _)) else grow f n (r.filter _)
    rw [List.filter_append]
    have hl : (r.filter fun m => decide (f k m = j)).length ≤ r.length := List.length_filter_le ..
    have h' : r.length + 1 + 1 ≤ n + 1 := h
    by_cases q : j = f k a
    · have e : [a].filter (fun m => decide (f k m = j)) = [a] := by simp [q]
      rw [if_pos q, e, grow_snoc n _ (by omega)]
    · have e : [a].filter (fun m => decide (f k m = j)) = [] := by simp [show ¬ f k a = j from fun h => q h.symm]
      rw [if_neg q, e, List.append_nil]
theorem grow_fuel {f : Nat → Nat → Fin 4} : ∀ (n n' : Nat) (l : List Nat), l.length ≤ n → l.length ≤ n' → grow f n l = grow f n' l
  | 0, 0, _, _, _ => rfl
  | 0, n' + 1, [], _, _ => rfl
  | n + 1, 0, [], _, _ => rfl
  | n + 1, n' + 1, [], _, _ => rfl
  | 0, _, k :: r, h, _ => by simp at h
  | _, 0, k :: r, _, h => by simp at h
  | n + 1, n' + 1, k :: r, h, h' => by
    show node k _ = node k _
    congr 1
    funext j
    have hl : (r.filter fun m => decide (f k m = j)).length ≤ r.length := List.length_filter_le ..
    simp only [List.length_cons] at h h'
    exact grow_fuel n n' _ (by omega) (by omega)
theorem mem_grow {f : Nat → Nat → Fin 4} {m : Nat} : ∀ (n : Nat) (l : List Nat), Mem m (grow f n l) → m ∈ l
  | 0, _, h => h.elim
  | _ + 1, [], h => h.elim
  | n + 1, k :: r, h => by
    rcases h with h | ⟨j, h⟩
    · rw [h]
      exact List.mem_cons_self ..
    · exact List.mem_cons_of_mem _ (List.mem_filter.mp (mem_grow n _ h)).1
end IT
/-! ### trees of points -/
inductive QT where
  | nil : QT
  | node (p : Int × Int) (ch : Fin 4 → QT) : QT
namespace QT
def growQ (f : Int × Int → Int × Int → Fin 4) : Nat → List (Int × Int) → QT
  | 0, _ => nil
  | _ + 1, [] => nil
  | n + 1, k :: r => node k fun j => growQ f n (r.filter fun m => decide (f k m = j))
def ofI (p : Nat → Int × Int) : IT → QT
  | .nil => nil
  | .node k ch => node (p k) fun j => ofI p (ch j)
theorem ofI_grow {f : Int × Int → Int × Int → Fin 4} {p : Nat → Int × Int} : ∀ (n : Nat) (l : List Nat), ofI p (IT.grow (fun a b => f (p a) (p b)) n l) = growQ f n (l.map p)
  | 0, _ => rfl
  | _ + 1, [] => rfl
  | n + 1, k :: r => by
    show node (p k) _ = node (p k) _
    congr 1
    funext j
    rw [List.filter_map]
    exact ofI_grow n _
end QT

def ltK (a b : Int × Int) : Bool := decide (a.1 < b.1 ∨ (a.1 = b.1 ∧ a.2 < b.2))
def yk (p : Int × Int) : Int × Int := (p.2, p.1)
def isHi (j : Fin 4) : Bool := decide (j.val % 2 = 1)
def isUp (j : Fin 4) : Bool := decide (2 ≤ j.val)
def sideF (p q : Int × Int) : Fin 4 := ⟨(if ltK p q = true then 1 else 0) + (if ltK (yk p) (yk q) = true then 2 else 0), by split <;> split <;> decide⟩
theorem isHi_side (p q : Int × Int) : isHi (sideF p q) = ltK p q := by
  show decide (((if ltK p q = true then 1 else 0) + (if ltK (yk p) (yk q) = true then 2 else 0) : Nat) % 2 = 1) = ltK p q
  cases ltK p q <;> cases ltK (yk p) (yk q) <;> rfl
theorem isUp_side (p q : Int × Int) : isUp (sideF p q) = ltK (yk p) (yk q) := by
  show decide (2 ≤ ((if ltK p q = true then 1 else 0) + (if ltK (yk p) (yk q) = true then 2 else 0) : Nat)) = ltK (yk p) (yk q)
  cases ltK p q <;> cases ltK (yk p) (yk q) <;> rfl
def Far : Int := 1000000000000000000000000000000
def PtB (p : Int × Int) : Prop := (-Far ≤ p.1 ∧ p.1 ≤ Far) ∧ (-Far ≤ p.2 ∧ p.2 ≤ Far)
namespace QT
def ht : QT → Nat
  | nil => 0
  | node _ ch => 1 + max (max (ht (ch 0)) (ht (ch 1))) (max (ht (ch 2)) (ht (ch 3)))
def size : QT → Nat
  | nil => 0
  | node _ ch => 1 + (size (ch 0) + size (ch 1) + size (ch 2) + size (ch 3))
theorem grow_ht {f : Int × Int → Int × Int → Fin 4} : ∀ (n : Nat) (l : List (Int × Int)), (growQ f n l).ht ≤ l.length
  | 0, _ => Nat.zero_le _
  | _ + 1, [] => Nat.le_refl _
  | n + 1, k :: r => by
    have h : ∀ j : Fin 4, (growQ f n (r.filter fun m => decide (f k m = j))).ht ≤ r.length := fun j => Nat.le_trans (grow_ht n _) (List.length_filter_le ..)
    simp only [growQ, ht, List.length_cons]
    have h0 := h 0
    have h1 := h 1
    have h2 := h 2
    have h3 := h 3
    omega
end QT
theorem ltK_flip {p q : Int × Int} (h : q ≠ p) (h2 : ltK p q = false) : ltK q p = true := by
  unfold ltK at *
  have := of_decide_eq_false h2
  apply decide_eq_true
  have h3 : q.1 ≠ p.1 ∨ q.2 ≠ p.2 := by
    by_cases e : q.1 = p.1
    · exact .inr fun e2 => h (Prod.ext e e2)
    · exact .inl e
  omega
theorem yk_ne {p q : Int × Int} (h : q ≠ p) : yk q ≠ yk p := fun e => h (by
  have h1 : q.2 = p.2 := congrArg Prod.fst e
  have h2 : q.1 = p.1 := congrArg Prod.snd e
  exact Prod.ext h2 h1)
structure Ks where
  x : Int × Int
  y : Int × Int
  x2 : Int × Int
  y2 : Int × Int
def Ks.has (k : Ks) (p : Int × Int) : Prop := ltK k.x p = true ∧ ltK p k.x2 = true ∧ ltK k.y (yk p) = true ∧ ltK (yk p) k.y2 = true
def Ks.nar (k : Ks) (p : Int × Int) (j : Fin 4) : Ks := ⟨if isHi j = true then p else k.x, if isUp j = true then yk p else k.y, if isHi j = true then k.x2 else p, if isUp j = true then k.y2 else yk p⟩
def InK : QT → Ks → Prop
  | .nil, _ => True
  | .node p ch, k => k.has p ∧ ∀ j, InK (ch j) (k.nar p j)
theorem has_nar {k : Ks} {p q : Int × Int} (hq : k.has q) (ne : q ≠ p) : (k.nar p (sideF p q)).has q := by
  obtain ⟨h1, h2, h3, h4⟩ := hq
  unfold Ks.nar Ks.has
  rw [isHi_side, isUp_side]
  dsimp only
  cases e : ltK p q with
  | true =>
    cases e2 : ltK (yk p) (yk q) with
    | true => exact ⟨e, h2, e2, h4⟩
    | false => exact ⟨e, h2, h3, ltK_flip (yk_ne ne) e2⟩
  | false =>
    cases e2 : ltK (yk p) (yk q) with
    | true => exact ⟨h1, ltK_flip ne e, e2, h4⟩
    | false => exact ⟨h1, ltK_flip ne e, h3, ltK_flip (yk_ne ne) e2⟩
theorem inK_grow : ∀ (n : Nat) (l : List (Int × Int)) (k : Ks), l.Nodup → (∀ q ∈ l, k.has q) → InK (QT.growQ sideF n l) k
  | 0, _, _, _, _ => trivial
  | _ + 1, [], _, _, _ => trivial
  | n + 1, p :: r, k, nd, h => by
    have nd2 := List.nodup_cons.mp nd
    refine ⟨h p (List.mem_cons_self ..), fun j => inK_grow n _ _ (nd2.2.filter _) fun q hq => ?_⟩
    obtain ⟨hm, hs⟩ := List.mem_filter.mp hq
    have e : sideF p q = j := of_decide_eq_true hs
    rw [← e]
    exact has_nar (h q (List.mem_cons_of_mem _ hm)) fun z => nd2.1 (by rw [← z]; exact hm)
def BdQ : QT → Prop
  | .nil => True
  | .node p ch => PtB p ∧ ∀ j, BdQ (ch j)
theorem bd_grow {f : Int × Int → Int × Int → Fin 4} : ∀ (n : Nat) (l : List (Int × Int)), (∀ q ∈ l, PtB q) → BdQ (QT.growQ f n l)
  | 0, _, _ => trivial
  | _ + 1, [], _ => trivial
  | n + 1, p :: r, h => ⟨h p (List.mem_cons_self ..), fun j => bd_grow n _ fun q hq => h q (List.mem_cons_of_mem _ (List.mem_filter.mp hq).1)⟩
theorem four_filter {α : Type} (g : α → Fin 4) : ∀ r : List α, (r.filter fun m => decide (g m = 0)).length + (r.filter fun m => decide (g m = 1)).length + (r.filter fun m => decide (g m = 2)).length + (r.filter fun m => decide (g m = 3)).length = r.length
  | [] => rfl
  | a :: r => by
    have ih := four_filter g r
    simp only [List.filter_cons, List.length_cons]
    have h : g a = 0 ∨ g a = 1 ∨ g a = 2 ∨ g a = 3 := by
      generalize g a = p
      match p with
      | 0 => exact .inl rfl
      | 1 => exact .inr (.inl rfl)
      | 2 => exact .inr (.inr (.inl rfl))
      | 3 => exact .inr (.inr (.inr rfl))
    rcases h with h | h | h | h
    all_goals
      rw [h]
      simp
      omega
theorem size_grow {f : Int × Int → Int × Int → Fin 4} : ∀ (n : Nat) (l : List (Int × Int)), (QT.growQ f n l).size ≤ l.length
  | 0, _ => Nat.zero_le _
  | _ + 1, [] => Nat.le_refl _
  | n + 1, p :: r => by
    have h := four_filter (f p) r
    have h0 := size_grow (f := f) n (r.filter fun m => decide (f p m = 0))
    have h1 := size_grow (f := f) n (r.filter fun m => decide (f p m = 1))
    have h2 := size_grow (f := f) n (r.filter fun m => decide (f p m = 2))
    have h3 := size_grow (f := f) n (r.filter fun m => decide (f p m = 3))
    simp only [QT.growQ, QT.size, List.length_cons]
    omega
def nonnil : QT → Bool
  | .nil => false
  | .node _ _ => true
def chs (ch : Fin 4 → QT) : List QT := [ch 3, ch 2, ch 1, ch 0]
theorem ht_size : ∀ t : QT, t.ht ≤ t.size
  | .nil => Nat.le_refl _
  | .node p ch => by
    have h0 := ht_size (ch 0)
    have h1 := ht_size (ch 1)
    have h2 := ht_size (ch 2)
    have h3 := ht_size (ch 3)
    simp only [QT.ht, QT.size]
    omega
theorem ht_child (p : Int × Int) (ch : Fin 4 → QT) (j : Fin 4) : (ch j).ht + 1 ≤ (QT.node p ch).ht := by
  simp only [QT.ht]
  match j with
  | 0 => omega
  | 1 => omega
  | 2 => omega
  | 3 => omega
theorem sums_nonnil : ∀ l : List QT, ((l.filter nonnil).map QT.size).sum = (l.map QT.size).sum
  | [] => rfl
  | .nil :: l => by
    rw [List.filter_cons_of_neg (by decide), sums_nonnil l, List.map_cons, List.sum_cons]
    show _ = 0 + _
    omega
  | .node p ch :: l => by
    rw [List.filter_cons_of_pos (by rfl), List.map_cons, List.sum_cons, List.map_cons, List.sum_cons, sums_nonnil l]
def K31 : Ks := ⟨(-10000000000000000000000000000000, 0), (-10000000000000000000000000000000, 0), (10000000000000000000000000000000, 0), (10000000000000000000000000000000, 0)⟩
theorem k31_has {p : Int × Int} (h : PtB p) : K31.has p := by
  obtain ⟨⟨h1, h2⟩, h3, h4⟩ := h
  have hL : Far = 1000000000000000000000000000000 := rfl
  refine ⟨decide_eq_true (.inl ?_), decide_eq_true (.inl ?_), decide_eq_true (.inl ?_), decide_eq_true (.inl ?_)⟩
  · show (-10000000000000000000000000000000 : Int) < p.1; omega
  · show p.1 < (10000000000000000000000000000000 : Int); omega
  · show (-10000000000000000000000000000000 : Int) < p.2; omega
  · show p.2 < (10000000000000000000000000000000 : Int); omega
def ptsQ : QT → List (Int × Int)
  | .nil => []
  | .node p ch => p :: (ptsQ (ch 0) ++ (ptsQ (ch 1) ++ (ptsQ (ch 2) ++ ptsQ (ch 3))))
theorem ptsQ_len : ∀ T : QT, (ptsQ T).length = T.size
  | .nil => rfl
  | .node p ch => by
    have h0 := ptsQ_len (ch 0)
    have h1 := ptsQ_len (ch 1)
    have h2 := ptsQ_len (ch 2)
    have h3 := ptsQ_len (ch 3)
    simp only [ptsQ, QT.size, List.length_cons, List.length_append]
    omega
theorem ltK_le {a b : Int × Int} (h : ltK a b = true) : a.1 ≤ b.1 := by
  have := of_decide_eq_true h
  omega
theorem ltK_trans {a b c : Int × Int} (h : ltK a b = true) (h2 : ltK b c = true) : ltK a c = true := by
  have h1 := of_decide_eq_true h
  have h3 := of_decide_eq_true h2
  exact decide_eq_true (by omega)
theorem nar_has {k : Ks} {p q : Int × Int} {j : Fin 4} (hp : k.has p) (h : (k.nar p j).has q) : k.has q := by
  obtain ⟨a, b, c, d⟩ := hp
  unfold Ks.has Ks.nar at h
  obtain ⟨e, f, g, i⟩ := h
  refine ⟨?_, ?_, ?_, ?_⟩
  · cases z : isHi j with
    | true => rw [z] at e; exact ltK_trans a e
    | false => rw [z] at e; exact e
  · cases z : isHi j with
    | true => rw [z] at f; exact f
    | false => rw [z] at f; exact ltK_trans f b
  · cases z : isUp j with
    | true => rw [z] at g; exact ltK_trans c g
    | false => rw [z] at g; exact g
  · cases z : isUp j with
    | true => rw [z] at i; exact i
    | false => rw [z] at i; exact ltK_trans i d
theorem all_has : ∀ {T : QT} {k : Ks}, InK T k → ∀ q ∈ ptsQ T, k.has q
  | .nil, _, _, q, h => by simp [ptsQ] at h
  | .node p ch, k, hk, q, h => by
    obtain ⟨hp, hc⟩ := hk
    simp only [ptsQ, List.mem_cons, List.mem_append] at h
    rcases h with rfl | h | h | h | h
    · exact hp
    · exact nar_has hp (all_has (hc 0) q h)
    · exact nar_has hp (all_has (hc 1) q h)
    · exact nar_has hp (all_has (hc 2) q h)
    · exact nar_has hp (all_has (hc 3) q h)
theorem part_ext : ∀ a b : Fin 4, isHi a = isHi b → isUp a = isUp b → a = b := by decide
theorem ltK_anti {a b : Int × Int} (h : ltK a b = true) : ltK b a = false := by
  have := of_decide_eq_true h
  exact decide_eq_false (by omega)
theorem side_nar {k : Ks} {p q : Int × Int} {j : Fin 4} (h : (k.nar p j).has q) : sideF p q = j := by
  obtain ⟨a, b, c, d⟩ := h
  unfold Ks.nar at a b c d
  refine part_ext _ _ ?_ ?_
  · rw [isHi_side]
    cases z : isHi j with
    | true => rw [z] at a; exact a
    | false =>
      rw [z] at b
      exact ltK_anti b
  · rw [isUp_side]
    cases z : isUp j with
    | true => rw [z] at c; exact c
    | false =>
      rw [z] at d
      exact ltK_anti d
theorem nar_ne {k : Ks} {p q : Int × Int} {j : Fin 4} (h : (k.nar p j).has q) : p ≠ q := by
  rintro rfl
  obtain ⟨a, b, _, _⟩ := h
  unfold Ks.nar at a b
  have irr : ltK p p = false := decide_eq_false (by omega)
  cases z : isHi j with
  | true =>
    rw [z] at a
    rw [show ltK p p = true from a] at irr
    cases irr
  | false =>
    rw [z] at b
    rw [show ltK p p = true from b] at irr
    cases irr
abbrev all4 : List (Fin 4) := [0, 1, 2, 3]
theorem mem4 (j : Fin 4) : j ∈ all4 := by
  match j with
  | 0 => simp
  | 1 => simp
  | 2 => simp
  | 3 => simp
theorem pts_node (p : Int × Int) (ch : Fin 4 → QT) : ptsQ (.node p ch) = p :: all4.flatMap fun j => ptsQ (ch j) := by
  rw [ptsQ]
  simp only [List.flatMap_cons, List.flatMap_nil, List.append_nil]
theorem pts_mem {p : Int × Int} {ch : Fin 4 → QT} {x : Int × Int} (h : x ∈ ptsQ (.node p ch)) : x = p ∨ ∃ j, x ∈ ptsQ (ch j) := by
  rw [pts_node] at h
  rcases List.mem_cons.mp h with h | h
  · exact .inl h
  · obtain ⟨j, _, hx⟩ := List.mem_flatMap.mp h
    exact .inr ⟨j, hx⟩
theorem pts_child {p : Int × Int} {ch : Fin 4 → QT} {x : Int × Int} {j : Fin 4} (h : x ∈ ptsQ (ch j)) : x ∈ ptsQ (.node p ch) := by
  rw [pts_node]
  exact List.mem_cons_of_mem _ (List.mem_flatMap.mpr ⟨j, mem4 j, h⟩)
theorem kid_side {p : Int × Int} {ch : Fin 4 → QT} {k : Ks} (hk : InK (.node p ch) k) {j : Fin 4} {x : Int × Int} (h : x ∈ ptsQ (ch j)) : sideF p x = j ∧ p ≠ x := by
  have := all_has (hk.2 j) x h
  exact ⟨side_nar this, nar_ne this⟩
theorem perm4 {α : Type} (g : α → Fin 4) : ∀ r : List α, (all4.flatMap fun j => r.filter fun m => decide (g m = j)).Perm r
  | [] => by simp
  | a :: r => by
    have ih := perm4 g r
    simp only [List.flatMap_cons, List.flatMap_nil, List.append_nil] at ih ⊢
    have h : ∀ j : Fin 4, (a :: r).filter (fun m => decide (g m = j)) = if g a = j then a :: r.filter (fun m => decide (g m = j)) else r.filter (fun m => decide (g m = j)) := fun j => by
      rw [List.filter_cons]
      by_cases e : g a = j
      · simp [e]
      · simp [e]
    rw [h 0, h 1, h 2, h 3]
    match e : g a with
    | 0 => exact List.Perm.cons a ih
    | 1 =>
      refine List.Perm.trans ?_ (List.Perm.cons a ih)
      exact List.perm_middle
    | 2 =>
      refine List.Perm.trans ?_ (List.Perm.cons a ih)
      refine (List.Perm.append_left _ List.perm_middle).trans ?_
      exact List.perm_middle
    | 3 =>
      refine List.Perm.trans ?_ (List.Perm.cons a ih)
      refine (List.Perm.append_left _ ((List.Perm.append_left _ List.perm_middle).trans List.perm_middle)).trans ?_
      exact List.perm_middle
theorem flat_perm {f g : Fin 4 → List (Int × Int)} (h : ∀ j, (f j).Perm (g j)) : ∀ l : List (Fin 4), (l.flatMap f).Perm (l.flatMap g)
  | [] => .nil
  | j :: l => by
    rw [List.flatMap_cons, List.flatMap_cons]
    exact (h j).append (flat_perm h l)
theorem pts_grow : ∀ (n : Nat) (l : List (Int × Int)), l.length ≤ n → (ptsQ (QT.growQ sideF n l)).Perm l
  | 0, [], _ => .nil
  | 0, _ :: _, h => absurd h (by simp)
  | _ + 1, [], _ => .nil
  | n + 1, p :: r, h => by
    show (ptsQ (.node p fun j => QT.growQ sideF n (r.filter fun m => decide (sideF p m = j)))).Perm _
    rw [pts_node]
    refine List.Perm.cons p (List.Perm.trans (flat_perm (fun j => pts_grow n _ ?_) all4) (perm4 (sideF p) r))
    have hl : (r.filter fun m => decide (sideF p m = j)).length ≤ r.length := List.length_filter_le ..
    simp only [List.length_cons] at h
    omega
def treeQ (qs : List (Int × Int)) : QT := QT.growQ sideF qs.length qs
theorem pts_tree (l : List (Int × Int)) : (ptsQ (treeQ l)).Perm l := pts_grow _ _ (Nat.le_refl _)
theorem sorted_uniq : ∀ (a b : List (Int × Int)), a.Perm b → a.Pairwise (fun x y => ltK x y = true) → b.Pairwise (fun x y => ltK x y = true) → a = b
  | [], b, h, _, _ => (List.nil_perm.mp h).symm
  | x :: xs, [], h, _, _ => absurd h.length_eq (by simp)
  | x :: xs, y :: ys, h, ha, hb => by
    have e : x = y := by
      rcases List.mem_cons.mp (h.mem_iff.mp (List.mem_cons_self ..)) with e | hx
      · exact e
      · rcases List.mem_cons.mp (h.mem_iff.mpr (List.mem_cons_self ..)) with e | hy
        · exact e.symm
        · have h1 := (List.pairwise_cons.mp ha).1 y hy
          have h2 := (List.pairwise_cons.mp hb).1 x hx
          rw [ltK_anti h1] at h2
          cases h2
    subst e
    rw [sorted_uniq xs ys (List.Perm.cons_inv h) (List.pairwise_cons.mp ha).2 (List.pairwise_cons.mp hb).2]
theorem growQ_fuel {f : Int × Int → Int × Int → Fin 4} : ∀ (n n' : Nat) (l : List (Int × Int)), l.length ≤ n → l.length ≤ n' → QT.growQ f n l = QT.growQ f n' l
  | 0, 0, _, _, _ => rfl
  | 0, n' + 1, [], _, _ => rfl
  | n + 1, 0, [], _, _ => rfl
  | n + 1, n' + 1, [], _, _ => rfl
  | 0, _, k :: r, h, _ => by simp at h
  | _, 0, k :: r, _, h => by simp at h
  | n + 1, n' + 1, k :: r, h, h' => by
    show QT.node k _ = QT.node k _
    congr 1
    funext j
    have hl : (r.filter fun m => decide (f k m = j)).length ≤ r.length := List.length_filter_le ..
    simp only [List.length_cons] at h h'
    exact growQ_fuel n n' _ (by omega) (by omega)
theorem treeQ_cons (p : Int × Int) (r : List (Int × Int)) : treeQ (p :: r) = .node p fun j => treeQ (r.filter fun m => decide (sideF p m = j)) := by
  unfold treeQ
  show QT.node p _ = _
  congr 1
  funext j
  have hl : (r.filter fun m => decide (sideF p m = j)).length ≤ r.length := List.length_filter_le ..
  exact growQ_fuel _ _ _ hl (Nat.le_refl _)
/-- the parts of a list that is put together part by part -/
theorem filter_part {g : Fin 4 → List (Int × Int)} {s : Int × Int → Fin 4} (h : ∀ j, ∀ x ∈ g j, s x = j) (j : Fin 4) : (all4.flatMap g).filter (fun m => decide (s m = j)) = g j := by
  have e : ∀ i, (g i).filter (fun m => decide (s m = j)) = if i = j then g j else [] := fun i => by
    by_cases c : i = j
    · subst c
      rw [if_pos rfl]
      exact List.filter_eq_self.mpr fun x hx => decide_eq_true (h i x hx)
    · rw [if_neg c]
      exact List.filter_eq_nil_iff.mpr fun x hx => by rw [h i x hx]; simp [c]
  simp only [List.flatMap_cons, List.flatMap_nil, List.append_nil, List.filter_append, e]
  match j with
  | 0 => simp
  | 1 => simp
  | 2 => simp
  | 3 => simp
/-- a tree is built of its points in reading order -/
theorem tree_pts : ∀ {T : QT} {k : Ks}, InK T k → treeQ (ptsQ T) = T
  | .nil, _, _ => rfl
  | .node p ch, k, hk => by
    rw [pts_node, treeQ_cons]
    congr 1
    funext j
    rw [filter_part (s := sideF p) (fun i x hx => (kid_side hk hx).1) j]
    exact tree_pts (hk.2 j)
/-- a part's points, in the order of the list -/
theorem list_part {p : Int × Int} {r : List (Int × Int)} {k : Ks} (nd : (p :: r).Nodup) (hk : InK (treeQ (p :: r)) k) (j : Fin 4) : (p :: r).filter (fun x => decide (x ∈ ptsQ (treeQ (r.filter fun m => decide (sideF p m = j))))) = r.filter fun m => decide (sideF p m = j) := by
  rw [treeQ_cons] at hk
  have pj := pts_tree (r.filter fun m => decide (sideF p m = j))
  have hp : p ∉ ptsQ (treeQ (r.filter fun m => decide (sideF p m = j))) := fun h => (kid_side (j := j) hk h).2 rfl
  rw [List.filter_cons, if_neg (by rw [decide_eq_false hp]; decide)]
  refine List.filter_congr fun x hx => ?_
  rw [Bool.eq_iff_iff, decide_eq_true_eq, decide_eq_true_eq, pj.mem_iff, List.mem_filter, decide_eq_true_eq]
  exact ⟨fun h => h.2, fun h => ⟨hx, h⟩⟩
abbrev Pts := List (Int × Int)
def fI (qs : Pts) (a b : Nat) : Fin 4 := sideF (qs.getD a (0, 0)) (qs.getD b (0, 0))
abbrev ITg (qs : Pts) (i : Nat) : IT := IT.grow (fI qs) i (List.range i)
theorem itg_succ (qs : Pts) (i : Nat) : ITg qs (i + 1) = IT.ins (fI qs) i (ITg qs i) := by
  unfold ITg
  rw [List.range_succ, IT.grow_snoc (i + 1) _ (by rw [List.length_range]; omega), IT.grow_fuel (i + 1) i _ (by rw [List.length_range]; omega) (by rw [List.length_range]; omega)]
theorem itg_mem {qs : Pts} {i k : Nat} (h : IT.Mem k (ITg qs i)) : k < i := List.mem_range.mp (IT.mem_grow i _ h)
theorem itg_asc (qs : Pts) : ∀ i, IT.Asc (ITg qs i)
  | 0 => trivial
  | i + 1 => by
    rw [itg_succ]
    exact IT.asc_ins (itg_asc qs i) fun m h => itg_mem h
theorem itg_rt (qs : Pts) (m : Nat) : ∀ i, 0 < i → (ITg qs i).isNil = false ∧ (ITg qs i).rt m = 0
  | 0, h => absurd h (Nat.lt_irrefl _)
  | 1, _ => ⟨rfl, rfl⟩
  | i + 2, _ => by
    obtain ⟨h1, h2⟩ := itg_rt qs m (i + 1) (Nat.succ_pos _)
    rw [itg_succ, IT.rt_ins, h1, if_neg (by decide), h2]
    refine ⟨?_, rfl⟩
    cases e : ITg qs (i + 1) with
    | nil => rw [e] at h1; cases h1
    | node _ _ => rfl
/-- each row has four numbers, none of which is greater than many -/
def Rows4 (M : List (List Nat)) (m : Nat) : Prop := ∀ row ∈ M, row.length = 4 ∧ ∀ k ∈ row, k ≤ m
/-- the model of a turn -/
theorem hung_of {M : List (List Nat)} {n i k : Nat} {p : Fin 4} {row : List Nat} (hM : M.length = i) (hk : k < i) (hr : M[k]? = some row) : IT.Hung M (M.set k (row.set p i) ++ [[n, n, n, n]]) (k, p) i n := by
  refine ⟨fun k' r h => ?_, ?_⟩
  · obtain ⟨hk', _⟩ := List.getElem?_eq_some_iff.mp h
    rw [List.getElem?_append_left (by rw [List.length_set]; exact hk')]
    by_cases e : k' = k
    · subst e
      rw [if_pos rfl, List.getElem?_set_self hk']
      rw [h] at hr
      cases hr
      rfl
    · rw [if_neg e, List.getElem?_set_ne (fun z => e z.symm)]
      exact h
  · rw [List.getElem?_append_right (by rw [List.length_set]; omega), List.length_set, hM, Nat.sub_self]
    rfl
theorem rows4_set {M : List (List Nat)} {n k i : Nat} {p : Fin 4} {row : List Nat} (h : Rows4 M n) (hr : M[k]? = some row) (hi : i ≤ n) : Rows4 (M.set k (row.set p i) ++ [[n, n, n, n]]) n := by
  intro r hr2
  rcases List.mem_append.mp hr2 with q | q
  · rcases List.mem_or_eq_of_mem_set q with q | rfl
    · exact h r q
    · obtain ⟨l, b⟩ := h row (List.mem_of_getElem? hr)
      refine ⟨by rw [List.length_set]; exact l, fun x hx => ?_⟩
      rcases List.mem_or_eq_of_mem_set hx with q | rfl
      · exact b x q
      · exact hi
  · rw [List.mem_singleton.mp q]
    refine ⟨rfl, fun x hx => ?_⟩
    simp at hx
    omega
def Sub (s : IT) : IT → Prop
  | .nil => s = .nil
  | .node k ch => s = .node k ch ∨ ∃ j, Sub s (ch j)
theorem sub_refl : ∀ t : IT, Sub t t
  | .nil => rfl
  | .node _ _ => .inl rfl
theorem sub_rep {s : IT} {M : List (List Nat)} {m : Nat} : ∀ {t : IT}, Sub s t → IT.Rep M m t → IT.Rep M m s
  | .nil, h, _ => by rw [h]; trivial
  | .node k ch, h, r => by
    rcases h with h | ⟨j, h⟩
    · rw [h]; exact r
    · exact sub_rep h (r.2 j)
theorem sub_asc {s : IT} : ∀ {t : IT}, Sub s t → IT.Asc t → IT.Asc s
  | .nil, h, _ => by rw [h]; trivial
  | .node k ch, h, r => by
    rcases h with h | ⟨j, h⟩
    · rw [h]; exact r
    · exact sub_asc h (r.2.2 j)
theorem sub_mem {s : IT} {x : Nat} : ∀ {t : IT}, Sub s t → IT.Mem x s → IT.Mem x t
  | .nil, h, m => by rw [h] at m; exact m
  | .node k ch, h, m => by
    rcases h with h | ⟨j, h⟩
    · rw [h] at m; exact m
    · exact .inr ⟨j, sub_mem h m⟩
theorem sub_child {k : Nat} {ch : Fin 4 → IT} {p : Fin 4} : ∀ {t : IT}, Sub (.node k ch) t → Sub (ch p) t
  | .nil, h => by cases h
  | .node k' ch', h => by
    rcases h with h | ⟨j, h⟩
    · cases h
      exact .inr ⟨p, sub_refl _⟩
    · exact .inr ⟨j, sub_child h⟩
def pI (qs : Pts) (k : Nat) : Int × Int := qs.getD k (0, 0)
theorem sub_bound {qs : Pts} {t T : IT} (s : Sub t T) (h : ∀ k, IT.Mem k T → k < qs.length) : t.rt qs.length ≤ qs.length := by
  cases t with
  | nil => exact Nat.le_refl _
  | node k ch => exact Nat.le_of_lt (h k (sub_mem s (.inl rfl)))
theorem ofI_itg (qs : Pts) : QT.ofI (pI qs) (ITg qs qs.length) = treeQ qs := by
  have h := QT.ofI_grow (f := sideF) (p := pI qs) qs.length (List.range qs.length)
  have e : (List.range qs.length).map (pI qs) = qs := by
    apply List.ext_getElem
    · simp
    · intro i h1 h2
      simp only [List.getElem_map, List.getElem_range]
      unfold pI
      rw [List.getD_eq_getElem?_getD, List.getElem?_eq_getElem h2, Option.getD_some]
  rw [e] at h
  exact h
theorem fI_side {qs : Pts} {k i : Nat} {q r : Int × Int} (hk : qs[k]? = some q) (hi : qs[i]? = some r) : fI qs k i = sideF q r := by
  unfold fI
  rw [List.getD_eq_getElem?_getD, List.getD_eq_getElem?_getD, hk, hi]
  rfl
def itSz : IT → Nat
  | .nil => 0
  | .node _ ch => 1 + (itSz (ch 0) + itSz (ch 1) + itSz (ch 2) + itSz (ch 3))
theorem itSz_lt (k : Nat) (ch : Fin 4 → IT) (p : Fin 4) : itSz (ch p) < itSz (.node k ch) := by
  show itSz (ch p) < 1 + (itSz (ch 0) + itSz (ch 1) + itSz (ch 2) + itSz (ch 3))
  match p with
  | 0 => omega
  | 1 => omega
  | 2 => omega
  | 3 => omega
theorem four_map {α β : Type} (g : α → β) (f : Fin 4 → α) (p : Fin 4) : ([f 0, f 1, f 2, f 3].map g)[p.val]? = some (g (f p)) := by
  match p with
  | 0 => rfl
  | 1 => rfl
  | 2 => rfl
  | 3 => rfl
def wayP (q : Int × Int) : QT → List (Fin 4)
  | .nil => []
  | .node p ch => if p = q then [] else sideF p q :: wayP q (ch (sideF p q))
def atP (q : Int × Int) : QT → QT
  | .nil => .nil
  | .node p ch => if p = q then .node p ch else atP q (ch (sideF p q))
def aboveP (q : Int × Int) : QT → List QT
  | .nil => []
  | .node p ch => if p = q then [] else .node p ch :: aboveP q (ch (sideF p q))
theorem way_len (q : Int × Int) : ∀ T : QT, (wayP q T).length ≤ T.ht
  | .nil => Nat.le_refl _
  | .node p ch => by
    have h := way_len q (ch (sideF p q))
    have h2 := ht_child p ch (sideF p q)
    unfold wayP
    split
    · exact Nat.zero_le _
    · rw [List.length_cons]
      omega
theorem above_len (q : Int × Int) : ∀ T : QT, (aboveP q T).length = (wayP q T).length
  | .nil => rfl
  | .node p ch => by
    have h := above_len q (ch (sideF p q))
    unfold wayP aboveP
    split
    · rfl
    · rw [List.length_cons, List.length_cons, h]
def kidsQ : QT → List QT
  | .nil => []
  | .node _ ch => [ch 0, ch 1, ch 2, ch 3].filter nonnil
def lvls : Nat → List QT → List Nat
  | 0, _ => []
  | _ + 1, [] => []
  | n + 1, r :: rs => (r :: rs).length :: lvls n ((r :: rs).flatMap kidsQ)
def levelsQ (T : QT) : List Nat := lvls T.ht ([T].filter nonnil)
def tsz (row : List QT) : Nat := (row.map QT.size).sum
theorem tsz_app (a b : List QT) : tsz (a ++ b) = tsz a + tsz b := by
  unfold tsz
  simp
theorem kids_sz : ∀ T : QT, nonnil T = true → tsz (kidsQ T) + 1 = T.size
  | .nil, h => by cases h
  | .node p ch, _ => by
    have h := sums_nonnil [ch 0, ch 1, ch 2, ch 3]
    unfold tsz kidsQ
    rw [h]
    simp only [List.map_cons, List.map_nil, List.sum_cons, List.sum_nil, QT.size]
    omega
theorem kids_row : ∀ row : List QT, (∀ t ∈ row, nonnil t = true) → tsz (row.flatMap kidsQ) + row.length = tsz row
  | [], _ => rfl
  | t :: row, h => by
    have h1 := kids_sz t (h t (List.mem_cons_self ..))
    have h2 := kids_row row fun x hx => h x (List.mem_cons_of_mem _ hx)
    rw [List.flatMap_cons, tsz_app, List.length_cons]
    unfold tsz at *
    rw [List.map_cons, List.sum_cons]
    omega
theorem kid_mem {t x : QT} (h : x ∈ kidsQ t) : nonnil x = true ∧ x.ht + 1 ≤ t.ht := by
  cases t with
  | nil => simp [kidsQ] at h
  | node p ch =>
    obtain ⟨h1, h2⟩ := List.mem_filter.mp h
    refine ⟨h2, ?_⟩
    simp only [List.mem_cons, List.not_mem_nil, or_false] at h1
    rcases h1 with rfl | rfl | rfl | rfl
    · exact ht_child p ch 0
    · exact ht_child p ch 1
    · exact ht_child p ch 2
    · exact ht_child p ch 3
end PM

namespace PM
open PySem PySem.Spec PyProof.Rows L2 Q2
local macro_rules | `(tactic| walk_at "fn") => `(tactic| (first | refine w_fn1 ?_ | refine w_fn2 ?_ | refine w_fn3 ?_ | refine w_fn4 ?_ | refine w_fn5 ?_ | refine w_fn6 ?_); dsimp only [List.replicate])
local macro_rules | `(tactic| walk_at "kb") => `(tactic| with_reducible first | exact kb_int_int | exact kb_int_bool | exact kb_int_str | exact kb_int_list | exact kb_int_tuple | exact kb_bool_int | exact kb_bool_bool | exact kb_bool_str | exact kb_bool_list | exact kb_bool_tuple | exact kb_str_int | exact kb_str_bool | exact kb_str_str | exact kb_str_list | exact kb_str_tuple | exact kb_list_int | exact kb_list_bool | exact kb_list_str | exact kb_list_list | exact kb_list_tuple | exact kb_tuple_int | exact kb_tuple_bool | exact kb_tuple_str | exact kb_tuple_list | exact kb_tuple_tuple | exact kb_NoneType_int | exact kb_NoneType_bool | exact kb_NoneType_str | exact kb_NoneType_list | exact kb_NoneType_tuple)
local macro_rules | `(tactic| walk_at "go1") => `(tactic| first
  | ((with_reducible refine w_var (v := ?v) ?h ?_); case h => exact rfl)
  | with_reducible first
  | refine w_c ?_ | refine w_m2 ?_ | refine w_m1 ?_ | refine w_maC ?_ | refine w_maN ?_ | refine w_mL ?_ | refine w_call ?_
  | refine w_mtOf ?_ | refine w_mtNot ?_ | refine w_mtAnd ?_ | refine w_mtOr ?_ | refine w_meAnd ?_ | refine w_meOr ?_ | refine w_mNot ?_
  | refine ws_seq ?_ | (refine ws_set ?_) | refine ws_ret ?_ | refine ws_if ?_ | refine ws_expr ?_ | refine ws_nil ?_ | refine ws_asg ?_
  | refine wo_int ?_ | refine wo_add ?_ | refine wo_addI ?_ | refine wo_sub ?_ | refine wo_lt ?_ | refine wo_le ?_ | refine wo_gt ?_ | refine wo_ge ?_
  | refine wo_max2 ?_ | refine wo_min2 ?_ | refine wo_abs ?_ | refine wo_neg ?_ | refine wo_eqI ?_ | refine wo_neI ?_ | refine wo_intB ?_ | refine wo_ixT rfl ?_ | refine ws_brk ?_ | refine ws_cnt ?_ | refine w_if ?_ | refine ws_par ?_ | refine ws_par3 ?_ | (refine ⟨_, _, rfl, ?_⟩) | (refine ⟨_, _, _, rfl, ?_⟩) | refine w_isN ?_ | refine w_notN ?_ | refine ite_t ?_ | refine ite_f ?_ | refine ite_nt ?_ | refine ite_nf ?_ | refine w_chain ?_ | refine w_isiT ?_ | refine wg_sub ?_ | (refine ⟨_, rfl, ?_⟩) | refine wg_v ?_ | refine wg_c ?_ | refine wg_n ?_ | refine w_sl ?_ | refine w_optS ?_ | refine w_optN ?_ | refine wo_sl31 ?_)
local macro_rules | `(tactic| walk_at "go2") => `(tactic| first
  | walk_at "go1"
  | ((with_reducible refine wo_mod ?h ?_); case h => omega) | ((with_reducible refine wo_div ?h ?_); case h => omega) | ((with_reducible refine wo_mul_l ?h ?_); case h => omega) | ((with_reducible refine wo_mul_r ?h ?_); case h => omega)
  | ((with_reducible refine wo_shr ?h ?_); case h => omega) | ((with_reducible refine wo_shl ?h ?_); case h => omega) | ((with_reducible refine wo_pow ?h ?_); case h => omega)
  | ((with_reducible refine ite_d ?a ?b); (case b => exact fun h => absurd (by omega) h); intro _)
  | ((with_reducible refine ite_d ?a ?b); (case a => exact fun h => absurd h (by omega)); intro _)
  | ((with_reducible refine ite_d ?a ?b) <;> intro _)
  | ((with_reducible refine ⟨_, _, ?xs, ?j, rfl, rfl, ?h, ?e, ?_⟩); (case h => assumption); (case e => exact rfl))
  | ((with_reducible refine ite_nd ?a ?b); (case b => exact fun h => absurd h (by omega)); intro _)
  | ((with_reducible refine ite_nd ?a ?b); (case a => exact fun h => absurd (by omega) h); intro _)
  | ((with_reducible refine ite_nd ?a ?b) <;> intro _)
  | ((with_reducible refine wg_t ?h ?_); case h => exact rfl)
  | ((with_reducible refine wo_addL (xs := ?xs) (ys := ?ys) (lst_ref ?h1) (lst_ref ?h2) ?h3 ?_); (case h1 => first | assumption | exact get_app (by assumption)); (case h2 => first | assumption | exact get_app (by assumption)); (case h3 => (show _ ≤ 2 ^ 24; simp only [List.length_append, List.length_cons, List.length_nil, List.length_map]; omega)))
  | ((with_reducible refine wo_isi (k := ?k) (b := ?b) ?h1 ?h2 ?_); (case h1 => first | exact rfl | exact kind_ref (by assumption)); (case h2 => walk_at "kb"))
  | ((with_reducible refine wo_len (xs := ?xs) ?h ?_); (case h => first | exact rfl | exact seq_ref (by assumption)))
  | ((with_reducible refine wo_ixL (xs := ?xs) (x := ?x) ?h1 ?h2 ?_); (case h1 => exact lst_ref (by assumption)); (case h2 => exact rfl))
  | ((with_reducible refine wo_tup ?h ?_); case h => (simp only [List.length_cons, List.length_nil]; decide)) | ((with_reducible refine wo_lst ?h ?_); case h => (simp only [List.length_cons, List.length_nil]; decide)))
local macro_rules | `(tactic| walk_at "go") => `(tactic| (repeat' walk_at "go2") <;> try dsimp only [List.set_cons_zero, List.set_cons_succ])

theorem sp_is_integer {S : Sto} {i : Int} : Wp (m_is_integer [.int i] S) (fun v S' => v = .bl true ∧ S' = S) := by
  walk_at "fn"
  unfold b_is_integer
  walk_at "go"
  exact ⟨rfl, rfl⟩
theorem sp_is_coordinate {S : Sto} {i : Int} (h : -Far ≤ i ∧ i ≤ Far) : Wp (m_is_coordinate [.int i] S) (fun v S' => v = .bl true ∧ S' = S) := by
  walk_at "fn"
  unfold b_is_coordinate
  walk_at "go"
  refine sp_is_integer.mono ?_
  rintro v S' ⟨rfl, rfl⟩
  have hF : Far = 1000000000000000000000000000000 := rfl
  have h1 := h.1
  have h2 := h.2
  rw [hF] at h1 h2
  walk_at "go"
  exact ⟨by rw [decide_eq_true h2], rfl⟩
theorem sp_is_point {S : Sto} {p : Int × Int} (h : PtB p) : Wp (m_is_point [ptV p] S) (fun v S' => v = .bl true ∧ S' = S) := by
  walk_at "fn"
  unfold b_is_point
  walk_at "go"
  · next h => exact absurd rfl h
  · refine (sp_is_coordinate h.1).mono ?_
    rintro v S' ⟨rfl, rfl⟩
    walk_at "go"
    exact sp_is_coordinate h.2
theorem sp_check_points {S : Sto} {v : Va} {l : List (Int × Int)} (hv : IsSeq S v (l.map ptV)) (hl : l.length < 62) (hn : ∀ p ∈ l, PtB p) (nd : l.Nodup) : Wp (m_check_points [v] S) (fun v S' => Gr S S') := by
  obtain ⟨k, hk, ha⟩ := hv.isi
  have hlen : (l.map ptV).length = l.length := List.length_map ..
  walk_at "fn"
  unfold b_check_points
  walk_at "go"
  refine ⟨k, true, hk, ha, ?_⟩
  walk_at "go"
  refine hv.len ?_
  walk_at "go"
  refine w_set0 ?_
  walk_at "go"
  refine ws_forE v (l.map ptV) (fun i Γ S' => i ≤ l.length ∧ ∃ z2 z3, Γ = [some v, some (.ref S.length), z2, z3] ∧ S' = S ++ [.setT ((l.take i).reverse.map fun p => [p.1, p.2])]) ?_ ?_ ?_ ?_
  · walk_at "go"
    exact ⟨rfl, Nat.zero_le _, none, none, rfl, rfl⟩
  · rintro i Γ S' ⟨_, _, _, _, rfl⟩
    exact hv.gr (Gr.app _ _)
  · rintro i x Γ S' hx ⟨hi, z2, z3, rfl, rfl⟩
    obtain ⟨p, hp, rfl⟩ := map_at hx
    have hpm := List.mem_of_getElem? hp
    have hlt := (List.getElem?_eq_some_iff.mp hp).1
    have e2 : (S ++ [Ob.setT ((l.take i).reverse.map fun p => [p.1, p.2])])[S.length]? = some (.setT ((l.take i).reverse.map fun p => [p.1, p.2])) := get_last
    have hnot : [p.1, p.2] ∉ ((l.take i).reverse.map fun p : Int × Int => [p.1, p.2]) := by
      intro z
      obtain ⟨q, hq, e⟩ := List.mem_map.mp z
      have hq := List.mem_reverse.mp hq
      have : q = p := by
        simp only [List.cons.injEq, and_true] at e
        exact Prod.ext e.1 e.2
      subst this
      obtain ⟨j, hj, ej⟩ := List.mem_take_iff_getElem.mp hq
      have h1 : l[j]? = some q := by rw [List.getElem?_eq_getElem (by omega)]; exact congrArg some ej
      have := (List.getElem?_inj hlt nd).mp (hp.trans h1.symm)
      omega
    walk_at "go"
    refine (sp_is_point (hn p hpm)).mono ?_
    rintro v' S' ⟨rfl, rfl⟩
    walk_at "go"
    refine wo_inSet (k := [p.1, p.2]) rfl e2 hnot ?_
    walk_at "go"
    refine w_addS ?_
    walk_at "go"
    refine ⟨_, _, rfl, e2, ?_⟩
    walk_at "go"
    refine ⟨_, _, _, rfl, e2, rfl, hnot, ?_, hlt, some (.int i), some (ptV p), rfl, ?_⟩
    · simp only [List.length_map, List.length_reverse, List.length_take]
      omega
    · rw [take_at hp]
      simp [List.reverse_append]
  · rintro Γ S' ⟨_, _, _, _, rfl⟩
    exact Gr.app _ _
theorem sp_check_point {S : Sto} {p : Int × Int} (h : PtB p) : Wp (m_check_point [ptV p] S) (fun v S' => S' = S) := by
  walk_at "fn"
  unfold b_check_point
  walk_at "go"
  refine (sp_is_point h).mono ?_
  rintro v S' ⟨rfl, rfl⟩
  walk_at "go"
end PM

namespace PM
open PySem PySem.Spec PyProof.Rows L2 Q2
local macro_rules | `(tactic| walk_at "fn") => `(tactic| (first | refine w_fn1 ?_ | refine w_fn2 ?_ | refine w_fn3 ?_ | refine w_fn4 ?_ | refine w_fn5 ?_ | refine w_fn6 ?_); dsimp only [List.replicate])
local macro_rules | `(tactic| walk_at "kb") => `(tactic| with_reducible first | exact kb_int_int | exact kb_int_bool | exact kb_int_str | exact kb_int_list | exact kb_int_tuple | exact kb_bool_int | exact kb_bool_bool | exact kb_bool_str | exact kb_bool_list | exact kb_bool_tuple | exact kb_str_int | exact kb_str_bool | exact kb_str_str | exact kb_str_list | exact kb_str_tuple | exact kb_list_int | exact kb_list_bool | exact kb_list_str | exact kb_list_list | exact kb_list_tuple | exact kb_tuple_int | exact kb_tuple_bool | exact kb_tuple_str | exact kb_tuple_list | exact kb_tuple_tuple | exact kb_NoneType_int | exact kb_NoneType_bool | exact kb_NoneType_str | exact kb_NoneType_list | exact kb_NoneType_tuple)
local macro_rules | `(tactic| walk_at "go1") => `(tactic| first
  | ((with_reducible refine w_var (v := ?v) ?h ?_); case h => exact rfl)
  | with_reducible first
  | refine w_c ?_ | refine w_m2 ?_ | refine w_m1 ?_ | refine w_maC ?_ | refine w_maN ?_ | refine w_mL ?_ | refine w_call ?_
  | refine w_mtOf ?_ | refine w_mtNot ?_ | refine w_mtAnd ?_ | refine w_mtOr ?_ | refine w_meAnd ?_ | refine w_meOr ?_ | refine w_mNot ?_
  | refine ws_seq ?_ | (refine ws_set ?_) | refine ws_ret ?_ | refine ws_if ?_ | refine ws_expr ?_ | refine ws_nil ?_ | refine ws_asg ?_
  | refine wo_int ?_ | refine wo_add ?_ | refine wo_addI ?_ | refine wo_sub ?_ | refine wo_lt ?_ | refine wo_le ?_ | refine wo_gt ?_ | refine wo_ge ?_
  | refine wo_max2 ?_ | refine wo_min2 ?_ | refine wo_abs ?_ | refine wo_neg ?_ | refine wo_eqI ?_ | refine wo_neI ?_ | refine wo_intB ?_ | refine wo_ixT rfl ?_ | refine ws_brk ?_ | refine ws_cnt ?_ | refine w_if ?_ | refine ws_par ?_ | refine ws_par3 ?_ | (refine ⟨_, _, rfl, ?_⟩) | (refine ⟨_, _, _, rfl, ?_⟩) | refine w_isN ?_ | refine w_notN ?_ | refine ite_t ?_ | refine ite_f ?_ | refine ite_nt ?_ | refine ite_nf ?_ | refine w_chain ?_ | refine w_isiT ?_ | refine wg_sub ?_ | (refine ⟨_, rfl, ?_⟩) | refine wg_v ?_ | refine wg_c ?_ | refine wg_n ?_ | refine w_sl ?_ | refine w_optS ?_ | refine w_optN ?_ | refine wo_sl31 ?_)
local macro_rules | `(tactic| walk_at "go2") => `(tactic| first
  | walk_at "go1"
  | ((with_reducible refine wo_mod ?h ?_); case h => omega) | ((with_reducible refine wo_div ?h ?_); case h => omega) | ((with_reducible refine wo_mul_l ?h ?_); case h => omega) | ((with_reducible refine wo_mul_r ?h ?_); case h => omega)
  | ((with_reducible refine wo_shr ?h ?_); case h => omega) | ((with_reducible refine wo_shl ?h ?_); case h => omega) | ((with_reducible refine wo_pow ?h ?_); case h => omega)
  | ((with_reducible refine ite_d ?a ?b); (case b => exact fun h => absurd (by omega) h); intro _)
  | ((with_reducible refine ite_d ?a ?b); (case a => exact fun h => absurd h (by omega)); intro _)
  | ((with_reducible refine ite_d ?a ?b) <;> intro _)
  | ((with_reducible refine ⟨_, _, ?xs, ?j, rfl, rfl, ?h, ?e, ?_⟩); (case h => assumption); (case e => exact rfl))
  | ((with_reducible refine ite_nd ?a ?b); (case b => exact fun h => absurd h (by omega)); intro _)
  | ((with_reducible refine ite_nd ?a ?b); (case a => exact fun h => absurd (by omega) h); intro _)
  | ((with_reducible refine ite_nd ?a ?b) <;> intro _)
  | ((with_reducible refine wg_t ?h ?_); case h => exact rfl)
  | ((with_reducible refine wo_addL (xs := ?xs) (ys := ?ys) (lst_ref ?h1) (lst_ref ?h2) ?h3 ?_); (case h1 => first | assumption | exact get_app (by assumption)); (case h2 => first | assumption | exact get_app (by assumption)); (case h3 => (show _ ≤ 2 ^ 24; simp only [List.length_append, List.length_cons, List.length_nil, List.length_map]; omega)))
  | ((with_reducible refine wo_isi (k := ?k) (b := ?b) ?h1 ?h2 ?_); (case h1 => first | exact rfl | exact kind_ref (by assumption)); (case h2 => walk_at "kb"))
  | ((with_reducible refine wo_len (xs := ?xs) ?h ?_); (case h => first | exact rfl | exact seq_ref (by assumption)))
  | ((with_reducible refine wo_ixL (xs := ?xs) (x := ?x) ?h1 ?h2 ?_); (case h1 => exact lst_ref (by assumption)); (case h2 => exact rfl))
  | ((with_reducible refine wo_tup ?h ?_); case h => (simp only [List.length_cons, List.length_nil]; decide)) | ((with_reducible refine wo_lst ?h ?_); case h => (simp only [List.length_cons, List.length_nil]; decide)))
local macro_rules | `(tactic| walk_at "go") => `(tactic| (repeat' walk_at "go2") <;> try dsimp only [List.set_cons_zero, List.set_cons_succ])

theorem Lo.app (S T : Sto) : Lo S (S ++ T) := (Gr.app S T).lo
abbrev nv (k : Nat) : Va := .int (k : Int)
theorem ixN_lt {n j : Nat} (h : j < n) : ixN n (j : Int) = some j := by
  unfold ixN
  rw [if_pos (by omega), if_pos (by omega)]
  rfl
theorem pts_ix {S : Sto} {v : Va} {ps : Pts} {j : Nat} {p : Int × Int} {Q : Va → Sto → Prop} (h : IsSeq S v (ps.map ptV)) (e : ps[j]? = some p) (q : Q (ptV p) S) : Wo (fIx v (.int (j : Int)) S) Q :=
  h.dat (atI_nat (by rw [List.getElem?_map, e]; rfl)) q
theorem w_yesE {Γ : En} {S : Sto} {QB : Bool → Sto → Prop} (q : QB true S) : Wp (mtYes Γ S) QB := q
theorem sp_y_key {S : Sto} {p : Int × Int} : Wp (m_y_key [ptV p] S) (fun v S' => v = ptV (yk p) ∧ S' = S) := by
  walk_at "fn"
  unfold b_y_key
  walk_at "go"
  exact ⟨rfl, rfl⟩
theorem tru_lst {S : Sto} {n : Nat} {xs : List Va} (h : S[n]? = some (.lst xs)) : tru S (.ref n) = some (!xs.isEmpty) := by
  show (match S[n]? with
      | some (Ob.lst xs) => some (!xs.isEmpty)
      | some (Ob.raw (HO.dK kvs)) => some (!kvs.isEmpty)
      | some (Ob.dct kvs) => some (!kvs.isEmpty)
      | _ => none) = _
  rw [h]
def wtS (L : Nat) (S : Sto) : Nat := match S[L]? with
  | some (.lst xs) => xs.length
  | _ => 0
theorem wo_listS {S : Sto} {Q : Va → Sto → Prop} {v : Va} {xs : List Va} (h : seqOf S v = some xs) (hl : xs.length ≤ sizeLine) (q : Q (.ref S.length) (S ++ [.lst xs])) : Wo (fList [v] S) Q := by
  show Wo (match seqOf S v with
    | some xs => mkL S xs
    | none => none) Q
  rw [h]
  exact wo_mkL hl q
theorem sl_ref {S : Sto} {Q : Va → Sto → Prop} {n : Nat} {lo hi : Option Int} {xs : List Va} (h : S[n]? = some (.lst xs)) (hl : (cutA xs lo hi).length ≤ 16777216) (q : Q (.ref S.length) (S ++ [.lst (cutA xs lo hi)])) : Wo (fSl (.ref n) lo hi S) Q := by
  have e3 : slL (.ref n) lo hi S = some (.ref S.length, S ++ [.lst (cutA xs lo hi)]) := by
    unfold slL
    rw [lst_ref h]
    simp only
    unfold mkL
    rw [if_pos]
    exact hl
  unfold fSl
  rw [e3]
  exact q
theorem cut_init (xs : List Va) : cutA xs none (some (-1)) = xs.dropLast := by
  show List.take ((if (-1 : Int) < 0 then (-1 + (xs.length : Int)).toNat else min (-1 : Int).toNat xs.length) - 0) (List.drop 0 xs) = _
  rw [if_pos (by decide), List.drop_zero, List.dropLast_eq_take, Nat.sub_zero]
  congr 1
  omega
theorem cut_from (xs : List Va) (k : Nat) : cutA xs (some (k : Int)) none = xs.drop k := by
  show List.take (xs.length - HT.sIx xs.length 0 (some (k : Int))) (List.drop (HT.sIx xs.length 0 (some (k : Int))) xs) = _
  rw [HT.sIx_nat]
  by_cases h : k ≤ xs.length
  · rw [Nat.min_eq_left h, List.take_of_length_le (by rw [List.length_drop]; exact Nat.le_refl _)]
  · rw [Nat.min_eq_right (by omega), Nat.sub_self, List.take_zero, List.drop_eq_nil_of_le (by omega)]
theorem cut_to (xs : List Va) (k : Nat) : cutA xs none (some (k : Int)) = xs.take k := by
  show List.take (HT.sIx xs.length xs.length (some (k : Int)) - 0) (List.drop 0 xs) = _
  rw [HT.sIx_nat, List.drop_zero, Nat.sub_zero]
  by_cases h : k ≤ xs.length
  · rw [Nat.min_eq_left h]
  · rw [Nat.min_eq_right (by omega), List.take_length, List.take_of_length_le (by omega)]
theorem dle_pt (p q : Int × Int) : dle ptP p q = !ltK q p := dataLe_two (fun q => q.2.1) (fun q => q.2.2) ((default : Addr), p) ((default : Addr), q)
theorem sort_pw {ps : Pts} (nd : ps.Nodup) : (ps.mergeSort (dle ptP)).Pairwise (fun x y => ltK x y = true) := by
  have pm := List.mergeSort_perm ps (dle ptP)
  have h1 : (ps.mergeSort (dle ptP)).Pairwise (fun p q => dle ptP p q = true) := by
    refine List.pairwise_mergeSort (fun a b c h h' => ?_) (fun a b => ?_) ps
    · rw [dle_pt] at *
      simp only [Bool.not_eq_true'] at *
      cases e : ltK c a with
      | false => rfl
      | true =>
        have e' := of_decide_eq_true e
        have h1 := of_decide_eq_false h
        have h2 := of_decide_eq_false h'
        omega
    · rw [dle_pt, dle_pt]
      cases e : ltK b a with
      | false => rfl
      | true =>
        rw [ltK_anti e]
        rfl
  have nd2 : (ps.mergeSort (dle ptP)).Nodup := pm.nodup_iff.mpr nd
  refine (h1.and nd2).imp fun {a b} h => ?_
  obtain ⟨h, hne⟩ := h
  rw [dle_pt] at h
  exact ltK_flip hne (by simpa using h)
theorem sort_eq {ps qs : Pts} (h : ps.Perm qs) (nd : qs.Nodup) : ps.mergeSort (dle ptP) = qs.mergeSort (dle ptP) :=
  sorted_uniq _ _ (((List.mergeSort_perm ps _).trans h).trans (List.mergeSort_perm qs _).symm) (sort_pw (h.nodup_iff.mpr nd)) (sort_pw nd)
theorem Mv.gr {n : Nat} {S S1 S2 : Sto} (m : Mv n S S1) (g : Gr S1 S2) : Mv n S S2 := m.trans (g.mv m.src)
theorem sp_takeM {S0 S : Sto} {n : Nat} {B : Int} (m : Mv n S0 S) (hB : 0 < B ∧ B < 10000000000000000000000000000000) : Wp (m_law_take [.ref n, .int B] S) (fun v S' => ∃ r : Int, v = .int r ∧ 0 ≤ r ∧ r < B ∧ Mv n S0 S' ∧ Mv n S S') := by
  refine (sp_take m.src hB).mono ?_
  rintro v S' ⟨r, rfl, h0, h1, m2⟩
  exact ⟨r, rfl, h0, h1, m.trans m2, m2⟩
theorem sp_spots {S : Sto} {n : Nat} {m : Int} (hs : Src S n) (hm : 0 ≤ m ∧ m ≤ 60) : Wp (m_law_spots [.ref n, .int m] S) (fun v S' => ∃ (j : Nat) (ps : Pts), v = .ref j ∧ S'[j]? = some (.lst (ps.map ptV)) ∧ ps.Nodup ∧ (∀ p ∈ ps, PtB p) ∧ (ps.length : Int) ≤ m ∧ j ≠ n ∧ Mv n S S') := by
  walk_at "fn"
  unfold b_law_spots
  walk_at "go"
  refine (sp_takeM (Mv.refl hs) ⟨by omega, by omega⟩).mono ?_
  rintro _ S1 ⟨many, rfl, a0, a1, m1, _⟩
  walk_at "go"
  have m2 := m1.gr (Gr.app S1 [Ob.lst [.int 3, .int 6, .int 20, .int (10 ^ (9 : Int).toNat), .int (10 ^ (30 : Int).toNat)]])
  refine (sp_pick m2.src (k := S1.length) get_last (by have := m1.src.lt; omega) (by decide) (by decide)).mono ?_
  rintro w S2 ⟨hw, m3⟩
  obtain ⟨wide, rfl, hwide⟩ : ∃ i : Int, w = .int i ∧ 0 < i ∧ i ≤ Far := by
    simp only [List.mem_cons, List.not_mem_nil, or_false] at hw
    rcases hw with rfl | rfl | rfl | rfl | rfl
    · exact ⟨_, rfl, by decide, by decide⟩
    · exact ⟨_, rfl, by decide, by decide⟩
    · exact ⟨_, rfl, by decide, by decide⟩
    · exact ⟨_, rfl, by decide, by decide⟩
    · exact ⟨_, rfl, by decide, by decide⟩
  have hF : Far = 1000000000000000000000000000000 := rfl
  rw [hF] at hwide
  have m4 := (m2.trans m3).gr (Gr.app S2 [Ob.lst []])
  walk_at "go"
  refine ws_forR many (by omega) (fun i Γ S' => ∃ (k : Nat) (l : Pts) (z5 z6 : Option Va), Γ = [some (.ref n), some (.int m), some (.int many), some (.int wide), some (.ref k), z5, z6] ∧ Mv n S S' ∧ S'[k]? = some (.lst (l.map ptV)) ∧ k ≠ n ∧ l.Nodup ∧ (∀ p ∈ l, PtB p) ∧ l.length ≤ i) ?_ ?_ ?_
  · walk_at "go"
    exact ⟨rfl, _, [], none, none, rfl, m4, get_last, by have := (m2.trans m3).src.lt; omega, List.nodup_nil, by simp, by simp⟩
  · rintro i Γ S5 hi ⟨k, l, z5, z6, rfl, m5, e5, hkn, nd, hb, hl⟩
    walk_at "go"
    refine (sp_takeM m5 ⟨by omega, by omega⟩).mono ?_
    rintro _ S7 ⟨x, rfl, hx0, hx1, m7, m7'⟩
    walk_at "go"
    refine (sp_takeM m7 ⟨by omega, by omega⟩).mono ?_
    rintro _ S8 ⟨y, rfl, hy0, hy1, m8, m8'⟩
    have e8 := m8'.get hkn (m7'.get hkn e5)
    walk_at "go"
    have hq : PtB (x - wide, y - wide) := by
      refine ⟨⟨?_, ?_⟩, ⟨?_, ?_⟩⟩ <;> rw [hF] <;> dsimp only <;> omega
    show Wo (inD true (ptV (x - wide, y - wide)) (.ref k) (S8 ++ [.lst [ptV (x - wide, y - wide)]])) _
    generalize (x - wide, y - wide) = q at hq ⊢
    have e' : (S8 ++ [Ob.lst [ptV q]])[k]? = some (.lst (l.map ptV)) := get_app e8
    refine wo_notInD ptE ptR (ptsR e') (by decide) (by decide) ?_
    walk_at "go"
    have hkS := lt_get e8
    have hnS := m8.src.lt
    have m' : Mv n S (S8 ++ [Ob.lst [ptV q]]) := m8.gr (Gr.app _ _)
    by_cases hin : q ∈ l
    · rw [dec_f (fun z => z hin)]
      refine wo_rep get_last (by decide) (by simp) ?_
      refine wo_addL (lst_ref (get_app e')) (lst_ref get_last) (by show _ ≤ 2 ^ 24; simp; omega) ?_
      exact ⟨_, l, _, _, rfl, (m'.gr (Gr.app _ _)).gr (Gr.app _ _), by rw [get_last]; simp, by simp; omega, nd, hb, by omega⟩
    · rw [dec_t hin]
      refine wo_rep get_last (by decide) (by simp) ?_
      refine wo_addL (lst_ref (get_app e')) (lst_ref get_last) (by show _ ≤ 2 ^ 24; simp; omega) ?_
      refine ⟨_, l ++ [q], _, _, rfl, (m'.gr (Gr.app _ _)).gr (Gr.app _ _), by rw [get_last]; simp, by simp; omega, List.nodup_append.mpr ⟨nd, by simp, fun a ha b hb z => hin (by rw [← List.mem_singleton.mp hb, ← z]; exact ha)⟩, fun p hp => ?_, by simp; omega⟩
      rcases List.mem_append.mp hp with z | z
      · exact hb p z
      · rw [List.mem_singleton.mp z]; exact hq
  · rintro Γ S5 ⟨k, l, z5, z6, rfl, m5, e5, hkn, nd, hb, hl⟩
    walk_at "go"
    exact ⟨k, l, rfl, e5, nd, hb, by omega, hkn, m5⟩
theorem w_popAt {o : ME} {t : MA} {Γ : En} {S : Sto} {Q : Va → Sto → Prop} (h : Wp (o Γ S) fun ov S1 => ∃ n ys, ov = .ref n ∧ S1[n]? = some (.lst ys) ∧ Wp (t Γ S1) fun vs S2 => ∃ (k : Nat) (xs : List Va) (x : Va), vs = [.int (k : Int)] ∧ S2[n]? = some (.lst xs) ∧ xs[k]? = some x ∧ xs.length < 2 ^ 62 ∧ Q x (S2.set n (.lst (xs.eraseIdx k)))) : Wp (mPopAt o t Γ S) Q :=
  Wp.bind (h.mono fun ov S1 h => by
    obtain ⟨n, ys, rfl, e1, h⟩ := h
    simp only [e1]
    exact Wp.bind (h.mono fun vs S2 h => by
      obtain ⟨k, xs, x, rfl, e2, hx, hl, q⟩ := h
      have hk : k < xs.length := (List.getElem?_eq_some_iff.mp hx).1
      have e3 : PySem.seqIndex? (k : Int) xs.length = some k := by
        unfold PySem.seqIndex?
        simp only
        rw [if_neg (by omega : ¬ (k : Int) < 0), if_pos (by rw [Bool.and_eq_true]; exact ⟨decide_eq_true (by omega), decide_eq_true (by omega)⟩)]
        rfl
      simp only [e2, e3, hx]
      rw [if_pos (by have : xs.length < 2 ^ 62 := hl; omega)]
      exact q))
theorem ws_whileN {Γ : En} {S : Sto} {P : Po} {c : MT} {b : MS} {fuel : Nat} (Inv : Nat → En → Sto → Prop) {m : Nat} (h0 : Inv m Γ S) (hf : m < fuel)
    (hs : ∀ m Γ S, Inv m Γ S → Wp (c Γ S) fun k S1 => if k = true then Ws (b Γ S1) { nx := fun Γ' S' => ∃ m', m' < m ∧ Inv m' Γ' S', ct := fun Γ' S' => ∃ m', m' < m ∧ Inv m' Γ' S', bk := P.nx, rt := P.rt } else P.nx Γ S1) : Ws (sWhile fuel c b Γ S) P := by
  unfold sWhile
  induction fuel generalizing Γ S m with
  | zero => omega
  | succ k ih =>
    unfold loopW
    refine Wp.thenS ((hs m Γ S h0).mono fun z S1 q => ?_)
    cases z with
    | false => exact q
    | true =>
      rw [if_pos rfl] at q ⊢
      cases e : b Γ S1 with
      | bad => rw [e] at q; exact q
      | nx Γ2 S2 => rw [e] at q; obtain ⟨m', h1, h2⟩ := q; exact ih h2 (by omega)
      | ct Γ2 S2 => rw [e] at q; obtain ⟨m', h1, h2⟩ := q; exact ih h2 (by omega)
      | bk Γ2 S2 => rw [e] at q; exact q
      | rt v S2 => rw [e] at q; exact q
      | ex a b c d f => rw [e] at q; exact q
section
variable {Γ : En} {S : Sto}
theorem w_lc2 {Q : Va → Sto → Prop} {mi mi1 : MI} {g g1 : MG} {mt mt1 : MT} {me : ME} {vs vs1 : List Nat} (h : Wp (mi Γ S) fun it S1 => Wp (comp2G S1.length it g mt mi1 g1 mt1 me vs1 (wipeE Γ vs) (it.fuel S1) 0 (S1 ++ [.lst []])) fun _ S2 => Q (.ref S1.length) S2) : Wp (mLc2 mi g mt mi1 g1 mt1 me vs vs1 Γ S) Q :=
  Wp.bind (h.mono fun _ _ h => Wp.bindN (h.mono fun _ _ h => h))
theorem compG_it {n : Nat} {it : ItV} {g : MG} {mt : MT} {me : ME} {Q : Unit → Sto → Prop} (c : Nat) (x : Nat → Va) (Inv : Nat → Sto → Prop) (hgo : ∀ i S, i < c → Inv i S → it.get i S = some (some (x i))) (hst : ∀ S, Inv c S → it.get c S = some none)
    (hs : ∀ i S, i < c → Inv i S → Wp (g (x i) Γ S) fun Γ1 S1 => Wp (mt Γ1 S1) fun b S2 => if b = true then Wp (me Γ1 S2) fun y S3 => ∃ acc, S3[n]? = some (.lst acc) ∧ acc.length < sizeLine ∧ Inv (i + 1) (S3.set n (.lst (acc ++ [y]))) else Inv (i + 1) S2) (hd : ∀ S, Inv c S → Q () S) :
    ∀ (k i : Nat) (S : Sto), i ≤ c → c ≤ i + k → Inv i S → Wp (compG n it g mt me Γ k i S) Q
  | 0, i, S, h1, h2, h => by
    have e : i = c := by omega
    subst e
    unfold compG
    rw [hst S h]
    exact hd S h
  | k + 1, i, S, h1, h2, h => by
    by_cases hlt : i < c
    · unfold compG
      rw [hgo i S hlt h]
      refine Wp.bindN ((hs i S hlt h).mono fun Γ1 S1 q => Wp.bindN (q.mono fun z S2 q => ?_))
      cases z with
      | false => exact compG_it c x Inv hgo hst hs hd k (i + 1) S2 hlt (by omega) q
      | true =>
        refine Wp.bindN (Wp.mono q fun y S3 q => ?_)
        obtain ⟨acc, e, hl, q⟩ := q
        have ep : putG n y S3 = some (S3.set n (.lst (acc ++ [y]))) := by
          unfold putG
          rw [e]
          simp only
          rw [if_pos hl]
        rw [ep]
        exact compG_it c x Inv hgo hst hs hd k (i + 1) _ hlt (by omega) q
    · have e : i = c := by omega
      subst e
      unfold compG
      rw [hst S h]
      exact hd S h
theorem comp2_it {n : Nat} {it : ItV} {g g1 : MG} {mt mt1 : MT} {mi1 : MI} {me : ME} {vs1 : List Nat} {Q : Unit → Sto → Prop} (c : Nat) (x : Nat → Va) (Inv : Nat → Sto → Prop) (hgo : ∀ i S, i < c → Inv i S → it.get i S = some (some (x i))) (hst : ∀ S, Inv c S → it.get c S = some none)
    (hs : ∀ i S, i < c → Inv i S → Wp (g (x i) Γ S) fun Γ1 S1 => Wp (mt Γ1 S1) fun b S2 => if b = true then Wp (mi1 Γ1 S2) fun it1 S3 => Wp (compG n it1 g1 mt1 me (wipeE Γ1 vs1) (it1.fuel S3) 0 S3) fun _ S4 => Inv (i + 1) S4 else Inv (i + 1) S2) (hd : ∀ S, Inv c S → Q () S) :
    ∀ (k i : Nat) (S : Sto), i ≤ c → c ≤ i + k → Inv i S → Wp (comp2G n it g mt mi1 g1 mt1 me vs1 Γ k i S) Q
  | 0, i, S, h1, h2, h => by
    have e : i = c := by omega
    subst e
    unfold comp2G
    rw [hst S h]
    exact hd S h
  | k + 1, i, S, h1, h2, h => by
    by_cases hlt : i < c
    · unfold comp2G
      rw [hgo i S hlt h]
      refine Wp.bindN ((hs i S hlt h).mono fun Γ1 S1 q => Wp.bindN (q.mono fun z S2 q => ?_))
      cases z with
      | false => exact comp2_it c x Inv hgo hst hs hd k (i + 1) S2 hlt (by omega) q
      | true => exact Wp.bindN (Wp.mono q fun it1 S3 q => Wp.bindN (q.mono fun _ S4 q => comp2_it c x Inv hgo hst hs hd k (i + 1) S4 hlt (by omega) q))
    · have e : i = c := by omega
      subst e
      unfold comp2G
      rw [hst S h]
      exact hd S h
end
theorem w_lcX {Γ : En} {S : Sto} {Q : Va → Sto → Prop} {m : ME} {g : MG} {mt : MT} {me : ME} {vs : List Nat} (h : Wp (m Γ S) fun w S1 => ∃ (xs : List Va) (Inv : Nat → List Va → Sto → Prop), xs.length < sizeLine ∧ Inv 0 [] S1 ∧ (∀ i acc S, Inv i acc S → IsSeq S w xs) ∧
    (∀ i x acc S, xs[i]? = some x → Inv i acc S → Wp (g x (wipeE Γ vs) S) fun Γ1 S1 => Wp (mt Γ1 S1) fun k S2 => if k = true then Wp (me Γ1 S2) fun y S3 => Inv (i + 1) (acc ++ [y]) S3 else Inv (i + 1) acc S2) ∧ ∀ acc S, Inv xs.length acc S → Q (.ref S.length) (S ++ [.lst acc])) : Wp (mLc (mWalk m) g mt me vs Γ S) Q := by
  obtain ⟨w, S1, e, xs, Inv, h0, h1, h2, h3, h4⟩ := h.get
  exact w_lcW w xs Inv h0 (Wp.eq e ⟨rfl, h1⟩) h2 h3 h4
theorem ws_forX {Γ : En} {S : Sto} {P : Po} {m : ME} {g : MG} {b : MS} (h : Wp (m Γ S) fun w S1 => ∃ (xs : List Va) (Inv : Nat → En → Sto → Prop), Inv 0 Γ S1 ∧ (∀ i Γ S, Inv i Γ S → IsSeq S w xs) ∧ (∀ i x Γ S, xs[i]? = some x → Inv i Γ S → Wp (g x Γ S) fun Γ1 S1 => Ws (b Γ1 S1) { nx := Inv (i + 1), ct := Inv (i + 1), bk := P.nx, rt := P.rt }) ∧ ∀ Γ S, Inv xs.length Γ S → P.nx Γ S) : Ws (sFor (mWalk m) g b Γ S) P := by
  obtain ⟨w, S1, e, xs, Inv, h0, h1, h2, h3⟩ := h.get
  exact ws_forW w xs Inv (Wp.eq e ⟨rfl, h0⟩) h1 h2 h3
end PM

namespace PM
open PySem PySem.Spec PyProof.Rows L2 Q2
/-! ### middle trees -/
inductive Mid where
  | nil
  | node (p : Int × Int) (lo hi : Mid)
namespace Mid
def va : Mid → Va
  | nil => .non
  | node p lo hi => .tup [ptV p, lo.va, hi.va]
def ht : Mid → Nat
  | nil => 0
  | node _ lo hi => 1 + max lo.ht hi.ht
def size : Mid → Nat
  | nil => 0
  | node _ lo hi => 1 + (lo.size + hi.size)
def pts : Mid → Pts
  | nil => []
  | node p lo hi => p :: (lo.pts ++ hi.pts)
def nodes : Mid → List Mid
  | nil => []
  | node p lo hi => node p lo hi :: (lo.nodes ++ hi.nodes)
def root : Mid → Int × Int
  | nil => (0, 0)
  | node p _ _ => p
def ne : Mid → Bool
  | nil => false
  | node _ _ _ => true
def low : Mid → Mid
  | nil => nil
  | node _ lo _ => lo
theorem pts_len : ∀ t : Mid, t.pts.length = t.size
  | nil => rfl
  | node p lo hi => by simp only [pts, size, List.length_cons, List.length_append, pts_len lo, pts_len hi]; omega
theorem nodes_pts : ∀ t : Mid, t.nodes.map root = t.pts
  | nil => rfl
  | node p lo hi => by simp only [nodes, pts, List.map_cons, List.map_append, nodes_pts lo, nodes_pts hi, root]
theorem nodes_len (t : Mid) : t.nodes.length = t.size := by
  have h := congrArg List.length (nodes_pts t)
  rw [List.length_map, pts_len] at h
  exact h
theorem ht_size : ∀ t : Mid, t.ht ≤ t.size
  | nil => Nat.le_refl _
  | node p lo hi => by
    have h1 := ht_size lo
    have h2 := ht_size hi
    simp only [ht, size]
    omega
theorem nodes_node : ∀ (t : Mid), ∀ u ∈ t.nodes, ∃ p lo hi, u = node p lo hi
  | nil, u, h => by simp [nodes] at h
  | node p lo hi, u, h => by
    simp only [nodes, List.mem_cons, List.mem_append] at h
    rcases h with rfl | h | h
    · exact ⟨p, lo, hi, rfl⟩
    · exact nodes_node lo u h
    · exact nodes_node hi u h
/-- the low side comes right behind its node -/
theorem nodes_next : ∀ (t : Mid) (i : Nat) (p : Int × Int) (lo hi : Mid), t.nodes[i]? = some (node p lo hi) → lo ≠ nil → t.nodes[i + 1]? = some lo
  | nil, i, p, lo, hi, h, _ => by simp [nodes] at h
  | node q a b, 0, p, lo, hi, h, hn => by
    simp only [nodes, List.getElem?_cons_zero, Option.some.injEq, node.injEq] at h
    obtain ⟨rfl, rfl, rfl⟩ := h
    cases a with
    | nil => exact absurd rfl hn
    | node q' c d => rfl
  | node q a b, i + 1, p, lo, hi, h, hn => by
    simp only [nodes, List.getElem?_cons_succ] at h ⊢
    by_cases hi' : i < a.nodes.length
    · rw [List.getElem?_append_left hi'] at h
      have h2 := nodes_next a i p lo hi h hn
      have h3 := (List.getElem?_eq_some_iff.mp h2).1
      rw [List.getElem?_append_left h3]
      exact h2
    · rw [List.getElem?_append_right (by omega)] at h
      have h2 := nodes_next b (i - a.nodes.length) p lo hi h hn
      rw [List.getElem?_append_right (by omega)]
      rw [show i + 1 - a.nodes.length = i - a.nodes.length + 1 by omega]
      exact h2
end Mid
def mP : Mid → PyData
  | .nil => .none
  | .node p lo hi => .tuple [ptP p, mP lo, mP hi]
theorem mR {S : Sto} : ∀ (t : Mid) (n : Nat), t.ht + 1 ≤ n → Rd S n t.va (mP t)
  | .nil, n, _ => Rd.non.le (Nat.zero_le _)
  | .node p lo hi, n, h => by
    simp only [Mid.ht] at h
    have h0 := mR (S := S) lo (n - 1) (by omega)
    have h1 := mR (S := S) hi (n - 1) (by omega)
    obtain ⟨m, rfl⟩ : ∃ m, n = m + 1 := ⟨n - 1, by omega⟩
    exact Rd.tup (.cons (ptR.le (by omega)) (.cons h0 (.cons h1 .nil)))
theorem mE : EqD mP
  | .nil, .nil => by simp [mP, PyData.eqv]
  | .nil, .node p lo hi => by simp [mP, PyData.eqv]
  | .node p lo hi, .nil => by simp [mP, PyData.eqv]
  | .node p lo hi, .node q a b => by
    have h0 := mE lo a
    have h1 := mE hi b
    have hp := ptE p q
    simp only [mP, PyData.eqv, PyData.eqvAll, Bool.and_true, Bool.and_eq_true] at hp ⊢
    rw [show (PyData.eqv (mP lo) (mP a) = true ↔ _) from h0, show (PyData.eqv (mP hi) (mP b) = true ↔ _) from h1, hp]
    constructor
    · rintro ⟨rfl, rfl, rfl⟩; rfl
    · intro e
      cases e
      exact ⟨rfl, rfl, rfl⟩
/-! ### sorted by an axis -/
def keyA (ax : Bool) (p : Int × Int) : Int × Int := if ax = true then yk p else p
def sortA (ax : Bool) (l : Pts) : Pts := if ax = true then l.mergeSort (dle ptY) else l.mergeSort (dle ptP)
theorem yk_yk (p : Int × Int) : yk (yk p) = p := rfl
theorem dle_pY (p q : Int × Int) : dle ptY p q = !ltK (yk q) (yk p) := dle_pt (yk p) (yk q)
def dleA (ax : Bool) (p q : Int × Int) : Bool := !ltK (keyA ax q) (keyA ax p)
theorem sortA_eq (ax : Bool) (l : Pts) : sortA ax l = l.mergeSort (dleA ax) := by
  unfold sortA
  cases ax with
  | false =>
    rw [if_neg (by decide)]
    congr 1
    funext p q
    exact dle_pt p q
  | true =>
    rw [if_pos rfl]
    congr 1
    funext p q
    exact dle_pY p q
theorem keyA_inj {ax : Bool} {p q : Int × Int} (h : keyA ax p = keyA ax q) : p = q := by
  unfold keyA at h
  cases ax with
  | false => exact h
  | true =>
    have h := congrArg yk (show yk p = yk q from h)
    exact h
theorem sortA_perm (ax : Bool) (l : Pts) : (sortA ax l).Perm l := by rw [sortA_eq]; exact List.mergeSort_perm l _
theorem sortA_pw (ax : Bool) {l : Pts} (nd : l.Nodup) : (sortA ax l).Pairwise (fun x y => ltK (keyA ax x) (keyA ax y) = true) := by
  have pm := sortA_perm ax l
  rw [sortA_eq] at pm ⊢
  have h1 : (l.mergeSort (dleA ax)).Pairwise (fun p q => dleA ax p q = true) := by
    refine List.pairwise_mergeSort (fun a b c h h' => ?_) (fun a b => ?_) l
    · unfold dleA at *
      simp only [Bool.not_eq_true'] at *
      cases e : ltK (keyA ax c) (keyA ax a) with
      | false => rfl
      | true =>
        have e' := of_decide_eq_true e
        have h1 := of_decide_eq_false h
        have h2 := of_decide_eq_false h'
        omega
    · unfold dleA
      cases e : ltK (keyA ax b) (keyA ax a) with
      | false => rfl
      | true =>
        rw [ltK_anti e]
        rfl
  have nd2 := pm.nodup_iff.mpr nd
  refine (h1.and nd2).imp fun {a b} h => ?_
  obtain ⟨h, hne⟩ := h
  unfold dleA at h
  exact ltK_flip (fun e => hne (keyA_inj e)) (by simpa using h)
theorem uniqA (ax : Bool) : ∀ (a b : Pts), a.Perm b → a.Pairwise (fun x y => ltK (keyA ax x) (keyA ax y) = true) → b.Pairwise (fun x y => ltK (keyA ax x) (keyA ax y) = true) → a = b
  | [], b, h, _, _ => (List.nil_perm.mp h).symm
  | x :: xs, [], h, _, _ => absurd h.length_eq (by simp)
  | x :: xs, y :: ys, h, ha, hb => by
    have e : x = y := by
      rcases List.mem_cons.mp (h.mem_iff.mp (List.mem_cons_self ..)) with e | hx
      · exact e
      · rcases List.mem_cons.mp (h.mem_iff.mpr (List.mem_cons_self ..)) with e | hy
        · exact e.symm
        · have h1 := (List.pairwise_cons.mp ha).1 y hy
          have h2 := (List.pairwise_cons.mp hb).1 x hx
          rw [ltK_anti h1] at h2
          cases h2
    subst e
    rw [uniqA ax xs ys (List.Perm.cons_inv h) (List.pairwise_cons.mp ha).2 (List.pairwise_cons.mp hb).2]
theorem sortA_same (ax : Bool) {l m : Pts} (h : l.Perm m) (nd : m.Nodup) : sortA ax l = sortA ax m :=
  uniqA ax _ _ (((sortA_perm ax l).trans h).trans (sortA_perm ax m).symm) (sortA_pw ax (h.nodup_iff.mpr nd)) (sortA_pw ax nd)
theorem sortA_len (ax : Bool) (l : Pts) : (sortA ax l).length = l.length := (sortA_perm ax l).length_eq
/-! ### the even tree -/
def midT : Nat → Bool → Pts → Mid
  | 0, _, _ => .nil
  | n + 1, ax, l => if l.length = 0 then .nil else .node ((sortA ax l).getD (l.length / 2) (0, 0)) (midT n (!ax) ((sortA ax l).take (l.length / 2))) (midT n (!ax) ((sortA ax l).drop (l.length / 2 + 1)))
theorem mid_same : ∀ (n : Nat) (ax : Bool) {l m : Pts}, l.Perm m → m.Nodup → midT n ax l = midT n ax m
  | 0, _, _, _, _, _ => rfl
  | n + 1, ax, l, m, h, nd => by
    unfold midT
    rw [h.length_eq, sortA_same ax h nd]
theorem split_at {ax : Bool} {l : Pts} (h : l.length ≠ 0) : sortA ax l = (sortA ax l).take (l.length / 2) ++ (sortA ax l).getD (l.length / 2) (0, 0) :: (sortA ax l).drop (l.length / 2 + 1) := by
  have hl : l.length / 2 < (sortA ax l).length := by rw [sortA_len]; omega
  rw [List.getD_eq_getElem?_getD, List.getElem?_eq_getElem hl, Option.getD_some, ← List.drop_eq_getElem_cons hl, List.take_append_drop]
theorem half_len {ax : Bool} {l : Pts} {n : Nat} (h : l.length < 2 ^ (n + 1)) (h0 : l.length ≠ 0) : ((sortA ax l).take (l.length / 2)).length = l.length / 2 ∧ ((sortA ax l).drop (l.length / 2 + 1)).length = l.length - 1 - l.length / 2 ∧ l.length / 2 < 2 ^ n ∧ l.length - 1 - l.length / 2 < 2 ^ n := by
  rw [Nat.pow_succ] at h
  rw [List.length_take, List.length_drop, sortA_len]
  omega
theorem mid_pts : ∀ (n : Nat) (ax : Bool) (l : Pts), l.length < 2 ^ n → (midT n ax l).pts.Perm l
  | 0, _, l, h => by
    have : l = [] := List.length_eq_zero_iff.mp (by simpa using h)
    subst this
    exact .nil
  | n + 1, ax, l, h => by
    unfold midT
    by_cases h0 : l.length = 0
    · rw [if_pos h0]
      have : l = [] := List.length_eq_zero_iff.mp h0
      subst this
      exact .nil
    · rw [if_neg h0]
      obtain ⟨a1, a2, a3, a4⟩ := half_len (ax := ax) h h0
      have e := split_at (ax := ax) h0
      have p1 := mid_pts n (!ax) ((sortA ax l).take (l.length / 2)) (by omega)
      have p2 := mid_pts n (!ax) ((sortA ax l).drop (l.length / 2 + 1)) (by omega)
      have e2 := sortA_perm ax l
      rw [e] at e2
      exact ((List.Perm.cons _ (p1.append p2)).trans List.perm_middle.symm).trans e2
theorem mid_size {n : Nat} {ax : Bool} {l : Pts} (h : l.length < 2 ^ n) : (midT n ax l).size = l.length := by
  rw [← Mid.pts_len, (mid_pts n ax l h).length_eq]
theorem mid_fuel : ∀ (n m : Nat) (ax : Bool) (l : Pts), l.length < 2 ^ n → l.length < 2 ^ m → midT n ax l = midT m ax l
  | 0, 0, _, _, _, _ => rfl
  | 0, m + 1, ax, l, h, _ => by
    have h0 : l.length = 0 := by simpa using h
    unfold midT
    rw [if_pos h0]
  | n + 1, 0, ax, l, _, h => by
    have h0 : l.length = 0 := by simpa using h
    unfold midT
    rw [if_pos h0]
  | n + 1, m + 1, ax, l, h, h' => by
    unfold midT
    by_cases h0 : l.length = 0
    · rw [if_pos h0, if_pos h0]
    · rw [if_neg h0, if_neg h0]
      obtain ⟨a1, a2, a3, a4⟩ := half_len (ax := ax) h h0
      obtain ⟨b1, b2, b3, b4⟩ := half_len (ax := ax) h' h0
      rw [mid_fuel n m _ _ (by omega) (by omega), mid_fuel n m _ _ (by omega) (by omega)]
/-- points changed, the order kept -/
def mapT (f : Int × Int → Int × Int) : Mid → Mid
  | .nil => .nil
  | .node p lo hi => .node (f p) (mapT f lo) (mapT f hi)
theorem mid_map {f : Int × Int → Int × Int} {π : Bool → Bool} (hπ : ∀ b, π (!b) = !π b) (hf : ∀ ax p q, ltK (keyA (π ax) (f p)) (keyA (π ax) (f q)) = ltK (keyA ax p) (keyA ax q)) : ∀ (n : Nat) (ax : Bool) (l : Pts), midT n (π ax) (l.map f) = mapT f (midT n ax l)
  | 0, _, _ => rfl
  | n + 1, ax, l => by
    have es : sortA (π ax) (l.map f) = (sortA ax l).map f := by
      rw [sortA_eq, sortA_eq]
      exact (List.map_mergeSort fun a _ b _ => by unfold dleA; rw [hf]).symm
    unfold midT
    rw [List.length_map]
    by_cases h0 : l.length = 0
    · rw [if_pos h0, if_pos h0]; rfl
    · rw [if_neg h0, if_neg h0, es, ← List.map_take, ← List.map_drop, ← hπ, mid_map hπ hf n (!ax), mid_map hπ hf n (!ax)]
      have hl : l.length / 2 < (sortA ax l).length := by rw [sortA_len]; omega
      have eg : ((sortA ax l).map f).getD (l.length / 2) (0, 0) = f ((sortA ax l).getD (l.length / 2) (0, 0)) := by
        rw [List.getD_eq_getElem?_getD, List.getD_eq_getElem?_getD, List.getElem?_map, List.getElem?_eq_getElem hl]
        rfl
      rw [eg]
      rfl
/-! ### mirrored -/
def negP (p : Int × Int) : Int × Int := (-p.1, -p.2)
def mirT : Mid → Mid
  | .nil => .nil
  | .node p lo hi => .node (negP p) (mirT hi) (mirT lo)
theorem neg_lt (ax : Bool) (p q : Int × Int) : ltK (keyA ax (negP p)) (keyA ax (negP q)) = ltK (keyA ax q) (keyA ax p) := by
  unfold ltK keyA negP yk
  cases ax <;> (simp only [Bool.false_eq_true, if_false, if_true]; exact decide_eq_decide.mpr (by omega))
theorem neg_inj {p q : Int × Int} (h : negP p = negP q) : p = q := by
  unfold negP at h
  have h1 := congrArg Prod.fst h
  have h2 := congrArg Prod.snd h
  simp only at h1 h2
  exact Prod.ext (by omega) (by omega)
theorem neg_nd {l : Pts} (nd : l.Nodup) : (l.map negP).Nodup := List.pairwise_map.mpr (nd.imp fun h e => h (neg_inj e))
theorem sort_neg (ax : Bool) {l : Pts} (nd : l.Nodup) : sortA ax (l.map negP) = ((sortA ax l).map negP).reverse := by
  refine uniqA ax _ _ ?_ (sortA_pw ax (neg_nd nd)) ?_
  · exact ((sortA_perm ax _).trans ((sortA_perm ax l).symm.map negP)).trans (List.reverse_perm _).symm
  · rw [List.pairwise_reverse]
    refine List.pairwise_map.mpr ((sortA_pw ax nd).imp fun {a b} h => ?_)
    rw [neg_lt]
    exact h
theorem mid_neg : ∀ (d n : Nat) (ax : Bool) (l : Pts), l.Nodup → l.length + 1 = 2 ^ d → midT n ax (l.map negP) = mirT (midT n ax l)
  | _, 0, _, _, _, _ => rfl
  | 0, n + 1, ax, l, nd, h => by
    have h0 : l.length = 0 := by simpa using h
    unfold midT
    rw [List.length_map, if_pos h0, if_pos h0]
    rfl
  | d + 1, n + 1, ax, l, nd, h => by
    rw [Nat.pow_succ] at h
    have h1 : 0 < 2 ^ d := Nat.pow_pos (by decide)
    have h0 : l.length ≠ 0 := by omega
    have hsl := sortA_len ax l
    have nds : (sortA ax l).Nodup := (sortA_perm ax l).nodup_iff.mpr nd
    unfold midT
    rw [List.length_map, if_neg h0, if_neg h0, sort_neg ax nd]
    have hl : l.length / 2 < (sortA ax l).length := by omega
    have e1 : ((sortA ax l).map negP).reverse.getD (l.length / 2) (0, 0) = negP ((sortA ax l).getD (l.length / 2) (0, 0)) := by
      rw [List.getD_eq_getElem?_getD, List.getD_eq_getElem?_getD, List.getElem?_reverse (by rw [List.length_map]; omega), List.length_map, List.getElem?_map]
      rw [show (sortA ax l).length - 1 - l.length / 2 = l.length / 2 by omega, List.getElem?_eq_getElem hl]
      rfl
    have e2 : (((sortA ax l).map negP).reverse.take (l.length / 2)).Perm (((sortA ax l).drop (l.length / 2 + 1)).map negP) := by
      rw [List.take_reverse, List.length_map, List.map_drop]
      rw [show (sortA ax l).length - l.length / 2 = l.length / 2 + 1 by omega]
      exact List.reverse_perm _
    have e3 : (((sortA ax l).map negP).reverse.drop (l.length / 2 + 1)).Perm (((sortA ax l).take (l.length / 2)).map negP) := by
      rw [List.drop_reverse, List.length_map, List.map_take]
      rw [show (sortA ax l).length - (l.length / 2 + 1) = l.length / 2 by omega]
      exact List.reverse_perm _
    have n1 : ((sortA ax l).drop (l.length / 2 + 1)).Nodup := nds.sublist (List.drop_sublist _ _)
    have n2 : ((sortA ax l).take (l.length / 2)).Nodup := nds.sublist (List.take_sublist _ _)
    rw [e1, mid_same n _ e2 (neg_nd n1), mid_same n _ e3 (neg_nd n2)]
    rw [mid_neg d n _ _ n1 (by rw [List.length_drop]; omega), mid_neg d n _ _ n2 (by rw [List.length_take]; omega)]
    rfl
/-! ### its height -/
def hN : Nat → Nat → Nat
  | 0, _ => 0
  | n + 1, m => if m = 0 then 0 else 1 + max (hN n (m / 2)) (hN n (m - 1 - m / 2))
theorem mid_ht : ∀ (n : Nat) (ax : Bool) (l : Pts), (midT n ax l).ht = hN n l.length
  | 0, _, _ => rfl
  | n + 1, ax, l => by
    unfold midT hN
    by_cases h0 : l.length = 0
    · rw [if_pos h0, if_pos h0]; rfl
    · rw [if_neg h0, if_neg h0]
      show 1 + max _ _ = _
      rw [mid_ht n, mid_ht n, List.length_take, List.length_drop, sortA_len]
      rw [show min (l.length / 2) l.length = l.length / 2 by omega, show l.length - (l.length / 2 + 1) = l.length - 1 - l.length / 2 by omega]
theorem hN_ok : ∀ m, m < 64 → hN 6 m = (([1, 2, 4, 8, 16, 32] : List Nat).filter fun k => decide (k ≤ m)).length := by
  have : ∀ m : Fin 64, hN 6 m.val = (([1, 2, 4, 8, 16, 32] : List Nat).filter fun k => decide (k ≤ m.val)).length := by decide +kernel
  exact fun m h => this ⟨m, h⟩
/-! ### it is even, and a middle tree -/
def EvenT : Mid → Prop
  | .nil => True
  | .node p lo hi => lo.size = (Mid.node p lo hi).size / 2 ∧ EvenT lo ∧ EvenT hi
theorem mid_even : ∀ (n : Nat) (ax : Bool) (l : Pts), l.length < 2 ^ n → EvenT (midT n ax l)
  | 0, _, _, _ => trivial
  | n + 1, ax, l, h => by
    have hs := mid_size (ax := ax) h
    unfold midT at hs ⊢
    by_cases h0 : l.length = 0
    · rw [if_pos h0]; trivial
    · rw [if_neg h0] at hs ⊢
      obtain ⟨a1, a2, a3, a4⟩ := half_len (ax := ax) h h0
      refine ⟨?_, mid_even n _ _ (by omega), mid_even n _ _ (by omega)⟩
      rw [hs, mid_size (by omega), a1]
theorem even_nodes : ∀ (t : Mid), EvenT t → ∀ p lo hi, Mid.node p lo hi ∈ t.nodes → lo.size = (Mid.node p lo hi).size / 2
  | .nil, _, p, lo, hi, h => by simp [Mid.nodes] at h
  | .node q a b, he, p, lo, hi, h => by
    simp only [Mid.nodes, List.mem_cons, List.mem_append, Mid.node.injEq] at h
    rcases h with ⟨rfl, rfl, rfl⟩ | h | h
    · exact he.1
    · exact even_nodes a he.2.1 p lo hi h
    · exact even_nodes b he.2.2 p lo hi h
abbrev Rg := (Int × Int) × (Int × Int)
def inRg (r : Rg) (k : Int × Int) : Prop := ltK r.1 k = true ∧ ltK k r.2 = true
def InM : Mid → Bool → Rg → Rg → Prop
  | .nil, _, _, _ => True
  | .node p lo hi, ax, own, oth => inRg own (keyA ax p) ∧ inRg oth (keyA (!ax) p) ∧ InM lo (!ax) oth (own.1, keyA ax p) ∧ InM hi (!ax) oth (keyA ax p, own.2)
theorem mid_in : ∀ (n : Nat) (ax : Bool) (l : Pts) (own oth : Rg), l.Nodup → (∀ q ∈ l, inRg own (keyA ax q) ∧ inRg oth (keyA (!ax) q)) → InM (midT n ax l) ax own oth
  | 0, _, _, _, _, _, _ => trivial
  | n + 1, ax, l, own, oth, nd, h => by
    unfold midT
    by_cases h0 : l.length = 0
    · rw [if_pos h0]; trivial
    · rw [if_neg h0]
      have e := split_at (ax := ax) h0
      have pw := sortA_pw ax nd
      have pm := sortA_perm ax l
      have nds := pm.nodup_iff.mpr nd
      have n1 : ((sortA ax l).drop (l.length / 2 + 1)).Nodup := nds.sublist (List.drop_sublist _ _)
      have n2 : ((sortA ax l).take (l.length / 2)).Nodup := nds.sublist (List.take_sublist _ _)
      generalize (sortA ax l).getD (l.length / 2) (0, 0) = p at e ⊢
      generalize (sortA ax l).take (l.length / 2) = A at e n2 ⊢
      generalize (sortA ax l).drop (l.length / 2 + 1) = B at e n1 ⊢
      rw [e] at pw pm
      obtain ⟨pA, pB, pAB⟩ := List.pairwise_append.mp pw
      obtain ⟨pp, pB⟩ := List.pairwise_cons.mp pB
      have hp := h p (pm.mem_iff.mp (by simp))
      have hA : ∀ q ∈ A, q ∈ l := fun q hq => pm.mem_iff.mp (by simp [hq])
      have hB : ∀ q ∈ B, q ∈ l := fun q hq => pm.mem_iff.mp (by simp [hq])
      refine ⟨hp.1, hp.2, mid_in n (!ax) A oth (own.1, keyA ax p) n2 fun q hq => ⟨(h q (hA q hq)).2, ?_⟩, mid_in n (!ax) B oth (keyA ax p, own.2) n1 fun q hq => ⟨(h q (hB q hq)).2, ?_⟩⟩
      · rw [Bool.not_not]
        exact ⟨(h q (hA q hq)).1.1, pAB q hq p (List.mem_cons_self ..)⟩
      · rw [Bool.not_not]
        exact ⟨pp q hq, (h q (hB q hq)).1.2⟩
def R31 : Rg := ((-10000000000000000000000000000000, 0), (10000000000000000000000000000000, 0))
theorem r31_in {p : Int × Int} (h : PtB p) (ax : Bool) : inRg R31 (keyA ax p) := by
  obtain ⟨⟨h1, h2⟩, h3, h4⟩ := h
  have hL : Far = 1000000000000000000000000000000 := rfl
  rw [hL] at h1 h2 h3 h4
  unfold inRg R31 keyA ltK yk
  cases ax <;> (simp only [Bool.false_eq_true, if_false, if_true]; exact ⟨decide_eq_true (by omega), decide_eq_true (by omega)⟩)
structure MOk (t : Mid) : Prop where
  k : InM t false R31 R31
  b : ∀ p ∈ t.pts, PtB p
  s : t.size ≤ 500
theorem mok_mid {n : Nat} {l : Pts} (nd : l.Nodup) (hb : ∀ p ∈ l, PtB p) (h : l.length < 2 ^ n) (hl : l.length ≤ 500) : MOk (midT n false l) :=
  ⟨mid_in n false l R31 R31 nd fun q hq => ⟨r31_in (hb q hq) _, r31_in (hb q hq) _⟩, fun p hp => hb p ((mid_pts n false l h).mem_iff.mp hp), by rw [mid_size h]; exact hl⟩
end PM

namespace PM
open PySem PySem.Spec PyProof.Rows L2 Q2
local macro_rules | `(tactic| walk_at "fn") => `(tactic| (first | refine w_fn1 ?_ | refine w_fn2 ?_ | refine w_fn3 ?_ | refine w_fn4 ?_ | refine w_fn5 ?_ | refine w_fn6 ?_); dsimp only [List.replicate])
local macro_rules | `(tactic| walk_at "kb") => `(tactic| with_reducible first | exact kb_int_int | exact kb_int_bool | exact kb_int_str | exact kb_int_list | exact kb_int_tuple | exact kb_bool_int | exact kb_bool_bool | exact kb_bool_str | exact kb_bool_list | exact kb_bool_tuple | exact kb_str_int | exact kb_str_bool | exact kb_str_str | exact kb_str_list | exact kb_str_tuple | exact kb_list_int | exact kb_list_bool | exact kb_list_str | exact kb_list_list | exact kb_list_tuple | exact kb_tuple_int | exact kb_tuple_bool | exact kb_tuple_str | exact kb_tuple_list | exact kb_tuple_tuple | exact kb_NoneType_int | exact kb_NoneType_bool | exact kb_NoneType_str | exact kb_NoneType_list | exact kb_NoneType_tuple)
local macro_rules | `(tactic| walk_at "go1") => `(tactic| first
  | ((with_reducible refine w_var (v := ?v) ?h ?_); case h => exact rfl)
  | with_reducible first
  | refine w_c ?_ | refine w_m2 ?_ | refine w_m1 ?_ | refine w_maC ?_ | refine w_maN ?_ | refine w_mL ?_ | refine w_call ?_
  | refine w_mtOf ?_ | refine w_mtNot ?_ | refine w_mtAnd ?_ | refine w_mtOr ?_ | refine w_meAnd ?_ | refine w_meOr ?_ | refine w_mNot ?_
  | refine ws_seq ?_ | (refine ws_set ?_) | refine ws_ret ?_ | refine ws_if ?_ | refine ws_expr ?_ | refine ws_nil ?_ | refine ws_asg ?_
  | refine wo_int ?_ | refine wo_add ?_ | refine wo_addI ?_ | refine wo_sub ?_ | refine wo_lt ?_ | refine wo_le ?_ | refine wo_gt ?_ | refine wo_ge ?_
  | refine wo_max2 ?_ | refine wo_min2 ?_ | refine wo_abs ?_ | refine wo_neg ?_ | refine wo_eqI ?_ | refine wo_neI ?_ | refine wo_intB ?_ | refine wo_ixT rfl ?_ | refine ws_brk ?_ | refine ws_cnt ?_ | refine w_if ?_ | refine ws_par ?_ | refine ws_par3 ?_ | (refine ⟨_, _, rfl, ?_⟩) | (refine ⟨_, _, _, rfl, ?_⟩) | refine w_isN ?_ | refine w_notN ?_ | refine ite_t ?_ | refine ite_f ?_ | refine ite_nt ?_ | refine ite_nf ?_ | refine w_chain ?_ | refine w_isiT ?_ | refine wg_sub ?_ | (refine ⟨_, rfl, ?_⟩) | refine wg_v ?_ | refine wg_c ?_ | refine wg_n ?_ | refine w_sl ?_ | refine w_optS ?_ | refine w_optN ?_ | refine wo_sl31 ?_)
local macro_rules | `(tactic| walk_at "go2") => `(tactic| first
  | walk_at "go1"
  | ((with_reducible refine wo_mod ?h ?_); case h => omega) | ((with_reducible refine wo_div ?h ?_); case h => omega) | ((with_reducible refine wo_mul_l ?h ?_); case h => omega) | ((with_reducible refine wo_mul_r ?h ?_); case h => omega)
  | ((with_reducible refine wo_shr ?h ?_); case h => omega) | ((with_reducible refine wo_shl ?h ?_); case h => omega) | ((with_reducible refine wo_pow ?h ?_); case h => omega)
  | ((with_reducible refine ite_d ?a ?b); (case b => exact fun h => absurd (by omega) h); intro _)
  | ((with_reducible refine ite_d ?a ?b); (case a => exact fun h => absurd h (by omega)); intro _)
  | ((with_reducible refine ite_d ?a ?b) <;> intro _)
  | ((with_reducible refine ⟨_, _, ?xs, ?j, rfl, rfl, ?h, ?e, ?_⟩); (case h => assumption); (case e => exact rfl))
  | ((with_reducible refine ite_nd ?a ?b); (case b => exact fun h => absurd h (by omega)); intro _)
  | ((with_reducible refine ite_nd ?a ?b); (case a => exact fun h => absurd (by omega) h); intro _)
  | ((with_reducible refine ite_nd ?a ?b) <;> intro _)
  | ((with_reducible refine wg_t ?h ?_); case h => exact rfl)
  | ((with_reducible refine wo_addL (xs := ?xs) (ys := ?ys) (lst_ref ?h1) (lst_ref ?h2) ?h3 ?_); (case h1 => first | assumption | exact get_app (by assumption)); (case h2 => first | assumption | exact get_app (by assumption)); (case h3 => (show _ ≤ 2 ^ 24; simp only [List.length_append, List.length_cons, List.length_nil, List.length_map]; omega)))
  | ((with_reducible refine wo_isi (k := ?k) (b := ?b) ?h1 ?h2 ?_); (case h1 => first | exact rfl | exact kind_ref (by assumption)); (case h2 => walk_at "kb"))
  | ((with_reducible refine wo_len (xs := ?xs) ?h ?_); (case h => first | exact rfl | exact seq_ref (by assumption)))
  | ((with_reducible refine wo_ixL (xs := ?xs) (x := ?x) ?h1 ?h2 ?_); (case h1 => exact lst_ref (by assumption)); (case h2 => exact rfl))
  | ((with_reducible refine wo_tup ?h ?_); case h => (simp only [List.length_cons, List.length_nil]; decide)) | ((with_reducible refine wo_lst ?h ?_); case h => (simp only [List.length_cons, List.length_nil]; decide)))
local macro_rules | `(tactic| walk_at "go") => `(tactic| (repeat' walk_at "go2") <;> try dsimp only [List.set_cons_zero, List.set_cons_succ])

theorem mid_va (p : Int × Int) (lo hi : Mid) : (Mid.node p lo hi).va = .tup [ptV p, lo.va, hi.va] := rfl
theorem non_mid (t : Mid) : isNonV t.va = !t.ne := by cases t <;> rfl
theorem seqs_pts {S : Sto} {v : Va} {l : Pts} (h : IsSeq S v (l.map ptV)) : (seqOf S v).bind ptsOf = some l := by
  rw [h.seq, Option.bind_some]
  clear h
  induction l with
  | nil => rfl
  | cons p l ih =>
    show (match twoI (ptV p), ptsOf (l.map ptV) with
      | some p, some l => some (p :: l)
      | _, _ => none) = _
    rw [ih]
    rfl
theorem w_sortY {t : MA} {Γ : En} {S : Sto} {Q : Va → Sto → Prop} (h : Wp (t Γ S) fun vs S1 => ∃ (v : Va) (l : Pts), vs = [v] ∧ IsSeq S1 v (l.map ptV) ∧ l.length ≤ 1000 ∧ Q (.ref S1.length) (S1 ++ [.lst ((l.mergeSort (dle ptY)).map ptV)])) : Wp (mSortY t Γ S) Q := by
  refine Wp.bind (h.mono fun vs S1 h => ?_)
  obtain ⟨v, l, rfl, hv, hl, q⟩ := h
  show Wp (match (seqOf S1 v).bind ptsOf with
    | some ps => lift (mkL S1 ((ps.mergeSort (dle ptY)).map fun p => Va.tup [.int p.1, .int p.2]))
    | none => .bad) Q
  rw [seqs_pts hv]
  simp only
  refine Wp.lift (wo_mkL ?_ q)
  rw [List.length_map, List.length_mergeSort]
  show _ ≤ 2 ^ 24
  omega
def axV (ax : Bool) : Va := .int (if ax = true then 1 else 0)
theorem sp_grown : ∀ (n f : Nat) (ax : Bool) (l : Pts) (v : Va) (S : Sto), l.length < 2 ^ n → l.length ≤ 500 → n < f → (∀ S', Lo S S' → IsSeq S' v (l.map ptV)) → Wp (m_grown_sides f [v, axV ax] S) (fun u S' => u = (midT n ax l).va ∧ Lo S S')
  | _, 0, _, _, _, _, _, _, h, _ => absurd h (Nat.not_lt_zero _)
  | n, f + 1, ax, l, v, S, hl, h5, hf, hv => by
    have hv0 := hv S (Lo.refl S)
    have hml : (l.map ptV).length = l.length := List.length_map ..
    walk_at "fn"
    unfold b_grown_sides
    walk_at "go"
    refine hv0.len ?_
    rw [hml]
    by_cases h0 : l.length = 0
    · rw [h0]
      walk_at "go"
      have e : midT n ax l = .nil := by
        cases n with
        | zero => rfl
        | succ n => unfold midT; rw [if_pos h0]
      rw [e]
      exact ⟨rfl, Lo.refl S⟩
    · cases n with
      | zero => simp at hl; exact absurd (by simpa using hl) h0
      | succ n =>
        obtain ⟨a1, a2, a3, a4⟩ := half_len (ax := ax) hl h0
        have e : midT (n + 1) ax l = .node ((sortA ax l).getD (l.length / 2) (0, 0)) (midT n (!ax) ((sortA ax l).take (l.length / 2))) (midT n (!ax) ((sortA ax l).drop (l.length / 2 + 1))) := by
          conv => lhs; unfold midT
          rw [if_neg h0]
        rw [e]
        by_cases h1 : l.length = 1
        · obtain ⟨p, rfl⟩ := List.length_eq_one_iff.mp h1
          rw [h1]
          walk_at "go"
          refine hv0.dat (x := ptV p) rfl ?_
          walk_at "go"
          have es : sortA ax [p] = [p] := by cases ax <;> simp [sortA]
          have en : ∀ b, midT n b [] = .nil := fun b => by
            cases n with
            | zero => rfl
            | succ n => unfold midT; exact if_pos rfl
          refine ⟨?_, Lo.refl S⟩
          rw [es]
          show _ = (Mid.node p (midT n (!ax) []) (midT n (!ax) [])).va
          rw [en]
          rfl
        · have hsl := sortA_len ax l
          have rest : ∀ (S1 : Sto) (r : Nat), Lo S S1 → S1[r]? = some (.lst ((sortA ax l).map ptV)) → Ws (sSeq (sSet 4 (m2 divI (mV 2) (mC (.int 2)))) (sRet (mL fTup (maC (m2 fIx (mV 3) (mV 4)) (maC (mCall (m_grown_sides f) (maC (mSl fSl (mV 3) none (some (mV 4))) (maC (m2 subI (mC (.int 1)) (mV 1)) maN))) (maC (mCall (m_grown_sides f) (maC (mSl fSl (mV 3) (some (m2 fAdd (mV 4) (mC (.int 1)))) none) (maC (m2 subI (mC (.int 1)) (mV 1)) maN))) maN))))) [some v, some (axV ax), some (.int (l.length : Int)), some (.ref r), none] S1) { nx := fun _ S' => (fun u S' => u = (Mid.node ((sortA ax l).getD (l.length / 2) (0, 0)) (midT n (!ax) ((sortA ax l).take (l.length / 2))) (midT n (!ax) ((sortA ax l).drop (l.length / 2 + 1)))).va ∧ Lo S S') Va.non S', rt := fun u S' => u = (Mid.node ((sortA ax l).getD (l.length / 2) (0, 0)) (midT n (!ax) ((sortA ax l).take (l.length / 2))) (midT n (!ax) ((sortA ax l).drop (l.length / 2 + 1)))).va ∧ Lo S S' } := by
            intro S1 r l1 hr
            have hd2 : ((l.length : Int) / 2) = ((l.length / 2 : Nat) : Int) := by omega
            have hax : (1 : Int) - (if ax = true then 1 else 0) = if (!ax) = true then 1 else 0 := by cases ax <;> rfl
            have hg : (sortA ax l)[l.length / 2]? = some ((sortA ax l).getD (l.length / 2) (0, 0)) := by rw [List.getD_eq_getElem?_getD, List.getElem?_eq_getElem (by omega)]; rfl
            unfold axV
            walk_at "go"
            rw [hd2]
            refine pts_ix (.ref hr) hg ?_
            walk_at "go"
            refine sl_ref hr (by rw [cut_to, List.length_take, List.length_map]; omega) ?_
            rw [cut_to]
            walk_at "go"
            rw [hax, ← List.map_take]
            have g2 : (S1 ++ [Ob.lst (((sortA ax l).take (l.length / 2)).map ptV)])[S1.length]? = some (.lst (((sortA ax l).take (l.length / 2)).map ptV)) := get_last
            have l2 : Lo S1 (S1 ++ [Ob.lst (((sortA ax l).take (l.length / 2)).map ptV)]) := Lo.app _ _
            generalize S1.length = r2 at g2 ⊢
            generalize S1 ++ [Ob.lst (((sortA ax l).take (l.length / 2)).map ptV)] = S2 at g2 l2 ⊢
            refine (sp_grown n f (!ax) ((sortA ax l).take (l.length / 2)) (.ref r2) S2 (by omega) (by omega) (by omega) (fun S' h => .ref (h.get g2))).mono ?_
            rintro _ S3 ⟨rfl, l3⟩
            have hr3 := (l2.trans l3).get hr
            walk_at "go"
            have ec : (((l.length / 2 : Nat) : Int) + 1) = ((l.length / 2 + 1 : Nat) : Int) := by omega
            rw [ec]
            refine sl_ref hr3 (by rw [cut_from, List.length_drop, List.length_map]; omega) ?_
            rw [cut_from]
            walk_at "go"
            rw [hax, ← List.map_drop]
            have g4 : (S3 ++ [Ob.lst (((sortA ax l).drop (l.length / 2 + 1)).map ptV)])[S3.length]? = some (.lst (((sortA ax l).drop (l.length / 2 + 1)).map ptV)) := get_last
            have l4 : Lo S3 (S3 ++ [Ob.lst (((sortA ax l).drop (l.length / 2 + 1)).map ptV)]) := Lo.app _ _
            generalize S3.length = r4 at g4 ⊢
            generalize S3 ++ [Ob.lst (((sortA ax l).drop (l.length / 2 + 1)).map ptV)] = S4 at g4 l4 ⊢
            refine (sp_grown n f (!ax) ((sortA ax l).drop (l.length / 2 + 1)) (.ref r4) S4 (by omega) (by omega) (by omega) (fun S' h => .ref (h.get g4))).mono ?_
            rintro _ S5 ⟨rfl, l5⟩
            walk_at "go"
            exact ⟨rfl, (((l1.trans l2).trans l3).trans l4).trans l5⟩
          cases ax with
          | false =>
            rw [show axV false = .int 0 from rfl]
            walk_at "go"
            refine wo_sort (enc := ptV) (g := ptP) (n := 1) (l := l) hv0 (fun p _ => ptR) (by decide) (sortablePts _) (by show _ ≤ 2 ^ 24; omega) ?_
            exact rest _ _ (Lo.app _ _) get_last
          | true =>
            rw [show axV true = .int 1 from rfl]
            walk_at "go"
            refine w_sortY ?_
            walk_at "go"
            refine ⟨v, l, rfl, hv0, by omega, ?_⟩
            exact rest _ _ (Lo.app _ _) get_last
theorem sp_grown6 {S : Sto} {ax : Bool} {l : Pts} {v : Va} (hv : ∀ S', Lo S S' → IsSeq S' v (l.map ptV)) (hl : l.length ≤ 60) : Wp (m_grown_sides 7 [v, axV ax] S) (fun u S' => u = (midT 6 ax l).va ∧ Lo S S') :=
  sp_grown 6 7 ax l v S (by show _ < 64; omega) (by omega) (by decide) hv
theorem sp_middle {S : Sto} {v : Va} {l : Pts} (hv : ∀ S', Lo S S' → IsSeq S' v (l.map ptV)) (nd : l.Nodup) (hb : ∀ p ∈ l, PtB p) (hl : l.length ≤ 60) : Wp (m_middle [v] S) (fun u S' => u = (midT 6 false l).va ∧ Lo S S') := by
  walk_at "fn"
  unfold b_middle
  walk_at "go"
  refine (sp_check_points (hv S (Lo.refl S)) (by omega) hb nd).mono ?_
  rintro u S1 g
  walk_at "go"
  refine (sp_grown6 (ax := false) (fun S' h => hv S' (g.lo.trans h)) hl).mono ?_
  rintro u S2 ⟨rfl, l2⟩
  exact ⟨rfl, g.lo.trans l2⟩
/-! ### fault_in_sides -/
structure EntM where
  t : Mid
  st : Va
  ax : Bool
  own : Rg
  oth : Rg
def rgV (r : Rg) : Va := .tup [ptV r.1, ptV r.2]
def EntM.va (e : EntM) : Va := .tup [e.t.va, e.st, axV e.ax, rgV e.own, rgV e.oth]
def EntM.ok (e : EntM) : Prop := InM e.t e.ax e.own e.oth ∧ ∀ p ∈ e.t.pts, PtB p
def esM (es : List EntM) : Nat := (es.map fun e => e.t.size).sum
theorem esM_app (a b : List EntM) : esM (a ++ b) = esM a + esM b := by simp [esM]
def mnS (Γ : En) : Nat := match Γ[1]? with
  | some (some (Va.int a)) => a.toNat
  | _ => 0
theorem ax_not (ax : Bool) : (1 : Int) - (if ax = true then 1 else 0) = if (!ax) = true then 1 else 0 := by cases ax <;> rfl
theorem wt_two {L : Nat} {S : Sto} {Z A : List Va} {x y : Va} (h : S[L]? = some (.lst Z)) : wtS L ((S.set L (.lst (A ++ [x]))).set L (.lst (A ++ [x] ++ [y]))) = A.length + 2 := by
  unfold wtS
  rw [get_set (get_set h)]
  show (A ++ [x] ++ [y]).length = _
  simp
theorem sp_fault {S : Sto} {T : Mid} (h : MOk T) : Wp (m_fault_in_sides [T.va] S) (fun v S' => v = .non ∧ Lo S S') := by
  have hs := h.s
  walk_at "fn"
  unfold b_fault_in_sides
  walk_at "go"
  refine ws_while (fun Γ S' => ∃ (es : List EntM) (mn : Nat) (z3 z4 z5 z6 z7 z8 z9 z10 z11 z12 : Option Va), Γ = [some T.va, some (nv mn), some (.ref S.length), z3, z4, z5, z6, z7, z8, z9, z10, z11, z12] ∧ Lo S S' ∧ S'[S.length]? = some (.lst (es.map EntM.va)) ∧ (∀ e ∈ es, e.ok) ∧ mn + esM es = T.size ∧ es.length ≤ mn + 1) (fun Γ S' => 3 * (501 - mnS Γ) + wtS S.length S') ?_ ?_ ?_
  · refine ⟨[⟨T, .non, false, R31, R31⟩], 0, none, none, none, none, none, none, none, none, none, none, rfl, Lo.app _ _, get_last, ?_, by simp [esM], by simp⟩
    intro e he
    rw [List.mem_singleton.mp he]
    exact ⟨h.k, h.b⟩
  · have e : wtS S.length (S ++ [Ob.lst [Va.tup [T.va, .non, .int 0, v_ALL_KEYS, v_ALL_KEYS]]]) = 1 := by
      unfold wtS
      rw [get_last]
      rfl
    rw [e]
    show 3 * (501 - _) + 1 < 1000000
    omega
  · rintro Γ S' ⟨es, mn, z3, z4, z5, z6, z7, z8, z9, z10, z11, z12, rfl, l, hP, hE, hN, hL⟩
    have hw0 : wtS S.length S' = es.length := by
      unfold wtS
      rw [hP]
      exact List.length_map ..
    refine w_mtTru ?_
    walk_at "go"
    refine ⟨_, tru_lst hP, ?_⟩
    rcases List.eq_nil_or_concat es with rfl | ⟨es', e, rfl⟩
    · refine ite_f ?_
      walk_at "go"
      exact ⟨rfl, l⟩
    · rw [List.concat_eq_append] at hP hE hN hL hw0 ⊢
      have emp : (!((es' ++ [e]).map EntM.va).isEmpty) = true := by simp
      rw [emp]
      refine ite_t ?_
      rw [esM_app] at hN
      rw [List.length_append, List.length_singleton] at hL hw0
      obtain ⟨t, st, ax, own, oth⟩ := e
      have ho := hE ⟨t, st, ax, own, oth⟩ (by simp)
      have hE' : ∀ e ∈ es', e.ok := fun e he => hE e (List.mem_append.mpr (.inl he))
      have hs1 : esM [(⟨t, st, ax, own, oth⟩ : EntM)] = t.size := by simp [esM]
      rw [hs1] at hN
      refine ws_seq (ws_asg (w_pop ?_))
      walk_at "go"
      refine ⟨S.length, _, EntM.va ⟨t, st, ax, own, oth⟩, rfl, hP, by simp, ?_⟩
      have hd : ((es' ++ [(⟨t, st, ax, own, oth⟩ : EntM)]).map EntM.va).dropLast = es'.map EntM.va := by simp
      rw [hd]
      have l5 : Lo S (S'.set S.length (.lst (es'.map EntM.va))) := l.set (Nat.le_refl _) _
      have hP5 : (S'.set S.length (.lst (es'.map EntM.va)))[S.length]? = some (.lst (es'.map EntM.va)) := get_set hP
      generalize S'.set S.length (.lst (es'.map EntM.va)) = S5 at l5 hP5 ⊢
      have hw5 : wtS S.length S5 = es'.length := by
        unfold wtS
        rw [hP5]
        exact List.length_map ..
      show Wp (gT 5 (gsC (gV 3) (gsC (gV 4) (gsC (gV 5) (gsC (gV 6) (gsC (gV 7) gsN))))) (.tup [t.va, st, axV ax, rgV own, rgV oth]) _ _) _
      walk_at "go"
      cases t with
      | nil =>
        refine ite_t ?_
        walk_at "go"
        refine ⟨⟨es', mn, _, _, _, _, _, _, _, _, _, _, rfl, l5, hP5, hE', by simpa [Mid.size] using hN, by omega⟩, ?_⟩
        rw [hw0, hw5]
        show 3 * (501 - mn) + _ < 3 * (501 - mn) + _
        omega
      | node p lo hi =>
        refine ite_f ?_
        obtain ⟨o1, o2⟩ := ho
        have hsz : (Mid.node p lo hi).size = 1 + (lo.size + hi.size) := rfl
        have hpB : PtB p := o2 p (List.mem_cons_self ..)
        obtain ⟨⟨c1, c2⟩, ⟨c3, c4⟩, klo, khi⟩ := o1
        walk_at "go"
        refine ws_aug rfl ?_
        rw [mid_va]
        walk_at "go"
        · next h => exact absurd rfl h
        · refine (sp_is_point hpB).mono ?_
          rintro w S6 ⟨rfl, rfl⟩
          have hlo : EntM.ok ⟨lo, .tup [st, .int 0], !ax, oth, (own.1, keyA ax p)⟩ := ⟨klo, fun q hq => o2 q (List.mem_cons_of_mem _ (List.mem_append.mpr (.inl hq)))⟩
          have hhi : EntM.ok ⟨hi, .tup [st, .int 1], !ax, oth, (keyA ax p, own.2)⟩ := ⟨khi, fun q hq => o2 q (List.mem_cons_of_mem _ (List.mem_append.mpr (.inr hq)))⟩
          have hml : (es'.map EntM.va).length = es'.length := List.length_map ..
          cases ax
          all_goals
            first | rw [show axV false = .int 0 from rfl] | rw [show axV true = .int 1 from rfl]
            walk_at "go"
            refine sp_y_key.mono ?_
            rintro w S7 ⟨rfl, rfl⟩
            walk_at "go"
            unfold rgV
            walk_at "go"
            refine wo_ltE ?_
            refine ⟨_, rfl, ?_⟩
            first
              | rw [show lt2 (own.1.fst, own.1.snd) (p.fst, p.snd) = true from c1]
              | rw [show lt2 (own.1.fst, own.1.snd) ((yk p).fst, (yk p).snd) = true from c1]
            refine ite_t ?_
            walk_at "go"
            refine wo_ltE ?_
            refine ⟨_, rfl, ?_⟩
            first
              | rw [show lt2 (p.fst, p.snd) (own.2.fst, own.2.snd) = true from c2]
              | rw [show lt2 ((yk p).fst, (yk p).snd) (own.2.fst, own.2.snd) = true from c2]
            refine ite_nt ?_
            walk_at "go"
            refine wo_ltE ?_
            refine ⟨_, rfl, ?_⟩
            first
              | rw [show lt2 (oth.1.fst, oth.1.snd) ((yk p).fst, (yk p).snd) = true from c3]
              | rw [show lt2 (oth.1.fst, oth.1.snd) (p.fst, p.snd) = true from c3]
            refine ite_t ?_
            walk_at "go"
            refine wo_ltE ?_
            refine ⟨_, rfl, ?_⟩
            first
              | rw [show lt2 ((yk p).fst, (yk p).snd) (oth.2.fst, oth.2.snd) = true from c4]
              | rw [show lt2 (p.fst, p.snd) (oth.2.fst, oth.2.snd) = true from c4]
            refine ite_nt ?_
            walk_at "go"
            refine w_app ?_
            walk_at "go"
            refine ⟨_, _, rfl, hP5, ?_⟩
            walk_at "go"
            refine ⟨_, _, rfl, hP5, by rw [hml]; show _ < 2 ^ 24; omega, ?_⟩
            walk_at "go"
            refine w_app ?_
            walk_at "go"
            refine ⟨_, _, rfl, get_set hP5, ?_⟩
            walk_at "go"
            refine ⟨_, _, rfl, get_set hP5, by rw [List.length_append, hml]; show _ + 1 < 2 ^ 24; omega, ?_⟩
            first
              | refine ⟨⟨es' ++ [⟨hi, .tup [st, .int 1], !false, oth, (keyA false p, own.2)⟩, ⟨lo, .tup [st, .int 0], !false, oth, (own.1, keyA false p)⟩], mn + 1, _, _, _, _, _, _, _, _, _, _, rfl, (l5.set (Nat.le_refl _) _).set (Nat.le_refl _) _, (by rw [get_set (get_set hP5), List.map_append, List.append_assoc]; rfl), ?_, ?_, ?_⟩, ?_⟩
              | refine ⟨⟨es' ++ [⟨hi, .tup [st, .int 1], !true, oth, (keyA true p, own.2)⟩, ⟨lo, .tup [st, .int 0], !true, oth, (own.1, keyA true p)⟩], mn + 1, _, _, _, _, _, _, _, _, _, _, rfl, (l5.set (Nat.le_refl _) _).set (Nat.le_refl _) _, (by rw [get_set (get_set hP5), List.map_append, List.append_assoc]; rfl), ?_, ?_, ?_⟩, ?_⟩
            · intro e he
              rcases List.mem_append.mp he with he | he
              · exact hE' e he
              · simp only [List.mem_cons, List.not_mem_nil, or_false] at he
                rcases he with rfl | rfl
                · exact hhi
                · exact hlo
            · rw [esM_app]
              simp only [esM, List.map_cons, List.map_nil, List.sum_cons, List.sum_nil] at hN ⊢
              omega
            · simp only [List.length_append, List.length_cons, List.length_nil]
              omega
            · rw [wt_two hP5, hw0, hml]
              show 3 * (501 - ((mn : Int) + 1).toNat) + _ < 3 * (501 - ((mn : Int)).toNat) + _
              omega
end PM

namespace PM
open PySem PySem.Spec PyProof.Rows L2 Q2
local macro_rules | `(tactic| walk_at "fn") => `(tactic| (first | refine w_fn1 ?_ | refine w_fn2 ?_ | refine w_fn3 ?_ | refine w_fn4 ?_ | refine w_fn5 ?_ | refine w_fn6 ?_); dsimp only [List.replicate])
local macro_rules | `(tactic| walk_at "kb") => `(tactic| with_reducible first | exact kb_int_int | exact kb_int_bool | exact kb_int_str | exact kb_int_list | exact kb_int_tuple | exact kb_bool_int | exact kb_bool_bool | exact kb_bool_str | exact kb_bool_list | exact kb_bool_tuple | exact kb_str_int | exact kb_str_bool | exact kb_str_str | exact kb_str_list | exact kb_str_tuple | exact kb_list_int | exact kb_list_bool | exact kb_list_str | exact kb_list_list | exact kb_list_tuple | exact kb_tuple_int | exact kb_tuple_bool | exact kb_tuple_str | exact kb_tuple_list | exact kb_tuple_tuple | exact kb_NoneType_int | exact kb_NoneType_bool | exact kb_NoneType_str | exact kb_NoneType_list | exact kb_NoneType_tuple)
local macro_rules | `(tactic| walk_at "go1") => `(tactic| first
  | ((with_reducible refine w_var (v := ?v) ?h ?_); case h => exact rfl)
  | with_reducible first
  | refine w_c ?_ | refine w_m2 ?_ | refine w_m1 ?_ | refine w_maC ?_ | refine w_maN ?_ | refine w_mL ?_ | refine w_call ?_
  | refine w_mtOf ?_ | refine w_mtNot ?_ | refine w_mtAnd ?_ | refine w_mtOr ?_ | refine w_meAnd ?_ | refine w_meOr ?_ | refine w_mNot ?_
  | refine ws_seq ?_ | (refine ws_set ?_) | refine ws_ret ?_ | refine ws_if ?_ | refine ws_expr ?_ | refine ws_nil ?_ | refine ws_asg ?_
  | refine wo_int ?_ | refine wo_add ?_ | refine wo_addI ?_ | refine wo_sub ?_ | refine wo_lt ?_ | refine wo_le ?_ | refine wo_gt ?_ | refine wo_ge ?_
  | refine wo_max2 ?_ | refine wo_min2 ?_ | refine wo_abs ?_ | refine wo_neg ?_ | refine wo_eqI ?_ | refine wo_neI ?_ | refine wo_intB ?_ | refine wo_ixT rfl ?_ | refine ws_brk ?_ | refine ws_cnt ?_ | refine w_if ?_ | refine ws_par ?_ | refine ws_par3 ?_ | (refine ⟨_, _, rfl, ?_⟩) | (refine ⟨_, _, _, rfl, ?_⟩) | refine w_isN ?_ | refine w_notN ?_ | refine ite_t ?_ | refine ite_f ?_ | refine ite_nt ?_ | refine ite_nf ?_ | refine w_chain ?_ | refine w_isiT ?_ | refine wg_sub ?_ | (refine ⟨_, rfl, ?_⟩) | refine wg_v ?_ | refine wg_c ?_ | refine wg_n ?_ | refine w_sl ?_ | refine w_optS ?_ | refine w_optN ?_ | refine wo_sl31 ?_)
local macro_rules | `(tactic| walk_at "go2") => `(tactic| first
  | walk_at "go1"
  | ((with_reducible refine wo_mod ?h ?_); case h => omega) | ((with_reducible refine wo_div ?h ?_); case h => omega) | ((with_reducible refine wo_mul_l ?h ?_); case h => omega) | ((with_reducible refine wo_mul_r ?h ?_); case h => omega)
  | ((with_reducible refine wo_shr ?h ?_); case h => omega) | ((with_reducible refine wo_shl ?h ?_); case h => omega) | ((with_reducible refine wo_pow ?h ?_); case h => omega)
  | ((with_reducible refine ite_d ?a ?b); (case b => exact fun h => absurd (by omega) h); intro _)
  | ((with_reducible refine ite_d ?a ?b); (case a => exact fun h => absurd h (by omega)); intro _)
  | ((with_reducible refine ite_d ?a ?b) <;> intro _)
  | ((with_reducible refine ⟨_, _, ?xs, ?j, rfl, rfl, ?h, ?e, ?_⟩); (case h => assumption); (case e => exact rfl))
  | ((with_reducible refine ite_nd ?a ?b); (case b => exact fun h => absurd h (by omega)); intro _)
  | ((with_reducible refine ite_nd ?a ?b); (case a => exact fun h => absurd (by omega) h); intro _)
  | ((with_reducible refine ite_nd ?a ?b) <;> intro _)
  | ((with_reducible refine wg_t ?h ?_); case h => exact rfl)
  | ((with_reducible refine wo_addL (xs := ?xs) (ys := ?ys) (lst_ref ?h1) (lst_ref ?h2) ?h3 ?_); (case h1 => first | assumption | exact get_app (by assumption)); (case h2 => first | assumption | exact get_app (by assumption)); (case h3 => (show _ ≤ 2 ^ 24; simp only [List.length_append, List.length_cons, List.length_nil, List.length_map]; omega)))
  | ((with_reducible refine wo_isi (k := ?k) (b := ?b) ?h1 ?h2 ?_); (case h1 => first | exact rfl | exact kind_ref (by assumption)); (case h2 => walk_at "kb"))
  | ((with_reducible refine wo_len (xs := ?xs) ?h ?_); (case h => first | exact rfl | exact seq_ref (by assumption)))
  | ((with_reducible refine wo_ixL (xs := ?xs) (x := ?x) ?h1 ?h2 ?_); (case h1 => exact lst_ref (by assumption)); (case h2 => exact rfl))
  | ((with_reducible refine wo_tup ?h ?_); case h => (simp only [List.length_cons, List.length_nil]; decide)) | ((with_reducible refine wo_lst ?h ?_); case h => (simp only [List.length_cons, List.length_nil]; decide)))
local macro_rules | `(tactic| walk_at "go") => `(tactic| (repeat' walk_at "go2") <;> try dsimp only [List.set_cons_zero, List.set_cons_succ])

theorem sp_check_middle {S : Sto} {T : Mid} (h : MOk T) : Wp (m_check_middle [T.va] S) (fun v S' => Lo S S') := by
  walk_at "fn"
  unfold b_check_middle
  walk_at "go"
  refine (sp_fault h).mono ?_
  rintro v S1 ⟨rfl, l⟩
  walk_at "go"
  refine ite_f ?_
  walk_at "go"
  exact l
/-! ### side_nodes -/
def mM (es : List Mid) : Nat := (es.map fun t => t.size + 1).sum
theorem mM_app (a b : List Mid) : mM (a ++ b) = mM a + mM b := by simp [mM]
theorem mM_len : ∀ es : List Mid, es.length ≤ mM es
  | [] => Nat.le_refl _
  | e :: es => by
    have := mM_len es
    unfold mM at *
    simp only [List.map_cons, List.sum_cons, List.length_cons]
    omega
structure NodS (S0 S : Sto) (T : Mid) (ns es : List Mid) (t : Mid) (B : Nat) : Prop where
  lo : Lo S0 S
  n : S[S0.length]? = some (.lst (ns.map Mid.va))
  p : S[S0.length + 1]? = some (.lst (es.map Mid.va))
  all : ns ++ (t.nodes ++ es.reverse.flatMap Mid.nodes) = T.nodes
  m : mM es + t.size ≤ B
theorem sp_side_nodes {S : Sto} {T : Mid} (hs : T.size ≤ 500) : Wp (m_side_nodes [T.va] S) (fun v S' => ∃ j, v = .ref j ∧ S'[j]? = some (.lst (T.nodes.map Mid.va)) ∧ S.length ≤ j ∧ Lo S S') := by
  have hnl := T.nodes_len
  walk_at "fn"
  unfold b_side_nodes
  walk_at "go"
  have l0 : Lo S (S ++ [Ob.lst []] ++ [Ob.lst [T.va]]) := (Lo.app _ _).trans (Lo.app _ _)
  have h0 : (S ++ [Ob.lst []] ++ [Ob.lst [T.va]])[S.length]? = some (.lst []) := get_app get_last
  have h1 : (S ++ [Ob.lst []] ++ [Ob.lst [T.va]])[(S ++ [Ob.lst []]).length]? = some (.lst [T.va]) := get_last
  have hL : (S ++ [Ob.lst []]).length = S.length + 1 := by simp
  rw [hL] at h1 ⊢
  generalize S ++ [Ob.lst []] ++ [Ob.lst [T.va]] = S1 at l0 h0 h1 ⊢
  refine ws_whileN (m := T.size + 1) (fun m Γ S' => ∃ (es ns : List Mid) (z3 z4 z5 z6 : Option Va), Γ = [some T.va, some (.ref S.length), some (.ref (S.length + 1)), z3, z4, z5, z6] ∧ NodS S S' T ns es .nil m ∧ m ≤ T.size + 1 ∧ mM es = m) ?_ (by omega) ?_
  · exact ⟨[T], [], none, none, none, none, rfl, ⟨l0, h0, h1, by simp [Mid.nodes], by simp [mM, Mid.size]⟩, Nat.le_refl _, by simp [mM]⟩
  · rintro m Γ S' ⟨es, ns, z3, z4, z5, z6, rfl, A, hm, hmm⟩
    refine w_mtTru ?_
    walk_at "go"
    refine ⟨_, tru_lst A.p, ?_⟩
    have hall := A.all
    rcases List.eq_nil_or_concat es with rfl | ⟨es', t, rfl⟩
    · refine ite_f ?_
      walk_at "go"
      have hN := A.n
      simp only [Mid.nodes, List.nil_append, List.reverse_nil, List.flatMap_nil, List.append_nil] at hall
      rw [hall] at hN
      exact ⟨hN, Nat.le_refl _, A.lo⟩
    · rw [List.concat_eq_append] at A hall hmm ⊢
      have emp : (!((es' ++ [t]).map Mid.va).isEmpty) = true := by simp
      rw [emp]
      refine ite_t ?_
      rw [mM_app] at hmm
      have hm1 : mM [t] = t.size + 1 := by simp [mM]
      rw [hm1] at hmm
      have hP := A.p
      refine ws_seq (ws_set (w_pop ?_))
      walk_at "go"
      refine ⟨S.length + 1, _, t.va, rfl, hP, by simp, ?_⟩
      have hd : ((es' ++ [t]).map Mid.va).dropLast = es'.map Mid.va := by simp
      rw [hd]
      have A5 : NodS S (S'.set (S.length + 1) (.lst (es'.map Mid.va))) T ns es' t (m - 1) := ⟨A.lo.set (by omega) _, get_ne (by omega) A.n, get_set hP, by
        rw [← hall]
        simp [Mid.nodes, List.flatMap_append], by omega⟩
      generalize S'.set (S.length + 1) (.lst (es'.map Mid.va)) = S5 at A5 ⊢
      have hpos : 1 ≤ m := by omega
      clear A hall hmm hP
      refine ws_whileN (m := t.size) (fun k Γ S' => ∃ (t : Mid) (es ns : List Mid) (z4 z5 z6 : Option Va), Γ = [some T.va, some (.ref S.length), some (.ref (S.length + 1)), some t.va, z4, z5, z6] ∧ NodS S S' T ns es t (m - 1) ∧ t.size = k) ⟨t, es', ns, z4, z5, z6, rfl, A5, rfl⟩ (by have := A5.m; omega) ?_
      rintro k Γ S6 ⟨t, es, ns, z4, z5, z6, rfl, A6, hk⟩
      walk_at "go"
      rw [non_mid]
      cases t with
      | nil =>
        refine ite_f ?_
        have h6 := A6.m
        simp only [Mid.size, Nat.add_zero] at h6
        exact ⟨mM es, by omega, es, ns, _, _, _, _, rfl, ⟨A6.lo, A6.n, A6.p, A6.all, by simp [Mid.size]⟩, by omega, rfl⟩
      | node p lo hi =>
        refine ite_t ?_
        have hsz : (Mid.node p lo hi).size = 1 + (lo.size + hi.size) := rfl
        have hm6 := A6.m
        have hel := mM_len es
        have hal := congrArg List.length A6.all
        rw [List.length_append, hnl] at hal
        walk_at "go"
        refine w_app ?_
        walk_at "go"
        refine ⟨_, _, rfl, A6.n, ?_⟩
        walk_at "go"
        refine ⟨_, _, rfl, A6.n, by rw [List.length_map]; show _ < 2 ^ 24; omega, ?_⟩
        have hN7 : (S6.set S.length (.lst (ns.map Mid.va ++ [(Mid.node p lo hi).va])))[S.length]? = some (.lst ((ns ++ [Mid.node p lo hi]).map Mid.va)) := by rw [get_set A6.n, List.map_append]; rfl
        have hP7 : (S6.set S.length (.lst (ns.map Mid.va ++ [(Mid.node p lo hi).va])))[S.length + 1]? = some (.lst (es.map Mid.va)) := get_ne (by omega) A6.p
        have l7 : Lo S (S6.set S.length (.lst (ns.map Mid.va ++ [(Mid.node p lo hi).va]))) := A6.lo.set (Nat.le_refl _) _
        generalize S6.set S.length (.lst (ns.map Mid.va ++ [(Mid.node p lo hi).va])) = S7 at hN7 hP7 l7 ⊢
        rw [mid_va]
        walk_at "go"
        rw [non_mid]
        cases e : hi.ne with
        | false =>
          have hh : hi = .nil := by cases hi with
            | nil => rfl
            | node _ _ _ => cases e
          subst hh
          refine ite_f ?_
          walk_at "go"
          refine ⟨lo.size, by omega, lo, es, ns ++ [.node p lo .nil], _, _, _, rfl, ⟨l7, hN7, hP7, ?_, by omega⟩, rfl⟩
          rw [← A6.all]
          simp [Mid.nodes]
        | true =>
          refine ite_t ?_
          walk_at "go"
          refine w_app ?_
          walk_at "go"
          refine ⟨_, _, rfl, hP7, ?_⟩
          walk_at "go"
          refine ⟨_, _, rfl, hP7, by rw [List.length_map]; show _ < 2 ^ 24; omega, ?_⟩
          have hmh : mM [hi] = hi.size + 1 := by simp [mM]
          refine ⟨lo.size, by omega, lo, es ++ [hi], ns ++ [.node p lo hi], _, _, _, rfl, ⟨l7.set (by omega) _, get_ne (by omega) hN7, by rw [get_set hP7, List.map_append]; rfl, ?_, by rw [mM_app]; omega⟩, rfl⟩
          rw [← A6.all]
          simp [Mid.nodes, List.flatMap_append]
theorem sp_side_points {S : Sto} {T : Mid} (hs : T.size ≤ 500) : Wp (m_side_points [T.va] S) (fun v S' => ∃ j, v = .ref j ∧ S'[j]? = some (.lst (T.pts.map ptV)) ∧ S.length ≤ j ∧ Lo S S') := by
  have hl := T.nodes_len
  walk_at "fn"
  unfold b_side_points
  refine ws_ret ?_
  refine w_lcX ?_
  walk_at "go"
  refine (sp_side_nodes hs).mono ?_
  rintro v S1 ⟨j, rfl, hj, hlt, l⟩
  refine ⟨T.nodes.map Mid.va, fun i acc S' => Lo S1 S' ∧ acc = (T.nodes.take i).map fun t => ptV t.root, by rw [List.length_map, hl]; show _ < 2 ^ 24; omega, ⟨Lo.refl _, rfl⟩, fun i acc S' h => .inl ⟨j, rfl, h.1.get hj⟩, ?_, ?_⟩
  · rintro i x acc S' hx ⟨l2, rfl⟩
    obtain ⟨t, ht, rfl⟩ := map_at hx
    obtain ⟨p, lo, hi, rfl⟩ := T.nodes_node t (List.mem_of_getElem? ht)
    rw [mid_va]
    walk_at "go"
    refine w_yesE ?_
    walk_at "go"
    refine ⟨l2, ?_⟩
    rw [take_at ht, List.map_append]
    rfl
  · rintro acc S' ⟨l2, rfl⟩
    rw [List.length_map, List.take_length]
    refine ⟨_, rfl, ?_, ?_, (l.trans l2).trans (Lo.app _ _)⟩
    · rw [get_last, ← T.nodes_pts, List.map_map]
      rfl
    · have := l.1
      have := l2.1
      omega
theorem sp_in_order {S : Sto} {T : Mid} (h : MOk T) : Wp (m_in_order [T.va] S) (fun v S' => ∃ j, v = .ref j ∧ S'[j]? = some (.lst (T.pts.map ptV)) ∧ S.length ≤ j ∧ Lo S S') := by
  walk_at "fn"
  unfold b_in_order
  walk_at "go"
  refine (sp_check_middle h).mono ?_
  rintro v S1 l
  walk_at "go"
  refine (sp_side_points h.s).mono ?_
  rintro v S2 ⟨j, rfl, hj, hlt, l2⟩
  exact ⟨j, rfl, hj, Nat.le_trans l.1 hlt, l.trans l2⟩
end PM

namespace PM
open PySem PySem.Spec PyProof.Rows L2 Q2
local macro_rules | `(tactic| walk_at "fn") => `(tactic| (first | refine w_fn1 ?_ | refine w_fn2 ?_ | refine w_fn3 ?_ | refine w_fn4 ?_ | refine w_fn5 ?_ | refine w_fn6 ?_); dsimp only [List.replicate])
local macro_rules | `(tactic| walk_at "kb") => `(tactic| with_reducible first | exact kb_int_int | exact kb_int_bool | exact kb_int_str | exact kb_int_list | exact kb_int_tuple | exact kb_bool_int | exact kb_bool_bool | exact kb_bool_str | exact kb_bool_list | exact kb_bool_tuple | exact kb_str_int | exact kb_str_bool | exact kb_str_str | exact kb_str_list | exact kb_str_tuple | exact kb_list_int | exact kb_list_bool | exact kb_list_str | exact kb_list_list | exact kb_list_tuple | exact kb_tuple_int | exact kb_tuple_bool | exact kb_tuple_str | exact kb_tuple_list | exact kb_tuple_tuple | exact kb_NoneType_int | exact kb_NoneType_bool | exact kb_NoneType_str | exact kb_NoneType_list | exact kb_NoneType_tuple)
local macro_rules | `(tactic| walk_at "go1") => `(tactic| first
  | ((with_reducible refine w_var (v := ?v) ?h ?_); case h => exact rfl)
  | with_reducible first
  | refine w_c ?_ | refine w_m2 ?_ | refine w_m1 ?_ | refine w_maC ?_ | refine w_maN ?_ | refine w_mL ?_ | refine w_call ?_
  | refine w_mtOf ?_ | refine w_mtNot ?_ | refine w_mtAnd ?_ | refine w_mtOr ?_ | refine w_meAnd ?_ | refine w_meOr ?_ | refine w_mNot ?_
  | refine ws_seq ?_ | (refine ws_set ?_) | refine ws_ret ?_ | refine ws_if ?_ | refine ws_expr ?_ | refine ws_nil ?_ | refine ws_asg ?_
  | refine wo_int ?_ | refine wo_add ?_ | refine wo_addI ?_ | refine wo_sub ?_ | refine wo_lt ?_ | refine wo_le ?_ | refine wo_gt ?_ | refine wo_ge ?_
  | refine wo_max2 ?_ | refine wo_min2 ?_ | refine wo_abs ?_ | refine wo_neg ?_ | refine wo_eqI ?_ | refine wo_neI ?_ | refine wo_intB ?_ | refine wo_ixT rfl ?_ | refine ws_brk ?_ | refine ws_cnt ?_ | refine w_if ?_ | refine ws_par ?_ | refine ws_par3 ?_ | (refine ⟨_, _, rfl, ?_⟩) | (refine ⟨_, _, _, rfl, ?_⟩) | refine w_isN ?_ | refine w_notN ?_ | refine ite_t ?_ | refine ite_f ?_ | refine ite_nt ?_ | refine ite_nf ?_ | refine w_chain ?_ | refine w_isiT ?_ | refine wg_sub ?_ | (refine ⟨_, rfl, ?_⟩) | refine wg_v ?_ | refine wg_c ?_ | refine wg_n ?_ | refine w_sl ?_ | refine w_optS ?_ | refine w_optN ?_ | refine wo_sl31 ?_)
local macro_rules | `(tactic| walk_at "go2") => `(tactic| first
  | walk_at "go1"
  | ((with_reducible refine wo_mod ?h ?_); case h => omega) | ((with_reducible refine wo_div ?h ?_); case h => omega) | ((with_reducible refine wo_mul_l ?h ?_); case h => omega) | ((with_reducible refine wo_mul_r ?h ?_); case h => omega)
  | ((with_reducible refine wo_shr ?h ?_); case h => omega) | ((with_reducible refine wo_shl ?h ?_); case h => omega) | ((with_reducible refine wo_pow ?h ?_); case h => omega)
  | ((with_reducible refine ite_d ?a ?b); (case b => exact fun h => absurd (by omega) h); intro _)
  | ((with_reducible refine ite_d ?a ?b); (case a => exact fun h => absurd h (by omega)); intro _)
  | ((with_reducible refine ite_d ?a ?b) <;> intro _)
  | ((with_reducible refine ⟨_, _, ?xs, ?j, rfl, rfl, ?h, ?e, ?_⟩); (case h => assumption); (case e => exact rfl))
  | ((with_reducible refine ite_nd ?a ?b); (case b => exact fun h => absurd h (by omega)); intro _)
  | ((with_reducible refine ite_nd ?a ?b); (case a => exact fun h => absurd (by omega) h); intro _)
  | ((with_reducible refine ite_nd ?a ?b) <;> intro _)
  | ((with_reducible refine wg_t ?h ?_); case h => exact rfl)
  | ((with_reducible refine wo_addL (xs := ?xs) (ys := ?ys) (lst_ref ?h1) (lst_ref ?h2) ?h3 ?_); (case h1 => first | assumption | exact get_app (by assumption)); (case h2 => first | assumption | exact get_app (by assumption)); (case h3 => (show _ ≤ 2 ^ 24; simp only [List.length_append, List.length_cons, List.length_nil, List.length_map]; omega)))
  | ((with_reducible refine wo_isi (k := ?k) (b := ?b) ?h1 ?h2 ?_); (case h1 => first | exact rfl | exact kind_ref (by assumption)); (case h2 => walk_at "kb"))
  | ((with_reducible refine wo_len (xs := ?xs) ?h ?_); (case h => first | exact rfl | exact seq_ref (by assumption)))
  | ((with_reducible refine wo_ixL (xs := ?xs) (x := ?x) ?h1 ?h2 ?_); (case h1 => exact lst_ref (by assumption)); (case h2 => exact rfl))
  | ((with_reducible refine wo_tup ?h ?_); case h => (simp only [List.length_cons, List.length_nil]; decide)) | ((with_reducible refine wo_lst ?h ?_); case h => (simp only [List.length_cons, List.length_nil]; decide)))
local macro_rules | `(tactic| walk_at "go") => `(tactic| (repeat' walk_at "go2") <;> try dsimp only [List.set_cons_zero, List.set_cons_succ])

/-! ### count_levels -/
def kidsM : Mid → List Mid
  | .nil => []
  | .node _ lo hi => [lo, hi].filter Mid.ne
def mhM : List Mid → Nat
  | [] => 0
  | t :: r => max t.ht (mhM r)
def szM (row : List Mid) : Nat := (row.map Mid.size).sum
theorem mhM_app : ∀ a b : List Mid, mhM (a ++ b) = max (mhM a) (mhM b)
  | [], b => by simp [mhM]
  | t :: a, b => by
    have h := mhM_app a b
    show max t.ht (mhM (a ++ b)) = max (max t.ht (mhM a)) (mhM b)
    omega
theorem mhM_kid {t : Mid} (h : t.ne = true) : mhM (kidsM t) + 1 = t.ht := by
  cases t with
  | nil => cases h
  | node p lo hi =>
    show mhM ([lo, hi].filter Mid.ne) + 1 = 1 + max lo.ht hi.ht
    cases lo <;> cases hi <;> simp only [List.filter_cons, List.filter_nil, Mid.ne, if_true, Bool.false_eq_true, if_false, mhM, Mid.ht] <;> omega
theorem mhM_kids : ∀ row : List Mid, row ≠ [] → (∀ t ∈ row, t.ne = true) → mhM (row.flatMap kidsM) + 1 = mhM row
  | [], h, _ => absurd rfl h
  | [t], _, h => by
    have := mhM_kid (h t (List.mem_cons_self ..))
    simp only [List.flatMap_cons, List.flatMap_nil, List.append_nil, mhM]
    omega
  | t :: u :: row, _, h => by
    have h1 := mhM_kid (h t (List.mem_cons_self ..))
    have h2 := mhM_kids (u :: row) (by simp) fun x hx => h x (List.mem_cons_of_mem _ hx)
    rw [List.flatMap_cons, mhM_app]
    show max _ _ + 1 = max t.ht (mhM (u :: row))
    omega
theorem kidsM_sz {t : Mid} (h : t.ne = true) : szM (kidsM t) + 1 = t.size := by
  cases t with
  | nil => cases h
  | node p lo hi =>
    show szM ([lo, hi].filter Mid.ne) + 1 = 1 + (lo.size + hi.size)
    cases lo <;> cases hi <;> simp only [szM, List.filter_cons, List.filter_nil, Mid.ne, if_true, Bool.false_eq_true, if_false, Mid.size, List.map_cons, List.map_nil, List.sum_cons, List.sum_nil] <;> omega
theorem szM_app (a b : List Mid) : szM (a ++ b) = szM a + szM b := by simp [szM]
theorem kidsM_row : ∀ row : List Mid, (∀ t ∈ row, t.ne = true) → szM (row.flatMap kidsM) + row.length = szM row
  | [], _ => rfl
  | t :: row, h => by
    have h1 := kidsM_sz (h t (List.mem_cons_self ..))
    have h2 := kidsM_row row fun x hx => h x (List.mem_cons_of_mem _ hx)
    have e : szM (t :: row) = t.size + szM row := by simp [szM]
    rw [List.flatMap_cons, szM_app, List.length_cons, e]
    omega
theorem kidsM_ne {t x : Mid} (h : x ∈ kidsM t) : x.ne = true := by
  cases t with
  | nil => simp [kidsM] at h
  | node p lo hi => exact (List.mem_filter.mp h).2
theorem getD_atM {row : List Mid} {i : Nat} (h : i < row.length) : row[i]? = some (row.getD i .nil) := by rw [List.getD_eq_getElem?_getD, List.getElem?_eq_getElem h]; rfl
theorem flat_len2 : ∀ l : List Mid, (l.flatMap kidsM).length ≤ 2 * l.length
  | [] => by simp
  | a :: l => by
    have ih := flat_len2 l
    rw [List.flatMap_cons, List.length_append, List.length_cons]
    have : (kidsM a).length ≤ 2 := by
      cases a with
      | nil => simp [kidsM]
      | node p lo hi => exact List.length_filter_le ..
    omega
theorem kids_step {S1 : Sto} {Γ : En} {row : List Mid} {r : Nat} {z0 z1 z3 z4 : Option Va} {Q : Va → Sto → Prop} (hΓ : Γ = [z0, z1, some (.ref r), z3, z4]) (hr : S1[r]? = some (.lst (row.map Mid.va))) (hn : ∀ t ∈ row, t.ne = true) (hl : 4 * row.length < 1000000) (q : Q (.ref S1.length) (S1 ++ [.lst ((row.flatMap kidsM).map Mid.va)])) :
    Wp (mLc2 (mWalk (mV 2)) (gV 3) mtYes (mWalk (mSl fSl (mV 3) (some (mC (.int 1))) none)) (gV 4) (mtOf (mNotN (mV 4))) (mV 4) [3, 4] [4] Γ S1) Q := by
  subst hΓ
  refine w_lc2 (w_walk ?_)
  walk_at "go"
  refine .inl ⟨r, _, rfl, hr, ?_⟩
  have hr' : ∀ X, (S1 ++ [Ob.lst X])[r]? = some (.lst (row.map Mid.va)) := fun X => get_app hr
  have hfu : (ItV.ref r).fuel S1 = row.length := by
    show (match S1[r]? with | some (Ob.lst xs) => xs.length | _ => 0) = _
    rw [hr]
    exact List.length_map ..
  rw [hfu]
  refine comp2_it row.length (fun i => (row.getD i .nil).va) (fun i S' => S' = S1 ++ [.lst (((row.take i).flatMap kidsM).map Mid.va)]) (fun i S' hi h => ?_) (fun S' h => ?_) (fun i S' hi h => ?_) (fun S' h => ?_) row.length 0 _ (Nat.zero_le _) (by omega) rfl
  · subst h
    show (match (S1 ++ [Ob.lst _])[r]? with | some (Ob.lst xs) => some xs[i]? | _ => none) = _
    rw [hr']
    simp only
    rw [List.getElem?_map, getD_atM hi]
    rfl
  · subst h
    show (match (S1 ++ [Ob.lst _])[r]? with | some (Ob.lst xs) => some xs[row.length]? | _ => none) = _
    rw [hr']
    simp only
    rw [List.getElem?_eq_none (by rw [List.length_map]; exact Nat.le_refl _)]
  · subst h
    have hti := getD_atM hi
    generalize row.getD i .nil = t at hti
    have hnt := hn t (List.mem_of_getElem? hti)
    cases t with
    | nil => cases hnt
    | node p lo hi2 =>
      rw [mid_va]
      walk_at "go"
      refine w_yesE ?_
      rw [if_pos rfl]
      refine w_walk ?_
      walk_at "go"
      refine .inr ⟨_, .inl rfl, ?_⟩
      refine compG_it 2 (fun j => ([lo, hi2].getD j .nil).va) (fun j S' => S' = S1 ++ [.lst (((row.take i).flatMap kidsM ++ ([lo, hi2].take j).filter Mid.ne).map Mid.va)]) (fun j S' hj h => ?_) (fun S' _ => rfl) (fun j S' hj h => ?_) (fun S' h => ?_) 2 0 _ (Nat.zero_le _) (by decide) (by simp)
      · match j, hj with
        | 0, _ => rfl
        | 1, _ => rfl
      · subst h
        have htj : [lo, hi2][j]? = some ([lo, hi2].getD j .nil) := getD_atM (by show j < 2; exact hj)
        generalize [lo, hi2].getD j .nil = u at htj
        walk_at "go"
        rw [non_mid]
        have e1 : (([lo, hi2].take (j + 1)).filter Mid.ne) = ([lo, hi2].take j).filter Mid.ne ++ (if u.ne = true then [u] else []) := by
          rw [take_at htj, List.filter_append]
          by_cases e : u.ne = true
          · rw [if_pos e]; simp [e]
          · rw [if_neg e]; simp [e]
        rw [e1]
        cases e : u.ne with
        | false =>
          refine ite_f ?_
          simp
        | true =>
          refine ite_t ?_
          walk_at "go"
          refine ⟨_, get_last, ?_, ?_⟩
          · rw [List.length_map, List.length_append]
            have k1 := flat_len2 (row.take i)
            rw [List.length_take] at k1
            have k2 : (([lo, hi2].take j).filter Mid.ne).length ≤ 2 := Nat.le_trans (List.length_filter_le ..) (by rw [List.length_take]; show min j 2 ≤ 2; omega)
            show _ < 2 ^ 24
            omega
          · rw [app_set]
            simp
      · rw [h, take_at hti, List.flatMap_append]
        have e4 : [lo, hi2].take 2 = [lo, hi2] := rfl
        rw [e4]
        have e5 : [Mid.node p lo hi2].flatMap kidsM = [lo, hi2].filter Mid.ne := by simp [kidsM]
        rw [e5]
  · subst h
    rw [List.take_length]
    exact q
theorem rowM_small : ∀ {row : List Mid}, (∀ t ∈ row, t.ne = true) → row.length ≤ szM row
  | [], _ => Nat.zero_le _
  | t :: row, h => by
    have h1 := rowM_small (row := row) fun x hx => h x (List.mem_cons_of_mem _ hx)
    have h2 : 1 ≤ t.size := by
      have := h t (List.mem_cons_self ..)
      cases t with
      | nil => cases this
      | node _ _ _ => show 1 ≤ 1 + _; omega
    have e : szM (t :: row) = t.size + szM row := by simp [szM]
    rw [e, List.length_cons]
    omega
theorem lc_loop {z0 : Option Va} {P : Po} {row0 : List Mid} {r0 : Nat} {S1 : Sto} (hr0 : S1[r0]? = some (.lst (row0.map Mid.va))) (hn0 : ∀ t ∈ row0, t.ne = true) (ht : szM row0 ≤ 500) (hm : mhM row0 ≤ 500)
    (hd : ∀ Γ S' r z3 z4, Γ = [z0, some (nv (mhM row0)), some (.ref r), z3, z4] → Lo S1 S' → P.nx Γ S') :
    Ws (sWhile 1000000 (mtTru (mV 2)) (sSeq (sAug 1 addI (mC (.int 1))) (sSet 2 (mLc2 (mWalk (mV 2)) (gV 3) mtYes (mWalk (mSl fSl (mV 3) (some (mC (.int 1))) none)) (gV 4) (mtOf (mNotN (mV 4))) (mV 4) [3, 4] [4]))) [z0, some (nv 0), some (.ref r0), none, none] S1) P := by
  refine ws_whileN (m := mhM row0) (fun m Γ S' => ∃ (row : List Mid) (c r : Nat) (z3 z4 : Option Va), Γ = [z0, some (nv c), some (.ref r), z3, z4] ∧ Lo S1 S' ∧ S'[r]? = some (.lst (row.map Mid.va)) ∧ (∀ t ∈ row, t.ne = true) ∧ szM row ≤ 500 ∧ c + mhM row = mhM row0 ∧ mhM row = m) ?_ (by omega) ?_
  · exact ⟨row0, 0, r0, none, none, rfl, Lo.refl _, hr0, hn0, ht, by simp, rfl⟩
  · rintro m Γ S' ⟨row, c, r, z3, z4, rfl, l, hr, hn, hts, hcs, hmm⟩
    have hsm := rowM_small hn
    refine w_mtTru ?_
    walk_at "go"
    refine ⟨_, tru_lst hr, ?_⟩
    cases row with
    | nil =>
      refine ite_f ?_
      have hc : c = mhM row0 := by simpa [mhM] using hcs
      exact hd _ _ _ _ _ (by rw [hc]) l
    | cons t row' =>
      refine ite_t ?_
      have hmk := mhM_kids (t :: row') (by simp) hn
      have hkr := kidsM_row (t :: row') hn
      generalize t :: row' = row at *
      walk_at "go"
      refine ws_aug rfl ?_
      walk_at "go"
      refine kids_step rfl hr hn (by omega) ?_
      refine ⟨mhM (row.flatMap kidsM), by omega, row.flatMap kidsM, c + 1, _, _, _, rfl, l.trans (Lo.app _ _), get_last, ?_, by omega, by omega, rfl⟩
      intro x hx
      obtain ⟨u, _, hu⟩ := List.mem_flatMap.mp hx
      exact kidsM_ne hu
theorem sp_count_levels {S : Sto} {T : Mid} (hs : T.size ≤ 500) : Wp (m_count_levels [T.va] S) (fun v S' => v = nv T.ht ∧ Lo S S') := by
  have hht := T.ht_size
  walk_at "fn"
  unfold b_count_levels
  walk_at "go"
  cases T with
  | nil =>
    refine ite_t ?_
    walk_at "go"
    refine lc_loop (row0 := []) (r0 := S.length) get_last (by simp) (by simp [szM]) (by simp [mhM]) ?_
    rintro Γ S' r z3 z4 rfl l
    walk_at "go"
    exact ⟨rfl, (Lo.app _ _).trans l⟩
  | node p lo hi =>
    refine ite_f ?_
    walk_at "go"
    refine lc_loop (row0 := [.node p lo hi]) (r0 := S.length) get_last (by simp [Mid.ne]) (by simpa [szM] using hs) (by show max _ 0 ≤ 500; omega) ?_
    rintro Γ S' r z3 z4 rfl l
    walk_at "go"
    refine ⟨?_, (Lo.app _ _).trans l⟩
    have : mhM [Mid.node p lo hi] = (Mid.node p lo hi).ht := by show max _ 0 = _; omega
    rw [this]
theorem sp_height {S : Sto} {T : Mid} (h : MOk T) : Wp (m_height [T.va] S) (fun v S' => v = nv T.ht ∧ Lo S S') := by
  walk_at "fn"
  unfold b_height
  walk_at "go"
  refine (sp_check_middle h).mono ?_
  rintro v S1 l
  walk_at "go"
  refine (sp_count_levels h.s).mono ?_
  rintro v S2 ⟨rfl, l2⟩
  exact ⟨rfl, l.trans l2⟩
end PM

namespace PM
open PySem PySem.Spec PyProof.Rows L2 Q2
local macro_rules | `(tactic| walk_at "fn") => `(tactic| (first | refine w_fn1 ?_ | refine w_fn2 ?_ | refine w_fn3 ?_ | refine w_fn4 ?_ | refine w_fn5 ?_ | refine w_fn6 ?_); dsimp only [List.replicate])
local macro_rules | `(tactic| walk_at "kb") => `(tactic| with_reducible first | exact kb_int_int | exact kb_int_bool | exact kb_int_str | exact kb_int_list | exact kb_int_tuple | exact kb_bool_int | exact kb_bool_bool | exact kb_bool_str | exact kb_bool_list | exact kb_bool_tuple | exact kb_str_int | exact kb_str_bool | exact kb_str_str | exact kb_str_list | exact kb_str_tuple | exact kb_list_int | exact kb_list_bool | exact kb_list_str | exact kb_list_list | exact kb_list_tuple | exact kb_tuple_int | exact kb_tuple_bool | exact kb_tuple_str | exact kb_tuple_list | exact kb_tuple_tuple | exact kb_NoneType_int | exact kb_NoneType_bool | exact kb_NoneType_str | exact kb_NoneType_list | exact kb_NoneType_tuple)
local macro_rules | `(tactic| walk_at "go1") => `(tactic| first
  | ((with_reducible refine w_var (v := ?v) ?h ?_); case h => exact rfl)
  | with_reducible first
  | refine w_c ?_ | refine w_m2 ?_ | refine w_m1 ?_ | refine w_maC ?_ | refine w_maN ?_ | refine w_mL ?_ | refine w_call ?_
  | refine w_mtOf ?_ | refine w_mtNot ?_ | refine w_mtAnd ?_ | refine w_mtOr ?_ | refine w_meAnd ?_ | refine w_meOr ?_ | refine w_mNot ?_
  | refine ws_seq ?_ | (refine ws_set ?_) | refine ws_ret ?_ | refine ws_if ?_ | refine ws_expr ?_ | refine ws_nil ?_ | refine ws_asg ?_
  | refine wo_int ?_ | refine wo_add ?_ | refine wo_addI ?_ | refine wo_sub ?_ | refine wo_lt ?_ | refine wo_le ?_ | refine wo_gt ?_ | refine wo_ge ?_
  | refine wo_max2 ?_ | refine wo_min2 ?_ | refine wo_abs ?_ | refine wo_neg ?_ | refine wo_eqI ?_ | refine wo_neI ?_ | refine wo_intB ?_ | refine wo_ixT rfl ?_ | refine ws_brk ?_ | refine ws_cnt ?_ | refine w_if ?_ | refine ws_par ?_ | refine ws_par3 ?_ | (refine ⟨_, _, rfl, ?_⟩) | (refine ⟨_, _, _, rfl, ?_⟩) | refine w_isN ?_ | refine w_notN ?_ | refine ite_t ?_ | refine ite_f ?_ | refine ite_nt ?_ | refine ite_nf ?_ | refine w_chain ?_ | refine w_isiT ?_ | refine wg_sub ?_ | (refine ⟨_, rfl, ?_⟩) | refine wg_v ?_ | refine wg_c ?_ | refine wg_n ?_ | refine w_sl ?_ | refine w_optS ?_ | refine w_optN ?_ | refine wo_sl31 ?_)
local macro_rules | `(tactic| walk_at "go2") => `(tactic| first
  | walk_at "go1"
  | ((with_reducible refine wo_mod ?h ?_); case h => omega) | ((with_reducible refine wo_div ?h ?_); case h => omega) | ((with_reducible refine wo_mul_l ?h ?_); case h => omega) | ((with_reducible refine wo_mul_r ?h ?_); case h => omega)
  | ((with_reducible refine wo_shr ?h ?_); case h => omega) | ((with_reducible refine wo_shl ?h ?_); case h => omega) | ((with_reducible refine wo_pow ?h ?_); case h => omega)
  | ((with_reducible refine ite_d ?a ?b); (case b => exact fun h => absurd (by omega) h); intro _)
  | ((with_reducible refine ite_d ?a ?b); (case a => exact fun h => absurd h (by omega)); intro _)
  | ((with_reducible refine ite_d ?a ?b) <;> intro _)
  | ((with_reducible refine ⟨_, _, ?xs, ?j, rfl, rfl, ?h, ?e, ?_⟩); (case h => assumption); (case e => exact rfl))
  | ((with_reducible refine ite_nd ?a ?b); (case b => exact fun h => absurd h (by omega)); intro _)
  | ((with_reducible refine ite_nd ?a ?b); (case a => exact fun h => absurd (by omega) h); intro _)
  | ((with_reducible refine ite_nd ?a ?b) <;> intro _)
  | ((with_reducible refine wg_t ?h ?_); case h => exact rfl)
  | ((with_reducible refine wo_addL (xs := ?xs) (ys := ?ys) (lst_ref ?h1) (lst_ref ?h2) ?h3 ?_); (case h1 => first | assumption | exact get_app (by assumption)); (case h2 => first | assumption | exact get_app (by assumption)); (case h3 => (show _ ≤ 2 ^ 24; simp only [List.length_append, List.length_cons, List.length_nil, List.length_map]; omega)))
  | ((with_reducible refine wo_isi (k := ?k) (b := ?b) ?h1 ?h2 ?_); (case h1 => first | exact rfl | exact kind_ref (by assumption)); (case h2 => walk_at "kb"))
  | ((with_reducible refine wo_len (xs := ?xs) ?h ?_); (case h => first | exact rfl | exact seq_ref (by assumption)))
  | ((with_reducible refine wo_ixL (xs := ?xs) (x := ?x) ?h1 ?h2 ?_); (case h1 => exact lst_ref (by assumption)); (case h2 => exact rfl))
  | ((with_reducible refine wo_tup ?h ?_); case h => (simp only [List.length_cons, List.length_nil]; decide)) | ((with_reducible refine wo_lst ?h ?_); case h => (simp only [List.length_cons, List.length_nil]; decide)))
local macro_rules | `(tactic| walk_at "go") => `(tactic| (repeat' walk_at "go2") <;> try dsimp only [List.set_cons_zero, List.set_cons_succ])

/-! ### sizes_of -/
def Mid.high : Mid → Mid
  | .nil => .nil
  | .node _ _ hi => hi
def rowV (t : Mid) : Va := .tup [t.low.va, t.high.va]
def plM (l : List Mid) : List Nat := ((l.filter Mid.ne).map Mid.size).reverse
def stkM : List Mid → List Nat
  | [] => []
  | t :: r => (stkM r).take ((stkM r).length - (kidsM t).length) ++ [t.size]
theorem stk_cons (t : Mid) (r : List Mid) : stkM (t :: r) = (stkM r).take ((stkM r).length - (kidsM t).length) ++ [t.size] := rfl
theorem stk_len : ∀ l : List Mid, (stkM l).length ≤ l.length
  | [] => Nat.le_refl _
  | t :: r => by
    have := stk_len r
    rw [stk_cons]
    simp only [List.length_append, List.length_take, List.length_cons, List.length_nil]
    omega
theorem pl_len (l : List Mid) : (plM l).length = (l.filter Mid.ne).length := by simp [plM]
theorem take_pl (X : List Nat) (l : List Mid) : (X ++ plM l).take ((X ++ plM l).length - (l.filter Mid.ne).length) = X := by
  rw [List.length_append, pl_len, Nat.add_sub_cancel, List.take_left]
theorem stk_nodes : ∀ (t : Mid) (r : List Mid), stkM (t.nodes ++ r) = stkM r ++ plM [t]
  | .nil, r => by simp [Mid.nodes, plM, Mid.ne]
  | .node p lo hi, r => by
    have e : (Mid.node p lo hi).nodes ++ r = Mid.node p lo hi :: (lo.nodes ++ (hi.nodes ++ r)) := by simp [Mid.nodes]
    have h : stkM (lo.nodes ++ (hi.nodes ++ r)) = stkM r ++ plM [lo, hi] := by
      rw [stk_nodes lo, stk_nodes hi, List.append_assoc]
      congr 1
      unfold plM
      rw [← List.reverse_append, ← List.map_append, ← List.filter_append]
      rfl
    rw [e, stk_cons, h]
    show List.take ((stkM r ++ plM [lo, hi]).length - ([lo, hi].filter Mid.ne).length) _ ++ _ = _
    rw [take_pl]
    rfl
theorem nodes_rest : ∀ (t : Mid) (a : List Mid) (u : Mid) (r : List Mid), t.nodes = a ++ u :: r → ∃ r', r = u.low.nodes ++ (u.high.nodes ++ r')
  | .nil, a, u, r, h => by simp [Mid.nodes] at h
  | .node q A B, [], u, r, h => by
    simp only [Mid.nodes, List.nil_append, List.cons.injEq] at h
    obtain ⟨rfl, rfl⟩ := h
    exact ⟨[], by simp [Mid.low, Mid.high]⟩
  | .node q A B, x :: a, u, r, h => by
    simp only [Mid.nodes, List.cons_append, List.cons.injEq] at h
    obtain ⟨_, h⟩ := h
    rcases List.append_eq_append_iff.mp h with ⟨c, e1, e2⟩ | ⟨c, e1, e2⟩
    · exact nodes_rest B c u r e2
    · cases c with
      | nil =>
        exact nodes_rest B [] u r e2.symm
      | cons y c =>
        simp only [List.cons_append, List.cons.injEq] at e2
        obtain ⟨rfl, rfl⟩ := e2
        obtain ⟨r', rfl⟩ := nodes_rest A a u c e1
        exact ⟨r' ++ B.nodes, by simp⟩
theorem stk_rest {t : Mid} {a r : List Mid} {u : Mid} (h : t.nodes = a ++ u :: r) : ∃ X, stkM r = X ++ plM [u.low, u.high] ∧ stkM (u :: r) = X ++ [u.size] := by
  obtain ⟨r', rfl⟩ := nodes_rest t a u r h
  obtain ⟨p, lo, hi, rfl⟩ := t.nodes_node u (by rw [h]; simp)
  have e : stkM (lo.nodes ++ (hi.nodes ++ r')) = stkM r' ++ plM [lo, hi] := by
    rw [stk_nodes lo, stk_nodes hi, List.append_assoc]
    congr 1
    unfold plM
    rw [← List.reverse_append, ← List.map_append, ← List.filter_append]
    rfl
  refine ⟨stkM r', e, ?_⟩
  have e2 := stk_nodes (Mid.node p lo hi) r'
  have e3 : (Mid.node p lo hi).nodes ++ r' = Mid.node p lo hi :: (lo.nodes ++ (hi.nodes ++ r')) := by simp [Mid.nodes]
  rw [e3] at e2
  exact e2
theorem rev_at {l : List Mid} {i : Nat} {u : Mid} (h : l.reverse[i]? = some u) : i < l.length ∧ l = l.take (l.length - 1 - i) ++ u :: l.drop (l.length - i) := by
  have hi : i < l.length := by
    have := (List.getElem?_eq_some_iff.mp h).1
    rwa [List.length_reverse] at this
  refine ⟨hi, ?_⟩
  rw [List.getElem?_reverse hi] at h
  obtain ⟨h1, h2⟩ := List.getElem?_eq_some_iff.mp h
  have e := List.drop_eq_getElem_cons h1
  rw [h2, show l.length - 1 - i + 1 = l.length - i by omega] at e
  rw [← e, List.take_append_drop]
theorem drop_at {l a r : List Mid} {u : Mid} {k : Nat} (h : l = a ++ u :: r) (hk : a.length = k) : l.drop k = u :: r := by
  rw [h, ← hk, List.drop_left]
theorem sp_sizes_of {S : Sto} {r : Nat} {T : Mid} (hr : S[r]? = some (.lst (T.nodes.map rowV))) (hs : T.size ≤ 500) : Wp (m_sizes_of [.ref r] S) (fun v S' => ∃ j, v = .ref j ∧ S'[j]? = some (.lst (T.nodes.map fun t => nv t.size)) ∧ Lo S S') := by
  have hnl := T.nodes_len
  have hrl := lt_get hr
  walk_at "fn"
  unfold b_sizes_of
  walk_at "go"
  have l0 : Lo S (S ++ [Ob.lst []] ++ [Ob.lst []]) := (Lo.app _ _).trans (Lo.app _ _)
  have h0 : (S ++ [Ob.lst []] ++ [Ob.lst []])[S.length]? = some (.lst []) := get_app get_last
  have h1 : (S ++ [Ob.lst []] ++ [Ob.lst []])[(S ++ [Ob.lst []]).length]? = some (.lst []) := get_last
  have hL : (S ++ [Ob.lst []]).length = S.length + 1 := by simp
  rw [hL] at h1 ⊢
  have hl2 : (S ++ [Ob.lst []] ++ [Ob.lst []]).length = S.length + 2 := by simp
  generalize S ++ [Ob.lst []] ++ [Ob.lst []] = S1 at l0 h0 h1 hl2 ⊢
  have hr1 := l0.get hr
  refine ws_forX (w_revSl ?_)
  walk_at "go"
  refine ⟨_, lst_ref hr1, by rw [List.length_map]; show _ ≤ 2 ^ 24; omega, ?_⟩
  rw [hl2]
  have g2 : (S1 ++ [Ob.lst (T.nodes.map rowV).reverse])[S.length + 2]? = some (.lst (T.nodes.reverse.map rowV)) := by
    rw [← hl2, get_last, List.map_reverse]
  have e0 := get_app (T := [Ob.lst (T.nodes.map rowV).reverse]) h0
  have e1 := get_app (T := [Ob.lst (T.nodes.map rowV).reverse]) h1
  have l2 : Lo S (S1 ++ [Ob.lst (T.nodes.map rowV).reverse]) := l0.trans (Lo.app _ _)
  generalize S1 ++ [Ob.lst (T.nodes.map rowV).reverse] = S2 at g2 e0 e1 l2 ⊢
  refine ⟨T.nodes.reverse.map rowV, fun i Γ S' => ∃ z3 z4 z5, Γ = [some (.ref r), some (.ref S.length), some (.ref (S.length + 1)), z3, z4, z5] ∧ Lo S S' ∧ S'[S.length]? = some (.lst ((T.nodes.reverse.take i).map fun t => nv t.size)) ∧ S'[S.length + 1]? = some (.lst ((stkM (T.nodes.drop (T.nodes.length - i))).map nv)) ∧ S'[S.length + 2]? = some (.lst (T.nodes.reverse.map rowV)), ?_, ?_, ?_, ?_⟩
  · refine ⟨none, none, none, rfl, l2, e0, ?_, g2⟩
    rw [Nat.sub_zero, List.drop_length]
    exact e1
  · rintro i Γ S' ⟨z3, z4, z5, _, _, _, _, h⟩
    exact .ref h
  · rintro i x Γ S3 hx ⟨z3, z4, z5, rfl, l3, a0, a1, a2⟩
    obtain ⟨u, hu, rfl⟩ := map_at hx
    have ht := take_at hu
    obtain ⟨hi, hsp⟩ := rev_at hu
    obtain ⟨X, x1, x2⟩ := stk_rest hsp
    have hu2 : u ∈ T.nodes := by rw [hsp]; simp
    have hX : X.length ≤ T.nodes.length := by
      have := stk_len (T.nodes.drop (T.nodes.length - i))
      rw [x1, List.length_append, List.length_drop] at this
      omega
    have hdr : T.nodes.drop (T.nodes.length - (i + 1)) = u :: T.nodes.drop (T.nodes.length - i) := drop_at hsp (by rw [List.length_take]; omega)
    rw [x1] at a1
    obtain ⟨p, lo, hi', rfl⟩ := T.nodes_node u hu2
    have hle : (Mid.node p lo hi').size = 1 + (lo.size + hi'.size) := rfl
    rw [show rowV (Mid.node p lo hi') = .tup [lo.va, hi'.va] from rfl]
    rw [show plM [(Mid.node p lo hi').low, (Mid.node p lo hi').high] = plM [lo, hi'] from rfl] at a1
    walk_at "go"
    refine ws_forX ?_
    walk_at "go"
    refine ⟨[lo.va, hi'.va], fun j Γ S' => ∃ z5, Γ = [some (.ref r), some (.ref S.length), some (.ref (S.length + 1)), some (.tup [lo.va, hi'.va]), some (nv (1 + (([lo, hi'].take j).map Mid.size).sum)), z5] ∧ Lo S S' ∧ S'[S.length]? = some (.lst ((T.nodes.reverse.take i).map fun t => nv t.size)) ∧ S'[S.length + 1]? = some (.lst ((X ++ plM ([lo, hi'].drop j)).map nv)) ∧ S'[S.length + 2]? = some (.lst (T.nodes.reverse.map rowV)), ?_, ?_, ?_, ?_⟩
    · exact ⟨_, rfl, l3, a0, a1, a2⟩
    · intro j Γ S' _
      exact .inr (.inl rfl)
    · rintro j x Γ S4 hxj ⟨y5, rfl, l4, b0, b1, b2⟩
      obtain ⟨w, hw, rfl⟩ : ∃ w, [lo, hi'][j]? = some w ∧ x = w.va := by
        match j, hxj with
        | 0, hxj => exact ⟨lo, rfl, (Option.some.inj hxj).symm⟩
        | 1, hxj => exact ⟨hi', rfl, (Option.some.inj hxj).symm⟩
        | j + 2, hxj => simp at hxj
      have hd : [lo, hi'].drop j = w :: [lo, hi'].drop (j + 1) := by
        obtain ⟨h1, h2⟩ := List.getElem?_eq_some_iff.mp hw
        rw [← h2]
        exact List.drop_eq_getElem_cons h1
      have hk : [lo, hi'].take (j + 1) = [lo, hi'].take j ++ [w] := take_at hw
      have esum : (([lo, hi'].take (j + 1)).map Mid.size).sum = (([lo, hi'].take j).map Mid.size).sum + w.size := by
        rw [hk]; simp
      rw [hd] at b1
      generalize hD : [lo, hi'].drop (j + 1) = D at b1
      generalize (([lo, hi'].take j).map Mid.size).sum = m at esum ⊢
      walk_at "go"
      rw [non_mid]
      cases e : w.ne with
      | false =>
        refine ite_f ?_
        have ez : w.size = 0 := by cases w with
          | nil => rfl
          | node _ _ _ => cases e
        have ep : plM (w :: D) = plM D := by unfold plM; rw [List.filter_cons, e]; rfl
        rw [ep] at b1
        refine ⟨some w.va, ?_, l4, b0, by rw [hD]; exact b1, b2⟩
        rw [esum, ez]
        rfl
      | true =>
        refine ite_t ?_
        have ep : plM (w :: D) = plM D ++ [w.size] := by unfold plM; rw [List.filter_cons, e]; simp
        rw [ep, ← List.append_assoc] at b1
        refine ws_aug rfl (w_pop ?_)
        walk_at "go"
        refine ⟨S.length + 1, _, nv w.size, rfl, b1, by simp, ?_⟩
        walk_at "go"
        have hdl : ((X ++ plM D ++ [w.size]).map nv).dropLast = (X ++ plM D).map nv := by simp
        rw [hdl]
        refine ⟨some w.va, ?_, l4.set (by omega) _, get_ne (by omega) b0, by rw [hD]; exact get_set b1, get_ne (by omega) b2⟩
        rw [esum]
        have : ((((1 + m : Nat)) : Int) + (w.size : Int)) = ((1 + (m + w.size) : Nat) : Int) := by omega
        rw [this]
    · rintro Γ S4 ⟨y5, rfl, l4, b0, b1, b2⟩
      have es : (([lo, hi'].take [lo.va, hi'.va].length).map Mid.size).sum = lo.size + hi'.size := by simp
      have eD : X ++ plM ([lo, hi'].drop [lo.va, hi'.va].length) = X := by simp [plM]
      rw [es]
      rw [eD] at b1
      walk_at "go"
      refine w_app ?_
      walk_at "go"
      refine ⟨_, _, rfl, b1, ?_⟩
      walk_at "go"
      refine ⟨_, _, rfl, b1, by rw [List.length_map]; show _ < 2 ^ 24; omega, ?_⟩
      walk_at "go"
      refine w_app ?_
      walk_at "go"
      refine ⟨_, _, rfl, get_ne (by omega) b0, ?_⟩
      walk_at "go"
      refine ⟨_, _, rfl, get_ne (by omega) b0, by rw [List.length_map, List.length_take]; show _ < 2 ^ 24; omega, ?_⟩
      refine ⟨_, _, _, rfl, (l4.set (by omega) _).set (Nat.le_refl _) _, ?_, ?_, get_ne (by omega) (get_ne (by omega) b2)⟩
      · rw [get_set (get_ne (by omega) b0), ht, List.map_append]
        rfl
      · rw [get_ne (by omega) (get_set b1), hdr, x2, List.map_append]
        rfl
  · rintro Γ S3 ⟨z3, z4, z5, rfl, l3, a0, a1, a2⟩
    rw [List.length_map, List.length_reverse] at a0
    refine ws_ret (w_revSl ?_)
    walk_at "go"
    have et : T.nodes.reverse.take T.nodes.length = T.nodes.reverse := List.take_of_length_le (by simp)
    rw [et] at a0
    refine ⟨_, lst_ref a0, by rw [List.length_map, List.length_reverse]; show _ ≤ 2 ^ 24; omega, ?_⟩
    refine ⟨_, rfl, ?_, l3.trans (Lo.app _ _)⟩
    rw [get_last, ← List.map_reverse, List.reverse_reverse]
/-! ### is_even -/
theorem sp_is_even {S : Sto} {T : Mid} (h : MOk T) (he : EvenT T) : Wp (m_is_even [T.va] S) (fun v S' => v = .bl true ∧ Lo S S') := by
  have hs := h.s
  have hnl := T.nodes_len
  walk_at "fn"
  unfold b_is_even
  walk_at "go"
  refine (sp_check_middle h).mono ?_
  rintro v S1 l1
  walk_at "go"
  refine (sp_side_nodes hs).mono ?_
  rintro v S2 ⟨j, rfl, hj, _, l2⟩
  walk_at "go"
  refine w_lcW (.ref j) (T.nodes.map Mid.va) (fun i acc S' => Lo S2 S' ∧ acc = (T.nodes.take i).map rowV) (by rw [List.length_map]; show _ < 2 ^ 24; omega) ?_ (fun i acc S' h => .ref (h.1.get hj)) ?_ ?_
  · walk_at "go"
    exact ⟨rfl, Lo.refl _, rfl⟩
  · rintro i x acc S3 hx ⟨l3, rfl⟩
    obtain ⟨t, ht, rfl⟩ := map_at hx
    obtain ⟨p, lo, hi, rfl⟩ := T.nodes_node t (List.mem_of_getElem? ht)
    rw [mid_va]
    walk_at "go"
    refine w_yesE ?_
    walk_at "go"
    refine ⟨l3, ?_⟩
    rw [take_at ht, List.map_append]
    rfl
  · rintro acc S3 ⟨l3, rfl⟩
    rw [List.length_map, List.take_length]
    have hr : (S3 ++ [Ob.lst (T.nodes.map rowV)])[S3.length]? = some (.lst (T.nodes.map rowV)) := get_last
    have l4 : Lo S2 (S3 ++ [Ob.lst (T.nodes.map rowV)]) := l3.trans (Lo.app _ _)
    generalize S3.length = r at hr ⊢
    generalize S3 ++ [Ob.lst (T.nodes.map rowV)] = S4 at hr l4 ⊢
    walk_at "go"
    refine (sp_sizes_of hr hs).mono ?_
    rintro v S5 ⟨k, rfl, hk, l5⟩
    have hj5 := (l4.trans l5).get hj
    have l15 : Lo S S5 := ((l1.trans l2).trans l4).trans l5
    walk_at "go"
    refine ws_forE (.ref j) (T.nodes.map Mid.va) (fun i Γ S' => S' = S5 ∧ ∃ z3 z4 z5, Γ = [some T.va, some (.ref j), some (.ref k), z3, z4, z5]) ?_ (fun i Γ S' h => .ref (by rw [h.1]; exact hj5)) ?_ ?_
    · walk_at "go"
      exact ⟨rfl, rfl, _, _, _, rfl⟩
    · rintro i x Γ S6 hx ⟨rfl, z3, z4, z5, rfl⟩
      obtain ⟨t, ht, rfl⟩ := map_at hx
      obtain ⟨p, lo, hi, rfl⟩ := T.nodes_node t (List.mem_of_getElem? ht)
      have hev := even_nodes T he p lo hi (List.mem_of_getElem? ht)
      have hi' : i < T.nodes.length := (List.getElem?_eq_some_iff.mp ht).1
      have ki : ((T.nodes.map fun t => nv t.size))[i]? = some (nv (Mid.node p lo hi).size) := by rw [List.getElem?_map, ht]; rfl
      have hd2 : (((Mid.node p lo hi).size : Int) / 2) = ((Mid.node p lo hi).size / 2 : Nat) := by omega
      cases lo with
      | nil =>
        have hev0 : (0 : Nat) = (Mid.node p .nil hi).size / 2 := hev
        rw [mid_va]
        walk_at "go"
        refine ite_t ?_
        walk_at "go"
        refine wo_ixL (lst_ref hk) (atI_nat ki) ?_
        walk_at "go"
        exact ⟨rfl, _, _, _, rfl⟩
      | node q a b =>
        have kn : ((T.nodes.map fun t => nv t.size))[i + 1]? = some (nv (Mid.node q a b).size) := by rw [List.getElem?_map, T.nodes_next i p _ hi ht (by simp)]; rfl
        rw [mid_va, mid_va]
        walk_at "go"
        refine ite_f ?_
        walk_at "go"
        rw [show ((i : Int) + 1) = ((i + 1 : Nat) : Int) by omega]
        refine wo_ixL (lst_ref hk) (atI_nat kn) ?_
        walk_at "go"
        refine wo_ixL (lst_ref hk) (atI_nat ki) ?_
        walk_at "go"
        exact ⟨rfl, _, _, _, rfl⟩
    · rintro Γ S6 ⟨rfl, z3, z4, z5, rfl⟩
      walk_at "go"
      exact ⟨rfl, l15⟩
end PM

namespace PM
open PySem PySem.Spec PyProof.Rows L2 Q2
local macro_rules | `(tactic| walk_at "fn") => `(tactic| (first | refine w_fn1 ?_ | refine w_fn2 ?_ | refine w_fn3 ?_ | refine w_fn4 ?_ | refine w_fn5 ?_ | refine w_fn6 ?_); dsimp only [List.replicate])
local macro_rules | `(tactic| walk_at "kb") => `(tactic| with_reducible first | exact kb_int_int | exact kb_int_bool | exact kb_int_str | exact kb_int_list | exact kb_int_tuple | exact kb_bool_int | exact kb_bool_bool | exact kb_bool_str | exact kb_bool_list | exact kb_bool_tuple | exact kb_str_int | exact kb_str_bool | exact kb_str_str | exact kb_str_list | exact kb_str_tuple | exact kb_list_int | exact kb_list_bool | exact kb_list_str | exact kb_list_list | exact kb_list_tuple | exact kb_tuple_int | exact kb_tuple_bool | exact kb_tuple_str | exact kb_tuple_list | exact kb_tuple_tuple | exact kb_NoneType_int | exact kb_NoneType_bool | exact kb_NoneType_str | exact kb_NoneType_list | exact kb_NoneType_tuple)
local macro_rules | `(tactic| walk_at "go1") => `(tactic| first
  | ((with_reducible refine w_var (v := ?v) ?h ?_); case h => exact rfl)
  | with_reducible first
  | refine w_c ?_ | refine w_m2 ?_ | refine w_m1 ?_ | refine w_maC ?_ | refine w_maN ?_ | refine w_mL ?_ | refine w_call ?_
  | refine w_mtOf ?_ | refine w_mtNot ?_ | refine w_mtAnd ?_ | refine w_mtOr ?_ | refine w_meAnd ?_ | refine w_meOr ?_ | refine w_mNot ?_
  | refine ws_seq ?_ | (refine ws_set ?_) | refine ws_ret ?_ | refine ws_if ?_ | refine ws_expr ?_ | refine ws_nil ?_ | refine ws_asg ?_
  | refine wo_int ?_ | refine wo_add ?_ | refine wo_addI ?_ | refine wo_sub ?_ | refine wo_lt ?_ | refine wo_le ?_ | refine wo_gt ?_ | refine wo_ge ?_
  | refine wo_max2 ?_ | refine wo_min2 ?_ | refine wo_abs ?_ | refine wo_neg ?_ | refine wo_eqI ?_ | refine wo_neI ?_ | refine wo_intB ?_ | refine wo_ixT rfl ?_ | refine ws_brk ?_ | refine ws_cnt ?_ | refine w_if ?_ | refine ws_par ?_ | refine ws_par3 ?_ | (refine ⟨_, _, rfl, ?_⟩) | (refine ⟨_, _, _, rfl, ?_⟩) | refine w_isN ?_ | refine w_notN ?_ | refine ite_t ?_ | refine ite_f ?_ | refine ite_nt ?_ | refine ite_nf ?_ | refine w_chain ?_ | refine w_isiT ?_ | refine wg_sub ?_ | (refine ⟨_, rfl, ?_⟩) | refine wg_v ?_ | refine wg_c ?_ | refine wg_n ?_ | refine w_sl ?_ | refine w_optS ?_ | refine w_optN ?_ | refine wo_sl31 ?_)
local macro_rules | `(tactic| walk_at "go2") => `(tactic| first
  | walk_at "go1"
  | ((with_reducible refine wo_mod ?h ?_); case h => omega) | ((with_reducible refine wo_div ?h ?_); case h => omega) | ((with_reducible refine wo_mul_l ?h ?_); case h => omega) | ((with_reducible refine wo_mul_r ?h ?_); case h => omega)
  | ((with_reducible refine wo_shr ?h ?_); case h => omega) | ((with_reducible refine wo_shl ?h ?_); case h => omega) | ((with_reducible refine wo_pow ?h ?_); case h => omega)
  | ((with_reducible refine ite_d ?a ?b); (case b => exact fun h => absurd (by omega) h); intro _)
  | ((with_reducible refine ite_d ?a ?b); (case a => exact fun h => absurd h (by omega)); intro _)
  | ((with_reducible refine ite_d ?a ?b) <;> intro _)
  | ((with_reducible refine ⟨_, _, ?xs, ?j, rfl, rfl, ?h, ?e, ?_⟩); (case h => assumption); (case e => exact rfl))
  | ((with_reducible refine ite_nd ?a ?b); (case b => exact fun h => absurd h (by omega)); intro _)
  | ((with_reducible refine ite_nd ?a ?b); (case a => exact fun h => absurd (by omega) h); intro _)
  | ((with_reducible refine ite_nd ?a ?b) <;> intro _)
  | ((with_reducible refine wg_t ?h ?_); case h => exact rfl)
  | ((with_reducible refine wo_addL (xs := ?xs) (ys := ?ys) (lst_ref ?h1) (lst_ref ?h2) ?h3 ?_); (case h1 => first | assumption | exact get_app (by assumption)); (case h2 => first | assumption | exact get_app (by assumption)); (case h3 => (show _ ≤ 2 ^ 24; simp only [List.length_append, List.length_cons, List.length_nil, List.length_map]; omega)))
  | ((with_reducible refine wo_isi (k := ?k) (b := ?b) ?h1 ?h2 ?_); (case h1 => first | exact rfl | exact kind_ref (by assumption)); (case h2 => walk_at "kb"))
  | ((with_reducible refine wo_len (xs := ?xs) ?h ?_); (case h => first | exact rfl | exact seq_ref (by assumption)))
  | ((with_reducible refine wo_ixL (xs := ?xs) (x := ?x) ?h1 ?h2 ?_); (case h1 => exact lst_ref (by assumption)); (case h2 => exact rfl))
  | ((with_reducible refine wo_tup ?h ?_); case h => (simp only [List.length_cons, List.length_nil]; decide)) | ((with_reducible refine wo_lst ?h ?_); case h => (simp only [List.length_cons, List.length_nil]; decide)))
local macro_rules | `(tactic| walk_at "go") => `(tactic| (repeat' walk_at "go2") <;> try dsimp only [List.set_cons_zero, List.set_cons_succ])

/-! ### taken at the root -/
theorem sp_way_root {S : Sto} {p : Int × Int} {lo hi : Mid} : Wp (m_way_by_sides [(Mid.node p lo hi).va, ptV p] S) (fun v S' => ∃ j, v = .tup [.ref j, (Mid.node p lo hi).va] ∧ S'[j]? = some (.lst []) ∧ Lo S S') := by
  walk_at "fn"
  unfold b_way_by_sides
  walk_at "go"
  refine sp_y_key.mono ?_
  rintro _ S1 ⟨rfl, rfl⟩
  walk_at "go"
  refine ws_whileN (m := 0) (fun m Γ S' => S' = S ++ [Ob.lst []] ∧ ∃ z5 z6 z7 z8 z9, Γ = [some (Mid.node p lo hi).va, some (ptV p), some (.ref S.length), some (Mid.node p lo hi).va, some (.int 0), z5, z6, z7, z8, z9]) ?_ (by decide) ?_
  · exact ⟨rfl, _, _, _, _, _, rfl⟩
  · rintro m Γ S' ⟨rfl, z5, z6, z7, z8, z9, rfl⟩
    rw [mid_va]
    walk_at "go"
    refine ite_t ?_
    walk_at "go"
    refine wo_neD (a := p) (b := p) ptE ptR ptR (by decide) (by decide) ?_
    rw [decide_eq_false (by simp)]
    refine ⟨_, rfl, ite_f ?_⟩
    walk_at "go"
    exact ⟨get_last, Lo.app _ _⟩
theorem sp_put_nil {S : Sto} {j : Nat} {v : Va} (h : S[j]? = some (.lst [])) : Wp (m_put_at_end [.ref j, v] S) (fun w S' => w = v ∧ Lo S S') := by
  walk_at "fn"
  unfold b_put_at_end
  refine ws_seq (ws_forX (w_revSl ?_))
  walk_at "go"
  refine ⟨_, lst_ref h, by decide, ?_⟩
  refine ⟨[], fun i Γ S' => Lo S S' ∧ S'[S.length]? = some (.lst []) ∧ ∃ z2 z3 z4 z5, Γ = [some (.ref j), some v, z2, z3, z4, z5], ?_, ?_, ?_, ?_⟩
  · exact ⟨Lo.app _ _, get_last, _, _, _, _, rfl⟩
  · rintro i Γ S' ⟨_, h, _⟩
    exact .ref h
  · intro i x Γ S' hx
    simp at hx
  · rintro Γ S' ⟨l, _, z2, z3, z4, z5, rfl⟩
    walk_at "go"
    exact ⟨rfl, l⟩
theorem sp_without {S : Sto} {j : Nat} {T : Mid} (hj : S[j]? = some (.lst [])) (hs : T.size ≤ 60) : Wp (m_without_top [.ref j, T.va] S) (fun w S' => w = (midT 6 false T.pts.tail).va ∧ Lo S S') := by
  have hpl := T.pts_len
  walk_at "fn"
  unfold b_without_top
  walk_at "go"
  refine (sp_side_points (by omega)).mono ?_
  rintro _ S1 ⟨r, rfl, hr, _, l1⟩
  walk_at "go"
  have ec : cutA (T.pts.map ptV) (some 1) none = T.pts.tail.map ptV := by
    have := cut_from (T.pts.map ptV) 1
    rw [List.drop_one, ← List.map_tail] at this
    exact this
  refine sl_ref hr (by rw [ec, List.length_map, List.length_tail]; omega) ?_
  rw [ec]
  have g2 : (S1 ++ [Ob.lst (T.pts.tail.map ptV)])[S1.length]? = some (.lst (T.pts.tail.map ptV)) := get_last
  have l2 : Lo S (S1 ++ [Ob.lst (T.pts.tail.map ptV)]) := l1.trans (Lo.app _ _)
  generalize S1.length = k at g2 ⊢
  generalize S1 ++ [Ob.lst (T.pts.tail.map ptV)] = S2 at g2 l2 ⊢
  have hj2 := l2.get hj
  walk_at "go"
  refine wo_and ?_
  rw [show Builtin.bitAnd ((([] : List Va).length : Nat) : Int) 1 = 0 from rfl]
  walk_at "go"
  refine (sp_grown6 (ax := false) (fun S' h => .ref (h.get g2)) (by rw [List.length_tail]; omega)).mono ?_
  rintro _ S3 ⟨rfl, l3⟩
  walk_at "go"
  refine (sp_put_nil (l3.get hj2)).mono ?_
  rintro _ S4 ⟨rfl, l4⟩
  exact ⟨rfl, (l2.trans l3).trans l4⟩
theorem sp_taken {S : Sto} {p : Int × Int} {lo hi : Mid} (h : MOk (.node p lo hi)) (hs : (Mid.node p lo hi).size ≤ 60) : Wp (m_taken [(Mid.node p lo hi).va, ptV p] S) (fun w S' => w = (midT 6 false (Mid.node p lo hi).pts.tail).va ∧ Lo S S') := by
  walk_at "fn"
  unfold b_taken
  walk_at "go"
  refine (sp_check_middle h).mono ?_
  rintro _ S1 l1
  walk_at "go"
  refine (sp_check_point (h.b p (List.mem_cons_self ..))).mono ?_
  rintro _ S2 rfl
  walk_at "go"
  refine sp_way_root.mono ?_
  rintro _ S3 ⟨j, rfl, hj, l3⟩
  walk_at "go"
  refine ite_f ?_
  walk_at "go"
  refine (sp_without hj hs).mono ?_
  rintro _ S4 ⟨rfl, l4⟩
  exact ⟨rfl, (l1.trans l3).trans l4⟩
/-! ### the law's own -/
theorem w_revT {Γ : En} {S : Sto} {Q : Va → Sto → Prop} {m : ME} (h : Wp (m Γ S) fun v S1 => ∃ x y, v = .tup [x, y] ∧ Q (.tup [y, x]) S1) : Wp (mRevT m Γ S) Q := Wp.bind (h.mono fun _ _ h => by
  obtain ⟨x, y, rfl, q⟩ := h
  exact q)
def mvP (a b g : Int) (p : Int × Int) : Int × Int := (a + g * p.1, b + g * p.2)
theorem mid_hle : ∀ (n : Nat) (ax : Bool) (l : Pts), (midT n ax l).ht ≤ n
  | 0, _, _ => Nat.le_refl _
  | n + 1, ax, l => by
    unfold midT
    by_cases h0 : l.length = 0
    · rw [if_pos h0]; exact Nat.zero_le _
    · rw [if_neg h0]
      have h1 := mid_hle n (!ax) ((sortA ax l).take (l.length / 2))
      have h2 := mid_hle n (!ax) ((sortA ax l).drop (l.length / 2 + 1))
      show 1 + max _ _ ≤ _
      omega
theorem map_ht {f : Int × Int → Int × Int} : ∀ t : Mid, (mapT f t).ht = t.ht
  | .nil => rfl
  | .node p lo hi => by
    show 1 + max _ _ = 1 + max _ _
    rw [map_ht lo, map_ht hi]
theorem mir_ht : ∀ t : Mid, (mirT t).ht = t.ht
  | .nil => rfl
  | .node p lo hi => by
    show 1 + max _ _ = 1 + max _ _
    rw [mir_ht lo, mir_ht hi, Nat.max_comm]
def B17 (p : Int × Int) : Prop := (-100000000000000000 ≤ p.1 ∧ p.1 ≤ 100000000000000000) ∧ (-100000000000000000 ≤ p.2 ∧ p.2 ≤ 100000000000000000)
theorem sp_moved {a b g : Int} (hg : 0 < g ∧ g ≤ 1000000) : ∀ (T : Mid) (f : Nat) (S : Sto), T.ht < f → (∀ p ∈ T.pts, B17 p) → Wp (m_law_moved f [T.va, .int a, .int b, .int g] S) (fun v S' => v = (mapT (mvP a b g) T).va ∧ S' = S)
  | _, 0, _, h, _ => absurd h (Nat.not_lt_zero _)
  | .nil, f + 1, S, h, _ => by
    walk_at "fn"
    unfold b_law_moved
    walk_at "go"
    refine ite_t ?_
    walk_at "go"
    exact ⟨rfl, rfl⟩
  | .node p lo hi, f + 1, S, h, hb => by
    simp only [Mid.ht] at h
    obtain ⟨⟨c1, c2⟩, c3, c4⟩ := hb p (List.mem_cons_self ..)
    rw [mid_va]
    walk_at "fn"
    unfold b_law_moved
    walk_at "go"
    refine ite_f ?_
    walk_at "go"
    refine (sp_moved hg lo f S (by omega) fun q hq => hb q (List.mem_cons_of_mem _ (List.mem_append.mpr (.inl hq)))).mono ?_
    rintro _ S1 ⟨rfl, rfl⟩
    walk_at "go"
    refine (sp_moved hg hi f S1 (by omega) fun q hq => hb q (List.mem_cons_of_mem _ (List.mem_append.mpr (.inr hq)))).mono ?_
    rintro _ S2 ⟨rfl, rfl⟩
    walk_at "go"
    exact ⟨rfl, rfl⟩
theorem sp_mirrored : ∀ (T : Mid) (f : Nat) (S : Sto), T.ht < f → Wp (m_law_mirrored f [T.va] S) (fun v S' => v = (mirT T).va ∧ S' = S)
  | _, 0, _, h => absurd h (Nat.not_lt_zero _)
  | .nil, f + 1, S, h => by
    walk_at "fn"
    unfold b_law_mirrored
    walk_at "go"
    refine ite_t ?_
    walk_at "go"
    exact ⟨rfl, rfl⟩
  | .node p lo hi, f + 1, S, h => by
    simp only [Mid.ht] at h
    rw [mid_va]
    walk_at "fn"
    unfold b_law_mirrored
    walk_at "go"
    refine ite_f ?_
    walk_at "go"
    refine (sp_mirrored hi f S (by omega)).mono ?_
    rintro _ S1 ⟨rfl, rfl⟩
    walk_at "go"
    refine (sp_mirrored lo f S1 (by omega)).mono ?_
    rintro _ S2 ⟨rfl, rfl⟩
    walk_at "go"
    exact ⟨rfl, rfl⟩
theorem sp_turned : ∀ (T : Mid) (f : Nat) (S : Sto), T.ht < f → Wp (m_law_turned_about f [T.va] S) (fun v S' => v = (mapT yk T).va ∧ S' = S)
  | _, 0, _, h => absurd h (Nat.not_lt_zero _)
  | .nil, f + 1, S, h => by
    walk_at "fn"
    unfold b_law_turned_about
    walk_at "go"
    refine ite_t ?_
    walk_at "go"
    exact ⟨rfl, rfl⟩
  | .node p lo hi, f + 1, S, h => by
    simp only [Mid.ht] at h
    rw [mid_va]
    walk_at "fn"
    unfold b_law_turned_about
    walk_at "go"
    refine ite_f ?_
    walk_at "go"
    refine w_revT ?_
    walk_at "go"
    refine (sp_turned lo f S (by omega)).mono ?_
    rintro _ S1 ⟨rfl, rfl⟩
    walk_at "go"
    refine (sp_turned hi f S1 (by omega)).mono ?_
    rintro _ S2 ⟨rfl, rfl⟩
    walk_at "go"
    exact ⟨rfl, rfl⟩
theorem pop_perm {ps : Pts} {k : Nat} {p : Int × Int} (h : ps[k]? = some p) : (p :: ps.eraseIdx k).Perm ps := by
  obtain ⟨hlt, e⟩ := List.getElem?_eq_some_iff.mp h
  subst e
  rw [List.eraseIdx_eq_take_drop_succ]
  refine List.perm_middle.symm.trans (List.Perm.of_eq ?_)
  rw [← List.drop_eq_getElem_cons hlt, List.take_append_drop]
theorem Mv.setF {n i : Nat} {S S' : Sto} (m : Mv n S S') (hn : n < S.length) (hi : S.length ≤ i) (o : Ob) : Mv n S (S'.set i o) :=
  ⟨by obtain ⟨a, b, c, h⟩ := m.src; exact ⟨a, b, c, get_ne (by omega) h⟩, by
    obtain ⟨h1, h2⟩ := m.kp
    exact ⟨by simpa using h1, fun j p hj h => get_ne (fun z => by have := lt_get h; omega) (h2 j p hj h)⟩⟩
theorem sp_shuffled {S : Sto} {n j : Nat} {ps : Pts} (hs : Src S n) (hj : S[j]? = some (.lst (ps.map ptV))) (hl : ps.length ≤ 60) : Wp (m_law_shuffled [.ref n, .ref j] S) (fun v S' => ∃ (r : Nat) (qs : Pts), v = .ref r ∧ S'[r]? = some (.lst (qs.map ptV)) ∧ qs.Perm ps ∧ r ≠ n ∧ Mv n S S') := by
  have hnS := hs.lt
  have hml : (ps.map ptV).length = ps.length := List.length_map ..
  walk_at "fn"
  unfold b_law_shuffled
  refine ws_seq (ws_par ?_)
  walk_at "go"
  refine wo_listS (xs := ps.map ptV) (seq_ref hj) (by rw [hml]; show _ ≤ 2 ^ 24; omega) ?_
  walk_at "go"
  have m1 : Mv n S (S ++ [Ob.lst (ps.map ptV)] ++ [Ob.lst []]) := ((Mv.refl hs).gr (Gr.app _ _)).gr (Gr.app _ _)
  have h0 : (S ++ [Ob.lst (ps.map ptV)] ++ [Ob.lst []])[S.length]? = some (.lst (ps.map ptV)) := get_app get_last
  have h1 : (S ++ [Ob.lst (ps.map ptV)] ++ [Ob.lst []])[S.length + 1]? = some (.lst []) := by
    have := get_last (S := S ++ [Ob.lst (ps.map ptV)]) (o := Ob.lst [])
    rwa [show (S ++ [Ob.lst (ps.map ptV)]).length = S.length + 1 by simp] at this
  have hj1 : (S ++ [Ob.lst (ps.map ptV)] ++ [Ob.lst []])[j]? = some (.lst (ps.map ptV)) := get_app (get_app hj)
  rw [show (S ++ [Ob.lst (ps.map ptV)]).length = S.length + 1 by simp]
  generalize S ++ [Ob.lst (ps.map ptV)] ++ [Ob.lst []] = S1 at m1 h0 h1 hj1 ⊢
  refine ws_forR (ps.length : Int) (by omega) (fun i Γ S' => ∃ (left found : Pts) (z4 : Option Va), Γ = [some (.ref n), some (.ref j), some (.ref S.length), some (.ref (S.length + 1)), z4] ∧ Mv n S S' ∧ S'[S.length]? = some (.lst (left.map ptV)) ∧ S'[S.length + 1]? = some (.lst (found.map ptV)) ∧ (left ++ found).Perm ps ∧ found.length = i) ?_ ?_ ?_
  · walk_at "go"
    exact ⟨by rw [hml], ps, [], _, rfl, m1, h0, h1, by simp, rfl⟩
  · rintro i Γ S2 hi ⟨left, found, z4, rfl, m2, a0, a1, pm, hf⟩
    rw [Int.toNat_natCast] at hi
    have hll := pm.length_eq
    rw [List.length_append] at hll
    have hml2 : (left.map ptV).length = left.length := List.length_map ..
    walk_at "go"
    refine w_app ?_
    walk_at "go"
    refine ⟨_, _, rfl, a1, ?_⟩
    walk_at "go"
    refine w_popAt ?_
    walk_at "go"
    refine ⟨_, _, rfl, a0, ?_⟩
    walk_at "go"
    rw [hml2]
    refine (sp_takeM m2 ⟨by omega, by omega⟩).mono ?_
    rintro _ S3 ⟨t, rfl, t0, t1, m3, m3'⟩
    have b0 := m3'.get (by omega) a0
    have b1 := m3'.get (by omega) a1
    have htl : t.toNat < left.length := by omega
    have hp : left[t.toNat]? = some left[t.toNat] := List.getElem?_eq_getElem htl
    generalize left[t.toNat] = p at hp
    have pe := pop_perm hp
    walk_at "go"
    refine ⟨t.toNat, left.map ptV, ptV p, by rw [Int.toNat_of_nonneg t0], b0, by rw [List.getElem?_map, hp]; rfl, by rw [hml2]; omega, ?_⟩
    have ee : (left.map ptV).eraseIdx t.toNat = (left.eraseIdx t.toNat).map ptV := by rw [List.eraseIdx_eq_take_drop_succ, List.eraseIdx_eq_take_drop_succ, List.map_append, List.map_take, List.map_drop]
    rw [ee]
    walk_at "go"
    refine ⟨_, _, rfl, get_ne (by omega) b1, by rw [List.length_map]; show _ < 2 ^ 24; omega, ?_⟩
    refine ⟨left.eraseIdx t.toNat, found ++ [p], _, rfl, (m3.setF hnS (Nat.le_refl _) _).setF hnS (by omega) _, get_ne (by omega) (get_set b0), by rw [get_set (get_ne (by omega) b1), List.map_append]; rfl, ?_, by simp [hf]⟩
    refine List.Perm.trans ?_ pm
    have e2 : (left.eraseIdx t.toNat ++ (found ++ [p])).Perm (p :: left.eraseIdx t.toNat ++ found) := by
      rw [← List.append_assoc]
      exact List.perm_append_comm (l₁ := left.eraseIdx t.toNat ++ found) (l₂ := [p])
    exact e2.trans (pe.append_right found)
  · rintro Γ S2 ⟨left, found, z4, rfl, m2, a0, a1, pm, hf⟩
    rw [Int.toNat_natCast] at hf
    have hll := pm.length_eq
    rw [List.length_append] at hll
    have hl0 : left = [] := List.length_eq_zero_iff.mp (by omega)
    subst hl0
    walk_at "go"
    exact ⟨_, found, rfl, a1, pm, by omega, m2⟩
end PM

namespace PM
open PySem PySem.Spec PyProof.Rows L2 Q2
local macro_rules | `(tactic| walk_at "fn") => `(tactic| (first | refine w_fn1 ?_ | refine w_fn2 ?_ | refine w_fn3 ?_ | refine w_fn4 ?_ | refine w_fn5 ?_ | refine w_fn6 ?_); dsimp only [List.replicate])
local macro_rules | `(tactic| walk_at "kb") => `(tactic| with_reducible first | exact kb_int_int | exact kb_int_bool | exact kb_int_str | exact kb_int_list | exact kb_int_tuple | exact kb_bool_int | exact kb_bool_bool | exact kb_bool_str | exact kb_bool_list | exact kb_bool_tuple | exact kb_str_int | exact kb_str_bool | exact kb_str_str | exact kb_str_list | exact kb_str_tuple | exact kb_list_int | exact kb_list_bool | exact kb_list_str | exact kb_list_list | exact kb_list_tuple | exact kb_tuple_int | exact kb_tuple_bool | exact kb_tuple_str | exact kb_tuple_list | exact kb_tuple_tuple | exact kb_NoneType_int | exact kb_NoneType_bool | exact kb_NoneType_str | exact kb_NoneType_list | exact kb_NoneType_tuple)
local macro_rules | `(tactic| walk_at "go1") => `(tactic| first
  | ((with_reducible refine w_var (v := ?v) ?h ?_); case h => exact rfl)
  | with_reducible first
  | refine w_c ?_ | refine w_m2 ?_ | refine w_m1 ?_ | refine w_maC ?_ | refine w_maN ?_ | refine w_mL ?_ | refine w_call ?_
  | refine w_mtOf ?_ | refine w_mtNot ?_ | refine w_mtAnd ?_ | refine w_mtOr ?_ | refine w_meAnd ?_ | refine w_meOr ?_ | refine w_mNot ?_
  | refine ws_seq ?_ | (refine ws_set ?_) | refine ws_ret ?_ | refine ws_if ?_ | refine ws_expr ?_ | refine ws_nil ?_ | refine ws_asg ?_
  | refine wo_int ?_ | refine wo_add ?_ | refine wo_addI ?_ | refine wo_sub ?_ | refine wo_lt ?_ | refine wo_le ?_ | refine wo_gt ?_ | refine wo_ge ?_
  | refine wo_max2 ?_ | refine wo_min2 ?_ | refine wo_abs ?_ | refine wo_neg ?_ | refine wo_eqI ?_ | refine wo_neI ?_ | refine wo_intB ?_ | refine wo_ixT rfl ?_ | refine ws_brk ?_ | refine ws_cnt ?_ | refine w_if ?_ | refine ws_par ?_ | refine ws_par3 ?_ | (refine ⟨_, _, rfl, ?_⟩) | (refine ⟨_, _, _, rfl, ?_⟩) | refine w_isN ?_ | refine w_notN ?_ | refine ite_t ?_ | refine ite_f ?_ | refine ite_nt ?_ | refine ite_nf ?_ | refine w_chain ?_ | refine w_isiT ?_ | refine wg_sub ?_ | (refine ⟨_, rfl, ?_⟩) | refine wg_v ?_ | refine wg_c ?_ | refine wg_n ?_ | refine w_sl ?_ | refine w_optS ?_ | refine w_optN ?_ | refine wo_sl31 ?_)
local macro_rules | `(tactic| walk_at "go2") => `(tactic| first
  | walk_at "go1"
  | ((with_reducible refine wo_mod ?h ?_); case h => omega) | ((with_reducible refine wo_div ?h ?_); case h => omega) | ((with_reducible refine wo_mul_l ?h ?_); case h => omega) | ((with_reducible refine wo_mul_r ?h ?_); case h => omega)
  | ((with_reducible refine wo_shr ?h ?_); case h => omega) | ((with_reducible refine wo_shl ?h ?_); case h => omega) | ((with_reducible refine wo_pow ?h ?_); case h => omega)
  | ((with_reducible refine ite_d ?a ?b); (case b => exact fun h => absurd (by omega) h); intro _)
  | ((with_reducible refine ite_d ?a ?b); (case a => exact fun h => absurd h (by omega)); intro _)
  | ((with_reducible refine ite_d ?a ?b) <;> intro _)
  | ((with_reducible refine ⟨_, _, ?xs, ?j, rfl, rfl, ?h, ?e, ?_⟩); (case h => assumption); (case e => exact rfl))
  | ((with_reducible refine ite_nd ?a ?b); (case b => exact fun h => absurd h (by omega)); intro _)
  | ((with_reducible refine ite_nd ?a ?b); (case a => exact fun h => absurd (by omega) h); intro _)
  | ((with_reducible refine ite_nd ?a ?b) <;> intro _)
  | ((with_reducible refine wg_t ?h ?_); case h => exact rfl)
  | ((with_reducible refine wo_addL (xs := ?xs) (ys := ?ys) (lst_ref ?h1) (lst_ref ?h2) ?h3 ?_); (case h1 => first | assumption | exact get_app (by assumption)); (case h2 => first | assumption | exact get_app (by assumption)); (case h3 => (show _ ≤ 2 ^ 24; simp only [List.length_append, List.length_cons, List.length_nil, List.length_map]; omega)))
  | ((with_reducible refine wo_isi (k := ?k) (b := ?b) ?h1 ?h2 ?_); (case h1 => first | exact rfl | exact kind_ref (by assumption)); (case h2 => walk_at "kb"))
  | ((with_reducible refine wo_len (xs := ?xs) ?h ?_); (case h => first | exact rfl | exact seq_ref (by assumption)))
  | ((with_reducible refine wo_ixL (xs := ?xs) (x := ?x) ?h1 ?h2 ?_); (case h1 => exact lst_ref (by assumption)); (case h2 => exact rfl))
  | ((with_reducible refine wo_tup ?h ?_); case h => (simp only [List.length_cons, List.length_nil]; decide)) | ((with_reducible refine wo_lst ?h ?_); case h => (simp only [List.length_cons, List.length_nil]; decide)))
local macro_rules | `(tactic| walk_at "go") => `(tactic| (repeat' walk_at "go2") <;> try dsimp only [List.set_cons_zero, List.set_cons_succ])

theorem intsOf_mapV : ∀ xs : List Int, intsOf (xs.map Va.int) = some xs
  | [] => rfl
  | x :: r => by
    show (intsOf (r.map Va.int)).map (x :: ·) = _
    rw [intsOf_mapV r]
    rfl
theorem wo_maxL {S : Sto} {Q : Va → Sto → Prop} {k : Nat} {ns : List Int} (h : S[k]? = some (.lst (ns.map Va.int))) (hn : ns ≠ []) (q : Q (.int (maxL ns)) S) : Wo (fMax [.ref k] S) Q := by
  have e : fMax [.ref k] S = some (.int (maxL ns), S) := by
    show (match (lstOf S (.ref k)).bind intsOf with
      | some (n :: ns) => some (Va.int (maxL (n :: ns)), S)
      | _ => none) = _
    rw [lst_ref h, Option.bind_some, intsOf_mapV]
    cases ns with
    | nil => exact absurd rfl hn
    | cons n ns => rfl
  rw [e]
  exact q
def absI (i : Int) : Int := if i < 0 then -i else i
def dvP (k : Int) (p : Int × Int) : Int × Int := (p.1 / k, p.2 / k)
section
variable {z0 z1 z2 z3 z4 z5 z6 z7 z8 z9 z10 z11 z12 z13 z14 z15 z16 : Option Va} {S : Sto} {j : Nat} {ps : Pts}
theorem st_less (hj : S[j]? = some (.lst (ps.map ptV))) (hl : ps.length ≤ 60) (hb : ∀ p ∈ ps, PtB p) : Wp (mIf (mtOf (m2 gtI (mL fMax (maC (m2 fAdd (mL fLst (maC (mC (.int 0)) maN)) (mLc (mWalk (mV 3)) (gT 2 (gsC (gV 5) (gsC (gV 6) gsN))) mtYes (m2 fAdd (mL fAbs (maC (mV 5) maN)) (mL fAbs (maC (mV 6) maN))) [5, 6])) maN)) (m2 powI (mC (.int 10)) (mC (.int 17))))) (m2 powI (mC (.int 10)) (mC (.int 13))) (mC (.int 1)) [z0, z1, z2, some (.ref j), z4, z5, z6, z7, z8, z9, z10, z11, z12, z13, z14, z15, z16] S) (fun v S' => ∃ k : Int, v = .int k ∧ (0 < k ∧ k ≤ 10000000000000) ∧ (∀ p ∈ ps, B17 (dvP k p)) ∧ Lo S S') := by
  have hF : Far = 1000000000000000000000000000000 := rfl
  walk_at "go"
  have g1 : (S ++ [Ob.lst [.int 0]])[S.length]? = some (.lst [.int 0]) := get_last
  have hj1 : (S ++ [Ob.lst [.int 0]])[j]? = some (.lst (ps.map ptV)) := get_app hj
  have l1 : Lo S (S ++ [Ob.lst [.int 0]]) := Lo.app _ _
  generalize S.length = r at g1 ⊢
  generalize S ++ [Ob.lst [.int 0]] = S1 at g1 hj1 l1 ⊢
  refine w_lcW (.ref j) (ps.map ptV) (fun i acc S' => S' = S1 ∧ acc = ((ps.take i).map fun p => absI p.1 + absI p.2).map Va.int) (by rw [List.length_map]; show _ < 2 ^ 24; omega) ?_ (fun i acc S' h => .ref (by rw [h.1]; exact hj1)) ?_ ?_
  · walk_at "go"
    exact ⟨rfl, rfl, rfl⟩
  · rintro i x acc S2 hx ⟨rfl, rfl⟩
    obtain ⟨p, hp, rfl⟩ := map_at hx
    walk_at "go"
    refine w_yesE ?_
    walk_at "go"
    refine ⟨rfl, ?_⟩
    rw [take_at hp, List.map_append, List.map_append]
    rfl
  · rintro acc S2 ⟨rfl, rfl⟩
    rw [List.length_map, List.take_length]
    refine wo_addL (lst_ref (get_app g1)) (lst_ref get_last) (by show _ ≤ 2 ^ 24; simp; omega) ?_
    walk_at "go"
    refine wo_maxL (ns := 0 :: ps.map fun p => absI p.1 + absI p.2) (by rw [get_last]; simp) (by simp) ?_
    walk_at "go"
    have e17 : (10 : Int) ^ (17 : Int).toNat = 100000000000000000 := by decide
    have e13 : (10 : Int) ^ (13 : Int).toNat = 10000000000000 := by decide
    · next hm =>
      rw [e13]
      refine ⟨⟨by decide, by decide⟩, fun p hp => ?_, (l1.trans (Lo.app _ _)).trans (Lo.app _ _)⟩
      obtain ⟨⟨h1, h2⟩, h3, h4⟩ := hb p hp
      rw [hF] at h1 h2 h3 h4
      unfold B17 dvP
      dsimp only
      omega
    · next hm =>
      have e17 : (10 : Int) ^ (17 : Int).toNat = 100000000000000000 := by decide
      rw [e17] at hm
      refine ⟨⟨by decide, by decide⟩, fun p hp => ?_, (l1.trans (Lo.app _ _)).trans (Lo.app _ _)⟩
      have h1 : absI p.1 + absI p.2 ≤ maxL (0 :: ps.map fun p => absI p.1 + absI p.2) := maxL_ge (List.mem_cons_of_mem _ (List.mem_map.mpr ⟨p, hp, rfl⟩))
      have h2 : absI p.1 + absI p.2 ≤ 100000000000000000 := by omega
      unfold absI at h2
      unfold B17 dvP
      dsimp only
      split at h2 <;> split at h2 <;> omega
theorem st_div {k : Int} (hk : 0 < k ∧ k ≤ 10000000000000) (hj : S[j]? = some (.lst (ps.map ptV))) (hl : ps.length ≤ 60) : Wp (mLc (mWalk (mV 3)) (gT 2 (gsC (gV 5) (gsC (gV 6) gsN))) mtYes (mL fTup (maC (m2 divI (mV 5) (mV 4)) (maC (m2 divI (mV 6) (mV 4)) maN))) [5, 6] [z0, z1, z2, some (.ref j), some (.int k), z5, z6, z7, z8, z9, z10, z11, z12, z13, z14, z15, z16] S) (fun v S' => ∃ r, v = .ref r ∧ S'[r]? = some (.lst ((ps.map (dvP k)).map ptV)) ∧ r = S.length ∧ Lo S S') := by
  refine w_lcW (.ref j) (ps.map ptV) (fun i acc S' => S' = S ∧ acc = ((ps.take i).map (dvP k)).map ptV) (by rw [List.length_map]; show _ < 2 ^ 24; omega) ?_ (fun i acc S' h => .ref (by rw [h.1]; exact hj)) ?_ ?_
  · walk_at "go"
    exact ⟨rfl, rfl, rfl⟩
  · rintro i x acc S2 hx ⟨rfl, rfl⟩
    obtain ⟨p, hp, rfl⟩ := map_at hx
    walk_at "go"
    refine w_yesE ?_
    walk_at "go"
    refine ⟨rfl, ?_⟩
    rw [take_at hp, List.map_append, List.map_append]
    rfl
  · rintro acc S2 ⟨rfl, rfl⟩
    rw [List.length_map, List.take_length]
    exact ⟨_, rfl, get_last, rfl, Lo.app _ _⟩
theorem st_once (hj : S[j]? = some (.lst (ps.map ptV))) (hl : ps.length ≤ 60) : Wp (mLc (mEnum (maC (mV 3) maN)) (gT 2 (gsC (gV 7) (gsC (gV 8) gsN))) (mtOf (m2 (inD true) (mV 8) (mSl fSl (mV 3) none (some (mV 7))))) (mV 8) [7, 8] [z0, z1, z2, some (.ref j), z4, z5, z6, z7, z8, z9, z10, z11, z12, z13, z14, z15, z16] S) (fun v S' => ∃ (r : Nat) (l : Pts), v = .ref r ∧ S'[r]? = some (.lst (l.map ptV)) ∧ l.Nodup ∧ (∀ p ∈ l, p ∈ ps) ∧ l.length ≤ 60 ∧ S.length ≤ r ∧ Lo S S') := by
  refine w_lcE (.ref j) (ps.map ptV) (fun i acc S' => Lo S S' ∧ ∃ l : Pts, acc = l.map ptV ∧ l.Nodup ∧ (∀ p ∈ l, p ∈ ps.take i) ∧ l.length ≤ i) (by rw [List.length_map]; show _ < 2 ^ 24; omega) ?_ (fun i acc S' h => .ref (h.1.get hj)) ?_ ?_
  · walk_at "go"
    exact ⟨rfl, Lo.refl _, [], rfl, List.nodup_nil, by simp, by simp⟩
  · rintro i x acc S2 hx ⟨l2, l, rfl, nd, hm, hn⟩
    obtain ⟨p, hp, rfl⟩ := map_at hx
    have hj2 := l2.get hj
    walk_at "go"
    refine wo_slTo (lst_ref hj2) (by omega) (by rw [List.length_map]; omega) ?_
    have et : ((ps.map ptV).take ((i : Int)).toNat) = (ps.take i).map ptV := by
      rw [List.map_take, Int.toNat_natCast]
    rw [et]
    walk_at "go"
    refine wo_notInD (a := p) (l := ps.take i) ptE ptR (ptsR get_last) (by decide) (by decide) ?_
    have l3 : Lo S (S2 ++ [Ob.lst ((ps.take i).map ptV)]) := l2.trans (Lo.app _ _)
    have ht := take_at hp
    by_cases hin : p ∈ ps.take i
    · refine ⟨_, rfl, ?_⟩
      rw [dec_f (fun h : p ∉ ps.take i => h hin)]
      exact ⟨l3, l, rfl, nd, fun q hq => by rw [ht]; exact List.mem_append.mpr (.inl (hm q hq)), by omega⟩
    · refine ⟨_, rfl, ?_⟩
      rw [dec_t hin]
      walk_at "go"
      refine ⟨l3, l ++ [p], by rw [List.map_append]; rfl, List.nodup_append.mpr ⟨nd, by simp, fun a ha b hb z => hin (by rw [← List.mem_singleton.mp hb, ← z]; exact hm a ha)⟩, fun q hq => ?_, by simp; omega⟩
      rw [ht]
      rcases List.mem_append.mp hq with z | z
      · exact List.mem_append.mpr (.inl (hm q z))
      · exact List.mem_append.mpr (.inr z)
  · rintro acc S2 ⟨l2, l, rfl, nd, hm, hn⟩
    rw [List.length_map] at hm hn
    exact ⟨_, l, rfl, get_last, nd, fun p hp => List.mem_of_mem_take (hm p hp), by omega, l2.1, l2.trans (Lo.app _ _)⟩
def fitL (ks : List Nat) (n : Nat) : List Nat := ks.filter fun k => decide (k ≤ n)
theorem st_fit {ks : List Nat} {m : ME} (hk : ks.length ≤ 60) (hj : S[j]? = some (.lst (ps.map ptV))) (hm : ∀ Γ S, Wp (m Γ S) fun v S' => v = .tup (ks.map nv) ∧ S' = S) : Wp (mLc (mWalk m) (gV 7) (mtOf (m2 leI (mV 7) (mL fLen (maC (mV 3) maN)))) (mV 7) [7] [z0, z1, z2, some (.ref j), z4, z5, z6, z7, z8, z9, z10, z11, z12, z13, z14, z15, z16] S) (fun v S' => v = .ref S.length ∧ S' = S ++ [.lst ((fitL ks ps.length).map nv)]) := by
  refine w_lcW (.tup (ks.map nv)) (ks.map nv) (fun i acc S' => S' = S ∧ acc = (fitL (ks.take i) ps.length).map nv) (by rw [List.length_map]; show _ < 2 ^ 24; omega) ?_ (fun i acc S' h => .inr (.inl rfl)) ?_ ?_
  · refine (hm _ _).mono ?_
    rintro v S' ⟨rfl, rfl⟩
    exact ⟨rfl, rfl, rfl⟩
  · rintro i x acc S2 hx ⟨rfl, rfl⟩
    obtain ⟨k, hp, rfl⟩ := map_at hx
    have hml : (ps.map ptV).length = ps.length := List.length_map ..
    have ht : fitL (ks.take (i + 1)) ps.length = fitL (ks.take i) ps.length ++ (if k ≤ ps.length then [k] else []) := by
      unfold fitL
      rw [take_at hp, List.filter_append]
      by_cases h : k ≤ ps.length
      · rw [if_pos h]; simp [h]
      · rw [if_neg h]; simp [h]
    walk_at "go"
    · next h =>
      refine ⟨rfl, ?_⟩
      rw [ht, if_pos (by omega), List.map_append]
      rfl
    · next h =>
      refine ⟨rfl, ?_⟩
      rw [ht, if_neg (by omega), List.append_nil]
  · rintro acc S2 ⟨rfl, rfl⟩
    rw [List.length_map, List.take_length]
    exact ⟨rfl, rfl⟩
end
theorem last_fit (n : Nat) (h : n < 64) : ∃ k d, fitL [0, 1, 3, 7, 15, 31] n ≠ [] ∧ (fitL [0, 1, 3, 7, 15, 31] n)[(fitL [0, 1, 3, 7, 15, 31] n).length - 1]? = some k ∧ k ≤ n ∧ k ≤ 31 ∧ k + 1 = 2 ^ d := by
  have : ∀ n : Fin 64, ∃ d : Fin 6, (fitL [0, 1, 3, 7, 15, 31] n.val)[(fitL [0, 1, 3, 7, 15, 31] n.val).length - 1]? = some (2 ^ d.val - 1) ∧ 2 ^ d.val - 1 ≤ n.val := by decide +kernel
  obtain ⟨d, h1, h2⟩ := this ⟨n, h⟩
  have hp : 0 < 2 ^ d.val := Nat.pow_pos (by decide)
  have hd : 2 ^ d.val ≤ 2 ^ 5 := Nat.pow_le_pow_right (by decide) (by omega)
  refine ⟨2 ^ d.val - 1, d.val, ?_, h1, h2, by omega, by omega⟩
  intro z
  dsimp only at h1
  rw [z] at h1
  cases h1
theorem mv_lt {a b g : Int} (hg : 0 < g) (ax : Bool) (p q : Int × Int) : ltK (keyA ax (mvP a b g p)) (keyA ax (mvP a b g q)) = ltK (keyA ax p) (keyA ax q) := by
  have lt : ∀ c x y : Int, (c + g * x < c + g * y ↔ x < y) := fun c x y => by
    constructor
    · intro h
      exact Int.lt_of_mul_lt_mul_left (by omega) (Int.le_of_lt hg)
    · intro h
      have := Int.mul_lt_mul_of_pos_left h hg
      omega
  have eq : ∀ c x y : Int, (c + g * x = c + g * y ↔ x = y) := fun c x y => by
    constructor
    · intro h
      have h1 : g * x = g * y := by omega
      exact Int.eq_of_mul_eq_mul_left (by omega) h1
    · rintro rfl; rfl
  unfold ltK keyA mvP yk
  cases ax <;> (simp only [Bool.false_eq_true, if_false, if_true, lt, eq])
theorem mv_inj {a b g : Int} (hg : 0 < g) {p q : Int × Int} (h : mvP a b g p = mvP a b g q) : p = q := by
  unfold mvP at h
  have h1 := congrArg Prod.fst h
  have h2 := congrArg Prod.snd h
  simp only at h1 h2
  exact Prod.ext (Int.eq_of_mul_eq_mul_left (a := g) (by omega) (by omega)) (Int.eq_of_mul_eq_mul_left (a := g) (by omega) (by omega))
theorem mv_pt {a b g : Int} (ha : 0 ≤ a ∧ a < 1000000000) (hb : -1000000000 < b ∧ b ≤ 0) (hg : 0 < g ∧ g ≤ 1000000) {p : Int × Int} (h : B17 p) : PtB (mvP a b g p) := by
  have hF : Far = 1000000000000000000000000000000 := rfl
  obtain ⟨⟨h1, h2⟩, h3, h4⟩ := h
  have key : ∀ x : Int, -100000000000000000 ≤ x → x ≤ 100000000000000000 → -100000000000000000000000 ≤ g * x ∧ g * x ≤ 100000000000000000000000 := by
    intro x hx hy
    have e1 : g * x ≤ g * 100000000000000000 := Int.mul_le_mul_of_nonneg_left hy (by omega)
    have e2 : g * (-100000000000000000) ≤ g * x := Int.mul_le_mul_of_nonneg_left hx (by omega)
    omega
  have k1 := key p.1 h1 h2
  have k2 := key p.2 h3 h4
  unfold mvP
  refine ⟨⟨?_, ?_⟩, ⟨?_, ?_⟩⟩ <;> rw [hF] <;> dsimp only <;> omega
theorem b17_pt {p : Int × Int} (h : B17 p) : PtB p := by
  have hF : Far = 1000000000000000000000000000000 := rfl
  obtain ⟨⟨h1, h2⟩, h3, h4⟩ := h
  refine ⟨⟨?_, ?_⟩, ⟨?_, ?_⟩⟩ <;> rw [hF] <;> omega
theorem neM {S : Sto} {Q : Va → Sto → Prop} {A B : Mid} (hA : A.ht ≤ 30) (h : A = B) (q : Q (.bl false) S) : Wo (fNe A.va B.va S) Q := by
  letI : DecidableEq Mid := fun _ _ => Classical.propDecidable _
  subst h
  refine wo_neD (m := 31) (n := 31) mE (mR A 31 (by omega)) (mR A 31 (by omega)) (by decide) (by decide) ?_
  rw [decide_eq_false (fun z => z rfl)]
  exact q
end PM

namespace PM
open PySem PySem.Spec PyProof.Rows L2 Q2
local macro_rules | `(tactic| walk_at "fn") => `(tactic| (first | refine w_fn1 ?_ | refine w_fn2 ?_ | refine w_fn3 ?_ | refine w_fn4 ?_ | refine w_fn5 ?_ | refine w_fn6 ?_); dsimp only [List.replicate])
local macro_rules | `(tactic| walk_at "kb") => `(tactic| with_reducible first | exact kb_int_int | exact kb_int_bool | exact kb_int_str | exact kb_int_list | exact kb_int_tuple | exact kb_bool_int | exact kb_bool_bool | exact kb_bool_str | exact kb_bool_list | exact kb_bool_tuple | exact kb_str_int | exact kb_str_bool | exact kb_str_str | exact kb_str_list | exact kb_str_tuple | exact kb_list_int | exact kb_list_bool | exact kb_list_str | exact kb_list_list | exact kb_list_tuple | exact kb_tuple_int | exact kb_tuple_bool | exact kb_tuple_str | exact kb_tuple_list | exact kb_tuple_tuple | exact kb_NoneType_int | exact kb_NoneType_bool | exact kb_NoneType_str | exact kb_NoneType_list | exact kb_NoneType_tuple)
local macro_rules | `(tactic| walk_at "go1") => `(tactic| first
  | ((with_reducible refine w_var (v := ?v) ?h ?_); case h => exact rfl)
  | with_reducible first
  | refine w_c ?_ | refine w_m2 ?_ | refine w_m1 ?_ | refine w_maC ?_ | refine w_maN ?_ | refine w_mL ?_ | refine w_call ?_
  | refine w_mtOf ?_ | refine w_mtNot ?_ | refine w_mtAnd ?_ | refine w_mtOr ?_ | refine w_meAnd ?_ | refine w_meOr ?_ | refine w_mNot ?_
  | refine ws_seq ?_ | (refine ws_set ?_) | refine ws_ret ?_ | refine ws_if ?_ | refine ws_expr ?_ | refine ws_nil ?_ | refine ws_asg ?_
  | refine wo_int ?_ | refine wo_add ?_ | refine wo_addI ?_ | refine wo_sub ?_ | refine wo_lt ?_ | refine wo_le ?_ | refine wo_gt ?_ | refine wo_ge ?_
  | refine wo_max2 ?_ | refine wo_min2 ?_ | refine wo_abs ?_ | refine wo_neg ?_ | refine wo_eqI ?_ | refine wo_neI ?_ | refine wo_intB ?_ | refine wo_ixT rfl ?_ | refine ws_brk ?_ | refine ws_cnt ?_ | refine w_if ?_ | refine ws_par ?_ | refine ws_par3 ?_ | (refine ⟨_, _, rfl, ?_⟩) | (refine ⟨_, _, _, rfl, ?_⟩) | refine w_isN ?_ | refine w_notN ?_ | refine ite_t ?_ | refine ite_f ?_ | refine ite_nt ?_ | refine ite_nf ?_ | refine w_chain ?_ | refine w_isiT ?_ | refine wg_sub ?_ | (refine ⟨_, rfl, ?_⟩) | refine wg_v ?_ | refine wg_c ?_ | refine wg_n ?_ | refine w_sl ?_ | refine w_optS ?_ | refine w_optN ?_ | refine wo_sl31 ?_)
local macro_rules | `(tactic| walk_at "go2") => `(tactic| first
  | walk_at "go1"
  | ((with_reducible refine wo_mod ?h ?_); case h => omega) | ((with_reducible refine wo_div ?h ?_); case h => omega) | ((with_reducible refine wo_mul_l ?h ?_); case h => omega) | ((with_reducible refine wo_mul_r ?h ?_); case h => omega)
  | ((with_reducible refine wo_shr ?h ?_); case h => omega) | ((with_reducible refine wo_shl ?h ?_); case h => omega) | ((with_reducible refine wo_pow ?h ?_); case h => omega)
  | ((with_reducible refine ite_d ?a ?b); (case b => exact fun h => absurd (by omega) h); intro _)
  | ((with_reducible refine ite_d ?a ?b); (case a => exact fun h => absurd h (by omega)); intro _)
  | ((with_reducible refine ite_d ?a ?b) <;> intro _)
  | ((with_reducible refine ⟨_, _, ?xs, ?j, rfl, rfl, ?h, ?e, ?_⟩); (case h => assumption); (case e => exact rfl))
  | ((with_reducible refine ite_nd ?a ?b); (case b => exact fun h => absurd h (by omega)); intro _)
  | ((with_reducible refine ite_nd ?a ?b); (case a => exact fun h => absurd (by omega) h); intro _)
  | ((with_reducible refine ite_nd ?a ?b) <;> intro _)
  | ((with_reducible refine wg_t ?h ?_); case h => exact rfl)
  | ((with_reducible refine wo_addL (xs := ?xs) (ys := ?ys) (lst_ref ?h1) (lst_ref ?h2) ?h3 ?_); (case h1 => first | assumption | exact get_app (by assumption)); (case h2 => first | assumption | exact get_app (by assumption)); (case h3 => (show _ ≤ 2 ^ 24; simp only [List.length_append, List.length_cons, List.length_nil, List.length_map]; omega)))
  | ((with_reducible refine wo_isi (k := ?k) (b := ?b) ?h1 ?h2 ?_); (case h1 => first | exact rfl | exact kind_ref (by assumption)); (case h2 => walk_at "kb"))
  | ((with_reducible refine wo_len (xs := ?xs) ?h ?_); (case h => first | exact rfl | exact seq_ref (by assumption)))
  | ((with_reducible refine wo_ixL (xs := ?xs) (x := ?x) ?h1 ?h2 ?_); (case h1 => exact lst_ref (by assumption)); (case h2 => exact rfl))
  | ((with_reducible refine wo_tup ?h ?_); case h => (simp only [List.length_cons, List.length_nil]; decide)) | ((with_reducible refine wo_lst ?h ?_); case h => (simp only [List.length_cons, List.length_nil]; decide)))
local macro_rules | `(tactic| walk_at "go") => `(tactic| (repeat' walk_at "go2") <;> try dsimp only [List.set_cons_zero, List.set_cons_succ])

theorem at_last {xs : List Va} {x : Va} (h : xs[xs.length - 1]? = some x) : L2.atI xs (-1) = some x := by
  have hl : 0 < xs.length := by have := (List.getElem?_eq_some_iff.mp h).1; omega
  unfold L2.atI L2.ixN
  rw [if_neg (by decide), if_pos (by omega)]
  rw [show (-1 + (xs.length : Int)).toNat = xs.length - 1 by omega]
  exact h
theorem Src.lo {n : Nat} {S S' : Sto} (h : Src S n) (l : Lo S S') : Src S' n := by
  obtain ⟨a, b, c, h⟩ := h
  exact ⟨a, b, c, l.get h⟩
section
variable {z0 z1 z2 z3 z4 z5 z6 z7 z8 z9 z10 z11 z12 z13 z14 z15 z16 : Option Va} {S : Sto} {j : Nat} {ps : Pts}
theorem st_mv {a b g : Int} (hg : 0 < g ∧ g ≤ 1000000) (hb : ∀ p ∈ ps, B17 p) (hj : S[j]? = some (.lst (ps.map ptV))) (hl : ps.length ≤ 60) : Wp (mLc (mWalk (mV 3)) (gT 2 (gsC (gV 5) (gsC (gV 6) gsN))) mtYes (mL fTup (maC (m2 fAdd (mV 11) (m2 fMul (mV 13) (mV 5))) (maC (m2 fAdd (mV 12) (m2 fMul (mV 13) (mV 6))) maN))) [5, 6] [z0, z1, z2, some (.ref j), z4, z5, z6, z7, z8, z9, z10, some (.int a), some (.int b), some (.int g), z14, z15, z16] S) (fun v S' => ∃ r, v = .ref r ∧ S'[r]? = some (.lst ((ps.map (mvP a b g)).map ptV)) ∧ Lo S S') := by
  refine w_lcW (.ref j) (ps.map ptV) (fun i acc S' => S' = S ∧ acc = ((ps.take i).map (mvP a b g)).map ptV) (by rw [List.length_map]; show _ < 2 ^ 24; omega) ?_ (fun i acc S' h => .ref (by rw [h.1]; exact hj)) ?_ ?_
  · walk_at "go"
    exact ⟨rfl, rfl, rfl⟩
  · rintro i x acc S2 hx ⟨rfl, rfl⟩
    obtain ⟨p, hp, rfl⟩ := map_at hx
    obtain ⟨⟨c1, c2⟩, c3, c4⟩ := hb p (List.mem_of_getElem? hp)
    walk_at "go"
    refine w_yesE ?_
    walk_at "go"
    refine ⟨rfl, ?_⟩
    rw [take_at hp, List.map_append, List.map_append]
    rfl
  · rintro acc S2 ⟨rfl, rfl⟩
    rw [List.length_map, List.take_length]
    exact ⟨_, rfl, get_last, Lo.app _ _⟩
theorem st_neg (hj : S[j]? = some (.lst (ps.map ptV))) (hl : ps.length ≤ 60) : Wp (mLc (mWalk (mV 14)) (gT 2 (gsC (gV 5) (gsC (gV 6) gsN))) mtYes (mL fTup (maC (m1 negI (mV 5)) (maC (m1 negI (mV 6)) maN))) [5, 6] [z0, z1, z2, z3, z4, z5, z6, z7, z8, z9, z10, z11, z12, z13, some (.ref j), z15, z16] S) (fun v S' => ∃ r, v = .ref r ∧ S'[r]? = some (.lst ((ps.map negP).map ptV)) ∧ Lo S S') := by
  refine w_lcW (.ref j) (ps.map ptV) (fun i acc S' => S' = S ∧ acc = ((ps.take i).map negP).map ptV) (by rw [List.length_map]; show _ < 2 ^ 24; omega) ?_ (fun i acc S' h => .ref (by rw [h.1]; exact hj)) ?_ ?_
  · walk_at "go"
    exact ⟨rfl, rfl, rfl⟩
  · rintro i x acc S2 hx ⟨rfl, rfl⟩
    obtain ⟨p, hp, rfl⟩ := map_at hx
    walk_at "go"
    refine w_yesE ?_
    walk_at "go"
    refine ⟨rfl, ?_⟩
    rw [take_at hp, List.map_append, List.map_append]
    rfl
  · rintro acc S2 ⟨rfl, rfl⟩
    rw [List.length_map, List.take_length]
    exact ⟨_, rfl, get_last, Lo.app _ _⟩
theorem st_rev (hj : S[j]? = some (.lst (ps.map ptV))) (hl : ps.length ≤ 60) : Wp (mLc (mWalk (mV 16)) (gV 8) mtYes (mRevT (mV 8)) [8] [z0, z1, z2, z3, z4, z5, z6, z7, z8, z9, z10, z11, z12, z13, z14, z15, some (.ref j)] S) (fun v S' => ∃ r, v = .ref r ∧ S'[r]? = some (.lst ((ps.map yk).map ptV)) ∧ Lo S S') := by
  refine w_lcW (.ref j) (ps.map ptV) (fun i acc S' => S' = S ∧ acc = ((ps.take i).map yk).map ptV) (by rw [List.length_map]; show _ < 2 ^ 24; omega) ?_ (fun i acc S' h => .ref (by rw [h.1]; exact hj)) ?_ ?_
  · walk_at "go"
    exact ⟨rfl, rfl, rfl⟩
  · rintro i x acc S2 hx ⟨rfl, rfl⟩
    obtain ⟨p, hp, rfl⟩ := map_at hx
    walk_at "go"
    refine w_yesE ?_
    rw [if_pos rfl]
    refine w_revT ?_
    walk_at "go"
    refine ⟨rfl, ?_⟩
    rw [take_at hp, List.map_append, List.map_append]
    rfl
  · rintro acc S2 ⟨rfl, rfl⟩
    rw [List.length_map, List.take_length]
    exact ⟨_, rfl, get_last, Lo.app _ _⟩
theorem st_rest {q : Int × Int} {lo hi : Mid} (hj : S[j]? = some (.lst (ps.map ptV))) (hl : ps.length ≤ 60) : Wp (mLc (mWalk (mV 3)) (gV 8) (mtOf (m2 fNe (mV 8) (m2 fIx (mV 10) (mC (.int 0))))) (mV 8) [8] [z0, z1, z2, some (.ref j), z4, z5, z6, z7, z8, z9, some (Mid.node q lo hi).va, z11, z12, z13, z14, z15, z16] S) (fun v S' => ∃ r, v = .ref r ∧ S'[r]? = some (.lst ((ps.filter fun p => decide (p ≠ q)).map ptV)) ∧ Lo S S') := by
  refine w_lcW (.ref j) (ps.map ptV) (fun i acc S' => S' = S ∧ acc = ((ps.take i).filter fun p => decide (p ≠ q)).map ptV) (by rw [List.length_map]; show _ < 2 ^ 24; omega) ?_ (fun i acc S' h => .ref (by rw [h.1]; exact hj)) ?_ ?_
  · walk_at "go"
    exact ⟨rfl, rfl, rfl⟩
  · rintro i x acc S2 hx ⟨rfl, rfl⟩
    obtain ⟨p, hp, rfl⟩ := map_at hx
    rw [mid_va]
    walk_at "go"
    refine wo_neD (a := p) (b := q) ptE ptR ptR (by decide) (by decide) ?_
    refine ⟨_, rfl, ?_⟩
    have ht := take_at hp
    by_cases e : p = q
    · rw [dec_f (fun h : p ≠ q => h e)]
      refine ⟨rfl, ?_⟩
      rw [ht, List.filter_append]
      simp [e]
    · rw [dec_t e]
      walk_at "go"
      refine ⟨rfl, ?_⟩
      rw [ht, List.filter_append]
      simp [e]
  · rintro acc S2 ⟨rfl, rfl⟩
    rw [List.length_map, List.take_length]
    exact ⟨_, rfl, get_last, Lo.app _ _⟩
end
theorem side_eq {U : Mid} {m : Pts} (e : U = midT 5 true m) (hm : m.length < 2 ^ 5) (nd : m.Nodup) : midT 6 false (U.pts.map yk) = mapT yk U := by
  have h1 : midT 6 (!true) (U.pts.map yk) = mapT yk (midT 6 true U.pts) := by
    refine mid_map (π := fun b => !b) (f := yk) (fun b => rfl) (fun ax p q => ?_) 6 true U.pts
    cases ax <;> rfl
  have hp : U.pts.Perm m := by rw [e]; exact mid_pts 5 true m hm
  rw [show (false : Bool) = !true from rfl, h1, mid_same 6 true hp nd, mid_fuel 6 5 true m (Nat.lt_of_lt_of_le hm (by decide)) hm, ← e]
theorem kids_of {l : Pts} {p : Int × Int} {lo hi : Mid} (h : Mid.node p lo hi = midT 6 false l) (nd : l.Nodup) (hl : l.length < 2 ^ 6) : (∃ m, lo = midT 5 true m ∧ m.length < 2 ^ 5 ∧ m.Nodup) ∧ ∃ m, hi = midT 5 true m ∧ m.length < 2 ^ 5 ∧ m.Nodup := by
  unfold midT at h
  by_cases h0 : l.length = 0
  · rw [if_pos h0] at h; cases h
  · rw [if_neg h0] at h
    obtain ⟨a1, a2, a3, a4⟩ := half_len (ax := false) hl h0
    have nds := (sortA_perm false l).nodup_iff.mpr nd
    cases h
    exact ⟨⟨_, rfl, by omega, nds.sublist (List.take_sublist _ _)⟩, ⟨_, rfl, by omega, nds.sublist (List.drop_sublist _ _)⟩⟩
theorem yk_inj {p q : Int × Int} (h : yk p = yk q) : p = q := by
  have h := congrArg yk h
  exact h
theorem yk_pt {p : Int × Int} (h : PtB p) : PtB (yk p) := ⟨h.2, h.1⟩
theorem rest_perm {l tl : Pts} {p : Int × Int} (h : (p :: tl).Perm l) (nd : l.Nodup) : tl.Perm (l.filter fun q => decide (q ≠ p)) := by
  have h1 := h.filter (fun q => decide (q ≠ p))
  have nd2 := h.nodup_iff.mpr nd
  have hp := (List.nodup_cons.mp nd2).1
  have e : (p :: tl).filter (fun q => decide (q ≠ p)) = tl := by
    rw [List.filter_cons]
    simp only [ne_eq, not_true_eq_false, decide_false, Bool.false_eq_true, if_false]
    exact List.filter_eq_self.mpr fun q hq => decide_eq_true fun z => hp (z ▸ hq)
  rw [e] at h1
  exact h1
end PM

namespace PM
open PySem PySem.Spec PyProof.Rows L2 Q2
local macro_rules | `(tactic| walk_at "fn") => `(tactic| (first | refine w_fn1 ?_ | refine w_fn2 ?_ | refine w_fn3 ?_ | refine w_fn4 ?_ | refine w_fn5 ?_ | refine w_fn6 ?_); dsimp only [List.replicate])
local macro_rules | `(tactic| walk_at "kb") => `(tactic| with_reducible first | exact kb_int_int | exact kb_int_bool | exact kb_int_str | exact kb_int_list | exact kb_int_tuple | exact kb_bool_int | exact kb_bool_bool | exact kb_bool_str | exact kb_bool_list | exact kb_bool_tuple | exact kb_str_int | exact kb_str_bool | exact kb_str_str | exact kb_str_list | exact kb_str_tuple | exact kb_list_int | exact kb_list_bool | exact kb_list_str | exact kb_list_list | exact kb_list_tuple | exact kb_tuple_int | exact kb_tuple_bool | exact kb_tuple_str | exact kb_tuple_list | exact kb_tuple_tuple | exact kb_NoneType_int | exact kb_NoneType_bool | exact kb_NoneType_str | exact kb_NoneType_list | exact kb_NoneType_tuple)
local macro_rules | `(tactic| walk_at "go1") => `(tactic| first
  | ((with_reducible refine w_var (v := ?v) ?h ?_); case h => exact rfl)
  | with_reducible first
  | refine w_c ?_ | refine w_m2 ?_ | refine w_m1 ?_ | refine w_maC ?_ | refine w_maN ?_ | refine w_mL ?_ | refine w_call ?_
  | refine w_mtOf ?_ | refine w_mtNot ?_ | refine w_mtAnd ?_ | refine w_mtOr ?_ | refine w_meAnd ?_ | refine w_meOr ?_ | refine w_mNot ?_
  | refine ws_seq ?_ | (refine ws_set ?_) | refine ws_ret ?_ | refine ws_if ?_ | refine ws_expr ?_ | refine ws_nil ?_ | refine ws_asg ?_
  | refine wo_int ?_ | refine wo_add ?_ | refine wo_addI ?_ | refine wo_sub ?_ | refine wo_lt ?_ | refine wo_le ?_ | refine wo_gt ?_ | refine wo_ge ?_
  | refine wo_max2 ?_ | refine wo_min2 ?_ | refine wo_abs ?_ | refine wo_neg ?_ | refine wo_eqI ?_ | refine wo_neI ?_ | refine wo_intB ?_ | refine wo_ixT rfl ?_ | refine ws_brk ?_ | refine ws_cnt ?_ | refine w_if ?_ | refine ws_par ?_ | refine ws_par3 ?_ | (refine ⟨_, _, rfl, ?_⟩) | (refine ⟨_, _, _, rfl, ?_⟩) | refine w_isN ?_ | refine w_notN ?_ | refine ite_t ?_ | refine ite_f ?_ | refine ite_nt ?_ | refine ite_nf ?_ | refine w_chain ?_ | refine w_isiT ?_ | refine wg_sub ?_ | (refine ⟨_, rfl, ?_⟩) | refine wg_v ?_ | refine wg_c ?_ | refine wg_n ?_ | refine w_sl ?_ | refine w_optS ?_ | refine w_optN ?_ | refine wo_sl31 ?_)
local macro_rules | `(tactic| walk_at "go2") => `(tactic| first
  | walk_at "go1"
  | ((with_reducible refine wo_mod ?h ?_); case h => omega) | ((with_reducible refine wo_div ?h ?_); case h => omega) | ((with_reducible refine wo_mul_l ?h ?_); case h => omega) | ((with_reducible refine wo_mul_r ?h ?_); case h => omega)
  | ((with_reducible refine wo_shr ?h ?_); case h => omega) | ((with_reducible refine wo_shl ?h ?_); case h => omega) | ((with_reducible refine wo_pow ?h ?_); case h => omega)
  | ((with_reducible refine ite_d ?a ?b); (case b => exact fun h => absurd (by omega) h); intro _)
  | ((with_reducible refine ite_d ?a ?b); (case a => exact fun h => absurd h (by omega)); intro _)
  | ((with_reducible refine ite_d ?a ?b) <;> intro _)
  | ((with_reducible refine ⟨_, _, ?xs, ?j, rfl, rfl, ?h, ?e, ?_⟩); (case h => assumption); (case e => exact rfl))
  | ((with_reducible refine ite_nd ?a ?b); (case b => exact fun h => absurd h (by omega)); intro _)
  | ((with_reducible refine ite_nd ?a ?b); (case a => exact fun h => absurd (by omega) h); intro _)
  | ((with_reducible refine ite_nd ?a ?b) <;> intro _)
  | ((with_reducible refine wg_t ?h ?_); case h => exact rfl)
  | ((with_reducible refine wo_addL (xs := ?xs) (ys := ?ys) (lst_ref ?h1) (lst_ref ?h2) ?h3 ?_); (case h1 => first | assumption | exact get_app (by assumption)); (case h2 => first | assumption | exact get_app (by assumption)); (case h3 => (show _ ≤ 2 ^ 24; simp only [List.length_append, List.length_cons, List.length_nil, List.length_map]; omega)))
  | ((with_reducible refine wo_isi (k := ?k) (b := ?b) ?h1 ?h2 ?_); (case h1 => first | exact rfl | exact kind_ref (by assumption)); (case h2 => walk_at "kb"))
  | ((with_reducible refine wo_len (xs := ?xs) ?h ?_); (case h => first | exact rfl | exact seq_ref (by assumption)))
  | ((with_reducible refine wo_ixL (xs := ?xs) (x := ?x) ?h1 ?h2 ?_); (case h1 => exact lst_ref (by assumption)); (case h2 => exact rfl))
  | ((with_reducible refine wo_tup ?h ?_); case h => (simp only [List.length_cons, List.length_nil]; decide)) | ((with_reducible refine wo_lst ?h ?_); case h => (simp only [List.length_cons, List.length_nil]; decide)))
local macro_rules | `(tactic| walk_at "go") => `(tactic| (repeat' walk_at "go2") <;> try dsimp only [List.set_cons_zero, List.set_cons_succ])

theorem law_ok (ns : List Int) (hns : ns.length ≤ 63) : ∃ S', m_law [.rol (ns.map Va.int)] [] = .ok (.bl true) S' := by
  suffices h : Wp (m_law [.rol (ns.map Va.int)] []) (fun v _ => v = .bl true) by
    obtain ⟨v, S', e, rfl⟩ := h.get
    exact ⟨S', e⟩
  walk_at "fn"
  unfold b_law
  walk_at "go"
  refine ws_forW (.ref 2) (((ns ++ [0]).take 4).map Va.int) (fun i Γ S' => S'[2]? = some (.lst (((ns ++ [0]).take 4).map Va.int)) ∧ ∃ z1 z2 z3 z4 z5 z6 z7 z8 z9 z10 z11 z12 z13 z14 z15 z16, Γ = [some (.rol (ns.map Va.int)), z1, z2, z3, z4, z5, z6, z7, z8, z9, z10, z11, z12, z13, z14, z15, z16]) ?_ (fun i Γ S' h => .inl ⟨2, rfl, h.1⟩) ?_ ?_
  · walk_at "go"
    refine wo_addL (xs := ns.map Va.int) (ys := [Va.int 0]) rfl rfl (by show _ ≤ 2 ^ 24; simp; omega) ?_
    walk_at "go"
    refine wo_slTo (xs := ns.map Va.int ++ [Va.int 0]) rfl (by decide) (by simp; omega) ?_
    refine ⟨rfl, ?_, none, none, none, none, none, none, none, none, none, none, none, none, none, none, none, none, rfl⟩
    have : ((ns ++ [0]).take 4).map Va.int = (ns.map Va.int ++ [Va.int 0]).take (4 : Int).toNat := by rw [List.map_take, List.map_append]; rfl
    rw [this]
    rfl
  · rintro i x Γ S0 hx ⟨h2, z1, z2, z3, z4, z5, z6, z7, z8, z9, z10, z11, z12, z13, z14, z15, z16, rfl⟩
    obtain ⟨cell, _, rfl⟩ := map_at hx
    walk_at "go"
    refine sp_source.mono ?_
    rintro _ S1 ⟨rfl, hsrc, g1⟩
    have h2' := g1.get h2
    have hn2 : 2 < S0.length := lt_get h2
    generalize S0.length = n at hsrc hn2 ⊢
    walk_at "go"
    refine (sp_spots hsrc (by omega)).mono ?_
    rintro _ S2 ⟨j0, ps, rfl, hj0, nd0, hb0, hpl, hjn0, m2⟩
    have hpl : ps.length ≤ 60 := by omega
    have h22 := m2.get (by omega) h2'
    have src2 := m2.src
    have hnl := src2.lt
    clear m2 h2' h2 hsrc g1
    refine ws_seq (ws_set ?_)
    refine (st_less hj0 hpl hb0).mono ?_
    rintro _ S3 ⟨kk, rfl, hk, hB, l3⟩
    refine ws_seq (ws_set ?_)
    refine (st_div hk (l3.get hj0) hpl).mono ?_
    rintro _ S4 ⟨j1, rfl, hj1, _, l4⟩
    refine ws_seq (ws_set ?_)
    refine (st_once hj1 (by rw [List.length_map]; omega)).mono ?_
    rintro _ S5 ⟨j, l, rfl, hj, nd, hmem, hl, hjl, l5⟩
    have hb17 : ∀ p ∈ l, B17 p := fun p hp => by
      obtain ⟨q, hq, rfl⟩ := List.mem_map.mp (hmem p hp)
      exact hB q hq
    have hb : ∀ p ∈ l, PtB p := fun p hp => b17_pt (hb17 p hp)
    have l25 := (l3.trans l4).trans l5
    have h25 := l25.get h22
    have src5 := src2.lo l25
    have hjn : j ≠ n := by
      have h1 := (l3.trans l4).1
      omega
    clear l25 l3 l4 l5 h22 src2 hj0 hj1 hjl hmem hB hb0 nd0 hpl
    have hl6 : l.length < 2 ^ 6 := Nat.lt_of_le_of_lt hl (by decide)
    obtain ⟨T, hT⟩ : ∃ T, T = midT 6 false l := ⟨_, rfl⟩
    have mok : MOk T := by rw [hT]; exact mok_mid nd hb hl6 (by omega)
    have hht : T.ht ≤ 6 := by rw [hT]; exact mid_hle 6 false l
    have hperm : T.pts.Perm l := by rw [hT]; exact mid_pts 6 false l hl6
    have hTs : T.size = l.length := by rw [hT]; exact mid_size hl6
    have hev : EvenT T := by rw [hT]; exact mid_even 6 false l hl6
    have hdue : ((T.ht : Nat) : Int) = (((fitL [1, 2, 4, 8, 16, 32] l.length).map nv).length : Nat) := by
      rw [hT, mid_ht, hN_ok l.length (by omega), List.length_map]
      rfl
    have hTl : T.pts.length = l.length := hperm.length_eq
    refine ws_seq (ws_set ?_)
    walk_at "go"
    refine (st_fit (ks := [1, 2, 4, 8, 16, 32]) (by decide) hj (fun Γ S => by walk_at "go"; exact ⟨rfl, rfl⟩)).mono ?_
    rintro _ _ ⟨rfl, rfl⟩
    have hj6 : (S5 ++ [Ob.lst ((fitL [1, 2, 4, 8, 16, 32] l.length).map nv)])[j]? = some (.lst (l.map ptV)) := get_app hj
    have h26 : (S5 ++ [Ob.lst ((fitL [1, 2, 4, 8, 16, 32] l.length).map nv)])[2]? = _ := get_app h25
    have src6 : Src (S5 ++ [Ob.lst ((fitL [1, 2, 4, 8, 16, 32] l.length).map nv)]) n := src5.lo (Lo.app _ _)
    walk_at "go"
    refine wo_len (seq_ref get_last) ?_
    walk_at "go"
    refine (sp_middle (fun S' h => .ref (h.get hj6)) nd hb hl).mono ?_
    rintro _ S7 ⟨rfl, l7⟩
    rw [← hT]
    walk_at "go"
    refine (sp_height mok).mono ?_
    rintro _ S8 ⟨rfl, l8⟩
    have l68 := l7.trans l8
    have hj8 := l68.get hj6
    have h28 := l68.get h26
    have src8 := src6.lo l68
    clear l7 l8 l68 hj6 h26 src6 hj h25 src5
    walk_at "go"
    refine (sp_shuffled src8 hj8 hl).mono ?_
    rintro _ S9 ⟨r9, qs, rfl, h9, pq, hr9, m9⟩
    have hj9 := m9.get hjn hj8
    have h29 := m9.get (by omega) h28
    have src9 := m9.src
    clear m9 hj8 h28 src8
    walk_at "go"
    refine (sp_middle (fun S' h => .ref (h.get h9)) (pq.nodup_iff.mpr nd) (fun p hp => hb p (pq.mem_iff.mp hp)) (by rw [pq.length_eq]; exact hl)).mono ?_
    rintro _ S10 ⟨rfl, l10⟩
    have hj10 := l10.get hj9
    have h210 := l10.get h29
    have src10 := src9.lo l10
    clear l10 hj9 h29 src9 h9
    refine neM (Nat.le_trans (mid_hle 6 false qs) (by decide)) (by rw [hT]; exact mid_same 6 false pq nd) ?_
    walk_at "go"
    refine (sp_in_order mok).mono ?_
    rintro _ S11 ⟨r11, rfl, h11, _, l11⟩
    have hj11 := l11.get hj10
    have h211 := l11.get h210
    have src11 := src10.lo l11
    clear l11 hj10 h210 src10
    walk_at "go"
    refine wo_sort (enc := ptV) (g := ptP) (n := 1) (l := T.pts) (.ref h11) (fun p _ => ptR) (by decide) (sortablePts _) (by rw [hTl]; show _ ≤ 2 ^ 24; omega) ?_
    rw [sort_eq hperm nd]
    walk_at "go"
    refine wo_sort (enc := ptV) (g := ptP) (n := 1) (l := l) (.ref (get_app hj11)) (fun p _ => ptR) (by decide) (sortablePts _) (by show _ ≤ 2 ^ 24; omega) ?_
    refine wo_neD (EqD.list ptE) (ptsR (get_app get_last)) (ptsR get_last) (by decide) (by decide) ?_
    rw [decide_eq_false (by simp)]
    have l12 : Lo S11 (S11 ++ [Ob.lst ((l.mergeSort (dle ptP)).map ptV)] ++ [Ob.lst ((l.mergeSort (dle ptP)).map ptV)]) := (Lo.app _ _).trans (Lo.app _ _)
    have hj12 := l12.get hj11
    have h212 := l12.get h211
    have src12 := src11.lo l12
    generalize S11 ++ [Ob.lst ((l.mergeSort (dle ptP)).map ptV)] ++ [Ob.lst ((l.mergeSort (dle ptP)).map ptV)] = S12 at hj12 h212 src12 ⊢
    clear l12 hj11 h211 src11 h11
    walk_at "go"
    have e9 : (10 : Int) ^ (9 : Int).toNat = 1000000000 := by decide
    have e6 : (10 : Int) ^ (6 : Int).toNat = 1000000 := by decide
    refine (sp_take src12 (by decide)).mono ?_
    rintro _ S13 ⟨a, rfl, a0, a1, m13⟩
    rw [e9] at a1
    have hj13 := m13.get hjn hj12
    have h213 := m13.get (by omega) h212
    have src13 := m13.src
    clear m13 hj12 h212 src12
    walk_at "go"
    refine (sp_take src13 (by decide)).mono ?_
    rintro _ S14 ⟨b, rfl, b0, b1, m14⟩
    rw [e9] at b1
    have hj14 := m14.get hjn hj13
    have h214 := m14.get (by omega) h213
    have src14 := m14.src
    clear m14 hj13 h213 src13
    walk_at "go"
    refine (sp_take src14 (by decide)).mono ?_
    rintro _ S15 ⟨g, rfl, g0, g1, m15⟩
    rw [e6] at g1
    have hj15 := m15.get hjn hj14
    have h215 := m15.get (by omega) h214
    clear m15 hj14 h214 src14
    walk_at "go"
    have hg : 0 < 1 + g ∧ 1 + g ≤ 1000000 := by omega
    refine (st_mv hg hb17 hj15 hl).mono ?_
    rintro _ S16 ⟨r16, rfl, h16, l16⟩
    walk_at "go"
    refine (sp_middle (fun S' h => .ref (h.get h16)) (List.pairwise_map.mpr (nd.imp fun h e => h (mv_inj hg.1 e))) (fun p hp => by
      obtain ⟨q, hq, rfl⟩ := List.mem_map.mp hp
      exact mv_pt ⟨a0, a1⟩ ⟨by omega, by omega⟩ hg (hb17 q hq)) (by rw [List.length_map]; exact hl)).mono ?_
    rintro _ S17 ⟨rfl, l17⟩
    have l1517 := l16.trans l17
    have hj17 := l1517.get hj15
    have h217 := l1517.get h215
    clear l16 l17 l1517 hj15 h215 h16
    walk_at "go"
    refine (sp_moved hg T 8 S17 (by omega) (fun p hp => hb17 p (hperm.mem_iff.mp hp))).mono ?_
    rintro _ S17 ⟨rfl, rfl⟩
    refine neM (Nat.le_trans (mid_hle 6 false _) (by decide)) (by rw [hT]; exact mid_map (π := id) (fun _ => rfl) (mv_lt hg.1) 6 false l) ?_
    walk_at "go"
    refine (st_fit (ks := [0, 1, 3, 7, 15, 31]) (by decide) hj17 (fun Γ S => by walk_at "go"; exact ⟨rfl, rfl⟩)).mono ?_
    rintro _ _ ⟨rfl, rfl⟩
    obtain ⟨k, d, hne, hlast, hkn, hk31, hk2⟩ := last_fit l.length (by omega)
    walk_at "go"
    refine wo_ixL (lst_ref get_last) (x := nv k) (at_last (by rw [List.length_map, List.getElem?_map, hlast]; rfl)) ?_
    walk_at "go"
    refine sl_ref (get_app hj17) (by rw [cut_to, List.length_take, List.length_map]; omega) ?_
    rw [cut_to, ← List.map_take]
    have hfl : (l.take k).length = k := by rw [List.length_take]; omega
    have ndf : (l.take k).Nodup := nd.sublist (List.take_sublist _ _)
    have hbf : ∀ p ∈ l.take k, PtB p := fun p hp => hb p (List.mem_of_mem_take hp)
    have hneg : midT 6 false ((l.take k).map negP) = mirT (midT 6 false (l.take k)) := mid_neg d 6 false (l.take k) ndf (by rw [hfl]; exact hk2)
    generalize l.take k = F at hfl ndf hbf hneg ⊢
    have g18 : (S17 ++ [Ob.lst ((fitL [0, 1, 3, 7, 15, 31] l.length).map nv)] ++ [Ob.lst (F.map ptV)])[(S17 ++ [Ob.lst ((fitL [0, 1, 3, 7, 15, 31] l.length).map nv)]).length]? = some (.lst (F.map ptV)) := get_last
    have l18 : Lo S17 (S17 ++ [Ob.lst ((fitL [0, 1, 3, 7, 15, 31] l.length).map nv)] ++ [Ob.lst (F.map ptV)]) := (Lo.app _ _).trans (Lo.app _ _)
    have hj18 := l18.get hj17
    have h218 := l18.get h217
    generalize (S17 ++ [Ob.lst ((fitL [0, 1, 3, 7, 15, 31] l.length).map nv)]).length = r18 at g18 ⊢
    generalize S17 ++ [Ob.lst ((fitL [0, 1, 3, 7, 15, 31] l.length).map nv)] ++ [Ob.lst (F.map ptV)] = S18 at g18 hj18 h218 ⊢
    clear l18 hj17 h217
    walk_at "go"
    refine (st_neg g18 (by omega)).mono ?_
    rintro _ S19 ⟨r19, rfl, h19, l19⟩
    walk_at "go"
    refine (sp_middle (fun S' h => .ref (h.get h19)) (neg_nd ndf) (fun p hp => by
      obtain ⟨q, hq, rfl⟩ := List.mem_map.mp hp
      have hF : Far = 1000000000000000000000000000000 := rfl
      obtain ⟨⟨h1, h2⟩, h3, h4⟩ := hbf q hq
      rw [hF] at h1 h2 h3 h4
      unfold negP
      refine ⟨⟨?_, ?_⟩, ⟨?_, ?_⟩⟩ <;> rw [hF] <;> dsimp only <;> omega) (by rw [List.length_map]; omega)).mono ?_
    rintro _ S20 ⟨rfl, l20⟩
    walk_at "go"
    have g20 := (l19.trans l20).get g18
    refine (sp_middle (fun S' h => .ref (h.get g20)) ndf hbf (by omega)).mono ?_
    rintro _ S21 ⟨rfl, l21⟩
    walk_at "go"
    refine (sp_mirrored (midT 6 false F) 8 S21 (Nat.lt_of_le_of_lt (mid_hle 6 false F) (by decide))).mono ?_
    rintro _ S21 ⟨rfl, rfl⟩
    have l1821 := (l19.trans l20).trans l21
    have hj21 := l1821.get hj18
    have h221 := l1821.get h218
    clear l1821 l19 l20 l21 hj18 h218 g18 g20 h19
    refine neM (Nat.le_trans (mid_hle 6 false _) (by decide)) hneg ?_
    walk_at "go"
    refine (sp_in_order mok).mono ?_
    rintro _ S22 ⟨r22, rfl, h22, _, l22⟩
    walk_at "go"
    refine (sp_middle (fun S' h => .ref (h.get h22)) (hperm.nodup_iff.mpr nd) (fun p hp => hb p (hperm.mem_iff.mp hp)) (by omega)).mono ?_
    rintro _ S23 ⟨rfl, l23⟩
    refine neM (Nat.le_trans (mid_hle 6 false _) (by decide)) (by rw [mid_same 6 false hperm nd, hT]) ?_
    walk_at "go"
    refine (sp_is_even mok hev).mono ?_
    rintro _ S24 ⟨rfl, l24⟩
    have l2124 := (l22.trans l23).trans l24
    have hj24 := l2124.get hj21
    have h224 := l2124.get h221
    clear l2124 l22 l23 l24 hj21 h221 h22
    walk_at "go"
    refine wo_notB ?_
    rw [decide_eq_true (rfl : true = true)]
    refine ⟨_, rfl, ite_nt ?_⟩
    walk_at "go"
    rw [non_mid]
    cases T with
    | nil =>
      refine ite_f ?_
      exact ⟨h224, _, _, _, _, _, _, _, _, _, _, _, _, _, _, _, _, rfl⟩
    | node p lo hi =>
      refine ite_t ?_
      obtain ⟨⟨mlo, elo, llo, ndlo⟩, ⟨mhi, ehi, lhi, ndhi⟩⟩ := kids_of hT nd hl6
      have ept : (Mid.node p lo hi).pts = p :: (lo.pts ++ hi.pts) := rfl
      have eht : (Mid.node p lo hi).ht = 1 + max lo.ht hi.ht := rfl
      have esz : (Mid.node p lo hi).size = 1 + (lo.size + hi.size) := rfl
      have ndT : (p :: (lo.pts ++ hi.pts)).Nodup := hperm.nodup_iff.mpr nd
      have ndt := (List.nodup_cons.mp ndT).2
      obtain ⟨nlo, nhi, _⟩ := List.nodup_append.mp ndt
      have hbT : ∀ q ∈ (Mid.node p lo hi).pts, PtB q := mok.b
      obtain ⟨c1, c2, klo, khi⟩ := mok.k
      have mok1 : MOk (.node p lo .nil) := ⟨⟨c1, c2, klo, trivial⟩, fun q hq => hbT q (by
        rw [ept]
        rcases List.mem_cons.mp hq with h | h
        · exact List.mem_cons.mpr (.inl h)
        · rcases List.mem_append.mp h with h | h
          · exact List.mem_cons_of_mem _ (List.mem_append.mpr (.inl h))
          · cases h), by have := mok.s; show 1 + (lo.size + 0) ≤ 500; omega⟩
      have mok2 : MOk (.node p .nil hi) := ⟨⟨c1, c2, trivial, khi⟩, fun q hq => hbT q (by
        rw [ept]
        rcases List.mem_cons.mp hq with h | h
        · exact List.mem_cons.mpr (.inl h)
        · rcases List.mem_append.mp h with h | h
          · cases h
          · exact List.mem_cons_of_mem _ (List.mem_append.mpr (.inr h))), by have := mok.s; show 1 + (0 + hi.size) ≤ 500; omega⟩
      have lolen := lo.pts_len
      have hilen := hi.pts_len
      walk_at "go"
      refine ws_forW (.tup [.int 1, .int 2]) [.int 1, .int 2] (fun i Γ S' => Lo S24 S' ∧ ∃ z8 z15 z16, Γ = [some (.rol (ns.map Va.int)), some (.int cell), some (.ref n), some (.ref j), some (.int kk), z5, z6, z7, z8, some (.int (((fitL [1, 2, 4, 8, 16, 32] l.length).map nv).length : Nat)), some (Mid.node p lo hi).va, some (.int a), some (.int (-b)), some (.int (1 + g)), some (.ref r18), z15, z16]) ?_ (fun i Γ S' h => .inr (.inl rfl)) ?_ ?_
      · walk_at "go"
        exact ⟨rfl, Lo.refl _, _, _, _, rfl⟩
      · rintro i x Γ S25 hxi ⟨l25, y8, y15, y16, rfl⟩
        rw [mid_va]
        match i, hxi with
        | 0, hxi =>
          cases hxi
          walk_at "go"
          refine (sp_in_order mok1).mono ?_
          rintro _ S26 ⟨r26, rfl, h26, _, l26⟩
          walk_at "go"
          have ec : cutA ((Mid.node p lo .nil).pts.map ptV) (some 1) none = (lo.pts).map ptV := by
            have h := cut_from ((Mid.node p lo .nil).pts.map ptV) 1
            rw [List.drop_one, ← List.map_tail] at h
            rw [show (some (1 : Int)) = some ((1 : Nat) : Int) from rfl, h]
            simp [Mid.pts]
          refine sl_ref h26 (by rw [ec, List.length_map]; omega) ?_
          rw [ec]
          have g27 : (S26 ++ [Ob.lst (lo.pts.map ptV)])[S26.length]? = some (.lst (lo.pts.map ptV)) := get_last
          have l27 : Lo S24 (S26 ++ [Ob.lst (lo.pts.map ptV)]) := (l25.trans l26).trans (Lo.app _ _)
          generalize S26.length = r27 at g27 ⊢
          generalize S26 ++ [Ob.lst (lo.pts.map ptV)] = S27 at g27 l27 ⊢
          walk_at "go"
          refine (st_rev g27 (by omega)).mono ?_
          rintro _ S28 ⟨r28, rfl, h28, l28⟩
          walk_at "go"
          refine (sp_middle (fun S' h => .ref (h.get h28)) (List.pairwise_map.mpr (nlo.imp fun h e => h (yk_inj e))) (fun q hq => by
            obtain ⟨q, hq2, rfl⟩ := List.mem_map.mp hq
            exact yk_pt (hbT q (by rw [ept]; exact List.mem_cons_of_mem _ (List.mem_append.mpr (.inl hq2))))) (by rw [List.length_map]; omega)).mono ?_
          rintro _ S29 ⟨rfl, l29⟩
          walk_at "go"
          refine (sp_turned lo 8 S29 (by omega)).mono ?_
          rintro _ S29 ⟨rfl, rfl⟩
          refine neM (Nat.le_trans (mid_hle 6 false _) (by decide)) (side_eq elo llo ndlo) ?_
          walk_at "go"
          exact ⟨(l27.trans l28).trans l29, _, _, _, rfl⟩
        | 1, hxi =>
          cases hxi
          walk_at "go"
          refine (sp_in_order mok2).mono ?_
          rintro _ S26 ⟨r26, rfl, h26, _, l26⟩
          walk_at "go"
          have ec : cutA ((Mid.node p .nil hi).pts.map ptV) (some 1) none = (hi.pts).map ptV := by
            have h := cut_from ((Mid.node p .nil hi).pts.map ptV) 1
            rw [List.drop_one, ← List.map_tail] at h
            rw [show (some (1 : Int)) = some ((1 : Nat) : Int) from rfl, h]
            simp [Mid.pts]
          refine sl_ref h26 (by rw [ec, List.length_map]; omega) ?_
          rw [ec]
          have g27 : (S26 ++ [Ob.lst (hi.pts.map ptV)])[S26.length]? = some (.lst (hi.pts.map ptV)) := get_last
          have l27 : Lo S24 (S26 ++ [Ob.lst (hi.pts.map ptV)]) := (l25.trans l26).trans (Lo.app _ _)
          generalize S26.length = r27 at g27 ⊢
          generalize S26 ++ [Ob.lst (hi.pts.map ptV)] = S27 at g27 l27 ⊢
          walk_at "go"
          refine (st_rev g27 (by omega)).mono ?_
          rintro _ S28 ⟨r28, rfl, h28, l28⟩
          walk_at "go"
          refine (sp_middle (fun S' h => .ref (h.get h28)) (List.pairwise_map.mpr (nhi.imp fun h e => h (yk_inj e))) (fun q hq => by
            obtain ⟨q, hq2, rfl⟩ := List.mem_map.mp hq
            exact yk_pt (hbT q (by rw [ept]; exact List.mem_cons_of_mem _ (List.mem_append.mpr (.inr hq2))))) (by rw [List.length_map]; omega)).mono ?_
          rintro _ S29 ⟨rfl, l29⟩
          walk_at "go"
          refine (sp_turned hi 8 S29 (by omega)).mono ?_
          rintro _ S29 ⟨rfl, rfl⟩
          refine neM (Nat.le_trans (mid_hle 6 false _) (by decide)) (side_eq ehi lhi ndhi) ?_
          walk_at "go"
          exact ⟨(l27.trans l28).trans l29, _, _, _, rfl⟩
        | i + 2, hxi => simp at hxi
      · rintro Γ S25 ⟨l25, y8, y15, y16, rfl⟩
        have hj25 := l25.get hj24
        have h225 := l25.get h224
        clear l25 hj24 h224
        have etl : (Mid.node p lo hi).pts.tail = lo.pts ++ hi.pts := rfl
        have htl : (lo.pts ++ hi.pts).length ≤ 60 := by rw [List.length_append]; omega
        have htl6 : (lo.pts ++ hi.pts).length < 2 ^ 6 := Nat.lt_of_le_of_lt htl (by decide)
        have hbt : ∀ q ∈ lo.pts ++ hi.pts, PtB q := fun q hq => hbT q (by rw [ept]; exact List.mem_cons_of_mem _ hq)
        have prest : (lo.pts ++ hi.pts).Perm (l.filter fun q => decide (q ≠ p)) := rest_perm hperm nd
        have ndr : (l.filter fun q => decide (q ≠ p)).Nodup := nd.sublist List.filter_sublist
        have pW : (midT 6 false (lo.pts ++ hi.pts)).pts.Perm (l.filter fun q => decide (q ≠ p)) := (mid_pts 6 false _ htl6).trans prest
        have mokW : MOk (midT 6 false (lo.pts ++ hi.pts)) := mok_mid ndt hbt htl6 (by omega)
        have hrl : (l.filter fun q => decide (q ≠ p)).length ≤ 60 := by rw [← prest.length_eq]; exact htl
        have eWR : midT 6 false (lo.pts ++ hi.pts) = midT 6 false (l.filter fun q => decide (q ≠ p)) := mid_same 6 false prest ndr
        rw [mid_va]
        walk_at "go"
        refine (sp_taken mok (by omega)).mono ?_
        rintro _ S26 ⟨rfl, l26⟩
        rw [etl]
        walk_at "go"
        refine (sp_in_order mokW).mono ?_
        rintro _ S27 ⟨r27, rfl, h27, _, l27⟩
        have hj27 := (l26.trans l27).get hj25
        have h227 := (l26.trans l27).get h225
        clear l26 l27 hj25 h225
        walk_at "go"
        refine wo_sort (enc := ptV) (g := ptP) (n := 1) (l := (midT 6 false (lo.pts ++ hi.pts)).pts) (.ref h27) (fun p _ => ptR) (by decide) (sortablePts _) (by rw [pW.length_eq]; show _ ≤ 2 ^ 24; omega) ?_
        rw [sort_eq pW ndr]
        have g28 : (S27 ++ [Ob.lst (((l.filter fun q => decide (q ≠ p)).mergeSort (dle ptP)).map ptV)])[S27.length]? = some (.lst (((l.filter fun q => decide (q ≠ p)).mergeSort (dle ptP)).map ptV)) := get_last
        have hj28 : (S27 ++ [Ob.lst (((l.filter fun q => decide (q ≠ p)).mergeSort (dle ptP)).map ptV)])[j]? = some (.lst (l.map ptV)) := get_app hj27
        have h228 : (S27 ++ [Ob.lst (((l.filter fun q => decide (q ≠ p)).mergeSort (dle ptP)).map ptV)])[2]? = _ := get_app h227
        generalize S27.length = r28 at g28 ⊢
        generalize S27 ++ [Ob.lst (((l.filter fun q => decide (q ≠ p)).mergeSort (dle ptP)).map ptV)] = S28 at g28 hj28 h228 ⊢
        clear hj27 h227 h27
        walk_at "go"
        refine (st_rest (q := p) (lo := lo) (hi := hi) hj28 hl).mono ?_
        rintro _ S29 ⟨r29, rfl, h29, l29⟩
        walk_at "go"
        refine wo_sort (enc := ptV) (g := ptP) (n := 1) (l := l.filter fun q => decide (q ≠ p)) (.ref h29) (fun p _ => ptR) (by decide) (sortablePts _) (by show _ ≤ 2 ^ 24; omega) ?_
        refine wo_neD (EqD.list ptE) (ptsR (get_app (l29.get g28))) (ptsR get_last) (by decide) (by decide) ?_
        rw [decide_eq_false (by simp)]
        have l30 : Lo S28 (S29 ++ [Ob.lst (((l.filter fun q => decide (q ≠ p)).mergeSort (dle ptP)).map ptV)]) := l29.trans (Lo.app _ _)
        generalize S29 ++ [Ob.lst (((l.filter fun q => decide (q ≠ p)).mergeSort (dle ptP)).map ptV)] = S30 at l30 ⊢
        have hj30 := l30.get hj28
        have h230 := l30.get h228
        clear l29 l30 hj28 h228 g28 h29
        walk_at "go"
        refine (sp_taken mok (by omega)).mono ?_
        rintro _ S31 ⟨rfl, l31⟩
        rw [etl]
        walk_at "go"
        refine (st_rest (q := p) (lo := lo) (hi := hi) (l31.get hj30) hl).mono ?_
        rintro _ S32 ⟨r32, rfl, h32, l32⟩
        walk_at "go"
        refine (sp_middle (fun S' h => .ref (h.get h32)) ndr (fun q hq => hb q (List.mem_filter.mp hq).1) hrl).mono ?_
        rintro _ S33 ⟨rfl, l33⟩
        refine neM (Nat.le_trans (mid_hle 6 false _) (by decide)) eWR ?_
        walk_at "go"
        exact ⟨((l31.trans l32).trans l33).get h230, _, _, _, _, _, _, _, _, _, _, _, _, _, _, _, _, rfl⟩
  · rintro Γ S' ⟨_, z1, z2, z3, z4, z5, z6, z7, z8, z9, z10, z11, z12, z13, z14, z15, z16, rfl⟩
    walk_at "go"
end PM

namespace PM
open PySem PySem.Spec PyProof.Rows L2 Q2
theorem all_mk {l : PySem.W.OpenLaw} {w : World} {K : PySem.W.Frag} {h : Heap} {mg : Str → Option Value} {fa : Addr} (X : K.In h) (G : h.Ns mainGlobals mg) (hfa : mg "law" = some (.ref fa))
    {f_is_integer : Addr} {od_is_integer an_is_integer : Option Addr} {sl_is_integer : Array (Option Value)} {oc_is_integer kV_is_integer dc_is_integer pm_is_integer cd_is_integer ct_is_integer : Value}
    {f_is_coordinate : Addr} {od_is_coordinate an_is_coordinate : Option Addr} {sl_is_coordinate : Array (Option Value)} {oc_is_coordinate kV_is_coordinate dc_is_coordinate pm_is_coordinate cd_is_coordinate ct_is_coordinate : Value}
    {f_is_point : Addr} {od_is_point an_is_point : Option Addr} {sl_is_point : Array (Option Value)} {oc_is_point kV_is_point dc_is_point pm_is_point cd_is_point ct_is_point : Value}
    {f_check_point : Addr} {od_check_point an_check_point : Option Addr} {sl_check_point : Array (Option Value)} {oc_check_point kV_check_point dc_check_point pm_check_point cd_check_point ct_check_point : Value}
    {f_check_points : Addr} {od_check_points an_check_points : Option Addr} {sl_check_points : Array (Option Value)} {oc_check_points kV_check_points dc_check_points pm_check_points cd_check_points ct_check_points : Value}
    {f_y_key : Addr} {od_y_key an_y_key : Option Addr} {sl_y_key : Array (Option Value)} {oc_y_key kV_y_key dc_y_key pm_y_key cd_y_key ct_y_key : Value}
    {f_path_of : Addr} {od_path_of an_path_of : Option Addr} {sl_path_of : Array (Option Value)} {oc_path_of kV_path_of dc_path_of pm_path_of cd_path_of ct_path_of : Value}
    {f_fault_in_sides : Addr} {od_fault_in_sides an_fault_in_sides : Option Addr} {sl_fault_in_sides : Array (Option Value)} {oc_fault_in_sides kV_fault_in_sides dc_fault_in_sides pm_fault_in_sides cd_fault_in_sides ct_fault_in_sides : Value}
    {f_check_middle : Addr} {od_check_middle an_check_middle : Option Addr} {sl_check_middle : Array (Option Value)} {oc_check_middle kV_check_middle dc_check_middle pm_check_middle cd_check_middle ct_check_middle : Value}
    {f_grown_sides : Addr} {od_grown_sides an_grown_sides : Option Addr} {sl_grown_sides : Array (Option Value)} {oc_grown_sides kV_grown_sides dc_grown_sides pm_grown_sides cd_grown_sides ct_grown_sides : Value}
    {f_side_nodes : Addr} {od_side_nodes an_side_nodes : Option Addr} {sl_side_nodes : Array (Option Value)} {oc_side_nodes kV_side_nodes dc_side_nodes pm_side_nodes cd_side_nodes ct_side_nodes : Value}
    {f_side_points : Addr} {od_side_points an_side_points : Option Addr} {sl_side_points : Array (Option Value)} {oc_side_points kV_side_points dc_side_points pm_side_points cd_side_points ct_side_points : Value}
    {f_count_levels : Addr} {od_count_levels an_count_levels : Option Addr} {sl_count_levels : Array (Option Value)} {oc_count_levels kV_count_levels dc_count_levels pm_count_levels cd_count_levels ct_count_levels : Value}
    {f_way_by_sides : Addr} {od_way_by_sides an_way_by_sides : Option Addr} {sl_way_by_sides : Array (Option Value)} {oc_way_by_sides kV_way_by_sides dc_way_by_sides pm_way_by_sides cd_way_by_sides ct_way_by_sides : Value}
    {f_put_at_end : Addr} {od_put_at_end an_put_at_end : Option Addr} {sl_put_at_end : Array (Option Value)} {oc_put_at_end kV_put_at_end dc_put_at_end pm_put_at_end cd_put_at_end ct_put_at_end : Value}
    {f_without_top : Addr} {od_without_top an_without_top : Option Addr} {sl_without_top : Array (Option Value)} {oc_without_top kV_without_top dc_without_top pm_without_top cd_without_top ct_without_top : Value}
    {f_sizes_of : Addr} {od_sizes_of an_sizes_of : Option Addr} {sl_sizes_of : Array (Option Value)} {oc_sizes_of kV_sizes_of dc_sizes_of pm_sizes_of cd_sizes_of ct_sizes_of : Value}
    {f_middle : Addr} {od_middle an_middle : Option Addr} {sl_middle : Array (Option Value)} {oc_middle kV_middle dc_middle pm_middle cd_middle ct_middle : Value}
    {f_is_even : Addr} {od_is_even an_is_even : Option Addr} {sl_is_even : Array (Option Value)} {oc_is_even kV_is_even dc_is_even pm_is_even cd_is_even ct_is_even : Value}
    {f_in_order : Addr} {od_in_order an_in_order : Option Addr} {sl_in_order : Array (Option Value)} {oc_in_order kV_in_order dc_in_order pm_in_order cd_in_order ct_in_order : Value}
    {f_height : Addr} {od_height an_height : Option Addr} {sl_height : Array (Option Value)} {oc_height kV_height dc_height pm_height cd_height ct_height : Value}
    {f_taken : Addr} {od_taken an_taken : Option Addr} {sl_taken : Array (Option Value)} {oc_taken kV_taken dc_taken pm_taken cd_taken ct_taken : Value}
    {f_law_mixed : Addr} {od_law_mixed an_law_mixed : Option Addr} {sl_law_mixed : Array (Option Value)} {oc_law_mixed kV_law_mixed dc_law_mixed pm_law_mixed cd_law_mixed ct_law_mixed : Value}
    {f_law_source : Addr} {od_law_source an_law_source : Option Addr} {sl_law_source : Array (Option Value)} {oc_law_source kV_law_source dc_law_source pm_law_source cd_law_source ct_law_source : Value}
    {f_law_take : Addr} {od_law_take an_law_take : Option Addr} {sl_law_take : Array (Option Value)} {oc_law_take kV_law_take dc_law_take pm_law_take cd_law_take ct_law_take : Value}
    {f_law_pick : Addr} {od_law_pick an_law_pick : Option Addr} {sl_law_pick : Array (Option Value)} {oc_law_pick kV_law_pick dc_law_pick pm_law_pick cd_law_pick ct_law_pick : Value}
    {f_law_spots : Addr} {od_law_spots an_law_spots : Option Addr} {sl_law_spots : Array (Option Value)} {oc_law_spots kV_law_spots dc_law_spots pm_law_spots cd_law_spots ct_law_spots : Value}
    {f_law_shuffled : Addr} {od_law_shuffled an_law_shuffled : Option Addr} {sl_law_shuffled : Array (Option Value)} {oc_law_shuffled kV_law_shuffled dc_law_shuffled pm_law_shuffled cd_law_shuffled ct_law_shuffled : Value}
    {f_law_moved : Addr} {od_law_moved an_law_moved : Option Addr} {sl_law_moved : Array (Option Value)} {oc_law_moved kV_law_moved dc_law_moved pm_law_moved cd_law_moved ct_law_moved : Value}
    {f_law_mirrored : Addr} {od_law_mirrored an_law_mirrored : Option Addr} {sl_law_mirrored : Array (Option Value)} {oc_law_mirrored kV_law_mirrored dc_law_mirrored pm_law_mirrored cd_law_mirrored ct_law_mirrored : Value}
    {f_law_turned_about : Addr} {od_law_turned_about an_law_turned_about : Option Addr} {sl_law_turned_about : Array (Option Value)} {oc_law_turned_about kV_law_turned_about dc_law_turned_about pm_law_turned_about cd_law_turned_about ct_law_turned_about : Value}
    {f_law : Addr} {od_law an_law : Option Addr} {sl_law : Array (Option Value)} {oc_law kV_law dc_law pm_law cd_law ct_law : Value}
    {tk_FARTHEST_COORDINATE : Tok}
    {tk_MOST_POINTS : Tok}
    {tk_MOST_NODES : Tok}
    {a_InvalidPoint : Addr}
    {a_InvalidPoints : Addr}
    {a_InvalidTree : Addr}
    {a_NotThere : Addr}
    {fI_InvalidPoint cda_InvalidPoint cc_InvalidPoint N_InvalidPoint : Addr} {nm_InvalidPoint q_InvalidPoint file_InvalidPoint : Str} {bs_InvalidPoint bm_InvalidPoint sub_InvalidPoint : List Value} {sn_InvalidPoint : List Str} {ab_InvalidPoint : Bool} {col_InvalidPoint : Option Bool} {dd_InvalidPoint od_InvalidPoint an_InvalidPoint cdd_InvalidPoint cld_InvalidPoint : Option Addr} {m0_InvalidPoint m1_InvalidPoint m2_InvalidPoint m3_InvalidPoint m5_InvalidPoint : Option Value} {oc_InvalidPoint kV_InvalidPoint doc_InvalidPoint pm_InvalidPoint ct_InvalidPoint ccl_InvalidPoint cl_InvalidPoint : Value} {osl_InvalidPoint ccs_InvalidPoint csl_InvalidPoint : Array (Option Value)} {vs_InvalidPoint : Array Value} {tf_InvalidPoint : Tok}
    {fI_InvalidPoints cda_InvalidPoints cc_InvalidPoints N_InvalidPoints : Addr} {nm_InvalidPoints q_InvalidPoints file_InvalidPoints : Str} {bs_InvalidPoints bm_InvalidPoints sub_InvalidPoints : List Value} {sn_InvalidPoints : List Str} {ab_InvalidPoints : Bool} {col_InvalidPoints : Option Bool} {dd_InvalidPoints od_InvalidPoints an_InvalidPoints cdd_InvalidPoints cld_InvalidPoints : Option Addr} {m0_InvalidPoints m1_InvalidPoints m2_InvalidPoints m3_InvalidPoints m5_InvalidPoints : Option Value} {oc_InvalidPoints kV_InvalidPoints doc_InvalidPoints pm_InvalidPoints ct_InvalidPoints ccl_InvalidPoints cl_InvalidPoints : Value} {osl_InvalidPoints ccs_InvalidPoints csl_InvalidPoints : Array (Option Value)} {vs_InvalidPoints : Array Value} {tf_InvalidPoints : Tok}
    {fI_InvalidTree cda_InvalidTree cc_InvalidTree N_InvalidTree : Addr} {nm_InvalidTree q_InvalidTree file_InvalidTree : Str} {bs_InvalidTree bm_InvalidTree sub_InvalidTree : List Value} {sn_InvalidTree : List Str} {ab_InvalidTree : Bool} {col_InvalidTree : Option Bool} {dd_InvalidTree od_InvalidTree an_InvalidTree cdd_InvalidTree cld_InvalidTree : Option Addr} {m0_InvalidTree m1_InvalidTree m2_InvalidTree m3_InvalidTree m5_InvalidTree : Option Value} {oc_InvalidTree kV_InvalidTree doc_InvalidTree pm_InvalidTree ct_InvalidTree ccl_InvalidTree cl_InvalidTree : Value} {osl_InvalidTree ccs_InvalidTree csl_InvalidTree : Array (Option Value)} {vs_InvalidTree : Array Value} {tf_InvalidTree : Tok}
    {fI_NotThere cda_NotThere cc_NotThere N_NotThere : Addr} {nm_NotThere q_NotThere file_NotThere : Str} {bs_NotThere bm_NotThere sub_NotThere : List Value} {sn_NotThere : List Str} {ab_NotThere : Bool} {col_NotThere : Option Bool} {dd_NotThere od_NotThere an_NotThere cdd_NotThere cld_NotThere : Option Addr} {m0_NotThere m1_NotThere m2_NotThere m3_NotThere m5_NotThere : Option Value} {oc_NotThere kV_NotThere doc_NotThere pm_NotThere ct_NotThere ccl_NotThere cl_NotThere : Value} {osl_NotThere ccs_NotThere csl_NotThere : Array (Option Value)} {vs_NotThere : Array Value} {tf_NotThere : Tok}
    {t_aALL_KEYS_0_0 : Tok}
    {t_aALL_KEYS_0_1 : Tok}
    {aALL_KEYS_0 : Addr} {tod_aALL_KEYS_0 : Option Addr} {tsl_aALL_KEYS_0 : Array (Option Value)} {tn_aALL_KEYS_0 : Nat}
    {t_aALL_KEYS_1_0 : Tok}
    {t_aALL_KEYS_1_1 : Tok}
    {aALL_KEYS_1 : Addr} {tod_aALL_KEYS_1 : Option Addr} {tsl_aALL_KEYS_1 : Array (Option Value)} {tn_aALL_KEYS_1 : Nat}
    {aALL_KEYS : Addr} {tod_aALL_KEYS : Option Addr} {tsl_aALL_KEYS : Array (Option Value)} {tn_aALL_KEYS : Nat}
    (a_is_integer : PySem.W.nsIn K mainGlobals "is_integer" = some (some (.ref f_is_integer))) (l_is_integer : K.lookup f_is_integer = some ⟨oc_is_integer, od_is_integer, .func (PySem.W.fnOf "is_integer" "is_integer" (defArgs s_is_integer) (defBody s_is_integer) (defScope s_is_integer) .none kV_is_integer dc_is_integer pm_is_integer an_is_integer cd_is_integer ct_is_integer), sl_is_integer⟩) (c_is_integer : PySem.W.codeIn K cd_is_integer "is_integer" = true) (k_is_integer : PySem.W.keepIn K (.ref f_is_integer) = true)
    (a_is_coordinate : PySem.W.nsIn K mainGlobals "is_coordinate" = some (some (.ref f_is_coordinate))) (l_is_coordinate : K.lookup f_is_coordinate = some ⟨oc_is_coordinate, od_is_coordinate, .func (PySem.W.fnOf "is_coordinate" "is_coordinate" (defArgs s_is_coordinate) (defBody s_is_coordinate) (defScope s_is_coordinate) .none kV_is_coordinate dc_is_coordinate pm_is_coordinate an_is_coordinate cd_is_coordinate ct_is_coordinate), sl_is_coordinate⟩) (c_is_coordinate : PySem.W.codeIn K cd_is_coordinate "is_coordinate" = true) (k_is_coordinate : PySem.W.keepIn K (.ref f_is_coordinate) = true)
    (a_is_point : PySem.W.nsIn K mainGlobals "is_point" = some (some (.ref f_is_point))) (l_is_point : K.lookup f_is_point = some ⟨oc_is_point, od_is_point, .func (PySem.W.fnOf "is_point" "is_point" (defArgs s_is_point) (defBody s_is_point) (defScope s_is_point) .none kV_is_point dc_is_point pm_is_point an_is_point cd_is_point ct_is_point), sl_is_point⟩) (c_is_point : PySem.W.codeIn K cd_is_point "is_point" = true) (k_is_point : PySem.W.keepIn K (.ref f_is_point) = true)
    (a_check_point : PySem.W.nsIn K mainGlobals "check_point" = some (some (.ref f_check_point))) (l_check_point : K.lookup f_check_point = some ⟨oc_check_point, od_check_point, .func (PySem.W.fnOf "check_point" "check_point" (defArgs s_check_point) (defBody s_check_point) (defScope s_check_point) .none kV_check_point dc_check_point pm_check_point an_check_point cd_check_point ct_check_point), sl_check_point⟩) (c_check_point : PySem.W.codeIn K cd_check_point "check_point" = true) (k_check_point : PySem.W.keepIn K (.ref f_check_point) = true)
    (a_check_points : PySem.W.nsIn K mainGlobals "check_points" = some (some (.ref f_check_points))) (l_check_points : K.lookup f_check_points = some ⟨oc_check_points, od_check_points, .func (PySem.W.fnOf "check_points" "check_points" (defArgs s_check_points) (defBody s_check_points) (defScope s_check_points) .none kV_check_points dc_check_points pm_check_points an_check_points cd_check_points ct_check_points), sl_check_points⟩) (c_check_points : PySem.W.codeIn K cd_check_points "check_points" = true) (k_check_points : PySem.W.keepIn K (.ref f_check_points) = true)
    (a_y_key : PySem.W.nsIn K mainGlobals "y_key" = some (some (.ref f_y_key))) (l_y_key : K.lookup f_y_key = some ⟨oc_y_key, od_y_key, .func (PySem.W.fnOf "y_key" "y_key" (defArgs s_y_key) (defBody s_y_key) (defScope s_y_key) .none kV_y_key dc_y_key pm_y_key an_y_key cd_y_key ct_y_key), sl_y_key⟩) (c_y_key : PySem.W.codeIn K cd_y_key "y_key" = true) (k_y_key : PySem.W.keepIn K (.ref f_y_key) = true)
    (a_path_of : PySem.W.nsIn K mainGlobals "path_of" = some (some (.ref f_path_of))) (l_path_of : K.lookup f_path_of = some ⟨oc_path_of, od_path_of, .func (PySem.W.fnOf "path_of" "path_of" (defArgs s_path_of) (defBody s_path_of) (defScope s_path_of) .none kV_path_of dc_path_of pm_path_of an_path_of cd_path_of ct_path_of), sl_path_of⟩) (c_path_of : PySem.W.codeIn K cd_path_of "path_of" = true) (k_path_of : PySem.W.keepIn K (.ref f_path_of) = true)
    (a_fault_in_sides : PySem.W.nsIn K mainGlobals "fault_in_sides" = some (some (.ref f_fault_in_sides))) (l_fault_in_sides : K.lookup f_fault_in_sides = some ⟨oc_fault_in_sides, od_fault_in_sides, .func (PySem.W.fnOf "fault_in_sides" "fault_in_sides" (defArgs s_fault_in_sides) (defBody s_fault_in_sides) (defScope s_fault_in_sides) .none kV_fault_in_sides dc_fault_in_sides pm_fault_in_sides an_fault_in_sides cd_fault_in_sides ct_fault_in_sides), sl_fault_in_sides⟩) (c_fault_in_sides : PySem.W.codeIn K cd_fault_in_sides "fault_in_sides" = true) (k_fault_in_sides : PySem.W.keepIn K (.ref f_fault_in_sides) = true)
    (a_check_middle : PySem.W.nsIn K mainGlobals "check_middle" = some (some (.ref f_check_middle))) (l_check_middle : K.lookup f_check_middle = some ⟨oc_check_middle, od_check_middle, .func (PySem.W.fnOf "check_middle" "check_middle" (defArgs s_check_middle) (defBody s_check_middle) (defScope s_check_middle) .none kV_check_middle dc_check_middle pm_check_middle an_check_middle cd_check_middle ct_check_middle), sl_check_middle⟩) (c_check_middle : PySem.W.codeIn K cd_check_middle "check_middle" = true) (k_check_middle : PySem.W.keepIn K (.ref f_check_middle) = true)
    (a_grown_sides : PySem.W.nsIn K mainGlobals "grown_sides" = some (some (.ref f_grown_sides))) (l_grown_sides : K.lookup f_grown_sides = some ⟨oc_grown_sides, od_grown_sides, .func (PySem.W.fnOf "grown_sides" "grown_sides" (defArgs s_grown_sides) (defBody s_grown_sides) (defScope s_grown_sides) .none kV_grown_sides dc_grown_sides pm_grown_sides an_grown_sides cd_grown_sides ct_grown_sides), sl_grown_sides⟩) (c_grown_sides : PySem.W.codeIn K cd_grown_sides "grown_sides" = true) (k_grown_sides : PySem.W.keepIn K (.ref f_grown_sides) = true)
    (a_side_nodes : PySem.W.nsIn K mainGlobals "side_nodes" = some (some (.ref f_side_nodes))) (l_side_nodes : K.lookup f_side_nodes = some ⟨oc_side_nodes, od_side_nodes, .func (PySem.W.fnOf "side_nodes" "side_nodes" (defArgs s_side_nodes) (defBody s_side_nodes) (defScope s_side_nodes) .none kV_side_nodes dc_side_nodes pm_side_nodes an_side_nodes cd_side_nodes ct_side_nodes), sl_side_nodes⟩) (c_side_nodes : PySem.W.codeIn K cd_side_nodes "side_nodes" = true) (k_side_nodes : PySem.W.keepIn K (.ref f_side_nodes) = true)
    (a_side_points : PySem.W.nsIn K mainGlobals "side_points" = some (some (.ref f_side_points))) (l_side_points : K.lookup f_side_points = some ⟨oc_side_points, od_side_points, .func (PySem.W.fnOf "side_points" "side_points" (defArgs s_side_points) (defBody s_side_points) (defScope s_side_points) .none kV_side_points dc_side_points pm_side_points an_side_points cd_side_points ct_side_points), sl_side_points⟩) (c_side_points : PySem.W.codeIn K cd_side_points "side_points" = true) (k_side_points : PySem.W.keepIn K (.ref f_side_points) = true)
    (a_count_levels : PySem.W.nsIn K mainGlobals "count_levels" = some (some (.ref f_count_levels))) (l_count_levels : K.lookup f_count_levels = some ⟨oc_count_levels, od_count_levels, .func (PySem.W.fnOf "count_levels" "count_levels" (defArgs s_count_levels) (defBody s_count_levels) (defScope s_count_levels) .none kV_count_levels dc_count_levels pm_count_levels an_count_levels cd_count_levels ct_count_levels), sl_count_levels⟩) (c_count_levels : PySem.W.codeIn K cd_count_levels "count_levels" = true) (k_count_levels : PySem.W.keepIn K (.ref f_count_levels) = true)
    (a_way_by_sides : PySem.W.nsIn K mainGlobals "way_by_sides" = some (some (.ref f_way_by_sides))) (l_way_by_sides : K.lookup f_way_by_sides = some ⟨oc_way_by_sides, od_way_by_sides, .func (PySem.W.fnOf "way_by_sides" "way_by_sides" (defArgs s_way_by_sides) (defBody s_way_by_sides) (defScope s_way_by_sides) .none kV_way_by_sides dc_way_by_sides pm_way_by_sides an_way_by_sides cd_way_by_sides ct_way_by_sides), sl_way_by_sides⟩) (c_way_by_sides : PySem.W.codeIn K cd_way_by_sides "way_by_sides" = true) (k_way_by_sides : PySem.W.keepIn K (.ref f_way_by_sides) = true)
    (a_put_at_end : PySem.W.nsIn K mainGlobals "put_at_end" = some (some (.ref f_put_at_end))) (l_put_at_end : K.lookup f_put_at_end = some ⟨oc_put_at_end, od_put_at_end, .func (PySem.W.fnOf "put_at_end" "put_at_end" (defArgs s_put_at_end) (defBody s_put_at_end) (defScope s_put_at_end) .none kV_put_at_end dc_put_at_end pm_put_at_end an_put_at_end cd_put_at_end ct_put_at_end), sl_put_at_end⟩) (c_put_at_end : PySem.W.codeIn K cd_put_at_end "put_at_end" = true) (k_put_at_end : PySem.W.keepIn K (.ref f_put_at_end) = true)
    (a_without_top : PySem.W.nsIn K mainGlobals "without_top" = some (some (.ref f_without_top))) (l_without_top : K.lookup f_without_top = some ⟨oc_without_top, od_without_top, .func (PySem.W.fnOf "without_top" "without_top" (defArgs s_without_top) (defBody s_without_top) (defScope s_without_top) .none kV_without_top dc_without_top pm_without_top an_without_top cd_without_top ct_without_top), sl_without_top⟩) (c_without_top : PySem.W.codeIn K cd_without_top "without_top" = true) (k_without_top : PySem.W.keepIn K (.ref f_without_top) = true)
    (a_sizes_of : PySem.W.nsIn K mainGlobals "sizes_of" = some (some (.ref f_sizes_of))) (l_sizes_of : K.lookup f_sizes_of = some ⟨oc_sizes_of, od_sizes_of, .func (PySem.W.fnOf "sizes_of" "sizes_of" (defArgs s_sizes_of) (defBody s_sizes_of) (defScope s_sizes_of) .none kV_sizes_of dc_sizes_of pm_sizes_of an_sizes_of cd_sizes_of ct_sizes_of), sl_sizes_of⟩) (c_sizes_of : PySem.W.codeIn K cd_sizes_of "sizes_of" = true) (k_sizes_of : PySem.W.keepIn K (.ref f_sizes_of) = true)
    (a_middle : PySem.W.nsIn K mainGlobals "middle" = some (some (.ref f_middle))) (l_middle : K.lookup f_middle = some ⟨oc_middle, od_middle, .func (PySem.W.fnOf "middle" "middle" (defArgs s_middle) (defBody s_middle) (defScope s_middle) .none kV_middle dc_middle pm_middle an_middle cd_middle ct_middle), sl_middle⟩) (c_middle : PySem.W.codeIn K cd_middle "middle" = true) (k_middle : PySem.W.keepIn K (.ref f_middle) = true)
    (a_is_even : PySem.W.nsIn K mainGlobals "is_even" = some (some (.ref f_is_even))) (l_is_even : K.lookup f_is_even = some ⟨oc_is_even, od_is_even, .func (PySem.W.fnOf "is_even" "is_even" (defArgs s_is_even) (defBody s_is_even) (defScope s_is_even) .none kV_is_even dc_is_even pm_is_even an_is_even cd_is_even ct_is_even), sl_is_even⟩) (c_is_even : PySem.W.codeIn K cd_is_even "is_even" = true) (k_is_even : PySem.W.keepIn K (.ref f_is_even) = true)
    (a_in_order : PySem.W.nsIn K mainGlobals "in_order" = some (some (.ref f_in_order))) (l_in_order : K.lookup f_in_order = some ⟨oc_in_order, od_in_order, .func (PySem.W.fnOf "in_order" "in_order" (defArgs s_in_order) (defBody s_in_order) (defScope s_in_order) .none kV_in_order dc_in_order pm_in_order an_in_order cd_in_order ct_in_order), sl_in_order⟩) (c_in_order : PySem.W.codeIn K cd_in_order "in_order" = true) (k_in_order : PySem.W.keepIn K (.ref f_in_order) = true)
    (a_height : PySem.W.nsIn K mainGlobals "height" = some (some (.ref f_height))) (l_height : K.lookup f_height = some ⟨oc_height, od_height, .func (PySem.W.fnOf "height" "height" (defArgs s_height) (defBody s_height) (defScope s_height) .none kV_height dc_height pm_height an_height cd_height ct_height), sl_height⟩) (c_height : PySem.W.codeIn K cd_height "height" = true) (k_height : PySem.W.keepIn K (.ref f_height) = true)
    (a_taken : PySem.W.nsIn K mainGlobals "taken" = some (some (.ref f_taken))) (l_taken : K.lookup f_taken = some ⟨oc_taken, od_taken, .func (PySem.W.fnOf "taken" "taken" (defArgs s_taken) (defBody s_taken) (defScope s_taken) .none kV_taken dc_taken pm_taken an_taken cd_taken ct_taken), sl_taken⟩) (c_taken : PySem.W.codeIn K cd_taken "taken" = true) (k_taken : PySem.W.keepIn K (.ref f_taken) = true)
    (a_law_mixed : PySem.W.nsIn K mainGlobals "_law_mixed" = some (some (.ref f_law_mixed))) (l_law_mixed : K.lookup f_law_mixed = some ⟨oc_law_mixed, od_law_mixed, .func (PySem.W.fnOf "_law_mixed" "_law_mixed" (defArgs s_law_mixed) (defBody s_law_mixed) (defScope s_law_mixed) .none kV_law_mixed dc_law_mixed pm_law_mixed an_law_mixed cd_law_mixed ct_law_mixed), sl_law_mixed⟩) (c_law_mixed : PySem.W.codeIn K cd_law_mixed "_law_mixed" = true) (k_law_mixed : PySem.W.keepIn K (.ref f_law_mixed) = true)
    (a_law_source : PySem.W.nsIn K mainGlobals "_law_source" = some (some (.ref f_law_source))) (l_law_source : K.lookup f_law_source = some ⟨oc_law_source, od_law_source, .func (PySem.W.fnOf "_law_source" "_law_source" (defArgs s_law_source) (defBody s_law_source) (defScope s_law_source) .none kV_law_source dc_law_source pm_law_source an_law_source cd_law_source ct_law_source), sl_law_source⟩) (c_law_source : PySem.W.codeIn K cd_law_source "_law_source" = true) (k_law_source : PySem.W.keepIn K (.ref f_law_source) = true)
    (a_law_take : PySem.W.nsIn K mainGlobals "_law_take" = some (some (.ref f_law_take))) (l_law_take : K.lookup f_law_take = some ⟨oc_law_take, od_law_take, .func (PySem.W.fnOf "_law_take" "_law_take" (defArgs s_law_take) (defBody s_law_take) (defScope s_law_take) .none kV_law_take dc_law_take pm_law_take an_law_take cd_law_take ct_law_take), sl_law_take⟩) (c_law_take : PySem.W.codeIn K cd_law_take "_law_take" = true) (k_law_take : PySem.W.keepIn K (.ref f_law_take) = true)
    (a_law_pick : PySem.W.nsIn K mainGlobals "_law_pick" = some (some (.ref f_law_pick))) (l_law_pick : K.lookup f_law_pick = some ⟨oc_law_pick, od_law_pick, .func (PySem.W.fnOf "_law_pick" "_law_pick" (defArgs s_law_pick) (defBody s_law_pick) (defScope s_law_pick) .none kV_law_pick dc_law_pick pm_law_pick an_law_pick cd_law_pick ct_law_pick), sl_law_pick⟩) (c_law_pick : PySem.W.codeIn K cd_law_pick "_law_pick" = true) (k_law_pick : PySem.W.keepIn K (.ref f_law_pick) = true)
    (a_law_spots : PySem.W.nsIn K mainGlobals "_law_spots" = some (some (.ref f_law_spots))) (l_law_spots : K.lookup f_law_spots = some ⟨oc_law_spots, od_law_spots, .func (PySem.W.fnOf "_law_spots" "_law_spots" (defArgs s_law_spots) (defBody s_law_spots) (defScope s_law_spots) .none kV_law_spots dc_law_spots pm_law_spots an_law_spots cd_law_spots ct_law_spots), sl_law_spots⟩) (c_law_spots : PySem.W.codeIn K cd_law_spots "_law_spots" = true) (k_law_spots : PySem.W.keepIn K (.ref f_law_spots) = true)
    (a_law_shuffled : PySem.W.nsIn K mainGlobals "_law_shuffled" = some (some (.ref f_law_shuffled))) (l_law_shuffled : K.lookup f_law_shuffled = some ⟨oc_law_shuffled, od_law_shuffled, .func (PySem.W.fnOf "_law_shuffled" "_law_shuffled" (defArgs s_law_shuffled) (defBody s_law_shuffled) (defScope s_law_shuffled) .none kV_law_shuffled dc_law_shuffled pm_law_shuffled an_law_shuffled cd_law_shuffled ct_law_shuffled), sl_law_shuffled⟩) (c_law_shuffled : PySem.W.codeIn K cd_law_shuffled "_law_shuffled" = true) (k_law_shuffled : PySem.W.keepIn K (.ref f_law_shuffled) = true)
    (a_law_moved : PySem.W.nsIn K mainGlobals "_law_moved" = some (some (.ref f_law_moved))) (l_law_moved : K.lookup f_law_moved = some ⟨oc_law_moved, od_law_moved, .func (PySem.W.fnOf "_law_moved" "_law_moved" (defArgs s_law_moved) (defBody s_law_moved) (defScope s_law_moved) .none kV_law_moved dc_law_moved pm_law_moved an_law_moved cd_law_moved ct_law_moved), sl_law_moved⟩) (c_law_moved : PySem.W.codeIn K cd_law_moved "_law_moved" = true) (k_law_moved : PySem.W.keepIn K (.ref f_law_moved) = true)
    (a_law_mirrored : PySem.W.nsIn K mainGlobals "_law_mirrored" = some (some (.ref f_law_mirrored))) (l_law_mirrored : K.lookup f_law_mirrored = some ⟨oc_law_mirrored, od_law_mirrored, .func (PySem.W.fnOf "_law_mirrored" "_law_mirrored" (defArgs s_law_mirrored) (defBody s_law_mirrored) (defScope s_law_mirrored) .none kV_law_mirrored dc_law_mirrored pm_law_mirrored an_law_mirrored cd_law_mirrored ct_law_mirrored), sl_law_mirrored⟩) (c_law_mirrored : PySem.W.codeIn K cd_law_mirrored "_law_mirrored" = true) (k_law_mirrored : PySem.W.keepIn K (.ref f_law_mirrored) = true)
    (a_law_turned_about : PySem.W.nsIn K mainGlobals "_law_turned_about" = some (some (.ref f_law_turned_about))) (l_law_turned_about : K.lookup f_law_turned_about = some ⟨oc_law_turned_about, od_law_turned_about, .func (PySem.W.fnOf "_law_turned_about" "_law_turned_about" (defArgs s_law_turned_about) (defBody s_law_turned_about) (defScope s_law_turned_about) .none kV_law_turned_about dc_law_turned_about pm_law_turned_about an_law_turned_about cd_law_turned_about ct_law_turned_about), sl_law_turned_about⟩) (c_law_turned_about : PySem.W.codeIn K cd_law_turned_about "_law_turned_about" = true) (k_law_turned_about : PySem.W.keepIn K (.ref f_law_turned_about) = true)
    (a_law : PySem.W.nsIn K mainGlobals "law" = some (some (.ref f_law))) (l_law : K.lookup f_law = some ⟨oc_law, od_law, .func (PySem.W.fnOf "law" "law" (defArgs s_law) (defBody s_law) (defScope s_law) .none kV_law dc_law pm_law an_law cd_law ct_law), sl_law⟩) (c_law : PySem.W.codeIn K cd_law "law" = true) (k_law : PySem.W.keepIn K (.ref f_law) = true)
    (w_FARTHEST_COORDINATE : PySem.W.nsIn K mainGlobals "FARTHEST_COORDINATE" = some (some (.int 1000000000000000000000000000000 tk_FARTHEST_COORDINATE)))
    (w_MOST_POINTS : PySem.W.nsIn K mainGlobals "MOST_POINTS" = some (some (.int 500 tk_MOST_POINTS)))
    (w_MOST_NODES : PySem.W.nsIn K mainGlobals "MOST_NODES" = some (some (.int 500 tk_MOST_NODES)))
    (z_abs : PySem.W.nsIn K mainGlobals "abs" = some none)
    (z_bool : PySem.W.nsIn K mainGlobals "bool" = some none)
    (z_enumerate : PySem.W.nsIn K mainGlobals "enumerate" = some none)
    (z_int : PySem.W.nsIn K mainGlobals "int" = some none)
    (z_isinstance : PySem.W.nsIn K mainGlobals "isinstance" = some none)
    (z_len : PySem.W.nsIn K mainGlobals "len" = some none)
    (z_list : PySem.W.nsIn K mainGlobals "list" = some none)
    (z_max : PySem.W.nsIn K mainGlobals "max" = some none)
    (z_range : PySem.W.nsIn K mainGlobals "range" = some none)
    (z_set : PySem.W.nsIn K mainGlobals "set" = some none)
    (z_sorted : PySem.W.nsIn K mainGlobals "sorted" = some none)
    (z_tuple : PySem.W.nsIn K mainGlobals "tuple" = some none)
    (z_super : PySem.W.nsIn K mainGlobals "super" = some none) (z_opq : PySem.W.nsIn K cStatics "thirdparty.any" = some none)
    (a0_InvalidPoint : PySem.W.nsIn K mainGlobals "InvalidPoint" = some (some (.ref a_InvalidPoint)))
    (a0_InvalidPoints : PySem.W.nsIn K mainGlobals "InvalidPoints" = some (some (.ref a_InvalidPoints)))
    (a0_InvalidTree : PySem.W.nsIn K mainGlobals "InvalidTree" = some (some (.ref a_InvalidTree)))
    (a0_NotThere : PySem.W.nsIn K mainGlobals "NotThere" = some (some (.ref a_NotThere)))
    (xL_InvalidPoint : K.lookup a_InvalidPoint = some (excClassObj nm_InvalidPoint q_InvalidPoint a_InvalidPoint N_InvalidPoint bs_InvalidPoint bm_InvalidPoint true sn_InvalidPoint sub_InvalidPoint ab_InvalidPoint col_InvalidPoint dd_InvalidPoint m0_InvalidPoint m1_InvalidPoint m2_InvalidPoint m3_InvalidPoint m5_InvalidPoint "ValueError.__new__"))
    (sa_InvalidPoint : PySem.W.findIn K (.ref a_InvalidPoint) "__setattr__" = some (some (.builtin "object.__setattr__")))
    (no_InvalidPoint : PySem.W.findIn K (.ref a_InvalidPoint) "value" = some none)
    (eC_InvalidPoint : PySem.W.subIn K (.ref a_InvalidPoint) (.type "BaseException") = some true)
    (tC_InvalidPoint : PySem.W.typeIn K (.ref a_InvalidPoint) = some (.type "type"))
    (kC_InvalidPoint : PySem.W.keepIn K (.ref a_InvalidPoint) = true)
    (mC_InvalidPoint : PySem.W.mroIn K a_InvalidPoint (.ref a_InvalidPoint) = some true)
    (uC_InvalidPoint : PySem.W.ks_superIn K a_InvalidPoint a_InvalidPoint "__init__" = some (some (.builtin "ValueError.__init__")))
    (vC_InvalidPoint : PySem.W.subIn K (.ref a_InvalidPoint) (.type "ValueError") = some true)
    (iC_InvalidPoint : PySem.W.findIn K (.ref a_InvalidPoint) "__init__" = some (some (.ref fI_InvalidPoint)))
    (tI_InvalidPoint : PySem.W.typeIn K (.ref fI_InvalidPoint) = some (.type "function"))
    (lI_InvalidPoint : K.lookup fI_InvalidPoint = some ⟨oc_InvalidPoint, od_InvalidPoint, .func (PySem.W.ksFn "__init__" "InvalidPoint.__init__" (defArgs c_InvalidPoint) (defBody c_InvalidPoint) (defScope c_InvalidPoint) .none kV_InvalidPoint doc_InvalidPoint pm_InvalidPoint an_InvalidPoint (.ref cda_InvalidPoint) ct_InvalidPoint cc_InvalidPoint), osl_InvalidPoint⟩)
    (cI_InvalidPoint : PySem.W.codeIn K (.ref cda_InvalidPoint) "InvalidPoint.__init__" = true)
    (lD_InvalidPoint : K.lookup cda_InvalidPoint = some ⟨ccl_InvalidPoint, cdd_InvalidPoint, .fields vs_InvalidPoint, ccs_InvalidPoint⟩)
    (lC_InvalidPoint : K.lookup cc_InvalidPoint = some ⟨cl_InvalidPoint, cld_InvalidPoint, .cell (some (.ref a_InvalidPoint)), csl_InvalidPoint⟩)
    (bM_InvalidPoint : PySem.HandSPX.refsVE bm_InvalidPoint = true)
    (vS_InvalidPoint : vs_InvalidPoint[2]? = some (.str file_InvalidPoint tf_InvalidPoint))
    (fL_InvalidPoint : ((l.prog.main.file : Str) == file_InvalidPoint) = true)
    (tP_InvalidPoint : (l.prog.main.scope.names.lookup ("super" : Str)).isSome = false)
    (xL_InvalidPoints : K.lookup a_InvalidPoints = some (excClassObj nm_InvalidPoints q_InvalidPoints a_InvalidPoints N_InvalidPoints bs_InvalidPoints bm_InvalidPoints true sn_InvalidPoints sub_InvalidPoints ab_InvalidPoints col_InvalidPoints dd_InvalidPoints m0_InvalidPoints m1_InvalidPoints m2_InvalidPoints m3_InvalidPoints m5_InvalidPoints "ValueError.__new__"))
    (sa_InvalidPoints : PySem.W.findIn K (.ref a_InvalidPoints) "__setattr__" = some (some (.builtin "object.__setattr__")))
    (no_InvalidPoints : PySem.W.findIn K (.ref a_InvalidPoints) "index" = some none)
    (eC_InvalidPoints : PySem.W.subIn K (.ref a_InvalidPoints) (.type "BaseException") = some true)
    (tC_InvalidPoints : PySem.W.typeIn K (.ref a_InvalidPoints) = some (.type "type"))
    (kC_InvalidPoints : PySem.W.keepIn K (.ref a_InvalidPoints) = true)
    (mC_InvalidPoints : PySem.W.mroIn K a_InvalidPoints (.ref a_InvalidPoints) = some true)
    (uC_InvalidPoints : PySem.W.ks_superIn K a_InvalidPoints a_InvalidPoints "__init__" = some (some (.builtin "ValueError.__init__")))
    (vC_InvalidPoints : PySem.W.subIn K (.ref a_InvalidPoints) (.type "ValueError") = some true)
    (iC_InvalidPoints : PySem.W.findIn K (.ref a_InvalidPoints) "__init__" = some (some (.ref fI_InvalidPoints)))
    (tI_InvalidPoints : PySem.W.typeIn K (.ref fI_InvalidPoints) = some (.type "function"))
    (lI_InvalidPoints : K.lookup fI_InvalidPoints = some ⟨oc_InvalidPoints, od_InvalidPoints, .func (PySem.W.ksFn "__init__" "InvalidPoints.__init__" (defArgs c_InvalidPoints) (defBody c_InvalidPoints) (defScope c_InvalidPoints) .none kV_InvalidPoints doc_InvalidPoints pm_InvalidPoints an_InvalidPoints (.ref cda_InvalidPoints) ct_InvalidPoints cc_InvalidPoints), osl_InvalidPoints⟩)
    (cI_InvalidPoints : PySem.W.codeIn K (.ref cda_InvalidPoints) "InvalidPoints.__init__" = true)
    (lD_InvalidPoints : K.lookup cda_InvalidPoints = some ⟨ccl_InvalidPoints, cdd_InvalidPoints, .fields vs_InvalidPoints, ccs_InvalidPoints⟩)
    (lC_InvalidPoints : K.lookup cc_InvalidPoints = some ⟨cl_InvalidPoints, cld_InvalidPoints, .cell (some (.ref a_InvalidPoints)), csl_InvalidPoints⟩)
    (bM_InvalidPoints : PySem.HandSPX.refsVE bm_InvalidPoints = true)
    (vS_InvalidPoints : vs_InvalidPoints[2]? = some (.str file_InvalidPoints tf_InvalidPoints))
    (fL_InvalidPoints : ((l.prog.main.file : Str) == file_InvalidPoints) = true)
    (tP_InvalidPoints : (l.prog.main.scope.names.lookup ("super" : Str)).isSome = false)
    (xL_InvalidTree : K.lookup a_InvalidTree = some (excClassObj nm_InvalidTree q_InvalidTree a_InvalidTree N_InvalidTree bs_InvalidTree bm_InvalidTree true sn_InvalidTree sub_InvalidTree ab_InvalidTree col_InvalidTree dd_InvalidTree m0_InvalidTree m1_InvalidTree m2_InvalidTree m3_InvalidTree m5_InvalidTree "ValueError.__new__"))
    (sa_InvalidTree : PySem.W.findIn K (.ref a_InvalidTree) "__setattr__" = some (some (.builtin "object.__setattr__")))
    (no_InvalidTree : PySem.W.findIn K (.ref a_InvalidTree) "path" = some none)
    (eC_InvalidTree : PySem.W.subIn K (.ref a_InvalidTree) (.type "BaseException") = some true)
    (tC_InvalidTree : PySem.W.typeIn K (.ref a_InvalidTree) = some (.type "type"))
    (kC_InvalidTree : PySem.W.keepIn K (.ref a_InvalidTree) = true)
    (mC_InvalidTree : PySem.W.mroIn K a_InvalidTree (.ref a_InvalidTree) = some true)
    (uC_InvalidTree : PySem.W.ks_superIn K a_InvalidTree a_InvalidTree "__init__" = some (some (.builtin "ValueError.__init__")))
    (vC_InvalidTree : PySem.W.subIn K (.ref a_InvalidTree) (.type "ValueError") = some true)
    (iC_InvalidTree : PySem.W.findIn K (.ref a_InvalidTree) "__init__" = some (some (.ref fI_InvalidTree)))
    (tI_InvalidTree : PySem.W.typeIn K (.ref fI_InvalidTree) = some (.type "function"))
    (lI_InvalidTree : K.lookup fI_InvalidTree = some ⟨oc_InvalidTree, od_InvalidTree, .func (PySem.W.ksFn "__init__" "InvalidTree.__init__" (defArgs c_InvalidTree) (defBody c_InvalidTree) (defScope c_InvalidTree) .none kV_InvalidTree doc_InvalidTree pm_InvalidTree an_InvalidTree (.ref cda_InvalidTree) ct_InvalidTree cc_InvalidTree), osl_InvalidTree⟩)
    (cI_InvalidTree : PySem.W.codeIn K (.ref cda_InvalidTree) "InvalidTree.__init__" = true)
    (lD_InvalidTree : K.lookup cda_InvalidTree = some ⟨ccl_InvalidTree, cdd_InvalidTree, .fields vs_InvalidTree, ccs_InvalidTree⟩)
    (lC_InvalidTree : K.lookup cc_InvalidTree = some ⟨cl_InvalidTree, cld_InvalidTree, .cell (some (.ref a_InvalidTree)), csl_InvalidTree⟩)
    (bM_InvalidTree : PySem.HandSPX.refsVE bm_InvalidTree = true)
    (vS_InvalidTree : vs_InvalidTree[2]? = some (.str file_InvalidTree tf_InvalidTree))
    (fL_InvalidTree : ((l.prog.main.file : Str) == file_InvalidTree) = true)
    (tP_InvalidTree : (l.prog.main.scope.names.lookup ("super" : Str)).isSome = false)
    (xL_NotThere : K.lookup a_NotThere = some (excClassObj nm_NotThere q_NotThere a_NotThere N_NotThere bs_NotThere bm_NotThere true sn_NotThere sub_NotThere ab_NotThere col_NotThere dd_NotThere m0_NotThere m1_NotThere m2_NotThere m3_NotThere m5_NotThere "ValueError.__new__"))
    (sa_NotThere : PySem.W.findIn K (.ref a_NotThere) "__setattr__" = some (some (.builtin "object.__setattr__")))
    (no_NotThere : PySem.W.findIn K (.ref a_NotThere) "point" = some none)
    (eC_NotThere : PySem.W.subIn K (.ref a_NotThere) (.type "BaseException") = some true)
    (tC_NotThere : PySem.W.typeIn K (.ref a_NotThere) = some (.type "type"))
    (kC_NotThere : PySem.W.keepIn K (.ref a_NotThere) = true)
    (mC_NotThere : PySem.W.mroIn K a_NotThere (.ref a_NotThere) = some true)
    (uC_NotThere : PySem.W.ks_superIn K a_NotThere a_NotThere "__init__" = some (some (.builtin "ValueError.__init__")))
    (vC_NotThere : PySem.W.subIn K (.ref a_NotThere) (.type "ValueError") = some true)
    (iC_NotThere : PySem.W.findIn K (.ref a_NotThere) "__init__" = some (some (.ref fI_NotThere)))
    (tI_NotThere : PySem.W.typeIn K (.ref fI_NotThere) = some (.type "function"))
    (lI_NotThere : K.lookup fI_NotThere = some ⟨oc_NotThere, od_NotThere, .func (PySem.W.ksFn "__init__" "NotThere.__init__" (defArgs c_NotThere) (defBody c_NotThere) (defScope c_NotThere) .none kV_NotThere doc_NotThere pm_NotThere an_NotThere (.ref cda_NotThere) ct_NotThere cc_NotThere), osl_NotThere⟩)
    (cI_NotThere : PySem.W.codeIn K (.ref cda_NotThere) "NotThere.__init__" = true)
    (lD_NotThere : K.lookup cda_NotThere = some ⟨ccl_NotThere, cdd_NotThere, .fields vs_NotThere, ccs_NotThere⟩)
    (lC_NotThere : K.lookup cc_NotThere = some ⟨cl_NotThere, cld_NotThere, .cell (some (.ref a_NotThere)), csl_NotThere⟩)
    (bM_NotThere : PySem.HandSPX.refsVE bm_NotThere = true)
    (vS_NotThere : vs_NotThere[2]? = some (.str file_NotThere tf_NotThere))
    (fL_NotThere : ((l.prog.main.file : Str) == file_NotThere) = true)
    (tP_NotThere : (l.prog.main.scope.names.lookup ("super" : Str)).isSome = false)
    (w_ALL_KEYS : PySem.W.nsIn K mainGlobals "ALL_KEYS" = some (some (.ref aALL_KEYS)))
    (u_aALL_KEYS : K.lookup aALL_KEYS = some ⟨.type "tuple", tod_aALL_KEYS, .seq #[.ref aALL_KEYS_0, .ref aALL_KEYS_1] tn_aALL_KEYS, tsl_aALL_KEYS⟩)
    (u_aALL_KEYS_0 : K.lookup aALL_KEYS_0 = some ⟨.type "tuple", tod_aALL_KEYS_0, .seq #[.int (-10000000000000000000000000000000) t_aALL_KEYS_0_0, .int 0 t_aALL_KEYS_0_1] tn_aALL_KEYS_0, tsl_aALL_KEYS_0⟩)
    (u_aALL_KEYS_1 : K.lookup aALL_KEYS_1 = some ⟨.type "tuple", tod_aALL_KEYS_1, .seq #[.int 10000000000000000000000000000000 t_aALL_KEYS_1_0, .int 0 t_aALL_KEYS_1_1] tn_aALL_KEYS_1, tsl_aALL_KEYS_1⟩) :
    ∃ fd : FuncData, (∀ (s : Shared) (v : Value), BindsTo s fd ⟨[v], []⟩ [("_law_script", v)]) ∧ ∀ base : Heap, K.In base → base.Ns mainGlobals mg → FnOk l.prog w K mg base (L2.CX l.prog w) 12 fa fd ["_law_script"] (spTop ⟨K, l.prog, w⟩ m_law) := by
  have e := hfa.symm.trans (PySem.W.mg_of X G a_law)
  cases e
  have F_is_integer := fun_mk (st := s_is_integer) l_is_integer c_is_integer k_is_integer
  have b_is_integer := F_is_integer.binds (ps := ["value"]) fun _ _ _ _ _ _ us hl => match us, hl with | [_], _ => rfl
  have F_is_coordinate := fun_mk (st := s_is_coordinate) l_is_coordinate c_is_coordinate k_is_coordinate
  have b_is_coordinate := F_is_coordinate.binds (ps := ["value"]) fun _ _ _ _ _ _ us hl => match us, hl with | [_], _ => rfl
  have F_is_point := fun_mk (st := s_is_point) l_is_point c_is_point k_is_point
  have b_is_point := F_is_point.binds (ps := ["value"]) fun _ _ _ _ _ _ us hl => match us, hl with | [_], _ => rfl
  have F_check_point := fun_mk (st := s_check_point) l_check_point c_check_point k_check_point
  have b_check_point := F_check_point.binds (ps := ["value"]) fun _ _ _ _ _ _ us hl => match us, hl with | [_], _ => rfl
  have F_check_points := fun_mk (st := s_check_points) l_check_points c_check_points k_check_points
  have b_check_points := F_check_points.binds (ps := ["value"]) fun _ _ _ _ _ _ us hl => match us, hl with | [_], _ => rfl
  have F_y_key := fun_mk (st := s_y_key) l_y_key c_y_key k_y_key
  have b_y_key := F_y_key.binds (ps := ["point"]) fun _ _ _ _ _ _ us hl => match us, hl with | [_], _ => rfl
  have F_path_of := fun_mk (st := s_path_of) l_path_of c_path_of k_path_of
  have b_path_of := F_path_of.binds (ps := ["steps"]) fun _ _ _ _ _ _ us hl => match us, hl with | [_], _ => rfl
  have F_fault_in_sides := fun_mk (st := s_fault_in_sides) l_fault_in_sides c_fault_in_sides k_fault_in_sides
  have b_fault_in_sides := F_fault_in_sides.binds (ps := ["value"]) fun _ _ _ _ _ _ us hl => match us, hl with | [_], _ => rfl
  have F_check_middle := fun_mk (st := s_check_middle) l_check_middle c_check_middle k_check_middle
  have b_check_middle := F_check_middle.binds (ps := ["value"]) fun _ _ _ _ _ _ us hl => match us, hl with | [_], _ => rfl
  have F_grown_sides := fun_mk (st := s_grown_sides) l_grown_sides c_grown_sides k_grown_sides
  have b_grown_sides := F_grown_sides.binds (ps := ["points", "axis"]) fun _ _ _ _ _ _ us hl => match us, hl with | [_, _], _ => rfl
  have F_side_nodes := fun_mk (st := s_side_nodes) l_side_nodes c_side_nodes k_side_nodes
  have b_side_nodes := F_side_nodes.binds (ps := ["tree"]) fun _ _ _ _ _ _ us hl => match us, hl with | [_], _ => rfl
  have F_side_points := fun_mk (st := s_side_points) l_side_points c_side_points k_side_points
  have b_side_points := F_side_points.binds (ps := ["tree"]) fun _ _ _ _ _ _ us hl => match us, hl with | [_], _ => rfl
  have F_count_levels := fun_mk (st := s_count_levels) l_count_levels c_count_levels k_count_levels
  have b_count_levels := F_count_levels.binds (ps := ["tree"]) fun _ _ _ _ _ _ us hl => match us, hl with | [_], _ => rfl
  have F_way_by_sides := fun_mk (st := s_way_by_sides) l_way_by_sides c_way_by_sides k_way_by_sides
  have b_way_by_sides := F_way_by_sides.binds (ps := ["tree", "point"]) fun _ _ _ _ _ _ us hl => match us, hl with | [_, _], _ => rfl
  have F_put_at_end := fun_mk (st := s_put_at_end) l_put_at_end c_put_at_end k_put_at_end
  have b_put_at_end := F_put_at_end.binds (ps := ["above", "tree"]) fun _ _ _ _ _ _ us hl => match us, hl with | [_, _], _ => rfl
  have F_without_top := fun_mk (st := s_without_top) l_without_top c_without_top k_without_top
  have b_without_top := F_without_top.binds (ps := ["above", "node"]) fun _ _ _ _ _ _ us hl => match us, hl with | [_, _], _ => rfl
  have F_sizes_of := fun_mk (st := s_sizes_of) l_sizes_of c_sizes_of k_sizes_of
  have b_sizes_of := F_sizes_of.binds (ps := ["rows"]) fun _ _ _ _ _ _ us hl => match us, hl with | [_], _ => rfl
  have F_middle := fun_mk (st := s_middle) l_middle c_middle k_middle
  have b_middle := F_middle.binds (ps := ["points"]) fun _ _ _ _ _ _ us hl => match us, hl with | [_], _ => rfl
  have F_is_even := fun_mk (st := s_is_even) l_is_even c_is_even k_is_even
  have b_is_even := F_is_even.binds (ps := ["tree"]) fun _ _ _ _ _ _ us hl => match us, hl with | [_], _ => rfl
  have F_in_order := fun_mk (st := s_in_order) l_in_order c_in_order k_in_order
  have b_in_order := F_in_order.binds (ps := ["tree"]) fun _ _ _ _ _ _ us hl => match us, hl with | [_], _ => rfl
  have F_height := fun_mk (st := s_height) l_height c_height k_height
  have b_height := F_height.binds (ps := ["tree"]) fun _ _ _ _ _ _ us hl => match us, hl with | [_], _ => rfl
  have F_taken := fun_mk (st := s_taken) l_taken c_taken k_taken
  have b_taken := F_taken.binds (ps := ["tree", "point"]) fun _ _ _ _ _ _ us hl => match us, hl with | [_, _], _ => rfl
  have F_law_mixed := fun_mk (st := s_law_mixed) l_law_mixed c_law_mixed k_law_mixed
  have b_law_mixed := F_law_mixed.binds (ps := ["_law_cell", "_law_draw"]) fun _ _ _ _ _ _ us hl => match us, hl with | [_, _], _ => rfl
  have F_law_source := fun_mk (st := s_law_source) l_law_source c_law_source k_law_source
  have b_law_source := F_law_source.binds (ps := ["_law_cell"]) fun _ _ _ _ _ _ us hl => match us, hl with | [_], _ => rfl
  have F_law_take := fun_mk (st := s_law_take) l_law_take c_law_take k_law_take
  have b_law_take := F_law_take.binds (ps := ["_law_source_here", "_law_bound"]) fun _ _ _ _ _ _ us hl => match us, hl with | [_, _], _ => rfl
  have F_law_pick := fun_mk (st := s_law_pick) l_law_pick c_law_pick k_law_pick
  have b_law_pick := F_law_pick.binds (ps := ["_law_source_here", "_law_some"]) fun _ _ _ _ _ _ us hl => match us, hl with | [_, _], _ => rfl
  have F_law_spots := fun_mk (st := s_law_spots) l_law_spots c_law_spots k_law_spots
  have b_law_spots := F_law_spots.binds (ps := ["_law_source_here", "_law_most"]) fun _ _ _ _ _ _ us hl => match us, hl with | [_, _], _ => rfl
  have F_law_shuffled := fun_mk (st := s_law_shuffled) l_law_shuffled c_law_shuffled k_law_shuffled
  have b_law_shuffled := F_law_shuffled.binds (ps := ["_law_source_here", "_law_some"]) fun _ _ _ _ _ _ us hl => match us, hl with | [_, _], _ => rfl
  have F_law_moved := fun_mk (st := s_law_moved) l_law_moved c_law_moved k_law_moved
  have b_law_moved := F_law_moved.binds (ps := ["_law_wood", "_law_a", "_law_b", "_law_grow"]) fun _ _ _ _ _ _ us hl => match us, hl with | [_, _, _, _], _ => rfl
  have F_law_mirrored := fun_mk (st := s_law_mirrored) l_law_mirrored c_law_mirrored k_law_mirrored
  have b_law_mirrored := F_law_mirrored.binds (ps := ["_law_wood"]) fun _ _ _ _ _ _ us hl => match us, hl with | [_], _ => rfl
  have F_law_turned_about := fun_mk (st := s_law_turned_about) l_law_turned_about c_law_turned_about k_law_turned_about
  have b_law_turned_about := F_law_turned_about.binds (ps := ["_law_wood"]) fun _ _ _ _ _ _ us hl => match us, hl with | [_], _ => rfl
  have F_law := fun_mk (st := s_law) l_law c_law k_law
  have b_law := F_law.binds (ps := ["_law_script"]) fun _ _ _ _ _ _ us hl => match us, hl with | [_], _ => rfl
  refine ⟨PySem.W.fnOf "law" "law" (defArgs s_law) (defBody s_law) (defScope s_law) .none kV_law dc_law pm_law an_law cd_law ct_law, fun s v => .of_eq rfl, fun base _ _ => ?_⟩
  exact fn_imp (d_law (⟨_, _, F_is_integer, b_is_integer, PySem.W.mg_of X G a_is_integer, _, _, F_is_coordinate, b_is_coordinate, PySem.W.mg_of X G a_is_coordinate, _, _, F_is_point, b_is_point, PySem.W.mg_of X G a_is_point, _, _, F_check_point, b_check_point, PySem.W.mg_of X G a_check_point, _, _, F_check_points, b_check_points, PySem.W.mg_of X G a_check_points, _, _, F_y_key, b_y_key, PySem.W.mg_of X G a_y_key, _, _, F_path_of, b_path_of, PySem.W.mg_of X G a_path_of, _, _, F_fault_in_sides, b_fault_in_sides, PySem.W.mg_of X G a_fault_in_sides, _, _, F_check_middle, b_check_middle, PySem.W.mg_of X G a_check_middle, _, _, F_grown_sides, b_grown_sides, PySem.W.mg_of X G a_grown_sides, _, _, F_side_nodes, b_side_nodes, PySem.W.mg_of X G a_side_nodes, _, _, F_side_points, b_side_points, PySem.W.mg_of X G a_side_points, _, _, F_count_levels, b_count_levels, PySem.W.mg_of X G a_count_levels, _, _, F_way_by_sides, b_way_by_sides, PySem.W.mg_of X G a_way_by_sides, _, _, F_put_at_end, b_put_at_end, PySem.W.mg_of X G a_put_at_end, _, _, F_without_top, b_without_top, PySem.W.mg_of X G a_without_top, _, _, F_sizes_of, b_sizes_of, PySem.W.mg_of X G a_sizes_of, _, _, F_middle, b_middle, PySem.W.mg_of X G a_middle, _, _, F_is_even, b_is_even, PySem.W.mg_of X G a_is_even, _, _, F_in_order, b_in_order, PySem.W.mg_of X G a_in_order, _, _, F_height, b_height, PySem.W.mg_of X G a_height, _, _, F_taken, b_taken, PySem.W.mg_of X G a_taken, _, _, F_law_mixed, b_law_mixed, PySem.W.mg_of X G a_law_mixed, _, _, F_law_source, b_law_source, PySem.W.mg_of X G a_law_source, _, _, F_law_take, b_law_take, PySem.W.mg_of X G a_law_take, _, _, F_law_pick, b_law_pick, PySem.W.mg_of X G a_law_pick, _, _, F_law_spots, b_law_spots, PySem.W.mg_of X G a_law_spots, _, _, F_law_shuffled, b_law_shuffled, PySem.W.mg_of X G a_law_shuffled, _, _, F_law_moved, b_law_moved, PySem.W.mg_of X G a_law_moved, _, _, F_law_mirrored, b_law_mirrored, PySem.W.mg_of X G a_law_mirrored, _, _, F_law_turned_about, b_law_turned_about, PySem.W.mg_of X G a_law_turned_about, _, _, F_law, b_law, PySem.W.mg_of X G a_law, tk_FARTHEST_COORDINATE, PySem.W.mg_of X G w_FARTHEST_COORDINATE, tk_MOST_POINTS, PySem.W.mg_of X G w_MOST_POINTS, tk_MOST_NODES, PySem.W.mg_of X G w_MOST_NODES, aALL_KEYS, PySem.W.mg_of X G w_ALL_KEYS, (tupW (K := ⟨K, l.prog, w⟩) (xs := [(.tup [(.int (-10000000000000000000000000000000)), (.int 0)]), (.tup [(.int 10000000000000000000000000000000), (.int 0)])]) (ws := [.ref aALL_KEYS_0, .ref aALL_KEYS_1]) u_aALL_KEYS (Nat.le_of_ble_eq_true rfl) (.cons rfl (.cons rfl .nil)) (fun ρ H => (Rvs.cons ((tupW (K := ⟨K, l.prog, w⟩) (xs := [(.int (-10000000000000000000000000000000)), (.int 0)]) (ws := [.int (-10000000000000000000000000000000), .int 0]) u_aALL_KEYS_0 (Nat.le_of_ble_eq_true rfl) (.cons ⟨_, rfl⟩ (.cons ⟨_, rfl⟩ .nil)) (fun ρ H => (Rvs.cons rfl (Rvs.cons rfl rfl)))) ρ H) (Rvs.cons ((tupW (K := ⟨K, l.prog, w⟩) (xs := [(.int 10000000000000000000000000000000), (.int 0)]) (ws := [.int 10000000000000000000000000000000, .int 0]) u_aALL_KEYS_1 (Nat.le_of_ble_eq_true rfl) (.cons ⟨_, rfl⟩ (.cons ⟨_, rfl⟩ .nil)) (fun ρ H => (Rvs.cons rfl (Rvs.cons rfl rfl)))) ρ H) rfl)))), _, sup_mk X G x_InvalidPoint a0_InvalidPoint z_super xL_InvalidPoint sa_InvalidPoint no_InvalidPoint eC_InvalidPoint tC_InvalidPoint kC_InvalidPoint mC_InvalidPoint uC_InvalidPoint vC_InvalidPoint z_opq iC_InvalidPoint tI_InvalidPoint lI_InvalidPoint cI_InvalidPoint lD_InvalidPoint lC_InvalidPoint bM_InvalidPoint vS_InvalidPoint fL_InvalidPoint tP_InvalidPoint, _, sup_mk X G x_InvalidPoints a0_InvalidPoints z_super xL_InvalidPoints sa_InvalidPoints no_InvalidPoints eC_InvalidPoints tC_InvalidPoints kC_InvalidPoints mC_InvalidPoints uC_InvalidPoints vC_InvalidPoints z_opq iC_InvalidPoints tI_InvalidPoints lI_InvalidPoints cI_InvalidPoints lD_InvalidPoints lC_InvalidPoints bM_InvalidPoints vS_InvalidPoints fL_InvalidPoints tP_InvalidPoints, _, sup_mk X G x_InvalidTree a0_InvalidTree z_super xL_InvalidTree sa_InvalidTree no_InvalidTree eC_InvalidTree tC_InvalidTree kC_InvalidTree mC_InvalidTree uC_InvalidTree vC_InvalidTree z_opq iC_InvalidTree tI_InvalidTree lI_InvalidTree cI_InvalidTree lD_InvalidTree lC_InvalidTree bM_InvalidTree vS_InvalidTree fL_InvalidTree tP_InvalidTree, _, sup_mk X G x_NotThere a0_NotThere z_super xL_NotThere sa_NotThere no_NotThere eC_NotThere tC_NotThere kC_NotThere mC_NotThere uC_NotThere vC_NotThere z_opq iC_NotThere tI_NotThere lI_NotThere cI_NotThere lD_NotThere lC_NotThere bM_NotThere vS_NotThere fL_NotThere tP_NotThere, PySem.W.mg_none_of X G z_abs, PySem.W.mg_none_of X G z_bool, PySem.W.mg_none_of X G z_enumerate, PySem.W.mg_none_of X G z_int, PySem.W.mg_none_of X G z_isinstance, PySem.W.mg_none_of X G z_len, PySem.W.mg_none_of X G z_list, PySem.W.mg_none_of X G z_max, PySem.W.mg_none_of X G z_range, PySem.W.mg_none_of X G z_set, PySem.W.mg_none_of X G z_sorted, PySem.W.mg_none_of X G z_tuple⟩ : Top l.prog w K mg base)).ok spTop_up
end PM
open PySem PySem.W PyProof.Rows
set_option maxHeartbeats 0 in
theorem PySem.Challenge.cw_planesplits_k61_whole_even_trees_holds : PySem.Challenge.rw_planesplits_k61_whole_even_trees.Holds := by
  w_on; o_law; k_head; (case hw => w_witness2)
  k_fill
  refine L2.walk_of (l := PySem.Challenge.rw_planesplits_k61_whole_even_trees) (n := 63) (k := 12) (x := "_law_script") (CX := fun w => L2.CX (PySem.Challenge.rw_planesplits_k61_whole_even_trees).prog w) (sp := fun w => PM.spTop ⟨_, (PySem.Challenge.rw_planesplits_k61_whole_even_trees).prog, w⟩ PM.m_law) rfl (by decide) rfl ⟨rfl, by decide, by decide⟩ (fun w h Y => PySem.W.kIn_of Y) ?F (fun _ _ a ns hl o hS => PM.top_ok PM.law_ok hl o hS) (fun _ _ _ _ _ h => by obtain ⟨_, _, _, _, _, _, _, _, _, _, _, _, z⟩ := h; exact z)
  case F =>
    intro w mg fa h KX G hmg
    refine' PM.all_mk KX G hmg ?a_is_integer ?l_is_integer ?c_is_integer ?k_is_integer ?a_is_coordinate ?l_is_coordinate ?c_is_coordinate ?k_is_coordinate ?a_is_point ?l_is_point ?c_is_point ?k_is_point ?a_check_point ?l_check_point ?c_check_point ?k_check_point ?a_check_points ?l_check_points ?c_check_points ?k_check_points ?a_y_key ?l_y_key ?c_y_key ?k_y_key ?a_path_of ?l_path_of ?c_path_of ?k_path_of ?a_fault_in_sides ?l_fault_in_sides ?c_fault_in_sides ?k_fault_in_sides ?a_check_middle ?l_check_middle ?c_check_middle ?k_check_middle ?a_grown_sides ?l_grown_sides ?c_grown_sides ?k_grown_sides ?a_side_nodes ?l_side_nodes ?c_side_nodes ?k_side_nodes ?a_side_points ?l_side_points ?c_side_points ?k_side_points ?a_count_levels ?l_count_levels ?c_count_levels ?k_count_levels ?a_way_by_sides ?l_way_by_sides ?c_way_by_sides ?k_way_by_sides ?a_put_at_end ?l_put_at_end ?c_put_at_end ?k_put_at_end ?a_without_top ?l_without_top ?c_without_top ?k_without_top ?a_sizes_of ?l_sizes_of ?c_sizes_of ?k_sizes_of ?a_middle ?l_middle ?c_middle ?k_middle ?a_is_even ?l_is_even ?c_is_even ?k_is_even ?a_in_order ?l_in_order ?c_in_order ?k_in_order ?a_height ?l_height ?c_height ?k_height ?a_taken ?l_taken ?c_taken ?k_taken ?a_law_mixed ?l_law_mixed ?c_law_mixed ?k_law_mixed ?a_law_source ?l_law_source ?c_law_source ?k_law_source ?a_law_take ?l_law_take ?c_law_take ?k_law_take ?a_law_pick ?l_law_pick ?c_law_pick ?k_law_pick ?a_law_spots ?l_law_spots ?c_law_spots ?k_law_spots ?a_law_shuffled ?l_law_shuffled ?c_law_shuffled ?k_law_shuffled ?a_law_moved ?l_law_moved ?c_law_moved ?k_law_moved ?a_law_mirrored ?l_law_mirrored ?c_law_mirrored ?k_law_mirrored ?a_law_turned_about ?l_law_turned_about ?c_law_turned_about ?k_law_turned_about ?a_law ?l_law ?c_law ?k_law ?w_FARTHEST_COORDINATE ?w_MOST_POINTS ?w_MOST_NODES ?z_abs ?z_bool ?z_enumerate ?z_int ?z_isinstance ?z_len ?z_list ?z_max ?z_range ?z_set ?z_sorted ?z_tuple ?z_super ?z_opq ?a0_InvalidPoint ?a0_InvalidPoints ?a0_InvalidTree ?a0_NotThere ?xL_InvalidPoint ?sa_InvalidPoint ?no_InvalidPoint ?eC_InvalidPoint ?tC_InvalidPoint ?kC_InvalidPoint ?mC_InvalidPoint ?uC_InvalidPoint ?vC_InvalidPoint ?iC_InvalidPoint ?tI_InvalidPoint ?lI_InvalidPoint ?cI_InvalidPoint ?lD_InvalidPoint ?lC_InvalidPoint ?bM_InvalidPoint ?vS_InvalidPoint ?fL_InvalidPoint ?tP_InvalidPoint ?xL_InvalidPoints ?sa_InvalidPoints ?no_InvalidPoints ?eC_InvalidPoints ?tC_InvalidPoints ?kC_InvalidPoints ?mC_InvalidPoints ?uC_InvalidPoints ?vC_InvalidPoints ?iC_InvalidPoints ?tI_InvalidPoints ?lI_InvalidPoints ?cI_InvalidPoints ?lD_InvalidPoints ?lC_InvalidPoints ?bM_InvalidPoints ?vS_InvalidPoints ?fL_InvalidPoints ?tP_InvalidPoints ?xL_InvalidTree ?sa_InvalidTree ?no_InvalidTree ?eC_InvalidTree ?tC_InvalidTree ?kC_InvalidTree ?mC_InvalidTree ?uC_InvalidTree ?vC_InvalidTree ?iC_InvalidTree ?tI_InvalidTree ?lI_InvalidTree ?cI_InvalidTree ?lD_InvalidTree ?lC_InvalidTree ?bM_InvalidTree ?vS_InvalidTree ?fL_InvalidTree ?tP_InvalidTree ?xL_NotThere ?sa_NotThere ?no_NotThere ?eC_NotThere ?tC_NotThere ?kC_NotThere ?mC_NotThere ?uC_NotThere ?vC_NotThere ?iC_NotThere ?tI_NotThere ?lI_NotThere ?cI_NotThere ?lD_NotThere ?lC_NotThere ?bM_NotThere ?vS_NotThere ?fL_NotThere ?tP_NotThere ?w_ALL_KEYS ?u_aALL_KEYS ?u_aALL_KEYS_0 ?u_aALL_KEYS_1
    (case a_is_integer => k_is)
    (case l_is_integer => k_is)
    (case c_is_integer => k_is)
    (case k_is_integer => k_is)
    (case a_is_coordinate => k_is)
    (case l_is_coordinate => k_is)
    (case c_is_coordinate => k_is)
    (case k_is_coordinate => k_is)
    (case a_is_point => k_is)
    (case l_is_point => k_is)
    (case c_is_point => k_is)
    (case k_is_point => k_is)
    (case a_check_point => k_is)
    (case l_check_point => k_is)
    (case c_check_point => k_is)
    (case k_check_point => k_is)
    (case a_check_points => k_is)
    (case l_check_points => k_is)
    (case c_check_points => k_is)
    (case k_check_points => k_is)
    (case a_y_key => k_is)
    (case l_y_key => k_is)
    (case c_y_key => k_is)
    (case k_y_key => k_is)
    (case a_path_of => k_is)
    (case l_path_of => k_is)
    (case c_path_of => k_is)
    (case k_path_of => k_is)
    (case a_fault_in_sides => k_is)
    (case l_fault_in_sides => k_is)
    (case c_fault_in_sides => k_is)
    (case k_fault_in_sides => k_is)
    (case a_check_middle => k_is)
    (case l_check_middle => k_is)
    (case c_check_middle => k_is)
    (case k_check_middle => k_is)
    (case a_grown_sides => k_is)
    (case l_grown_sides => k_is)
    (case c_grown_sides => k_is)
    (case k_grown_sides => k_is)
    (case a_side_nodes => k_is)
    (case l_side_nodes => k_is)
    (case c_side_nodes => k_is)
    (case k_side_nodes => k_is)
    (case a_side_points => k_is)
    (case l_side_points => k_is)
    (case c_side_points => k_is)
    (case k_side_points => k_is)
    (case a_count_levels => k_is)
    (case l_count_levels => k_is)
    (case c_count_levels => k_is)
    (case k_count_levels => k_is)
    (case a_way_by_sides => k_is)
    (case l_way_by_sides => k_is)
    (case c_way_by_sides => k_is)
    (case k_way_by_sides => k_is)
    (case a_put_at_end => k_is)
    (case l_put_at_end => k_is)
    (case c_put_at_end => k_is)
    (case k_put_at_end => k_is)
    (case a_without_top => k_is)
    (case l_without_top => k_is)
    (case c_without_top => k_is)
    (case k_without_top => k_is)
    (case a_sizes_of => k_is)
    (case l_sizes_of => k_is)
    (case c_sizes_of => k_is)
    (case k_sizes_of => k_is)
    (case a_middle => k_is)
    (case l_middle => k_is)
    (case c_middle => k_is)
    (case k_middle => k_is)
    (case a_is_even => k_is)
    (case l_is_even => k_is)
    (case c_is_even => k_is)
    (case k_is_even => k_is)
    (case a_in_order => k_is)
    (case l_in_order => k_is)
    (case c_in_order => k_is)
    (case k_in_order => k_is)
    (case a_height => k_is)
    (case l_height => k_is)
    (case c_height => k_is)
    (case k_height => k_is)
    (case a_taken => k_is)
    (case l_taken => k_is)
    (case c_taken => k_is)
    (case k_taken => k_is)
    (case a_law_mixed => k_is)
    (case l_law_mixed => k_is)
    (case c_law_mixed => k_is)
    (case k_law_mixed => k_is)
    (case a_law_source => k_is)
    (case l_law_source => k_is)
    (case c_law_source => k_is)
    (case k_law_source => k_is)
    (case a_law_take => k_is)
    (case l_law_take => k_is)
    (case c_law_take => k_is)
    (case k_law_take => k_is)
    (case a_law_pick => k_is)
    (case l_law_pick => k_is)
    (case c_law_pick => k_is)
    (case k_law_pick => k_is)
    (case a_law_spots => k_is)
    (case l_law_spots => k_is)
    (case c_law_spots => k_is)
    (case k_law_spots => k_is)
    (case a_law_shuffled => k_is)
    (case l_law_shuffled => k_is)
    (case c_law_shuffled => k_is)
    (case k_law_shuffled => k_is)
    (case a_law_moved => k_is)
    (case l_law_moved => k_is)
    (case c_law_moved => k_is)
    (case k_law_moved => k_is)
    (case a_law_mirrored => k_is)
    (case l_law_mirrored => k_is)
    (case c_law_mirrored => k_is)
    (case k_law_mirrored => k_is)
    (case a_law_turned_about => k_is)
    (case l_law_turned_about => k_is)
    (case c_law_turned_about => k_is)
    (case k_law_turned_about => k_is)
    (case a_law => k_is)
    (case l_law => k_is)
    (case c_law => k_is)
    (case k_law => k_is)
    (case w_FARTHEST_COORDINATE => k_is)
    (case w_MOST_POINTS => k_is)
    (case w_MOST_NODES => k_is)
    (case z_abs => k_is)
    (case z_bool => k_is)
    (case z_enumerate => k_is)
    (case z_int => k_is)
    (case z_isinstance => k_is)
    (case z_len => k_is)
    (case z_list => k_is)
    (case z_max => k_is)
    (case z_range => k_is)
    (case z_set => k_is)
    (case z_sorted => k_is)
    (case z_tuple => k_is)
    (case z_super => k_is)
    (case z_opq => k_is)
    (case a0_InvalidPoint => k_is)
    (case a0_InvalidPoints => k_is)
    (case a0_InvalidTree => k_is)
    (case a0_NotThere => k_is)
    (case xL_InvalidPoint => k_is)
    (case sa_InvalidPoint => k_is)
    (case no_InvalidPoint => k_is)
    (case eC_InvalidPoint => k_is)
    (case tC_InvalidPoint => k_is)
    (case kC_InvalidPoint => k_is)
    (case mC_InvalidPoint => k_is)
    (case uC_InvalidPoint => ks_is)
    (case vC_InvalidPoint => k_is)
    (case iC_InvalidPoint => k_is)
    (case tI_InvalidPoint => k_is)
    (case lI_InvalidPoint => k_is)
    (case cI_InvalidPoint => k_is)
    (case lD_InvalidPoint => k_is)
    (case lC_InvalidPoint => k_is)
    (case bM_InvalidPoint => decide +kernel)
    (case vS_InvalidPoint => rfl)
    (case fL_InvalidPoint => decide +kernel)
    (case tP_InvalidPoint => decide +kernel)
    (case xL_InvalidPoints => k_is)
    (case sa_InvalidPoints => k_is)
    (case no_InvalidPoints => k_is)
    (case eC_InvalidPoints => k_is)
    (case tC_InvalidPoints => k_is)
    (case kC_InvalidPoints => k_is)
    (case mC_InvalidPoints => k_is)
    (case uC_InvalidPoints => ks_is)
    (case vC_InvalidPoints => k_is)
    (case iC_InvalidPoints => k_is)
    (case tI_InvalidPoints => k_is)
    (case lI_InvalidPoints => k_is)
    (case cI_InvalidPoints => k_is)
    (case lD_InvalidPoints => k_is)
    (case lC_InvalidPoints => k_is)
    (case bM_InvalidPoints => decide +kernel)
    (case vS_InvalidPoints => rfl)
    (case fL_InvalidPoints => decide +kernel)
    (case tP_InvalidPoints => decide +kernel)
    (case xL_InvalidTree => k_is)
    (case sa_InvalidTree => k_is)
    (case no_InvalidTree => k_is)
    (case eC_InvalidTree => k_is)
    (case tC_InvalidTree => k_is)
    (case kC_InvalidTree => k_is)
    (case mC_InvalidTree => k_is)
    (case uC_InvalidTree => ks_is)
    (case vC_InvalidTree => k_is)
    (case iC_InvalidTree => k_is)
    (case tI_InvalidTree => k_is)
    (case lI_InvalidTree => k_is)
    (case cI_InvalidTree => k_is)
    (case lD_InvalidTree => k_is)
    (case lC_InvalidTree => k_is)
    (case bM_InvalidTree => decide +kernel)
    (case vS_InvalidTree => rfl)
    (case fL_InvalidTree => decide +kernel)
    (case tP_InvalidTree => decide +kernel)
    (case xL_NotThere => k_is)
    (case sa_NotThere => k_is)
    (case no_NotThere => k_is)
    (case eC_NotThere => k_is)
    (case tC_NotThere => k_is)
    (case kC_NotThere => k_is)
    (case mC_NotThere => k_is)
    (case uC_NotThere => ks_is)
    (case vC_NotThere => k_is)
    (case iC_NotThere => k_is)
    (case tI_NotThere => k_is)
    (case lI_NotThere => k_is)
    (case cI_NotThere => k_is)
    (case lD_NotThere => k_is)
    (case lC_NotThere => k_is)
    (case bM_NotThere => decide +kernel)
    (case vS_NotThere => rfl)
    (case fL_NotThere => decide +kernel)
    (case tP_NotThere => decide +kernel)
    (case w_ALL_KEYS => k_is)
    (case u_aALL_KEYS => k_is)
    (case u_aALL_KEYS_0 => k_is)
    (case u_aALL_KEYS_1 => k_is)
