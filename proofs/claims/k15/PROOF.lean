import PyProof.Rows.All
import Wide.All
import OpenK.AllK
import Wide.FinOn
import HandS.ForMost
import HandS.Wide
import HandS.Deep
import HandS.IsInst
import HandS.Walk
import HandS.TupSets
import HandS.Lambda
import KE.SortKeyHeap
import HandS.SortKw
import KE.GoesEnum
import KE.GoesMore
import HandS.Conv
import HandS.Dict
import HandS.More
import HandS.WideBits
import KE.GoesRev
import HandS.ForExc
import HandS.RevRange
import HandS.Rev
import HandS.Style
import HandS.TupAny
import HandS.Zip
import KE.KxField
import HandS.IntHex
import HandS.FStr
import KE.KItemsList
import HandS.StrMore
import HandS.TryOnly
import HandS.ExcInit
import KE.KExcSuper
import KE.KSuper
import HandS.TryMany
import HandS.ExcField
import HandS.ExcIs
import HandS.EndTab
import HandS.Steps
import HandS.TupLe
import KE.DataFind
import HandS.HeadHook3
import PySem.Challenge.RW_planesplits_k15_whole_depths_of_all_orde
set_option Elab.async false
set_option linter.all false
set_option maxRecDepth 100000
set_option maxHeartbeats 4000000
namespace Q2
open PySem PySem.Spec PyProof.Rows L2
/-! ### rules that the layer lacks -/
section
variable {X : Cx}
/-- x ** n of great ints -/
def CPowW (i j : Int) : Prop := 0 ≤ j ∧ (Builtin.Int.intBits i : Int) * j ≤ 2 ^ 27
theorem op_powW : OpR X (binaryOp .Pow) (rI CPowW fun i j => .int (i ^ j.toNat)) := opI fun _ _ _ _ _ _ _ hc q => pow_int hc.1 hc.2 q
theorem powW2 {i : Int} (h : i.natAbs < 2 ^ 1000) : CPowW i 2 := by
  have h1 := PySem.Flt.log2_lt_of (by decide : 0 < 1000) h
  have h2 : Builtin.Int.intBits i ≤ i.natAbs.log2 + 1 := by
    unfold Builtin.Int.intBits
    split <;> omega
  refine ⟨by decide, ?_⟩
  have h3 : ((2 : Int) ^ 27) = 134217728 := by decide
  rw [h3]
  omega
/-- list + list, either of which may be read only -/
def rCatL (K : PySem.W.Frag) : R2 := fun x y H Q => ∃ l b xs zs, x = .ref l ∧ y = .ref b ∧ SqL K H l xs ∧ SqL K H b zs ∧ xs.length + zs.length ≤ sizeLine ∧ ∀ p, H p = none → Q (.ref p) (upd H p (.lst (xs ++ zs)))
theorem op_catL : OpR X (binaryOp .Add) (rCatL X.K) := by
  intro pins s σ H x y v u Q I rx ry h
  obtain ⟨l, b, xs, zs, rfl, rfl, hH, hB, hz, q⟩ := h
  cases rx
  cases ry
  obtain ⟨its, r, ⟨⟨cls, dd, data, sl⟩, n, ho, hc, hdn, hdt⟩, hl⟩ := I.list hH
  obtain ⟨its2, r2, ⟨⟨cls2, dd2, data2, sl2⟩, n2, ho2, hc2, hdn2, hdt2⟩, hl2⟩ := I.list hB
  simp only at hc hdt hc2 hdt2
  subst hc hdt hc2 hdt2
  have e1 := r.length
  have e2 := r2.length
  refine concat_meets ⟨_, ho, rfl⟩ ⟨_, ho2, rfl⟩ noFill_list_add seq_list_add PySem.F.slot_list_add PySem.F.entry_list_add (PySem.F.args_list_add_2 _ _) (list_addW l b its.toArray its2.toArray n n2 dd dd2 sl sl2 (by simp only [List.size_toArray]; omega)) ⟨ho, ho2, ?_⟩
  have ea : its.toArray ++ its2.toArray = (its ++ its2).toArray := by simp
  rw [ea]
  exact ⟨.ref _, _, I.lnew (t' := s.toks) (r.append r2) (by rw [List.length_append]; omega), rfl, q _ I.fresh⟩
/-- repr of a bool -/
def bStr (b : Bool) : Str := if b then "True" else "False"
theorem call_repr_bool : CallR X (.builtin "repr") (fun xs H Q => ∃ b, xs = [.bl b] ∧ Q (.str (bStr b)) H) := by
  intro pins s σ H xs us Q I r h
  obtain ⟨b, rfl, q⟩ := h
  cases r with
  | cons r1 r2 =>
    cases r2
    cases r1
    exact PySem.P.repr_of_bool ⟨.str _, H, I.tok _, ⟨_, rfl⟩, q⟩
section
variable {CX : CXT} {k : Nat} {f : Addr} {fd : FuncData} {ps ks : List Str} {sp : Sp} {E : XK} {x : Str} {p pos : Pos} {kws : List Keyword} {tk : TA} {g : List Value → List Value → List Value} {gV : List V → List V → List V}
/-- f(k = v, ..) -/
theorem pe_callK0 (F : FnOk X.prog X.w X.K X.mg X.base CX k f fd ps sp) (hr : Room k X.A) (hg : Gl X x) (hm : X.mg x = some (.ref f)) (hk : PySem.W.keepIn X.K (.ref f) = true) (hb : KBinds X.K fd ps ks g gV) (hx : Passes CX X E)
    (hkw : PK X kws tk) (hall : (backToKw pos (keywordEach kws X.env)).all (·.1.isSome) = true := by rfl) (hks : (backToKw pos (keywordEach kws X.env)).filterMap (·.1) = ks := by rfl)
    (hdb : (x == ("__debug__" : Str)) = false := by decide)
    (hpl : ((backTo pos (starEach [] X.env)).any (·.1) || (backToKw pos (keywordEach kws X.env)).any (·.1.isNone)) = false := by rfl) :
    PE X (.Call (.Name x p) [] kws pos) (tCallK sp gV E tNil tk) := by
  refine ⟨fun pins s σ H Q I h => ?_⟩
  refine wpAny_Call_Name_kw (ld_glob I hg hm ?_ hdb)
  refine PySem.W.callWith_KW0 (h₀ := X.base) I.ok.mod.kin hk hall ?_ hpl
  refine thn (hkw.run pos pins s σ H _ I h) fun ws s2 ⟨zs, H2, I2, rz, q2⟩ => ⟨I2.kIn, ?_⟩
  rw [hks]
  exact run_fnk F hr hb hx I2 .nil rz q2
end
end
/-! ### heaps -/
/-- all that was tracked stands, but what is at s -/
def Ex (s : Addr) (H H' : Hp) : Prop := ∀ b o, H b = some o → b ≠ s → H' b = some o
theorem Ex.refl (s : Addr) (H : Hp) : Ex s H H := fun _ _ h _ => h
theorem Ex.trans {s : Addr} {H H1 H2 : Hp} (a : Ex s H H1) (b : Ex s H1 H2) : Ex s H H2 := fun c o h n => b c o (a c o h n) n
theorem Ex.same {s : Addr} {H H' : Hp} (e : Same H H') : Ex s H H' := fun b o h _ => e b o h
theorem Ex.put {s : Addr} {H : Hp} {o : HO} : Ex s H (upd H s o) := fun b o' h n => by rw [upd_ne n]; exact h
theorem same_new {H : Hp} {p : Addr} {o : HO} (h : H p = none) : Same H (upd H p o) := fun b x e => by
  rw [upd_ne (ne_of_none e h)]
  exact e
/-- the source: a list of three ints, the first not negative -/
def Src (H : Hp) (s : Addr) : Prop := ∃ a b c : Int, 0 ≤ a ∧ H s = some (.lst [.int a, .int b, .int c])
theorem Src.same {H H' : Hp} {s : Addr} (e : Same H H') (h : Src H s) : Src H' s := by
  obtain ⟨a, b, c, h0, h⟩ := h
  exact ⟨a, b, c, h0, e _ _ h⟩
theorem Src.ne {H : Hp} {s p : Addr} (h : Src H s) (hp : H p = none) : p ≠ s := by
  obtain ⟨a, b, c, h0, h⟩ := h
  exact (ne_of_none h hp).symm
/-- points that stand in the heap -/
abbrev Pts := List (Addr × Int × Int)
def PtAt (H : Hp) (B : Int) (q : Addr × Int × Int) : Prop := H q.1 = some (.tup [.int q.2.1, .int q.2.2]) ∧ (-B ≤ q.2.1 ∧ q.2.1 ≤ B) ∧ (-B ≤ q.2.2 ∧ q.2.2 ≤ B)
def Spots (H : Hp) (B : Int) (a : Addr) (ps : Pts) : Prop := H a = some (.lst (ps.map fun q => V.ref q.1)) ∧ ps.length ≤ 40 ∧ ∀ q ∈ ps, PtAt H B q
theorem PtAt.same {H H' : Hp} {B : Int} {q : Addr × Int × Int} (e : Same H H') (h : PtAt H B q) : PtAt H' B q := ⟨e _ _ h.1, h.2⟩
theorem PtAt.ex {H H' : Hp} {B : Int} {s : Addr} {q : Addr × Int × Int} (hs : Src H s) (e : Ex s H H') (h : PtAt H B q) : PtAt H' B q := by
  obtain ⟨a, b, c, h0, hs⟩ := hs
  exact ⟨e _ _ h.1 (ne_of h.1 hs (by intro z; cases z)), h.2⟩
theorem Spots.same {H H' : Hp} {B : Int} {a : Addr} {ps : Pts} (e : Same H H') (h : Spots H B a ps) : Spots H' B a ps := ⟨e _ _ h.1, h.2.1, fun q hq => (h.2.2 q hq).same e⟩
theorem Spots.ex {H H' : Hp} {B : Int} {s a : Addr} {ps : Pts} (hs : Src H s) (n : a ≠ s) (e : Ex s H H') (h : Spots H B a ps) : Spots H' B a ps := ⟨e _ _ h.1 n, h.2.1, fun q hq => (h.2.2 q hq).ex hs e⟩
theorem small40 {n : Nat} (h : n ≤ 1000) : n ≤ sizeLine := Nat.le_of_lt (small1000 h)
/-! ### a tuple's equality as data -/
def ptD (z : Int × Int) : PyData := .tuple [.int z.1, .int z.2]
theorem ptD_lay (z : Int × Int) : (ptD z).canLay0 = true := by simp [ptD, PyData.canLay0, PyData.canLayAll0]
theorem ptD_depth (z : Int × Int) : (ptD z).depth = 1 := by simp [ptD, PyData.depth, PyData.depthAll]
theorem ptDs_lay : ∀ zs : List (Int × Int), PyData.canLayAll0 (zs.map ptD) = true
  | [] => by simp [PyData.canLayAll0]
  | z :: zs => by simp [PyData.canLayAll0, ptD_lay z, ptDs_lay zs]
theorem ptDs_depth : ∀ zs : List (Int × Int), PyData.depthAll (zs.map ptD) ≤ 2
  | [] => by simp [PyData.depthAll]
  | z :: zs => by
    have h1 := ptDs_depth zs
    have h2 := ptD_depth z
    simp only [List.map_cons, PyData.depthAll]
    omega
theorem ptD_shaped (z : Int × Int) : SeqAt.shaped (ptD z) = true := by
  have h := ptD_depth z
  show ((ptD z).canLay0 && decide ((ptD z).depth ≤ 64)) = true
  rw [Bool.and_eq_true]
  exact ⟨ptD_lay z, decide_eq_true (by omega)⟩
theorem ptDs_shaped (zs : List (Int × Int)) : SeqAt.shaped (.list (zs.map ptD)) = true := by
  have h1 := ptDs_depth zs
  have h2 : PyData.depth (.list (zs.map ptD)) ≤ 64 := by
    simp only [PyData.depth]
    omega
  show (PyData.canLay0 (.list (zs.map ptD)) && decide (PyData.depth (.list (zs.map ptD)) ≤ 64)) = true
  rw [Bool.and_eq_true]
  exact ⟨by simp only [PyData.canLay0]; exact ptDs_lay zs, decide_eq_true h2⟩
theorem ptD_eqv (z w : Int × Int) : PyData.eqv (ptD z) (ptD w) = decide (z = w) := by
  obtain ⟨a, b⟩ := z
  obtain ⟨a', b'⟩ := w
  have e : PyData.eqv (ptD (a, b)) (ptD (a', b')) = ((a == a') && ((b == b') && true)) := by simp only [ptD, PyData.eqv, PyData.eqvAll]
  rw [e]
  by_cases h : a = a'
  · by_cases h2 : b = b'
    · subst h h2
      simp
    · simp [h, h2]
  · simp [h]
theorem dp_pt {K : PySem.W.Frag} {H : Hp} {B : Int} {q : Addr × Int × Int} (h : PtAt H B q) : Dp K H (.ref q.1) (ptD q.2) := .tup (SqT.of h.1) (.cons (.int _) (.cons (.int _) .nil))
theorem dp_pts {K : PySem.W.Frag} {H : Hp} {B : Int} : ∀ {ps : Pts}, (∀ q ∈ ps, PtAt H B q) → DpAll K H (ps.map fun q => V.ref q.1) ((ps.map (·.2)).map ptD)
  | [], _ => .nil
  | q :: ps, h => .cons (dp_pt (h q (List.mem_cons_self ..))) (dp_pts fun z hz => h z (List.mem_cons_of_mem _ hz))
theorem dp_spots {K : PySem.W.Frag} {H : Hp} {B : Int} {a : Addr} {ps : Pts} (h : Spots H B a ps) : Dp K H (.ref a) (.list ((ps.map (·.2)).map ptD)) := .lst (SqL.of h.1) (dp_pts h.2.2)
theorem any_pt (zs : List (Int × Int)) (w : Int × Int) : ((zs.map ptD).any fun z => PyData.eqv z (ptD w)) = decide (w ∈ zs) := by
  induction zs with
  | nil => simp
  | cons z zs ih =>
    rw [List.map_cons, List.any_cons, ih, ptD_eqv]
    by_cases h : z = w
    · subst h
      simp
    · have h' : ¬ w = z := fun e => h e.symm
      simp [h, h']
end Q2

namespace Q2
open PySem PySem.Spec PyProof.Rows L2
section
variable {P : Program} {w : World} {A : Around} {E : Value → Shared → Prop} {s : Shared} {a : Addr} {L : List (Addr × List Int)} {es : Array (Int × Value)} {ep : Nat} {t : SetTable}
/-- the search of a key that is no member comes to the first empty slot, whatever its hash meets on the way -/
theorem free_from (R : SetTR P w s.heap a L es ep t) {x : Addr} {k : List Int} (kx : IsT P w s.heap k x) (un : A.units < cLine) (out : k ∉ L.map (·.2)) {K : Nat} (lessK : K < 10 * SetTable.turns t.mask)
    (gapK : way t.mask (thash P w k) K ∉ t.place.toList) (fullK : ∀ c, c < K → way t.mask (thash P w k) c ∈ t.place.toList) {Q : SetFound → Shared → Prop} (win : Q (.free (way t.mask (thash P w k) K) false) s) :
    ∀ (f c : Nat) (stand : Option SetTable.Probe), stand.getD (t.probeStart (thash P w k)) = nth t.mask (runAt t.mask (SetTable.bits (thash P w k) % (t.mask + 1)) (SetTable.bits (thash P w k))) c → c ≤ K → K - c < f →
      wpAny (model P w) A (setSearchFrom a (.ref x) (thash P w k) false f stand) Q E s
  | 0, c, stand, _, _, less => absurd less (Nat.not_lt_zero _)
  | f + 1, c, stand, here, cK, less => by
    obtain ⟨ob, hob, exact_, dat⟩ := R.ob
    rw [setSearchFrom_succ]
    refine wpAny_bind ((wpAny_setState_of hob dat R.fits) ?_)
    dsimp only
    refine (wp_if_neg R.gw) ?_
    try refine (wpAny_bind (wpAny_pure ?_))
    -- the probe, c steps on
    generalize base0 : runAt t.mask (SetTable.bits (thash P w k) % (t.mask + 1)) (SetTable.bits (thash P w k)) = p0 at here
    have noDummy : ∀ (n : Nat) (p : SetTable.Probe), p.dummy = none → (nth t.mask p n).dummy = none := fun n => by
      induction n with
      | zero => exact fun p h => h
      | succ n ih => exact fun p h => ih (adv t.mask p) (by unfold adv; split <;> exact h)
    have d0 : p0.dummy = none := by rw [← base0]; rfl
    have go_on : ∀ q, nth t.mask (nth t.mask p0 c) q = nth t.mask p0 (c + q) := fun q => (nth_add t.mask c p0 q).symm
    have at_ : ∀ q, (nth t.mask p0 q).j = way t.mask (thash P w k) q := fun q => by rw [← base0]
    have at2 : ∀ q, (nth t.mask (nth t.mask p0 c) q).j = way t.mask (thash P w k) (c + q) := fun q => by rw [go_on, at_]
    have found := go_spec t R.tab.ris R.tab.dm (fun i => (es[i]?.map (·.1)).getD 0) (thash P w k) (10 * SetTable.turns t.mask) (K - c) (nth t.mask p0 c) (noDummy c p0 d0) (Nat.lt_of_le_of_lt (Nat.sub_le K c) lessK)
      (fun q hq => by rw [at2]; exact fullK (c + q) (Nat.add_lt_of_lt_sub' hq)) (by rw [at2, Nat.add_sub_cancel' cK]; exact gapK)
    rcases found with ⟨q, i, hq, slot, _, _, ans⟩ | ⟨_, ans⟩
    · have ans2 : t.probe (fun i => (es[i]?.map (·.1)).getD 0) (thash P w k) (stand.getD (t.probeStart (thash P w k))) = some (.candidate (way t.mask (thash P w k) (c + q)) i (nth t.mask p0 (c + (q + 1)))) := by
        rw [here, ← at2, ← go_on]
        exact ans
      rw [ans2]
      dsimp only
      rw [at2] at slot
      have small : i < L.length := by
        have y1 : i < t.place.toList.length := (List.getElem?_eq_some_iff.mp slot).1
        have y2 := R.tab.sz
        rw [List.length_map] at y2
        rw [Array.length_toList] at y1
        omega
      obtain ⟨p, hp⟩ : ∃ p, L[i]? = some p := ⟨L[i], List.getElem?_eq_getElem small⟩
      have pin : p ∈ L := List.mem_of_getElem? hp
      have other : p.2 ≠ k := fun e => out (List.mem_map.mpr ⟨p, pin, e⟩)
      have behind : wpAny (model P w) A (searchRest a (.ref x) (thash P w k) false f es t (way t.mask (thash P w k) (c + q)) i (nth t.mask p0 (c + (q + 1)))) Q E s := by
        unfold searchRest
        rw [R.entry hp]
        dsimp only
        refine wpAny_bind (wpAny_holding ((wpAny_eqBool_tuple un (R.tup p pin) kx) ?_))
        refine wpAny_bind ((wpAny_setState_of hob dat R.fits) ?_)
        dsimp only
        refine (wp_if_neg (by simp)) ?_
        try refine (wpAny_bind (wpAny_pure ?_))
        rw [sameMem]
        dsimp only
        have live := slot_live R.tab.ris slot
        simp only [if_true, live, R.entry hp]
        refine wpAny_bind (wpAny_isSame_ref_self (wpAny_bind (wpAny_pure ?_)))
        simp only [if_true]
        refine (wp_if_neg (by simp [other])) ?_
        refine free_from R kx un out lessK gapK fullK win f (c + (q + 1)) (some (nth t.mask p0 (c + (q + 1)))) ?_ (by omega) (by omega)
        rw [base0]
        rfl
      by_cases led : t.led = true
      · refine (wp_if_neg (by simp [led])) ?_
        try refine (wpAny_bind (wpAny_pure ?_))
        exact behind
      · refine (wp_if_pos (by simp [led])) ?_
        refine wpAny_bind ((seen_tup kx fun y hy => ?_) ?_)
        · obtain ⟨e, he, ee⟩ := List.mem_map.mp hy
          have e1 : e ∈ es ∧ e.1 = thash P w k := by simpa using he
          have e2 : e ∈ es.toList := by simpa using e1.1
          rw [R.rows] at e2
          obtain ⟨p2, m2, rfl⟩ := List.mem_map.mp e2
          exact ⟨p2.2, p2.1, ee.symm, R.tup p2 m2⟩
        · refine (wp_if_neg (by decide)) ?_
          try refine (wpAny_bind (wpAny_pure ?_))
          exact behind
    · have ans2 : t.probe (fun i => (es[i]?.map (·.1)).getD 0) (thash P w k) (stand.getD (t.probeStart (thash P w k))) = some (.empty (way t.mask (thash P w k) K) none) := by
        have e2 : way t.mask (thash P w k) K = (nth t.mask (nth t.mask p0 c) (K - c)).j := by rw [at2, Nat.add_sub_cancel' cK]
        rw [here, e2]
        exact ans
      rw [ans2]
      dsimp only
      exact wpAny_pure win
/-- the key is not there -/
theorem find_out (R : SetTR P w s.heap a L es ep t) {x : Addr} {k : List Int} (kx : IsT P w s.heap k x) (un : A.units < cLine) (out : k ∉ L.map (·.2)) {Q : Option Nat → Shared → Prop} (win : Q none s) :
    wpAny (model P w) A (setFind a (.ref x) (thash P w k)) Q E s := by
  obtain ⟨ob, hob, exact_, dat⟩ := R.ob
  have room_ := R.room
  obtain ⟨K, lessK, gapK, fullK⟩ := R.tab.first (by rw [List.length_map]; omega) (thash P w k)
  have few : K < 100000 := by
    have : 10 * SetTable.turns t.mask ≤ 1420 := by
      unfold SetTable.turns
      rcases R.tab.mok with e | e | e <;> omega
    omega
  unfold setFind
  rw [show (100000 : Nat) = 99999 + 1 from rfl]
  unfold setFindIn
  refine wpAny_bind ((wpAny_setState_of hob dat R.fits) ?_)
  dsimp only
  refine (wp_if_neg (by simp [byScan, Value.scannable])) ?_
  try refine (wpAny_bind (wpAny_pure ?_))
  unfold setSearch
  refine wpAny_bind (free_from R kx un out lessK gapK fullK ?_ 100000 0 none rfl (Nat.zero_le _) (by omega))
  dsimp only
  exact wpAny_pure win
end
section
variable {X : Cx}
theorem cr_set0T : CallR X (.type "set") (fun xs H Q => xs = [] ∧ ∀ p, H p = none → Q (.ref p) (upd H p (SetTO X.prog X.w p []))) := by
  intro pins s σ H xs us Q I r h
  obtain ⟨rfl, q⟩ := h
  cases r
  refine setR_new fun _ => ?_
  exact ⟨.ref _, upd H s.heap.objs.size (SetTO X.prog X.w s.heap.objs.size []), I.laid (t' := s.toks) (fun b u e => Heap.get?_push_of_some _ e) (Nat.le_refl _) (setTO_new (setTR_fresh (Heap.get?_push_size _ rfl)).t0), rfl, q _ (I.hok.fresh (Nat.le_refl _))⟩
theorem setT_full {pins : List (Addr × Obj)} {σ : L2.St} {H : Hp} {s : Shared} {a : Addr} {L : List (Addr × List Int)} (I : Inv X pins σ H s) (h : H a = some (SetTO X.prog X.w a L)) (ht : ∀ p ∈ L, SqT X.K H p.1 (p.2.map V.int)) : ∃ es ep t, SetTR X.prog X.w s.heap a L es ep t := by
  have o := I.hok a _ h
  have z : SetT0 X.prog X.w s.heap a L := o.1
  exact z.full fun p hp => I.isT (ht p hp)
/-- t in found, which it is not -/
def rOutT (K : PySem.W.Frag) (P : Program) (w : World) : R2 := fun x y H Q => ∃ (b a : Addr) (k : List Int) (L : List (Addr × List Int)), x = .ref b ∧ y = .ref a ∧ SqT K H b (k.map V.int) ∧ H a = some (SetTO P w a L) ∧ (∀ p ∈ L, SqT K H p.1 (p.2.map V.int)) ∧ k ∉ L.map (·.2) ∧ Q (.bl false) H
theorem op_outT (un : X.A.units + 64 < cLine) : OpR X (compareOp .In) (rOutT X.K X.prog X.w) := by
  intro pins s σ H x y v u Q I rx ry h
  obtain ⟨b, a, k, L, rfl, rfl, hk, ha, hL, out, q⟩ := h
  cases rx
  cases ry
  obtain ⟨es, ep, t, R⟩ := setT_full I ha hL
  obtain ⟨ob, hob, ex, dat⟩ := R.ob
  have ty : s.TypeIs (.ref a) "set" := ⟨ob, hob, ex.1⟩
  show wpAny _ _ (do return Value.bool (← contains (.ref a) (.ref b))) _ _ s
  refine (wpAny_bind ?_)
  unfold contains
  try with_reducible refine (wpAny_holding ?_)
  refine wpAny_bind ((wpAny_specialOf ty PySem.F.slot_set_contains.lookup) ?_)
  show wpAny _ _ (if (some (Value.builtin "set.__contains__") == some Value.none) = true then _ else _) _ _ s
  rw [if_neg (show ¬ _ by rw [beq_builtin_none]; exact Bool.false_ne_true)]
  refine wpAny_bind ((wpAny_callSpecialUnlessNone?_slot (name := Str.ofString "__contains__") ty PySem.F.slot_set_contains)
    (wpAny_call_entry PySem.F.slot_set_contains ty entry_set_contains (ha := PySem.F.args_set_contains_2 _ _) ?_))
  unfold Builtin.«frozenset.__contains__» Builtin.Frozenset.oneOther
  simp only [List.isEmpty_nil, bind_assoc]
  unfold Builtin.Frozenset.addrOf Builtin.Frozenset.withSetAsKey setContains
  refine (wpAny_bind (wpAny_pure ?_))
  try dsimp only
  refine (wpAny_bind (wpAny_pure ?_))
  try dsimp only
  refine (wpAny_bind (wpAny_tryCatch ?_))
  refine (wpAny_holding ?_)
  have kx := I.isT hk
  refine wpAny_bind ((wpAny_pyHash_tuple (by show X.A.units + 1 < cLine; omega) kx) ?_)
  refine wpAny_bind (find_out (s := { s with toks := s.toks + (k.length + 1) }) R kx (by show X.A.units + 1 < cLine; omega) out ?_)
  refine (wpAny_pure ?_)
  show wpAny _ _ (ret (Value.bool false)) _ _ _
  exact wpAny_pure ⟨_, rfl, wpAny_truthy_bool (wpAny_pure ⟨.bl false, H, I.tok _, rfl, q⟩)⟩
/-- found.add(t), a new member -/
def rAddT (K : PySem.W.Frag) (P : Program) (w : World) : V → List V → Hp → VK → Prop := fun x xs H Q => ∃ (a b : Addr) (k : List Int) (L : List (Addr × List Int)), x = V.ref a ∧ xs = [V.ref b] ∧ H a = some (SetTO P w a L) ∧ SqT K H b (k.map V.int) ∧ (∀ p ∈ L, SqT K H p.1 (p.2.map V.int)) ∧ k ∉ L.map (·.2) ∧ L.length + 1 < 64 ∧
  ∀ L', L'.Perm ((b, k) :: L) → Q .non (upd H a (SetTO P w a L'))
theorem mt_addT (un : X.A.units + 64 < cLine) : MtR X "set.add" (rAddT X.K X.prog X.w) := by
  intro pins s σ H x xs v us Q I rx rxs h
  obtain ⟨a, b, k, L, rfl, rfl, ha, hk, hL, out, few, q⟩ := h
  cases rx
  cases rxs with
  | cons ry rt =>
    cases rt
    cases ry
    obtain ⟨es, ep, t, R⟩ := setT_full I ha hL
    obtain ⟨ob, hob, ex, dat⟩ := R.ob
    have ty : s.TypeIs (.ref a) "set" := ⟨ob, hob, ex.1⟩
    have kx := I.isT hk
    refine wpAny_call_entry PySem.F.slot_set_add ty PySem.F.entry_set_add (ha := PySem.F.args_set_add_2 _ _) ?_
    unfold Builtin.«set.add» Builtin.Frozenset.oneOther
    simp only [List.isEmpty_nil, bind_assoc]
    unfold Builtin.Frozenset.addrOf setAdd
    refine (wpAny_bind (wpAny_pure ?_))
    try dsimp only
    refine (wpAny_bind (wpAny_pure ?_))
    try dsimp only
    refine (wpAny_bind ?_)
    refine (wpAny_holding ?_)
    refine wpAny_bind ((wpAny_pyHash_tuple (by show X.A.units + 1 < cLine; omega) kx) ?_)
    refine add_at (s := { s with toks := s.toks + (k.length + 1) }) R kx (by show X.A.units + 1 < cLine; omega) few fun bb h' L' es' ep' t' sb R' _ pm => ?_
    show wpAny _ _ (ret Value.none) _ _ _
    have he : ∃ u, h'.get? a = some u := by
      obtain ⟨o, ho, _⟩ := R'.ob
      exact ⟨o, ho⟩
    refine wpAny_pure ⟨_, rfl, .non, upd H a (SetTO X.prog X.w a L'), ?_, rfl, q L' (pm out)⟩
    exact I.write (e := a) (t' := s.toks + (k.length + 1)) (by rw [ha]; trivial) (.inl rfl) (fun c u hc hu => (sb.2 c hc).trans hu) he (setTO_new R'.t0)
def tAddT (K : PySem.W.Frag) (P : Program) (w : World) (to : TE) (t : TA) : TE := fun σ H Q => to σ H fun x H1 => (∃ a L, x = V.ref a ∧ H1 a = some (SetTO P w a L) ∧ ∀ p ∈ L, SqT K H1 p.1 (p.2.map V.int)) ∧ t σ H1 fun xs H2 => rAddT K P w x xs H2 Q
variable {o e : Expr} {es : List Expr} {to : TE} {t : TA} {apos cpos : Pos}
theorem pe_addT (un : X.A.units + 64 < cLine) (ho : PE X o to) (ha : PA X (e :: es) t)
    (hbase : attributeBase o "add" X.env (eval o X.env) = eval o X.env := by rfl)
    (hfew : ((backTo cpos (starEach (e :: es) X.env)).all (fun x => !x.1) && (backToKw cpos (keywordEach [] X.env)).all (fun x => x.1.isSome) && decide ((e :: es).length + ([] : List Keyword).length + (if ([] : List Keyword).isEmpty then 0 else 1) < 30)) = true := by rfl)
    (hline : (apos.endLine == cpos.line) = true := by rfl) (hstar : starEach (e :: es) X.env = (false, eval e X.env) :: starEach es X.env := by rfl) (hplain : (backTo cpos (starEach es X.env)).any (·.1) = false := by rfl) :
    PE X (.Call (.Attribute o "add" apos) (e :: es) [] cpos) (tAddT X.K X.prog X.w to t) := by
  refine ⟨fun pins s σ H Q I h => ?_⟩
  refine (wpAny_Call_method_late hbase hfew hline rfl) (thn (ho.run pins s σ H _ I h) fun v s1 ⟨x, H1, I1, r1, ty, q1⟩ => ?_)
  obtain ⟨a, L, rfl, hL, hp⟩ := ty
  obtain ⟨tes, ep, tt, R⟩ := setT_full I1 hL hp
  obtain ⟨ob, hob, ex, dat⟩ := R.ob
  cases r1
  refine ⟨"set", "set.add", PySem.F.plainAttrs_set, PySem.F.slot_set_add, PySem.F.type_set_add, ⟨ob, hob, ex.1⟩, ?_, ?_⟩
  · intro a1 e1
    cases e1
    exact ⟨ob, hob, ex.2.1⟩
  · have run := ha.run cpos pins s1 σ H1 _ I1 q1
    rw [hstar] at run ⊢
    refine Calls.callWith_builtin (by show (false || (backTo cpos (starEach es X.env)).any (·.1)) = false; rw [hplain]; rfl) (Calls.evalArgs_plain ?_)
    exact thn run fun us s2 ⟨vs, H2, I2, r2, q2⟩ => mt_addT un pins s2 σ H2 (.ref a) vs (.ref a) us Q I2 rfl r2 q2
end
end Q2

namespace PM
open PySem PySem.Spec PyProof.Rows L2 Q2
/-! ### readings that imply one another -/
section
variable {X : Cx}
theorem pe_imp {e : Expr} {t t' : TE} (h : PE X e t) (hi : ∀ σ H Q, t' σ H Q → t σ H Q) : PE X e t' := ⟨fun pins s σ H Q I hw => h.run pins s σ H Q I (hi _ _ _ hw)⟩
theorem pt_imp {e : Expr} {t t' : TT} (h : PT X e t) (hi : ∀ σ H Q, t' σ H Q → t σ H Q) : PT X e t' := ⟨fun pins s σ H Q I hw => h.run pins s σ H Q I (hi _ _ _ hw)⟩
theorem pw_imp {e : Expr} {t t' : TT} (h : PW X e t) (hi : ∀ σ H Q, t' σ H Q → t σ H Q) : PW X e t' := ⟨fun whole pins s σ H Q I hw => h.run whole pins s σ H Q I (hi _ _ _ hw)⟩
theorem pa_imp {e : List Expr} {t t' : TA} (h : PA X e t) (hi : ∀ σ H Q, t' σ H Q → t σ H Q) : PA X e t' := ⟨fun pos pins s σ H Q I hw => h.run pos pins s σ H Q I (hi _ _ _ hw)⟩
theorem ps_imp {st : Stmt} {t t' : TS} (h : PS X st t) (hi : ∀ D σ H, t' D σ H → t D σ H) : PS X st t' := ⟨fun pins s σ H D I hw => h.run pins s σ H D I (hi _ _ _ hw)⟩
theorem pss_imp {st : List Stmt} {t t' : TS} (h : PSs X st t) (hi : ∀ D σ H, t' D σ H → t D σ H) : PSs X st t' := ⟨fun pins s σ H D I hw => h.run pins s σ H D I (hi _ _ _ hw)⟩
theorem pi_imp {tg e : Expr} {t t' : TI} (h : PI X tg e t) (hi : ∀ σ H R, t' σ H R → t σ H R) : PI X tg e t' := ⟨fun pins s σ H R I hw => h.run pins s σ H R I (hi _ _ _ hw)⟩
end
/-! ### values and objects -/
inductive Va where
  | non | bl (b : Bool) | int (i : Int) | str (s : Str) | tup (xs : List Va) | rol (xs : List Va) | ref (n : Nat) | adr (a : Addr) | ty (n : String) | exc (a d : Addr) (f : Str) (v : Va)
inductive Ob where
  | lst (xs : List Va)
  | setT (ks : List (List Int))
  | raw (o : HO)
  | tbl (q : Str)
  | dct (kvs : List (Key × Va))
abbrev Sto := List Ob
/-- the lambdas that a def makes are called so -/
def lamQ (x : Str) : Str := x ++ ".<locals>." ++ "<lambda>"
abbrev En := List (Option Va)
/-- a list that nobody changes -/
def FzL (K : PySem.W.Frag) (H : Hp) (a : Addr) (xs : List V) : Prop :=
  (∃ o, H a = some (.frz o (.lst xs))) ∨
    ∃ (o : Obj) (its : Array Value) (n : Nat), K.lookup a = some o ∧ o.cls = .type "list" ∧ o.dict = none ∧ o.data = .seq its n ∧ its.size ≤ sizeLine ∧ Vals xs its.toList
theorem FzL.sq {K : PySem.W.Frag} {H : Hp} {a : Addr} {xs : List V} (h : FzL K H a xs) : SqL K H a xs := h.elim (fun z => .inl (.inr z)) .inr
/-- the written part, the program, the world -/
structure KX where
  K : PySem.W.Frag
  P : Program
  w : World
abbrev kxOf (X : Cx) : KX := ⟨X.K, X.prog, X.w⟩
mutual
def Rv (K : KX) (ρ : List Addr) (H : Hp) : Va → V → Prop
  | .non, w => w = .non
  | .bl b, w => w = .bl b
  | .int i, w => w = .int i
  | .str s, w => w = .str s
  | .tup xs, w => ∃ a ws, w = .ref a ∧ SqT K.K H a ws ∧ Rvs K ρ H xs ws
  | .rol xs, w => ∃ a ws, w = .ref a ∧ FzL K.K H a ws ∧ Rvs K ρ H xs ws
  | .ref n, w => ∃ a, ρ[n]? = some a ∧ w = .ref a
  | .adr a, w => w = .ref a
  | .ty n, w => w = .ty n
  | .exc a d f v, w => w = .ref a ∧ d ∉ ρ ∧ ∃ u, H d = some (.xd [(f, u)]) ∧ Rv K ρ H v u
def Rvs (K : KX) (ρ : List Addr) (H : Hp) : List Va → List V → Prop
  | [], ws => ws = []
  | x :: xs, ws => ∃ w r, ws = w :: r ∧ Rv K ρ H x w ∧ Rvs K ρ H xs r
end
section
variable {K : KX} {ρ ρ' : List Addr} {H H' : Hp}
theorem Rvs.cons {x : Va} {xs : List Va} {w : V} {ws : List V} (h : Rv K ρ H x w) (t : Rvs K ρ H xs ws) : Rvs K ρ H (x :: xs) (w :: ws) := ⟨w, ws, rfl, h, t⟩
theorem Rvs.nil : Rvs K ρ H [] [] := rfl
theorem Rvs.len : ∀ {xs : List Va} {ws : List V}, Rvs K ρ H xs ws → xs.length = ws.length
  | [], _, h => by cases h; rfl
  | x :: xs, _, h => by
    obtain ⟨w, r, rfl, _, t⟩ := h
    simp only [List.length_cons, t.len]
theorem Rvs.get : ∀ {xs : List Va} {ws : List V}, Rvs K ρ H xs ws → ∀ {i : Nat} {x : Va}, xs[i]? = some x → ∃ w, ws[i]? = some w ∧ Rv K ρ H x w
  | [], _, _, _, _, e => by simp at e
  | y :: xs, _, h, 0, x, e => by
    obtain ⟨w, r, rfl, hw, _⟩ := h
    cases (show some y = some x from by simpa using e)
    exact ⟨w, rfl, hw⟩
  | y :: xs, _, h, i + 1, x, e => by
    obtain ⟨w, r, rfl, _, t⟩ := h
    exact t.get (i := i) (by simpa using e)
theorem Rvs.of : ∀ {xs : List Va} {ws : List V}, xs.length = ws.length → (∀ (i : Nat) (x : Va) (w : V), xs[i]? = some x → ws[i]? = some w → Rv K ρ H x w) → Rvs K ρ H xs ws
  | [], [], _, _ => rfl
  | x :: xs, w :: ws, hl, h => ⟨w, ws, rfl, h 0 x w rfl rfl, Rvs.of (by simpa using hl) fun i y z h1 h2 => h (i + 1) y z (by simpa using h1) (by simpa using h2)⟩
theorem Rvs.app {xs ys : List Va} {ws us : List V} (h : Rvs K ρ H xs ws) (h' : Rvs K ρ H ys us) : Rvs K ρ H (xs ++ ys) (ws ++ us) := by
  induction xs generalizing ws with
  | nil => cases h; exact h'
  | cons x xs ih =>
    obtain ⟨w, r, rfl, hw, t⟩ := h
    exact ⟨w, r ++ us, rfl, hw, ih t⟩
theorem Rvs.at {xs : List Va} {ws : List V} (h : Rvs K ρ H xs ws) {i : Nat} {x : Va} {w : V} (e : xs[i]? = some x) (e' : ws[i]? = some w) : Rv K ρ H x w := by
  obtain ⟨w', h1, h2⟩ := h.get e
  cases h1.symm.trans e'
  exact h2
theorem Rvs.take {xs : List Va} {ws : List V} (n : Nat) (h : Rvs K ρ H xs ws) : Rvs K ρ H (xs.take n) (ws.take n) := by
  refine Rvs.of (by simp [h.len]) fun i x w h1 h2 => ?_
  rw [List.getElem?_take] at h1 h2
  split at h1
  · rw [if_pos (by assumption)] at h2
    exact h.at h1 h2
  · cases h1
theorem Rvs.drop {xs : List Va} {ws : List V} (n : Nat) (h : Rvs K ρ H xs ws) : Rvs K ρ H (xs.drop n) (ws.drop n) := by
  refine Rvs.of (by simp [h.len]) fun i x w h1 h2 => ?_
  rw [List.getElem?_drop] at h1 h2
  exact h.at h1 h2
theorem Rvs.rev {xs : List Va} {ws : List V} (h : Rvs K ρ H xs ws) : Rvs K ρ H xs.reverse ws.reverse := by
  have hl := h.len
  refine Rvs.of (by simp [h.len]) fun i x w h1 h2 => ?_
  have hi : i < xs.length := by
    have := (List.getElem?_eq_some_iff.mp h1).1
    simpa using this
  rw [List.getElem?_reverse hi] at h1
  rw [List.getElem?_reverse (by omega)] at h2
  rw [hl] at h1
  exact h.at h1 h2
theorem Rvs.set {xs : List Va} {ws : List V} (h : Rvs K ρ H xs ws) (j : Nat) {y : Va} {u : V} (hy : Rv K ρ H y u) : Rvs K ρ H (xs.set j y) (ws.set j u) := by
  have hl := h.len
  refine Rvs.of (by simp [h.len]) fun i x w h1 h2 => ?_
  rw [List.getElem?_set] at h1 h2
  by_cases e : j = i
  · rw [if_pos e] at h1 h2
    split at h1
    · rw [if_pos (by omega)] at h2
      cases h1
      cases h2
      exact hy
    · cases h1
  · rw [if_neg e] at h1 h2
    exact h.at h1 h2
/-- the objects of the store are none that a value holds by itself -/
def NT (ρ : List Addr) (H : Hp) : Prop := ∀ a ∈ ρ, ∃ o, H a = some o ∧ (∀ xs, o ≠ .tup xs) ∧ ∀ p u, o ≠ .frz p u
structure Ext (ρ ρ' : List Addr) (H H' : Hp) : Prop where
  nt : NT ρ H
  pre : ∃ l, ρ' = ρ ++ l
  fr : ∀ b o, H b = some o → b ∉ ρ → H' b = some o
  new : ∀ b ∈ ρ', b ∉ ρ → H b = none
theorem Ext.refl (n : NT ρ H) : Ext ρ ρ H H := ⟨n, ⟨[], by simp⟩, fun _ _ h _ => h, fun b h n => absurd h n⟩
theorem Ext.trans {ρ'' : List Addr} {H'' : Hp} (a : Ext ρ ρ' H H') (b : Ext ρ' ρ'' H' H'') : Ext ρ ρ'' H H'' := by
  obtain ⟨l, hl⟩ := a.pre
  obtain ⟨m, hm⟩ := b.pre
  refine ⟨a.nt, ⟨l ++ m, by rw [hm, hl, List.append_assoc]⟩, fun c o h n => b.fr c o (a.fr c o h n) fun z => ?_, fun c hc n => ?_⟩
  · have := a.new c z n
    rw [h] at this
    cases this
  · by_cases hc' : c ∈ ρ'
    · exact a.new c hc' n
    · have h1 := b.new c hc hc'
      cases e : H c with
      | none => rfl
      | some o =>
        have := a.fr c o e n
        rw [h1] at this
        cases this
theorem Ext.get (E : Ext ρ ρ' H H') {n : Nat} {a : Addr} (h : ρ[n]? = some a) : ρ'[n]? = some a := by
  obtain ⟨l, rfl⟩ := E.pre
  rw [List.getElem?_append_left (List.getElem?_eq_some_iff.mp h).1]
  exact h
theorem Ext.rd (E : Ext ρ ρ' H H') {a : Addr} {u : HO} (hu : (∃ xs, u = .tup xs) ∨ ∃ p q, u = .frz p q) (h : H a = some u) : H' a = some u := by
  refine E.fr a u h fun z => ?_
  obtain ⟨o, h1, h2, h3⟩ := E.nt a z
  rw [h] at h1
  cases h1
  rcases hu with ⟨xs, e⟩ | ⟨p, q, e⟩
  · exact h2 xs e
  · exact h3 p q e
theorem Ext.sqt (E : Ext ρ ρ' H H') {a : Addr} {ws : List V} (h : SqT K.K H a ws) : SqT K.K H' a ws := by
  rcases h with (h | ⟨o, h⟩) | h
  · exact .inl (.inl (E.rd (.inl ⟨_, rfl⟩) h))
  · exact .inl (.inr ⟨o, E.rd (.inr ⟨_, _, rfl⟩) h⟩)
  · exact .inr h
theorem Ext.fzl (E : Ext ρ ρ' H H') {a : Addr} {ws : List V} (h : FzL K.K H a ws) : FzL K.K H' a ws := by
  rcases h with ⟨o, h⟩ | h
  · exact .inl ⟨o, E.rd (.inr ⟨_, _, rfl⟩) h⟩
  · exact .inr h
mutual
theorem Rv.ext (E : Ext ρ ρ' H H') : ∀ {v : Va} {w : V}, Rv K ρ H v w → Rv K ρ' H' v w
  | .non, _, h => h
  | .bl _, _, h => h
  | .int _, _, h => h
  | .str _, _, h => h
  | .tup xs, _, h => by
    obtain ⟨a, ws, rfl, h1, h2⟩ := h
    exact ⟨a, ws, rfl, E.sqt h1, Rvs.ext E h2⟩
  | .rol xs, _, h => by
    obtain ⟨a, ws, rfl, h1, h2⟩ := h
    exact ⟨a, ws, rfl, E.fzl h1, Rvs.ext E h2⟩
  | .ref n, _, h => by
    obtain ⟨a, h1, rfl⟩ := h
    exact ⟨a, E.get h1, rfl⟩
  | .adr _, _, h => h
  | .ty _, _, h => h
  | .exc a d f v, _, h => by
    obtain ⟨h1, h2, u, h3, h4⟩ := h
    refine ⟨h1, fun z => ?_, u, E.fr d _ h3 h2, Rv.ext E h4⟩
    have := E.new d z h2
    rw [h3] at this
    cases this
theorem Rvs.ext (E : Ext ρ ρ' H H') : ∀ {xs : List Va} {ws : List V}, Rvs K ρ H xs ws → Rvs K ρ' H' xs ws
  | [], _, h => h
  | x :: xs, _, h => by
    obtain ⟨w, r, rfl, hw, t⟩ := h
    exact ⟨w, r, rfl, Rv.ext E hw, Rvs.ext E t⟩
end
theorem nd_get {l : List Addr} (nd : l.Nodup) {i j : Nat} {hi : i < l.length} {hj : j < l.length} (e : ¬ i = j) : l[i] ≠ l[j] := by
  have q := List.pairwise_iff_getElem.mp nd
  rcases Nat.lt_or_gt_of_ne e with h | h
  · exact q i j hi hj h
  · exact (q j i hj hi h).symm
/-! ### the store and the heap -/
def RO (K : KX) (ρ : List Addr) (H : Hp) (a : Addr) : Ob → Prop
  | .lst xs => xs.length ≤ sizeLine ∧ ∃ ws, H a = some (.lst ws) ∧ Rvs K ρ H xs ws
  | .setT ks => ∃ L : List (Addr × List Int), H a = some (SetTO K.P K.w a L) ∧ (L.map (·.2)).Perm ks ∧ ∀ p ∈ L, SqT K.K H p.1 (p.2.map V.int)
  | .raw o => H a = some o ∧ (∀ xs, o ≠ .tup xs) ∧ (∀ p u, o ≠ .frz p u) ∧ ∀ fs, o ≠ .xd fs
  | .tbl q => ∃ ps : Array Value, H a = some (.tbl ps) ∧ TriplesOk ps.toList ∧ (∀ (pos : Pos) (cv : Value), codeAmong pos ps.toList = some cv → ∃ c, cv = .ref c ∧ c ∉ ρ ∧ H c = some (LamX.CodeO c (lamQ q))) ∧ ∃ c, PySem.W.tabIn K.K q = some (c, a)
  | .dct kvs => ∃ ws : List (Key × V), H a = some (.dK ws) ∧ kvs.map (·.1) = ws.map (·.1) ∧ Rvs K ρ H (kvs.map (·.2)) (ws.map (·.2))
structure RS (K : KX) (ρ : List Addr) (S : Sto) (H : Hp) : Prop where
  len : ρ.length = S.length
  nd : ρ.Nodup
  at_ : ∀ (n : Nat) (a : Addr) (o : Ob), ρ[n]? = some a → S[n]? = some o → RO K ρ H a o
theorem RO.nt {a : Addr} {o : Ob} (h : RO K ρ H a o) : ∃ o, H a = some o ∧ (∀ xs, o ≠ .tup xs) ∧ ∀ p u, o ≠ .frz p u := by
  cases o with
  | lst xs =>
    obtain ⟨_, ws, h, _⟩ := h
    exact ⟨_, h, (fun _ z => by cases z), (fun _ _ z => by cases z)⟩
  | setT ks =>
    obtain ⟨L, h, _⟩ := h
    exact ⟨_, h, (fun _ z => by unfold SetTO at z; cases z), (fun _ _ z => by unfold SetTO at z; cases z)⟩
  | raw o => exact ⟨o, h.1, h.2.1, h.2.2.1⟩
  | tbl q =>
    obtain ⟨ps, h, _⟩ := h
    exact ⟨_, h, (fun _ z => by cases z), (fun _ _ z => by cases z)⟩
  | dct kvs =>
    obtain ⟨ws, h, _⟩ := h
    exact ⟨_, h, (fun _ z => by cases z), (fun _ _ z => by cases z)⟩
theorem RO.noxd {a : Addr} {o : Ob} {fs : List (Str × V)} (h : RO K ρ H a o) : H a ≠ some (.xd fs) := fun z => by
  cases o with
  | lst xs =>
    obtain ⟨_, ws, h, _⟩ := h
    rw [h] at z
    cases z
  | setT ks =>
    obtain ⟨L, h, _⟩ := h
    rw [h] at z
    unfold SetTO at z
    cases z
  | raw o => exact h.2.2.2 fs (Option.some.inj (h.1.symm.trans z))
  | tbl q =>
    obtain ⟨ps, h, _⟩ := h
    rw [h] at z
    cases z
  | dct kvs =>
    obtain ⟨ws, h, _⟩ := h
    rw [h] at z
    cases z
theorem RO.ext {a : Addr} {o : Ob} (E : Ext ρ ρ' H H') (e : H' a = H a) (h : RO K ρ H a o) : RO K ρ' H' a o := by
  cases o with
  | lst xs =>
    obtain ⟨hl, ws, h, t⟩ := h
    exact ⟨hl, ws, by rw [e]; exact h, t.ext E⟩
  | setT ks =>
    obtain ⟨L, h1, h2, h3⟩ := h
    exact ⟨L, by rw [e]; exact h1, h2, fun p hp => E.sqt (h3 p hp)⟩
  | raw o => exact ⟨by rw [e]; exact h.1, h.2⟩
  | tbl q =>
    obtain ⟨ps, h1, h2, h3, h4⟩ := h
    refine ⟨ps, by rw [e]; exact h1, h2, fun pos cv hc => ?_, h4⟩
    obtain ⟨c, e1, e2, e3⟩ := h3 pos cv hc
    refine ⟨c, e1, fun z => ?_, E.fr c _ e3 e2⟩
    have := E.new c z e2
    rw [e3] at this
    cases this
  | dct kvs =>
    obtain ⟨ws, h1, h2, h3⟩ := h
    exact ⟨ws, by rw [e]; exact h1, h2, h3.ext E⟩
section
variable {S : Sto}
theorem RS.nt (R : RS K ρ S H) : NT ρ H := fun a ha => by
  obtain ⟨n, hn⟩ := List.getElem?_of_mem ha
  have hl : n < S.length := by rw [← R.len]; exact (List.getElem?_eq_some_iff.mp hn).1
  exact (R.at_ n a S[n] hn (List.getElem?_eq_getElem hl)).nt
theorem RS.noxd (R : RS K ρ S H) {d : Addr} {fs : List (Str × V)} (h : H d = some (.xd fs)) : d ∉ ρ := fun z => by
  obtain ⟨n, hn⟩ := List.getElem?_of_mem z
  have hl : n < S.length := by rw [← R.len]; exact (List.getElem?_eq_some_iff.mp hn).1
  exact (R.at_ n d S[n] hn (List.getElem?_eq_getElem hl)).noxd h
theorem RS.refl (R : RS K ρ S H) : Ext ρ ρ H H := Ext.refl R.nt
theorem RS.fresh (R : RS K ρ S H) {p : Addr} (hp : H p = none) : p ∉ ρ := fun z => by
  obtain ⟨o, h, _⟩ := R.nt p z
  rw [hp] at h
  cases h
theorem RS.adr (R : RS K ρ S H) {n : Nat} {o : Ob} (h : S[n]? = some o) : ∃ a, ρ[n]? = some a ∧ RO K ρ H a o := by
  have hl : n < ρ.length := by rw [R.len]; exact (List.getElem?_eq_some_iff.mp h).1
  exact ⟨ρ[n], List.getElem?_eq_getElem hl, R.at_ n _ o (List.getElem?_eq_getElem hl) h⟩
/-- an object that is none of the store's is made -/
theorem RS.own (R : RS K ρ S H) {p : Addr} {o : HO} (hp : H p = none) : Ext ρ ρ H (upd H p o) ∧ RS K ρ S (upd H p o) := by
  have hp' := R.fresh hp
  have E : Ext ρ ρ H (upd H p o) := ⟨R.nt, ⟨[], by simp⟩, fun b u h _ => by rw [upd_ne (ne_of_none h hp)]; exact h, fun b h n => absurd h n⟩
  refine ⟨E, R.len, R.nd, fun n a u h1 h2 => (R.at_ n a u h1 h2).ext E ?_⟩
  have : a ≠ p := fun z => hp' (by rw [← z]; exact List.mem_of_getElem? h1)
  rw [upd_ne this]
/-- a list is made -/
theorem RS.new (R : RS K ρ S H) {p : Addr} {xs : List Va} {ws : List V} (hp : H p = none) (hl : xs.length ≤ sizeLine) (h : Rvs K ρ H xs ws) :
    Ext ρ (ρ ++ [p]) H (upd H p (.lst ws)) ∧ RS K (ρ ++ [p]) (S ++ [.lst xs]) (upd H p (.lst ws)) := by
  have hp' := R.fresh hp
  have E : Ext ρ (ρ ++ [p]) H (upd H p (.lst ws)) := ⟨R.nt, ⟨[p], rfl⟩, fun b u h _ => by rw [upd_ne (ne_of_none h hp)]; exact h, fun b h n => by
    rcases List.mem_append.mp h with h | h
    · exact absurd h n
    · rw [List.mem_singleton.mp h]; exact hp⟩
  refine ⟨E, by simp [R.len], ?_, fun n a u h1 h2 => ?_⟩
  · refine List.nodup_append.mpr ⟨R.nd, by simp, fun x hx y hy z => hp' ?_⟩
    rw [← List.mem_singleton.mp hy, ← z]
    exact hx
  · by_cases hn : n < ρ.length
    · rw [List.getElem?_append_left hn] at h1
      rw [List.getElem?_append_left (by rw [← R.len]; exact hn)] at h2
      refine (R.at_ n a u h1 h2).ext E ?_
      have : a ≠ p := fun z => hp' (by rw [← z]; exact List.mem_of_getElem? h1)
      rw [upd_ne this]
    · have hn' : n = ρ.length := by
        have := (List.getElem?_eq_some_iff.mp h1).1
        simp at this
        omega
      subst hn'
      rw [List.getElem?_append_right (Nat.le_refl _), Nat.sub_self] at h1
      rw [List.getElem?_append_right (by rw [R.len]; exact Nat.le_refl _), R.len, Nat.sub_self] at h2
      cases h1
      cases h2
      exact ⟨hl, ws, upd_same, h.ext E⟩
/-- a list is written -/
theorem RS.put (R : RS K ρ S H) {n : Nat} {a : Addr} {o : Ob} {xs : List Va} {ws : List V} (ha : ρ[n]? = some a) (_ : S[n]? = some o) (hl : xs.length ≤ sizeLine) (h : Rvs K ρ H xs ws) :
    Ext ρ ρ H (upd H a (.lst ws)) ∧ RS K ρ (S.set n (.lst xs)) (upd H a (.lst ws)) := by
  have am := List.mem_of_getElem? ha
  have E : Ext ρ ρ H (upd H a (.lst ws)) := ⟨R.nt, ⟨[], by simp⟩, fun b u h hb => by rw [upd_ne (fun z => hb (by rw [z]; exact am))]; exact h, fun b h n => absurd h n⟩
  refine ⟨E, by simp [R.len], R.nd, fun m b u h1 h2 => ?_⟩
  by_cases e : n = m
  · subst e
    cases ha.symm.trans h1
    rw [List.getElem?_set_self (List.getElem?_eq_some_iff.mp ‹S[n]? = some o›).1] at h2
    cases h2
    exact ⟨hl, ws, upd_same, h.ext E⟩
  · rw [List.getElem?_set_ne e] at h2
    refine (R.at_ m b u h1 h2).ext E ?_
    have : b ≠ a := fun z => by
      subst z
      have hm := (List.getElem?_eq_some_iff.mp h1)
      have hn := (List.getElem?_eq_some_iff.mp ha)
      exact nd_get R.nd e (hn.2.trans hm.2.symm)
    rw [upd_ne this]
end
/-! ### the slots -/
structure RE (K : KX) (ρ : List Addr) (H : Hp) (Γ : En) (σ : L2.St) : Prop where
  len : Γ.length = σ.length
  at_ : ∀ (i : Nat) (v : Va), Γ[i]? = some (some v) → ∃ w : V, σ[i]? = some (some w) ∧ Rv K ρ H v w
theorem RE.ext {Γ : En} {σ : L2.St} (E : Ext ρ ρ' H H') (h : RE K ρ H Γ σ) : RE K ρ' H' Γ σ := ⟨h.len, fun i v e => let ⟨w, h1, h2⟩ := h.at_ i v e; ⟨w, h1, h2.ext E⟩⟩
theorem RE.set {Γ : En} {σ : L2.St} (h : RE K ρ H Γ σ) (i : Nat) {v : Va} {w : V} (r : Rv K ρ H v w) : RE K ρ H (Γ.set i (some v)) (σ.set i (some w)) := by
  refine ⟨by simp [h.len], fun j u e => ?_⟩
  have hl := h.len
  rw [List.getElem?_set] at e
  by_cases z : i = j
  · subst z
    rw [if_pos rfl] at e
    split at e
    · cases e
      exact ⟨w, by rw [List.getElem?_set_self (by omega)], r⟩
    · cases e
  · rw [if_neg z] at e
    rw [List.getElem?_set_ne z]
    exact h.at_ j u e
end
end PM

namespace PM
open PySem PySem.Spec PyProof.Rows L2 Q2
/-! ### results -/
inductive Res (α : Type) where
  | bad | ok (a : α) (S : Sto) | ex (c f : Str) (v : Va) (S : Sto)
def Res.bind {α β : Type} (r : Res α) (k : α → Sto → Res β) : Res β :=
  match r with
  | .bad => .bad
  | .ok a S => k a S
  | .ex c f v S => .ex c f v S
@[simp] theorem bind_ok {α β : Type} (a : α) (S : Sto) (k : α → Sto → Res β) : (Res.ok a S).bind k = k a S := rfl
@[simp] theorem bind_bad {α β : Type} (k : α → Sto → Res β) : (Res.bad : Res α).bind k = .bad := rfl
@[simp] theorem bind_ex {α β : Type} (c f : Str) (v : Va) (S : Sto) (k : α → Sto → Res β) : (Res.ex c f v S : Res α).bind k = .ex c f v S := rfl
def lift {α : Type} : Option (α × Sto) → Res α
  | none => .bad
  | some (a, S) => .ok a S
abbrev XW := Str → Addr → L2.St → Hp → Prop
abbrev WF : XW := fun _ _ _ _ => False
section
variable {α β γ δ : Type}
/-- what is wanted behind a result -/
def Aft (K : KX) (W : XW) (σ : L2.St) (Rl : List Addr → Hp → α → β → Prop) (Q : β → Hp → Prop) (ρ : List Addr) (H : Hp) : Res α → Prop
  | .bad => False
  | .ok v S' => ∀ ρ' H' w, Ext ρ ρ' H H' → RS K ρ' S' H' → Rl ρ' H' v w → Q w H'
  | .ex c f v S' => ∀ ρ' H' w d, Ext ρ ρ' H H' → RS K ρ' S' H' → Rv K ρ' H' v w → H' d = some (.xd [(f, w)]) → W c d σ H'
theorem Aft.shift {K : KX} {W : XW} {σ : L2.St} {Rl : List Addr → Hp → α → β → Prop} {Q : β → Hp → Prop} {ρ ρ1 : List Addr} {H H1 : Hp} {r : Res α} (E : Ext ρ ρ1 H H1) (h : Aft K W σ Rl Q ρ H r) : Aft K W σ Rl Q ρ1 H1 r := by
  cases r with
  | bad => exact h
  | ok v S' => exact fun ρ' H' w E' => h ρ' H' w (E.trans E')
  | ex c f v S' => exact fun ρ' H' w d E' => h ρ' H' w d (E.trans E')
theorem Aft.bind {K : KX} {W : XW} {σ : L2.St} {Rl : List Addr → Hp → α → β → Prop} {Rl2 : List Addr → Hp → γ → δ → Prop} {Q : β → Hp → Prop} {Q2 : δ → Hp → Prop} {ρ : List Addr} {H : Hp} {r : Res α} {k : α → Sto → Res γ}
    (h : Aft K W σ Rl2 Q2 ρ H (r.bind k)) (hk : ∀ v S1 ρ1 H1 w, Ext ρ ρ1 H H1 → RS K ρ1 S1 H1 → Rl ρ1 H1 v w → Aft K W σ Rl2 Q2 ρ1 H1 (k v S1) → Q w H1) : Aft K W σ Rl Q ρ H r := by
  cases r with
  | bad => exact h
  | ok v S' => exact fun ρ' H' w E R q => hk v S' ρ' H' w E R q (Aft.shift E h)
  | ex c f v S' => exact h
end
/-! ### the judgements -/
abbrev ME := En → Sto → Res Va
abbrev MT := En → Sto → Res Bool
abbrev MA := En → Sto → Res (List Va)
def tM (K : KX) (W : XW) (m : ME) : TE := fun σ H Q => ∃ ρ Γ S, RS K ρ S H ∧ RE K ρ H Γ σ ∧ Aft K W σ (Rv K) Q ρ H (m Γ S)
def tMT (K : KX) (W : XW) (m : MT) : TT := fun σ H Q => ∃ ρ Γ S, RS K ρ S H ∧ RE K ρ H Γ σ ∧ Aft K W σ (fun _ _ (b c : Bool) => c = b) Q ρ H (m Γ S)
def tMA (K : KX) (W : XW) (m : MA) : TA := fun σ H Q => ∃ ρ Γ S, RS K ρ S H ∧ RE K ρ H Γ σ ∧ Aft K W σ (Rvs K) Q ρ H (m Γ S)
def PM (X : Cx) (W : XW) (e : Expr) (m : ME) : Prop := PE X e (tM (kxOf X) W m)
def PMT (X : Cx) (W : XW) (e : Expr) (m : MT) : Prop := PT X e (tMT (kxOf X) W m)
def PMW (X : Cx) (W : XW) (e : Expr) (m : MT) : Prop := PW X e (tMT (kxOf X) W m)
def PMA (X : Cx) (W : XW) (es : List Expr) (m : MA) : Prop := PA X es (tMA (kxOf X) W m)
/-! ### what a rule by values asks -/
def Ans (K : KX) (Q : VK) (ρ : List Addr) (H : Hp) : Option (Va × Sto) → Prop
  | none => False
  | some (v, S') => ∀ ρ' H' w, Ext ρ ρ' H H' → RS K ρ' S' H' → Rv K ρ' H' v w → Q w H'
theorem Aft.ans {K : KX} {W : XW} {σ : L2.St} {Q : VK} {ρ : List Addr} {H : Hp} {o : Option (Va × Sto)} (h : Aft K W σ (Rv K) Q ρ H (lift o)) : Ans K Q ρ H o := by
  cases o with
  | none => exact h
  | some p => exact h
abbrev F1 := Va → Sto → Option (Va × Sto)
abbrev F2 := Va → Va → Sto → Option (Va × Sto)
abbrev FL := List Va → Sto → Option (Va × Sto)
def OpM (K : KX) (r : R2) (f : F2) : Prop := ∀ ρ S H v w x y Q, RS K ρ S H → Rv K ρ H v x → Rv K ρ H w y → Ans K Q ρ H (f v w S) → r x y H Q
def UnM (K : KX) (r : V → Hp → VK → Prop) (f : F1) : Prop := ∀ ρ S H v x Q, RS K ρ S H → Rv K ρ H v x → Ans K Q ρ H (f v S) → r x H Q
def CallM (K : KX) (r : List V → Hp → VK → Prop) (f : FL) : Prop := ∀ ρ S H vs xs Q, RS K ρ S H → Rvs K ρ H vs xs → Ans K Q ρ H (f vs S) → r xs H Q
/-- a rule by values, whatever its form -/
def OpP (X : Cx) (g : Value → Value → Sem Value) (f : F2) : Prop := ∃ r, OpR X g r ∧ OpM (kxOf X) r f
def IxP (X : Cx) (f : F2) : Prop := ∃ r, IxR X r ∧ OpM (kxOf X) r f
def CallP (X : Cx) (g : Value) (f : FL) : Prop := ∃ r, CallR X g r ∧ CallM (kxOf X) r f
/-- the first, or the second -/
def orF2 (f g : F2) : F2 := fun v w S => match f v w S with
  | some p => some p
  | none => g v w S
theorem OpP.or {X : Cx} {g : Value → Value → Sem Value} {f f' : F2} (h : OpP X g f) (h' : OpP X g f') : OpP X g (orF2 f f') := by
  obtain ⟨r, h1, h2⟩ := h
  obtain ⟨r', h1', h2'⟩ := h'
  refine ⟨fun x y H Q => r x y H Q ∨ r' x y H Q, fun pins s σ H x y v u Q I rx ry q => ?_, fun ρ S H v w x y Q R rv rw a => ?_⟩
  · rcases q with q | q
    · exact h1 pins s σ H x y v u Q I rx ry q
    · exact h1' pins s σ H x y v u Q I rx ry q
  · unfold orF2 at a
    cases e : f v w S with
    | some p =>
      rw [e] at a
      exact .inl (h2 ρ S H v w x y Q R rv rw (by rw [e]; exact a))
    | none =>
      rw [e] at a
      exact .inr (h2' ρ S H v w x y Q R rv rw a)
theorem IxP.or {X : Cx} {f f' : F2} (h : IxP X f) (h' : IxP X f') : IxP X (orF2 f f') := by
  obtain ⟨r, h1, h2⟩ := h
  obtain ⟨r', h1', h2'⟩ := h'
  refine ⟨fun x y H Q => r x y H Q ∨ r' x y H Q, IxR.or h1 h1', fun ρ S H v w x y Q R rv rw a => ?_⟩
  unfold orF2 at a
  cases e : f v w S with
  | some p =>
    rw [e] at a
    exact .inl (h2 ρ S H v w x y Q R rv rw (by rw [e]; exact a))
  | none =>
    rw [e] at a
    exact .inr (h2' ρ S H v w x y Q R rv rw a)
/-! ### expressions -/
def mC (v : Va) : ME := fun _ S => .ok v S
def mV (i : Nat) : ME := fun Γ S => match Γ[i]? with
  | some (some v) => .ok v S
  | _ => .bad
def m1 (f : F1) (a : ME) : ME := fun Γ S => (a Γ S).bind fun v S1 => lift (f v S1)
def m2 (f : F2) (a b : ME) : ME := fun Γ S => (a Γ S).bind fun v S1 => (b Γ S1).bind fun w S2 => lift (f v w S2)
def maN : MA := fun _ S => .ok [] S
def maC (a : ME) (t : MA) : MA := fun Γ S => (a Γ S).bind fun v S1 => (t Γ S1).bind fun vs S2 => .ok (v :: vs) S2
def mL (f : FL) (t : MA) : ME := fun Γ S => (t Γ S).bind fun vs S1 => lift (f vs S1)
section
variable {X : Cx} {W : XW} {a b : Expr} {es : List Expr} {ma mb : ME} {t : MA} {pos p : Pos}
theorem pm_const {e : Expr} {v : Va} {w : V} (h : PE X e (tC w)) (r : ∀ ρ H, Rv (kxOf X) ρ H v w) : PM X W e (mC v) :=
  pe_imp h fun σ H Q ⟨ρ, Γ, S, R, G, q⟩ => q ρ H w R.refl R (r ρ H)
theorem pm_int {i : Int} {j : Nat} : PM X W (.Constant (.int i) j pos) (mC (.int i)) := pm_const pe_int fun _ _ => rfl
theorem pm_bl {i : Bool} {j : Nat} : PM X W (.Constant (.bool i) j pos) (mC (.bl i)) := pm_const pe_bl fun _ _ => rfl
theorem pm_non {j : Nat} : PM X W (.Constant .none j pos) (mC .non) := pm_const pe_non fun _ _ => rfl
theorem pm_str {z : Str} {j : Nat} : PM X W (.Constant (.str z) j pos) (mC (.str z)) := pm_const pe_str fun _ _ => rfl
theorem pm_var {i : Nat} {e : Expr} (h : PE X e (tVar i)) : PM X W e (mV i) := by
  refine pe_imp h fun σ H Q ⟨ρ, Γ, S, R, G, q⟩ => ?_
  unfold mV at q
  cases e : Γ[i]? with
  | none => rw [e] at q; exact q.elim
  | some o =>
    cases o with
    | none => rw [e] at q; exact q.elim
    | some v =>
      rw [e] at q
      obtain ⟨w, h1, h2⟩ := G.at_ i v e
      exact ⟨w, h1, q ρ H w R.refl R h2⟩
theorem pm_op {op : Operator} {f : F2} (ho : OpP X (binaryOp op) f) (ha : PM X W a ma) (hb : PM X W b mb) : PM X W (.BinOp a op b pos) (m2 f ma mb) := by
  obtain ⟨r, hr, hf⟩ := ho
  refine pe_imp (pe_op hr ha hb) fun σ H Q ⟨ρ, Γ, S, R, G, q⟩ => ?_
  refine ⟨ρ, Γ, S, R, G, q.bind fun v S1 ρ1 H1 x E1 R1 rx q1 => ?_⟩
  refine ⟨ρ1, Γ, S1, R1, G.ext E1, q1.bind fun w S2 ρ2 H2 y E2 R2 ry q2 => ?_⟩
  exact hf ρ2 S2 H2 v w x y Q R2 (rx.ext E2) ry q2.ans
theorem pm_cmp {op : CmpOp} {f : F2} (ho : OpP X (compareOp op) f) (ha : PM X W a ma) (hb : PM X W b mb) (hm : behindInMarks op b = false) : PM X W (.Compare a [op] [b] pos) (m2 f ma mb) := by
  obtain ⟨r, hr, hf⟩ := ho
  refine pe_imp (pe_cmpR hr ha hb hm) fun σ H Q ⟨ρ, Γ, S, R, G, q⟩ => ?_
  refine ⟨ρ, Γ, S, R, G, q.bind fun v S1 ρ1 H1 x E1 R1 rx q1 => ?_⟩
  refine ⟨ρ1, Γ, S1, R1, G.ext E1, q1.bind fun w S2 ρ2 H2 y E2 R2 ry q2 => ?_⟩
  exact hf ρ2 S2 H2 v w x y Q R2 (rx.ext E2) ry q2.ans
theorem pm_ix {f : F2} (ho : IxP X f) (ha : PM X W a ma) (hb : PM X W b mb) (hs : PlainIx b) : PM X W (.Subscript a b pos) (m2 f ma mb) := by
  obtain ⟨r, hr, hf⟩ := ho
  refine pe_imp (pe_ix hr ha hb hs) fun σ H Q ⟨ρ, Γ, S, R, G, q⟩ => ?_
  refine ⟨ρ, Γ, S, R, G, q.bind fun v S1 ρ1 H1 x E1 R1 rx q1 => ?_⟩
  refine ⟨ρ1, Γ, S1, R1, G.ext E1, q1.bind fun w S2 ρ2 H2 y E2 R2 ry q2 => ?_⟩
  exact hf ρ2 S2 H2 v w x y Q R2 (rx.ext E2) ry q2.ans
theorem pma_nil : PMA X W [] maN := pa_imp pa_nil fun σ H Q ⟨ρ, Γ, S, R, G, q⟩ => q ρ H [] R.refl R rfl
theorem pma_cons (ha : PM X W a ma) (ht : PMA X W es t) (hs : starEach (a :: es) X.env = (false, eval a X.env) :: starEach es X.env := by rfl) : PMA X W (a :: es) (maC ma t) := by
  refine pa_imp (pa_cons ha ht hs) fun σ H Q ⟨ρ, Γ, S, R, G, q⟩ => ?_
  refine ⟨ρ, Γ, S, R, G, q.bind fun v S1 ρ1 H1 x E1 R1 rx q1 => ?_⟩
  refine ⟨ρ1, Γ, S1, R1, G.ext E1, q1.bind fun w S2 ρ2 H2 y E2 R2 ry q2 => ?_⟩
  exact q2 ρ2 H2 _ R2.refl R2 (Rvs.cons (rx.ext E2) ry)
/-! ### displays -/
def fTup : FL := fun vs S => if vs.length ≤ sizeLine then some (.tup vs, S) else none
def fLst : FL := fun vs S => if vs.length ≤ sizeLine then some (.ref S.length, S ++ [.lst vs]) else none
theorem RS.last {K : KX} {ρ : List Addr} {S : Sto} {H : Hp} (R : RS K ρ S H) (p : Addr) {H' : Hp} : Rv K (ρ ++ [p]) H' (.ref S.length) (.ref p) :=
  ⟨p, by rw [← R.len, List.getElem?_append_right (Nat.le_refl _), Nat.sub_self]; rfl, rfl⟩
theorem pm_tup {n : Nat} (ht : PMA X W es t) : PM X W (.Tuple es n pos) (mL fTup t) := by
  refine pe_imp (pe_tup ht) fun σ H Q ⟨ρ, Γ, S, R, G, q⟩ => ?_
  refine ⟨ρ, Γ, S, R, G, q.bind fun vs S1 ρ1 H1 xs E1 R1 rx q1 => ?_⟩
  unfold fTup at q1
  by_cases hl : vs.length ≤ sizeLine
  · rw [if_pos hl] at q1
    refine ⟨by rw [← rx.len]; exact hl, fun p hp => ?_⟩
    obtain ⟨E, R2⟩ := R1.own (o := .tup xs) hp
    exact q1 ρ1 _ _ E R2 ⟨p, xs, rfl, SqT.of upd_same, rx.ext E⟩
  · rw [if_neg hl] at q1
    exact q1.elim
theorem pm_lst (ht : PMA X W es t) : PM X W (.List es pos) (mL fLst t) := by
  refine pe_imp (pe_lst ht) fun σ H Q ⟨ρ, Γ, S, R, G, q⟩ => ?_
  refine ⟨ρ, Γ, S, R, G, q.bind fun vs S1 ρ1 H1 xs E1 R1 rx q1 => ?_⟩
  unfold fLst at q1
  by_cases hl : vs.length ≤ sizeLine
  · rw [if_pos hl] at q1
    refine ⟨by rw [← rx.len]; exact hl, fun p hp => ?_⟩
    obtain ⟨E, R2⟩ := R1.new hp hl rx
    exact q1 _ _ _ E R2 (R1.last p)
  · rw [if_neg hl] at q1
    exact q1.elim
/-! ### tests -/
def mtOf (a : ME) : MT := fun Γ S => (a Γ S).bind fun v S1 => match v with
  | .bl b => .ok b S1
  | _ => .bad
def mtAnd (a b : MT) : MT := fun Γ S => (a Γ S).bind fun c S1 => if c = true then b Γ S1 else .ok false S1
def mtOr (a b : MT) : MT := fun Γ S => (a Γ S).bind fun c S1 => if c = true then .ok true S1 else b Γ S1
def mtNot (a : MT) : MT := fun Γ S => (a Γ S).bind fun c S1 => .ok (!c) S1
def meAnd (a b : ME) : ME := fun Γ S => (a Γ S).bind fun v S1 => match v with
  | .bl c => if c = true then b Γ S1 else .ok (.bl false) S1
  | _ => .bad
def meOr (a b : ME) : ME := fun Γ S => (a Γ S).bind fun v S1 => match v with
  | .bl c => if c = true then .ok (.bl true) S1 else b Γ S1
  | _ => .bad
def mIf (c : MT) (a b : ME) : ME := fun Γ S => (c Γ S).bind fun k S1 => if k = true then a Γ S1 else b Γ S1
def mNot (a : ME) : ME := fun Γ S => (a Γ S).bind fun v S1 => match v with
  | .bl c => .ok (.bl (!c)) S1
  | _ => .bad
/-- a value's truth -/
def tru (S : Sto) : Va → Option Bool
  | .non => some false
  | .bl b => some b
  | .int i => some (i != 0)
  | .str z => if z.length ≤ sizeLine then some ((z.length : Int) != 0) else none
  | .tup xs => some (!xs.isEmpty)
  | .rol xs => some (!xs.isEmpty)
  | .ref n => match S[n]? with
    | some (.lst xs) => some (!xs.isEmpty)
    | some (.raw (.dK kvs)) => some (!kvs.isEmpty)
    | some (.dct kvs) => some (!kvs.isEmpty)
    | _ => none
  | .adr _ => none
  | .ty _ => none
  | .exc _ _ _ _ => none
def mtTru (a : ME) : MT := fun Γ S => (a Γ S).bind fun v S1 => match tru S1 v with
  | some b => .ok b S1
  | none => .bad
theorem empty_of {K : KX} {ρ : List Addr} {H : Hp} {xs : List Va} {ws : List V} (h : Rvs K ρ H xs ws) : (!xs.isEmpty) = !ws.isEmpty := by
  have := h.len
  cases xs <;> cases ws <;> simp_all
theorem tru_ok' {K : KX} {ρ : List Addr} {S : Sto} {H : Hp} {v : Va} {w : V} {b : Bool} (R : RS K ρ S H) (r : Rv K ρ H v w) (h : tru S v = some b) : TruV K.K w H b := by
  cases v with
  | non => cases r; exact (Option.some.inj h).symm
  | bl c => cases r; exact (Option.some.inj h).symm
  | int i => cases r; exact (Option.some.inj h).symm
  | str z =>
    cases r
    have h : (if z.length ≤ sizeLine then some ((z.length : Int) != 0) else none) = some b := h
    by_cases hz : z.length ≤ sizeLine
    · rw [if_pos hz] at h
      exact ⟨hz, (Option.some.inj h).symm⟩
    · rw [if_neg hz] at h
      cases h
  | tup xs =>
    obtain ⟨a, ws, rfl, h1, h2⟩ := r
    exact .inr (.inl ⟨ws, h1, by rw [← empty_of h2]; exact (Option.some.inj h).symm⟩)
  | rol xs =>
    obtain ⟨a, ws, rfl, h1, h2⟩ := r
    exact .inl ⟨ws, h1.sq, by rw [← empty_of h2]; exact (Option.some.inj h).symm⟩
  | ref n =>
    obtain ⟨a, h1, rfl⟩ := r
    unfold tru at h
    simp only at h
    cases e : S[n]? with
    | none => rw [e] at h; cases h
    | some o =>
      rw [e] at h
      have q := R.at_ n a o h1 e
      cases o with
      | lst xs =>
        obtain ⟨_, ws, h3, h4⟩ := q
        exact .inl ⟨ws, SqL.of h3, by rw [← empty_of h4]; exact (Option.some.inj h).symm⟩
      | setT ks => cases h
      | raw o =>
        cases o with
        | dK kvs => exact .inr (.inr ⟨kvs, q.1, (Option.some.inj h).symm⟩)
        | _ => cases h
      | tbl _ => cases h
      | dct kvs =>
        obtain ⟨ws, h3, h4, _⟩ := q
        refine .inr (.inr ⟨ws, h3, ?_⟩)
        have e1 : kvs.length = ws.length := by have := congrArg List.length h4; simpa using this
        have e2 : (!kvs.isEmpty) = !ws.isEmpty := by cases kvs <;> cases ws <;> simp_all
        rw [← e2]
        exact (Option.some.inj h).symm
  | adr a => cases h
  | ty a => cases h
  | exc _ _ _ _ => cases h
section
variable {c d : Expr} {tc td : MT} {cs : List Expr}
theorem pmt_val {e : Expr} {m : ME} (h : PM X W e m) (he : ∀ whole, isTrue e X.env whole = (do let v ← whole; standAt e.pos; holding [v] (truthy v)) := by intro _; rfl) : PMT X W e (mtOf m) := by
  refine pt_imp (pt_val h he) fun σ H Q ⟨ρ, Γ, S, R, G, q⟩ => ?_
  refine ⟨ρ, Γ, S, R, G, q.bind fun v S1 ρ1 H1 x E1 R1 rx q1 => ?_⟩
  cases v with
  | bl b => cases rx; exact ⟨b, rfl, q1 ρ1 H1 b R1.refl R1 rfl⟩
  | _ => exact q1.elim
theorem pmt_cmp {op : CmpOp} {f : F2} (ho : OpP X (compareOp op) f) (ha : PM X W a ma) (hb : PM X W b mb) (hm : behindInMarks op b = false) : PMT X W (.Compare a [op] [b] pos) (mtOf (m2 f ma mb)) := by
  obtain ⟨r, hr, hf⟩ := ho
  refine pt_imp (pt_cmpR hr ha hb hm) fun σ H Q ⟨ρ, Γ, S, R, G, q⟩ => ?_
  have q : Aft (kxOf X) W σ (fun _ _ (b c : Bool) => c = b) Q ρ H (((ma Γ S).bind fun v S1 => (mb Γ S1).bind fun w S2 => lift (f v w S2)).bind fun v S1 => match v with
    | .bl b => .ok b S1
    | _ => .bad) := q
  have assoc : (((ma Γ S).bind fun v S1 => (mb Γ S1).bind fun w S2 => lift (f v w S2)).bind fun v S1 => match v with
    | .bl b => Res.ok b S1
    | _ => .bad) = (ma Γ S).bind fun v S1 => (mb Γ S1).bind fun w S2 => (lift (f v w S2)).bind fun v S1 => match v with
    | .bl b => .ok b S1
    | _ => .bad := by
    cases ma Γ S with
    | bad => rfl
    | ex c f v S => rfl
    | ok v S1 =>
      show ((mb Γ S1).bind fun w S2 => lift (f v w S2)).bind _ = (mb Γ S1).bind _
      cases mb Γ S1 <;> rfl
  rw [assoc] at q
  refine ⟨ρ, Γ, S, R, G, q.bind fun v S1 ρ1 H1 x E1 R1 rx q1 => ?_⟩
  refine ⟨ρ1, Γ, S1, R1, G.ext E1, q1.bind fun w S2 ρ2 H2 y E2 R2 ry q2 => ?_⟩
  refine hf ρ2 S2 H2 v w x y _ R2 (rx.ext E2) ry ?_
  cases e : f v w S2 with
  | none => rw [e] at q2; exact q2.elim
  | some u =>
    obtain ⟨u, S3⟩ := u
    rw [e] at q2
    intro ρ3 H3 z E3 R3 rz
    cases u with
    | bl b => cases rz; exact ⟨b, rfl, q2 ρ3 H3 b E3 R3 rfl⟩
    | _ => exact q2.elim
theorem pmt_tru {e : Expr} {m : ME} (h : PM X W e m) (he : ∀ whole, isTrue e X.env whole = (do let v ← whole; standAt e.pos; holding [v] (truthy v)) := by intro _; rfl) : PMT X W e (mtTru m) := by
  refine pt_imp (pt_truth h he) fun σ H Q ⟨ρ, Γ, S, R, G, q⟩ => ?_
  refine ⟨ρ, Γ, S, R, G, q.bind fun v S1 ρ1 H1 x E1 R1 rx q1 => ?_⟩
  cases e : tru S1 v with
  | none =>
    simp only [e] at q1
    exact q1.elim
  | some b =>
    simp only [e] at q1
    exact ⟨b, tru_ok' R1 rx e, q1 ρ1 H1 b R1.refl R1 rfl⟩
theorem pmt_not (h : PMT X W c tc) : PMT X W (.UnaryOp .Not c pos) (mtNot tc) := by
  refine pt_imp (pt_not h) fun σ H Q ⟨ρ, Γ, S, R, G, q⟩ => ?_
  refine ⟨ρ, Γ, S, R, G, q.bind fun v S1 ρ1 H1 x E1 R1 rx q1 => ?_⟩
  subst rx
  exact q1 ρ1 H1 _ R1.refl R1 rfl
theorem pmw_and1 (h : PMT X W c tc) : PMW X W (.BoolOp .And [c] pos) tc := pw_imp (pw_and1 h) fun _ _ _ q => q
theorem pmw_or1 (h : PMT X W c tc) : PMW X W (.BoolOp .Or [c] pos) tc := pw_imp (pw_or1 h) fun _ _ _ q => q
theorem pmw_and (h : PMT X W c tc) (h2 : PMW X W (.BoolOp .And (d :: cs) pos) td) : PMW X W (.BoolOp .And (c :: d :: cs) pos) (mtAnd tc td) := by
  refine pw_imp (pw_and h h2) fun σ H Q ⟨ρ, Γ, S, R, G, q⟩ => ?_
  refine ⟨ρ, Γ, S, R, G, q.bind fun v S1 ρ1 H1 x E1 R1 rx q1 => ?_⟩
  subst rx
  cases x with
  | true => exact iteT ⟨ρ1, Γ, S1, R1, G.ext E1, q1⟩
  | false => exact iteF (q1 ρ1 H1 _ R1.refl R1 rfl)
theorem pmw_or (h : PMT X W c tc) (h2 : PMW X W (.BoolOp .Or (d :: cs) pos) td) : PMW X W (.BoolOp .Or (c :: d :: cs) pos) (mtOr tc td) := by
  refine pw_imp (pw_or h h2) fun σ H Q ⟨ρ, Γ, S, R, G, q⟩ => ?_
  refine ⟨ρ, Γ, S, R, G, q.bind fun v S1 ρ1 H1 x E1 R1 rx q1 => ?_⟩
  subst rx
  cases x with
  | true => exact iteT (q1 ρ1 H1 _ R1.refl R1 rfl)
  | false => exact iteF ⟨ρ1, Γ, S1, R1, G.ext E1, q1⟩
theorem pm_if {ma mb : ME} (h : PMT X W c tc) (ha : PM X W a ma) (hb : PM X W b mb) : PM X W (.IfExp c a b pos) (mIf tc ma mb) := by
  refine pe_imp (pe_ifExp h ha hb) fun σ H Q ⟨ρ, Γ, S, R, G, q⟩ => ?_
  refine ⟨ρ, Γ, S, R, G, q.bind fun v S1 ρ1 H1 x E1 R1 rx q1 => ?_⟩
  subst rx
  cases x with
  | true => exact iteT ⟨ρ1, Γ, S1, R1, G.ext E1, q1⟩
  | false => exact iteF ⟨ρ1, Γ, S1, R1, G.ext E1, q1⟩
end
end
end PM

namespace PM
open PySem PySem.Spec PyProof.Rows L2 Q2
/-! ### statements -/
inductive Rs where
  | bad | nx (Γ : En) (S : Sto) | rt (v : Va) (S : Sto) | bk (Γ : En) (S : Sto) | ct (Γ : En) (S : Sto) | ex (c f : Str) (v : Va) (Γ : En) (S : Sto)
abbrev MS := En → Sto → Rs
def AftS (K : KX) (W : XW) (D : Ends) (ρ : List Addr) (H : Hp) : Rs → Prop
  | .bad => False
  | .nx Γ' S' => ∀ ρ' H' σ', Ext ρ ρ' H H' → RS K ρ' S' H' → RE K ρ' H' Γ' σ' → D.nx σ' H'
  | .rt v S' => ∀ ρ' H' w, Ext ρ ρ' H H' → RS K ρ' S' H' → Rv K ρ' H' v w → D.rt w H'
  | .bk Γ' S' => ∀ ρ' H' σ', Ext ρ ρ' H H' → RS K ρ' S' H' → RE K ρ' H' Γ' σ' → D.bk σ' H'
  | .ct Γ' S' => ∀ ρ' H' σ', Ext ρ ρ' H H' → RS K ρ' S' H' → RE K ρ' H' Γ' σ' → D.ct σ' H'
  | .ex c f v Γ' S' => ∀ ρ' H' σ' w d, Ext ρ ρ' H H' → RS K ρ' S' H' → RE K ρ' H' Γ' σ' → Rv K ρ' H' v w → H' d = some (.xd [(f, w)]) → W c d σ' H'
section
variable {K : KX} {W : XW} {D : Ends} {ρ ρ1 : List Addr} {H H1 : Hp} {r : Rs}
theorem AftS.shift (E : Ext ρ ρ1 H H1) (h : AftS K W D ρ H r) : AftS K W D ρ1 H1 r := by
  cases r with
  | bad => exact h
  | nx Γ S => exact fun ρ' H' w E' => h ρ' H' w (E.trans E')
  | rt v S => exact fun ρ' H' w E' => h ρ' H' w (E.trans E')
  | bk Γ S => exact fun ρ' H' w E' => h ρ' H' w (E.trans E')
  | ct Γ S => exact fun ρ' H' w E' => h ρ' H' w (E.trans E')
  | ex c f v Γ S => exact fun ρ' H' σ' w d E' => h ρ' H' σ' w d (E.trans E')
end
def tMS (K : KX) (W : XW) (m : MS) : TS := fun D σ H => ∃ ρ Γ S, RS K ρ S H ∧ RE K ρ H Γ σ ∧ AftS K W D ρ H (m Γ S)
def PMS (X : Cx) (W : XW) (st : Stmt) (m : MS) : Prop := PS X st (tMS (kxOf X) W m)
def PMSs (X : Cx) (W : XW) (st : List Stmt) (m : MS) : Prop := PSs X st (tMS (kxOf X) W m)
/-- what follows an expression's result -/
def thenS {α : Type} (Γ : En) (r : Res α) (k : α → Sto → Rs) : Rs :=
  match r with
  | .bad => .bad
  | .ok a S => k a S
  | .ex c f v S => .ex c f v Γ S
@[simp] theorem thenS_ok {α : Type} (Γ : En) (a : α) (S : Sto) (k : α → Sto → Rs) : thenS Γ (Res.ok a S) k = k a S := rfl
@[simp] theorem thenS_bad {α : Type} (Γ : En) (k : α → Sto → Rs) : thenS Γ (Res.bad : Res α) k = .bad := rfl
@[simp] theorem thenS_ex {α : Type} (Γ : En) (c f : Str) (v : Va) (S : Sto) (k : α → Sto → Rs) : thenS Γ (Res.ex c f v S : Res α) k = .ex c f v Γ S := rfl
theorem AftS.bind {α β : Type} {K : KX} {W : XW} {D : Ends} {ρ : List Addr} {H : Hp} {Γ : En} {σ : L2.St} {r : Res α} {k : α → Sto → Rs} {Rl : List Addr → Hp → α → β → Prop} {Q : β → Hp → Prop} (G : RE K ρ H Γ σ)
    (h : AftS K W D ρ H (thenS Γ r k)) (hk : ∀ v S1 ρ1 H1 w, Ext ρ ρ1 H H1 → RS K ρ1 S1 H1 → Rl ρ1 H1 v w → AftS K W D ρ1 H1 (k v S1) → Q w H1) : Aft K W σ Rl Q ρ H r := by
  cases r with
  | bad => exact h
  | ok v S' => exact fun ρ' H' w E R q => hk v S' ρ' H' w E R q (AftS.shift E h)
  | ex c f v S' => exact fun ρ' H' w d E R q e => h ρ' H' σ w d E R (G.ext E) q e
def sSeq (a b : MS) : MS := fun Γ S => match a Γ S with
  | .nx Γ' S' => b Γ' S'
  | r => r
def sNil : MS := fun Γ S => .nx Γ S
def sExpr (m : ME) : MS := fun Γ S => thenS Γ (m Γ S) fun _ S1 => .nx Γ S1
def sRet (m : ME) : MS := fun Γ S => thenS Γ (m Γ S) fun v S1 => .rt v S1
def sIf (c : MT) (a b : MS) : MS := fun Γ S => thenS Γ (c Γ S) fun k S1 => if k = true then a Γ S1 else b Γ S1
def sNever : MS := fun _ _ => .bad
def sBrk : MS := fun Γ S => .bk Γ S
def sCnt : MS := fun Γ S => .ct Γ S
section
variable {X : Cx} {W : XW} {st : Stmt} {sts : List Stmt} {a b : MS} {e : Expr} {m : ME} {pos : Pos}
theorem pmss_nil : PMSs X W [] sNil := pss_imp pss_nil fun D σ H ⟨ρ, Γ, S, R, G, q⟩ => q ρ H σ R.refl R G
theorem pmss_one (h : PMS X W st a) : PMSs X W [st] a := pss_one h
theorem pmss_cons (h : PMS X W st a) (t : PMSs X W sts b) : PMSs X W (st :: sts) (sSeq a b) := by
  refine pss_imp (pss_cons h t) fun D σ H ⟨ρ, Γ, S, R, G, q⟩ => ?_
  refine ⟨ρ, Γ, S, R, G, ?_⟩
  unfold sSeq at q
  cases e : a Γ S with
  | bad => rw [e] at q; exact q
  | nx Γ' S' =>
    rw [e] at q
    exact fun ρ' H' σ' E R' G' => ⟨ρ', Γ', S', R', G', q.shift E⟩
  | rt v S' => rw [e] at q; exact q
  | bk Γ' S' => rw [e] at q; exact q
  | ct Γ' S' => rw [e] at q; exact q
  | ex c f v Γ' S' => rw [e] at q; exact q
theorem pms_expr (h : PM X W e m) (hs : swapsWith e none pos.line X.env = pure false := by rfl) : PMS X W (.Expr e pos) (sExpr m) := by
  refine ps_imp (ps_expr h hs) fun D σ H ⟨ρ, Γ, S, R, G, q⟩ => ?_
  exact ⟨ρ, Γ, S, R, G, AftS.bind G q fun v S1 ρ1 H1 w E1 R1 r1 q1 => q1 ρ1 H1 σ R1.refl R1 (G.ext E1)⟩
theorem pms_ret (h : PM X W e m) : PMS X W (.Return (some e) pos) (sRet m) := by
  refine ps_imp (ps_ret h) fun D σ H ⟨ρ, Γ, S, R, G, q⟩ => ?_
  exact ⟨ρ, Γ, S, R, G, AftS.bind G q fun v S1 ρ1 H1 w E1 R1 r1 q1 => q1 ρ1 H1 w R1.refl R1 r1⟩
theorem pms_retN : PMS X W (.Return none pos) (sRet (mC .non)) := ps_imp ps_retN fun D σ H ⟨ρ, Γ, S, R, G, q⟩ => q ρ H .non R.refl R rfl
theorem pms_if {c : Expr} {x y : List Stmt} {tc : MT} (h : PMT X W c tc) (ha : PMSs X W x a) (hb : PMSs X W y b) : PMS X W (.If c x y pos) (sIf tc a b) := by
  refine ps_imp (ps_if h ha hb) fun D σ H ⟨ρ, Γ, S, R, G, q⟩ => ?_
  refine ⟨ρ, Γ, S, R, G, AftS.bind G q fun v S1 ρ1 H1 w E1 R1 r1 q1 => ?_⟩
  subst r1
  cases w with
  | true => exact iteT ⟨ρ1, Γ, S1, R1, G.ext E1, q1⟩
  | false => exact iteF ⟨ρ1, Γ, S1, R1, G.ext E1, q1⟩
theorem pmss_never : PMSs X W sts sNever := pss_imp pss_never fun D σ H ⟨ρ, Γ, S, R, G, q⟩ => q
theorem pms_brk : PMS X W (.Break pos) sBrk := ps_imp ps_break fun D σ H ⟨ρ, Γ, S, R, G, q⟩ => q ρ H σ R.refl R G
theorem pms_cnt : PMS X W (.Continue pos) sCnt := ps_imp ps_continue fun D σ H ⟨ρ, Γ, S, R, G, q⟩ => q ρ H σ R.refl R G
theorem pms_pass : PMS X W (.Pass pos) sNil := ps_imp ps_pass fun D σ H ⟨ρ, Γ, S, R, G, q⟩ => q ρ H σ R.refl R G
end
/-! ### targets -/
abbrev MG := Va → En → Sto → Res En
abbrev MGs := List Va → En → Sto → Res En
/-- the slots of vs alone are written -/
def Agr (vs : List Nat) (σ σ' : L2.St) : Prop := ∀ us : List Nat, (∀ i ∈ vs, i ∈ us) → wipe σ' us = wipe σ us
theorem Agr.refl (vs : List Nat) (σ : L2.St) : Agr vs σ σ := fun _ _ => rfl
theorem Agr.trans {vs us : List Nat} {σ σ1 σ2 : L2.St} (a : Agr vs σ σ1) (b : Agr us σ1 σ2) : Agr (vs ++ us) σ σ2 := fun ws h => (b ws fun i hi => h i (List.mem_append_right _ hi)).trans (a ws fun i hi => h i (List.mem_append_left _ hi))
theorem wipe_get (σ : L2.St) (us : List Nat) (i : Nat) : (wipe σ us)[i]? = if i ∈ us then (if i < σ.length then some none else none) else σ[i]? := by
  induction us with
  | nil => simp [wipe]
  | cons u us ih =>
    unfold wipe
    rw [List.getElem?_set, wipe_length]
    by_cases e : u = i
    · subst e
      simp
    · rw [if_neg e, ih]
      have e' : ¬ i = u := fun z => e z.symm
      simp [e']
theorem wipe_set {σ : L2.St} {us : List Nat} {i : Nat} {x : Option V} (h : i ∈ us) : wipe (σ.set i x) us = wipe σ us := by
  refine List.ext_getElem? fun j => ?_
  rw [wipe_get, wipe_get, List.length_set, List.getElem?_set]
  by_cases e : i = j
  · subst e
    simp [h]
  · rw [if_neg e]
theorem wipe_wipe (σ : L2.St) (us : List Nat) : wipe (wipe σ us) us = wipe σ us := by
  refine List.ext_getElem? fun j => ?_
  rw [wipe_get (wipe σ us), wipe_length, wipe_get]
  split <;> rfl
theorem Agr.set (σ : L2.St) (i : Nat) (x : Option V) : Agr [i] σ (σ.set i x) := fun us h => wipe_set (h i (by simp))
abbrev RG (K : KX) (vs : List Nat) (σ : L2.St) : List Addr → Hp → En → L2.St → Prop := fun ρ H Γ σ' => RE K ρ H Γ σ' ∧ Agr vs σ σ'
def tMG (K : KX) (W : XW) (vs : List Nat) (g : MG) : TG := fun w σ H Q => ∃ ρ Γ S v, RS K ρ S H ∧ RE K ρ H Γ σ ∧ Rv K ρ H v w ∧ Aft K W σ (RG K vs σ) Q ρ H (g v Γ S)
def tMGs (K : KX) (W : XW) (vs : List Nat) (g : MGs) : TGs := fun ws σ H Q => ∃ ρ Γ S us, RS K ρ S H ∧ RE K ρ H Γ σ ∧ Rvs K ρ H us ws ∧ Aft K W σ (RG K vs σ) Q ρ H (g us Γ S)
def PMG (X : Cx) (W : XW) (vs : List Nat) (e : Expr) (g : MG) : Prop := PG X e (tMG (kxOf X) W vs g)
def PMGs (X : Cx) (W : XW) (vs : List Nat) (es : List Expr) (g : MGs) : Prop := PGs X es (tMGs (kxOf X) W vs g)
section
variable {X : Cx}
theorem pg_imp {e : Expr} {t t' : TG} (h : PG X e t) (hi : ∀ v σ H Q, t' v σ H Q → t v σ H Q) : PG X e t' := ⟨fun pins s σ H v u Q I r hw => h.run pins s σ H v u Q I r (hi _ _ _ _ hw)⟩
theorem pgs_imp {e : List Expr} {t t' : TGs} (h : PGs X e t) (hi : ∀ v σ H Q, t' v σ H Q → t v σ H Q) : PGs X e t' := ⟨fun pins s σ H v u Q I r hw => h.run pins s σ H v u Q I r (hi _ _ _ _ hw)⟩
end
def gV (i : Nat) : MG := fun v Γ S => .ok (Γ.set i (some v)) S
def gsN : MGs := fun vs Γ S => match vs with
  | [] => .ok Γ S
  | _ => .bad
/-- a target that raises nothing -/
def noX {α : Type} : Res α → Res α
  | .ok a S => .ok a S
  | _ => .bad
def gsC (g : MG) (t : MGs) : MGs := fun vs Γ S => match vs with
  | v :: r => (noX (g v Γ S)).bind fun Γ1 S1 => noX (t r Γ1 S1)
  | _ => .bad
def gT (n : Nat) (t : MGs) : MG := fun v Γ S => match v with
  | .tup xs => if xs.length = n then noX (t xs Γ S) else .bad
  | _ => .bad
theorem Aft.noX {α β : Type} {K : KX} {W W' : XW} {σ σ' : L2.St} {Rl : List Addr → Hp → α → β → Prop} {Q : β → Hp → Prop} {ρ : List Addr} {H : Hp} {r : Res α} (h : Aft K W σ Rl Q ρ H (noX r)) : Aft K W' σ' Rl Q ρ H r := by
  cases r with
  | bad => exact h
  | ok a S => exact h
  | ex c f v S => exact h.elim
section
variable {X : Cx} {W : XW} {e : Expr} {es : List Expr} {g : MG} {t : MGs} {pos : Pos} {vs us : List Nat}
theorem pmg_name {i : Nat} {e : Expr} (h : PG X e (gName i)) : PMG X W [i] e (gV i) := pg_imp h fun w σ H Q ⟨ρ, Γ, S, v, R, G, r, q⟩ => q ρ H _ R.refl R ⟨G.set i r, Agr.set σ i _⟩
theorem pmgs_nil : PMGs X W [] [] gsN := by
  refine pgs_imp pgs_nil fun ws σ H Q ⟨ρ, Γ, S, vs, R, G, r, q⟩ => ?_
  cases vs with
  | nil =>
    cases r
    exact ⟨rfl, q ρ H σ R.refl R ⟨G, Agr.refl _ _⟩⟩
  | cons v vs => exact q.elim
theorem pmgs_cons (h1 : PMG X W vs e g) (h2 : PMGs X W us es t)
    (hs : (assignEach (e :: es) X.env).map (·.2) = assign e X.env :: (assignEach es X.env).map (·.2) := by rfl) : PMGs X W (vs ++ us) (e :: es) (gsC g t) := by
  refine pgs_imp (pgs_cons h1 h2 hs) fun ws σ H Q ⟨ρ, Γ, S, xs, R, G, r, q⟩ => ?_
  cases xs with
  | nil => exact q.elim
  | cons v xs =>
    obtain ⟨w, ws', rfl, hw, ht⟩ := r
    have q : Aft (kxOf X) W σ (RG (kxOf X) (vs ++ us) σ) Q ρ H ((noX (g v Γ S)).bind fun Γ1 S1 => noX (t xs Γ1 S1)) := q
    refine ⟨w, ws', rfl, ρ, Γ, S, v, R, G, hw, (q.bind fun Γ1 S1 ρ1 H1 σ1 E1 R1 G1 q1 => ?_ : Aft (kxOf X) W σ (RG (kxOf X) vs σ) _ ρ H (noX (g v Γ S))).noX⟩
    refine ⟨ρ1, Γ1, S1, xs, R1, G1.1, ht.ext E1, ?_⟩
    have q1 : Aft (kxOf X) W σ1 (RG (kxOf X) (vs ++ us) σ) Q ρ1 H1 (t xs Γ1 S1) := q1.noX
    cases e : t xs Γ1 S1 with
    | bad => rw [e] at q1; exact q1
    | ok a b => rw [e] at q1; exact fun ρ' H' w E R q => q1 ρ' H' w E R ⟨q.1, G1.2.trans q.2⟩
    | ex a b c d => rw [e] at q1; exact q1
theorem pmg_tup {k n : Nat} (hc : X.calm = true) (h : PMGs X W vs es t) (hn : (assignEach es X.env).length = n := by rfl) (hst : (assignEach es X.env).findIdx? (·.1) = none := by rfl) : PMG X W vs (.Tuple es k pos) (gT n t) := by
  refine pg_imp (pg_tup hc h hn hst) fun w σ H Q ⟨ρ, Γ, S, v, R, G, r, q⟩ => ?_
  cases v with
  | tup xs =>
    obtain ⟨a, ws, rfl, h1, h2⟩ := r
    unfold gT at q
    simp only at q
    by_cases hl : xs.length = n
    · rw [if_pos hl] at q
      exact ⟨a, ws, rfl, h1, by rw [← h2.len]; exact hl, ρ, Γ, S, xs, R, G, h2, q.noX⟩
    · rw [if_neg hl] at q
      exact q.elim
  | _ => exact q.elim
end
/-! ### assignments -/
def sAsg (m : ME) (g : MG) : MS := fun Γ S => thenS Γ (m Γ S) fun v S1 => thenS Γ (g v Γ S1) fun Γ1 S2 => .nx Γ1 S2
def sSet (i : Nat) (m : ME) : MS := fun Γ S => thenS Γ (m Γ S) fun v S1 => .nx (Γ.set i (some v)) S1
def sPar (i j : Nat) (t : MA) : MS := fun Γ S => thenS Γ (t Γ S) fun vs S1 => match vs with
  | [v, w] => .nx ((Γ.set i (some v)).set j (some w)) S1
  | _ => .bad
def sPar3 (i j l : Nat) (t : MA) : MS := fun Γ S => thenS Γ (t Γ S) fun vs S1 => match vs with
  | [u, v, w] => .nx (((Γ.set i (some u)).set j (some v)).set l (some w)) S1
  | _ => .bad
/-- x op= e -/
def sAug (i : Nat) (f : F2) (m : ME) : MS := fun Γ S => match Γ[i]? with
  | some (some x) => thenS Γ (m Γ S) fun v S1 => thenS Γ (lift (f x v S1)) fun z S2 => .nx (Γ.set i (some z)) S2
  | _ => .bad
def IpM (K : KX) (r : TIp) (f : F2) : Prop := ∀ ρ S H v w x y Q, RS K ρ S H → Rv K ρ H v x → Rv K ρ H w y → Ans K Q ρ H (f v w S) → r x y H Q
def IpP (X : Cx) (op : Operator) (f : F2) : Prop := ∃ r, PIp X op r ∧ IpM (kxOf X) r f
section
variable {X : Cx} {W : XW} {e tg : Expr} {m : ME} {g : MG} {pos : Pos}
theorem pms_set {i : Nat} {st : Stmt} (h : PS X st (tAsg (tM (kxOf X) W m) (gName i))) : PMS X W st (sSet i m) := by
  refine ps_imp h fun D σ H ⟨ρ, Γ, S, R, G, q⟩ => ?_
  exact ⟨ρ, Γ, S, R, G, AftS.bind G q fun v S1 ρ1 H1 w E1 R1 r1 q1 => q1 ρ1 H1 _ R1.refl R1 ((G.ext E1).set i r1)⟩
theorem pms_asg {vs : List Nat} (h : PM X W e m) (hg : PMG X W vs tg g) (hs : swapsWithSole [tg] e pos.line X.env = pure false := by rfl) (hw : swappedStores [tg] e X.env = pure none := by rfl)
    (h1 : (assignEach [tg] X.env).map (·.2) = [assign tg X.env] := by rfl) : PMS X W (.Assign [tg] e pos) (sAsg m g) := by
  refine ps_imp (ps_asg h hg hs hw h1) fun D σ H ⟨ρ, Γ, S, R, G, q⟩ => ?_
  refine ⟨ρ, Γ, S, R, G, AftS.bind G q fun v S1 ρ1 H1 w E1 R1 r1 q1 => ?_⟩
  exact ⟨ρ1, Γ, S1, v, R1, G.ext E1, r1, AftS.bind (G.ext E1) q1 fun Γ2 S2 ρ2 H2 σ2 E2 R2 r2 q2 => q2 ρ2 H2 σ2 R2.refl R2 r2.1⟩
theorem pms_par {i j : Nat} {t : MA} {st : Stmt} (h : PS X st (tPar i j (tMA (kxOf X) W t))) : PMS X W st (sPar i j t) := by
  refine ps_imp h fun D σ H ⟨ρ, Γ, S, R, G, q⟩ => ?_
  refine ⟨ρ, Γ, S, R, G, AftS.bind G q fun vs S1 ρ1 H1 ws E1 R1 r1 q1 => ?_⟩
  match vs, r1, q1 with
  | [v, w], r1, q1 =>
    obtain ⟨x, _, rfl, rx, y, _, rfl, ry, rfl⟩ := r1
    exact ⟨x, y, rfl, q1 ρ1 H1 _ R1.refl R1 (((G.ext E1).set i rx).set j ry)⟩
  | [], _, q1 => exact q1.elim
  | [_], _, q1 => exact q1.elim
  | _ :: _ :: _ :: _, _, q1 => exact q1.elim
theorem pms_aug {i : Nat} {op : Operator} {f : F2} {x : Str} {pos' : Pos} (hN : X.N.Nodup) (hi : X.N[i]? = some x) (hx : Loc X.env.scope x) (hf : IpP X op f) (h : PM X W e m)
    (hfn : X.fn x = true ∨ X.env.scope.names.lookup x = some .local := by first | exact .inl rfl | exact .inr rfl | assumption) : PMS X W (.AugAssign (.Name x pos') op e pos) (sAug i f m) := by
  obtain ⟨r, hr, hm⟩ := hf
  refine ps_imp (ps_aug (pos := pos) (pos' := pos') hN hi hx h hr hfn) fun D σ H ⟨ρ, Γ, S, R, G, q⟩ => ?_
  unfold sAug at q
  cases e : Γ[i]? with
  | none => rw [e] at q; exact q.elim
  | some o =>
    cases o with
    | none => rw [e] at q; exact q.elim
    | some v =>
      rw [e] at q
      obtain ⟨w, h1, h2⟩ := G.at_ i v e
      refine ⟨w, h1, ρ, Γ, S, R, G, AftS.bind G q fun u S1 ρ1 H1 y E1 R1 r1 q1 => ?_⟩
      refine hm ρ1 S1 H1 v u w y _ R1 (h2.ext E1) r1 ?_
      cases e2 : f v u S1 with
      | none => rw [e2] at q1; exact q1.elim
      | some p =>
        rw [e2] at q1
        exact fun ρ2 H2 z E2 R2 r2 => q1 ρ2 H2 _ E2 R2 (((G.ext E1).ext E2).set i r2)
end
/-! ### what is walked -/
def lstOf (S : Sto) : Va → Option (List Va)
  | .ref n => match S[n]? with
    | some (.lst xs) => some xs
    | _ => none
  | .rol xs => some xs
  | _ => none
inductive ItV where
  | ref (n : Nat) | itm (xs : List Va) | rng (lo c : Int) (n : Nat) | enm (n : Nat) | enmI (xs : List Va) | zip (v w : Va) | zipT (xs ys : List Va)
def pair2 : Option Va → Option Va → Option Va
  | some x, some y => some (.tup [x, y])
  | _, _ => none
def pairE (i : Nat) (v : Va) : Va := .tup [.int (i : Nat), v]
/-- none: nobody knows; some none: it stops -/
def ItV.get : ItV → Nat → Sto → Option (Option Va)
  | .ref n, i, S => match S[n]? with
    | some (.lst xs) => some xs[i]?
    | _ => none
  | .itm xs, i, _ => some xs[i]?
  | .rng lo c n, i, _ => if i < n then some (some (.int (lo + (i : Nat) * c))) else some none
  | .enm n, i, S => match S[n]? with
    | some (.lst xs) => some (xs[i]?.map (pairE i))
    | _ => none
  | .enmI xs, i, _ => some (xs[i]?.map (pairE i))
  | .zip v w, i, S => match lstOf S v, lstOf S w with
    | some xs, some ys => some (pair2 xs[i]? ys[i]?)
    | _, _ => none
  | .zipT xs ys, i, _ => some (pair2 xs[i]? ys[i]?)
def ItV.fuel : ItV → Sto → Nat
  | .ref n, S => match S[n]? with
    | some (.lst xs) => xs.length
    | _ => 0
  | .itm xs, _ => xs.length
  | .rng _ _ n, _ => n
  | .enm n, S => match S[n]? with
    | some (.lst xs) => xs.length
    | _ => 0
  | .enmI xs, _ => xs.length
  | .zip v _, S => match lstOf S v with
    | some xs => xs.length
    | none => 0
  | .zipT xs _, _ => xs.length
def ItOk (K : KX) (ρ : List Addr) (H : Hp) (it : ItV) (J : It) : Prop := ∀ ρ' S' H', Ext ρ ρ' H H' → RS K ρ' S' H' → ∀ i, match it.get i S' with
  | none => True
  | some none => J.stop i H'
  | some (some x) => J.go i H' ∧ ∀ y H'', J.yld i H' y H'' → Ext ρ' ρ' H' H'' ∧ RS K ρ' S' H'' ∧ Rv K ρ' H'' x y
theorem ItOk.ext {K : KX} {ρ ρ1 : List Addr} {H H1 : Hp} {it : ItV} {J : It} (E : Ext ρ ρ1 H H1) (h : ItOk K ρ H it J) : ItOk K ρ1 H1 it J := fun ρ' S' H' E' => h ρ' S' H' (E.trans E')
abbrev MI := En → Sto → Res ItV
def tMI (K : KX) (W : XW) (m : MI) : TI := fun σ H R' => ∃ ρ Γ S, RS K ρ S H ∧ RE K ρ H Γ σ ∧ Aft K W σ (ItOk K) R' ρ H (m Γ S)
def PMI (X : Cx) (W : XW) (tg e : Expr) (m : MI) : Prop := PI X tg e (tMI (kxOf X) W m)
/-! ### for -/
def loopF (it : ItV) (g : MG) (body : MS) : Nat → Nat → En → Sto → Rs
  | 0, i, Γ, S => match it.get i S with
    | some none => .nx Γ S
    | _ => .bad
  | k + 1, i, Γ, S => match it.get i S with
    | some none => .nx Γ S
    | none => .bad
    | some (some x) => thenS Γ (g x Γ S) fun Γ1 S1 => match body Γ1 S1 with
      | .nx Γ2 S2 => loopF it g body k (i + 1) Γ2 S2
      | .ct Γ2 S2 => loopF it g body k (i + 1) Γ2 S2
      | .bk Γ2 S2 => .nx Γ2 S2
      | .rt v S2 => .rt v S2
      | .ex c f v Γ2 S2 => .ex c f v Γ2 S2
      | .bad => .bad
def sFor (mi : MI) (g : MG) (body : MS) : MS := fun Γ S => thenS Γ (mi Γ S) fun it S1 => loopF it g body (it.fuel S1) 0 Γ S1
theorem pms_for {X : Cx} {W : XW} {vs : List Nat} {tg iter : Expr} {body : List Stmt} {mi : MI} {g : MG} {mb : MS} {pos : Pos} (hp : PassesOwn (model X.prog X.w) X.A X.env X.xe) (hc : X.calm = true) (hi : PMI X W tg iter mi) (hg : PMG X W vs tg g) (hb : PMSs X W body mb)
    (hs : ∀ x, foldedSetIterable iter X.env x = pure x := by intro _; rfl) : PMS X W (.For tg iter body [] pos) (sFor mi g mb) := by
  refine ps_imp (ps_for hp hc hi hg hb hs) fun D σ H ⟨ρ, Γ, S, R, G, q⟩ => ?_
  refine ⟨ρ, Γ, S, R, G, AftS.bind G q fun it S1 ρ1 H1 J E1 R1 hJ q1 => ?_⟩
  refine ⟨fun i m σ' H' => ∃ ρ' Γ' S', Ext ρ1 ρ' H1 H' ∧ RS (kxOf X) ρ' S' H' ∧ RE (kxOf X) ρ' H' Γ' σ' ∧ AftS (kxOf X) W D ρ' H' (loopF it g mb m i Γ' S'), ⟨_, ρ1, Γ, S1, R1.refl, R1, G.ext E1, q1⟩, ?_⟩
  rintro i m σ' H' ⟨ρ', Γ', S', E', R', G', q'⟩
  have go := hJ ρ' S' H' E' R' i
  cases m with
  | zero =>
    have q' : AftS (kxOf X) W D ρ' H' (match it.get i S' with | some none => .nx Γ' S' | _ => .bad) := q'
    cases e : it.get i S' with
    | none => rw [e] at q'; exact q'.elim
    | some o =>
      cases o with
      | some x => rw [e] at q'; exact q'.elim
      | none =>
        rw [e] at q' go
        exact .inl ⟨go, q' ρ' H' σ' R'.refl R' G'⟩
  | succ k =>
    unfold loopF at q'
    cases e : it.get i S' with
    | none => rw [e] at q'; exact q'.elim
    | some o =>
      cases o with
      | none =>
        rw [e] at q' go
        exact .inl ⟨go, q' ρ' H' σ' R'.refl R' G'⟩
      | some x =>
        rw [e] at q' go
        refine .inr ⟨go.1, fun σ2 H2 => ∃ ρ2 Γ2 S2, Ext ρ1 ρ2 H1 H2 ∧ RS (kxOf X) ρ2 S2 H2 ∧ RE (kxOf X) ρ2 H2 Γ2 σ2 ∧ AftS (kxOf X) W D ρ2 H2 (loopF it g mb k (i + 1) Γ2 S2), fun σ2 H2 h => ⟨k, Nat.lt_succ_self k, h⟩, fun y H2 hy => ?_⟩
        obtain ⟨E2, R2, r2⟩ := go.2 y H2 hy
        have q' := q'.shift E2
        refine ⟨ρ', Γ', S', x, R2, G'.ext E2, r2, AftS.bind (G'.ext E2) q' fun Γ3 S3 ρ3 H3 σ3 E3 R3 G3 q3 => ?_⟩
        refine ⟨ρ3, Γ3, S3, R3, G3.1, ?_⟩
        have E13 : Ext ρ1 ρ3 H1 H3 := (E'.trans E2).trans E3
        cases e3 : mb Γ3 S3 with
        | bad => rw [e3] at q3; exact q3
        | nx Γ4 S4 => rw [e3] at q3; exact fun ρ5 H5 σ5 E5 R5 G5 => ⟨ρ5, Γ4, S4, E13.trans E5, R5, G5, q3.shift E5⟩
        | ct Γ4 S4 => rw [e3] at q3; exact fun ρ5 H5 σ5 E5 R5 G5 => ⟨ρ5, Γ4, S4, E13.trans E5, R5, G5, q3.shift E5⟩
        | bk Γ4 S4 => rw [e3] at q3; exact fun ρ5 H5 σ5 E5 R5 G5 => q3 ρ5 H5 σ5 E5 R5 G5
        | rt v S4 => rw [e3] at q3; exact q3
        | ex c f v Γ4 S4 => rw [e3] at q3; exact q3
/-! ### while -/
def loopW (c : MT) (body : MS) : Nat → En → Sto → Rs
  | 0, _, _ => .bad
  | k + 1, Γ, S => thenS Γ (c Γ S) fun b S1 => if b = true then match body Γ S1 with
      | .nx Γ2 S2 => loopW c body k Γ2 S2
      | .ct Γ2 S2 => loopW c body k Γ2 S2
      | .bk Γ2 S2 => .nx Γ2 S2
      | .rt v S2 => .rt v S2
      | .ex c f v Γ2 S2 => .ex c f v Γ2 S2
      | .bad => .bad
    else .nx Γ S1
def sWhile (fuel : Nat) (c : MT) (body : MS) : MS := fun Γ S => loopW c body fuel Γ S
theorem pms_while {X : Cx} {W : XW} {c : Expr} {body : List Stmt} {tc : MT} {mb : MS} {pos : Pos} (fuel : Nat) (hp : PassesOwn (model X.prog X.w) X.A X.env X.xe) (hc : PMT X W c tc) (hb : PMSs X W body mb) : PMS X W (.While c body [] pos) (sWhile fuel tc mb) := by
  refine ps_imp (ps_while hp hc hb) fun D σ H ⟨ρ, Γ, S, R, G, q⟩ => ?_
  refine ⟨fun m σ' H' => ∃ ρ' Γ' S', RS (kxOf X) ρ' S' H' ∧ RE (kxOf X) ρ' H' Γ' σ' ∧ AftS (kxOf X) W D ρ' H' (loopW tc mb m Γ' S'), ⟨fuel, ρ, Γ, S, R, G, q⟩, ?_⟩
  rintro m σ' H' ⟨ρ', Γ', S', R', G', q'⟩
  cases m with
  | zero => exact q'.elim
  | succ k =>
    refine ⟨ρ', Γ', S', R', G', AftS.bind G' q' fun b S1 ρ1 H1 z E1 R1 r1 q1 => ?_⟩
    subst r1
    cases z with
    | false => exact iteF (q1 ρ1 H1 σ' R1.refl R1 (G'.ext E1))
    | true =>
      refine iteT ⟨fun σ2 H2 => ∃ ρ2 Γ2 S2, RS (kxOf X) ρ2 S2 H2 ∧ RE (kxOf X) ρ2 H2 Γ2 σ2 ∧ AftS (kxOf X) W D ρ2 H2 (loopW tc mb k Γ2 S2), fun σ2 H2 h => ⟨k, Nat.lt_succ_self k, h⟩, ρ1, Γ', S1, R1, G'.ext E1, ?_⟩
      rw [if_pos rfl] at q1
      cases e3 : mb Γ' S1 with
      | bad => rw [e3] at q1; exact q1
      | nx Γ4 S4 => rw [e3] at q1; exact fun ρ5 H5 σ5 E5 R5 G5 => ⟨ρ5, Γ4, S4, R5, G5, q1.shift E5⟩
      | ct Γ4 S4 => rw [e3] at q1; exact fun ρ5 H5 σ5 E5 R5 G5 => ⟨ρ5, Γ4, S4, R5, G5, q1.shift E5⟩
      | bk Γ4 S4 => rw [e3] at q1; exact fun ρ5 H5 σ5 E5 R5 G5 => q1 ρ5 H5 σ5 E5 R5 G5
      | rt v S4 => rw [e3] at q1; exact q1
      | ex c f v Γ4 S4 => rw [e3] at q1; exact q1
end PM

namespace PM
open PySem PySem.Spec PyProof.Rows L2 Q2
/-! ### a list being made stands beside the store -/
section
variable {K : KX} {ρ : List Addr} {H : Hp} {S : Sto}
mutual
theorem Rv.more (l : List Addr) (hn : ∀ b ∈ l, ∃ ws, H b = some (.lst ws)) : ∀ {v : Va} {w : V}, Rv K ρ H v w → Rv K (ρ ++ l) H v w
  | .non, _, h => h
  | .bl _, _, h => h
  | .int _, _, h => h
  | .str _, _, h => h
  | .tup xs, _, h => by
    obtain ⟨a, ws, rfl, h1, h2⟩ := h
    exact ⟨a, ws, rfl, h1, Rvs.more l hn h2⟩
  | .rol xs, _, h => by
    obtain ⟨a, ws, rfl, h1, h2⟩ := h
    exact ⟨a, ws, rfl, h1, Rvs.more l hn h2⟩
  | .ref n, _, h => by
    obtain ⟨a, h1, rfl⟩ := h
    exact ⟨a, by rw [List.getElem?_append_left (List.getElem?_eq_some_iff.mp h1).1]; exact h1, rfl⟩
  | .adr _, _, h => h
  | .ty _, _, h => h
  | .exc a d f v, _, h => by
    obtain ⟨h1, h2, u, h3, h4⟩ := h
    refine ⟨h1, fun z => ?_, u, h3, Rv.more l hn h4⟩
    rcases List.mem_append.mp z with z | z
    · exact h2 z
    · obtain ⟨ws, e⟩ := hn d z
      rw [h3] at e
      cases e
theorem Rvs.more (l : List Addr) (hn : ∀ b ∈ l, ∃ ws, H b = some (.lst ws)) : ∀ {xs : List Va} {ws : List V}, Rvs K ρ H xs ws → Rvs K (ρ ++ l) H xs ws
  | [], _, h => h
  | x :: xs, _, h => by
    obtain ⟨w, r, rfl, hw, t⟩ := h
    exact ⟨w, r, rfl, Rv.more l hn hw, Rvs.more l hn t⟩
end
/-- what is no tuple is written -/
def Oth (H : Hp) (p : Addr) : Prop := ∃ o, H p = some o ∧ (∀ xs, o ≠ .tup xs) ∧ (∀ q x, o ≠ .frz q x) ∧ (∀ fs, o ≠ .xd fs) ∧ ∀ φ, o ≠ .ext φ
section
variable {p : Addr} {u : HO}
theorem Oth.sqt (h : Oth H p) {b : Addr} {ws : List V} (s : SqT K.K H b ws) : SqT K.K (upd H p u) b ws := by
  obtain ⟨o, h0, n1, n2, _⟩ := h
  rcases s with (h | ⟨q, h⟩) | h
  · exact .inl (.inl (by rw [upd_ne (fun z => by rw [z, h0] at h; exact n1 _ (Option.some.inj h))]; exact h))
  · exact .inl (.inr ⟨q, by rw [upd_ne (fun z => by rw [z, h0] at h; exact n2 _ _ (Option.some.inj h))]; exact h⟩)
  · exact .inr h
theorem Oth.fzl (h : Oth H p) {b : Addr} {ws : List V} (s : FzL K.K H b ws) : FzL K.K (upd H p u) b ws := by
  obtain ⟨o, h0, n1, n2, _⟩ := h
  rcases s with ⟨q, h⟩ | h
  · exact .inl ⟨q, by rw [upd_ne (fun z => by rw [z, h0] at h; exact n2 _ _ (Option.some.inj h))]; exact h⟩
  · exact .inr h
mutual
theorem Rv.oth (o : Oth H p) : ∀ {v : Va} {w : V}, Rv K ρ H v w → Rv K ρ (upd H p u) v w
  | .non, _, h => h
  | .bl _, _, h => h
  | .int _, _, h => h
  | .str _, _, h => h
  | .tup xs, _, h => by
    obtain ⟨a, ws, rfl, h1, h2⟩ := h
    exact ⟨a, ws, rfl, o.sqt h1, Rvs.oth o h2⟩
  | .rol xs, _, h => by
    obtain ⟨a, ws, rfl, h1, h2⟩ := h
    exact ⟨a, ws, rfl, o.fzl h1, Rvs.oth o h2⟩
  | .ref n, _, h => h
  | .adr _, _, h => h
  | .ty _, _, h => h
  | .exc a d f v, _, h => by
    obtain ⟨h1, h2, u, h3, h4⟩ := h
    refine ⟨h1, h2, u, ?_, Rv.oth o h4⟩
    obtain ⟨p', e, _, _, nx, _⟩ := o
    rw [upd_ne (fun z => by rw [← z, h3] at e; exact nx _ (Option.some.inj e).symm)]
    exact h3
theorem Rvs.oth (o : Oth H p) : ∀ {xs : List Va} {ws : List V}, Rvs K ρ H xs ws → Rvs K ρ (upd H p u) xs ws
  | [], _, h => h
  | x :: xs, _, h => by
    obtain ⟨w, r, rfl, hw, t⟩ := h
    exact ⟨w, r, rfl, Rv.oth o hw, Rvs.oth o t⟩
end
theorem RS.oth (R : RS K ρ S H) (hp : p ∉ ρ) (o : Oth H p) : RS K ρ S (upd H p u) := by
  refine ⟨R.len, R.nd, fun n a x h1 h2 => ?_⟩
  have na : a ≠ p := fun z => hp (by rw [← z]; exact List.mem_of_getElem? h1)
  have h := R.at_ n a x h1 h2
  cases x with
  | lst xs =>
    obtain ⟨hl, ws, h3, t⟩ := h
    exact ⟨hl, ws, by rw [upd_ne na]; exact h3, t.oth o⟩
  | setT ks =>
    obtain ⟨L, h1, h2, h3⟩ := h
    exact ⟨L, by rw [upd_ne na]; exact h1, h2, fun p hp => o.sqt (h3 p hp)⟩
  | raw q => exact ⟨by rw [upd_ne na]; exact h.1, h.2⟩
  | tbl q =>
    obtain ⟨ps, h1, h2, h3, h4⟩ := h
    refine ⟨ps, by rw [upd_ne na]; exact h1, h2, fun pos cv hc => ?_, h4⟩
    obtain ⟨c, e1, e2, e3⟩ := h3 pos cv hc
    obtain ⟨o', e, _, _, _, ne⟩ := o
    exact ⟨c, e1, e2, by rw [upd_ne (fun z => by rw [← z, e3] at e; exact ne _ (Option.some.inj e).symm)]; exact e3⟩
  | dct kvs =>
    obtain ⟨ws, h3, h4, h5⟩ := h
    exact ⟨ws, by rw [upd_ne na]; exact h3, h4, h5.oth o⟩
end
theorem RS.adopt {D : Addr} {xs : List Va} {ws : List V} (R : RS K ρ S H) (hD : D ∉ ρ) (h : H D = some (.lst ws)) (hl : xs.length ≤ sizeLine) (hx : Rvs K ρ H xs ws) : RS K (ρ ++ [D]) (S ++ [.lst xs]) H := by
  have hDD : ∀ b ∈ [D], ∃ ws, H b = some (.lst ws) := fun b hb => ⟨ws, by rw [List.mem_singleton.mp hb]; exact h⟩
  refine ⟨by simp [R.len], ?_, fun n a u h1 h2 => ?_⟩
  · refine List.nodup_append.mpr ⟨R.nd, by simp, fun x hx y hy z => hD ?_⟩
    rw [← List.mem_singleton.mp hy, ← z]
    exact hx
  · by_cases hn : n < ρ.length
    · rw [List.getElem?_append_left hn] at h1
      rw [List.getElem?_append_left (by rw [← R.len]; exact hn)] at h2
      have q := R.at_ n a u h1 h2
      cases u with
      | lst ys =>
        obtain ⟨q1, us, q2, q3⟩ := q
        exact ⟨q1, us, q2, q3.more [D] hDD⟩
      | setT ks => exact q
      | raw o => exact q
      | tbl q' =>
        obtain ⟨ps, g1, g2, g3, g4⟩ := q
        refine ⟨ps, g1, g2, fun pos cv hc => ?_, g4⟩
        obtain ⟨c, e1, e2, e3⟩ := g3 pos cv hc
        refine ⟨c, e1, fun z => ?_, e3⟩
        rcases List.mem_append.mp z with z | z
        · exact e2 z
        · rw [List.mem_singleton.mp z, h] at e3
          cases e3
      | dct kvs =>
        obtain ⟨us, q2, q3, q4⟩ := q
        exact ⟨us, q2, q3, q4.more [D] hDD⟩
    · have hn' : n = ρ.length := by
        have := (List.getElem?_eq_some_iff.mp h1).1
        simp at this
        omega
      subst hn'
      rw [List.getElem?_append_right (Nat.le_refl _), Nat.sub_self] at h1
      rw [List.getElem?_append_right (by rw [R.len]; exact Nat.le_refl _), R.len, Nat.sub_self] at h2
      cases h1
      cases h2
      exact ⟨hl, ws, h, hx.more [D] hDD⟩
theorem Ext.adopt {ρ1 : List Addr} {H1 : Hp} {D : Addr} (E : Ext ρ1 ρ H1 H) (h : H1 D = none) : Ext ρ1 (ρ ++ [D]) H1 H := by
  obtain ⟨l, hl⟩ := E.pre
  refine ⟨E.nt, ⟨l ++ [D], by rw [hl, List.append_assoc]⟩, E.fr, fun b hb n => ?_⟩
  rcases List.mem_append.mp hb with hb | hb
  · exact E.new b hb n
  · rw [List.mem_singleton.mp hb]
    exact h
theorem Ext.notin {ρ' : List Addr} {H' : Hp} {D : Addr} {o : HO} (E : Ext ρ ρ' H H') (h : H D = some o) (n : D ∉ ρ) : D ∉ ρ' := fun z => by
  have := E.new D z n
  rw [h] at this
  cases this
end
/-! ### comprehensions -/
def wipeE (Γ : En) : List Nat → En
  | [] => Γ
  | v :: vs => (wipeE Γ vs).set v none
theorem wipeE_get (Γ : En) (us : List Nat) (i : Nat) : (wipeE Γ us)[i]? = if i ∈ us then (if i < Γ.length then some none else none) else Γ[i]? := by
  induction us with
  | nil => simp [wipeE]
  | cons u us ih =>
    unfold wipeE
    have hl : ∀ us, (wipeE Γ us).length = Γ.length := fun us => by
      induction us with
      | nil => rfl
      | cons u us ih => unfold wipeE; rw [List.length_set, ih]
    rw [List.getElem?_set, hl]
    by_cases e : u = i
    · subst e
      simp
    · rw [if_neg e, ih]
      have e' : ¬ i = u := fun z => e z.symm
      simp [e']
theorem wipeE_len (Γ : En) (us : List Nat) : (wipeE Γ us).length = Γ.length := by
  induction us with
  | nil => rfl
  | cons u us ih => unfold wipeE; rw [List.length_set, ih]
theorem RE.wipe {K : KX} {ρ : List Addr} {H : Hp} {Γ : En} {σ : L2.St} (G : RE K ρ H Γ σ) (us : List Nat) : RE K ρ H (wipeE Γ us) (L2.wipe σ us) := by
  refine ⟨by rw [wipeE_len, wipe_length, G.len], fun i v h => ?_⟩
  rw [wipeE_get] at h
  rw [wipe_get]
  split at h
  · split at h <;> cases h
  · rw [if_neg (by assumption)]
    exact G.at_ i v h
/-- without raising -/
def Res.bindN {α β : Type} (r : Res α) (k : α → Sto → Res β) : Res β := match r with
  | .ok a S => k a S
  | _ => .bad
@[simp] theorem bindN_ok {α β : Type} (a : α) (S : Sto) (k : α → Sto → Res β) : (Res.ok a S).bindN k = k a S := rfl
theorem Aft.bindN {α β γ δ : Type} {K : KX} {W W' : XW} {σ σ' : L2.St} {Rl : List Addr → Hp → α → β → Prop} {Rl2 : List Addr → Hp → γ → δ → Prop} {Q : β → Hp → Prop} {Q2 : δ → Hp → Prop} {ρ : List Addr} {H : Hp} {r : Res α} {k : α → Sto → Res γ}
    (h : Aft K W σ Rl2 Q2 ρ H (r.bindN k)) (hk : ∀ v S1 ρ1 H1 w, Ext ρ ρ1 H H1 → RS K ρ1 S1 H1 → Rl ρ1 H1 v w → Aft K W σ Rl2 Q2 ρ1 H1 (k v S1) → Q w H1) : Aft K W' σ' Rl Q ρ H r := by
  cases r with
  | bad => exact h
  | ok v S' => exact fun ρ' H' w E R q => hk v S' ρ' H' w E R q (Aft.shift E h)
  | ex c f v S' => exact h.elim
def compF (it : ItV) (g : MG) (mt : MT) (me : ME) (Γ : En) : Nat → Nat → List Va → Sto → Res (List Va)
  | 0, i, acc, S => match it.get i S with
    | some none => .ok acc S
    | _ => .bad
  | k + 1, i, acc, S => match it.get i S with
    | some none => .ok acc S
    | none => .bad
    | some (some x) => (g x Γ S).bindN fun Γ1 S1 => (mt Γ1 S1).bindN fun b S2 => if b = true then (me Γ1 S2).bindN fun y S3 => if acc.length < sizeLine then compF it g mt me Γ k (i + 1) (acc ++ [y]) S3 else .bad
        else compF it g mt me Γ k (i + 1) acc S2
def mLc (mi : MI) (g : MG) (mt : MT) (me : ME) (vs : List Nat) : ME := fun Γ S => (mi Γ S).bind fun it S1 => (compF it g mt me (wipeE Γ vs) (it.fuel S1) 0 [] S1).bindN fun acc S2 => .ok (.ref S2.length) (S2 ++ [.lst acc])
def mtYes : MT := fun _ S => .ok true S
def PMTs (X : Cx) (W : XW) (es : List Expr) (m : MT) : Prop := PTs X es (tMT (kxOf X) W m)
section
variable {X : Cx} {W : XW}
theorem pmts_nil : PMTs X W [] mtYes := ⟨fun pins s σ H Q I ⟨ρ, Γ, S, R, G, q⟩ => pts_nil.run pins s σ H Q I (q ρ H true R.refl R rfl)⟩
theorem pmts_one {c : Expr} {t : MT} (h : PMT X W c t) : PMTs X W [c] t := pts_one h
/-- the reading of a comprehension, from the plain one -/
theorem lc_imp {K : KX} {mi : MI} {g : MG} {mt : MT} {me : ME} {us vs : List Nat} (sub : ∀ i ∈ us, i ∈ vs) (σ : L2.St) (H : Hp) (Q : VK) (h : tM K W (mLc mi g mt me vs) σ H Q) :
    tLc (tMI K W mi) (tMG K WF us g) (tMT K WF mt) (tM K WF me) vs σ H Q := by
  obtain ⟨ρ, Γ, S, R, G, q⟩ := h
  refine ⟨ρ, Γ, S, R, G, q.bind fun it S1 ρ1 H1 J E1 R1 hJ q1 => ?_⟩
  intro D nD
  have D1 := R1.fresh nD
  obtain ⟨E1', R1'⟩ := R1.own (o := .lst []) nD
  refine ⟨fun i m H' => ∃ ρ' S' acc ws, Ext ρ1 ρ' H1 H' ∧ RS K ρ' S' H' ∧ D ∉ ρ' ∧ H' D = some (.lst ws) ∧ Rvs K ρ' H' acc ws ∧ acc.length ≤ sizeLine ∧
    Aft K W σ (Rv K) Q ρ1 H1 ((compF it g mt me (wipeE Γ vs) m i acc S').bindN fun acc S2 => .ok (.ref S2.length) (S2 ++ [.lst acc])), ⟨_, ρ1, S1, [], [], E1', R1', D1, upd_same, rfl, Nat.zero_le _, q1⟩, ?_⟩
  rintro i m H' ⟨ρ', S', acc, ws, E', R', D', hD, ha, hl, q'⟩
  have stop : J.stop i H' → Aft K W σ (Rv K) Q ρ1 H1 (Res.ok (.ref S'.length) (S' ++ [.lst acc])) → J.stop i H' ∧ Q (.ref D) H' := fun h1 h2 => by
    refine ⟨h1, h2 (ρ' ++ [D]) H' (.ref D) (E'.adopt nD) (R'.adopt D' hD hl ha) (R'.last D)⟩
  have go := hJ ρ' S' H' E' R' i
  cases m with
  | zero =>
    unfold compF at q'
    cases e : it.get i S' with
    | none => rw [e] at q'; exact q'.elim
    | some o =>
      cases o with
      | some x => rw [e] at q'; exact q'.elim
      | none =>
        rw [e] at q' go
        exact .inl (stop go q')
  | succ k =>
    unfold compF at q'
    cases e : it.get i S' with
    | none => rw [e] at q'; exact q'.elim
    | some o =>
      cases o with
      | none =>
        rw [e] at q' go
        exact .inl (stop go q')
      | some x =>
        rw [e] at q' go
        refine .inr ⟨go.1, fun H2 => ∃ ρ2 S2 acc2 ws2, Ext ρ1 ρ2 H1 H2 ∧ RS K ρ2 S2 H2 ∧ D ∉ ρ2 ∧ H2 D = some (.lst ws2) ∧ Rvs K ρ2 H2 acc2 ws2 ∧ acc2.length ≤ sizeLine ∧
          Aft K W σ (Rv K) Q ρ1 H1 ((compF it g mt me (wipeE Γ vs) k (i + 1) acc2 S2).bindN fun acc S2 => .ok (.ref S2.length) (S2 ++ [.lst acc])), fun H2 h => ⟨k, Nat.lt_succ_self k, h⟩, fun y H2 hy => ?_⟩
        obtain ⟨E2, R2, r2⟩ := go.2 y H2 hy
        have hD2 := E2.fr D _ hD D'
        have G2 : RE K ρ' H2 (wipeE Γ vs) (L2.wipe σ vs) := (((G.ext E1).ext E').ext E2).wipe vs
        -- the target
        have q' : Aft K W σ (Rv K) Q ρ1 H1 (((g x (wipeE Γ vs) S').bindN fun Γ1 S1 => (mt Γ1 S1).bindN fun b S2 => if b = true then (me Γ1 S2).bindN fun y S3 => if acc.length < sizeLine then compF it g mt me (wipeE Γ vs) k (i + 1) (acc ++ [y]) S3 else .bad
          else compF it g mt me (wipeE Γ vs) k (i + 1) acc S2).bindN fun acc S2 => .ok (.ref S2.length) (S2 ++ [.lst acc])) := q'
        refine ⟨ρ', wipeE Γ vs, S', x, R2, G2, r2, ?_⟩
        cases eg : g x (wipeE Γ vs) S' with
        | bad => rw [eg] at q'; exact q'.elim
        | ex a b c d => rw [eg] at q'; exact q'.elim
        | ok Γ3 S3 =>
          rw [eg, bindN_ok] at q'
          rintro ρ3 H3 σ3 E3 R3 ⟨G3, ag⟩
          have D3 := E3.notin hD2 D'
          have hD3 := E3.fr D _ hD2 D'
          refine ⟨(ag vs sub).trans (wipe_wipe σ vs), ρ3, Γ3, S3, R3, G3, ?_⟩
          cases et : mt Γ3 S3 with
          | bad => rw [et] at q'; exact q'.elim
          | ex a b c d => rw [et] at q'; exact q'.elim
          | ok b S4 =>
            rw [et, bindN_ok] at q'
            rintro ρ4 H4 b' E4 R4 rfl
            have D4 := E4.notin hD3 D3
            have hD4 := E4.fr D _ hD3 D3
            have E14 : Ext ρ1 ρ4 H1 H4 := ((E'.trans E2).trans E3).trans E4
            have ha4 : Rvs K ρ4 H4 acc ws := ((ha.ext E2).ext E3).ext E4
            cases b' with
            | false =>
              refine iteF ?_
              exact ⟨ρ4, S4, acc, ws, E14, R4, D4, hD4, ha4, hl, q'⟩
            | true =>
              refine iteT ⟨ρ4, Γ3, S4, R4, G3.ext E4, ?_⟩
              rw [if_pos rfl] at q'
              cases ee : me Γ3 S4 with
              | bad => rw [ee] at q'; exact q'.elim
              | ex a b c d => rw [ee] at q'; exact q'.elim
              | ok z S5 =>
                rw [ee, bindN_ok] at q'
                intro ρ5 H5 z' E5 R5 rz
                have D5 := E5.notin hD4 D4
                have hD5 := E5.fr D _ hD4 D4
                have ha5 := ha4.ext E5
                by_cases hlt : acc.length < sizeLine
                · rw [if_pos hlt] at q'
                  have o : Oth H5 D := ⟨_, hD5, (fun _ z => by cases z), (fun _ _ z => by cases z), (fun _ z => by cases z), (fun _ z => by cases z)⟩
                  have E15 := E14.trans E5
                  refine ⟨ws, hD5, by rw [← ha5.len]; exact hlt, ρ5, S5, acc ++ [z], ws ++ [z'], ⟨E15.nt, E15.pre, fun b u hb nb => ?_, E15.new⟩, R5.oth D5 o, D5, upd_same, (ha5.app (Rvs.cons rz Rvs.nil)).oth o, by rw [List.length_append]; exact hlt, q'⟩
                  rw [upd_ne (ne_of_none hb nD)]
                  exact E15.fr b u hb nb
                · rw [if_neg hlt] at q'
                  exact q'.elim
section
variable {elt tg iter : Expr} {ifs : List Expr} {scope : Scope} {own : List (Str × Nat)} {pos : Pos} {mi : MI} {g : MG} {mt : MT} {me : ME} {us : List Nat}
theorem pm_lc (hc : X.calm = true) (hN : X.N.Nodup) (hi : PMI X W tg iter mi) (ok : BlkOk X.N X.env.scope scope own) (sub : ∀ i ∈ us, i ∈ own.map (·.2))
    (hg : ∀ (s : Shared) (H : Hp) (C : Addr) (cl : List (Str × Addr)) (fp : List Addr), PMG (X.blk s H scope (compEnvC scope cl C X.env) fp) WF us tg g) (ht : ∀ (s : Shared) (H : Hp) (C : Addr) (cl : List (Str × Addr)) (fp : List Addr), PMTs (X.blk s H scope (compEnvC scope cl C X.env) fp) WF ifs mt)
    (he : ∀ (s : Shared) (H : Hp) (C : Addr) (cl : List (Str × Addr)) (fp : List Addr), PM (X.blk s H scope (compEnvC scope cl C X.env) fp) WF elt me) (hs : ∀ x, foldedSetIterable iter X.env x = pure x := by intro _; rfl) :
    PM X W (.ListComp elt [⟨tg, iter, ifs, 0⟩] scope pos) (mLc mi g mt me (own.map (·.2))) :=
  pe_imp (pe_lc (g := tMG (kxOf X) WF us g) (tt := tMT (kxOf X) WF mt) (te := tM (kxOf X) WF me) hc hN hi ok hg ht he hs) (lc_imp sub)
/-- name = [..] -/
theorem pms_lc {i : Nat} {y : Str} {py spos : Pos} (hc : X.calm = true) (hN : X.N.Nodup) (hy : X.N[i]? = some y) (hyl : X.env.scope.names.lookup y = some .local)
    (hsw : swapsWith (.ListComp elt [⟨tg, iter, ifs, 0⟩] scope pos) (some (.Name y py)) spos.line X.env = pure true) (hi : PMI X W tg iter mi) (ok : BlkOk X.N X.env.scope scope own) (sub : ∀ i ∈ us, i ∈ own.map (·.2))
    (hg : ∀ (s : Shared) (H : Hp) (C : Addr) (cl : List (Str × Addr)) (fp : List Addr), PMG (X.blk s H scope (compEnvC scope cl C X.env) fp) WF us tg g) (ht : ∀ (s : Shared) (H : Hp) (C : Addr) (cl : List (Str × Addr)) (fp : List Addr), PMTs (X.blk s H scope (compEnvC scope cl C X.env) fp) WF ifs mt)
    (he : ∀ (s : Shared) (H : Hp) (C : Addr) (cl : List (Str × Addr)) (fp : List Addr), PM (X.blk s H scope (compEnvC scope cl C X.env) fp) WF elt me) (hs : ∀ x, foldedSetIterable iter X.env x = pure x := by intro _; rfl) :
    PMS X W (.Assign [.Name y py] (.ListComp elt [⟨tg, iter, ifs, 0⟩] scope pos) spos) (sSet i (mLc mi g mt me (own.map (·.2)))) :=
  pms_set (ps_imp (ps_setLc (g := tMG (kxOf X) WF us g) (tt := tMT (kxOf X) WF mt) (te := tM (kxOf X) WF me) hc hN hy hyl hsw hi ok hg ht he hs) fun D σ H h => lc_imp sub σ H _ h)
end
end
end PM

namespace Q2
open PySem PySem.W PySem.Spec PySem.Calls PyProof.Rows
section
variable {prog : Program} {w : World} {A : Around} {E : Value → Shared → Prop} {s : Shared} {vs : List Value}
theorem collect_tupl {t : Addr} {Q : List Value → Shared → Prop} (tup : IsTup s.heap t vs.toArray) (small : vs.length ≤ sizeLine)
    (win : Q vs { s with heap := (s.heap.push (seqObj "list" #[] 0)).update s.heap.objs.size (Obj.mapSeq (· ++ vs.toArray)) }) : wpAny (model prog w) A (collect (.ref t)) Q E s := by
  obtain ⟨o, here, cls, n, dat⟩ := id tup
  unfold collect
  refine wpAny_bind (wpAny_runValue (codeAny_builtin (entry_proto_collect') ?_))
  show wpAny _ _ (do again (.builtin "list.__iadd__" ⟨[← newList [], .ref t], []⟩)) _ _ s
  refine wpAny_bind (wpAny_newList (wpAny_pure ⟨(Code.quiet_builtin _ (by decide +kernel)), codeAny_builtin (entry_list_iadd') ?_⟩))
  show wpAny _ _ (Builtin.List.listExtendWith (.ref s.heap.objs.size) (.ref t) (.ref s.heap.objs.size)) _ _ { s with heap := s.heap.push (seqObj "list" #[] 0) }
  unfold Builtin.List.listExtendWith
  have there : (s.heap.push (seqObj "list" #[] 0)).get? t = some o := Heap.get?_push_of_some _ here
  refine wpAny_bind ((wpAny_typeOf (T := "tuple") (show ({ s with heap := s.heap.push (seqObj "list" #[] 0) } : Shared).TypeIs (.ref t) "tuple" from ⟨o, there, cls⟩)) ?_)
  have same2 : (Value.type "tuple" == Value.type "tuple") = true := by rfl
  rw [if_pos (show _ by rw [same2]; simp)]
  refine wpAny_bind ((listItems_at there dat) ?_)
  refine wpAny_bind ((listItems_at (xs := #[]) (n := 0) (Heap.get?_push_size _ rfl) rfl) ?_)
  rw [if_neg (show ¬ _ by simp)]
  refine wpAny_bind (listUpdate_at (xs := #[]) (n := 0) (Heap.get?_push_size _ rfl) rfl ?_ (Nat.zero_le _) (show (#[] ++ vs.toArray).size ≤ sizeLine + 1 by simp only [Array.size_append, List.size_toArray, List.length_nil]; omega))
  refine (wpAny_pure ?_)
  show wpAny (model prog w) A (do
      let ob ← load s.heap.objs.size
      match ob.data with
      | .seq xs _ => pure xs.toList
      | _ => unsupported "internal:collect") Q E { s with heap := (s.heap.push (seqObj "list" #[] 0)).update s.heap.objs.size (Obj.mapSeq (· ++ vs.toArray)) }
  refine wpAny_bind ((wpAny_load (get?_update_seq (Heap.get?_push_size _ rfl) _)) ?_)
  show wpAny _ _ (pure ((#[] : Array Value) ++ vs.toArray).toList) Q E _
  have e : ((#[] : Array Value) ++ vs.toArray).toList = vs := by simp
  rw [e]
  exact wpAny_pure win
/-- sorted(x, ..) of a list or a tuple, by what list.sort does to a new list of its items -/
theorem sorted_seq {l : Addr} {kw : List (Str × Value)} {Q : Value → Shared → Prop} (seq : s.heap.IsList l vs.toArray ∨ IsTup s.heap l vs.toArray) (small : vs.length ≤ sizeLine) (args1 : argsOk "sorted" ⟨[.ref l], kw⟩) (args2 : ∀ x, argsOk "list.sort" ⟨[.ref x], kw⟩)
    (sorts : ∀ E' : Value → Shared → Prop, wpAny (model prog w) A.in1.in1 (Builtin.«list.sort» ⟨[.ref (s.heap.objs.size + 1)], kw⟩) (fun f s' => f = .done (.ret .none) ∧ Q (.ref (s.heap.objs.size + 1)) s') E' { s with heap := copyHeap s.heap vs }) :
    wpAny (model prog w) A (call (.builtin "sorted") [.ref l] kw) Q E s := by
  rcases seq with h | h
  · exact sorted_of_sort h small args1 args2 sorts
  · refine call_function_entry_kw (kind_sorted) plain_sorted entry_sorted args1 ?_
    unfold Builtin.«sorted»
    refine wpAny_bind (m := checkCount "sorted" 1 1 _) ((wpAny_pure ?_))
    refine wpAny_bind (collect_tupl h small ?_)
    refine wpAny_bind ((wpAny_newList ?_ small))
    have big : ((s.heap.push (seqObj "list" #[] 0)).update s.heap.objs.size (Obj.mapSeq (· ++ vs.toArray))).objs.size = s.heap.objs.size + 1 := (Heap.size_update ..).trans (size_push' ..)
    show wpAny _ _ _ _ _ { s with heap := copyHeap s.heap vs }
    rw [big]
    refine wpAny_bind (wpAny_holding ((wpAny_call_entry_kw slot_list_sort ⟨_, copyHeap_at s.heap vs, rfl⟩ entry_list_sort ?here (args2 _))))
    case here =>
      refine wpAny_mono (sorts _) (fun f s' hf => ?_) fun _ _ e => e
      exact ⟨_, hf.1, wpAny_pure ⟨_, rfl, hf.2⟩⟩
variable {β : Type} {bs : List β} {enc : β → PyData} {R : Value → β → Prop}
theorem sorted_plain {l : Addr} {Q : Value → Shared → Prop} (seq : s.heap.IsList l vs.toArray ∨ IsTup s.heap l vs.toArray) (e : EachIs R vs bs) (er : EachIs (fun v b => ∃ as, Reads s.heap v (enc b) as) vs bs) (al : AllAlike (bs.map enc)) (so : Sortable (bs.map enc)) (small : bs.length ≤ sizeLine)
    (un : ∀ b, b ∈ bs → A.units + 2 + (enc b).depth < cLine) (win : ∀ out, out.length = bs.length → EachIs R out (bs.mergeSort (dataLe false enc)) → Q (.ref (s.heap.objs.size + 1)) { s with heap := sortedAll s.heap vs (List.toArray out) }) :
    wpAny (model prog w) A (call (.builtin "sorted") [.ref l]) Q E s := by
  have er2 : EachIs (fun v b => ∃ as, Reads (sortingHeap (copyHeap s.heap vs) (s.heap.objs.size + 1) vs) v (enc b) as) vs bs := er.mono fun _ _ ⟨as, r⟩ => ⟨as, PyProof.Rows.Reads.keeps (fun _ _ => sorting_copy_old) r⟩
  have lenv : vs.length ≤ sizeLine := by rw [e.length]; exact small
  refine sorted_seq seq lenv (args_sorted1 _) (fun _ => args_list_sort _) fun E' => ?_
  refine list_sort_vals (s := { s with heap := copyHeap s.heap vs }) (copyHeap_at s.heap vs) (SortsAt.data (s := { s with heap := sortingHeap (copyHeap s.heap vs) (s.heap.objs.size + 1) vs }) (each_map (R := fun v d => ∃ as, Reads (sortingHeap (copyHeap s.heap vs) (s.heap.objs.size + 1) vs) v d as) enc er2) al so (bound_map un)) lenv ⟨rfl, ?_⟩
  exact win _ (by rw [sortVals_length false rfl]; exact e.length) (sortVals_data false e er2 al)
theorem sorted_keyed {l : Addr} {f : Value} {kw : List (Str × Value)} {Q : Value → Shared → Prop} (k : β → PyData) (seq : s.heap.IsList l vs.toArray ∨ IsTup s.heap l vs.toArray) (e : EachIs R vs bs) (al : AllAlike (bs.map k)) (so : Sortable (bs.map k)) (small : bs.length ≤ sizeLine)
    (un : ∀ x, x ∈ bs → A.units + 2 + (k x).depth < cLine) (args1 : argsOk "sorted" ⟨[.ref l], kw⟩) (args2 : ∀ x, argsOk "list.sort" ⟨[.ref x], kw⟩) (tree : ∀ x, Builtin.«list.sort» ⟨[.ref x], kw⟩ = ksk_tree x f false)
    (turn : ∀ (v : Value) (x : β), R v x → x ∈ bs → ∀ (h : Heap) (tk : Nat), (∀ b o, s.heap.get? b = some o → h.get? b = some o) →
      wpAny (model prog w) A.in1.in1 (call f [v]) (KeyPure (k x) { s with heap := h, toks := tk }) (fun _ _ => False) { s with heap := h, toks := tk })
    (win : ∀ out c h' tk, (∀ b o, s.heap.get? b = some o → h'.get? b = some o) → s.heap.get? (s.heap.objs.size + 1) = none → h'.get? (s.heap.objs.size + 1) = some (seqObj "list" (List.toArray out) c) → out.length = bs.length → EachIs R out (bs.mergeSort (dataLe false k)) →
      Q (.ref (s.heap.objs.size + 1)) { s with heap := h', toks := tk }) : wpAny (model prog w) A (call (.builtin "sorted") [.ref l] kw) Q E s := by
  have fresh : s.heap.get? (s.heap.objs.size + 1) = none := Heap.get?_none_of_le (Nat.le_succ _)
  have over : ∀ {g : Heap}, KeepsBut (s.heap.objs.size + 1) (copyHeap s.heap vs) g → ∀ b o, s.heap.get? b = some o → g.get? b = some o := fun {g} kp b o q => kp b o (Nat.ne_of_lt (Nat.lt_succ_of_lt (Heap.lt_size q))) (copyHeap_old q)
  have lens : (bs.map k).length = vs.length := by rw [List.length_map]; exact e.length.symm
  have lenv : vs.length ≤ sizeLine := by rw [e.length]; exact small
  refine sorted_seq seq lenv args1 args2 fun E' => ?_
  rw [tree]
  refine keyH_tree (kz := bs.map k) (s := { s with heap := copyHeap s.heap vs }) (copyHeap_at s.heap vs) lens lenv al so (bound_map (A := A.in1.in1) un) (keyH_turns (s := { s with heap := copyHeap s.heap vs }) e fun v x hR hx h tk kp => turn v x hR hx h tk (over kp)) fun h' tk out c kp hD ko => ⟨rfl, ?_⟩
  exact win out c h' tk (over kp) fresh hD ((ko.length lens).trans e.length) (keyedOut_each k ko e)
end
end Q2

namespace Q2
open PySem PySem.Spec PyProof.Rows L2
section
variable {prog : Program} {w : World} {A : Around} {E : Value → Shared → Prop} {s : Shared}
theorem raw_item {env : Env} {m : Str → Option Value} {t : Addr} {u0 u1 v : Value} {k : Nat} {x : Str} {p1 p2 p3 : Pos} {j1 : Nat} {Q : Value → Shared → Prop} (kind : env.scope.kind = .function) (loc : env.kindOf x = some .local) (ns : s.heap.Ns env.locals m) (mx : m x = some (.ref t))
    (tup : IsTup s.heap t #[u0, u1]) (hk : k < 2) (hv : #[u0, u1][k]? = some v) (hd : (x == ("__debug__" : Str)) = false) (win : Q v { s with toks := s.toks + 1 }) :
    wpAny (model prog w) A (eval (.Subscript (.Name x p1) (.Constant (.int (k : Int)) j1 p2) p3) env) Q E s := by
  refine Subscript_ (wpAny_Name (wpAny_loadName_local kind loc ns mx ?_) hd)
  refine wpAny_Constant_int ?_
  exact subscriptTail_builtinR (s := { s with toks := s.toks + 1 }) (x := v) (IsTup.typeIs (s := { s with toks := s.toks + 1 }) tup) PyProof.Rows.slot_tuple_getitem.lookup
    (PyProof.Rows.getItem_tuple (s := { s with toks := s.toks + 1 }) (j := k) (Q := fun r s' => r = v ∧ Q r s') tup (by omega) (by omega) (seqIndex_of (by omega) (by show (k : Int) < ((2 : Nat) : Int); omega)) hv ⟨rfl, win⟩) rfl
/-- return (p[1], p[0]) -/
theorem raw_swap {env : Env} {m : Str → Option Value} {t : Addr} {u0 u1 : Value} {x : Str} {p1 p2 p3 p4 p5 p6 p7 p8 : Pos} {j1 j2 k7 : Nat} {Q : Flow → Shared → Prop} (kind : env.scope.kind = .function) (loc : env.kindOf x = some .local) (ns : s.heap.Ns env.locals m) (mx : m x = some (.ref t))
    (tup : IsTup s.heap t #[u0, u1]) (hd : (x == ("__debug__" : Str)) = false) (win : Q (.ret (.ref s.heap.objs.size)) { s with heap := s.heap.push { cls := .type "tuple", data := .seq #[u1, u0] }, toks := s.toks + 1 + 1 }) :
    wpAny (model prog w) A (execs [.Return (some (.Tuple [.Subscript (.Name x p1) (.Constant (.int 1) j1 p2) p3, .Subscript (.Name x p4) (.Constant (.int 0) j2 p5) p6] k7 p7)) p8] env) Q E s := by
  refine wpAny_execs_cons (wpAny_Return_some (wpAny_Tuple_spliced ?_))
  show wpAny _ _ (spliced [(false, eval (.Subscript (.Name x p1) (.Constant (.int 1) j1 p2) p3) env), (false, eval (.Subscript (.Name x p4) (.Constant (.int 0) j2 p5) p6) env)]) _ _ _
  refine Calls.spliced_cons (raw_item (k := 1) kind loc ns mx tup (by decide) rfl hd ?_)
  refine Calls.spliced_cons (raw_item (s := { s with toks := s.toks + 1 }) (k := 0) kind loc ns mx tup (by decide) rfl hd ?_)
  refine Calls.spliced_nil ⟨by show 2 ≤ sizeLine; decide, ?_⟩
  exact win
end
/-- how a def that swaps the two places of its argument is written -/
def Swaps (st : Stmt) : Prop := ∃ (x : Str) (p1 p2 p3 p4 p5 p6 p7 p8 : Pos) (j1 j2 k7 : Nat), FnScope [x] [x] (defScope st) ∧ (defScope st).names.lookup x = some .local ∧ (x == ("__debug__" : Str)) = false ∧
  defBody st = [.Return (some (.Tuple [.Subscript (.Name x p1) (.Constant (.int 1) j1 p2) p3, .Subscript (.Name x p4) (.Constant (.int 0) j2 p5) p6] k7 p7)) p8] ∧
  ∀ (kV doc pm : Value) (an : Option Addr) (cdv ct u : Value) (nm q : Str), bindArgs (PySem.W.fnOf nm q (defArgs st) (defBody st) (defScope st) .none kV doc pm an cdv ct) ⟨[u], []⟩ = pure [(x, u)]
/-- the call, on the bare heap -/
theorem swap_call {P : Program} {w : World} {K : PySem.W.Frag} {mg : Str → Option Value} {base : Heap} {A : Around} {outer : List Env} {s : Shared} {H : Hp} {nm : Str} {st : Stmt} {f : Addr} {fd : FuncData} (F : Fun K nm nm st f fd) (S : Swaps st) (e0 : Env0 P w K mg base A outer s H) (room : A.depth < recursionLimit)
    {t : Addr} {x y : Int} {tx ty : Tok} (tup : IsTup s.heap t #[.int x tx, .int y ty]) : wpAny (model P w) A (call (.ref f) [.ref t]) (PySem.W.KeyPure (.tuple [.int y, .int x]) s) (fun _ _ => False) s := by
  obtain ⟨oc, od, kV, doc, pm, an, cdv, ct, osl, rfl, lk, hcd⟩ := F.ex
  obtain ⟨nx, p1, p2, p3, p4, p5, p6, p7, p8, j1, j2, k7, sc, loc, hd, body, bind⟩ := S
  have KX : K.In s.heap := e0.mod.kin.keeps fun b o e => (e0.bs b o e).1
  have lim : s.heap.NoLimit := e0.mod.nolimit.keeps fun b o e => (e0.bs b o e).1
  refine wpAny_call (codeAny_call_function room (KX _ _ lk) rfl sc.co sc.gen rfl (PySem.W.codeRec_of KX hcd) (wpAny_of_eq (bind _ _ _ _ _ _ _ _ _) ?_))
  refine wpAny_newFunctionEnv_cells sc.kind (fun z hz => by rw [List.mem_singleton.mp hz]; exact .inl loc) fun env he s1 inc => ?_
  subst he
  refine ⟨lim.keeps inc.toInCall.keep, codeAny_func ?_⟩
  obtain ⟨h1, tk, rfl, keep⟩ := inc.done
  show wpAny _ _ (execs (defBody st) _) _ _ _
  rw [body]
  have tup1 : IsTup h1 t #[.int x tx, .int y ty] := by
    obtain ⟨o, ho, r⟩ := tup
    exact ⟨o, keep _ _ ho, r⟩
  refine raw_swap (x := nx) (t := t) (m := _) sc.kind loc inc.toInCall.ns ?_ tup1 hd ?_
  · show bindL _ [(nx, Value.ref t)] (fun _ => none) nx = some (.ref t)
    have kl : (newEnv (defScope st) s.heap.objs.size mainGlobals (cellsFrom (s.heap.objs.size + 1) (defScope st).names []) (nm ++ ".<locals>.") (some f) cdv none builtinsNs).kindOf nx = some .local := loc
    simp [bindL, kl]
  · refine ⟨_, _, rfl, fun b o hb => Heap.get?_push_of_some _ (keep b o hb), ?_⟩
    exact .tuple (Heap.get?_push_size _ rfl) rfl rfl (.cons (as := []) (.int y ty) (.cons (as := []) (.int x tx) .nil))
end Q2

namespace Q2
open PySem PySem.Spec PyProof.Rows L2
/-! ### sorted of points -/
abbrev keyX (q : Addr × Int × Int) : PyData := .tuple [.int q.2.1, .int q.2.2]
abbrev keyY (q : Addr × Int × Int) : PyData := .tuple [.int q.2.2, .int q.2.1]
abbrev sortX (qs : Pts) : Pts := qs.mergeSort (PySem.W.dataLe false keyX)
abbrev sortY (qs : Pts) : Pts := qs.mergeSort (PySem.W.dataLe false keyY)
abbrev refsOf (qs : Pts) : List V := qs.map fun q => V.ref q.1
def Tups (H : Hp) (qs : Pts) : Prop := ∀ q ∈ qs, H q.1 = some (.tup [.int q.2.1, .int q.2.2])
theorem each_refs : ∀ {qs : Pts} {us : List Value}, Vals (refsOf qs) us → PySem.W.EachIs (fun v (q : Addr × Int × Int) => v = Value.ref q.1) us qs
  | [], _, .nil => .nil
  | q :: qs, _, .cons r t => .cons (show _ = Value.ref q.1 from r) (each_refs t)
theorem vals_refs : ∀ {qs : Pts} {us : List Value}, PySem.W.EachIs (fun v (q : Addr × Int × Int) => v = Value.ref q.1) us qs → Vals (refsOf qs) us
  | _, _, .nil => .nil
  | _, _, .cons h t => .cons (show RelV (V.ref _) _ from h) (vals_refs t)
theorem each_of {R : Value → (Addr × Int × Int) → Prop} : ∀ {qs : Pts} {us : List Value}, PySem.W.EachIs (fun v (q : Addr × Int × Int) => v = Value.ref q.1) us qs → (∀ q ∈ qs, R (.ref q.1) q) → PySem.W.EachIs R us qs
  | _, _, .nil, _ => .nil
  | _, _, .cons h t, k => .cons (by rw [h]; exact k _ (List.mem_cons_self ..)) (each_of t fun q hq => k q (List.mem_cons_of_mem _ hq))
theorem alike_pts (f g : (Addr × Int × Int) → Int) (qs : Pts) : PySem.W.AllAlike (qs.map fun q => .tuple [.int (f q), .int (g q)]) := by
  intro d hd d' hd'
  obtain ⟨q, _, rfl⟩ := List.mem_map.mp hd
  obtain ⟨r, _, rfl⟩ := List.mem_map.mp hd'
  simp [PySem.W.alike, PySem.W.alikeAll]
theorem sortable_pts (f g : (Addr × Int × Int) → Int) (qs : Pts) : PySem.W.Sortable (qs.map fun q => .tuple [.int (f q), .int (g q)]) := .inl fun d hd => by
  obtain ⟨q, _, rfl⟩ := List.mem_map.mp hd
  exact ⟨_, _, rfl⟩
theorem depth_pt (a b : Int) : (PyData.tuple [.int a, .int b]).depth = 1 := ptD_depth (a, b)
section
variable {X : Cx}
theorem raw_pt {pins : List (Addr × Obj)} {σ : L2.St} {H : Hp} {s : Shared} (I : Inv X pins σ H s) {t : Addr} {x y : Int} (h : H t = some (.tup [.int x, .int y])) : ∃ tx ty, IsTup s.heap t #[.int x tx, .int y ty] := by
  obtain ⟨its, r, tup, _⟩ := I.tuple (SqT.of h)
  cases r with
  | cons r1 rr =>
    cases rr with
    | cons r2 rn =>
      cases rn
      obtain ⟨tx, rfl⟩ := r1
      obtain ⟨ty, rfl⟩ := r2
      exact ⟨tx, ty, tup⟩
theorem raw_seq {pins : List (Addr × Obj)} {σ : L2.St} {H : Hp} {s : Shared} (I : Inv X pins σ H s) {a : Addr} {xs : List V} (h : SqL X.K H a xs ∨ SqT X.K H a xs) : ∃ its : List Value, Vals xs its ∧ (s.heap.IsList a its.toArray ∨ IsTup s.heap a its.toArray) ∧ xs.length ≤ sizeLine := by
  rcases h with h | h
  · obtain ⟨its, r, p, z⟩ := I.list h
    exact ⟨its, r, .inl p.isList, z⟩
  · obtain ⟨its, r, p, z⟩ := I.tuple h
    exact ⟨its, r, .inr p, z⟩
/-- sorted(points) -/
def rSortP (K : PySem.W.Frag) : List V → Hp → VK → Prop := fun vs H Q => ∃ (a : Addr) (qs : Pts), vs = [V.ref a] ∧ (SqL K H a (refsOf qs) ∨ SqT K H a (refsOf qs)) ∧ Tups H qs ∧ ∀ p, H p = none → Q (.ref p) (upd H p (.lst (refsOf (sortX qs))))
theorem cr_sortP (un : X.A.units + 64 < cLine) : CallR X (.builtin "sorted") (rSortP X.K) := by
  intro pins s σ H vs us Q I r h
  obtain ⟨a, qs, rfl, hs, ht, q⟩ := h
  obtain rfl := Vals.ref1 r
  obtain ⟨its, rv, seq, hz⟩ := raw_seq I hs
  rw [List.length_map] at hz
  refine sorted_plain (bs := qs) (enc := keyX) seq (each_refs rv) (each_of (each_refs rv) fun p hp => ?_) (alike_pts _ _ qs) (sortable_pts _ _ qs) hz (fun p hp => ?_) fun out hl e => ?_
  · obtain ⟨tx, ty, o, ho, hc, n, hd⟩ := raw_pt I (ht p hp)
    exact ⟨[], .tuple ho hc hd (.cons (as := []) (.int _ tx) (.cons (as := []) (.int _ ty) .nil))⟩
  · have := depth_pt p.2.1 p.2.2
    show X.A.units + 2 + (PyData.tuple [.int p.2.1, .int p.2.2]).depth < cLine
    omega
  · obtain ⟨ep, he⟩ := PyProof.Rows.sortedAll_at s.heap its (List.toArray out)
    refine ⟨.ref _, upd H (s.heap.objs.size + 1) (.lst (refsOf (sortX qs))), I.laid (t' := s.toks) (fun _ _ => PyProof.Rows.sortedAll_old) (Nat.le_succ _) ⟨?_, out, ep, vals_refs e, he⟩, rfl, q _ (I.hok.fresh (Nat.le_succ _))⟩
    rw [List.length_map, List.length_mergeSort]
    exact hz
/-- sorted(points, key=f), f swaps the two places -/
def rSortK (K : PySem.W.Frag) (f : Addr) : List V → List V → Hp → VK → Prop := fun vs zs H Q => ∃ (a : Addr) (qs : Pts), vs = [V.ref a] ∧ zs = [.ref f] ∧ (SqL K H a (refsOf qs) ∨ SqT K H a (refsOf qs)) ∧ Tups H qs ∧ ∀ p, H p = none → Q (.ref p) (upd H p (.lst (refsOf (sortY qs))))
theorem cr_sortK {nm : Str} {st : Stmt} {f : Addr} {fd : FuncData} (F : Fun X.K nm nm st f fd) (S : Swaps st) (un : X.A.units + 64 < cLine) (room : X.A.depth < recursionLimit) : CallRK X (.builtin "sorted") [Str.ofString "key"] (rSortK X.K f) := by
  intro pins s σ H vs zs us ws Q I r rz h
  obtain ⟨a, qs, rfl, rfl, hs, ht, q⟩ := h
  obtain rfl := Vals.ref1 r
  obtain rfl := Vals.ref1 rz
  obtain ⟨its, rv, seq, hz⟩ := raw_seq I hs
  rw [List.length_map] at hz
  refine sorted_keyed (bs := qs) (f := .ref f) (kw := [(Str.ofString "key", .ref f)]) keyY seq (each_refs rv) (alike_pts _ _ qs) (sortable_pts _ _ qs) hz (fun p hp => ?_) (PyProof.Rows.ksk_s1 _ _) (fun _ => PyProof.Rows.ksk_l1 _ _) (fun x => PyProof.Rows.ksk_t1 f x) (fun v p hv hp h tk keep => ?_) fun out c h' tk keep fresh hD hl e => ?_
  · have := depth_pt p.2.2 p.2.1
    show X.A.units + 2 + (PyData.tuple [.int p.2.2, .int p.2.1]).depth < cLine
    omega
  · rw [hv]
    obtain ⟨tx, ty, o, ho, hr⟩ := raw_pt I (ht p hp)
    have I2 : Inv X pins σ H { s with heap := h, toks := tk } := I.kept keep
    exact swap_call F S I2.env0.in1.in1 room ⟨o, keep _ _ ho, hr⟩
  · refine ⟨.ref _, upd H (s.heap.objs.size + 1) (.lst (refsOf (sortY qs))), I.laid (t' := tk) keep (Nat.le_succ _) ⟨?_, out, c, vals_refs e, hD⟩, rfl, q _ (I.hok.fresh (Nat.le_succ _))⟩
    rw [List.length_map, List.length_mergeSort]
    exact hz
end
/-! ### the order -/
theorem dataLe_two (f g : (Addr × Int × Int) → Int) (q r : Addr × Int × Int) : PySem.W.dataLe false (fun q => .tuple [.int (f q), .int (g q)]) q r = !decide (f r < f q ∨ (f r = f q ∧ g r < g q)) := by
  show (!PyProof.Rows.lexLt PyProof.Rows.itemOrd (PySem.W.keyToks (.tuple [.int (f r), .int (g r)])) (PySem.W.keyToks (.tuple [.int (f q), .int (g q)]))) = _
  congr 1
  simp only [PySem.W.keyToks, PySem.W.keyToksAll, List.cons_append, List.nil_append, PyProof.Rows.lexLt, PyProof.Rows.itemLt]
  by_cases h1 : f r < f q
  · simp [h1]
  · by_cases h2 : f r = f q
    · simp [h2]
    · have h3 : f q < f r := by omega
      simp [h1, h2, h3]
end Q2

namespace Q2
open PySem PySem.W PySem.Spec PySem.Calls PyProof.Rows
/-! ### enumerate(t) of a tuple, one argument -/
theorem meets_enum1 {v : Value} {o : Obj} {B0 : Heap → Prop} (B : Begins v o B0) :
    Meets (Builtin.«enumerate.__new__» ⟨[.type "enumerate", v], []⟩) (fun _ R s => B0 s.heap ∧ R (.ok (.ret (.ref (s.heap.push o).objs.size))) { s with heap := (s.heap.push o).push { cls := .type "enumerate", data := .fields #[.none, .bool false, .ref s.heap.objs.size, rawInt 0, .none, .none] } }) :=
  .of_wp fun prog w A R s both => by
    obtain ⟨hp, g, d, tk, os⟩ := s
    obtain ⟨b0, fin⟩ := both
    have sub1 := sub_enumerate
    have begin1 : ∀ {A' : Around} {E : Value → Shared → Prop} {Q : Value → Shared → Prop}, Q (.ref hp.objs.size) ⟨hp.push o, g, d, tk, os⟩ → wpAny (model prog w) A' (pyIter v) Q E ⟨hp, g, d, tk, os⟩ := fun q => B.iter prog w _ _ ⟨hp, g, d, tk, os⟩ _ b0 q
    wp_walk using begin1
    refine wpAny_stack_any fun st => (wpAny_pure ?_)
    split
    · rename_i c _ _ _ _ _
      cases (c == Value.type "enumerate") <;> (wp_walk using begin1; exact ⟨_, rfl, fin⟩)
    · wp_walk using begin1
      exact ⟨_, rfl, fin⟩
section
variable {prog : Program} {w : World} {A : Around} {E : Value → Shared → Prop} {s : Shared}
theorem enum_tup {t : Addr} {items : Array Value} {Q : Value → Shared → Prop} (ht : s.heap.IsTuple t items)
    (win : ∀ h', IsEnum h' (s.heap.objs.size + 1) s.heap.objs.size 0 .none → h'.IsTupleIter s.heap.objs.size t 0 → (∀ b o, s.heap.get? b = some o → h'.get? b = some o) → Q (.ref (s.heap.objs.size + 1)) { s with heap := h' }) :
    wpAny (model prog w) A (call (.type "enumerate") [.ref t]) Q E s := by
  refine callType_new F.called_enumerate (by decide) (F.typeCall_enumerate_1 _) (F.newCall_enumerate_1 _) (fun obj => F.args_object_init_2 obj _) F.entry_enumerate_new (meets_enum1 (begins_tuple t items)) ⟨ht, ?_⟩
  have z1 : (s.heap.push { cls := .type "tuple_iterator", data := .fields #[.ref t, .int 0 0] }).objs.size = s.heap.objs.size + 1 := Heap.size_push ..
  show _ ∧ _
  rw [z1]
  have en : IsEnum ((s.heap.push { cls := .type "tuple_iterator", data := .fields #[.ref t, .int 0 0] }).push { cls := .type "enumerate", data := .fields #[.none, .bool false, .ref s.heap.objs.size, rawInt 0, .none, .none] }) (s.heap.objs.size + 1) s.heap.objs.size 0 .none := by
    have z2 := Heap.get?_push_size (s.heap.push { cls := .type "tuple_iterator", data := .fields #[.ref t, .int 0 0] }) (o := { cls := .type "enumerate", data := .fields #[.none, .bool false, .ref s.heap.objs.size, rawInt 0, .none, .none] }) rfl
    rw [z1] at z2
    exact z2
  exact ⟨⟨_, en, rfl⟩, win _ en ⟨_, Heap.get?_push_of_some _ (Heap.get?_push_size _ rfl), rfl, rfl⟩ fun b o x => Heap.get?_push_of_some _ (Heap.get?_push_of_some _ x)⟩
end
end Q2
namespace Q2
open PySem PySem.Spec PyProof.Rows L2
/-- the tuple at a, each item in a new pair -/
def ItET (K : PySem.W.Frag) (a : Addr) : It :=
  ⟨fun i H => ∃ (xs : List V) (x : V), SqT K H a xs ∧ xs[i]? = some x, fun i H v H' => ∃ T x, v = .ref T ∧ H T = none ∧ H' = upd H T (.tup [.int (i : Nat), x]) ∧ ∀ xs, SqT K H a xs → xs[i]? = some x, fun i H => ∃ xs : List V, SqT K H a xs ∧ xs.length ≤ i⟩
theorem draws_end {prog : Program} {w : World} {A : Around} (calm : A.handled = none) (it t : Addr) (items : Array Value) (i : Nat) (over : items[i]? = none) :
    PySem.Draws prog w A it [it, t] 0 (fun _ _ => False) (fun _ h => h.IsTupleIter it t i ∧ h.IsTuple t items) where
  live := fun _ _ st => let ⟨o, ho, _⟩ := st.1; ⟨o, ho⟩
  frame := fun _ _ _ st hk => ⟨st.1.at fun o e => hk it (by simp) o e, st.2.at fun o e => hk t (by simp) o e⟩
  item := fun j s Q E hj => absurd hj (Nat.not_lt_zero j)
  done := fun s Q E st hE => wpAny_nextOf_tuple_end calm st.1 st.2 over hE
theorem turn_enumT {P : Program} {w : World} {K : PySem.W.Frag} {elts : List Expr} {kk : Nat} {tpos : Pos} (a e it : Addr) :
    Turn P w K (.Tuple elts kk tpos) (ItET K a) [e, it] e (fun i h => (∃ old, IsEnum h e it ((i : Nat) : Int) old) ∧ h.IsTupleIter it a i ∧ e ≠ it) where
  mem := by simp
  obj := fun i h st b hb => by
    obtain ⟨⟨old, en⟩, ⟨o, ho, hc, hd⟩, _⟩ := st
    rcases (show b = e ∨ b = it by simpa using hb) with z | z
    · rw [z]
      exact ⟨_, en, fun v q => nomatch q⟩
    · rw [z]
      exact ⟨o, ho, fun v q => by rw [hd] at q; cases q⟩
  keep := fun i h h' st k => let ⟨⟨old, en⟩, hi, hne⟩ := st; ⟨⟨old, k e (by simp) _ en⟩, hi.at fun o q => k it (by simp) o q, hne⟩
  item := by
    intro X hP hw hK hc i pins s σ H E I hf st hg
    subst hP hw hK
    obtain ⟨⟨old, en⟩, hit, hne⟩ := st
    obtain ⟨xs, x, hq, hx⟩ := hg
    obtain ⟨its, rv, tup, _⟩ := I.tuple hq
    obtain ⟨u, hu, ru⟩ := rv.get hx
    have lts : i < its.toArray.size := by
      have := (List.getElem?_eq_some_iff.mp hu).1
      simpa using this
    have le : e < s.heap.objs.size := Heap.lt_size en
    have li : it < s.heap.objs.size := by obtain ⟨_, q, _⟩ := hit; exact Heap.lt_size q
    have ati : a ≠ it := fun z => by
      obtain ⟨o1, h1, c1, _⟩ := hit
      obtain ⟨o2, h2, c2, _⟩ := tup
      rw [z, h1] at h2
      cases h2
      rw [c1] at c2
      exact absurd c2 (by decide)
    have ate : a ≠ e := fun z => by
      obtain ⟨o2, h2, c2, _⟩ := tup
      rw [z, show s.heap.get? e = _ from en] at h2
      cases h2
      injection c2 with c3
      exact absurd c3 (by decide)
    refine PySem.wpAny_pyNext_enum_itemD (PySem.Draws.tuple (A := X.A.in1) (show X.A.in1.handled = none from I.ok.hd hc) it a ati its.toArray) en ⟨hit, tup⟩ lts hne (by simp; exact ⟨hne, fun z => ate z.symm⟩) fun y h' tk hy ho st' hT hsz hk => ?_
    have ey : y = u := by
      have h0 : its.toArray[i]? = some y := hy
      have h1 : its.toArray[i]? = some u := by simpa using hu
      rw [h0] at h1
      exact Option.some.inj h1
    subst ey
    refine ⟨_, rfl, wpAny_letOwnedTupleGo_enum (s := { s with heap := h', toks := tk + 1 }) ho fun h'' he' sb => ?_⟩
    have hT2 : h''.get? s.heap.objs.size = some { cls := .type "tuple", data := .seq #[.int i tk, y] } := (sb.2 _ (Nat.ne_of_gt le)).trans hT
    have new : ObjOk X.prog X.w (upd H s.heap.objs.size (.tup [.int (i : Nat), x])) h'' s.heap.objs.size (.tup [.int (i : Nat), x]) := ⟨by show 2 ≤ sizeLine; decide, [.int i tk, y], .cons ⟨_, rfl⟩ (.cons ru .nil), ⟨_, hT2, rfl, _, rfl⟩⟩
    have I1 : Inv X pins σ (upd H s.heap.objs.size (.tup [.int (i : Nat), x])) { s with heap := h'', toks := tk + 1 } :=
      I.turnedNew (ch := [e, it]) (fun b ob hb q => (sb.2 b (fun z => hb (by simp [z]))).trans (hk b ob (fun z => hb (by simp [z])) (fun z => hb (by simp [z])) q)) hf (Nat.le_refl _) new
    refine ⟨.ref s.heap.objs.size, _, I1, rfl, ⟨_, x, rfl, I.hok.fresh (Nat.le_refl _), rfl, fun ys hy2 => by rw [I.tuple_inj hy2 hq]; exact hx⟩, ⟨⟨y, ?_⟩, st'.1.at fun o q => (sb.2 it (Ne.symm hne)).trans q, hne⟩, fun b hb => ?_⟩
    · rw [show ((i + 1 : Nat) : Int) = (i : Int) + 1 by omega]
      exact he'
    · have hb' : b < s.heap.objs.size := by
        rcases (show b = e ∨ b = it by simpa using hb) with z | z
        · rw [z]; exact le
        · rw [z]; exact li
      rw [upd_ne (Nat.ne_of_lt hb')]
      exact (hf b hb).1
  done := by
    intro X hP hw hK hc i pins s σ H E I hf st hg
    subst hP hw hK
    obtain ⟨⟨old, en⟩, hit, hne⟩ := st
    obtain ⟨xs, hq, hx⟩ := hg
    obtain ⟨its, rv, tup, _⟩ := I.tuple hq
    obtain ⟨f0, f1, f2, f3, f4, f5⟩ := hf it (by simp)
    have hl := rv.length
    exact PySem.wpAny_pyNext_enum_endD (n := 0) (draws_end (A := X.A.in1) (show X.A.in1.handled = none from I.ok.hd hc) it a its.toArray i (by simp; omega)) en ⟨hit, tup⟩ fun h' eb => ⟨rfl, I.turned (t' := s.toks) (fun b o hb q => eb b o hb q) f0 f1 f3 f4 f5⟩
  self := fun A i s Q E st h => let ⟨⟨_, en⟩, _⟩ := st; wpAny_pyIter_enum en h
/-- enumerate of a list or a tuple -/
def EnumOf (K : PySem.W.Frag) (H : Hp) (a : Addr) (xs : List V) (J : It) : Prop := (SqL K H a xs ∧ J = Ite K a) ∨ (SqT K H a xs ∧ J = ItET K a)
def iEnumA (K : PySem.W.Frag) (ta : TA) : TI := fun σ H R => ta σ H fun vs H1 => ∃ a xs J, vs = [.ref a] ∧ EnumOf K H1 a xs J ∧ R J H1
theorem pi_enumA {X : Cx} {e : Expr} {ta : TA} {p pos tpos : Pos} {elts : List Expr} {kk : Nat} (hg : Gl X "enumerate") (hm : X.mg "enumerate" = none) (ha : PA X [e] ta) (hs : starEach [e] X.env = [(false, eval e X.env)] := by rfl) :
    PI X (.Tuple elts kk tpos) (.Call (.Name "enumerate" p) [e] [] pos) (iEnumA X.K ta) := by
  refine ⟨fun pins s σ H R I h => ?_⟩
  refine Call_ (ld_blt I hg hm boot_enumerate (PyProof.Rows.callWith_type1 (thn (ha.run pos pins s σ H _ I h) fun us s1 ⟨vs, H1, I1, r1, q1⟩ => ?_) hs rfl))
  obtain ⟨a, xs, J, rfl, hq, q⟩ := q1
  obtain rfl := Vals.ref1 r1
  have fp : ∀ b ∈ [s1.heap.objs.size + 1, s1.heap.objs.size], FpOk X pins H1 b := fun b hb => by
    have hle : s1.heap.objs.size ≤ b := by
      rcases (show b = s1.heap.objs.size + 1 ∨ b = s1.heap.objs.size by simpa using hb) with z | z
      · rw [z]; exact Nat.le_add_right _ _
      · rw [z]; exact Nat.le_refl _
    exact I1.fpOk hle (I1.hok.fresh hle)
  rcases hq with ⟨hq, rfl⟩ | ⟨hq, rfl⟩
  · obtain ⟨its, rv, p', hz⟩ := I1.list hq
    refine call_enumerate_list p'.isList fun h' he hit hsz hk => wpAny_pyIter_enum he ?_
    have I2 : Inv X pins σ H1 { s1 with heap := h' } := I1.kept (t' := s1.toks) hk
    exact ⟨s1.heap.objs.size + 1, [s1.heap.objs.size + 1, s1.heap.objs.size], _, _, H1, rfl, I2, turn_enum a (s1.heap.objs.size + 1) s1.heap.objs.size, ⟨⟨.none, he⟩, hit, Nat.succ_ne_self _⟩, fp, q⟩
  · obtain ⟨its, rv, p', hz⟩ := I1.tuple hq
    refine enum_tup p' fun h' he hit hk => wpAny_pyIter_enum he ?_
    have I2 : Inv X pins σ H1 { s1 with heap := h' } := I1.kept (t' := s1.toks) hk
    exact ⟨s1.heap.objs.size + 1, [s1.heap.objs.size + 1, s1.heap.objs.size], _, _, H1, rfl, I2, turn_enumT a (s1.heap.objs.size + 1) s1.heap.objs.size, ⟨⟨.none, he⟩, hit, Nat.succ_ne_self _⟩, fp, q⟩
theorem walk_enumT {K : PySem.W.Frag} {a : Addr} {xs : List V} : Walk (ItET K a) xs.length (fun H => SqT K H a xs) (YPair (fun i => some (.int (i : Nat))) (fun i => xs[i]?)) where
  goes := fun i H hi hq => ⟨xs, xs[i], hq, List.getElem?_eq_getElem hi⟩
  stops := fun H hq => ⟨xs, hq, Nat.le_refl _⟩
  yields := fun i H v H' hi hq y => by
    obtain ⟨T, x, h1, h2, h3, h4⟩ := y
    exact ⟨T, _, x, h1, h2, h3, rfl, h4 xs hq⟩
end Q2

namespace Q2
open PySem PySem.Spec PyProof.Rows L2
/-! ### reversed(range(n)) -/
theorem smallRev_up {n : Int} (h0 : 0 ≤ n) (h1 : n < 1000000) : Builtin.Range.smallRev 0 n 1 = true := by
  unfold Builtin.Range.smallRev
  have e : Builtin.Range.rangeSize 0 n 1 = ((n - 0).toNat : Nat) := rangeSize_nat 0 n
  rw [e]
  simp only [Builtin.Range.rangeFitsLong, Bool.and_eq_true, decide_eq_true_eq]
  omega
def iRevRg (te : L2.St → Hp → (Int → Int → Hp → Prop) → Prop) : TI := fun σ H R => te σ H fun a b H1 => a = 0 ∧ 0 ≤ b ∧ b < 1000000 ∧ R (Itc (b - 1) (-1) b.toNat) H1
section
variable {X : Cx} {tg : Expr}
theorem pi_revRg {e : Expr} {te : L2.St → Hp → (Int → Int → Hp → Prop) → Prop} {p pos : Pos} (hg : Gl X "reversed") (hm : X.mg "reversed" = none) (he : PRg X e te) (na : starEach [e] X.env = (false, eval e X.env) :: starEach [] X.env := by rfl) : PI X tg (.Call (.Name "reversed" p) [e] [] pos) (iRevRg te) := by
  refine ⟨fun pins s σ H R I h => ?_⟩
  refine Call_ (ld_blt I hg hm PyProof.Rows.boot_reversed (PyProof.Rows.callWith_type1 (args_cons (thn (he pins s σ H _ I h) fun x s1 ⟨r, a, b, t, u, v, H1, ex, hr, I1, z, b0, b1, q⟩ => args_nil ?_) na) na))
  subst ex
  subst z
  refine PySem.reversed_range (n := (b - 0).toNat) hr (smallRev_up b0 b1) (rangeSize_nat 0 b) fun h' hi hs hk => ?_
  refine wpAny_pyIter_rangeiter hi ?_
  have I2 : Inv X pins σ H1 { s1 with heap := h' } := I1.kept (t' := s1.toks) hk
  refine ⟨s1.heap.objs.size, [s1.heap.objs.size], _, _, H1, rfl, I2, turn_rangeC _ (b - 1) (-1) b.toNat, ?_, fun c hc => ?_, q⟩
  · have e1 : 0 + (((b - 0).toNat : Nat) - 1 : Int) * 1 = b - 1 + ((0 : Nat) : Int) * (-1) := by omega
    have e2 : (((b - 0).toNat : Nat) : Int) = (b.toNat : Int) - ((0 : Nat) : Int) := by omega
    rw [e1] at hi
    show IsRangeIter _ _ (b - 1 + ((0 : Nat) : Int) * (-1)) ((b.toNat : Int) - ((0 : Nat) : Int)) (-1)
    rw [← e2]
    exact hi
  · have e : c = s1.heap.objs.size := by simpa using hc
    subst e
    exact I1.fpOk (Nat.le_refl _) (I1.hok.fresh (Nat.le_refl _))
end
theorem same_app {H H' : Hp} {D : Addr} {o : HO} (e : Same H H') (hD : H D = none) : Same H (upd H' D o) := fun b o' hb => by
  rw [upd_ne (ne_of_none hb hD)]
  exact e b o' hb
/-! ### what a def is, at one place -/
end Q2

namespace PM
open PySem PySem.Spec PyProof.Rows L2 Q2
abbrev FnP (K : PySem.W.Frag) (x : Str) (st : Stmt) (f : Addr) (fd : FuncData) : Prop := Fun K x x st f fd
/-! ### exceptions: a class by its name -/
def wx (mg : Str → Option Value) (W : XW) : WX := fun cls d σ H => ∃ c dd, mg c = some cls ∧ d = some dd ∧ W c dd σ H
theorem takesF {X : Cx} {mg : Str → Option Value} : Takes X (wx mg WF) := L2.takes0.imp fun _ _ _ _ h => by
  obtain ⟨_, _, _, _, z⟩ := h
  exact z
/-! ### calls -/
abbrev MF := List Va → Sto → Res Va
def xwE (mg : Str → Option Value) (E : XK) : XW := fun c dd _ H => ∀ cls, mg c = some cls → E cls (some dd) H
/-- the promise: the arguments' values and the store lead to the result that g tells -/
def spM (K : KX) (mg : Str → Option Value) (n : Nat) (g : MF) : Sp := fun vs H Q E => vs.length = n ∧ ∃ ρ S as, RS K ρ S H ∧ Rvs K ρ H as vs ∧ Aft K (xwE mg E) [] (Rv K) Q ρ H (g as S)
def fnM (n : Nat) (b : MS) : MF := fun as S => match b (as.map some ++ List.replicate (n - as.length) none) S with
  | .nx _ S' => .ok .non S'
  | .rt v S' => .ok v S'
  | .ex c f v _ S' => .ex c f v S'
  | _ => .bad
theorem RE.start {K : KX} {ρ : List Addr} {H : Hp} {as : List Va} {vs : List V} (h : Rvs K ρ H as vs) (N : List Str) : RE K ρ H (as.map some ++ List.replicate (N.length - as.length) none) (L2.start N vs) := by
  have hl := h.len
  unfold L2.start
  rw [← hl]
  refine ⟨by simp [hl], fun i v e => ?_⟩
  by_cases hi : i < as.length
  · rw [List.getElem?_append_left (by simpa using hi), List.getElem?_map] at e
    cases ea : as[i]? with
    | none => rw [ea] at e; cases e
    | some a =>
      rw [ea] at e
      cases e
      obtain ⟨w, h1, h2⟩ := h.get ea
      exact ⟨w, by rw [List.getElem?_append_left (by rw [List.length_map, ← hl]; exact hi), List.getElem?_map, h1]; rfl, h2⟩
  · rw [List.getElem?_append_right (by simpa using hi), List.getElem?_replicate] at e
    split at e <;> cases e
section
variable {P : Program} {w : World} {K : PySem.W.Frag} {mg : Str → Option Value} {base : Heap}
/-- a def by its body -/
theorem fn_ok {k : Nat} {x : Str} {st : Stmt} {f : Addr} {fd : FuncData} {N ps : List Str} {m : MS} (F : FnP K x st f fd) (S : FnScope N ps (defScope st))
    (hb : ∀ (cdv : Value) (A : Around) (outer : List Env) (s : Shared) (H : Hp) (E : XK) (W : XW), Room k (A.deeper (envOfC x (defScope st) s.heap.objs.size f cdv)) →
      Takes (cxOf (L2.CX P w) P w K mg base N x (defScope st) f cdv A outer s H E) (wx mg W) → PMSs (cxOf (L2.CX P w) P w K mg base N x (defScope st) f cdv A outer s H E) W (defBody st) m) :
    FnOk P w K mg base (L2.CX P w) (k + 1) f fd ps (spM ⟨K, P, w⟩ mg ps.length (fnM N.length m)) := by
  refine F.okX S (fun vs H Q E h => h.1) fun cdv A outer s H vs Q E hr h => ?_
  obtain ⟨hl, ρ, S0, as, R, r, q⟩ := h
  have tk : Takes (cxOf (L2.CX P w) P w K mg base N x (defScope st) f cdv A outer s H E) (wx mg (xwE mg E)) :=
    (takes_of (X := cxOf (L2.CX P w) P w K mg base N x (defScope st) f cdv A outer s H E) (E := E) rfl rfl rfl rfl).imp fun cls d σ H h => by
      obtain ⟨c, dd, h1, rfl, h2⟩ := h
      exact h2 cls h1
  refine ⟨_, hb cdv A outer s H E (xwE mg E) hr tk, ρ, _, S0, R, RE.start r N, ?_⟩
  unfold fnM at q
  cases e : m (as.map some ++ List.replicate (N.length - as.length) none) S0 with
  | bad => rw [e] at q; exact q
  | nx Γ' S' => rw [e] at q; exact fun ρ' H' σ' E' R' G' => q ρ' H' .non E' R' rfl
  | rt v S' => rw [e] at q; exact q
  | bk Γ' S' => rw [e] at q; exact q.elim
  | ct Γ' S' => rw [e] at q; exact q.elim
  | ex c f v Γ' S' => rw [e] at q; exact fun ρ' H' σ' w d E' R' G' rv hd => q ρ' H' w d E' R' rv hd
end
/-- a def of the program, with what it promises -/
structure Dx (P : Program) (w : World) (K : PySem.W.Frag) (mg : Str → Option Value) (base : Heap) (k : Nat) (x : Str) (ps : List Str) (g : MF) (f : Addr) (fd : FuncData) : Prop where
  ok : FnOk P w K mg base (L2.CX P w) k f fd ps (spM ⟨K, P, w⟩ mg ps.length g)
  kp : PySem.W.keepIn K (.ref f) = true
  bd : Binds K fd ps []
  gl : mg x = some (.ref f)
def mCall (g : MF) (t : MA) : ME := fun Γ S => (t Γ S).bind fun vs S1 => g vs S1
theorem Aft.call {K : KX} {mg : Str → Option Value} {W : XW} {σ : L2.St} {Q : VK} {ρ : List Addr} {H : Hp} {r : Res Va} (h : Aft K W σ (Rv K) Q ρ H r) : Aft K (xwE mg (WE (wx mg W) σ)) [] (Rv K) Q ρ H r := by
  cases r with
  | bad => exact h
  | ok v S => exact h
  | ex c f v S => exact fun ρ' H' w d E R rv hd cls hc => ⟨c, d, hc, rfl, h ρ' H' w d E R rv hd⟩
section
variable {X : Cx} {W : XW} {k : Nat} {x : Str} {ps : List Str} {g : MF} {f : Addr} {fd : FuncData} {e : Expr} {es : List Expr} {t : MA} {p pos : Pos}
theorem pm_call (D : Dx X.prog X.w X.K X.mg X.base k x ps g f fd) (tk : Takes X (wx X.mg W)) (hr : Room k X.A) (hg : Gl X x) (ha : PMA X W (e :: es) t) (hlen : (e :: es).length = ps.length)
    (hdb : (x == ("__debug__" : Str)) = false := by decide) (he : starEach (e :: es) X.env = (false, eval e X.env) :: starEach es X.env := by rfl) (hpl : (backTo pos (starEach es X.env)).any (·.1) = false := by rfl)
    (hn : ∀ Γ S vs S', t Γ S = .ok vs S' → vs.length = ps.length) :
    PM X W (.Call (.Name x p) (e :: es) [] pos) (mCall g t) := by
  refine pe_imp (pe_callS D.ok hr hg D.gl D.kp D.bd (E := WE (wx X.mg W)) (fun σ => passAt tk σ) ha hdb he hpl) fun σ H Q ⟨ρ, Γ, S, R, G, q⟩ => ?_
  refine ⟨ρ, Γ, S, R, G, ?_⟩
  unfold mCall at q
  cases ht : t Γ S with
  | bad => rw [ht] at q; exact q
  | ex a b c d => rw [ht] at q; exact q
  | ok vs S1 =>
    rw [ht, bind_ok] at q
    intro ρ1 H1 ws E1 R1 r1
    exact ⟨by rw [← r1.len]; exact hn Γ S vs S1 ht, ρ1, S1, vs, R1, r1, (q.shift E1).call⟩
end
/-- how many arguments there are -/
inductive ArgN : MA → Nat → Prop
  | nil : ArgN maN 0
  | cons {a : ME} {t : MA} {n : Nat} : ArgN t n → ArgN (maC a t) (n + 1)
theorem ArgN.len {t : MA} {n : Nat} (h : ArgN t n) : ∀ Γ S vs S', t Γ S = .ok vs S' → vs.length = n := by
  induction h with
  | nil =>
    intro Γ S vs S' e
    cases e
    rfl
  | @cons a t n h ih =>
    intro Γ S vs S' e
    unfold maC at e
    cases ea : a Γ S with
    | bad => rw [ea] at e; cases e
    | ex a b c d => rw [ea] at e; cases e
    | ok v S1 =>
      rw [ea, bind_ok] at e
      cases et : t Γ S1 with
      | bad => rw [et] at e; cases e
      | ex a b c d => rw [et] at e; cases e
      | ok us S2 =>
        rw [et, bind_ok] at e
        cases e
        rw [List.length_cons, ih _ _ _ _ et]
/-! ### keywords: nothing is raised -/
def PMK (X : Cx) (W : XW) (ks : List Keyword) (m : MA) : Prop := PK X ks (tMA (kxOf X) W m)
section
variable {X : Cx} {W : XW} {k : Nat} {x : Str} {ps ks : List Str} {g : MF} {f : Addr} {fd : FuncData} {e : Expr} {es : List Expr} {t u : MA} {ma : ME} {kws : List Keyword} {nm : Option Str} {p pos kpos : Pos}
theorem pmk_nil : PMK X W [] maN := ⟨fun pos pins s σ H Q I ⟨ρ, Γ, S, R, G, q⟩ => pk_nil.run pos pins s σ H Q I (q ρ H [] R.refl R rfl)⟩
theorem pmk_cons (ha : PM X W e ma) (ht : PMK X W kws t) : PMK X W (⟨nm, e, kpos⟩ :: kws) (maC ma t) := by
  refine ⟨fun pos pins s σ H Q I ⟨ρ, Γ, S, R, G, q⟩ => (pk_cons ha ht).run pos pins s σ H Q I ?_⟩
  refine ⟨ρ, Γ, S, R, G, q.bind fun v S1 ρ1 H1 x E1 R1 rx q1 => ?_⟩
  refine ⟨ρ1, Γ, S1, R1, G.ext E1, q1.bind fun w S2 ρ2 H2 y E2 R2 ry q2 => ?_⟩
  exact q2 ρ2 H2 _ R2.refl R2 (Rvs.cons (rx.ext E2) ry)
/-- the values of the keywords put in the parameters' order -/
def permV (o : List Nat) (us : List Va) : List Va := o.filterMap fun i => us[i]?
def mCallK (g : MF) (o : List Nat) (t : MA) : ME := fun Γ S => (t Γ S).bindN fun vs S1 => noX (g (permV o vs) S1)
end
end PM

namespace PM
open PySem PySem.Spec PyProof.Rows L2 Q2
/-! ### what a value reads as -/
def seqOf (S : Sto) : Va → Option (List Va)
  | .tup xs => some xs
  | v => lstOf S v
section
variable {K : KX} {ρ : List Addr} {S : Sto} {H : Hp} {v : Va} {w : V} {xs : List Va}
theorem lst_of (R : RS K ρ S H) (r : Rv K ρ H v w) (h : lstOf S v = some xs) : ∃ a ws, w = .ref a ∧ SqL K.K H a ws ∧ Rvs K ρ H xs ws := by
  cases v with
  | ref n =>
    obtain ⟨a, h1, rfl⟩ := r
    unfold lstOf at h
    simp only at h
    cases e : S[n]? with
    | none => rw [e] at h; cases h
    | some o =>
      rw [e] at h
      cases o with
      | lst ys =>
        cases h
        obtain ⟨_, ws, h2, h3⟩ := R.at_ n a _ h1 e
        exact ⟨a, ws, rfl, SqL.of h2, h3⟩
      | setT ks => cases h
      | raw o => cases h
      | tbl _ => cases h
      | dct _ => cases h
  | rol ys =>
    cases h
    obtain ⟨a, ws, rfl, h1, h2⟩ := r
    exact ⟨a, ws, rfl, h1.sq, h2⟩
  | _ => cases h
theorem seq_of (R : RS K ρ S H) (r : Rv K ρ H v w) (h : seqOf S v = some xs) : ∃ a ws, w = .ref a ∧ (SqL K.K H a ws ∨ SqT K.K H a ws) ∧ Rvs K ρ H xs ws := by
  cases v with
  | tup ys =>
    cases h
    obtain ⟨a, ws, rfl, h1, h2⟩ := r
    exact ⟨a, ws, rfl, .inr h1, h2⟩
  | ref n =>
    obtain ⟨a, ws, h1, h2, h3⟩ := lst_of (v := .ref n) R r h
    exact ⟨a, ws, h1, .inl h2, h3⟩
  | rol ys =>
    obtain ⟨a, ws, h1, h2, h3⟩ := lst_of (v := .rol ys) R r h
    exact ⟨a, ws, h1, .inl h2, h3⟩
  | _ => cases h
/-- a new list is handed back -/
def mkL (S : Sto) (xs : List Va) : Option (Va × Sto) := if xs.length ≤ sizeLine then some (.ref S.length, S ++ [.lst xs]) else none
theorem mkL_ans {Q : VK} {ws : List V} (R : RS K ρ S H) (h : Ans K Q ρ H (mkL S xs)) (r : Rvs K ρ H xs ws) : xs.length ≤ sizeLine ∧ ∀ p, H p = none → Q (.ref p) (upd H p (.lst ws)) := by
  unfold mkL at h
  by_cases hl : xs.length ≤ sizeLine
  · rw [if_pos hl] at h
    refine ⟨hl, fun p hp => ?_⟩
    obtain ⟨E, R2⟩ := R.new hp hl r
    exact h _ _ _ E R2 (R.last p)
  · rw [if_neg hl] at h
    exact h.elim
end
/-! ### ints -/
/-- what a rule for two ints tells -/
def fI2 (C : Int → Int → Bool) (g : Int → Int → Va) : F2 := fun v w S => match v, w with
  | .int i, .int j => if C i j = true then some (g i j, S) else none
  | _, _ => none
@[simp] theorem fI2_int (C : Int → Int → Bool) (g : Int → Int → Va) (i j : Int) (S : Sto) : fI2 C g (.int i) (.int j) S = if C i j = true then some (g i j, S) else none := rfl
theorem opI2 {X : Cx} {gg : Value → Value → Sem Value} {C' : Int → Int → Prop} {C : Int → Int → Bool} {g : Int → Int → V} {gv : Int → Int → Va} (h : OpR X gg (rI C' g)) (hC : ∀ i j, C i j = true → C' i j) (hg : ∀ ρ H i j, Rv (kxOf X) ρ H (gv i j) (g i j)) : OpP X gg (fI2 C gv) := by
  refine ⟨_, h, fun ρ S H v w x y Q R rv rw a => ?_⟩
  cases v with
  | int i =>
    cases w with
    | int j =>
      cases rv
      cases rw
      unfold fI2 at a
      simp only at a
      by_cases c : C i j = true
      · rw [if_pos c] at a
        exact ⟨i, j, rfl, rfl, hC i j c, a ρ H _ R.refl R (hg ρ H i j)⟩
      · rw [if_neg c] at a
        exact a.elim
    | _ => exact a.elim
  | _ => exact a.elim
def always : Int → Int → Bool := fun _ _ => true
theorem opI2' {X : Cx} {gg : Value → Value → Sem Value} {g : Int → Int → V} {gv : Int → Int → Va} (h : OpR X gg (rI0 g)) (hg : ∀ ρ H i j, Rv (kxOf X) ρ H (gv i j) (g i j)) : OpP X gg (fI2 always gv) := by
  refine ⟨_, h, fun ρ S H v w x y Q R rv rw a => ?_⟩
  cases v with
  | int i =>
    cases w with
    | int j =>
      cases rv
      cases rw
      exact ⟨i, j, rfl, rfl, a ρ H _ R.refl R (hg ρ H i j)⟩
    | _ => exact a.elim
  | _ => exact a.elim
def addI : F2 := fI2 always fun i j => .int (i + j)
def subI : F2 := fI2 always fun i j => .int (i - j)
@[irreducible] def mulC (i j : Int) : Bool := decide ((-(2 ^ 64) < i ∧ i < 2 ^ 64) ∨ (-(2 ^ 64) < j ∧ j < 2 ^ 64)) || decide (i.natAbs.log2 + j.natAbs.log2 < 1000000)
def mulI : F2 := fI2 mulC fun i j => .int (i * j)
@[irreducible] def divC (_ j : Int) : Bool := decide (0 < j ∧ j.natAbs.log2 < 9000)
def divI : F2 := fI2 divC fun i j => .int (i / j)
@[irreducible] def modC (_ j : Int) : Bool := decide (0 < j)
def modI : F2 := fI2 modC fun i j => .int (i % j)
@[irreducible] def powC (i j : Int) : Bool := decide (0 ≤ j ∧ j ≤ 1000000 ∧ i.natAbs < 2 ^ 64) || decide (0 ≤ j ∧ (Builtin.Int.intBits i : Int) * j ≤ 2 ^ 27)
def powI : F2 := fI2 powC fun i j => .int (i ^ j.toNat)
@[irreducible] def shlC (i j : Int) : Bool := decide (0 ≤ j ∧ j ≤ 1000000 ∧ i.natAbs < 2 ^ 64)
def shlI : F2 := fI2 shlC fun i j => .int (i * 2 ^ j.toNat)
@[irreducible] def shrC (_ j : Int) : Bool := decide (0 ≤ j)
def shrI : F2 := fI2 shrC fun i j => .int (i / 2 ^ j.toNat)
def andI : F2 := fI2 always fun i j => .int (Builtin.bitAnd i j)
def orI : F2 := fI2 always fun i j => .int (Builtin.bitOr i j)
def xorI : F2 := fI2 always fun i j => .int (Builtin.bitXor i j)
def ltI : F2 := fI2 always fun i j => .bl (decide (i < j))
def leI : F2 := fI2 always fun i j => .bl (decide (i ≤ j))
def gtI : F2 := fI2 always fun i j => .bl (decide (j < i))
def geI : F2 := fI2 always fun i j => .bl (decide (j ≤ i))
section
variable {X : Cx}
theorem rI_or {gg : Value → Value → Sem Value} {C C' : Int → Int → Prop} {g : Int → Int → V} (h : OpR X gg (rI C g)) (h' : OpR X gg (rI C' g)) : OpR X gg (rI (fun i j => C i j ∨ C' i j) g) := by
  intro pins s σ H x y v u Q I rx ry ⟨i, j, e1, e2, c, q⟩
  rcases c with c | c
  · exact h pins s σ H x y v u Q I rx ry ⟨i, j, e1, e2, c, q⟩
  · exact h' pins s σ H x y v u Q I rx ry ⟨i, j, e1, e2, c, q⟩
theorem or_dec {p q : Prop} [Decidable p] [Decidable q] (h : (decide p || decide q) = true) : p ∨ q := by
  rcases Bool.or_eq_true_iff.mp h with h | h
  · exact .inl (of_decide_eq_true h)
  · exact .inr (of_decide_eq_true h)
theorem oAddI : OpP X (binaryOp .Add) addI := opI2' op_add fun _ _ _ _ => rfl
theorem oSub : OpP X (binaryOp .Sub) subI := opI2' op_sub fun _ _ _ _ => rfl
theorem oMulI : OpP X (binaryOp .Mult) mulI := opI2 (rI_or op_mul op_mulW) (fun i j h => or_dec (p := (-(2 ^ 64) < i ∧ i < 2 ^ 64) ∨ (-(2 ^ 64) < j ∧ j < 2 ^ 64)) (q := i.natAbs.log2 + j.natAbs.log2 < 1000000) (by unfold mulC at h; exact h)) fun _ _ _ _ => rfl
theorem oDiv : OpP X (binaryOp .FloorDiv) divI := opI2 op_fdivW (fun _ j h => of_decide_eq_true (p := 0 < j ∧ j.natAbs.log2 < 9000) (by unfold divC at h; exact h)) fun _ _ _ _ => rfl
theorem oMod : OpP X (binaryOp .Mod) modI := opI2 op_mod (fun _ j h => of_decide_eq_true (p := 0 < j) (by unfold modC at h; exact h)) fun _ _ _ _ => rfl
theorem oPow : OpP X (binaryOp .Pow) powI := opI2 (rI_or op_pow op_powW) (fun i j h => or_dec (p := 0 ≤ j ∧ j ≤ 1000000 ∧ i.natAbs < 2 ^ 64) (q := 0 ≤ j ∧ (Builtin.Int.intBits i : Int) * j ≤ 2 ^ 27) (by unfold powC at h; exact h)) fun _ _ _ _ => rfl
theorem oShl : OpP X (binaryOp .LShift) shlI := opI2 op_shl (fun i j h => of_decide_eq_true (p := 0 ≤ j ∧ j ≤ 1000000 ∧ i.natAbs < 2 ^ 64) (by unfold shlC at h; exact h)) fun _ _ _ _ => rfl
theorem oShr : OpP X (binaryOp .RShift) shrI := opI2 op_shr (fun _ j h => of_decide_eq_true (p := 0 ≤ j) (by unfold shrC at h; exact h)) fun _ _ _ _ => rfl
theorem oAnd : OpP X (binaryOp .BitAnd) andI := opI2' op_and fun _ _ _ _ => rfl
theorem oOr : OpP X (binaryOp .BitOr) orI := opI2' op_or fun _ _ _ _ => rfl
theorem oXor : OpP X (binaryOp .BitXor) xorI := opI2' op_xor fun _ _ _ _ => rfl
theorem oLtI : OpP X (compareOp .Lt) ltI := opI2' op_lt fun _ _ _ _ => rfl
theorem oLe : OpP X (compareOp .LtE) leI := opI2' op_le fun _ _ _ _ => rfl
theorem oGtI : OpP X (compareOp .Gt) gtI := opI2' op_gt fun _ _ _ _ => rfl
theorem oGe : OpP X (compareOp .GtE) geI := opI2' op_ge fun _ _ _ _ => rfl
/-! ### lists, tuples, texts put together -/
def catL : F2 := fun v w S => match lstOf S v, lstOf S w with
  | some xs, some ys => mkL S (xs ++ ys)
  | _, _ => none
def catT : F2 := fun v w S => match v, w with
  | .tup (x :: xs), .tup ys => if (x :: xs).length + ys.length ≤ sizeLine then some (.tup (x :: xs ++ ys), S) else none
  | _, _ => none
def catS : F2 := fun v w S => match v, w with
  | .str a, .str b => if a.length + b.length ≤ sizeLine then some (.str (a ++ b), S) else none
  | _, _ => none
theorem oCatL : OpP X (binaryOp .Add) catL := by
  refine ⟨_, op_catL, fun ρ S H v w x y Q R rv rw a => ?_⟩
  unfold catL at a
  cases e1 : lstOf S v with
  | none => rw [e1] at a; exact a.elim
  | some xs =>
    cases e2 : lstOf S w with
    | none => rw [e1, e2] at a; exact a.elim
    | some ys =>
      rw [e1, e2] at a
      obtain ⟨p, ws, rfl, h1, r1⟩ := lst_of R rv e1
      obtain ⟨p2, us, rfl, h2, r2⟩ := lst_of R rw e2
      obtain ⟨hl, q⟩ := mkL_ans R a (r1.app r2)
      refine ⟨p, p2, ws, us, rfl, rfl, h1, h2, ?_, q⟩
      rw [← r1.len, ← r2.len, ← List.length_append]
      exact hl
theorem ans_if {K : KX} {ρ : List Addr} {H : Hp} {Q : VK} {p : Prop} [Decidable p] {o : Option (Va × Sto)} (h : Ans K Q ρ H (if p then o else none)) : p ∧ Ans K Q ρ H o := by
  by_cases c : p
  · rw [if_pos c] at h
    exact ⟨c, h⟩
  · rw [if_neg c] at h
    exact h.elim
theorem catT_in {K : KX} {ρ : List Addr} {H : Hp} {Q : VK} {S : Sto} {v w : Va} (a : Ans K Q ρ H (catT v w S)) : ∃ z zs ys, v = .tup (z :: zs) ∧ w = .tup ys ∧ Ans K Q ρ H (if (z :: zs).length + ys.length ≤ sizeLine then some (.tup (z :: zs ++ ys), S) else none) := by
  cases v with
  | tup xs =>
    cases xs with
    | nil => exact a.elim
    | cons z zs =>
      cases w with
      | tup ys => exact ⟨z, zs, ys, rfl, rfl, a⟩
      | _ => exact a.elim
  | _ => exact a.elim
theorem oCatT : OpP X (binaryOp .Add) catT := by
  refine ⟨_, op_catT, fun ρ S H v w x y Q R rv rw a => ?_⟩
  obtain ⟨z, zs, ys, rfl, rfl, a⟩ := catT_in a
  obtain ⟨hl, a⟩ := ans_if a
  obtain ⟨p, ws, rfl, h1, r1⟩ := rv
  obtain ⟨p2, us, rfl, h2, r2⟩ := rw
  have e1 := r1.len
  have e2 := r2.len
  refine ⟨p, p2, ws, us, rfl, rfl, h1, h2, ?_, by rw [← e1, ← e2]; exact hl, fun e => ?_, fun e p hp => ?_⟩
  · intro e
    rw [e] at e1
    cases e1
  · subst e
    cases ys with
    | nil => exact a ρ H _ R.refl R ⟨p, ws, rfl, h1, by rw [List.append_nil]; exact r1⟩
    | cons y ys => cases e2
  · obtain ⟨E, R2⟩ := R.own (o := .tup (ws ++ us)) hp
    exact a ρ _ _ E R2 ⟨p, _, rfl, SqT.of upd_same, (r1.app r2).ext E⟩
theorem oCatS : OpP X (binaryOp .Add) catS := by
  refine ⟨_, op_add_str, fun ρ S H v w x y Q R rv rw a => ?_⟩
  cases v with
  | str z =>
    cases w with
    | str u =>
      cases rv
      cases rw
      obtain ⟨hl, a⟩ := ans_if (p := z.length + u.length ≤ sizeLine) (o := some (.str (z ++ u), S)) a
      exact ⟨z, u, rfl, rfl, hl, a ρ H _ R.refl R rfl⟩
    | _ => exact a.elim
  | _ => exact a.elim
def fAdd : F2 := orF2 addI (orF2 catL (orF2 catT catS))
theorem oAdd : OpP X (binaryOp .Add) fAdd := oAddI.or (oCatL.or (oCatT.or oCatS))
@[simp] theorem fAdd_int (i j : Int) (S : Sto) : fAdd (.int i) (.int j) S = some (.int (i + j), S) := rfl
theorem fAdd_lst {S : Sto} {v w : Va} {xs ys : List Va} (h : lstOf S v = some xs) (h' : lstOf S w = some ys) : fAdd v w S = mkL S (xs ++ ys) := by
  have e2 : catL v w S = mkL S (xs ++ ys) := by unfold catL; rw [h, h']
  have e : addI v w S = none ∧ catT v w S = none ∧ catS v w S = none := by
    cases v with
    | ref n => exact ⟨rfl, rfl, rfl⟩
    | rol ys => exact ⟨rfl, rfl, rfl⟩
    | _ => cases h
  unfold fAdd orF2
  simp only [e.1, e.2.1, e.2.2, e2]
  cases mkL S (xs ++ ys) <;> rfl
theorem fAdd_tup {x : Va} {xs ys : List Va} {S : Sto} (h : (x :: xs).length + ys.length ≤ sizeLine) : fAdd (.tup (x :: xs)) (.tup ys) S = some (.tup (x :: xs ++ ys), S) := by
  have e : addI (.tup (x :: xs)) (.tup ys) S = none ∧ catL (.tup (x :: xs)) (.tup ys) S = none := ⟨rfl, rfl⟩
  have e2 : catT (.tup (x :: xs)) (.tup ys) S = some (.tup (x :: xs ++ ys), S) := by
    unfold catT
    simp only
    rw [if_pos h]
  unfold fAdd orF2
  simp only [e.1, e.2, e2]
/-- a list so many times -/
def repL : F2 := fun v w S => match v, w with
  | .ref n, .int k => match S[n]? with
    | some (.lst xs) => if -(2 ^ 63) ≤ k ∧ k < 2 ^ 63 ∧ xs.length * k.toNat ≤ sizeLine then mkL S (List.replicate k.toNat xs).flatten else none
    | _ => none
  | _, _ => none
theorem Rvs.rep {K : KX} {ρ : List Addr} {H : Hp} {xs : List Va} {ws : List V} (h : Rvs K ρ H xs ws) : ∀ k, Rvs K ρ H (List.replicate k xs).flatten (List.replicate k ws).flatten
  | 0 => rfl
  | k + 1 => by
    rw [List.replicate_succ, List.replicate_succ, List.flatten_cons, List.flatten_cons]
    exact h.app (h.rep k)
theorem oRep : OpP X (binaryOp .Mult) repL := by
  refine ⟨_, op_rep, fun ρ S H v w x y Q R rv rw a => ?_⟩
  cases v with
  | ref n =>
    cases w with
    | int k =>
      obtain ⟨p, h1, rfl⟩ := rv
      cases rw
      have a : Ans (kxOf X) Q ρ H (match S[n]? with
        | some (.lst xs) => if -(2 ^ 63) ≤ k ∧ k < 2 ^ 63 ∧ xs.length * k.toNat ≤ sizeLine then mkL S (List.replicate k.toNat xs).flatten else none
        | _ => none) := a
      cases e : S[n]? with
      | none => rw [e] at a; exact a.elim
      | some o =>
        cases o with
        | setT ks => rw [e] at a; exact a.elim
        | raw o => rw [e] at a; exact a.elim
        | tbl _ => rw [e] at a; exact a.elim
        | dct _ => rw [e] at a; exact a.elim
        | lst xs =>
          rw [e] at a
          obtain ⟨c, a⟩ := ans_if a
          obtain ⟨_, ws, h2, r2⟩ := R.at_ n p _ h1 e
          obtain ⟨hl, q⟩ := mkL_ans R a (r2.rep k.toNat)
          exact ⟨p, k, ws, rfl, rfl, h2, c.1, c.2.1, by rw [← r2.len]; exact c.2.2, q⟩
    | _ => exact a.elim
  | _ => exact a.elim
def fMul : F2 := orF2 mulI repL
theorem oMul : OpP X (binaryOp .Mult) fMul := oMulI.or oRep
theorem fMul_int (i j : Int) (S : Sto) (h : mulC i j = true) : fMul (.int i) (.int j) S = some (.int (i * j), S) := by
  unfold fMul orF2 mulI
  rw [fI2_int, if_pos h]
/-! ### places -/
theorem Rvs.atI {K : KX} {ρ : List Addr} {H : Hp} {xs : List Va} {ws : List V} (h : Rvs K ρ H xs ws) {i : Int} {x : Va} (e : L2.atI xs i = some x) : ∃ w, L2.atI ws i = some w ∧ Rv K ρ H x w := by
  unfold L2.atI at e ⊢
  rw [← h.len]
  cases q : ixN xs.length i with
  | none => rw [q] at e; cases e
  | some j =>
    rw [q] at e
    exact h.get e
def ixL : F2 := fun v w S => match w with
  | .int i => match lstOf S v with
    | some xs => (L2.atI xs i).map fun x => (x, S)
    | none => none
  | _ => none
def ixT : F2 := fun v w S => match v, w with
  | .tup xs, .int i => (L2.atI xs i).map fun x => (x, S)
  | _, _ => none
def ixS : F2 := fun v w S => match v, w with
  | .str z, .int i => if z.length ≤ sizeLine then (L2.atI z.cps.toList i).map fun c => (.str ⟨#[c]⟩, S) else none
  | _, _ => none
theorem iL : IxP X ixL := by
  refine ⟨_, ix_list, fun ρ S H v w x y Q R rv rw a => ?_⟩
  cases w with
  | int i =>
    cases rw
    unfold ixL at a
    simp only at a
    cases e : lstOf S v with
    | none => rw [e] at a; exact a.elim
    | some xs =>
      rw [e] at a
      simp only at a
      obtain ⟨p, ws, rfl, h1, r1⟩ := lst_of R rv e
      cases e2 : L2.atI xs i with
      | none => rw [e2] at a; exact a.elim
      | some z =>
        rw [e2] at a
        obtain ⟨u, h2, r2⟩ := r1.atI e2
        exact ⟨p, ws, i, u, rfl, rfl, h1, h2, a ρ H u R.refl R r2⟩
  | _ => exact a.elim
theorem iT : IxP X ixT := by
  refine ⟨_, ix_tup, fun ρ S H v w x y Q R rv rw a => ?_⟩
  cases v with
  | tup xs =>
    cases w with
    | int i =>
      cases rw
      obtain ⟨p, ws, rfl, h1, r1⟩ := rv
      have a : Ans (kxOf X) Q ρ H ((L2.atI xs i).map fun x => (x, S)) := a
      cases e2 : L2.atI xs i with
      | none => rw [e2] at a; exact a.elim
      | some z =>
        rw [e2] at a
        obtain ⟨u, h2, r2⟩ := r1.atI e2
        exact ⟨p, ws, i, u, rfl, rfl, h1, h2, a ρ H u R.refl R r2⟩
    | _ => exact a.elim
  | _ => exact a.elim
theorem iS : IxP X ixS := by
  refine ⟨_, ix_str, fun ρ S H v w x y Q R rv rw a => ?_⟩
  cases v with
  | str z =>
    cases w with
    | int i =>
      cases rv
      cases rw
      obtain ⟨hl, a⟩ := ans_if (p := z.length ≤ sizeLine) (o := (L2.atI z.cps.toList i).map fun c => (Va.str ⟨#[c]⟩, S)) a
      cases e2 : L2.atI z.cps.toList i with
      | none => rw [e2] at a; exact a.elim
      | some c =>
        rw [e2] at a
        exact ⟨z, i, c, rfl, rfl, hl, e2, a ρ H _ R.refl R rfl⟩
    | _ => exact a.elim
  | _ => exact a.elim
def fIx : F2 := orF2 ixL (orF2 ixT ixS)
theorem iIx : IxP X fIx := iL.or (iT.or iS)
theorem fIx_lst {S : Sto} {v : Va} {xs : List Va} {i : Int} {x : Va} (h : lstOf S v = some xs) (e : L2.atI xs i = some x) : fIx v (.int i) S = some (x, S) := by
  unfold fIx orF2 ixL
  simp only [h, e, Option.map_some]
theorem fIx_tup {S : Sto} {xs : List Va} {i : Int} {x : Va} (e : L2.atI xs i = some x) : fIx (.tup xs) (.int i) S = some (x, S) := by
  unfold fIx orF2 ixL ixT lstOf
  simp only [e, Option.map_some]
/-! ### equality of data -/
end
def toD (S : Sto) : Nat → Va → Option PyData
  | 0, _ => none
  | _ + 1, .non => some .none
  | _ + 1, .bl b => some (.bool b)
  | _ + 1, .int i => some (.int i)
  | _ + 1, .str z => some (.str z)
  | n + 1, .tup xs => (xs.mapM (toD S n)).map .tuple
  | n + 1, .rol xs => (xs.mapM (toD S n)).map .list
  | n + 1, .ref k => match S[k]? with
    | some (.lst xs) => (xs.mapM (toD S n)).map .list
    | _ => none
  | _ + 1, .adr _ => none
  | _ + 1, .exc _ _ _ _ => none
  | _ + 1, .ty _ => none
section
variable {K : KX} {ρ : List Addr} {S : Sto} {H : Hp}
theorem dps_of {f : Va → Option PyData} (hf : ∀ v w d, Rv K ρ H v w → f v = some d → Dp K.K H w d) : ∀ {xs : List Va} {ws : List V} {ds : List PyData}, Rvs K ρ H xs ws → xs.mapM f = some ds → DpAll K.K H ws ds
  | [], _, ds, h, e => by
    cases h
    rw [List.mapM_nil] at e
    cases e
    exact .nil
  | x :: xs, _, ds, h, e => by
    obtain ⟨w, r, rfl, hw, t⟩ := h
    rw [List.mapM_cons] at e
    cases ex : f x with
    | none => rw [ex] at e; cases e
    | some d =>
      rw [ex] at e
      cases exs : xs.mapM f with
      | none => simp only [exs] at e; cases e
      | some ds' =>
        simp only [exs] at e
        cases e
        exact .cons (hf _ _ _ hw ex) (dps_of hf t exs)
theorem dp_of (R : RS K ρ S H) : ∀ (n : Nat) (v : Va) (w : V) (d : PyData), Rv K ρ H v w → toD S n v = some d → Dp K.K H w d
  | 0, _, _, _, _, e => by cases e
  | n + 1, v, w, d, r, e => by
    cases v with
    | non => cases r; cases e; exact .non
    | bl b => cases r; cases e; exact .bl b
    | int i => cases r; cases e; exact .int i
    | str z => cases r; cases e; exact .str z
    | adr a => cases e
    | ty a => cases e
    | exc _ _ _ _ => cases e
    | tup xs =>
      obtain ⟨a, ws, rfl, h1, h2⟩ := r
      have e : (xs.mapM (toD S n)).map PyData.tuple = some d := e
      cases em : xs.mapM (toD S n) with
      | none => rw [em] at e; cases e
      | some ds =>
        rw [em] at e
        cases e
        exact .tup h1 (dps_of (fun v w d r e => dp_of R n v w d r e) h2 em)
    | rol xs =>
      obtain ⟨a, ws, rfl, h1, h2⟩ := r
      have e : (xs.mapM (toD S n)).map PyData.list = some d := e
      cases em : xs.mapM (toD S n) with
      | none => rw [em] at e; cases e
      | some ds =>
        rw [em] at e
        cases e
        exact .lst h1.sq (dps_of (fun v w d r e => dp_of R n v w d r e) h2 em)
    | ref k =>
      obtain ⟨a, h1, rfl⟩ := r
      have e : (match S[k]? with
        | some (.lst xs) => (xs.mapM (toD S n)).map PyData.list
        | _ => none) = some d := e
      cases eo : S[k]? with
      | none => rw [eo] at e; cases e
      | some o =>
        rw [eo] at e
        cases o with
        | setT ks => cases e
        | raw o => cases e
        | tbl _ => cases e
        | dct _ => cases e
        | lst xs =>
          simp only at e
          obtain ⟨_, ws, h2, h3⟩ := R.at_ k a _ h1 eo
          cases em : xs.mapM (toD S n) with
          | none => rw [em] at e; cases e
          | some ds =>
            rw [em] at e
            cases e
            exact .lst (SqL.of h2) (dps_of (fun v w d r e => dp_of R n v w d r e) h3 em)
end
/-- as data, not too deep -/
def datOf (S : Sto) (v : Va) : Option PyData := match toD S 64 v with
  | some d => if SeqAt.shaped d = true then some d else none
  | none => none
theorem dat_of {K : KX} {ρ : List Addr} {S : Sto} {H : Hp} {v : Va} {w : V} {d : PyData} (R : RS K ρ S H) (r : Rv K ρ H v w) (h : datOf S v = some d) : Dp K.K H w d ∧ SeqAt.shaped d = true := by
  unfold datOf at h
  cases e : toD S 64 v with
  | none => rw [e] at h; cases h
  | some d' =>
    rw [e] at h
    simp only at h
    split at h
    · cases h
      exact ⟨dp_of R 64 v w d r e, by assumption⟩
    · cases h
def fEq : F2 := fun v w S => match datOf S v, datOf S w with
  | some d, some e => some (.bl (PyData.eqv d e), S)
  | _, _ => none
def fNe : F2 := fun v w S => match datOf S v, datOf S w with
  | some d, some e => some (.bl (!PyData.eqv d e), S)
  | _, _ => none
section
variable {X : Cx}
theorem oEq (hu : X.A.units + 64 < cLine) : OpP X (compareOp .Eq) fEq := by
  refine ⟨_, op_eqD hu, fun ρ S H v w x y Q R rv rw a => ?_⟩
  unfold fEq at a
  cases e1 : datOf S v with
  | none => rw [e1] at a; exact a.elim
  | some d =>
    cases e2 : datOf S w with
    | none => rw [e1, e2] at a; exact a.elim
    | some e =>
      rw [e1, e2] at a
      obtain ⟨d1, s1⟩ := dat_of R rv e1
      obtain ⟨d2, s2⟩ := dat_of R rw e2
      exact ⟨d, e, d1, d2, s1, s2, a ρ H _ R.refl R rfl⟩
theorem oNe (hu : X.A.units + 64 < cLine) : OpP X (compareOp .NotEq) fNe := by
  refine ⟨_, op_neD hu, fun ρ S H v w x y Q R rv rw a => ?_⟩
  unfold fNe at a
  cases e1 : datOf S v with
  | none => rw [e1] at a; exact a.elim
  | some d =>
    cases e2 : datOf S w with
    | none => rw [e1, e2] at a; exact a.elim
    | some e =>
      rw [e1, e2] at a
      obtain ⟨d1, s1⟩ := dat_of R rv e1
      obtain ⟨d2, s2⟩ := dat_of R rw e2
      exact ⟨d, e, d1, d2, s1, s2, a ρ H _ R.refl R rfl⟩
/-! ### is None -/
def isNonV : Va → Bool
  | .non => true
  | _ => false
def mIsN (a : ME) : ME := fun Γ S => (a Γ S).bind fun v S1 => .ok (.bl (isNonV v)) S1
def mNotN (a : ME) : ME := fun Γ S => (a Γ S).bind fun v S1 => .ok (.bl (!isNonV v)) S1
theorem isn_of {K : KX} {ρ : List Addr} {H : Hp} {v : Va} {w : V} (r : Rv K ρ H v w) : decide (w = V.non) = isNonV v := by
  cases v with
  | non => cases r; rfl
  | tup xs => obtain ⟨_, _, rfl, _⟩ := r; rfl
  | rol xs => obtain ⟨_, _, rfl, _⟩ := r; rfl
  | ref n => obtain ⟨_, _, rfl⟩ := r; rfl
  | exc a d f v => obtain ⟨rfl, _⟩ := r; rfl
  | _ => cases r; rfl
end
end PM

namespace PM
open PySem PySem.Spec PyProof.Rows L2 Q2
section
variable {X : Cx} {W : XW}
/-! ### is None; not; and, or as values -/
theorem pm_isN {a b : Expr} {ma : ME} {pos : Pos} {j : Nat} {p : Pos} (h : PE X (.Compare a [.Is] [.Constant .none j p] pos) (tIsN (tM (kxOf X) W ma))) : PM X W (.Compare a [.Is] [.Constant .none j p] pos) (mIsN ma) := by
  refine pe_imp h fun σ H Q ⟨ρ, Γ, S, R, G, q⟩ => ?_
  refine ⟨ρ, Γ, S, R, G, q.bind fun v S1 ρ1 H1 x E1 R1 rx q1 => ?_⟩
  rw [isn_of rx]
  exact q1 ρ1 H1 _ R1.refl R1 rfl
theorem pm_notN {a b : Expr} {ma : ME} {pos : Pos} {j : Nat} {p : Pos} (h : PE X (.Compare a [.IsNot] [.Constant .none j p] pos) (tNotN (tM (kxOf X) W ma))) : PM X W (.Compare a [.IsNot] [.Constant .none j p] pos) (mNotN ma) := by
  refine pe_imp h fun σ H Q ⟨ρ, Γ, S, R, G, q⟩ => ?_
  refine ⟨ρ, Γ, S, R, G, q.bind fun v S1 ρ1 H1 x E1 R1 rx q1 => ?_⟩
  rw [isn_of rx]
  exact q1 ρ1 H1 _ R1.refl R1 rfl
theorem pmt_isN {a b : Expr} {ma : ME} {pos : Pos} {j : Nat} {p : Pos} (h : PT X (.Compare a [.Is] [.Constant .none j p] pos) (tB (tIsN (tM (kxOf X) W ma)))) : PMT X W (.Compare a [.Is] [.Constant .none j p] pos) (mtOf (mIsN ma)) := by
  refine pt_imp h fun σ H Q ⟨ρ, Γ, S, R, G, q⟩ => ?_
  have q : Aft (kxOf X) W σ (fun _ _ (b c : Bool) => c = b) Q ρ H ((ma Γ S).bind fun v S1 => .ok (isNonV v) S1) := by
    unfold mtOf mIsN at q
    cases e : ma Γ S with
    | bad => rw [e] at q; exact q
    | ok v S1 => rw [e] at q; exact q
    | ex a b c d => rw [e] at q; exact q
  refine ⟨ρ, Γ, S, R, G, q.bind fun v S1 ρ1 H1 x E1 R1 rx q1 => ?_⟩
  rw [isn_of rx]
  exact ⟨_, rfl, q1 ρ1 H1 _ R1.refl R1 rfl⟩
theorem pmt_notN {a b : Expr} {ma : ME} {pos : Pos} {j : Nat} {p : Pos} (h : PT X (.Compare a [.IsNot] [.Constant .none j p] pos) (tB (tNotN (tM (kxOf X) W ma)))) : PMT X W (.Compare a [.IsNot] [.Constant .none j p] pos) (mtOf (mNotN ma)) := by
  refine pt_imp h fun σ H Q ⟨ρ, Γ, S, R, G, q⟩ => ?_
  have q : Aft (kxOf X) W σ (fun _ _ (b c : Bool) => c = b) Q ρ H ((ma Γ S).bind fun v S1 => .ok (!isNonV v) S1) := by
    unfold mtOf mNotN at q
    cases e : ma Γ S with
    | bad => rw [e] at q; exact q
    | ok v S1 => rw [e] at q; exact q
    | ex a b c d => rw [e] at q; exact q
  refine ⟨ρ, Γ, S, R, G, q.bind fun v S1 ρ1 H1 x E1 R1 rx q1 => ?_⟩
  rw [isn_of rx]
  exact ⟨_, rfl, q1 ρ1 H1 _ R1.refl R1 rfl⟩
theorem pm_not {a : Expr} {ma : ME} {pos : Pos} (h : PM X W a ma) : PM X W (.UnaryOp .Not a pos) (mNot ma) := by
  refine pe_imp (pe_not h) fun σ H Q ⟨ρ, Γ, S, R, G, q⟩ => ?_
  refine ⟨ρ, Γ, S, R, G, q.bind fun v S1 ρ1 H1 x E1 R1 rx q1 => ?_⟩
  cases v with
  | bl b => cases rx; exact ⟨b, rfl, q1 ρ1 H1 _ R1.refl R1 rfl⟩
  | _ => exact q1.elim
theorem pm_one {op : BoolOp} {a : Expr} {ma : ME} {pos : Pos} (h : PM X W a ma) : PM X W (.BoolOp op [a] pos) ma := pe_one h
theorem pm_and {a b : Expr} {rest : List Expr} {ma mb : ME} {pos : Pos} (ha : PM X W a ma) (hb : PM X W (.BoolOp .And (b :: rest) pos) mb) : PM X W (.BoolOp .And (a :: b :: rest) pos) (meAnd ma mb) := by
  refine pe_imp (pe_and ha hb) fun σ H Q ⟨ρ, Γ, S, R, G, q⟩ => ?_
  refine ⟨ρ, Γ, S, R, G, q.bind fun v S1 ρ1 H1 x E1 R1 rx q1 => ?_⟩
  cases v with
  | bl c =>
    cases rx
    refine ⟨c, rfl, ?_⟩
    cases c with
    | true => exact iteT ⟨ρ1, Γ, S1, R1, G.ext E1, q1⟩
    | false => exact iteF (q1 ρ1 H1 _ R1.refl R1 rfl)
  | _ => exact q1.elim
theorem pm_or {a b : Expr} {rest : List Expr} {ma mb : ME} {pos : Pos} (ha : PM X W a ma) (hb : PM X W (.BoolOp .Or (b :: rest) pos) mb) : PM X W (.BoolOp .Or (a :: b :: rest) pos) (meOr ma mb) := by
  refine pe_imp (pe_or ha hb) fun σ H Q ⟨ρ, Γ, S, R, G, q⟩ => ?_
  refine ⟨ρ, Γ, S, R, G, q.bind fun v S1 ρ1 H1 x E1 R1 rx q1 => ?_⟩
  cases v with
  | bl c =>
    cases rx
    refine ⟨c, rfl, ?_⟩
    cases c with
    | true => exact iteT (q1 ρ1 H1 _ R1.refl R1 rfl)
    | false => exact iteF ⟨ρ1, Γ, S1, R1, G.ext E1, q1⟩
  | _ => exact q1.elim
def negI : F1 := fun v S => match v with
  | .int i => some (.int (-i), S)
  | _ => none
theorem pm_neg {a : Expr} {ma : ME} {pos : Pos} (h : PM X W a ma) : PM X W (.UnaryOp .USub a pos) (m1 negI ma) := by
  refine pe_imp (pe_un un_neg h) fun σ H Q ⟨ρ, Γ, S, R, G, q⟩ => ?_
  refine ⟨ρ, Γ, S, R, G, q.bind fun v S1 ρ1 H1 x E1 R1 rx q1 => ?_⟩
  cases v with
  | int i => cases rx; exact ⟨i, rfl, q1 ρ1 H1 _ R1.refl R1 rfl⟩
  | _ => exact q1.elim
/-! ### chains -/
def mChain (f g : F2) (a b c : ME) : ME := fun Γ S => (a Γ S).bind fun v S1 => (b Γ S1).bind fun w S2 => (lift (f v w S2)).bind fun z S3 => match z with
  | .bl k => if k = true then (c Γ S3).bind fun u S4 => lift (g w u S4) else .ok (.bl false) S3
  | _ => .bad
theorem ch_imp {K : KX} {r r' : R2} {f g : F2} {ma mb mc : ME} (hf : OpM K r f) (hg : OpM K r' g) (σ : L2.St) (H : Hp) (Q : VK) (h : tM K W (mChain f g ma mb mc) σ H Q) : tChain r r' (tM K W ma) (tM K W mb) (tM K W mc) σ H Q := by
  obtain ⟨ρ, Γ, S, R, G, q⟩ := h
  refine ⟨ρ, Γ, S, R, G, q.bind fun v S1 ρ1 H1 x E1 R1 rx q1 => ?_⟩
  refine ⟨ρ1, Γ, S1, R1, G.ext E1, q1.bind fun w S2 ρ2 H2 y E2 R2 ry q2 => ?_⟩
  refine hf ρ2 S2 H2 v w x y _ R2 (rx.ext E2) ry ?_
  cases e : f v w S2 with
  | none => rw [e] at q2; exact q2.elim
  | some p =>
    obtain ⟨z, S3⟩ := p
    rw [e] at q2
    intro ρ3 H3 z' E3 R3 rz
    cases z with
    | bl k =>
      cases rz
      refine ⟨k, rfl, ?_⟩
      have q2 : Aft K W σ (Rv K) Q ρ2 H2 (if k = true then (mc Γ S3).bind fun u S4 => lift (g w u S4) else .ok (.bl false) S3) := q2
      cases k with
      | false => exact iteF (q2 ρ3 H3 _ E3 R3 rfl)
      | true =>
        have q2 : Aft K W σ (Rv K) Q ρ2 H2 ((mc Γ S3).bind fun u S4 => lift (g w u S4)) := q2
        refine iteT ⟨ρ3, Γ, S3, R3, ((G.ext E1).ext E2).ext E3, (q2.shift E3).bind fun u S4 ρ4 H4 u' E4 R4 ru q4 => ?_⟩
        exact hg ρ4 S4 H4 w u y u' Q R4 ((ry.ext E3).ext E4) ru q4.ans
    | _ => exact q2.elim
section
variable {a b c : Expr} {ma mb mc : ME} {op op' : CmpOp} {f g : F2} {pos : Pos}
theorem pm_chain (ho : OpP X (compareOp op) f) (ho' : OpP X (compareOp op') g) (ha : PM X W a ma) (hb : PM X W b mb) (hc : PM X W c mc) (hm : lastMarks [op, op'] [b, c] = false := by with_unfolding_all rfl) : PM X W (.Compare a [op, op'] [b, c] pos) (mChain f g ma mb mc) := by
  obtain ⟨r, hr, hf⟩ := ho
  obtain ⟨r', hr', hg⟩ := ho'
  exact pe_imp (pe_chain hr hr' ha hb hc hm) (ch_imp hf hg)
theorem pmt_chain (ho : OpP X (compareOp op) f) (ho' : OpP X (compareOp op') g) (ha : PM X W a ma) (hb : PM X W b mb) (hc : PM X W c mc) (hm : lastMarks [op, op'] [b, c] = false := by with_unfolding_all rfl) : PMT X W (.Compare a [op, op'] [b, c] pos) (mtOf (mChain f g ma mb mc)) := by
  obtain ⟨r, hr, hf⟩ := ho
  obtain ⟨r', hr', hg⟩ := ho'
  refine pt_imp (pt_chain hr hr' ha hb hc hm) fun σ H Q h => ?_
  refine ch_imp (W := W) hf hg σ H _ ?_
  obtain ⟨ρ, Γ, S, R, G, q⟩ := h
  refine ⟨ρ, Γ, S, R, G, ?_⟩
  have q : Aft (kxOf X) W σ (fun _ _ (b c : Bool) => c = b) Q ρ H ((mChain f g ma mb mc Γ S).bind fun v S1 => match v with
    | .bl b => .ok b S1
    | _ => .bad) := q
  cases e : mChain f g ma mb mc Γ S with
  | bad => rw [e] at q; exact q
  | ex a b c d => rw [e] at q; exact q
  | ok v S1 =>
    rw [e] at q
    intro ρ1 H1 x E1 R1 rx
    cases v with
    | bl b => cases rx; exact ⟨b, rfl, q ρ1 H1 b E1 R1 rfl⟩
    | _ => exact q.elim
end
/-! ### in, not in -/
def datsOf (S : Sto) (v : Va) : Option (List PyData) := match datOf S v with
  | some (.list ds) => some ds
  | _ => none
def inD (neg : Bool) : F2 := fun v w S => match datOf S v, datsOf S w with
  | some d, some ds => some (.bl (if neg then !ds.any (fun z => PyData.eqv z d) else ds.any fun z => PyData.eqv z d), S)
  | _, _ => none
theorem dats_of {K : KX} {ρ : List Addr} {S : Sto} {H : Hp} {v : Va} {w : V} {ds : List PyData} (R : RS K ρ S H) (r : Rv K ρ H v w) (h : datsOf S v = some ds) : Dp K.K H w (.list ds) ∧ SeqAt.shaped (.list ds) = true := by
  unfold datsOf at h
  cases e : datOf S v with
  | none => rw [e] at h; cases h
  | some d =>
    rw [e] at h
    cases d with
    | list es => cases h; exact dat_of R r e
    | _ => cases h
theorem oIn (hu : X.A.units + 65 < cLine) : OpP X (compareOp .In) (inD false) := by
  refine ⟨_, op_inD hu, fun ρ S H v w x y Q R rv rw a => ?_⟩
  unfold inD at a
  cases e1 : datOf S v with
  | none => rw [e1] at a; exact a.elim
  | some d =>
    cases e2 : datsOf S w with
    | none => rw [e1, e2] at a; exact a.elim
    | some ds =>
      rw [e1, e2] at a
      obtain ⟨d1, s1⟩ := dat_of R rv e1
      obtain ⟨d2, s2⟩ := dats_of R rw e2
      exact ⟨d, ds, d1, d2, s1, s2, a ρ H _ R.refl R rfl⟩
theorem oNotIn (hu : X.A.units + 65 < cLine) : OpP X (compareOp .NotIn) (inD true) := by
  refine ⟨_, op_notInD hu, fun ρ S H v w x y Q R rv rw a => ?_⟩
  unfold inD at a
  cases e1 : datOf S v with
  | none => rw [e1] at a; exact a.elim
  | some d =>
    cases e2 : datsOf S w with
    | none => rw [e1, e2] at a; exact a.elim
    | some ds =>
      rw [e1, e2] at a
      obtain ⟨d1, s1⟩ := dat_of R rv e1
      obtain ⟨d2, s2⟩ := dats_of R rw e2
      exact ⟨d, ds, d1, d2, s1, s2, a ρ H _ R.refl R rfl⟩
/-! ### calls of built-ins -/
section
variable {x : Str} {id T : String} {e : Expr} {es : List Expr} {t : MA} {f : FL} {p pos : Pos}
theorem cb_imp {K : KX} {r : List V → Hp → VK → Prop} (hm : CallM K r f) (σ : L2.St) (H : Hp) (Q : VK) (h : tM K W (mL f t) σ H Q) : tCB r (tMA K W t) σ H Q := by
  obtain ⟨ρ, Γ, S, R, G, q⟩ := h
  exact ⟨ρ, Γ, S, R, G, q.bind fun vs S1 ρ1 H1 xs E1 R1 rx q1 => hm ρ1 S1 H1 vs xs Q R1 rx q1.ans⟩
theorem pm_callB (hc : CallP X (.builtin id) f) (hg : Gl X x) (hm : X.mg x = none) (hv : bootBuiltins x = some (.builtin id)) (ha : PMA X W (e :: es) t) (hn : x ≠ "__name__" := by decide) (hdb : (x == ("__debug__" : Str)) = false := by decide)
    (he : starEach (e :: es) X.env = (false, eval e X.env) :: starEach es X.env := by rfl) (hpl : (backTo pos (starEach es X.env)).any (·.1) = false := by rfl) : PM X W (.Call (.Name x p) (e :: es) [] pos) (mL f t) := by
  obtain ⟨r, hr, hf⟩ := hc
  exact pe_imp (pe_callB hr hg hm hv ha hn hdb he hpl) (cb_imp hf)
theorem pm_callTy (hc : CallP X (.type T) f) (hg : Gl X x) (hm : X.mg x = none) (hv : bootBuiltins x = some (.type T)) (ha : PMA X W (e :: es) t) (hn : x ≠ "__name__" := by decide) (hdb : (x == ("__debug__" : Str)) = false := by decide)
    (he : starEach (e :: es) X.env = (false, eval e X.env) :: starEach es X.env := by rfl) (hpl : (backTo pos (starEach es X.env)).any (·.1) = false := by rfl) : PM X W (.Call (.Name x p) (e :: es) [] pos) (mL f t) := by
  obtain ⟨r, hr, hf⟩ := hc
  exact pe_imp (pe_callTy hr hg hm hv ha hn hdb he hpl) (cb_imp hf)
end
end
/-! ### the built-ins, by values -/
section
variable {K : KX} {ρ : List Addr} {S : Sto} {H : Hp}
theorem one_of {vs : List Va} {xs : List V} {v : Va} (h : Rvs K ρ H vs xs) (e : vs = [v]) : ∃ x, xs = [x] ∧ Rv K ρ H v x := by
  subst e
  obtain ⟨x, r, rfl, h1, rfl⟩ := h
  exact ⟨x, rfl, h1⟩
theorem two_of {vs : List Va} {xs : List V} {v w : Va} (h : Rvs K ρ H vs xs) (e : vs = [v, w]) : ∃ x y, xs = [x, y] ∧ Rv K ρ H v x ∧ Rv K ρ H w y := by
  subst e
  obtain ⟨x, r, rfl, h1, y, r2, rfl, h2, rfl⟩ := h
  exact ⟨x, y, rfl, h1, h2⟩
/-- the ints that values are -/
def intsOf : List Va → Option (List Int)
  | [] => some []
  | .int i :: r => (intsOf r).map (i :: ·)
  | _ :: _ => none
theorem ints_of : ∀ {vs : List Va} {xs : List V} {ns : List Int}, Rvs K ρ H vs xs → intsOf vs = some ns → xs = ns.map V.int
  | [], _, ns, h, e => by
    cases h
    cases e
    rfl
  | v :: vs, _, ns, h, e => by
    obtain ⟨x, r, rfl, h1, h2⟩ := h
    cases v with
    | int i =>
      cases h1
      have e : (intsOf vs).map (i :: ·) = some ns := e
      cases q : intsOf vs with
      | none => rw [q] at e; cases e
      | some ms =>
        rw [q] at e
        cases e
        rw [ints_of h2 q]
        rfl
    | _ => cases e
def boolsOf : List Va → Option (List Bool)
  | [] => some []
  | .bl i :: r => (boolsOf r).map (i :: ·)
  | _ :: _ => none
theorem bools_of : ∀ {vs : List Va} {xs : List V} {ns : List Bool}, Rvs K ρ H vs xs → boolsOf vs = some ns → xs = ns.map V.bl
  | [], _, ns, h, e => by
    cases h
    cases e
    rfl
  | v :: vs, _, ns, h, e => by
    obtain ⟨x, r, rfl, h1, h2⟩ := h
    cases v with
    | bl i =>
      cases h1
      have e : (boolsOf vs).map (i :: ·) = some ns := e
      cases q : boolsOf vs with
      | none => rw [q] at e; cases e
      | some ms =>
        rw [q] at e
        cases e
        rw [bools_of h2 q]
        rfl
    | _ => cases e
end
def fL1 (f : Va → Sto → Option (Va × Sto)) : FL := fun vs S => match vs with
  | [v] => f v S
  | _ => none
def fL2 (f : Va → Va → Sto → Option (Va × Sto)) : FL := fun vs S => match vs with
  | [v, w] => f v w S
  | _ => none
theorem callM1 {K : KX} {r : List V → Hp → VK → Prop} {f : Va → Sto → Option (Va × Sto)} (h : ∀ ρ S H v x Q, RS K ρ S H → Rv K ρ H v x → Ans K Q ρ H (f v S) → r [x] H Q) : CallM K r (fL1 f) := fun ρ S H vs xs Q R rv a => by
  match vs, rv, a with
  | [v], rv, a =>
    obtain ⟨x, rfl, r1⟩ := one_of rv rfl
    exact h ρ S H v x Q R r1 a
  | [], _, a => exact a.elim
  | _ :: _ :: _, _, a => exact a.elim
theorem callM2 {K : KX} {r : List V → Hp → VK → Prop} {f : Va → Va → Sto → Option (Va × Sto)} (h : ∀ ρ S H v w x y Q, RS K ρ S H → Rv K ρ H v x → Rv K ρ H w y → Ans K Q ρ H (f v w S) → r [x, y] H Q) : CallM K r (fL2 f) := fun ρ S H vs xs Q R rv a => by
  match vs, rv, a with
  | [v, w], rv, a =>
    obtain ⟨x, y, rfl, r1, r2⟩ := two_of rv rfl
    exact h ρ S H v w x y Q R r1 r2 a
  | [], _, a => exact a.elim
  | [_], _, a => exact a.elim
  | _ :: _ :: _ :: _, _, a => exact a.elim
def orFL (f g : FL) : FL := fun vs S => match f vs S with
  | some p => some p
  | none => g vs S
theorem CallP.or {X : Cx} {v : Value} {f g : FL} (h : CallP X v f) (h' : CallP X v g) : CallP X v (orFL f g) := by
  obtain ⟨r, h1, h2⟩ := h
  obtain ⟨r', h1', h2'⟩ := h'
  refine ⟨fun xs H Q => r xs H Q ∨ r' xs H Q, fun pins s σ H xs us Q I rx q => ?_, fun ρ S H vs xs Q R rv a => ?_⟩
  · rcases q with q | q
    · exact h1 pins s σ H xs us Q I rx q
    · exact h1' pins s σ H xs us Q I rx q
  · unfold orFL at a
    cases e : f vs S with
    | some p =>
      rw [e] at a
      exact .inl (h2 ρ S H vs xs Q R rv (by rw [e]; exact a))
    | none =>
      rw [e] at a
      exact .inr (h2' ρ S H vs xs Q R rv a)
def lenQ : FL := fL1 fun v S => match seqOf S v with
  | some xs => some (.int xs.length, S)
  | none => none
def lenS : FL := fL1 fun v S => match v with
  | .str z => if z.length ≤ sizeLine then some (.int z.length, S) else none
  | _ => none
def fInt : FL := fL1 fun v S => match v with
  | .int i => some (.int i, S)
  | .bl k => some (.int (if k then 1 else 0), S)
  | _ => none
def fAbs : FL := fL1 fun v S => match v with
  | .int i => some (.int (if i < 0 then -i else i), S)
  | _ => none
def fMax2 : FL := fL2 fun v w S => match v, w with
  | .int i, .int j => some (.int (if j > i then j else i), S)
  | _, _ => none
def fMin2 : FL := fL2 fun v w S => match v, w with
  | .int i, .int j => some (.int (if j < i then j else i), S)
  | _, _ => none
def fSum : FL := fL1 fun v S => match (lstOf S v).bind intsOf with
  | some ns => some (.int ns.sum, S)
  | none => none
def maxL : List Int → Int
  | [] => 0
  | [n] => n
  | n :: m :: r => if maxL (m :: r) > n then maxL (m :: r) else n
def minL : List Int → Int
  | [] => 0
  | [n] => n
  | n :: m :: r => if minL (m :: r) < n then minL (m :: r) else n
theorem maxL_ge : ∀ {ns : List Int} {m : Int}, m ∈ ns → m ≤ maxL ns
  | [n], m, h => by rw [List.mem_singleton.mp h]; exact Int.le_refl _
  | n :: k :: r, m, h => by
    have ih : ∀ m ∈ k :: r, m ≤ maxL (k :: r) := fun m h => maxL_ge h
    unfold maxL
    rcases List.mem_cons.mp h with h | h
    · subst h; split <;> omega
    · have := ih m h; split <;> omega
theorem maxL_mem : ∀ {ns : List Int}, ns ≠ [] → maxL ns ∈ ns
  | [n], _ => by simp [maxL]
  | n :: k :: r, _ => by
    have ih : maxL (k :: r) ∈ k :: r := maxL_mem (by simp)
    unfold maxL
    split
    · exact List.mem_cons_of_mem _ ih
    · exact List.mem_cons_self ..
theorem minL_le : ∀ {ns : List Int} {m : Int}, m ∈ ns → minL ns ≤ m
  | [n], m, h => by rw [List.mem_singleton.mp h]; exact Int.le_refl _
  | n :: k :: r, m, h => by
    have ih : ∀ m ∈ k :: r, minL (k :: r) ≤ m := fun m h => minL_le h
    unfold minL
    rcases List.mem_cons.mp h with h | h
    · subst h; split <;> omega
    · have := ih m h; split <;> omega
theorem minL_mem : ∀ {ns : List Int}, ns ≠ [] → minL ns ∈ ns
  | [n], _ => by simp [minL]
  | n :: k :: r, _ => by
    have ih : minL (k :: r) ∈ k :: r := minL_mem (by simp)
    unfold minL
    split
    · exact List.mem_cons_of_mem _ ih
    · exact List.mem_cons_self ..
def fMaxL : FL := fL1 fun v S => match (lstOf S v).bind intsOf with
  | some (n :: ns) => some (.int (maxL (n :: ns)), S)
  | _ => none
def fMinL : FL := fL1 fun v S => match (lstOf S v).bind intsOf with
  | some (n :: ns) => some (.int (minL (n :: ns)), S)
  | _ => none
def fAll : FL := fL1 fun v S => match (lstOf S v).bind boolsOf with
  | some ns => some (.bl (ns.all id), S)
  | none => none
def fAny : FL := fL1 fun v S => match (lstOf S v).bind boolsOf with
  | some ns => some (.bl (ns.any id), S)
  | none => none
def fList : FL := fL1 fun v S => match seqOf S v with
  | some xs => mkL S xs
  | none => none
def tupL : FL := fL1 fun v S => match v with
  | .tup xs => some (.tup xs, S)
  | v => match lstOf S v with
    | some xs => some (.tup xs, S)
    | none => none
def kindV (S : Sto) : Va → Option String
  | .non => some "NoneType"
  | .bl _ => some "bool"
  | .int _ => some "int"
  | .str _ => some "str"
  | .ref n => match S[n]? with
    | some (.lst _) => some "list"
    | _ => none
  | .rol _ => some "list"
  | .tup _ => some "tuple"
  | _ => none
def fIsi : FL := fL2 fun v w S => match kindV S v, w with
  | some k, .ty T => match kitB k T with
    | some b => some (.bl b, S)
    | none => none
  | _, _ => none
section
variable {X : Cx}
theorem cLenQ : CallP X (.builtin "len") lenQ := by
  refine ⟨_, call_len_seq, callM1 fun ρ S H v x Q R r a => ?_⟩
  cases e : seqOf S v with
  | none => simp only [e] at a; exact a.elim
  | some xs =>
    simp only [e] at a
    obtain ⟨p, ws, rfl, h1, h2⟩ := seq_of R r e
    exact ⟨p, ws, rfl, h1, by rw [← h2.len]; exact a ρ H _ R.refl R rfl⟩
theorem cLenS : CallP X (.builtin "len") lenS := by
  refine ⟨_, call_len_str, callM1 fun ρ S H v x Q R r a => ?_⟩
  cases v with
  | str z =>
    cases r
    obtain ⟨hl, a⟩ := ans_if (p := z.length ≤ sizeLine) (o := some (.int z.length, S)) a
    exact ⟨z, rfl, hl, a ρ H _ R.refl R rfl⟩
  | _ => exact a.elim
def fLen : FL := orFL lenQ lenS
theorem cLen : CallP X (.builtin "len") fLen := cLenQ.or cLenS
theorem cInt : CallP X (.type "int") fInt := by
  refine ⟨_, call_int1, callM1 fun ρ S H v x Q R r a => ?_⟩
  cases v with
  | int i => cases r; exact .inl ⟨i, rfl, a ρ H _ R.refl R rfl⟩
  | bl i => cases r; exact .inr ⟨i, rfl, a ρ H _ R.refl R rfl⟩
  | _ => exact a.elim
theorem cAbs : CallP X (.builtin "abs") fAbs := by
  refine ⟨_, call_abs, callM1 fun ρ S H v x Q R r a => ?_⟩
  cases v with
  | int i => cases r; exact ⟨i, rfl, a ρ H _ R.refl R rfl⟩
  | _ => exact a.elim
theorem cMax2 (hc : X.calm = true) : CallP X (.builtin "max") fMax2 := by
  refine ⟨_, call_max2 hc, callM2 fun ρ S H v w x y Q R r r' a => ?_⟩
  cases v with
  | int i =>
    cases w with
    | int j => cases r; cases r'; exact ⟨i, j, rfl, a ρ H _ R.refl R rfl⟩
    | _ => exact a.elim
  | _ => exact a.elim
theorem cMin2 (hc : X.calm = true) : CallP X (.builtin "min") fMin2 := by
  refine ⟨_, call_min2 hc, callM2 fun ρ S H v w x y Q R r r' a => ?_⟩
  cases v with
  | int i =>
    cases w with
    | int j => cases r; cases r'; exact ⟨i, j, rfl, a ρ H _ R.refl R rfl⟩
    | _ => exact a.elim
  | _ => exact a.elim
theorem lints_of {K : KX} {ρ : List Addr} {S : Sto} {H : Hp} {v : Va} {x : V} {ns : List Int} (R : RS K ρ S H) (r : Rv K ρ H v x) (e : (lstOf S v).bind intsOf = some ns) : ∃ a, x = .ref a ∧ SqL K.K H a (ns.map V.int) := by
  cases q : lstOf S v with
  | none => rw [q] at e; cases e
  | some xs =>
    rw [q] at e
    obtain ⟨a, ws, rfl, h1, h2⟩ := lst_of R r q
    exact ⟨a, rfl, by rw [← ints_of h2 e]; exact h1⟩
theorem lbools_of {K : KX} {ρ : List Addr} {S : Sto} {H : Hp} {v : Va} {x : V} {ns : List Bool} (R : RS K ρ S H) (r : Rv K ρ H v x) (e : (lstOf S v).bind boolsOf = some ns) : ∃ a, x = .ref a ∧ SqL K.K H a (ns.map V.bl) := by
  cases q : lstOf S v with
  | none => rw [q] at e; cases e
  | some xs =>
    rw [q] at e
    obtain ⟨a, ws, rfl, h1, h2⟩ := lst_of R r q
    exact ⟨a, rfl, by rw [← bools_of h2 e]; exact h1⟩
theorem cSum (hc : X.calm = true) : CallP X (.builtin "sum") fSum := by
  refine ⟨_, cr_sum hc, callM1 fun ρ S H v x Q R r a => ?_⟩
  cases e : (lstOf S v).bind intsOf with
  | none => simp only [e] at a; exact a.elim
  | some ns =>
    simp only [e] at a
    obtain ⟨p, rfl, h⟩ := lints_of R r e
    exact ⟨p, ns, rfl, h, a ρ H _ R.refl R rfl⟩
theorem cMaxL (hc : X.calm = true) : CallP X (.builtin "max") fMaxL := by
  refine ⟨_, cr_max hc, callM1 fun ρ S H v x Q R r a => ?_⟩
  cases e : (lstOf S v).bind intsOf with
  | none => simp only [e] at a; exact a.elim
  | some ns =>
    cases ns with
    | nil => simp only [e] at a; exact a.elim
    | cons n ns =>
      simp only [e] at a
      obtain ⟨p, rfl, h⟩ := lints_of R r e
      refine ⟨p, n :: ns, rfl, h, by simp, fun m h1 h2 => ?_⟩
      have e1 := maxL_ge h1
      have e2 := h2 _ (maxL_mem (ns := n :: ns) (by simp))
      have e3 : m = maxL (n :: ns) := by omega
      rw [e3]
      exact a ρ H _ R.refl R rfl
theorem cMinL (hc : X.calm = true) : CallP X (.builtin "min") fMinL := by
  refine ⟨_, cr_min hc, callM1 fun ρ S H v x Q R r a => ?_⟩
  cases e : (lstOf S v).bind intsOf with
  | none => simp only [e] at a; exact a.elim
  | some ns =>
    cases ns with
    | nil => simp only [e] at a; exact a.elim
    | cons n ns =>
      simp only [e] at a
      obtain ⟨p, rfl, h⟩ := lints_of R r e
      refine ⟨p, n :: ns, rfl, h, by simp, fun m h1 h2 => ?_⟩
      have e1 := minL_le h1
      have e2 := h2 _ (minL_mem (ns := n :: ns) (by simp))
      have e3 : m = minL (n :: ns) := by omega
      rw [e3]
      exact a ρ H _ R.refl R rfl
def fMax : FL := orFL fMax2 fMaxL
def fMin : FL := orFL fMin2 fMinL
theorem cMax (hc : X.calm = true) : CallP X (.builtin "max") fMax := (cMax2 hc).or (cMaxL hc)
theorem cMin (hc : X.calm = true) : CallP X (.builtin "min") fMin := (cMin2 hc).or (cMinL hc)
theorem cAll (hc : X.calm = true) : CallP X (.builtin "all") fAll := by
  refine ⟨_, cr_all hc, callM1 fun ρ S H v x Q R r a => ?_⟩
  cases e : (lstOf S v).bind boolsOf with
  | none => simp only [e] at a; exact a.elim
  | some ns =>
    simp only [e] at a
    obtain ⟨p, rfl, h⟩ := lbools_of R r e
    exact ⟨p, ns, rfl, h, a ρ H _ R.refl R rfl⟩
theorem cAny (hc : X.calm = true) : CallP X (.builtin "any") fAny := by
  refine ⟨_, cr_any hc, callM1 fun ρ S H v x Q R r a => ?_⟩
  cases e : (lstOf S v).bind boolsOf with
  | none => simp only [e] at a; exact a.elim
  | some ns =>
    simp only [e] at a
    obtain ⟨p, rfl, h⟩ := lbools_of R r e
    exact ⟨p, ns, rfl, h, a ρ H _ R.refl R rfl⟩
theorem cList : CallP X (.type "list") fList := by
  refine ⟨_, call_list_of, callM1 fun ρ S H v x Q R r a => ?_⟩
  cases e : seqOf S v with
  | none => simp only [e] at a; exact a.elim
  | some xs =>
    simp only [e] at a
    obtain ⟨p, ws, rfl, h1, h2⟩ := seq_of R r e
    exact ⟨p, ws, rfl, h1, (mkL_ans R a h2).2⟩
theorem cTup : CallP X (.type "tuple") tupL := by
  refine ⟨_, call_tuple_of, callM1 fun ρ S H v x Q R r a => ?_⟩
  have lst : ∀ xs, lstOf S v = some xs → Ans (kxOf X) Q ρ H (some (.tup xs, S)) → ∃ p ys, [x] = [V.ref p] ∧ ((SqL X.K H p ys ∧ ∀ l, H l = none → Q (.ref l) (upd H l (.tup ys))) ∨ (SqT X.K H p ys ∧ Q (.ref p) H)) := fun xs e a => by
    obtain ⟨p, ws, rfl, h1, h2⟩ := lst_of R r e
    refine ⟨p, ws, rfl, .inl ⟨h1, fun l hl => ?_⟩⟩
    obtain ⟨E, R2⟩ := R.own (o := .tup ws) hl
    exact a ρ _ _ E R2 ⟨l, ws, rfl, SqT.of upd_same, h2.ext E⟩
  cases v with
  | tup xs =>
    obtain ⟨p, ws, rfl, h1, h2⟩ := r
    exact ⟨p, ws, rfl, .inr ⟨h1, a ρ H _ R.refl R ⟨p, ws, rfl, h1, h2⟩⟩⟩
  | ref n =>
    have a : Ans (kxOf X) Q ρ H (match lstOf S (.ref n) with
      | some xs => some (.tup xs, S)
      | none => none) := a
    cases e : lstOf S (.ref n) with
    | none => rw [e] at a; exact a.elim
    | some xs => rw [e] at a; exact lst xs e a
  | rol xs => exact lst xs rfl a
  | _ => exact a.elim
theorem tyx_of {K : KX} {ρ : List Addr} {S : Sto} {H : Hp} {v : Va} {x : V} {k : String} (R : RS K ρ S H) (r : Rv K ρ H v x) (e : kindV S v = some k) : TyX K.K H x (.type k) := by
  cases v with
  | non => cases r; cases e; exact .base .non
  | bl b => cases r; cases e; exact .base (.bl b)
  | int i => cases r; cases e; exact .base (.int i)
  | str z => cases r; cases e; exact .base (.str z)
  | adr a => cases e
  | ty a => cases e
  | exc _ _ _ _ => cases e
  | tup xs =>
    cases e
    obtain ⟨p, ws, rfl, h1, _⟩ := r
    rcases h1 with (h | ⟨o, h⟩) | ⟨o, its, n, h1, h2, _⟩
    · exact .base (.tup h)
    · exact .fTuple h
    · exact .kTuple h1 h2
  | rol xs =>
    cases e
    obtain ⟨p, ws, rfl, h1, _⟩ := r
    rcases h1 with ⟨o, h⟩ | ⟨o, its, n, h1, h2, _⟩
    · exact .base (.frz h)
    · exact .kList h1 h2
  | ref n =>
    obtain ⟨p, h1, rfl⟩ := r
    have e : (match S[n]? with
      | some (.lst _) => some "list"
      | _ => none) = some k := e
    cases q : S[n]? with
    | none => rw [q] at e; cases e
    | some o =>
      rw [q] at e
      cases o with
      | setT ks => cases e
      | raw o => cases e
      | tbl _ => cases e
      | dct _ => cases e
      | lst xs =>
        cases e
        obtain ⟨_, ws, h2, _⟩ := R.at_ n p _ h1 q
        exact .base (.lst h2)
theorem cIsi : CallP X (.builtin "isinstance") fIsi := by
  refine ⟨_, call_isi, callM2 fun ρ S H v w x y Q R r r' a => ?_⟩
  cases e : kindV S v with
  | none => simp only [e] at a; exact a.elim
  | some k =>
    simp only [e] at a
    cases w with
    | ty T =>
      cases r'
      simp only at a
      cases e2 : kitB k T with
      | none => rw [e2] at a; exact a.elim
      | some b =>
        rw [e2] at a
        exact ⟨x, .ty T, .type k, .type T, b, rfl, .ty T, tyx_of R r e, kit_ty e2, a ρ H _ R.refl R rfl⟩
    | _ => exact a.elim
end
end PM

namespace PM
open PySem PySem.Spec PyProof.Rows L2 Q2
/-! ### what is walked -/
def iAny (K : PySem.W.Frag) (tl : TE) : TI := fun σ H R => tl σ H fun x H1 => ∃ a, x = .ref a ∧ (((∃ xs, SqL K H1 a xs) ∧ R (Itl K a) H1) ∨ ((∃ xs, SqT K H1 a xs) ∧ R (Itt K a) H1))
theorem pi_any {X : Cx} {tg l : Expr} {tl : TE} (hl : PE X l tl) : PI X tg l (iAny X.K tl) := by
  refine ⟨fun pins s σ H R I h => ?_⟩
  refine thn (hl.run pins s σ H _ I h) fun v s1 ⟨x, H1, I1, r1, q1⟩ => ?_
  obtain ⟨a, rfl, q⟩ := q1
  cases r1
  rcases q with ⟨⟨xs, hq⟩, q⟩ | ⟨⟨xs, hq⟩, q⟩
  · obtain ⟨its, rv, p, hz⟩ := I1.list hq
    refine wpAny_pyIter_list p.isList ?_
    refine ⟨s1.heap.objs.size, [s1.heap.objs.size], _, _, H1, rfl, I1.kept (t' := s1.toks) fun b o e => Heap.get?_push_of_some _ e, turn_list a _, ⟨_, Heap.get?_push_size _ rfl, rfl, rfl⟩, fun b hb => ?_, q⟩
    have e : b = s1.heap.objs.size := by simpa using hb
    subst e
    exact I1.fpOk (Nat.le_refl _) (I1.hok.fresh (Nat.le_refl _))
  · obtain ⟨its, rv, p, hz⟩ := I1.tuple hq
    refine wpAny_pyIter_tuple (show s1.heap.IsTuple a its.toArray from p) ?_
    refine ⟨s1.heap.objs.size, [s1.heap.objs.size], _, _, H1, rfl, I1.kept (t' := s1.toks) fun b o e => Heap.get?_push_of_some _ e, turn_tuple a _, ⟨_, Heap.get?_push_size _ rfl, rfl, rfl⟩, fun b hb => ?_, q⟩
    have e : b = s1.heap.objs.size := by simpa using hb
    subst e
    exact I1.fpOk (Nat.le_refl _) (I1.hok.fresh (Nat.le_refl _))
section
variable {K : KX} {ρ : List Addr} {S : Sto} {H : Hp}
theorem get_none {xs : List Va} {ws : List V} (h : Rvs K ρ H xs ws) {i : Nat} (e : xs[i]? = none) : ws.length ≤ i := by
  rw [← h.len]
  exact List.getElem?_eq_none_iff.mp e
theorem it_list {n : Nat} {a : Addr} (ha : ρ[n]? = some a) : ItOk K ρ H (.ref n) (Itl K.K a) := fun ρ' S' H' E R i => by
  have ha' := E.get ha
  cases e : S'[n]? with
  | none => simp only [ItV.get, e]
  | some o =>
    cases o with
    | raw o => simp only [ItV.get, e]
    | tbl _ => simp only [ItV.get, e]
    | dct _ => simp only [ItV.get, e]
    | setT o => simp only [ItV.get, e]
    | lst xs =>
      obtain ⟨_, ws, h1, h2⟩ := R.at_ n a _ ha' e
      cases ex : xs[i]? with
      | none => simp only [ItV.get, e, ex]; exact ⟨ws, SqL.of h1, get_none h2 ex⟩
      | some x =>
        obtain ⟨w, h3, h4⟩ := h2.get ex
        simp only [ItV.get, e, ex]
        refine ⟨⟨ws, w, SqL.of h1, h3⟩, fun y H'' hy => ?_⟩
        obtain ⟨rfl, hy⟩ := hy
        cases h3.symm.trans (hy ws (SqL.of h1))
        exact ⟨R.refl, R, h4⟩
theorem it_tup {xs : List Va} {a : Addr} {ws : List V} (ha : SqT K.K H a ws) (hx : Rvs K ρ H xs ws) : ItOk K ρ H (.itm xs) (Itt K.K a) := fun ρ' S' H' E R i => by
  have ha' := E.sqt ha
  have hx' := hx.ext E
  cases ex : xs[i]? with
  | none => simp only [ItV.get, ex]; exact ⟨ws, ha', get_none hx' ex⟩
  | some x =>
    obtain ⟨w, h3, h4⟩ := hx'.get ex
    simp only [ItV.get, ex]
    refine ⟨⟨ws, w, ha', h3⟩, fun y H'' hy => ?_⟩
    obtain ⟨rfl, hy⟩ := hy
    cases h3.symm.trans (hy ws ha')
    exact ⟨R.refl, R, h4⟩
theorem it_rol {xs : List Va} {a : Addr} {ws : List V} (ha : FzL K.K H a ws) (hx : Rvs K ρ H xs ws) : ItOk K ρ H (.itm xs) (Itl K.K a) := fun ρ' S' H' E R i => by
  have ha' := (E.fzl ha).sq
  have hx' := hx.ext E
  cases ex : xs[i]? with
  | none => simp only [ItV.get, ex]; exact ⟨ws, ha', get_none hx' ex⟩
  | some x =>
    obtain ⟨w, h3, h4⟩ := hx'.get ex
    simp only [ItV.get, ex]
    refine ⟨⟨ws, w, ha', h3⟩, fun y H'' hy => ?_⟩
    obtain ⟨rfl, hy⟩ := hy
    cases h3.symm.trans (hy ws ha')
    exact ⟨R.refl, R, h4⟩
theorem it_rng {lo c : Int} {n : Nat} : ItOk K ρ H (.rng lo c n) (Itc lo c n) := fun ρ' S' H' E R i => by
  by_cases h : i < n
  · simp only [ItV.get, if_pos h]
    refine ⟨h, fun y H'' hy => ?_⟩
    obtain ⟨rfl, rfl⟩ := hy
    exact ⟨R.refl, R, rfl⟩
  · simp only [ItV.get, if_neg h]
    exact Nat.le_of_not_lt h
theorem it_rng1 {lo : Int} {n : Nat} : ItOk K ρ H (.rng lo 1 n) (Itr lo n) := fun ρ' S' H' E R i => by
  by_cases h : i < n
  · simp only [ItV.get, if_pos h]
    refine ⟨h, fun y H'' hy => ?_⟩
    obtain ⟨rfl, rfl⟩ := hy
    exact ⟨R.refl, R, by show V.int (lo + (i : Int)) = V.int (lo + (i : Nat) * 1); rw [Int.mul_one]⟩
  · simp only [ItV.get, if_neg h]
    exact Nat.le_of_not_lt h
/-- a new pair -/
theorem pair_new {i : Nat} {x : Va} {w : V} (R : RS K ρ S H) (hx : Rv K ρ H x w) {T : Addr} (hT : H T = none) : Ext ρ ρ H (upd H T (.tup [.int (i : Nat), w])) ∧ RS K ρ S (upd H T (.tup [.int (i : Nat), w])) ∧ Rv K ρ (upd H T (.tup [.int (i : Nat), w])) (pairE i x) (.ref T) := by
  obtain ⟨E, R2⟩ := R.own (o := .tup [.int (i : Nat), w]) hT
  exact ⟨E, R2, T, _, rfl, SqT.of upd_same, Rvs.cons (x := .int (i : Nat)) rfl (Rvs.cons (hx.ext E) Rvs.nil)⟩
theorem it_enm {n : Nat} {a : Addr} (ha : ρ[n]? = some a) : ItOk K ρ H (.enm n) (Ite K.K a) := fun ρ' S' H' E R i => by
  have ha' := E.get ha
  cases e : S'[n]? with
  | none => simp only [ItV.get, e]
  | some o =>
    cases o with
    | raw o => simp only [ItV.get, e]
    | tbl _ => simp only [ItV.get, e]
    | dct _ => simp only [ItV.get, e]
    | setT o => simp only [ItV.get, e]
    | lst xs =>
      obtain ⟨_, ws, h1, h2⟩ := R.at_ n a _ ha' e
      cases ex : xs[i]? with
      | none => simp only [ItV.get, e, ex, Option.map_none]; exact ⟨ws, SqL.of h1, get_none h2 ex⟩
      | some x =>
        obtain ⟨w, h3, h4⟩ := h2.get ex
        simp only [ItV.get, e, ex, Option.map_some]
        refine ⟨⟨ws, w, SqL.of h1, h3⟩, fun y H'' hy => ?_⟩
        obtain ⟨T, z, rfl, hT, rfl, hy⟩ := hy
        cases h3.symm.trans (hy ws (SqL.of h1))
        exact pair_new R h4 hT
theorem it_enmI {xs : List Va} {a : Addr} {ws : List V} (ha : SqT K.K H a ws) (hx : Rvs K ρ H xs ws) : ItOk K ρ H (.enmI xs) (ItET K.K a) := fun ρ' S' H' E R i => by
  have ha' := E.sqt ha
  have hx' := hx.ext E
  cases ex : xs[i]? with
  | none => simp only [ItV.get, ex, Option.map_none]; exact ⟨ws, ha', get_none hx' ex⟩
  | some x =>
    obtain ⟨w, h3, h4⟩ := hx'.get ex
    simp only [ItV.get, ex, Option.map_some]
    refine ⟨⟨ws, w, ha', h3⟩, fun y H'' hy => ?_⟩
    obtain ⟨T, z, rfl, hT, rfl, hy⟩ := hy
    cases h3.symm.trans (hy ws ha')
    exact pair_new R h4 hT
theorem it_enmR {xs : List Va} {a : Addr} {ws : List V} (ha : FzL K.K H a ws) (hx : Rvs K ρ H xs ws) : ItOk K ρ H (.enmI xs) (Ite K.K a) := fun ρ' S' H' E R i => by
  have ha' := (E.fzl ha).sq
  have hx' := hx.ext E
  cases ex : xs[i]? with
  | none => simp only [ItV.get, ex, Option.map_none]; exact ⟨ws, ha', get_none hx' ex⟩
  | some x =>
    obtain ⟨w, h3, h4⟩ := hx'.get ex
    simp only [ItV.get, ex, Option.map_some]
    refine ⟨⟨ws, w, ha', h3⟩, fun y H'' hy => ?_⟩
    obtain ⟨T, z, rfl, hT, rfl, hy⟩ := hy
    cases h3.symm.trans (hy ws ha')
    exact pair_new R h4 hT
end
/-- a list or a tuple is walked -/
def mWalk (m : ME) : MI := fun Γ S => (m Γ S).bind fun v S1 => match v with
  | .ref n => match S1[n]? with
    | some (.lst _) => .ok (.ref n) S1
    | _ => .bad
  | .tup xs => .ok (.itm xs) S1
  | .rol xs => .ok (.itm xs) S1
  | _ => .bad
def mEnum (t : MA) : MI := fun Γ S => (t Γ S).bind fun vs S1 => match vs with
  | [.ref n] => match S1[n]? with
    | some (.lst _) => .ok (.enm n) S1
    | _ => .bad
  | [.tup xs] => .ok (.enmI xs) S1
  | [.rol xs] => .ok (.enmI xs) S1
  | _ => .bad
@[irreducible] def rngOk (i j : Int) : Bool := decide (-(2 ^ 62) ≤ i ∧ i < 2 ^ 62 ∧ -(2 ^ 62) ≤ j ∧ j < 2 ^ 62)
def mRng1 (t : MA) : MI := fun Γ S => (t Γ S).bind fun vs S1 => match vs with
  | [.int j] => if rngOk 0 j = true then .ok (.rng 0 1 j.toNat) S1 else .bad
  | _ => .bad
def mRng2 (t : MA) : MI := fun Γ S => (t Γ S).bind fun vs S1 => match vs with
  | [.int i, .int j] => if rngOk i j = true then .ok (.rng i 1 (j - i).toNat) S1 else .bad
  | _ => .bad
def mRev1 (m : ME) : MI := fun Γ S => (m Γ S).bind fun v S1 => match v with
  | .int j => if rngOk 0 j = true then .ok (.rng (j.toNat - 1 : Int) (-1) j.toNat) S1 else .bad
  | _ => .bad
section
variable {X : Cx} {W : XW} {tg e : Expr} {m : ME} {t : MA} {p pos : Pos}
theorem pmi_any (h : PM X W e m) : PMI X W tg e (mWalk m) := by
  refine pi_imp (pi_any h) fun σ H R' ⟨ρ, Γ, S, R, G, q⟩ => ?_
  refine ⟨ρ, Γ, S, R, G, q.bind fun v S1 ρ1 H1 x E1 R1 rx q1 => ?_⟩
  cases v with
  | ref n =>
    obtain ⟨a, ha, rfl⟩ := rx
    refine ⟨a, rfl, ?_⟩
    cases e : S1[n]? with
    | none => simp only [e] at q1; exact q1.elim
    | some o =>
      cases o with
      | lst xs =>
        simp only [e] at q1
        obtain ⟨_, ws, h1, _⟩ := R1.at_ n a _ ha e
        exact .inl ⟨⟨ws, SqL.of h1⟩, q1 ρ1 H1 _ R1.refl R1 (it_list ha)⟩
      | setT o => simp only [e] at q1; exact q1.elim
      | raw o => simp only [e] at q1; exact q1.elim
      | tbl _ => simp only [e] at q1; exact q1.elim
      | dct _ => simp only [e] at q1; exact q1.elim
  | tup xs =>
    obtain ⟨a, ws, rfl, h1, h2⟩ := rx
    exact ⟨a, rfl, .inr ⟨⟨ws, h1⟩, q1 ρ1 H1 _ R1.refl R1 (it_tup h1 h2)⟩⟩
  | rol xs =>
    obtain ⟨a, ws, rfl, h1, h2⟩ := rx
    exact ⟨a, rfl, .inl ⟨⟨ws, h1.sq⟩, q1 ρ1 H1 _ R1.refl R1 (it_rol h1 h2)⟩⟩
  | _ => exact q1.elim
theorem pmi_enum {elts : List Expr} {kk : Nat} {tpos : Pos} (hg : Gl X "enumerate") (hm : X.mg "enumerate" = none) (h : PMA X W [e] t) (hs : starEach [e] X.env = [(false, eval e X.env)] := by rfl) :
    PMI X W (.Tuple elts kk tpos) (.Call (.Name "enumerate" p) [e] [] pos) (mEnum t) := by
  refine pi_imp (pi_enumA hg hm h hs) fun σ H R' ⟨ρ, Γ, S, R, G, q⟩ => ?_
  refine ⟨ρ, Γ, S, R, G, q.bind fun vs S1 ρ1 H1 xs E1 R1 rx q1 => ?_⟩
  cases vs with
  | nil => exact q1.elim
  | cons v vs =>
    cases vs with
    | cons u us => exact (by cases v <;> exact q1.elim)
    | nil =>
      obtain ⟨x, rfl, r1⟩ := one_of rx rfl
      cases v with
      | ref n =>
        obtain ⟨a, ha, rfl⟩ := r1
        cases e : S1[n]? with
        | none => simp only [e] at q1; exact q1.elim
        | some o =>
          cases o with
          | lst xs =>
            simp only [e] at q1
            obtain ⟨_, ws, h1, _⟩ := R1.at_ n a _ ha e
            exact ⟨a, ws, _, rfl, .inl ⟨SqL.of h1, rfl⟩, q1 ρ1 H1 _ R1.refl R1 (it_enm ha)⟩
          | setT o => simp only [e] at q1; exact q1.elim
          | raw o => simp only [e] at q1; exact q1.elim
          | tbl _ => simp only [e] at q1; exact q1.elim
          | dct _ => simp only [e] at q1; exact q1.elim
      | tup xs =>
        obtain ⟨a, ws, rfl, h1, h2⟩ := r1
        exact ⟨a, ws, _, rfl, .inr ⟨h1, rfl⟩, q1 ρ1 H1 _ R1.refl R1 (it_enmI h1 h2)⟩
      | rol xs =>
        obtain ⟨a, ws, rfl, h1, h2⟩ := r1
        exact ⟨a, ws, _, rfl, .inl ⟨h1.sq, rfl⟩, q1 ρ1 H1 _ R1.refl R1 (it_enmR h1 h2)⟩
      | _ => exact q1.elim
theorem rng_of {i j : Int} (h : rngOk i j = true) : -(2 ^ 62) ≤ i ∧ i < 2 ^ 62 ∧ -(2 ^ 62) ≤ j ∧ j < 2 ^ 62 := by unfold rngOk at h; exact of_decide_eq_true h
theorem pmi_range1 (hg : Gl X "range") (hm : X.mg "range" = none) (h : PMA X W [e] t) (hs : starEach [e] X.env = [(false, eval e X.env)] := by rfl) : PMI X W tg (.Call (.Name "range" p) [e] [] pos) (mRng1 t) := by
  refine pi_imp (pi_range1 hg hm h hs) fun σ H R' ⟨ρ, Γ, S, R, G, q⟩ => ?_
  refine ⟨ρ, Γ, S, R, G, q.bind fun vs S1 ρ1 H1 xs E1 R1 rx q1 => ?_⟩
  cases vs with
  | nil => exact q1.elim
  | cons v vs =>
    cases vs with
    | cons u us => exact (by cases v <;> exact q1.elim)
    | nil =>
      obtain ⟨x, rfl, r1⟩ := one_of rx rfl
      cases v with
      | int j =>
        cases r1
        by_cases c : rngOk 0 j = true
        · simp only [if_pos c] at q1
          have := rng_of c
          exact ⟨j, rfl, this.2.2.1, this.2.2.2, q1 ρ1 H1 _ R1.refl R1 it_rng1⟩
        · simp only [if_neg c] at q1
          exact q1.elim
      | _ => exact q1.elim
theorem pmi_range2 {e2 : Expr} (hg : Gl X "range") (hm : X.mg "range" = none) (h : PMA X W [e, e2] t) (hs : starEach [e, e2] X.env = [(false, eval e X.env), (false, eval e2 X.env)] := by rfl) (hs2 : starEach [e2] X.env = [(false, eval e2 X.env)] := by rfl) : PMI X W tg (.Call (.Name "range" p) [e, e2] [] pos) (mRng2 t) := by
  refine pi_imp (pi_range2 hg hm h hs hs2) fun σ H R' ⟨ρ, Γ, S, R, G, q⟩ => ?_
  refine ⟨ρ, Γ, S, R, G, q.bind fun vs S1 ρ1 H1 xs E1 R1 rx q1 => ?_⟩
  have bad : ∀ {r : Res ItV}, Aft (kxOf X) W σ (ItOk (kxOf X)) R' ρ1 H1 r → r = .bad → False := fun h e => by rw [e] at h; exact h
  match vs, rx, q1 with
  | [.int i, .int j], rx, q1 =>
    obtain ⟨x, y, rfl, r1, r2⟩ := two_of rx rfl
    cases r1
    cases r2
    by_cases c : rngOk i j = true
    · simp only [if_pos c] at q1
      exact ⟨i, j, rfl, rng_of c, q1 ρ1 H1 _ R1.refl R1 it_rng1⟩
    · simp only [if_neg c] at q1
      exact q1.elim
  | [], _, q1 => exact q1.elim
  | [v], _, q1 => exact (bad q1 (by cases v <;> rfl)).elim
  | v :: w :: u :: r, _, q1 => exact (bad q1 (by cases v <;> first | rfl | (cases w <;> rfl))).elim
  | [.non, w], _, q1 => exact q1.elim
  | [.bl _, w], _, q1 => exact q1.elim
  | [.str _, w], _, q1 => exact q1.elim
  | [.tup _, w], _, q1 => exact q1.elim
  | [.rol _, w], _, q1 => exact q1.elim
  | [.ref _, w], _, q1 => exact q1.elim
  | [.adr _, w], _, q1 => exact q1.elim
  | [.exc _ _ _ _, w], _, q1 => exact q1.elim
  | [.ty _, w], _, q1 => exact q1.elim
  | [.int i, .non], _, q1 => exact q1.elim
  | [.int i, .bl _], _, q1 => exact q1.elim
  | [.int i, .str _], _, q1 => exact q1.elim
  | [.int i, .tup _], _, q1 => exact q1.elim
  | [.int i, .rol _], _, q1 => exact q1.elim
  | [.int i, .ref _], _, q1 => exact q1.elim
  | [.int i, .adr _], _, q1 => exact q1.elim
  | [.int i, .exc _ _ _ _], _, q1 => exact q1.elim
  | [.int i, .ty _], _, q1 => exact q1.elim
theorem pmi_rev1 {p2 pos2 : Pos} (hg : Gl X "reversed") (hm : X.mg "reversed" = none) (hg2 : Gl X "range") (hm2 : X.mg "range" = none) (h : PM X W e m) (na : starEach [e] X.env = (false, eval e X.env) :: starEach [] X.env := by rfl) (hs : starEach [Expr.Call (.Name "range" p2) [e] [] pos2] X.env = (false, eval (Expr.Call (.Name "range" p2) [e] [] pos2) X.env) :: starEach [] X.env := by rfl) :
    PMI X W tg (.Call (.Name "reversed" p) [.Call (.Name "range" p2) [e] [] pos2] [] pos) (mRev1 m) := by
  refine pi_imp (pi_revR hg hm (prg_1 hg2 hm2 h na) hs) fun σ H R' ⟨ρ, Γ, S, R, G, q⟩ => ?_
  refine ⟨ρ, Γ, S, R, G, q.bind fun v S1 ρ1 H1 x E1 R1 rx q1 => ?_⟩
  cases v with
  | int j =>
    cases rx
    by_cases c : rngOk 0 j = true
    · simp only [if_pos c] at q1
      have r := rng_of c
      refine ⟨j, rfl, r.1, r.2.1, r.2.2.1, r.2.2.2, ?_⟩
      have e1 : (0 : Int) + (((j - 0).toNat : Nat) : Int) - 1 = (j.toNat : Int) - 1 := by simp
      have e2 : (j - 0).toNat = j.toNat := by simp
      rw [e1, e2]
      exact q1 ρ1 H1 _ R1.refl R1 it_rng
    · simp only [if_neg c] at q1
      exact q1.elim
  | _ => exact q1.elim
/-! ### slices -/
def PMO (X : Cx) (W : XW) (e : Option Expr) (m : Option ME) : Prop := match e, m with
  | none, none => True
  | some e, some m => PM X W e m
  | _, _ => False
def mOpt (m : Option ME) : En → Sto → Res (Option Int) := fun Γ S => match m with
  | none => .ok none S
  | some m => (m Γ S).bind fun v S1 => match v with
    | .int i => .ok (some i) S1
    | _ => .bad
abbrev FS := Va → Option Int → Option Int → Sto → Option (Va × Sto)
def SlP (X : Cx) (f : FS) : Prop := ∃ r, SlR X r ∧ ∀ ρ S H v x lo hi Q, RS (kxOf X) ρ S H → Rv (kxOf X) ρ H v x → Ans (kxOf X) Q ρ H (f v lo hi S) → r x lo hi H Q
def mSl (f : FS) (a : ME) (lo hi : Option ME) : ME := fun Γ S => (a Γ S).bind fun v S1 => (mOpt lo Γ S1).bind fun l S2 => (mOpt hi Γ S2).bind fun u S3 => lift (f v l u S3)
theorem pm_slice {f : FS} {a : Expr} {ma : ME} {lo hi : Option Expr} {ml mh : Option ME} {p2 : Pos} (hf : SlP X f) (ha : PM X W a ma) (hl : PMO X W lo ml) (hh : PMO X W hi mh) : PM X W (.Subscript a (.Slice lo hi none p2) pos) (mSl f ma ml mh) := by
  obtain ⟨r, hr, hf⟩ := hf
  have po : ∀ (e : Option Expr) (m : Option ME), PMO X W e m → ∃ t : TO, PO X e t ∧ ∀ (σ : L2.St) (H : Hp) (Q : Option Int → Hp → Prop), (∃ ρ Γ S, RS (kxOf X) ρ S H ∧ RE (kxOf X) ρ H Γ σ ∧ Aft (kxOf X) W σ (fun _ _ (a b : Option Int) => b = a) Q ρ H (mOpt m Γ S)) → t σ H Q := fun e m h => by
    cases e with
    | none =>
      cases m with
      | none => exact ⟨_, po_none, fun σ H Q ⟨ρ, Γ, S, R, G, q⟩ => q ρ H none R.refl R rfl⟩
      | some m => exact h.elim
    | some e =>
      cases m with
      | none => exact h.elim
      | some m =>
        refine ⟨_, po_some (show PE X e _ from h), fun σ H Q ⟨ρ, Γ, S, R, G, q⟩ => ?_⟩
        refine ⟨ρ, Γ, S, R, G, (show Aft _ _ _ _ Q ρ H ((m Γ S).bind _) from q).bind fun v S1 ρ1 H1 x E1 R1 rx q1 => ?_⟩
        cases v with
        | int i => cases rx; exact ⟨i, rfl, q1 ρ1 H1 _ R1.refl R1 rfl⟩
        | _ => exact q1.elim
  obtain ⟨tl, hl1, hl2⟩ := po lo ml hl
  obtain ⟨th, hh1, hh2⟩ := po hi mh hh
  refine pe_imp (pe_slice hr ha hl1 hh1) fun σ H Q ⟨ρ, Γ, S, R, G, q⟩ => ?_
  refine ⟨ρ, Γ, S, R, G, q.bind fun v S1 ρ1 H1 x E1 R1 rx q1 => ?_⟩
  refine hl2 σ H1 _ ⟨ρ1, Γ, S1, R1, G.ext E1, q1.bind fun l S2 ρ2 H2 l' E2 R2 rl q2 => ?_⟩
  subst rl
  refine hh2 σ H2 _ ⟨ρ2, Γ, S2, R2, (G.ext E1).ext E2, q2.bind fun u S3 ρ3 H3 u' E3 R3 ru q3 => ?_⟩
  subst ru
  exact hf ρ3 S3 H3 v x l' u' Q R3 ((rx.ext E2).ext E3) q3.ans
def cutA (xs : List Va) (lo hi : Option Int) : List Va := (xs.drop (HT.sIx xs.length 0 lo)).take (HT.sIx xs.length xs.length hi - HT.sIx xs.length 0 lo)
theorem Rvs.cut {K : KX} {ρ : List Addr} {H : Hp} {xs : List Va} {ws : List V} (h : Rvs K ρ H xs ws) (lo hi : Option Int) : Rvs K ρ H (cutA xs lo hi) (cutV ws lo hi) := by
  unfold cutA cutV
  rw [← h.len]
  exact (h.drop _).take _
def slL : FS := fun v lo hi S => match lstOf S v with
  | some xs => mkL S (cutA xs lo hi)
  | none => none
def slT : FS := fun v lo hi S => match v with
  | .tup xs => if HT.sIx xs.length 0 lo = 0 ∧ HT.sIx xs.length xs.length hi = xs.length then none else some (.tup (cutA xs lo hi), S)
  | _ => none
def slS : FS := fun v lo hi S => match v with
  | .str z => if z.length ≤ sizeLine then some (.str (cutS z lo hi), S) else none
  | _ => none
def fSl : FS := fun v lo hi S => match slL v lo hi S with
  | some p => some p
  | none => match slT v lo hi S with
    | some p => some p
    | none => slS v lo hi S
theorem sSl : SlP X fSl := by
  refine ⟨fun x lo hi H Q => rSlL X.K x lo hi H Q ∨ rSlT X.K x lo hi H Q ∨ rSlS x lo hi H Q, ?_, fun ρ S H v x lo hi Q R rv a => ?_⟩
  · intro pins s σ H x v vl vu lo hi sl Q I rx hs pl pu h
    rcases h with h | h | h
    · exact sl_list pins s σ H x v vl vu lo hi sl Q I rx hs pl pu h
    · exact sl_tup pins s σ H x v vl vu lo hi sl Q I rx hs pl pu h
    · exact sl_str pins s σ H x v vl vu lo hi sl Q I rx hs pl pu h
  · unfold fSl at a
    cases e1 : slL v lo hi S with
    | some p =>
      rw [e1] at a
      have a : Ans (kxOf X) Q ρ H (slL v lo hi S) := by rw [e1]; exact a
      unfold slL at a
      cases e : lstOf S v with
      | none => rw [e] at a; exact a.elim
      | some xs =>
        rw [e] at a
        obtain ⟨p, ws, rfl, h1, h2⟩ := lst_of R rv e
        exact .inl ⟨p, ws, rfl, h1, (mkL_ans R a (h2.cut lo hi)).2⟩
    | none =>
      rw [e1] at a
      simp only at a
      cases e2 : slT v lo hi S with
      | some p =>
        rw [e2] at a
        have a : Ans (kxOf X) Q ρ H (slT v lo hi S) := by rw [e2]; exact a
        cases v with
        | tup xs =>
          obtain ⟨b, ws, rfl, h1, h2⟩ := rv
          unfold slT at a
          simp only at a
          by_cases c : HT.sIx xs.length 0 lo = 0 ∧ HT.sIx xs.length xs.length hi = xs.length
          · rw [if_pos c] at a; exact a.elim
          · rw [if_neg c] at a
            refine .inr (.inl ⟨b, ws, rfl, h1, by rw [← h2.len]; exact c, fun q hq => ?_⟩)
            obtain ⟨E, R2⟩ := R.own (o := .tup (cutV ws lo hi)) hq
            exact a ρ _ _ E R2 ⟨q, _, rfl, SqT.of upd_same, (h2.cut lo hi).ext E⟩
        | _ => exact a.elim
      | none =>
        rw [e2] at a
        simp only at a
        cases v with
        | str z =>
          cases rv
          obtain ⟨hl, a⟩ := ans_if (p := z.length ≤ sizeLine) (o := some (Va.str (cutS z lo hi), S)) a
          exact .inr (.inr ⟨z, rfl, hl, a ρ H _ R.refl R rfl⟩)
        | _ => exact a.elim
/-! ### xs[i] = e -/
def gSubM (o i : ME) : MG := fun v Γ S => (o Γ S).bind fun ov S1 => (i Γ S1).bind fun iv S2 => match ov, iv with
  | .ref n, .int k => match S2[n]? with
    | some (.lst xs) => match ixN xs.length k with
      | some j => .ok Γ (S2.set n (.lst (xs.set j v)))
      | none => .bad
    | _ => .bad
  | _, _ => .bad
theorem pmg_sub {o i : Expr} {mo mi : ME} (ho : PM X W o mo) (hi : PM X W i mi)
    (ha : ∀ v, assign (.Subscript o i pos) X.env v = (do
      let ov ← holding [v] (eval o X.env)
      let iv ← holding [v, ov] (eval i X.env)
      standAt pos
      holding [v, ov, iv] (setItem ov iv v)
      release [v, ov, iv] []) := by intro _; rfl) : PMG X W [] (.Subscript o i pos) (gSubM mo mi) := by
  refine pg_imp (pg_sub ho hi set_list ha) fun w σ H Q ⟨ρ, Γ, S, v, R, G, r, q⟩ => ?_
  refine ⟨ρ, Γ, S, R, G, q.bind fun ov S1 ρ1 H1 x E1 R1 rx q1 => ?_⟩
  refine ⟨ρ1, Γ, S1, R1, G.ext E1, q1.bind fun iv S2 ρ2 H2 y E2 R2 ry q2 => ?_⟩
  cases ov with
  | ref n =>
    cases iv with
    | int k =>
      obtain ⟨a, ha, rfl⟩ := rx.ext E2
      cases ry
      cases e : S2[n]? with
      | none => simp only [e] at q2; exact q2.elim
      | some ob =>
        cases ob with
        | setT _ => simp only [e] at q2; exact q2.elim
        | raw _ => simp only [e] at q2; exact q2.elim
        | tbl _ => simp only [e] at q2; exact q2.elim
        | dct _ => simp only [e] at q2; exact q2.elim
        | lst xs =>
          simp only [e] at q2
          obtain ⟨hl, ws, h1, h2⟩ := R2.at_ n a _ ha e
          cases ej : ixN xs.length k with
          | none => simp only [ej] at q2; exact q2.elim
          | some j =>
            simp only [ej] at q2
            refine ⟨a, ws, k, j, rfl, rfl, h1, by rw [← h2.len]; exact ej, ?_⟩
            obtain ⟨E3, R3⟩ := R2.put ha e (by rw [List.length_set]; exact hl) (h2.set j ((r.ext E1).ext E2))
            exact q2 ρ2 _ σ E3 R3 ⟨((G.ext E1).ext E2).ext E3, Agr.refl _ _⟩
    | _ => exact q2.elim
  | _ => exact q2.elim
/-! ### xs.append(e), xs.extend(ys), xs.pop() -/
def mApp (o : ME) (t : MA) : ME := fun Γ S => (o Γ S).bind fun ov S1 => match ov with
  | .ref n => match S1[n]? with
    | some (.lst _) => (t Γ S1).bind fun vs S2 => match vs, S2[n]? with
      | [v], some (.lst xs) => if xs.length < sizeLine then .ok .non (S2.set n (.lst (xs ++ [v]))) else .bad
      | _, _ => .bad
    | _ => .bad
  | _ => .bad
theorem pm_append {o : Expr} {es : List Expr} {mo : ME} {apos cpos : Pos} (ho : PM X W o mo) (ht : PMA X W (e :: es) t)
    (hbase : attributeBase o "append" X.env (eval o X.env) = eval o X.env := by rfl)
    (hfew : ((backTo cpos (starEach (e :: es) X.env)).all (fun x => !x.1) && (backToKw cpos (keywordEach [] X.env)).all (fun x => x.1.isSome)
      && decide ((e :: es).length + ([] : List Keyword).length + (if ([] : List Keyword).isEmpty then 0 else 1) < 30)) = true := by rfl)
    (hline : (apos.endLine == cpos.line) = true := by rfl) (hs : starEach (e :: es) X.env = (false, eval e X.env) :: starEach es X.env := by rfl) (hplain : (backTo cpos (starEach es X.env)).any (·.1) = false := by rfl) :
    PM X W (.Call (.Attribute o "append" apos) (e :: es) [] cpos) (mApp mo t) := by
  refine pe_imp (pe_bm PySem.F.plainAttrs_list PySem.F.slot_list_append PySem.F.type_list_append mt_append ho ht hbase hfew hline hs hplain) fun σ H Q ⟨ρ, Γ, S, R, G, q⟩ => ?_
  refine ⟨ρ, Γ, S, R, G, q.bind fun ov S1 ρ1 H1 x E1 R1 rx q1 => ?_⟩
  cases ov with
  | ref n =>
    obtain ⟨a, ha, rfl⟩ := rx
    cases e : S1[n]? with
    | none => simp only [e] at q1; exact q1.elim
    | some ob =>
      cases ob with
      | setT _ => simp only [e] at q1; exact q1.elim
      | raw _ => simp only [e] at q1; exact q1.elim
      | tbl _ => simp only [e] at q1; exact q1.elim
      | dct _ => simp only [e] at q1; exact q1.elim
      | lst xs1 =>
        simp only [e] at q1
        obtain ⟨_, ws1, h1, _⟩ := R1.at_ n a _ ha e
        refine ⟨.inl ⟨rfl, ws1, SqL.of h1⟩, ρ1, Γ, S1, R1, G.ext E1, q1.bind fun vs S2 ρ2 H2 ys E2 R2 ry q2 => ?_⟩
        match vs, ry, q2 with
        | [], _, q2 => exact q2.elim
        | _ :: _ :: _, _, q2 => exact q2.elim
        | [v], ry, q2 =>
          obtain ⟨y, rfl, r1⟩ := one_of ry rfl
          have ha2 := E2.get ha
          cases e2 : S2[n]? with
          | none => simp only [e2] at q2; exact q2.elim
          | some ob =>
            cases ob with
            | setT _ => simp only [e2] at q2; exact q2.elim
            | raw _ => simp only [e2] at q2; exact q2.elim
            | tbl _ => simp only [e2] at q2; exact q2.elim
            | dct _ => simp only [e2] at q2; exact q2.elim
            | lst xs =>
              simp only [e2] at q2
              obtain ⟨hl, ws, h3, h4⟩ := R2.at_ n a _ ha2 e2
              by_cases hlt : xs.length < sizeLine
              · rw [if_pos hlt] at q2
                refine ⟨a, ws, y, rfl, rfl, h3, by rw [← h4.len]; exact hlt, ?_⟩
                obtain ⟨E3, R3⟩ := R2.put ha2 e2 (by rw [List.length_append]; exact hlt) (h4.app (Rvs.cons r1 Rvs.nil))
                exact q2 ρ2 _ _ E3 R3 rfl
              · rw [if_neg hlt] at q2
                exact q2.elim
  | _ => exact q1.elim
def mPop (o : ME) : ME := fun Γ S => (o Γ S).bind fun ov S1 => match ov with
  | .ref n => match S1[n]? with
    | some (.lst xs) => match xs[xs.length - 1]? with
      | some v => .ok v (S1.set n (.lst xs.dropLast))
      | none => .bad
    | _ => .bad
  | _ => .bad
theorem Rvs.dropLast {K : KX} {ρ : List Addr} {H : Hp} {xs : List Va} {ws : List V} (h : Rvs K ρ H xs ws) : Rvs K ρ H xs.dropLast ws.dropLast := by
  rw [List.dropLast_eq_take, List.dropLast_eq_take, ← h.len]
  exact h.take _
theorem pm_pop {o : Expr} {mo : ME} {apos cpos : Pos} (ho : PM X W o mo)
    (hbase : attributeBase o "pop" X.env (eval o X.env) = eval o X.env := by rfl) (hline : (apos.endLine == cpos.line) = true := by rfl) :
    PM X W (.Call (.Attribute o "pop" apos) [] [] cpos) (mPop mo) := by
  refine pe_imp (pe_bm0 PySem.F.plainAttrs_list PySem.F.slot_list_pop PySem.F.type_list_pop mt_pop ho hbase hline) fun σ H Q ⟨ρ, Γ, S, R, G, q⟩ => ?_
  refine ⟨ρ, Γ, S, R, G, q.bind fun ov S1 ρ1 H1 x E1 R1 rx q1 => ?_⟩
  cases ov with
  | ref n =>
    obtain ⟨a, ha, rfl⟩ := rx
    cases e : S1[n]? with
    | none => simp only [e] at q1; exact q1.elim
    | some ob =>
      cases ob with
      | setT _ => simp only [e] at q1; exact q1.elim
      | raw _ => simp only [e] at q1; exact q1.elim
      | tbl _ => simp only [e] at q1; exact q1.elim
      | dct _ => simp only [e] at q1; exact q1.elim
      | lst xs =>
        simp only [e] at q1
        obtain ⟨hl, ws, h1, h2⟩ := R1.at_ n a _ ha e
        cases ev : xs[xs.length - 1]? with
        | none => simp only [ev] at q1; exact q1.elim
        | some v =>
          simp only [ev] at q1
          obtain ⟨w, h3, h4⟩ := h2.get ev
          refine ⟨.inl ⟨rfl, ws, SqL.of h1⟩, a, ws, w, rfl, rfl, h1, by rw [← h2.len]; exact h3, ?_⟩
          obtain ⟨E3, R3⟩ := R1.put ha e (by rw [List.length_dropLast]; omega) h2.dropLast
          exact q1 ρ1 _ _ E3 R3 (h4.ext E3)
  | _ => exact q1.elim
/-! ### list(range(..)) -/
def rgA (a b : Int) : List Va := (List.range (b - a).toNat).map fun i => Va.int (a + (i : Nat))
@[irreducible] def lrOk (j : Int) : Bool := decide (-(2 ^ 62) ≤ j ∧ j ≤ 2 ^ 24)
def mLRng1 (m : ME) : ME := fun Γ S => (m Γ S).bind fun v S1 => match v with
  | .int j => if lrOk j = true then lift (mkL S1 (rgA 0 j)) else .bad
  | _ => .bad
theorem rg_rel {K : KX} {ρ : List Addr} {H : Hp} (a b : Int) : Rvs K ρ H (rgA a b) (rgV a b) := by
  unfold rgA rgV
  refine Rvs.of (by simp) fun i x w h1 h2 => ?_
  rw [List.getElem?_map] at h1 h2
  cases e : (List.range (b - a).toNat)[i]? with
  | none => rw [e] at h1; cases h1
  | some k =>
    rw [e] at h1 h2
    cases h1
    cases h2
    rfl
theorem pm_lrng1 {p2 pos2 : Pos} (hc : X.calm = true) (hg : Gl X "list") (hm : X.mg "list" = none) (hg2 : Gl X "range") (hm2 : X.mg "range" = none) (h : PM X W e m) (na : starEach [e] X.env = (false, eval e X.env) :: starEach [] X.env := by rfl)
    (hs : starEach [Expr.Call (.Name "range" p2) [e] [] pos2] X.env = (false, eval (Expr.Call (.Name "range" p2) [e] [] pos2) X.env) :: starEach [] X.env := by rfl) : PM X W (.Call (.Name "list" p) [.Call (.Name "range" p2) [e] [] pos2] [] pos) (mLRng1 m) := by
  refine pe_imp (pe_listRg hc hg hm (prg_1 hg2 hm2 h na) hs) fun σ H Q ⟨ρ, Γ, S, R, G, q⟩ => ?_
  refine ⟨ρ, Γ, S, R, G, q.bind fun v S1 ρ1 H1 x E1 R1 rx q1 => ?_⟩
  cases v with
  | int j =>
    cases rx
    by_cases c' : lrOk j = true
    · have c : -(2 ^ 62) ≤ j ∧ j ≤ 2 ^ 24 := by unfold lrOk at c'; exact of_decide_eq_true c'
      simp only [if_pos c'] at q1
      have q1 : Ans (kxOf X) Q ρ1 H1 (mkL S1 (rgA 0 j)) := q1.ans
      refine ⟨j, rfl, ⟨by omega, by omega, c.1, by omega, by omega⟩, (mkL_ans R1 q1 (rg_rel 0 j)).2⟩
    · simp only [if_neg c'] at q1
      exact q1.elim
  | _ => exact q1.elim
end
end PM

namespace PM
open PySem PySem.Spec PyProof.Rows L2 Q2
section
variable {X : Cx} {W : XW}
theorem pms_par3 {i j l : Nat} {t : MA} {st : Stmt} (h : PS X st (tPar3 i j l (tMA (kxOf X) W t))) : PMS X W st (sPar3 i j l t) := by
  refine ps_imp h fun D σ H ⟨ρ, Γ, S, R, G, q⟩ => ?_
  refine ⟨ρ, Γ, S, R, G, AftS.bind G q fun vs S1 ρ1 H1 ws E1 R1 r1 q1 => ?_⟩
  match vs, r1, q1 with
  | [u, v, w], r1, q1 =>
    obtain ⟨z, _, rfl, rz, x, _, rfl, rx, y, _, rfl, ry, rfl⟩ := r1
    exact ⟨z, x, y, rfl, q1 ρ1 H1 _ R1.refl R1 ((((G.ext E1).set i rz).set j rx).set l ry)⟩
  | [], _, q1 => exact q1.elim
  | [_], _, q1 => exact q1.elim
  | [_, _], _, q1 => exact q1.elim
  | _ :: _ :: _ :: _ :: _, _, q1 => exact q1.elim
/-! ### x += e -/
theorem ipI_M {op : Operator} {f : Int → Int → Int} (h : PIp X op (ipI f)) : IpP X op (fI2 always fun i j => .int (f i j)) := by
  refine ⟨_, h, fun ρ S H v w x y Q R rv rw a => ?_⟩
  cases v with
  | int i =>
    cases w with
    | int j => cases rv; cases rw; exact ⟨i, j, rfl, rfl, a ρ H _ R.refl R rfl⟩
    | _ => exact a.elim
  | _ => exact a.elim
theorem ipAdd : IpP X .Add addI := ipI_M ip_add
theorem ipSub : IpP X .Sub subI := ipI_M ip_sub
end
/-! ### calls with keywords -/
def permL {α : Type} (o : List Nat) (us : List α) : List α := o.filterMap fun i => us[i]?
def permG {α : Type} (n m : Nat) (o : List Nat) (us ws : List α) : List α := if us.length = n ∧ ws.length = m then permL o (us ++ ws) else []
theorem permL_rel {vs : List V} {us : List Value} (o : List Nat) (h : Vals vs us) : Vals (permL o vs) (permL o us) := by
  unfold permL
  induction o with
  | nil => exact .nil
  | cons i o ih =>
    rw [List.filterMap_cons, List.filterMap_cons]
    cases e : vs[i]? with
    | none => rw [h.none_of e]; exact ih
    | some v =>
      obtain ⟨u, hu, r⟩ := h.get e
      rw [hu]
      exact .cons r ih
theorem permG_rel {n m : Nat} {o : List Nat} {vs : List V} {us : List Value} {zs : List V} {ws : List Value} (r : Vals vs us) (s : Vals zs ws) : Vals (permG n m o vs zs) (permG n m o us ws) := by
  unfold permG
  rw [r.length, s.length]
  split
  · exact permL_rel o (r.append s)
  · exact .nil
theorem kbn_of {K : PySem.W.Frag} {x : Str} {st : Stmt} {f : Addr} {fd : FuncData} {ps ks : List Str} (F : FnP K x st f fd) (n m : Nat) (o : List Nat) (hp : ps ≠ [])
    (h : ∀ (kV doc pm : Value) (an : Option Addr) (cdv ct : Value) (us ws : List Value), us.length = n → ws.length = m → bindArgs (PySem.W.fnOf x x (defArgs st) (defBody st) (defScope st) .none kV doc pm an cdv ct) ⟨us, ks.zip ws⟩ = pure (ps.zip (permL o (us ++ ws)))) : KBinds K fd ps ks (permG n m o) (permG n m o) := by
  obtain ⟨oc, od, kV, doc, pm, an, cdv, ct, osl, rfl, lk, hcd⟩ := F.ex
  refine ⟨fun s us ws _ hl => ?_, permG_rel⟩
  unfold permG at hl ⊢
  by_cases c : us.length = n ∧ ws.length = m
  · rw [if_pos c]
    exact .of_eq (h _ _ _ _ _ _ us ws c.1 c.2)
  · rw [if_neg c] at hl
    cases ps with
    | nil => exact absurd rfl hp
    | cons p ps => cases hl
theorem permV_rel {K : KX} {ρ : List Addr} {H : Hp} {vs : List Va} {us : List V} (o : List Nat) (h : Rvs K ρ H vs us) : Rvs K ρ H (permL o vs) (permL o us) := by
  unfold permL
  induction o with
  | nil => exact rfl
  | cons i o ih =>
    rw [List.filterMap_cons, List.filterMap_cons]
    cases e : vs[i]? with
    | none =>
      have : us[i]? = none := by
        rw [List.getElem?_eq_none_iff, ← h.len]
        exact List.getElem?_eq_none_iff.mp e
      rw [this]
      exact ih
    | some v =>
      obtain ⟨u, hu, r⟩ := h.get e
      rw [hu]
      exact Rvs.cons r ih
def mCallKw (n m : Nat) (o : List Nat) (g : MF) (t u : MA) : ME := fun Γ S => (t Γ S).bindN fun vs S1 => (u Γ S1).bindN fun ws S2 => if vs.length = n ∧ ws.length = m ∧ (permL o (vs ++ ws)).length = o.length then noX (g (permL o (vs ++ ws)) S2) else .bad
section
variable {X : Cx} {W : XW} {k : Nat} {x : Str} {ps ks : List Str} {g : MF} {f : Addr} {fd : FuncData} {e : Expr} {es : List Expr} {t u : MA} {kws : List Keyword} {n m : Nat} {o : List Nat} {p pos : Pos}
theorem ck_imp {mg : Str → Option Value} (ho : o.length = ps.length) (σ : L2.St) (H : Hp) (Q : VK) (h : tM (kxOf X) W (mCallKw n m o g t u) σ H Q) : tCallK (spM (kxOf X) mg ps.length g) (permG n m o) E0 (tMA (kxOf X) W t) (tMA (kxOf X) W u) σ H Q := by
  obtain ⟨ρ, Γ, S, R, G, q⟩ := h
  refine ⟨ρ, Γ, S, R, G, (show Aft _ W σ _ Q ρ H ((t Γ S).bindN _) from q).bindN fun vs S1 ρ1 H1 xs E1 R1 rx q1 => ?_⟩
  refine ⟨ρ1, Γ, S1, R1, G.ext E1, (show Aft _ W σ _ Q ρ1 H1 ((u Γ S1).bindN _) from q1).bindN fun ws S2 ρ2 H2 ys E2 R2 ry q2 => ?_⟩
  have c : vs.length = n ∧ ws.length = m ∧ (permL o (vs ++ ws)).length = o.length := by
    refine Decidable.byContradiction fun c => ?_
    have q2 : Aft (kxOf X) W σ (Rv (kxOf X)) Q ρ2 H2 (if vs.length = n ∧ ws.length = m ∧ (permL o (vs ++ ws)).length = o.length then noX (g (permL o (vs ++ ws)) S2) else .bad) := q2
    rw [if_neg c] at q2
    exact q2.elim
  have q2 : Aft (kxOf X) W σ (Rv (kxOf X)) Q ρ2 H2 (if vs.length = n ∧ ws.length = m ∧ (permL o (vs ++ ws)).length = o.length then noX (g (permL o (vs ++ ws)) S2) else .bad) := q2
  rw [if_pos c] at q2
  have rel := permV_rel o ((rx.ext E2).app ry)
  unfold permG
  rw [← rx.len, ← ry.len, if_pos ⟨c.1, c.2.1⟩]
  exact ⟨by rw [← rel.len, c.2.2, ho], ρ2, S2, _, R2, rel, q2.noX⟩
theorem passL' : Passes (L2.CX X.prog X.w) X E0 := passL
theorem pm_callK (D : Dx X.prog X.w X.K X.mg X.base k x ps g f fd) (hb : KBinds X.K fd ps ks (permG n m o) (permG n m o)) (ho : o.length = ps.length) (hr : Room k X.A) (hg : Gl X x) (ha : PMA X W (e :: es) t) (hk : PMK X W kws u)
    (hall : (backToKw pos (keywordEach kws X.env)).all (·.1.isSome) = true := by rfl) (hks : (backToKw pos (keywordEach kws X.env)).filterMap (·.1) = ks := by rfl)
    (hdb : (x == ("__debug__" : Str)) = false := by decide) (he : starEach (e :: es) X.env = (false, eval e X.env) :: starEach es X.env := by rfl)
    (hpl : ((backTo pos (starEach (e :: es) X.env)).any (·.1) || (backToKw pos (keywordEach kws X.env)).any (·.1.isNone)) = false := by rfl) :
    PM X W (.Call (.Name x p) (e :: es) kws pos) (mCallKw n m o g t u) :=
  pe_imp (pe_callK D.ok hr hg D.gl D.kp hb passL' ha hk hall hks hdb he hpl) (ck_imp ho)
theorem pm_callK0 (D : Dx X.prog X.w X.K X.mg X.base k x ps g f fd) (hb : KBinds X.K fd ps ks (permG n m o) (permG n m o)) (ho : o.length = ps.length) (hr : Room k X.A) (hg : Gl X x) (hk : PMK X W kws u)
    (hall : (backToKw pos (keywordEach kws X.env)).all (·.1.isSome) = true := by rfl) (hks : (backToKw pos (keywordEach kws X.env)).filterMap (·.1) = ks := by rfl)
    (hdb : (x == ("__debug__" : Str)) = false := by decide)
    (hpl : ((backTo pos (starEach [] X.env)).any (·.1) || (backToKw pos (keywordEach kws X.env)).any (·.1.isNone)) = false := by rfl) :
    PM X W (.Call (.Name x p) [] kws pos) (mCallKw n m o g maN u) := by
  refine pe_imp (pe_callK0 D.ok hr hg D.gl D.kp hb passL' hk hall hks hdb hpl) fun σ H Q h => ?_
  have h2 := ck_imp (X := X) (W := W) (t := maN) (mg := X.mg) (ps := ps) ho σ H Q h
  obtain ⟨ρ, Γ, S, R, G, q⟩ := h2
  exact q ρ H [] R.refl R rfl
end
/-! ### a def of which nothing is told -/
def mBadF : MF := fun _ _ => .bad
theorem bad_ok {P : Program} {w : World} {K : PySem.W.Frag} {mg : Str → Option Value} {base : Heap} {k n : Nat} {f : Addr} {fd : FuncData} {ps : List Str} (hn : ps.length = n) : FnOk P w K mg base (L2.CX P w) k f fd ps (spM ⟨K, P, w⟩ mg n mBadF) :=
  ⟨fun vs H Q E h => h.1.trans hn.symm, fun A outer s H args us vs Q E hr e0 hb r h => by
    obtain ⟨_, _, _, _, _, _, q⟩ := h
    exact q.elim⟩
/-- what is told of a def that raises nothing -/
theorem fn_up {P : Program} {w : World} {K : PySem.W.Frag} {mg : Str → Option Value} {base : Heap} {k : Nat} {f : Addr} {fd : FuncData} {ps : List Str} {sp sp' : Sp} (F : FnOk P w K mg base L2.CX0 k f fd ps sp) (h : ∀ vs H Q E, sp' vs H Q E → sp vs H Q E) : FnOk P w K mg base (L2.CX P w) k f fd ps sp' := by
  refine ⟨fun vs H Q E q => F.len vs H Q E (h _ _ _ _ q), fun A outer s H args us vs Q E hr e0 hb r q => ?_⟩
  refine codeAny_mono (F.run A outer s H args us vs Q E hr e0 hb r (h _ _ _ _ q)) fun r s' hq => ?_
  cases r with
  | ok fl => cases fl <;> exact hq
  | error e => exact (show False from hq).elim
/-! ### sets of tuples of ints -/
def tIntsOf : Va → Option (List Int)
  | .tup xs => intsOf xs
  | _ => none
section
variable {X : Cx} {W : XW}
def mSet0 : ME := fun _ S => .ok (.ref S.length) (S ++ [.setT []])
theorem RS.setNew {K : KX} {ρ : List Addr} {S : Sto} {H : Hp} (R : RS K ρ S H) {p : Addr} (hp : H p = none) : Ext ρ (ρ ++ [p]) H (upd H p (SetTO K.P K.w p [])) ∧ RS K (ρ ++ [p]) (S ++ [.setT []]) (upd H p (SetTO K.P K.w p [])) := by
  have hp' := R.fresh hp
  have E : Ext ρ (ρ ++ [p]) H (upd H p (SetTO K.P K.w p [])) := ⟨R.nt, ⟨[p], rfl⟩, fun b u h _ => by rw [upd_ne (ne_of_none h hp)]; exact h, fun b h n => by
    rcases List.mem_append.mp h with h | h
    · exact absurd h n
    · rw [List.mem_singleton.mp h]; exact hp⟩
  refine ⟨E, by simp [R.len], ?_, fun n a u h1 h2 => ?_⟩
  · refine List.nodup_append.mpr ⟨R.nd, by simp, fun x hx y hy z => hp' ?_⟩
    rw [← List.mem_singleton.mp hy, ← z]
    exact hx
  · by_cases hn : n < ρ.length
    · rw [List.getElem?_append_left hn] at h1
      rw [List.getElem?_append_left (by rw [← R.len]; exact hn)] at h2
      refine (R.at_ n a u h1 h2).ext E ?_
      have : a ≠ p := fun z => hp' (by rw [← z]; exact List.mem_of_getElem? h1)
      rw [upd_ne this]
    · have hn' : n = ρ.length := by
        have := (List.getElem?_eq_some_iff.mp h1).1
        simp at this
        omega
      subst hn'
      rw [List.getElem?_append_right (Nat.le_refl _), Nat.sub_self] at h1
      rw [List.getElem?_append_right (by rw [R.len]; exact Nat.le_refl _), R.len, Nat.sub_self] at h2
      cases h1
      cases h2
      exact ⟨[], upd_same, .nil, fun p hp => by cases hp⟩
theorem pm_set0 {x : Str} {p pos : Pos} (hg : Gl X x) (hm : X.mg x = none) (hv : bootBuiltins x = some (.type "set")) (hn : x ≠ "__name__" := by decide) (hdb : (x == ("__debug__" : Str)) = false := by decide) : PM X W (.Call (.Name x p) [] [] pos) mSet0 := by
  refine pe_imp (pe_callTy0 cr_set0T hg hm hv hn hdb) fun σ H Q ⟨ρ, Γ, S, R, G, q⟩ => ?_
  refine ⟨rfl, fun p hp => ?_⟩
  obtain ⟨E, R2⟩ := R.setNew hp
  exact q _ _ _ E R2 (R.last p)
/-- in a set: that it is no member -/
def inSet : F2 := fun v w S => match tIntsOf v, w with
  | some k, .ref n => match S[n]? with
    | some (.setT ks) => if k ∈ ks then none else some (.bl false, S)
    | _ => none
  | _, _ => none
theorem oInSet (un : X.A.units + 64 < cLine) : OpP X (compareOp .In) inSet := by
  refine ⟨_, op_outT un, fun ρ S H v w x y Q R rv rw a => ?_⟩
  unfold inSet at a
  cases e : tIntsOf v with
  | none => rw [e] at a; exact a.elim
  | some k =>
    rw [e] at a
    cases v with
    | tup xs =>
      obtain ⟨b, ws, rfl, h1, h2⟩ := rv
      have hk := ints_of h2 e
      cases w with
      | ref n =>
        obtain ⟨c, hc, rfl⟩ := rw
        simp only at a
        cases es : S[n]? with
        | none => rw [es] at a; exact a.elim
        | some o =>
          cases o with
          | lst _ => rw [es] at a; exact a.elim
          | raw _ => rw [es] at a; exact a.elim
          | tbl _ => rw [es] at a; exact a.elim
          | dct _ => rw [es] at a; exact a.elim
          | setT ks =>
            rw [es] at a
            simp only at a
            obtain ⟨L, h3, h4, h5⟩ := R.at_ n c _ hc es
            by_cases m : k ∈ ks
            · rw [if_pos m] at a; exact a.elim
            · rw [if_neg m] at a
              exact ⟨b, c, k, L, rfl, rfl, by rw [← hk]; exact h1, h3, h5, fun z => m (h4.mem_iff.mp z), a ρ H _ R.refl R rfl⟩
      | _ => exact a.elim
    | _ => cases e
def mAddS (o : ME) (t : MA) : ME := fun Γ S => (o Γ S).bind fun ov S1 => match ov with
  | .ref n => match S1[n]? with
    | some (.setT _) => (t Γ S1).bind fun vs S2 => match vs, S2[n]? with
      | [v], some (.setT ks) => match tIntsOf v with
        | some k => if k ∉ ks ∧ ks.length + 1 < 64 then .ok .non (S2.set n (.setT (k :: ks))) else .bad
        | none => .bad
      | _, _ => .bad
    | _ => .bad
  | _ => .bad
theorem RS.putS {K : KX} {ρ : List Addr} {S : Sto} {H : Hp} (R : RS K ρ S H) {n : Nat} {a : Addr} {o : Ob} {ks : List (List Int)} {L : List (Addr × List Int)} (ha : ρ[n]? = some a) (hs : S[n]? = some o) (hL : (L.map (·.2)).Perm ks) (h : ∀ p ∈ L, SqT K.K H p.1 (p.2.map V.int)) :
    Ext ρ ρ H (upd H a (SetTO K.P K.w a L)) ∧ RS K ρ (S.set n (.setT ks)) (upd H a (SetTO K.P K.w a L)) := by
  have am := List.mem_of_getElem? ha
  have E : Ext ρ ρ H (upd H a (SetTO K.P K.w a L)) := ⟨R.nt, ⟨[], by simp⟩, fun b u h hb => by rw [upd_ne (fun z => hb (by rw [z]; exact am))]; exact h, fun b h n => absurd h n⟩
  refine ⟨E, by simp [R.len], R.nd, fun m b u h1 h2 => ?_⟩
  by_cases e : n = m
  · subst e
    cases ha.symm.trans h1
    rw [List.getElem?_set_self (List.getElem?_eq_some_iff.mp hs).1] at h2
    cases h2
    exact ⟨L, upd_same, hL, fun p hp => E.sqt (h p hp)⟩
  · rw [List.getElem?_set_ne e] at h2
    refine (R.at_ m b u h1 h2).ext E ?_
    have : b ≠ a := fun z => by
      subst z
      have hm := (List.getElem?_eq_some_iff.mp h1)
      have hn := (List.getElem?_eq_some_iff.mp ha)
      exact nd_get R.nd e (hn.2.trans hm.2.symm)
    rw [upd_ne this]
theorem pm_addS {o e : Expr} {es : List Expr} {mo : ME} {t : MA} {apos cpos : Pos} (un : X.A.units + 64 < cLine) (ho : PM X W o mo) (ht : PMA X W (e :: es) t)
    (hbase : attributeBase o "add" X.env (eval o X.env) = eval o X.env := by rfl)
    (hfew : ((backTo cpos (starEach (e :: es) X.env)).all (fun x => !x.1) && (backToKw cpos (keywordEach [] X.env)).all (fun x => x.1.isSome) && decide ((e :: es).length + ([] : List Keyword).length + (if ([] : List Keyword).isEmpty then 0 else 1) < 30)) = true := by rfl)
    (hline : (apos.endLine == cpos.line) = true := by rfl) (hstar : starEach (e :: es) X.env = (false, eval e X.env) :: starEach es X.env := by rfl) (hplain : (backTo cpos (starEach es X.env)).any (·.1) = false := by rfl) :
    PM X W (.Call (.Attribute o "add" apos) (e :: es) [] cpos) (mAddS mo t) := by
  refine pe_imp (pe_addT un ho ht hbase hfew hline hstar hplain) fun σ H Q ⟨ρ, Γ, S, R, G, q⟩ => ?_
  refine ⟨ρ, Γ, S, R, G, q.bind fun ov S1 ρ1 H1 x E1 R1 rx q1 => ?_⟩
  cases ov with
  | ref n =>
    obtain ⟨a, ha, rfl⟩ := rx
    cases e : S1[n]? with
    | none => simp only [e] at q1; exact q1.elim
    | some ob =>
      cases ob with
      | lst _ => simp only [e] at q1; exact q1.elim
      | raw _ => simp only [e] at q1; exact q1.elim
      | tbl _ => simp only [e] at q1; exact q1.elim
      | dct _ => simp only [e] at q1; exact q1.elim
      | setT ks1 =>
        simp only [e] at q1
        obtain ⟨L1, h1, _, h2⟩ := R1.at_ n a _ ha e
        refine ⟨⟨a, L1, rfl, h1, h2⟩, ρ1, Γ, S1, R1, G.ext E1, q1.bind fun vs S2 ρ2 H2 ys E2 R2 ry q2 => ?_⟩
        match vs, ry, q2 with
        | [], _, q2 => exact q2.elim
        | _ :: _ :: _, _, q2 => exact q2.elim
        | [v], ry, q2 =>
          obtain ⟨y, rfl, r1⟩ := one_of ry rfl
          have ha2 := E2.get ha
          cases e2 : S2[n]? with
          | none => simp only [e2] at q2; exact q2.elim
          | some ob =>
            cases ob with
            | lst _ => simp only [e2] at q2; exact q2.elim
            | raw _ => simp only [e2] at q2; exact q2.elim
            | tbl _ => simp only [e2] at q2; exact q2.elim
            | dct _ => simp only [e2] at q2; exact q2.elim
            | setT ks =>
              simp only [e2] at q2
              obtain ⟨L, h3, h4, h5⟩ := R2.at_ n a _ ha2 e2
              cases ek : tIntsOf v with
              | none => simp only [ek] at q2; exact q2.elim
              | some k =>
                simp only [ek] at q2
                cases v with
                | tup xs =>
                  obtain ⟨b, ws, rfl, h6, h7⟩ := r1
                  have hk := ints_of h7 ek
                  by_cases c : k ∉ ks ∧ ks.length + 1 < 64
                  · rw [if_pos c] at q2
                    have hb : SqT (kxOf X).K H2 b (k.map V.int) := by rw [← hk]; exact h6
                    refine ⟨a, b, k, L, rfl, rfl, h3, hb, h5, fun z => c.1 (h4.mem_iff.mp z), ?_, fun L' pm => ?_⟩
                    · have := h4.length_eq
                      rw [List.length_map] at this
                      omega
                    · have hL' : (L'.map (fun p : Addr × List Int => p.2)).Perm (k :: ks) := (pm.map (fun p : Addr × List Int => p.2)).trans (List.Perm.cons k h4)
                      have hall : ∀ p ∈ L', SqT (kxOf X).K H2 p.1 (p.2.map V.int) := fun p hp => by
                        rcases List.mem_cons.mp (pm.mem_iff.mp hp) with z | z
                        · rw [z]; exact hb
                        · exact h5 p z
                      obtain ⟨E3, R3⟩ := R2.putS ha2 e2 hL' hall
                      exact q2 ρ2 _ _ E3 R3 rfl
                  · rw [if_neg c] at q2
                    exact q2.elim
                | _ => cases ek
  | _ => exact q1.elim
end
end PM

namespace PM
open PySem PySem.Spec PyProof.Rows L2 Q2
/-! ### sorted: of data -/
abbrev dle {β : Type} (k : β → PyData) : β → β → Bool := PySem.W.dataLe false k
def alikeB (ds : List PyData) : Bool := ds.all fun d => ds.all fun e => PySem.W.alike d e
def sortB (ds : List PyData) : Bool := (ds.all fun d => match d with
    | .tuple (_ :: _) => true
    | _ => false) || ds.all fun d => match d with
    | .none => false
    | .tuple _ => false
    | _ => true
theorem alike_of {ds : List PyData} (h : alikeB ds = true) : PySem.W.AllAlike ds := fun d hd e he => List.all_eq_true.mp (List.all_eq_true.mp h d hd) e he
theorem sort_of {ds : List PyData} (h : sortB ds = true) : PySem.W.Sortable ds := by
  unfold sortB at h
  rcases Bool.or_eq_true_iff.mp h with h | h
  · refine .inl fun d hd => ?_
    have := List.all_eq_true.mp h d hd
    cases d with
    | tuple xs =>
      cases xs with
      | nil => cases this
      | cons x r => exact ⟨x, r, rfl⟩
    | _ => cases this
  · refine .inr fun d hd => ?_
    have := List.all_eq_true.mp h d hd
    cases d with
    | none => cases this
    | tuple xs => cases this
    | _ => exact ⟨(fun z => by cases z), fun xs z => by cases z⟩
def sortable (ds : List PyData) : Bool := alikeB ds && sortB ds && ds.all fun d => decide (d.depth ≤ 40)
def sortPs (ps : List (Va × PyData)) : List Va := (ps.mergeSort (dle (·.2))).map (·.1)
def datsV (S : Sto) : List Va → Option (List (Va × PyData))
  | [] => some []
  | v :: r => match datOf S v, datsV S r with
    | some d, some ps => some ((v, d) :: ps)
    | _, _ => none
def fSort : FL := fL1 fun v S => match seqOf S v with
  | some xs => match datsV S xs with
    | some ps => if sortable (ps.map (·.2)) = true then mkL S (sortPs ps) else none
    | none => none
  | none => none
section
variable {X : Cx}
theorem eachV {K : KX} {H : Hp} : ∀ {bs : List (V × PyData)} {us : List Value}, Vals (bs.map (·.1)) us → PySem.W.EachIs (fun v (b : V × PyData) => RelV b.1 v) us bs
  | [], _, .nil => .nil
  | b :: bs, _, .cons r t => .cons r (eachV (K := K) (H := H) t)
theorem valsE : ∀ {bs : List (V × PyData)} {us : List Value}, PySem.W.EachIs (fun v (b : V × PyData) => RelV b.1 v) us bs → Vals (bs.map (·.1)) us
  | _, _, .nil => .nil
  | _, _, .cons h t => .cons h (valsE t)
theorem each_imp {α β : Type} {R R' : α → β → Prop} : ∀ {as : List α} {bs : List β}, PySem.W.EachIs R as bs → (∀ a b, b ∈ bs → R a b → R' a b) → PySem.W.EachIs R' as bs
  | _, _, .nil, _ => .nil
  | _, _, .cons h t, k => .cons (k _ _ (List.mem_cons_self ..) h) (each_imp t fun a b hb => k a b (List.mem_cons_of_mem _ hb))
def rSortD (K : PySem.W.Frag) : List V → Hp → VK → Prop := fun vs H Q => ∃ (a : Addr) (bs : List (V × PyData)), vs = [V.ref a] ∧ (SqL K H a (bs.map (·.1)) ∨ SqT K H a (bs.map (·.1))) ∧ (∀ b ∈ bs, Dp K H b.1 b.2) ∧
  PySem.W.AllAlike (bs.map (·.2)) ∧ PySem.W.Sortable (bs.map (·.2)) ∧ (∀ b ∈ bs, b.2.depth ≤ 40) ∧ ∀ p, H p = none → Q (.ref p) (upd H p (.lst ((bs.mergeSort (dle (·.2))).map (·.1))))
theorem cr_sortD (un : X.A.units + 64 < cLine) : CallR X (.builtin "sorted") (rSortD X.K) := by
  intro pins s σ H vs us Q I r h
  obtain ⟨a, bs, rfl, hs, ht, ha, ho, hd, q⟩ := h
  obtain rfl := Vals.ref1 r
  obtain ⟨its, rv, seq, hz⟩ := raw_seq I hs
  rw [List.length_map] at hz
  have ea := eachV (K := kxOf X) (H := H) rv
  refine sorted_plain (bs := bs) (enc := (·.2)) seq ea (each_imp ea fun v b hb hr => (ht b hb).reads I _ _ _ hr) ha ho hz (fun p hp => ?_) fun out hl e => ?_
  · have := hd p hp
    show X.A.units + 2 + p.2.depth < cLine
    omega
  · obtain ⟨ep, he⟩ := PyProof.Rows.sortedAll_at s.heap its (List.toArray out)
    refine ⟨.ref _, upd H (s.heap.objs.size + 1) (.lst ((bs.mergeSort (dle (·.2))).map (·.1))), I.laid (t' := s.toks) (fun _ _ => PyProof.Rows.sortedAll_old) (Nat.le_succ _) ⟨?_, out, ep, valsE e, he⟩, rfl, q _ (I.hok.fresh (Nat.le_succ _))⟩
    rw [List.length_map, List.length_mergeSort]
    exact hz
theorem dats_get {K : KX} {ρ : List Addr} {S : Sto} {H : Hp} (R : RS K ρ S H) : ∀ {xs : List Va} {ws : List V} {ps : List (Va × PyData)}, Rvs K ρ H xs ws → datsV S xs = some ps →
    ∃ ts : List (Va × V × PyData), ts.map (·.1) = xs ∧ ts.map (·.2.1) = ws ∧ ts.map (fun t => (t.1, t.2.2)) = ps ∧ ∀ t ∈ ts, Rv K ρ H t.1 t.2.1 ∧ Dp K.K H t.2.1 t.2.2
  | [], _, ps, h, e => by
    cases h
    cases e
    exact ⟨[], rfl, rfl, rfl, fun t h => absurd h (List.not_mem_nil)⟩
  | x :: xs, _, ps, h, e => by
    obtain ⟨w, r, rfl, h1, h2⟩ := h
    unfold datsV at e
    cases e1 : datOf S x with
    | none => rw [e1] at e; cases e
    | some d =>
      cases e2 : datsV S xs with
      | none => rw [e1, e2] at e; cases e
      | some ps' =>
        rw [e1, e2] at e
        cases e
        obtain ⟨ts, a, b, c, g⟩ := dats_get R h2 e2
        refine ⟨(x, w, d) :: ts, by simp [a], by simp [b], by simp [c], fun t ht => ?_⟩
        rcases List.mem_cons.mp ht with z | z
        · subst z
          exact ⟨h1, (dat_of R h1 e1).1⟩
        · exact g t z
theorem Rvs.map {K : KX} {ρ : List Addr} {H : Hp} {α : Type} {f : α → Va} {g : α → V} : ∀ {ts : List α}, (∀ t ∈ ts, Rv K ρ H (f t) (g t)) → Rvs K ρ H (ts.map f) (ts.map g)
  | [], _ => rfl
  | t :: ts, h => Rvs.cons (h t (List.mem_cons_self ..)) (Rvs.map fun x hx => h x (List.mem_cons_of_mem _ hx))
theorem cSort (un : X.A.units + 64 < cLine) : CallP X (.builtin "sorted") fSort := by
  refine ⟨_, cr_sortD un, callM1 fun ρ S H v x Q R r a => ?_⟩
  cases e : seqOf S v with
  | none => simp only [e] at a; exact a.elim
  | some xs =>
    simp only [e] at a
    obtain ⟨p, ws, rfl, h1, h2⟩ := seq_of R r e
    cases e2 : datsV S xs with
    | none => simp only [e2] at a; exact a.elim
    | some ps =>
      simp only [e2] at a
      obtain ⟨ts, t1, t2, t3, g⟩ := dats_get R h2 e2
      obtain ⟨c, a⟩ := ans_if a
      unfold sortable at c
      rw [Bool.and_eq_true, Bool.and_eq_true] at c
      have es : ps.map (·.2) = (ts.map (·.2)).map (·.2) := by rw [← t3]; simp [List.map_map, Function.comp_def]
      have ew : (ts.map (·.2)).map (·.1) = ws := by rw [← t2]; simp [List.map_map, Function.comp_def]
      have m1 : (ts.mergeSort (dle (fun t => t.2.2))).map (fun t => (t.1, t.2.2)) = ps.mergeSort (dle (·.2)) := by
        rw [← t3]
        exact List.map_mergeSort fun a _ b _ => rfl
      have m2 : (ts.mergeSort (dle (fun t => t.2.2))).map (·.2) = (ts.map (·.2)).mergeSort (dle (·.2)) := List.map_mergeSort fun a _ b _ => rfl
      refine ⟨p, ts.map (·.2), rfl, by rw [ew]; exact h1, fun b hb => ?_, by rw [← es]; exact alike_of c.1.1, by rw [← es]; exact sort_of c.1.2, fun b hb => ?_, ?_⟩
      · obtain ⟨t, ht, rfl⟩ := List.mem_map.mp hb
        exact (g t ht).2
      · refine of_decide_eq_true (List.all_eq_true.mp c.2 b.2 ?_)
        rw [es]
        exact List.mem_map_of_mem hb
      · refine (mkL_ans R a ?_).2
        unfold sortPs
        rw [← m1, ← m2, List.map_map, List.map_map]
        refine Rvs.map fun t ht => ?_
        exact (g t ((List.mergeSort_perm _ _).mem_iff.mp ht)).1
end
/-- in: a list of data, or a set that has it not -/
def inF : F2 := orF2 (inD false) inSet
theorem oInF {X : Cx} (hu : X.A.units + 65 < cLine) : OpP X (compareOp .In) inF := (oIn hu).or (oInSet (by omega))
/-! ### isinstance(x, (A, B)) -/
def kitAnyB (k : String) : List String → Option Bool
  | [] => some false
  | c :: r => match kitB k c with
    | some true => some true
    | some false => kitAnyB k r
    | none => none
theorem kitAny_of {K : PySem.W.Frag} {k : String} {b : Bool} : ∀ {ts : List String}, kitAnyB k ts = some b → PySem.W.kitAny K (.type k) (ts.map Value.type) = some b
  | [], h => h
  | c :: r, h => by
    unfold kitAnyB at h
    show (match PySem.W.kitOne K (.type k) (.type c) with
      | some true => some true
      | some false => PySem.W.kitAny K (.type k) (r.map Value.type)
      | none => none) = some b
    cases e : kitB k c with
    | none => rw [e] at h; cases h
    | some q =>
      rw [e] at h
      rw [kit_ty e]
      cases q with
      | true => exact h
      | false => exact kitAny_of h
def mIsiT (a : ME) (ts : List String) : ME := fun Γ S => (a Γ S).bind fun v S1 => match kindV S1 v with
  | some k => match kitAnyB k ts with
    | some b => .ok (.bl b) S1
    | none => .bad
  | none => .bad
theorem pairedTy : ∀ ts : List String, Paired ClsV (ts.map V.ty) (ts.map Value.type)
  | [] => .nil
  | t :: ts => .cons (.ty t) (pairedTy ts)
theorem pm_isiT {X : Cx} {W : XW} {x : Str} {e : Expr} {es : List Expr} {ma : ME} {ts : List String} {n : Nat} {p pos tpos : Pos} (hg : Gl X x) (hm : X.mg x = none) (hv : bootBuiltins x = some (.builtin "isinstance")) (ha : PM X W e ma) (ht : PA X es fun _ H Q => Q (ts.map V.ty) H) (hl : ts.length ≤ sizeLine)
    (hn : x ≠ "__name__" := by decide) (hdb : (x == ("__debug__" : Str)) = false := by decide)
    (he : starEach [e, .Tuple es n tpos] X.env = (false, eval e X.env) :: starEach [.Tuple es n tpos] X.env := by rfl) (he2 : starEach [.Tuple es n tpos] X.env = (false, eval (.Tuple es n tpos) X.env) :: starEach [] X.env := by rfl) (hpl : (backTo pos (starEach [.Tuple es n tpos] X.env)).any (·.1) = false := by rfl) :
    PM X W (.Call (.Name x p) [e, .Tuple es n tpos] [] pos) (mIsiT ma ts) := by
  refine pe_imp (pe_callB call_isiT hg hm hv (pa_cons ha (pa_cons (pe_tup ht) pa_nil he2) he) hn hdb he hpl) fun σ H Q ⟨ρ, Γ, S, R, G, q⟩ => ?_
  refine ⟨ρ, Γ, S, R, G, q.bind fun v S1 ρ1 H1 y E1 R1 rx q1 => ?_⟩
  refine ⟨by rw [List.length_map]; exact hl, fun l hl' => ?_⟩
  cases e1 : kindV S1 v with
  | none => simp only [e1] at q1; exact q1.elim
  | some k =>
    simp only [e1] at q1
    cases e2 : kitAnyB k ts with
    | none => simp only [e2] at q1; exact q1.elim
    | some b =>
      simp only [e2] at q1
      obtain ⟨E2, R2⟩ := R1.own (o := .tup (ts.map V.ty)) hl'
      exact ⟨y, l, ts.map V.ty, .type k, ts.map Value.type, b, rfl, upd_same, pairedTy ts, tyx_of R2 (rx.ext E2) e1, kitAny_of e2, q1 ρ1 _ _ E2 R2 rfl⟩
end PM

namespace PM
open PySem PySem.Spec PyProof.Rows L2 Q2
section
variable {X : Cx} {W : XW}
/-! ### xs[::-1], a list -/
def mRevSl (a : ME) : ME := fun Γ S => (a Γ S).bind fun v S1 => match lstOf S1 v with
  | some xs => lift (mkL S1 xs.reverse)
  | none => .bad
theorem pm_revSl {e : Expr} {ma : ME} {k : Nat} {p1 p2 p3 pos : Pos} (ha : PM X W e ma) : PM X W (.Subscript e (.Slice none none (some (.UnaryOp .USub (.Constant (.int 1) k p1) p2)) p3) pos) (mRevSl ma) := by
  refine pe_imp (pe_revL ha) fun σ H Q ⟨ρ, Γ, S, R, G, q⟩ => ?_
  refine ⟨ρ, Γ, S, R, G, q.bind fun v S1 ρ1 H1 x E1 R1 rx q1 => ?_⟩
  cases e : lstOf S1 v with
  | none => simp only [e] at q1; exact q1.elim
  | some xs =>
    simp only [e] at q1
    obtain ⟨p, ws, rfl, h1, h2⟩ := lst_of R1 rx e
    exact ⟨p, ws.reverse.reverse, rfl, by rw [List.reverse_reverse]; exact h1, by rw [List.reverse_reverse]; exact (mkL_ans R1 q1.ans h2.rev).2⟩
/-! ### xs.extend(ys), both lists of the store -/
def mExt (o : ME) (t : MA) : ME := fun Γ S => (o Γ S).bind fun ov S1 => match ov with
  | .ref n => match S1[n]? with
    | some (.lst _) => (t Γ S1).bind fun vs S2 => match vs, S2[n]? with
      | [.ref m], some (.lst xs) => match S2[m]? with
        | some (.lst ys) => if xs.length + ys.length ≤ sizeLine then .ok .non (S2.set n (.lst (xs ++ ys))) else .bad
        | _ => .bad
      | _, _ => .bad
    | _ => .bad
  | _ => .bad
theorem pm_extend {o e : Expr} {es : List Expr} {mo : ME} {t : MA} {apos cpos : Pos} (ho : PM X W o mo) (ht : PMA X W (e :: es) t)
    (hbase : attributeBase o "extend" X.env (eval o X.env) = eval o X.env := by rfl)
    (hfew : ((backTo cpos (starEach (e :: es) X.env)).all (fun x => !x.1) && (backToKw cpos (keywordEach [] X.env)).all (fun x => x.1.isSome)
      && decide ((e :: es).length + ([] : List Keyword).length + (if ([] : List Keyword).isEmpty then 0 else 1) < 30)) = true := by rfl)
    (hline : (apos.endLine == cpos.line) = true := by rfl) (hs : starEach (e :: es) X.env = (false, eval e X.env) :: starEach es X.env := by rfl) (hplain : (backTo cpos (starEach es X.env)).any (·.1) = false := by rfl) :
    PM X W (.Call (.Attribute o "extend" apos) (e :: es) [] cpos) (mExt mo t) := by
  refine pe_imp (pe_bm PySem.F.plainAttrs_list PySem.F.slot_list_extend PySem.F.type_list_extend mt_extend ho ht hbase hfew hline hs hplain) fun σ H Q ⟨ρ, Γ, S, R, G, q⟩ => ?_
  refine ⟨ρ, Γ, S, R, G, q.bind fun ov S1 ρ1 H1 x E1 R1 rx q1 => ?_⟩
  cases ov with
  | ref n =>
    obtain ⟨a, ha, rfl⟩ := rx
    cases e : S1[n]? with
    | none => simp only [e] at q1; exact q1.elim
    | some ob =>
      cases ob with
      | setT _ => simp only [e] at q1; exact q1.elim
      | raw _ => simp only [e] at q1; exact q1.elim
      | tbl _ => simp only [e] at q1; exact q1.elim
      | dct _ => simp only [e] at q1; exact q1.elim
      | lst xs1 =>
        simp only [e] at q1
        obtain ⟨_, ws1, h1, _⟩ := R1.at_ n a _ ha e
        refine ⟨.inl ⟨rfl, ws1, SqL.of h1⟩, ρ1, Γ, S1, R1, G.ext E1, q1.bind fun vs S2 ρ2 H2 ys E2 R2 ry q2 => ?_⟩
        cases vs with
        | nil => exact q2.elim
        | cons v r =>
          cases r with
          | cons _ _ => cases v <;> exact q2.elim
          | nil =>
            obtain ⟨y, rfl, r1⟩ := one_of ry rfl
            have ha2 := E2.get ha
            cases v with
            | ref m =>
              obtain ⟨b, hb, rfl⟩ := r1
              cases e2 : S2[n]? with
              | none => simp only [e2] at q2; exact q2.elim
              | some ob =>
                cases ob with
                | setT _ => simp only [e2] at q2; exact q2.elim
                | raw _ => simp only [e2] at q2; exact q2.elim
                | tbl _ => simp only [e2] at q2; exact q2.elim
                | dct _ => simp only [e2] at q2; exact q2.elim
                | lst xs =>
                  cases e3 : S2[m]? with
                  | none => simp only [e2, e3] at q2; exact q2.elim
                  | some ob =>
                    cases ob with
                    | setT _ => simp only [e2, e3] at q2; exact q2.elim
                    | raw _ => simp only [e2, e3] at q2; exact q2.elim
                    | tbl _ => simp only [e2, e3] at q2; exact q2.elim
                    | dct _ => simp only [e2, e3] at q2; exact q2.elim
                    | lst zs =>
                      simp only [e2, e3] at q2
                      obtain ⟨_, ws, h4, h5⟩ := R2.at_ n a _ ha2 e2
                      obtain ⟨_, us, h6, h7⟩ := R2.at_ m b _ hb e3
                      by_cases hl : xs.length + zs.length ≤ sizeLine
                      · rw [if_pos hl] at q2
                        refine ⟨a, b, ws, us, rfl, rfl, h4, h6, by rw [← h5.len, ← h7.len]; exact hl, ?_⟩
                        obtain ⟨E3, R3⟩ := R2.put ha2 e2 (by rw [List.length_append]; exact hl) (h5.app h7)
                        exact q2 ρ2 _ _ E3 R3 rfl
                      · rw [if_neg hl] at q2
                        exact q2.elim
            | _ => exact q2.elim
  | _ => exact q1.elim
/-! ### o[i] op= e, a list -/
def sAugSub (f : F2) (o i m : ME) : MS := fun Γ S => thenS Γ (o Γ S) fun ov S1 => thenS Γ (i Γ S1) fun iv S2 => match ov, iv with
  | .ref n, .int k => match S2[n]? with
    | some (.lst xs) => match L2.atI xs k with
      | some x => thenS Γ (m Γ S2) fun v S3 => thenS Γ (lift (f x v S3)) fun z S4 => match S4[n]? with
        | some (.lst ys) => match ixN ys.length k with
          | some j => .nx Γ (S4.set n (.lst (ys.set j z)))
          | none => .bad
        | _ => .bad
      | none => .bad
    | _ => .bad
  | _, _ => .bad
theorem get_list : PGet X (rIxL X.K) := by
  intro pins s σ H x y v u Q I rx ry h
  obtain ⟨p, xs, i, z, rfl, rfl, hq, he, q⟩ := h
  cases rx
  obtain ⟨t, rfl⟩ := ry
  obtain ⟨its, r, pl, hz⟩ := I.list hq
  obtain ⟨j, h1, h2, h3, h4, h5⟩ := atI_get he
  obtain ⟨w, ew, rw'⟩ := r.get h2
  have hl := r.length
  have hn := line63
  have fin : EP X pins σ Q w s := ⟨z, H, I, rw', q⟩
  by_cases h0 : 0 ≤ i
  · have hj : i.toNat = j := by
      rw [seqIndex_of h0 h5] at h1
      exact Option.some.inj h1
    exact wpAny_getItem_list pl.isList h0 (by omega) (by rw [hj]; simpa using ew) fin
  · have hj : (i + (its.toArray.size : Int)).toNat = j := by
      rw [seqIndex_neg (by omega) h4] at h1
      rw [List.size_toArray, ← hl]
      exact Option.some.inj h1
    exact wpAny_getItem_list_neg pl.isList (by omega) (by rw [List.size_toArray] <;> omega) (by omega) (by rw [hj]; simpa using ew) fin
theorem pms_augSub {o i e : Expr} {mo mi m : ME} {op : Operator} {f : F2} {tpos pos : Pos} (hf : IpP X op f) (ho : PM X W o mo) (hi : PM X W i mi) (h : PM X W e m)
    (ha : ∀ ov iv new, augStore i ov iv new = (do holding [new, ov, iv] (setItem ov iv new); release [new, ov, iv] []; pure .next) := by intros; rfl) : PMS X W (.AugAssign (.Subscript o i tpos) op e pos) (sAugSub f mo mi m) := by
  obtain ⟨r, hr, hm⟩ := hf
  refine ps_imp (ps_augS (pos := pos) ho hi get_list h hr set_list ha) fun D σ H ⟨ρ, Γ, S, R, G, q⟩ => ?_
  refine ⟨ρ, Γ, S, R, G, AftS.bind G q fun ov S1 ρ1 H1 x E1 R1 rx q1 => ?_⟩
  refine ⟨ρ1, Γ, S1, R1, G.ext E1, AftS.bind (G.ext E1) q1 fun iv S2 ρ2 H2 y E2 R2 ry q2 => ?_⟩
  cases ov with
  | ref n =>
    cases iv with
    | int k =>
      obtain ⟨a, ha, rfl⟩ := rx.ext E2
      cases ry
      cases e1 : S2[n]? with
      | none => simp only [e1] at q2; exact q2.elim
      | some ob =>
        cases ob with
        | setT _ => simp only [e1] at q2; exact q2.elim
        | raw _ => simp only [e1] at q2; exact q2.elim
        | tbl _ => simp only [e1] at q2; exact q2.elim
        | dct _ => simp only [e1] at q2; exact q2.elim
        | lst xs =>
          simp only [e1] at q2
          obtain ⟨hl, ws, h1, h2⟩ := R2.at_ n a _ ha e1
          cases e2 : L2.atI xs k with
          | none => simp only [e2] at q2; exact q2.elim
          | some x =>
            simp only [e2] at q2
            obtain ⟨u, h3, r3⟩ := h2.atI e2
            have G2 := (G.ext E1).ext E2
            refine ⟨a, ws, k, u, rfl, rfl, SqL.of h1, h3, ρ2, Γ, S2, R2, G2, AftS.bind G2 q2 fun v S3 ρ3 H3 y E3 R3 ry q3 => ?_⟩
            refine hm ρ3 S3 H3 x v u y _ R3 (r3.ext E3) ry ?_
            cases e3 : f x v S3 with
            | none => rw [e3] at q3; exact q3.elim
            | some p =>
              obtain ⟨z, S4⟩ := p
              rw [e3] at q3
              intro ρ4 H4 z' E4 R4 rz
              have q3 : AftS (kxOf X) W D ρ3 H3 (match S4[n]? with
                | some (.lst ys) => match ixN ys.length k with
                  | some j => .nx Γ (S4.set n (.lst (ys.set j z)))
                  | none => .bad
                | _ => .bad) := q3
              have ha4 := E4.get (E3.get ha)
              cases e4 : S4[n]? with
              | none => simp only [e4] at q3; exact q3.elim
              | some ob =>
                cases ob with
                | setT _ => simp only [e4] at q3; exact q3.elim
                | raw _ => simp only [e4] at q3; exact q3.elim
                | tbl _ => simp only [e4] at q3; exact q3.elim
                | dct _ => simp only [e4] at q3; exact q3.elim
                | lst ys =>
                  simp only [e4] at q3
                  obtain ⟨hl4, ws4, h5, h6⟩ := R4.at_ n a _ ha4 e4
                  cases e5 : ixN ys.length k with
                  | none => simp only [e5] at q3; exact q3.elim
                  | some j =>
                    simp only [e5] at q3
                    refine ⟨a, ws4, k, j, rfl, rfl, h5, by rw [← h6.len]; exact e5, ?_⟩
                    obtain ⟨E5, R5⟩ := R4.put ha4 e4 (by rw [List.length_set]; exact hl4) (h6.set j rz)
                    exact q3 ρ4 _ σ (E4.trans E5) R5 (((G2.ext E3).ext E4).ext E5)
    | _ => exact q2.elim
  | _ => exact q2.elim
end
end PM

namespace PM
open PySem PySem.Spec PyProof.Rows L2 Q2
/-! ### comprehensions of two clauses: the list stands in the store from the start -/
def putG (n : Nat) (v : Va) (S : Sto) : Option Sto := match S[n]? with
  | some (.lst xs) => if xs.length < sizeLine then some (S.set n (.lst (xs ++ [v]))) else none
  | _ => none
def compG (n : Nat) (it : ItV) (g : MG) (mt : MT) (me : ME) (Γ : En) : Nat → Nat → Sto → Res Unit
  | 0, i, S => match it.get i S with
    | some none => .ok () S
    | _ => .bad
  | k + 1, i, S => match it.get i S with
    | some none => .ok () S
    | none => .bad
    | some (some x) => (g x Γ S).bindN fun Γ1 S1 => (mt Γ1 S1).bindN fun b S2 => if b = true then (me Γ1 S2).bindN fun y S3 => match putG n y S3 with
        | some S4 => compG n it g mt me Γ k (i + 1) S4
        | none => .bad
        else compG n it g mt me Γ k (i + 1) S2
def comp2G (n : Nat) (it : ItV) (g : MG) (mt : MT) (mi1 : MI) (g1 : MG) (mt1 : MT) (me : ME) (vs1 : List Nat) (Γ : En) : Nat → Nat → Sto → Res Unit
  | 0, i, S => match it.get i S with
    | some none => .ok () S
    | _ => .bad
  | k + 1, i, S => match it.get i S with
    | some none => .ok () S
    | none => .bad
    | some (some x) => (g x Γ S).bindN fun Γ1 S1 => (mt Γ1 S1).bindN fun b S2 => if b = true then (mi1 Γ1 S2).bindN fun it1 S3 => (compG n it1 g1 mt1 me (wipeE Γ1 vs1) (it1.fuel S3) 0 S3).bindN fun _ S4 => comp2G n it g mt mi1 g1 mt1 me vs1 Γ k (i + 1) S4
        else comp2G n it g mt mi1 g1 mt1 me vs1 Γ k (i + 1) S2
def mLc2 (mi : MI) (g : MG) (mt : MT) (mi1 : MI) (g1 : MG) (mt1 : MT) (me : ME) (vs vs1 : List Nat) : ME := fun Γ S => (mi Γ S).bind fun it S1 => (comp2G S1.length it g mt mi1 g1 mt1 me vs1 (wipeE Γ vs) (it.fuel S1) 0 (S1 ++ [.lst []])).bindN fun _ S2 => .ok (.ref S1.length) S2
section
variable {X : Cx} {W : XW}
theorem lc2_imp {K : KX} {mi mi1 : MI} {g g1 : MG} {mt mt1 : MT} {me : ME} {us us1 vs vs1 : List Nat} (sub : ∀ i ∈ us, i ∈ vs) (sub1 : ∀ i ∈ us1, i ∈ vs1) (σ : L2.St) (H : Hp) (Q : VK) (h : tM K W (mLc2 mi g mt mi1 g1 mt1 me vs vs1) σ H Q) :
    tLc2 (tMI K W mi) (tMG K WF us g) (tMT K WF mt) (tMI K WF mi1) (tMG K WF us1 g1) (tMT K WF mt1) (tM K WF me) vs vs1 σ H Q := by
  obtain ⟨ρ, Γ, S, R, G, q⟩ := h
  refine ⟨ρ, Γ, S, R, G, q.bind fun it S1 ρ1 H1 J E1 R1 hJ q1 => ?_⟩
  intro D nD
  obtain ⟨E2, R2⟩ := R1.new (xs := []) (ws := []) nD (Nat.zero_le _) rfl
  generalize hn : S1.length = n at q1
  have hD0 : (ρ1 ++ [D])[n]? = some D := by rw [← hn, ← R1.len, List.getElem?_append_right (Nat.le_refl _), Nat.sub_self]; rfl
  refine ⟨fun i m H' => ∃ ρ' S', Ext (ρ1 ++ [D]) ρ' (upd H1 D (.lst [])) H' ∧ RS K ρ' S' H' ∧ Aft K W σ (Rv K) Q ρ1 H1 ((comp2G n it g mt mi1 g1 mt1 me vs1 (wipeE Γ vs) m i S').bindN fun _ S2 => .ok (.ref n) S2), ⟨_, _, _, R2.refl, R2, q1⟩, ?_⟩
  rintro i m H' ⟨ρ', S', E', R', q'⟩
  have EE := E2.trans E'
  have hD := E'.get hD0
  have stop : J.stop i H' → Aft K W σ (Rv K) Q ρ1 H1 (Res.ok (.ref n) S') → J.stop i H' ∧ Q (.ref D) H' := fun h1 h2 => ⟨h1, h2 ρ' H' (.ref D) EE R' ⟨D, hD, rfl⟩⟩
  have go := hJ ρ' S' H' EE R' i
  cases m with
  | zero =>
    unfold comp2G at q'
    cases e : it.get i S' with
    | none => rw [e] at q'; exact q'.elim
    | some o =>
      cases o with
      | some x => rw [e] at q'; exact q'.elim
      | none =>
        rw [e] at q' go
        exact .inl (stop go q')
  | succ k =>
    unfold comp2G at q'
    cases e : it.get i S' with
    | none => rw [e] at q'; exact q'.elim
    | some o =>
      cases o with
      | none =>
        rw [e] at q' go
        exact .inl (stop go q')
      | some x =>
        rw [e] at q' go
        refine .inr ⟨go.1, fun H2 => ∃ ρ2 S2, Ext (ρ1 ++ [D]) ρ2 (upd H1 D (.lst [])) H2 ∧ RS K ρ2 S2 H2 ∧ Aft K W σ (Rv K) Q ρ1 H1 ((comp2G n it g mt mi1 g1 mt1 me vs1 (wipeE Γ vs) k (i + 1) S2).bindN fun _ S2 => .ok (.ref n) S2), fun H2 h => ⟨k, Nat.lt_succ_self k, h⟩, fun y H2 hy => ?_⟩
        obtain ⟨E3, R3, r3⟩ := go.2 y H2 hy
        have G3 : RE K ρ' H2 (wipeE Γ vs) (L2.wipe σ vs) := (((G.ext E1).ext EE).ext E3).wipe vs
        have q' : Aft K W σ (Rv K) Q ρ1 H1 (((g x (wipeE Γ vs) S').bindN fun Γ1 S1 => (mt Γ1 S1).bindN fun b S2 => if b = true then (mi1 Γ1 S2).bindN fun it1 S3 => (compG n it1 g1 mt1 me (wipeE Γ1 vs1) (it1.fuel S3) 0 S3).bindN fun _ S4 => comp2G n it g mt mi1 g1 mt1 me vs1 (wipeE Γ vs) k (i + 1) S4
          else comp2G n it g mt mi1 g1 mt1 me vs1 (wipeE Γ vs) k (i + 1) S2).bindN fun _ S2 => .ok (.ref n) S2) := q'
        refine ⟨ρ', wipeE Γ vs, S', x, R3, G3, r3, ?_⟩
        cases eg : g x (wipeE Γ vs) S' with
        | bad => rw [eg] at q'; exact q'.elim
        | ex a b c d => rw [eg] at q'; exact q'.elim
        | ok Γ4 S4 =>
          rw [eg, bindN_ok] at q'
          rintro ρ4 H4 σ4 E4 R4 ⟨G4, ag⟩
          refine ⟨(ag vs sub).trans (wipe_wipe σ vs), ρ4, Γ4, S4, R4, G4, ?_⟩
          cases et : mt Γ4 S4 with
          | bad => rw [et] at q'; exact q'.elim
          | ex a b c d => rw [et] at q'; exact q'.elim
          | ok b S5 =>
            rw [et, bindN_ok] at q'
            rintro ρ5 H5 b' E5 R5 rfl
            have E15 : Ext (ρ1 ++ [D]) ρ5 (upd H1 D (.lst [])) H5 := ((E'.trans E3).trans E4).trans E5
            cases b' with
            | false => exact iteF ⟨ρ5, S5, E15, R5, q'⟩
            | true =>
              refine iteT ⟨ρ5, Γ4, S5, R5, G4.ext E5, ?_⟩
              rw [if_pos rfl] at q'
              cases em : mi1 Γ4 S5 with
              | bad => rw [em] at q'; exact q'.elim
              | ex a b c d => rw [em] at q'; exact q'.elim
              | ok it1 S6 =>
                rw [em, bindN_ok] at q'
                intro ρ6 H6 J1 E6 R6 hJ1
                have G6 := (G4.ext E5).ext E6
                refine ⟨fun j kk H' => ∃ ρ' S', Ext ρ6 ρ' H6 H' ∧ RS K ρ' S' H' ∧ Aft K W σ (Rv K) Q ρ1 H1 (((compG n it1 g1 mt1 me (wipeE Γ4 vs1) kk j S').bindN fun _ S4 => comp2G n it g mt mi1 g1 mt1 me vs1 (wipeE Γ vs) k (i + 1) S4).bindN fun _ S2 => .ok (.ref n) S2), ⟨_, ρ6, S6, R6.refl, R6, q'⟩, ?_⟩
                rintro j kk H7 ⟨ρ7, S7, E7, R7, q7⟩
                have E17 : Ext (ρ1 ++ [D]) ρ7 (upd H1 D (.lst [])) H7 := (E15.trans E6).trans E7
                have go1 := hJ1 ρ7 S7 H7 E7 R7 j
                cases kk with
                | zero =>
                  unfold compG at q7
                  cases e1 : it1.get j S7 with
                  | none => rw [e1] at q7; exact q7.elim
                  | some o =>
                    cases o with
                    | some x => rw [e1] at q7; exact q7.elim
                    | none =>
                      rw [e1] at q7 go1
                      exact .inl ⟨go1, ρ7, S7, E17, R7, q7⟩
                | succ k1 =>
                  unfold compG at q7
                  cases e1 : it1.get j S7 with
                  | none => rw [e1] at q7; exact q7.elim
                  | some o =>
                    cases o with
                    | none =>
                      rw [e1] at q7 go1
                      exact .inl ⟨go1, ρ7, S7, E17, R7, q7⟩
                    | some x1 =>
                      rw [e1] at q7 go1
                      refine .inr ⟨go1.1, fun H2 => ∃ ρ2 S2, Ext ρ6 ρ2 H6 H2 ∧ RS K ρ2 S2 H2 ∧ Aft K W σ (Rv K) Q ρ1 H1 (((compG n it1 g1 mt1 me (wipeE Γ4 vs1) k1 (j + 1) S2).bindN fun _ S4 => comp2G n it g mt mi1 g1 mt1 me vs1 (wipeE Γ vs) k (i + 1) S4).bindN fun _ S2 => .ok (.ref n) S2), fun H2 h => ⟨k1, Nat.lt_succ_self k1, h⟩, fun y1 H8 hy1 => ?_⟩
                      obtain ⟨E8, R8, r8⟩ := go1.2 y1 H8 hy1
                      have G8 : RE K ρ7 H8 (wipeE Γ4 vs1) (L2.wipe σ4 vs1) := ((G6.ext E7).ext E8).wipe vs1
                      have q7 : Aft K W σ (Rv K) Q ρ1 H1 ((((g1 x1 (wipeE Γ4 vs1) S7).bindN fun Γ1 S1 => (mt1 Γ1 S1).bindN fun b S2 => if b = true then (me Γ1 S2).bindN fun y S3 => match putG n y S3 with
                        | some S4 => compG n it1 g1 mt1 me (wipeE Γ4 vs1) k1 (j + 1) S4
                        | none => .bad
                        else compG n it1 g1 mt1 me (wipeE Γ4 vs1) k1 (j + 1) S2).bindN fun _ S4 => comp2G n it g mt mi1 g1 mt1 me vs1 (wipeE Γ vs) k (i + 1) S4).bindN fun _ S2 => .ok (.ref n) S2) := q7
                      refine ⟨ρ7, wipeE Γ4 vs1, S7, x1, R8, G8, r8, ?_⟩
                      cases eg1 : g1 x1 (wipeE Γ4 vs1) S7 with
                      | bad => rw [eg1] at q7; exact q7.elim
                      | ex a b c d => rw [eg1] at q7; exact q7.elim
                      | ok Γ9 S9 =>
                        rw [eg1, bindN_ok] at q7
                        rintro ρ9 H9 σ9 E9 R9 ⟨G9, ag9⟩
                        refine ⟨(ag9 vs1 sub1).trans (wipe_wipe σ4 vs1), ρ9, Γ9, S9, R9, G9, ?_⟩
                        cases et1 : mt1 Γ9 S9 with
                        | bad => rw [et1] at q7; exact q7.elim
                        | ex a b c d => rw [et1] at q7; exact q7.elim
                        | ok b1 S10 =>
                          rw [et1, bindN_ok] at q7
                          rintro ρ10 H10 b1' E10 R10 rfl
                          have E710 : Ext ρ6 ρ10 H6 H10 := ((E7.trans E8).trans E9).trans E10
                          cases b1' with
                          | false => exact iteF ⟨ρ10, S10, E710, R10, q7⟩
                          | true =>
                            refine iteT ⟨ρ10, Γ9, S10, R10, G9.ext E10, ?_⟩
                            rw [if_pos rfl] at q7
                            cases ee : me Γ9 S10 with
                            | bad => rw [ee] at q7; exact q7.elim
                            | ex a b c d => rw [ee] at q7; exact q7.elim
                            | ok z S11 =>
                              rw [ee, bindN_ok] at q7
                              intro ρ11 H11 z' E11 R11 rz
                              have hD11 : ρ11[n]? = some D := ((E15.trans E6).trans (E710.trans E11)).get hD0
                              cases ep : putG n z S11 with
                              | none => simp only [ep] at q7; exact q7.elim
                              | some S12 =>
                                simp only [ep] at q7
                                unfold putG at ep
                                cases es : S11[n]? with
                                | none => rw [es] at ep; cases ep
                                | some ob =>
                                  rw [es] at ep
                                  cases ob with
                                  | setT _ => cases ep
                                  | raw _ => cases ep
                                  | tbl _ => cases ep
                                  | dct _ => cases ep
                                  | lst xs =>
                                    simp only at ep
                                    by_cases hl : xs.length < sizeLine
                                    · rw [if_pos hl] at ep
                                      cases ep
                                      obtain ⟨_, ws, hw, rw'⟩ := R11.at_ n D _ hD11 es
                                      obtain ⟨E12, R12⟩ := R11.put hD11 es (xs := xs ++ [z]) (ws := ws ++ [z']) (by rw [List.length_append]; exact hl) (rw'.app (Rvs.cons rz Rvs.nil))
                                      exact ⟨ws, hw, by rw [← rw'.len]; exact hl, ρ11, _, (E710.trans E11).trans E12, R12, q7⟩
                                    · rw [if_neg hl] at ep
                                      cases ep
section
variable {elt tg iter tg1 iter1 : Expr} {ifs ifs1 : List Expr} {scope : Scope} {own : List (Str × Nat)} {vs1 us us1 : List Nat} {pos : Pos} {mi mi1 : MI} {g g1 : MG} {mt mt1 : MT} {me : ME}
theorem pm_lc2 (hc : X.calm = true) (hN : X.N.Nodup) (hi : PMI X W tg iter mi) (ok : BlkOk X.N X.env.scope scope own) (hv : ∀ i ∈ vs1, i ∈ own.map (·.2)) (sub : ∀ i ∈ us, i ∈ own.map (·.2)) (sub1 : ∀ i ∈ us1, i ∈ vs1)
    (hg : ∀ (s : Shared) (H : Hp) (C : Addr) (cl : List (Str × Addr)) (fp : List Addr), PMG (X.blk s H scope (compEnvC scope cl C X.env) fp) WF us tg g) (ht : ∀ (s : Shared) (H : Hp) (C : Addr) (cl : List (Str × Addr)) (fp : List Addr), PMTs (X.blk s H scope (compEnvC scope cl C X.env) fp) WF ifs mt)
    (hi1 : ∀ (s : Shared) (H : Hp) (C : Addr) (cl : List (Str × Addr)) (fp : List Addr), PMI (X.blk s H scope (compEnvC scope cl C X.env) fp) WF tg1 iter1 mi1)
    (hg1 : ∀ (s : Shared) (H : Hp) (C : Addr) (cl : List (Str × Addr)) (fp : List Addr), PMG (X.blk s H scope (compEnvC scope cl C X.env) fp) WF us1 tg1 g1) (ht1 : ∀ (s : Shared) (H : Hp) (C : Addr) (cl : List (Str × Addr)) (fp : List Addr), PMTs (X.blk s H scope (compEnvC scope cl C X.env) fp) WF ifs1 mt1)
    (he : ∀ (s : Shared) (H : Hp) (C : Addr) (cl : List (Str × Addr)) (fp : List Addr), PM (X.blk s H scope (compEnvC scope cl C X.env) fp) WF elt me) (hs : ∀ x, foldedSetIterable iter X.env x = pure x := by intro _; rfl) (hs1 : ∀ env x, foldedSetIterable iter1 env x = pure x := by intro _ _; rfl) :
    PM X W (.ListComp elt [⟨tg, iter, ifs, 0⟩, ⟨tg1, iter1, ifs1, 0⟩] scope pos) (mLc2 mi g mt mi1 g1 mt1 me (own.map (·.2)) vs1) :=
  pe_imp (pe_lc2 (g := tMG (kxOf X) WF us g) (tt := tMT (kxOf X) WF mt) (wi1 := tMI (kxOf X) WF mi1) (g1 := tMG (kxOf X) WF us1 g1) (tt1 := tMT (kxOf X) WF mt1) (te := tM (kxOf X) WF me) hc hN hi ok hv hg ht hi1 hg1 ht1 he hs hs1) (lc2_imp sub sub1)
theorem pms_lc2 {i : Nat} {y : Str} {py spos : Pos} (hc : X.calm = true) (hN : X.N.Nodup) (hy : X.N[i]? = some y) (hyl : X.env.scope.names.lookup y = some .local)
    (hsw : swapsWith (.ListComp elt [⟨tg, iter, ifs, 0⟩, ⟨tg1, iter1, ifs1, 0⟩] scope pos) (some (.Name y py)) spos.line X.env = pure true) (hi : PMI X W tg iter mi) (ok : BlkOk X.N X.env.scope scope own) (hv : ∀ i ∈ vs1, i ∈ own.map (·.2)) (sub : ∀ i ∈ us, i ∈ own.map (·.2)) (sub1 : ∀ i ∈ us1, i ∈ vs1)
    (hg : ∀ (s : Shared) (H : Hp) (C : Addr) (cl : List (Str × Addr)) (fp : List Addr), PMG (X.blk s H scope (compEnvC scope cl C X.env) fp) WF us tg g) (ht : ∀ (s : Shared) (H : Hp) (C : Addr) (cl : List (Str × Addr)) (fp : List Addr), PMTs (X.blk s H scope (compEnvC scope cl C X.env) fp) WF ifs mt)
    (hi1 : ∀ (s : Shared) (H : Hp) (C : Addr) (cl : List (Str × Addr)) (fp : List Addr), PMI (X.blk s H scope (compEnvC scope cl C X.env) fp) WF tg1 iter1 mi1)
    (hg1 : ∀ (s : Shared) (H : Hp) (C : Addr) (cl : List (Str × Addr)) (fp : List Addr), PMG (X.blk s H scope (compEnvC scope cl C X.env) fp) WF us1 tg1 g1) (ht1 : ∀ (s : Shared) (H : Hp) (C : Addr) (cl : List (Str × Addr)) (fp : List Addr), PMTs (X.blk s H scope (compEnvC scope cl C X.env) fp) WF ifs1 mt1)
    (he : ∀ (s : Shared) (H : Hp) (C : Addr) (cl : List (Str × Addr)) (fp : List Addr), PM (X.blk s H scope (compEnvC scope cl C X.env) fp) WF elt me) (hs : ∀ x, foldedSetIterable iter X.env x = pure x := by intro _; rfl) (hs1 : ∀ env x, foldedSetIterable iter1 env x = pure x := by intro _ _; rfl) :
    PMS X W (.Assign [.Name y py] (.ListComp elt [⟨tg, iter, ifs, 0⟩, ⟨tg1, iter1, ifs1, 0⟩] scope pos) spos) (sSet i (mLc2 mi g mt mi1 g1 mt1 me (own.map (·.2)) vs1)) :=
  pms_set (ps_imp (ps_setLc2 (g := tMG (kxOf X) WF us g) (tt := tMT (kxOf X) WF mt) (wi1 := tMI (kxOf X) WF mi1) (g1 := tMG (kxOf X) WF us1 g1) (tt1 := tMT (kxOf X) WF mt1) (te := tM (kxOf X) WF me) hc hN hy hyl hsw hi ok hv hg ht hi1 hg1 ht1 he hs hs1) fun D σ H h => lc2_imp sub sub1 σ H _ h)
end
end
end PM

namespace PM
open PySem PySem.Spec PyProof.Rows L2 Q2 RZ
section
variable {X : Cx} {W : XW}
/-! ### zip of two lists, of two tuples -/
def zipT2 (v w : Va) (S : Sto) : Res ItV := match v, w with
  | .tup xs, .tup ys => .ok (.zipT xs ys) S
  | _, _ => .bad
def zipOf (v w : Va) (S : Sto) : Res ItV := match lstOf S v, lstOf S w with
  | some _, some _ => .ok (.zip v w) S
  | _, _ => zipT2 v w S
def mZip (t : MA) : MI := fun Γ S => (t Γ S).bind fun vs S1 => match vs with
  | [v, w] => zipOf v w S1
  | _ => .bad
theorem pair_yld {K : KX} {ρ : List Addr} {S : Sto} {H H' : Hp} {x y : Va} {u v z : V} {T : Addr} (R : RS K ρ S H) (hx : Rv K ρ H x u) (hy : Rv K ρ H y v) (e : z = .ref T) (nT : H T = none) (e2 : H' = upd H T (.tup [u, v])) : Ext ρ ρ H H' ∧ RS K ρ S H' ∧ Rv K ρ H' (.tup [x, y]) z := by
  subst e
  subst e2
  obtain ⟨E, R2⟩ := R.own (o := .tup [u, v]) nT
  exact ⟨E, R2, T, [u, v], rfl, SqT.of upd_same, Rvs.cons (hx.ext E) (Rvs.cons (hy.ext E) rfl)⟩
theorem pmi_zip {e e2 : Expr} {t : MA} {p pos tpos : Pos} {elts : List Expr} {kk : Nat} (hg : Gl X "zip") (hm : X.mg "zip" = none) (ha : PMA X W [e, e2] t)
    (hs : starEach [e, e2] X.env = (false, eval e X.env) :: starEach [e2] X.env := by rfl) (hpl : (backTo pos (starEach [e2] X.env)).any (·.1) = false := by rfl) :
    PMI X W (.Tuple elts kk tpos) (.Call (.Name "zip" p) [e, e2] [] pos) (mZip t) := by
  refine pi_imp (pi_zipA hg hm ha hs hpl) fun σ H R' ⟨ρ, Γ, S, R, G, q⟩ => ?_
  refine ⟨ρ, Γ, S, R, G, q.bind fun vs S1 ρ1 H1 ws E1 R1 rx q1 => ?_⟩
  match vs, rx, q1 with
  | [], _, q1 => exact q1.elim
  | [_], _, q1 => exact q1.elim
  | _ :: _ :: _ :: _, _, q1 => exact q1.elim
  | [v, w], rx, q1 =>
    obtain ⟨x, y, rfl, r1, r2⟩ := two_of rx rfl
    have q1 : Aft (kxOf X) W σ (ItOk (kxOf X)) R' ρ1 H1 (zipOf v w S1) := q1
    unfold zipOf at q1
    have tupCase : (∀ xs ys, lstOf S1 v = some xs → lstOf S1 w = some ys → False) → ∃ xs ys, v = .tup xs ∧ w = .tup ys ∧ Aft (kxOf X) W σ (ItOk (kxOf X)) R' ρ1 H1 (.ok (.zipT xs ys) S1) := by
      intro hno
      have q2 : Aft (kxOf X) W σ (ItOk (kxOf X)) R' ρ1 H1 (zipT2 v w S1) := by
        cases ea : lstOf S1 v with
        | none => simp only [ea] at q1; exact q1
        | some xs =>
          cases eb : lstOf S1 w with
          | none => simp only [ea, eb] at q1; exact q1
          | some ys => exact (hno xs ys ea eb).elim
      cases v with
      | tup xs =>
        cases w with
        | tup ys => exact ⟨xs, ys, rfl, rfl, q2⟩
        | _ => exact q2.elim
      | _ => exact q2.elim
    by_cases hl : ∃ xs ys, lstOf S1 v = some xs ∧ lstOf S1 w = some ys
    · obtain ⟨xs, ys, ea, eb⟩ := hl
      simp only [ea, eb] at q1
      obtain ⟨a, us, rfl, h1, h2⟩ := lst_of R1 r1 ea
      obtain ⟨b, zs, rfl, h3, h4⟩ := lst_of R1 r2 eb
      refine ⟨a, b, us, zs, rfl, .inl ⟨h1, h3, q1 ρ1 H1 (Itz X.K a b) R1.refl R1 fun ρ' S' H' E' R'' i => ?_⟩⟩
      cases ea' : lstOf S' v with
      | none => simp only [ItV.get, ea']
      | some xs' =>
        cases eb' : lstOf S' w with
        | none => simp only [ItV.get, ea', eb']
        | some ys' =>
          obtain ⟨a', us', e1, h1', h2'⟩ := lst_of R'' (r1.ext E') ea'
          cases e1
          obtain ⟨b', zs', e2, h3', h4'⟩ := lst_of R'' (r2.ext E') eb'
          cases e2
          cases ex : xs'[i]? with
          | none =>
            simp only [ItV.get, ea', eb', ex, pair2]
            refine ⟨us', zs', h1', h3', .inl ?_⟩
            rw [← h2'.len]
            exact List.getElem?_eq_none_iff.mp ex
          | some x =>
            cases ey : ys'[i]? with
            | none =>
              simp only [ItV.get, ea', eb', ex, ey, pair2]
              refine ⟨us', zs', h1', h3', .inr ?_⟩
              rw [← h4'.len]
              exact List.getElem?_eq_none_iff.mp ey
            | some y =>
              obtain ⟨u, hu, ru⟩ := h2'.get ex
              obtain ⟨z, hz, rz⟩ := h4'.get ey
              simp only [ItV.get, ea', eb', ex, ey, pair2]
              refine ⟨⟨us', zs', u, z, h1', h3', hu, hz⟩, fun v' H'' hy => ?_⟩
              obtain ⟨T, p1, p2, e3, e4, e5, e6, e7⟩ := hy
              have k1 := e6 _ h1'
              have k2 := e7 _ h3'
              rw [hu] at k1
              rw [hz] at k2
              cases k1
              cases k2
              exact pair_yld R'' ru rz e3 e4 e5
    · obtain ⟨xs, ys, rfl, rfl, q2⟩ := tupCase fun xs ys h1 h2 => hl ⟨xs, ys, h1, h2⟩
      obtain ⟨a, us, rfl, h1, h2⟩ := r1
      obtain ⟨b, zs, rfl, h3, h4⟩ := r2
      refine ⟨a, b, us, zs, rfl, .inr ⟨h1, h3, q2 ρ1 H1 (ItzT X.K a b) R1.refl R1 fun ρ' S' H' E' R'' i => ?_⟩⟩
      have h1' := E'.sqt (K := kxOf X) h1
      have h3' := E'.sqt (K := kxOf X) h3
      have h2' := Rvs.ext E' h2
      have h4' := Rvs.ext E' h4
      cases ex : xs[i]? with
      | none =>
        simp only [ItV.get, ex, pair2]
        refine ⟨us, zs, h1', h3', .inl ?_⟩
        rw [← h2.len]
        exact List.getElem?_eq_none_iff.mp ex
      | some x =>
        cases ey : ys[i]? with
        | none =>
          simp only [ItV.get, ex, ey, pair2]
          refine ⟨us, zs, h1', h3', .inr ?_⟩
          rw [← h4.len]
          exact List.getElem?_eq_none_iff.mp ey
        | some y =>
          obtain ⟨u, hu, ru⟩ := h2'.get ex
          obtain ⟨z, hz, rz⟩ := h4'.get ey
          simp only [ItV.get, ex, ey, pair2]
          refine ⟨⟨us, zs, u, z, h1', h3', hu, hz⟩, fun v' H'' hy => ?_⟩
          obtain ⟨T, p1, p2, e3, e4, e5, e6, e7⟩ := hy
          have k1 := e6 _ h1'
          have k2 := e7 _ h3'
          rw [hu] at k1
          rw [hz] at k2
          cases k1
          cases k2
          exact pair_yld R'' ru rz e3 e4 e5
end
section
variable {X : Cx}
/-! ### x *= e -/
theorem iop_mulW : OpR X (inplaceOp .Mult) (rI CMulW fun i j => .int (i * j)) := opI fun _ _ _ _ _ _ _ hc q => imul_int q hc.ok
theorem ipMul : IpP X .Mult mulI := by
  have h : OpP X (inplaceOp .Mult) mulI := opI2 (rI_or iop_mul iop_mulW) (fun i j h => or_dec (p := (-(2 ^ 64) < i ∧ i < 2 ^ 64) ∨ (-(2 ^ 64) < j ∧ j < 2 ^ 64)) (q := i.natAbs.log2 + j.natAbs.log2 < 1000000) (by unfold mulC at h; exact h)) fun _ _ _ _ => rfl
  exact h
end
/-! ### xs.pop(i) -/
theorem Rvs.erase {K : KX} {ρ : List Addr} {H : Hp} {xs : List Va} {ws : List V} (h : Rvs K ρ H xs ws) (k : Nat) : Rvs K ρ H (xs.eraseIdx k) (ws.eraseIdx k) := by
  rw [List.eraseIdx_eq_take_drop_succ, List.eraseIdx_eq_take_drop_succ]
  exact (h.take k).app (h.drop (k + 1))
def mPopAt (o : ME) (t : MA) : ME := fun Γ S => (o Γ S).bind fun ov S1 => match ov with
  | .ref n => match S1[n]? with
    | some (.lst _) => (t Γ S1).bind fun vs S2 => match vs, S2[n]? with
      | [.int i], some (.lst xs) => match seqIndex? i xs.length with
        | some k => match xs[k]? with
          | some y => if -(2 ^ 63) ≤ i ∧ i < 2 ^ 63 then .ok y (S2.set n (.lst (xs.eraseIdx k))) else .bad
          | none => .bad
        | none => .bad
      | _, _ => .bad
    | _ => .bad
  | _ => .bad
theorem pm_popAt {X : Cx} {W : XW} {o e : Expr} {es : List Expr} {mo : ME} {t : MA} {apos cpos : Pos} (ho : PM X W o mo) (ht : PMA X W (e :: es) t)
    (hbase : attributeBase o "pop" X.env (eval o X.env) = eval o X.env := by rfl)
    (hfew : ((backTo cpos (starEach (e :: es) X.env)).all (fun x => !x.1) && (backToKw cpos (keywordEach [] X.env)).all (fun x => x.1.isSome)
      && decide ((e :: es).length + ([] : List Keyword).length + (if ([] : List Keyword).isEmpty then 0 else 1) < 30)) = true := by rfl)
    (hline : (apos.endLine == cpos.line) = true := by rfl) (hs : starEach (e :: es) X.env = (false, eval e X.env) :: starEach es X.env := by rfl) (hplain : (backTo cpos (starEach es X.env)).any (·.1) = false := by rfl) :
    PM X W (.Call (.Attribute o "pop" apos) (e :: es) [] cpos) (mPopAt mo t) := by
  refine pe_imp (pe_bm PySem.F.plainAttrs_list PySem.F.slot_list_pop PySem.F.type_list_pop mt_popAt ho ht hbase hfew hline hs hplain) fun σ H Q ⟨ρ, Γ, S, R, G, q⟩ => ?_
  refine ⟨ρ, Γ, S, R, G, q.bind fun ov S1 ρ1 H1 x E1 R1 rx q1 => ?_⟩
  cases ov with
  | ref n =>
    obtain ⟨a, ha, rfl⟩ := rx
    cases e : S1[n]? with
    | none => simp only [e] at q1; exact q1.elim
    | some ob =>
      cases ob with
      | setT _ => simp only [e] at q1; exact q1.elim
      | raw _ => simp only [e] at q1; exact q1.elim
      | tbl _ => simp only [e] at q1; exact q1.elim
      | dct _ => simp only [e] at q1; exact q1.elim
      | lst xs1 =>
        simp only [e] at q1
        obtain ⟨_, ws1, h1, _⟩ := R1.at_ n a _ ha e
        refine ⟨.inl ⟨rfl, ws1, SqL.of h1⟩, ρ1, Γ, S1, R1, G.ext E1, q1.bind fun vs S2 ρ2 H2 ys E2 R2 ry q2 => ?_⟩
        cases vs with
        | nil => exact q2.elim
        | cons v r =>
          cases r with
          | cons _ _ => cases v <;> exact q2.elim
          | nil =>
            obtain ⟨y, rfl, r1⟩ := one_of ry rfl
            have ha2 := E2.get ha
            cases v with
            | int i =>
              cases r1
              cases e2 : S2[n]? with
              | none => simp only [e2] at q2; exact q2.elim
              | some ob =>
                cases ob with
                | setT _ => simp only [e2] at q2; exact q2.elim
                | raw _ => simp only [e2] at q2; exact q2.elim
                | tbl _ => simp only [e2] at q2; exact q2.elim
                | dct _ => simp only [e2] at q2; exact q2.elim
                | lst xs =>
                  simp only [e2] at q2
                  obtain ⟨hl, ws, h4, h5⟩ := R2.at_ n a _ ha2 e2
                  cases e3 : seqIndex? i xs.length with
                  | none => simp only [e3] at q2; exact q2.elim
                  | some k =>
                    simp only [e3] at q2
                    cases e4 : xs[k]? with
                    | none => simp only [e4] at q2; exact q2.elim
                    | some z =>
                      simp only [e4] at q2
                      by_cases hb : -(2 ^ 63) ≤ i ∧ i < 2 ^ 63
                      · rw [if_pos hb] at q2
                        obtain ⟨u, hu, ru⟩ := h5.get e4
                        refine ⟨a, ws, i, k, u, rfl, rfl, h4, hb.1, hb.2, by rw [← h5.len]; exact e3, hu, ?_⟩
                        obtain ⟨E3, R3⟩ := R2.put ha2 e2 (Nat.le_trans (List.length_eraseIdx_le xs k) hl) (h5.erase k)
                        exact q2 ρ2 _ _ E3 R3 (ru.ext E3)
                      · rw [if_neg hb] at q2
                        exact q2.elim
            | _ => exact q2.elim
  | _ => exact q1.elim
/-! ### f() -/
theorem pm_call0 {X : Cx} {W : XW} {k : Nat} {x : Str} {g : MF} {f : Addr} {fd : FuncData} {p pos : Pos} (D : Dx X.prog X.w X.K X.mg X.base k x [] g f fd) (tk : Takes X (wx X.mg W)) (hr : Room k X.A) (hg : Gl X x)
    (hdb : (x == ("__debug__" : Str)) = false := by decide) : PM X W (.Call (.Name x p) [] [] pos) (mCall g maN) := by
  have h : PE X (.Call (.Name x p) [] [] pos) (tCallS (spM ⟨X.K, X.prog, X.w⟩ X.mg 0 g) (WE (wx X.mg W)) tNil) := by
    refine ⟨fun pins s σ H Q I h => ?_⟩
    refine wpAny_Call_Name_kw (ld_glob I hg D.gl ?_ hdb)
    exact PySem.W.callWith_K0 I.kIn D.kp (run_fnS (us := []) D.ok hr D.bd (passAt tk σ) I .nil h)
  refine pe_imp h fun σ H Q ⟨ρ, Γ, S, R, G, q⟩ => ?_
  have q : Aft (kxOf X) W σ (Rv (kxOf X)) Q ρ H (g [] S) := q
  exact ⟨rfl, ρ, S, [], R, rfl, q.call⟩
end PM

namespace PM
open PySem PySem.Spec PyProof.Rows L2
/-- the binary figures of a number as signs -/
def binL (n : Nat) : List Nat := (Nat.toDigits 2 n).map Char.toNat
theorem binL_ne (n : Nat) : (binL n).isEmpty = false := by
  unfold binL
  cases e : Nat.toDigits 2 n with
  | nil => exact absurd e Nat.toDigits_ne_nil
  | cons x y => rfl
theorem bf_give {a : Int} {t : Tok} (h0 : 0 ≤ a) (hl : (binL a.natAbs).length ≤ sizeLine) : ∀ u, Meets (Builtin.«int.__format__» ⟨[.int a t, .str (Str.ofString "b") u], []⟩) (fun _ R s => ∀ t' k, R (.ok (.ret (.str (⟨(binL a.natAbs).toArray⟩ : PySem.Str) t'))) { s with toks := k }) := by
  intro u
  apply W.KPc.meets_of
  intro prog w A R s hh hQ
  unfold Builtin.«int.__format__»
  refine wpAny_bind (wpAny_of_eq (a := (_, _)) rfl ?_)
  refine wpAny_bind (wpAny_of_eq (a := _) rfl ?_)
  kxf_if
  refine wpAny_bind (wpAny_typeNameOf (T := "str") (typeIs_str _ _ _) (by decide) fun _ => ?_)
  refine wpAny_bind (wpAny_of_eq (a := some _) rfl ?_)
  kxf_if
  kxf_if
  refine wpAny_bind (wpAny_typeNameOfCut_int ?_)
  repeat kxf_if
  have hd : decide (a < 0) = false := decide_eq_false (by omega)
  have key : ∀ X : PySem.Str, X = (⟨(binL a.natAbs).toArray⟩ : PySem.Str) → wpAny (model prog w) A (retStr X) s hh R := fun X e => by
    refine W.KXf.ret_text e ?_ hQ
    rw [e]
    exact hl
  refine key _ ?_
  rw [hd]
  have he := binL_ne a.natAbs
  show (⟨(List.replicate ((-1 : Int) - (((0 : Nat) : Int) + ((0 : Nat) : Int) + ((0 : Nat) : Int)) - (if (binL a.natAbs).isEmpty = true then [] else List.replicate ((0 : Int).toNat - (binL a.natAbs).length) 48 ++ binL a.natAbs).length).toNat 32 ++ [] ++ [] ++ List.replicate 0 32 ++ (if (binL a.natAbs).isEmpty = true then [] else List.replicate ((0 : Int).toNat - (binL a.natAbs).length) 48 ++ binL a.natAbs) ++ [] ++ List.replicate 0 32).toArray⟩ : PySem.Str) = _
  rw [he]
  have e1 : (0 : Int).toNat - (binL a.natAbs).length = 0 := by simp
  have e2 : ((-1 : Int) - (((0 : Nat) : Int) + ((0 : Nat) : Int) + ((0 : Nat) : Int)) - ((if false = true then [] else List.replicate 0 48 ++ binL a.natAbs : List Nat).length : Int)).toNat = 0 := by omega
  rw [e1, e2]
  simp
/-- {x:b} of a number that is none below 0 -/
def tFmtB (te : TE) : TE := fun σ H Q => te σ H fun x H1 => ∃ i : Int, x = .int i ∧ 0 ≤ i ∧ (binL i.natAbs).length ≤ sizeLine ∧ Q (.str (⟨(binL i.natAbs).toArray⟩ : PySem.Str)) H1
theorem pe_fmtB {X : Cx} {e : Expr} {te : TE} {j : Nat} {pos p2 p3 : Pos} (he : PE X e te) : PE X (.FormattedValue e (-1) (some (.JoinedStr [.Constant (.str (Str.ofString "b")) j p2] p3)) pos) (tFmtB te) := by
  refine ⟨fun pins s σ H Q I h => ?_⟩
  refine wpAny_FormattedValue_spec (thn (he.run pins s σ H _ I h) fun v s1 hv => ?_)
  obtain ⟨x, H1, I1, r1, i, rfl, h0, hl, q⟩ := hv
  obtain ⟨t, rfl⟩ := r1
  refine thn ((pe_joined1 (pos := p3) (pe_str (X := X) (x := Str.ofString "b") (j := j) (pos := p2))).run pins s1 σ H1 (fun y H2 => y = .str (Str.ofString "b") ∧ H2 = H1) I1 ⟨rfl, rfl⟩) fun v s2 hv => ?_
  obtain ⟨y, H2, I2, r2, rfl, rfl⟩ := hv
  obtain ⟨t2, rfl⟩ := r2
  exact ⟨_, _, rfl, W.KXf.field_int rfl (by decide) (by decide) (bf_give h0 hl) fun t' k => ⟨.str _, _, I2.tok _, ⟨_, rfl⟩, q⟩⟩
end PM

namespace PM
open PySem PySem.Spec PyProof.Rows L2 PySem.NumText PySem.Calls
/-- signs 0 and 1, read with base 4 -/
def Bits (l : List Nat) : Prop := ∀ z ∈ l, z = 48 ∨ z = 49
def num4 (l : List Nat) : Nat := l.foldl (fun n z => n * 4 + (z - 48)) 0
section
variable {l : List Nat} {z : Nat}
theorem Bits.tl (h : Bits (z :: l)) : Bits l := fun y hy => h y (List.mem_cons_of_mem _ hy)
theorem Bits.hd (h : Bits (z :: l)) : z = 48 ∨ z = 49 := h z (List.mem_cons_self ..)
theorem step4 (h : z = 48 ∨ z = 49) (ds : Array Nat) (b : Bool) : PySem.NumText.step 4 (ds, b) z = some (ds.push (z - 48), true) := by
  rcases h with rfl | rfl <;> rfl
theorem steps4 : ∀ (l : List Nat) (ds : Array Nat) (b : Bool), Bits l → l ≠ [] → l.foldlM (PySem.NumText.step 4) (ds, b) = some (l.foldl (fun out z => out.push (z - 48)) ds, true)
  | [], _, _, _, n => absurd rfl n
  | [z], ds, b, h, _ => by
    simp only [List.foldlM_cons, step4 h.hd]
    rfl
  | z :: y :: r, ds, b, h, _ => by
    rw [List.foldlM_cons, step4 h.hd]
    exact steps4 (y :: r) _ true h.tl (by simp)
theorem figs4 (h : Bits l) (n : l ≠ []) : digits? 4 l = some (l.foldl (fun out z => out.push (z - 48)) #[]) := by
  unfold digits?
  rw [steps4 l _ _ h n]
  rfl
theorem fold4 : ∀ (l : List Nat) (ds : Array Nat), (l.foldl (fun out z => out.push (z - 48)) ds).foldl (fun n d => n * 4 + d) 0 = l.foldl (fun n z => n * 4 + (z - 48)) (ds.foldl (fun n d => n * 4 + d) 0)
  | [], _ => rfl
  | z :: r, ds => by
    rw [List.foldl_cons, fold4 r, List.foldl_cons]
    exact congrArg (fun n => r.foldl _ n) (by simp)
theorem noBlank (h : Bits l) : l.dropWhile blank = l := by
  cases l with
  | nil => rfl
  | cons z r => exact dropWhile_of (by rcases h.hd with rfl | rfl <;> decide)
theorem noSign (h : Bits l) : sign l = (false, l) := by
  cases l with
  | nil => rfl
  | cons z r => exact sign_of (by rcases h.hd with rfl | rfl <;> decide) (by rcases h.hd with rfl | rfl <;> decide)
theorem base4 (h : Bits l) : based 4 l = (4, false, l) := by
  match l, h with
  | [], _ => rfl
  | [z], h => rcases h.hd with rfl | rfl <;> rfl
  | z :: y :: r, h => rcases h.hd with rfl | rfl <;> rcases h.tl.hd with rfl | rfl <;> rfl
theorem read4 (h : Bits l) (n : l ≠ []) : (int_private% "readNumeral") 0 4 l = (int_private% "Numeral.value") ((num4 l : Nat) : Int) := by
  have hr : Bits l.reverse := fun y hy => h y (List.mem_reverse.mp hy)
  refine (readNumeral_eq 0 4 l).trans ?_
  rw [noBlank h, noSign h]
  show judge 0 false (based 4 l).1 (based 4 l).2.1 (digits? (based 4 l).1 ((List.dropWhile blank (based 4 l).2.2.reverse).reverse)) = _
  rw [base4 h]
  show judge 0 false 4 false (digits? 4 ((List.dropWhile blank l.reverse).reverse)) = _
  rw [noBlank hr, List.reverse_reverse, figs4 h n]
  show (int_private% "Numeral.value") ((Array.foldl (fun n d => n * 4 + d) 0 (l.foldl (fun out z => out.push (z - 48)) (#[] : Array Nat)) : Nat) : Int) = _
  rw [fold4]
  rfl
theorem seen4 {x : PySem.Str} (h : Bits x.cps.toList) : numTextOf x = x.cps.toList ∧ numSeenOf x = x.cps.toList := by
  have lt : ∀ y ∈ x.cps.toList, y < 128 ∧ y ≠ 0 := fun y hy => by rcases h y hy with rfl | rfl <;> decide
  have e1 : numTextOf x = x.cps.toList := by
    unfold numTextOf
    rw [if_pos]
    rw [← Array.all_toList]
    exact List.all_eq_true.mpr fun y hy => by simpa using (lt y hy).1
  refine ⟨e1, ?_⟩
  unfold numSeenOf
  rw [e1]
  exact takeWhile_all fun y hy => by simpa using (lt y hy).2
structure Kept (p : Prop) : Prop where
  get : p
theorem new4 {x : PySem.Str} {u t : Tok} (hl : x.length ≤ 640) (h : Bits x.cps.toList) (n : x.cps.toList ≠ []) : Gives (Builtin.«int.__new__» ⟨[.type "int", .str x u, .int 4 t], []⟩) (.int ((num4 x.cps.toList : Nat) : Int)) := by
  obtain ⟨e1, e2⟩ := seen4 h
  have k : Kept ((numSeenOf x).length ≤ 640 ∧ (int_private% "readNumeral") 0 4 (numSeenOf x) = (int_private% "Numeral.value") ((num4 x.cps.toList : Nat) : Int) ∧ ((numSeenOf x).length == (numTextOf x).length) = true) := by
    rw [e1, e2]
    exact ⟨by rw [Array.length_toList]; exact hl, read4 h n, beq_self_eq_true _⟩
  refine .of_wp fun M A E s Q hQ => ?_
  obtain ⟨hp, g, d, tk, os⟩ := s
  have g1 := F.conv_sub_int
  have g2 := F.madeHere_int
  have g3 : typeOf (.str x u) = pure (.type "str") := rfl
  clear hl h n e1 e2
  repeat (any_goals (first
    | assumption
    | ((with_reducible show wpAny _ _ ((int_private% "intFromText") _ _ _) _ _ _); refine Hx.wp_textB k.get.1 k.get.2.1 k.get.2.2 ?_)
    | wp_step))
  all_goals first | exact ⟨_, rfl, hQ⟩ | skip
end
/-- int(text, 4) of a text of signs 0 and 1 -/
def rInt4 : List V → Hp → VK → Prop := fun xs H Q => ∃ l : List Nat, xs = [.str (⟨l.toArray⟩ : PySem.Str), .int 4] ∧ l ≠ [] ∧ l.length ≤ 640 ∧ Bits l ∧ Q (.int ((num4 l : Nat) : Int)) H
theorem cr_int4 {X : Cx} : CallR X (.type "int") rInt4 := by
  intro pins s σ H xs us Q I r h
  obtain ⟨l, rfl, n, hl, hb, q⟩ := h
  obtain ⟨u, w', rfl, r1, r2⟩ := vals2 r
  obtain ⟨t1, rfl⟩ := r1
  obtain ⟨t2, rfl⟩ := r2
  have e : (⟨l.toArray⟩ : PySem.Str).cps.toList = l := rfl
  have g := new4 (x := (⟨l.toArray⟩ : PySem.Str)) (u := t1) (t := t2) (by simpa [PySem.Str.length] using hl) hb n
  rw [e] at g
  exact callType_new F.called_int F.newNe_int (Hx.typeCall_int_2 _ _) (Hx.newCall_int_2 _ _) (fun obj => F.initArgs_range_2 obj _ _) F.entry_int_new g.meets (show (Made.int ((num4 l : Nat) : Int)).post _ s from ⟨rfl, .int ((num4 l : Nat) : Int), H, I.tok _, ⟨_, rfl⟩, q⟩)
end PM

namespace PM
open PySem PySem.Spec PyProof.Rows L2 Q2
section
variable {X : Cx} {W : XW}
/-! ### f'{x:b}', int(text, 4), x.bit_length() -/
def binF : F1 := fun v S => match v with
  | .int i => if 0 ≤ i ∧ (binL i.natAbs).length ≤ 640 then some (.str (⟨(binL i.natAbs).toArray⟩ : PySem.Str), S) else none
  | _ => none
theorem pm_binF {e : Expr} {m : ME} {j : Nat} {pos p2 p3 p4 : Pos} (h : PM X W e m) : PM X W (.JoinedStr [.FormattedValue e (-1) (some (.JoinedStr [.Constant (.str (Str.ofString "b")) j p2] p3)) pos] p4) (m1 binF m) := by
  refine pe_imp (pe_joined1 (pe_fmtB h)) fun σ H Q ⟨ρ, Γ, S, R, G, q⟩ => ?_
  refine ⟨ρ, Γ, S, R, G, q.bind fun v S1 ρ1 H1 x E1 R1 rx q1 => ?_⟩
  have q1 := q1.ans
  cases v with
  | int i =>
    cases rx
    have q1 : Ans (kxOf X) Q ρ1 H1 (if 0 ≤ i ∧ (binL i.natAbs).length ≤ 640 then some (.str (⟨(binL i.natAbs).toArray⟩ : PySem.Str), S1) else none) := q1
    obtain ⟨hl, a⟩ := ans_if q1
    exact ⟨i, rfl, hl.1, Nat.le_trans hl.2 (show 640 ≤ 2 ^ 24 by decide), a ρ1 H1 _ R1.refl R1 rfl⟩
  | _ => exact q1.elim
def isBits (l : List Nat) : Bool := l.all fun z => z == 48 || z == 49
def int4V (v w : Va) (S : Sto) : Option (Va × Sto) := match v with
  | .str z => match w with
    | .int i => if i = 4 ∧ z.cps.toList ≠ [] ∧ z.cps.toList.length ≤ 640 ∧ isBits z.cps.toList = true then some (.int ((num4 z.cps.toList : Nat) : Int), S) else none
    | _ => none
  | _ => none
def fInt4 : FL := fL2 int4V
theorem cInt4 : CallP X (.type "int") fInt4 := by
  refine ⟨_, cr_int4, callM2 fun ρ S H v w x y Q R r r' a => ?_⟩
  cases v with
  | str z =>
    cases w with
    | int i =>
      cases r
      cases r'
      have a : Ans (kxOf X) Q ρ H (if i = 4 ∧ z.cps.toList ≠ [] ∧ z.cps.toList.length ≤ 640 ∧ isBits z.cps.toList = true then some (.int ((num4 z.cps.toList : Nat) : Int), S) else none) := a
      obtain ⟨⟨e4, h1, h2, h3⟩, b⟩ := ans_if a
      subst e4
      refine ⟨z.cps.toList, rfl, h1, h2, fun y hy => ?_, b ρ H _ R.refl R rfl⟩
      have := List.all_eq_true.mp h3 y hy
      simpa using this
    | _ => exact a.elim
  | _ => exact a.elim
def bitsI : F1 := fun v S => match v with
  | .int i => some (.int (Builtin.Int.intBits i : Nat), S)
  | _ => none
theorem pm_bits {o : Expr} {m : ME} {apos pos : Pos} (h : PM X W o m) (hbase : attributeBase o "bit_length" X.env (eval o X.env) = eval o X.env := by rfl) (hline : (apos.endLine == pos.line) = true := by rfl) : PM X W (.Call (.Attribute o "bit_length" apos) [] [] pos) (m1 bitsI m) := by
  refine pe_imp (pe_bits h hbase hline) fun σ H Q ⟨ρ, Γ, S, R, G, q⟩ => ?_
  refine ⟨ρ, Γ, S, R, G, q.bind fun v S1 ρ1 H1 x E1 R1 rx q1 => ?_⟩
  have q1 := q1.ans
  cases v with
  | int i =>
    cases rx
    exact ⟨i, rfl, q1 ρ1 H1 _ R1.refl R1 rfl⟩
  | _ => exact q1.elim
/-! ### a comprehension in another one -/
theorem re_look {env : Env} {x : Str} : ∀ {l : List (Str × NameKind)}, (l.lookup x = some .cell ∨ l.lookup x = some .free) → ((l.map fun (n, k) => if (k == NameKind.free && env.scope.kind == .function && env.kindOf n == some .cell) then (n, NameKind.cell) else (n, k)).lookup x = some .cell ∨ (l.map fun (n, k) => if (k == NameKind.free && env.scope.kind == .function && env.kindOf n == some .cell) then (n, NameKind.cell) else (n, k)).lookup x = some .free)
  | [], h => by rcases h with h | h <;> cases h
  | (n, k) :: r, h => by
    simp only [List.map_cons]
    by_cases e : x == n
    · have h0 : k = .cell ∨ k = .free := by
        rcases h with h | h
        · simp only [List.lookup_cons, e] at h
          exact .inl (Option.some.inj h)
        · simp only [List.lookup_cons, e] at h
          exact .inr (Option.some.inj h)
      split
      · exact .inl (by simp only [List.lookup_cons, e])
      · rcases h0 with rfl | rfl
        · exact .inl (by simp only [List.lookup_cons, e])
        · exact .inr (by simp only [List.lookup_cons, e])
    · have e' : (x == n) = false := by simpa using e
      have h0 : r.lookup x = some .cell ∨ r.lookup x = some .free := by simpa only [List.lookup_cons, e'] using h
      have ih := re_look (env := env) h0
      split
      · simpa only [List.lookup_cons, e'] using ih
      · simpa only [List.lookup_cons, e'] using ih
theorem blk_in {X : Cx} {s : Shared} {H : Hp} {sco scope : Scope} {C : Addr} {cl : List (Str × Addr)} {fp : List Addr} {N : List Str} {own : List (Str × Nat)} (h : blkC N sco scope own = true) (hN : (X.blk s H sco (compEnvC sco cl C X.env) fp).N = N := by rfl) : BlkOk (X.blk s H sco (compEnvC sco cl C X.env) fp).N (X.blk s H sco (compEnvC sco cl C X.env) fp).env.scope scope own := by
  rw [hN]
  have b := blkOk_by h
  exact ⟨b.kind, b.uniq, b.ix, fun y hy e => re_look (b.free y hy e), b.own⟩
end
end PM

namespace PM
open PySem PySem.Spec PyProof.Rows L2 PySem.NumText PySem.Calls
/-- signs 0 and 1, read with base 2 -/
def num2 (l : List Nat) : Nat := l.foldl (fun n z => n * 2 + (z - 48)) 0
section
variable {l : List Nat} {z : Nat}
theorem step2 (h : z = 48 ∨ z = 49) (ds : Array Nat) (b : Bool) : PySem.NumText.step 2 (ds, b) z = some (ds.push (z - 48), true) := by
  rcases h with rfl | rfl <;> rfl
theorem steps2 : ∀ (l : List Nat) (ds : Array Nat) (b : Bool), Bits l → l ≠ [] → l.foldlM (PySem.NumText.step 2) (ds, b) = some (l.foldl (fun out z => out.push (z - 48)) ds, true)
  | [], _, _, _, n => absurd rfl n
  | [z], ds, b, h, _ => by
    simp only [List.foldlM_cons, step2 h.hd]
    rfl
  | z :: y :: r, ds, b, h, _ => by
    rw [List.foldlM_cons, step2 h.hd]
    exact steps2 (y :: r) _ true h.tl (by simp)
theorem figs2 (h : Bits l) (n : l ≠ []) : digits? 2 l = some (l.foldl (fun out z => out.push (z - 48)) #[]) := by
  unfold digits?
  rw [steps2 l _ _ h n]
  rfl
theorem fold2 : ∀ (l : List Nat) (ds : Array Nat), (l.foldl (fun out z => out.push (z - 48)) ds).foldl (fun n d => n * 2 + d) 0 = l.foldl (fun n z => n * 2 + (z - 48)) (ds.foldl (fun n d => n * 2 + d) 0)
  | [], _ => rfl
  | z :: r, ds => by
    rw [List.foldl_cons, fold2 r, List.foldl_cons]
    exact congrArg (fun n => r.foldl _ n) (by simp)
theorem base2 (h : Bits l) : based 2 l = (2, false, l) := by
  match l, h with
  | [], _ => rfl
  | [z], h => rcases h.hd with rfl | rfl <;> rfl
  | z :: y :: r, h => rcases h.hd with rfl | rfl <;> rcases h.tl.hd with rfl | rfl <;> rfl
theorem read2 (h : Bits l) (n : l ≠ []) : (int_private% "readNumeral") 0 2 l = (int_private% "Numeral.value") ((num2 l : Nat) : Int) := by
  have hr : Bits l.reverse := fun y hy => h y (List.mem_reverse.mp hy)
  refine (readNumeral_eq 0 2 l).trans ?_
  rw [noBlank h, noSign h]
  show judge 0 false (based 2 l).1 (based 2 l).2.1 (digits? (based 2 l).1 ((List.dropWhile blank (based 2 l).2.2.reverse).reverse)) = _
  rw [base2 h]
  show judge 0 false 2 false (digits? 2 ((List.dropWhile blank l.reverse).reverse)) = _
  rw [noBlank hr, List.reverse_reverse, figs2 h n]
  show (int_private% "Numeral.value") ((Array.foldl (fun n d => n * 2 + d) 0 (l.foldl (fun out z => out.push (z - 48)) (#[] : Array Nat)) : Nat) : Int) = _
  rw [fold2]
  rfl
theorem new2 {x : PySem.Str} {u t : Tok} (hl : x.length ≤ 640) (h : Bits x.cps.toList) (n : x.cps.toList ≠ []) : Gives (Builtin.«int.__new__» ⟨[.type "int", .str x u, .int 2 t], []⟩) (.int ((num2 x.cps.toList : Nat) : Int)) := by
  obtain ⟨e1, e2⟩ := seen4 h
  have k : Kept ((numSeenOf x).length ≤ 640 ∧ (int_private% "readNumeral") 0 2 (numSeenOf x) = (int_private% "Numeral.value") ((num2 x.cps.toList : Nat) : Int) ∧ ((numSeenOf x).length == (numTextOf x).length) = true) := by
    rw [e1, e2]
    exact ⟨by rw [Array.length_toList]; exact hl, read2 h n, beq_self_eq_true _⟩
  refine .of_wp fun M A E s Q hQ => ?_
  obtain ⟨hp, g, d, tk, os⟩ := s
  have g1 := F.conv_sub_int
  have g2 := F.madeHere_int
  have g3 : typeOf (.str x u) = pure (.type "str") := rfl
  clear hl h n e1 e2
  repeat (any_goals (first
    | assumption
    | ((with_reducible show wpAny _ _ ((int_private% "intFromText") _ _ _) _ _ _); refine Hx.wp_textB k.get.1 k.get.2.1 k.get.2.2 ?_)
    | wp_step))
  all_goals first | exact ⟨_, rfl, hQ⟩ | skip
end
/-- int(text, 2) of a text of signs 0 and 1 -/
def rInt2 : List V → Hp → VK → Prop := fun xs H Q => ∃ l : List Nat, xs = [.str (⟨l.toArray⟩ : PySem.Str), .int 2] ∧ l ≠ [] ∧ l.length ≤ 640 ∧ Bits l ∧ Q (.int ((num2 l : Nat) : Int)) H
theorem cr_int2 {X : Cx} : CallR X (.type "int") rInt2 := by
  intro pins s σ H xs us Q I r h
  obtain ⟨l, rfl, n, hl, hb, q⟩ := h
  obtain ⟨u, w', rfl, r1, r2⟩ := vals2 r
  obtain ⟨t1, rfl⟩ := r1
  obtain ⟨t2, rfl⟩ := r2
  have e : (⟨l.toArray⟩ : PySem.Str).cps.toList = l := rfl
  have g := new2 (x := (⟨l.toArray⟩ : PySem.Str)) (u := t1) (t := t2) (by simpa [PySem.Str.length] using hl) hb n
  rw [e] at g
  exact callType_new F.called_int F.newNe_int (Hx.typeCall_int_2 _ _) (Hx.newCall_int_2 _ _) (fun obj => F.initArgs_range_2 obj _ _) F.entry_int_new g.meets (show (Made.int ((num2 l : Nat) : Int)).post _ s from ⟨rfl, .int ((num2 l : Nat) : Int), H, I.tok _, ⟨_, rfl⟩, q⟩)
end PM

namespace PM
open PySem PySem.Spec PyProof.Rows L2 Q2
def int2V (v w : Va) (S : Sto) : Option (Va × Sto) := match v with
  | .str z => match w with
    | .int i => if i = 2 ∧ z.cps.toList ≠ [] ∧ z.cps.toList.length ≤ 640 ∧ isBits z.cps.toList = true then some (.int ((num2 z.cps.toList : Nat) : Int), S) else none
    | _ => none
  | _ => none
def fInt2 : FL := fL2 int2V
theorem cInt2 : CallP X (.type "int") fInt2 := by
  refine ⟨_, cr_int2, callM2 fun ρ S H v w x y Q R r r' a => ?_⟩
  cases v with
  | str z =>
    cases w with
    | int i =>
      cases r
      cases r'
      have a : Ans (kxOf X) Q ρ H (if i = 2 ∧ z.cps.toList ≠ [] ∧ z.cps.toList.length ≤ 640 ∧ isBits z.cps.toList = true then some (.int ((num2 z.cps.toList : Nat) : Int), S) else none) := a
      obtain ⟨⟨e2, h1, h2, h3⟩, b⟩ := ans_if a
      subst e2
      refine ⟨z.cps.toList, rfl, h1, h2, fun y hy => ?_, b ρ H _ R.refl R rfl⟩
      have := List.all_eq_true.mp h3 y hy
      simpa using this
    | _ => exact a.elim
  | _ => exact a.elim
end PM

namespace LZ
open PySem PySem.Spec PyProof.Rows
abbrev ZipO (h : Heap) (z TI TO a : Addr) (b : Bool) : Prop :=
  h.get? z = some { cls := .type "zip", dict := none, data := .fields #[rawInt a, .bool b, .bool false, .ref TI, .ref TO], slots := #[] }
section
variable {prog : Program} {w : World} {A : Around} {E : Value → Shared → Prop} {s : Shared} {z TI TO i1 i2 l1 l2 a : Addr} {b : Bool} {oa : Obj} {k : Nat} {xs ys : Array Value} {x y : Value}
/-- is it free? no: what was given out stands -/
theorem zo_busy {Q : Bool → Shared → Prop} (p0 : ZipO s.heap z TI TO a b) (pa : s.heap.get? a = some oa) (hQ : ∀ h', ZipO h' z TI TO a true → Heap.SameBut z s.heap h' → Q false { s with heap := h' }) : wpAny (model prog w) A (Builtin.SmallTypes.ownedTupleIsFree (.ref z)) Q E s := by
  unfold Builtin.SmallTypes.ownedTupleIsFree
  refine wpAny_bind (wpAny_field p0 rfl (x := rawInt a) rfl ?_)
  show wpAny _ _ (loadIfAlive ((a : Nat) : Int).toNat >>= _) _ _ s
  rw [show ((a : Nat) : Int).toNat = a from Int.toNat_natCast a]
  refine wpAny_bind (PySem.W.kdx_alive pa ?_)
  simp only [Option.isNone_some, if_false, Bool.false_eq_true]
  refine wpAny_bind (wpAny_field p0 rfl (x := .bool b) rfl ?_)
  cases b with
  | true => exact wpAny_ite_false (by decide) (wpAny_pure (hQ s.heap p0 (Heap.SameBut.refl _ _)))
  | false =>
    refine wpAny_ite_true (by decide) ?_
    exact wpAny_bind (wpAny_setField_rec p0 (by simp) fun h' p' sb => wpAny_pure (hQ h' p' sb))
theorem zo_item {Q : Value → Shared → Prop} (D : ZipApart z TI TO i1 i2 l1 l2) (p0 : ZipO s.heap z TI TO a b) (pa : s.heap.get? a = some oa) (p1 : IsPair s.heap TI (.ref i1) (.ref i2)) (q1 : s.heap.IsListIter i1 l1 k) (q2 : s.heap.IsListIter i2 l2 k)
    (g1 : s.heap.IsList l1 xs) (g2 : s.heap.IsList l2 ys) (hx : xs[k]? = some x) (hy : ys[k]? = some y)
    (hQ : ∀ h', ZipO h' z TI TO a true → h'.IsListIter i1 l1 (k + 1) → h'.IsListIter i2 l2 (k + 1) → IsPair h' s.heap.objs.size x y → h'.objs.size = s.heap.objs.size + 1 → (∀ c o, c ≠ z → c ≠ i1 → c ≠ i2 → s.heap.get? c = some o → h'.get? c = some o) → Q (.ref s.heap.objs.size) { s with heap := h' }) :
    wpAny (model prog w) A (Builtin.«zip.__next__» ⟨[.ref z], []⟩) (fun fin s' => ∃ v, fin = .done (.ret v) ∧ Q v s') E s := by
  show wpAny _ _ (field (.ref z) 2 >>= _) _ _ s
  refine wpAny_bind (wpAny_field p0 rfl (x := .bool false) rfl ?_)
  show wpAny _ _ (field (.ref z) 3 >>= _) _ _ s
  refine wpAny_bind (wpAny_field p0 rfl (x := .ref TI) rfl ?_)
  refine wpAny_bind (wpAny_seqItems p1 rfl ?_)
  show wpAny _ _ (Builtin.SmallTypes.ownedTupleIsFree (.ref z) >>= _) _ _ s
  refine wpAny_bind (zo_busy p0 pa fun h1 r1 sb1 => ?_)
  simp only [Bool.false_eq_true, if_false, ← Array.forIn_toList, List.forIn_cons, List.forIn_nil]
  refine wpAny_bind (wpAny_bind (wpAny_bind (wpAny_holding ?_)))
  show wpAny _ _ (Builtin.SmallTypes.nextOf (.ref i1) >>= _) _ _ { s with heap := h1 }
  refine wpAny_bind (wpAny_nextOf_list_item (q1.extBut sb1.extBut D.i1z) (g1.extBut sb1.extBut D.l1z) hx fun h2 r2 sb2 => wpAny_pure ?_)
  refine wpAny_pure (wpAny_bind (wpAny_bind (wpAny_holding ?_)))
  show wpAny _ _ (Builtin.SmallTypes.nextOf (.ref i2) >>= _) _ _ { s with heap := h2 }
  refine wpAny_bind (wpAny_nextOf_list_item ((q2.extBut sb1.extBut D.i2z).extBut sb2.extBut (Ne.symm D.i12)) ((g2.extBut sb1.extBut D.l2z).extBut sb2.extBut D.l2i1) hy fun h3 r3 sb3 => wpAny_pure ?_)
  refine wpAny_pure (wpAny_pure ?_)
  show wpAny _ _ (newTuple [x, y] >>= _) _ _ { s with heap := h3 }
  refine wpAny_bind (wpAny_newTuple ?_)
  have sz : h3.objs.size = s.heap.objs.size := by rw [sb3.1, sb2.1, sb1.1]
  have zl : z < s.heap.objs.size := Heap.lt_size p0
  have nz : ZipO h3 z TI TO a true := sb3.extBut _ _ (Ne.symm D.i2z) (sb2.extBut _ _ (Ne.symm D.i1z) r1)
  have kp : ∀ c o, c ≠ z → c ≠ i1 → c ≠ i2 → s.heap.get? c = some o → h3.get? c = some o := fun c o c1 c2 c3 e => sb3.extBut _ _ c3 (sb2.extBut _ _ c2 (sb1.extBut _ _ c1 e))
  refine wpAny_pure ⟨_, rfl, ?_⟩
  show Q (.ref h3.objs.size) _
  have tn : IsPair (h3.push { cls := .type "tuple", data := .seq #[x, y] }) h3.objs.size x y := Heap.get?_push_size _ rfl
  rw [sz] at tn ⊢
  exact hQ (h3.push { cls := .type "tuple", data := .seq #[x, y] }) (Heap.get?_push_of_some _ nz) ((r2.extBut sb3.extBut D.i12).at fun o e => Heap.get?_push_of_some _ e) (r3.at fun o e => Heap.get?_push_of_some _ e) tn (by rw [Heap.size_push, sz]) fun c o c1 c2 c3 e => Heap.get?_push_of_some _ (kp c o c1 c2 c3 e)
theorem zo_end {Q : PySem.Fin → Shared → Prop} (hh : A.handled = none) (D : ZipApart z TI TO i1 i2 l1 l2) (p0 : ZipO s.heap z TI TO a b) (pa : s.heap.get? a = some oa) (p1 : IsPair s.heap TI (.ref i1) (.ref i2)) (q1 : s.heap.IsListIter i1 l1 k) (q2 : s.heap.IsListIter i2 l2 k)
    (g1 : s.heap.IsList l1 xs) (g2 : s.heap.IsList l2 ys) (hx : xs[k]? = none)
    (hE : ∀ h' e, (∀ c o, c ≠ z → c ≠ i1 → c ≠ i2 → s.heap.get? c = some o → h'.get? c = some o) → (∃ o, h'.get? e = some o ∧ o.cls = .type "StopIteration") → E (.ref e) { s with heap := h' }) :
    wpAny (model prog w) A (Builtin.«zip.__next__» ⟨[.ref z], []⟩) Q E s := by
  show wpAny _ _ (field (.ref z) 2 >>= _) _ _ s
  refine wpAny_bind (wpAny_field p0 rfl (x := .bool false) rfl ?_)
  show wpAny _ _ (field (.ref z) 3 >>= _) _ _ s
  refine wpAny_bind (wpAny_field p0 rfl (x := .ref TI) rfl ?_)
  refine wpAny_bind (wpAny_seqItems p1 rfl ?_)
  show wpAny _ _ (Builtin.SmallTypes.ownedTupleIsFree (.ref z) >>= _) _ _ s
  refine wpAny_bind (zo_busy p0 pa fun h1 r1 sb1 => ?_)
  simp only [Bool.false_eq_true, if_false, ← Array.forIn_toList, List.forIn_cons, List.forIn_nil]
  refine wpAny_bind (wpAny_bind (wpAny_bind (wpAny_holding ?_)))
  show wpAny _ _ (Builtin.SmallTypes.nextOf (.ref i1) >>= _) _ _ { s with heap := h1 }
  exact wpAny_bind (wpAny_nextOf_list_end hh (q1.extBut sb1.extBut D.i1z) (g1.extBut sb1.extBut D.l1z) hx fun h2 e sb2 he => hE h2 e (fun c o c1 c2 _ q => sb2 _ _ c2 (sb1.extBut _ _ c1 q)) he)
theorem zo_nextItem {Q : Option Value → Shared → Prop} (D : ZipApart z TI TO i1 i2 l1 l2) (p0 : ZipO s.heap z TI TO a b) (pa : s.heap.get? a = some oa) (p1 : IsPair s.heap TI (.ref i1) (.ref i2)) (q1 : s.heap.IsListIter i1 l1 k) (q2 : s.heap.IsListIter i2 l2 k)
    (g1 : s.heap.IsList l1 xs) (g2 : s.heap.IsList l2 ys) (hx : xs[k]? = some x) (hy : ys[k]? = some y)
    (hQ : ∀ h', ZipO h' z TI TO a true → h'.IsListIter i1 l1 (k + 1) → h'.IsListIter i2 l2 (k + 1) → IsPair h' s.heap.objs.size x y → h'.objs.size = s.heap.objs.size + 1 → (∀ c o, c ≠ z → c ≠ i1 → c ≠ i2 → s.heap.get? c = some o → h'.get? c = some o) → Q (some (.ref s.heap.objs.size)) { s with heap := h' }) :
    wpAny (model prog w) A (pyNext (.ref z)) Q E s := by
  have ty : s.TypeIs (.ref z) "zip" := ⟨_, p0, rfl⟩
  unfold pyNext
  exact wpAny_bind (wpAny_attempt (wpAny_callSpecial?_slot (name := Str.ofString "__next__") ty F.slot_zip_next (wpAny_call_entry F.slot_zip_next ty F.entry_zip_next
    (zo_item D p0 pa p1 q1 q2 g1 g2 hx hy fun h' b1 b2 b3 b4 b5 b6 => wpAny_pure (hQ h' b1 b2 b3 b4 b5 b6)) (F.args_zip_next_1 _))))
end
end LZ

namespace LZ
open PySem PySem.Spec PyProof.Rows
section
variable {prog : Program} {w : World} {A : Around} {E : Value → Shared → Prop} {s : Shared} {z TI TO i1 i2 l1 l2 a : Addr} {b : Bool} {oa : Obj} {k : Nat} {xs ys : Array Value} {x y : Value}
theorem zo_nextEnd {Q : Option Value → Shared → Prop} (hh : A.handled = none) (D : ZipApart z TI TO i1 i2 l1 l2) (p0 : ZipO s.heap z TI TO a b) (pa : s.heap.get? a = some oa) (p1 : IsPair s.heap TI (.ref i1) (.ref i2)) (q1 : s.heap.IsListIter i1 l1 k) (q2 : s.heap.IsListIter i2 l2 k)
    (g1 : s.heap.IsList l1 xs) (g2 : s.heap.IsList l2 ys) (hx : xs[k]? = none) (hQ : ∀ h', (∀ c o, c ≠ z → c ≠ i1 → c ≠ i2 → s.heap.get? c = some o → h'.get? c = some o) → Q none { s with heap := h' }) : wpAny (model prog w) A (pyNext (.ref z)) Q E s := by
  have ty : s.TypeIs (.ref z) "zip" := ⟨_, p0, rfl⟩
  unfold pyNext
  refine wpAny_bind (wpAny_attempt (wpAny_callSpecial?_slot (name := Str.ofString "__next__") ty F.slot_zip_next (wpAny_call_entry F.slot_zip_next ty F.entry_zip_next
    (zo_end hh D p0 pa p1 q1 q2 g1 g2 hx fun h' e kp he => ?_) (F.args_zip_next_1 _))))
  obtain ⟨o, e1, e2⟩ := he
  exact wpAny_bind (wpAny_isInstance (T := "StopIteration") (b := true) ⟨o, e1, e2⟩ isSubtype_stop (wpAny_pure (hQ _ kp)))
end
/-- the walk under way: i pairs are drawn -/
structure ZW (h : Heap) (z TI TO i1 i2 l1 l2 M : Addr) (xs ys : Array Value) (i : Nat) (as : List Addr) : Prop where
  st : (i = 0 ∧ IsZip h z TI TO .none ∧ ∃ u v, IsPair h TO u v) ∨ ∃ T b oT, M ≤ T ∧ ZipO h z TI TO T b ∧ h.get? T = some oT
  p1 : IsPair h TI (.ref i1) (.ref i2)
  q1 : h.IsListIter i1 l1 i
  q2 : h.IsListIter i2 l2 i
  g1 : h.IsList l1 xs
  g2 : h.IsList l2 ys
  len : as.length = i
  rise : as.Pairwise (· < ·)
  lo : ∀ a ∈ as, M ≤ a
  pr : ∀ (j : Nat) (a : Addr), as[j]? = some a → ∃ x y, xs[j]? = some x ∧ ys[j]? = some y ∧ IsPair h a x y
structure ZB (z TI TO i1 i2 l1 l2 S M : Addr) : Prop where
  D : ZipApart z TI TO i1 i2 l1 l2
  lS : S < M
  lz : z < M
  lTI : TI < M
  lTO : TO < M
  li1 : i1 < M
  li2 : i2 < M
  ll1 : l1 < M
  ll2 : l2 < M
  nz : S ≠ z
  nTI : S ≠ TI
  nTO : S ≠ TO
  ni1 : S ≠ i1
  ni2 : S ≠ i2
  nl1 : S ≠ l1
  nl2 : S ≠ l2
section
variable {h h' : Heap} {z TI TO i1 i2 l1 l2 S M : Addr} {xs ys : Array Value} {i : Nat} {as : List Addr}
theorem ZW.keep (B : ZB z TI TO i1 i2 l1 l2 S M) (W : ZW h z TI TO i1 i2 l1 l2 M xs ys i as) (kp : ∀ b o, b ≠ S → h.get? b = some o → h'.get? b = some o) : ZW h' z TI TO i1 i2 l1 l2 M xs ys i as := by
  have hS := B.lS
  refine ⟨?_, kp _ _ (Ne.symm B.nTI) W.p1, W.q1.at fun o e => kp _ _ (Ne.symm B.ni1) e, W.q2.at fun o e => kp _ _ (Ne.symm B.ni2) e, W.g1.at fun o e => kp _ _ (Ne.symm B.nl1) e, W.g2.at fun o e => kp _ _ (Ne.symm B.nl2) e, W.len, W.rise, W.lo, fun j a e => ?_⟩
  · rcases W.st with ⟨e, e2, u, v, e3⟩ | ⟨T, b, oT, e1, e2, e3⟩
    · exact .inl ⟨e, kp _ _ (Ne.symm B.nz) e2, u, v, kp _ _ (Ne.symm B.nTO) e3⟩
    · exact .inr ⟨T, b, oT, e1, kp _ _ (Ne.symm B.nz) e2, kp _ _ (fun q => by rw [q] at e1; exact absurd e1 (Nat.not_le.mpr hS)) e3⟩
  · obtain ⟨x, y, e1, e2, e3⟩ := W.pr j a e
    have := W.lo a (List.mem_of_getElem? e)
    exact ⟨x, y, e1, e2, kp _ _ (fun q => by rw [q] at this; exact absurd this (Nat.not_le.mpr hS)) e3⟩
theorem ne_lt {a b : Addr} (h : b < M) (h2 : M ≤ a) : a ≠ b := fun q => by rw [q] at h2; exact absurd h2 (Nat.not_le.mpr h)
variable {prog : Program} {w : World} {A : Around} {E : Value → Shared → Prop} {s : Shared} {x y : Value}
/-- the next pair -/
theorem ZW.item {Q : Option Value → Shared → Prop} (B : ZB z TI TO i1 i2 l1 l2 S M) (W : ZW s.heap z TI TO i1 i2 l1 l2 M xs ys i as) (hM : M ≤ s.heap.objs.size) (hx : xs[i]? = some x) (hy : ys[i]? = some y)
    (hQ : ∀ h', ZW h' z TI TO i1 i2 l1 l2 M xs ys (i + 1) (as ++ [s.heap.objs.size]) → h'.objs.size = s.heap.objs.size + 1 → (∀ c o, c ≠ z → c ≠ TO → c ≠ i1 → c ≠ i2 → s.heap.get? c = some o → h'.get? c = some o) → Q (some (.ref s.heap.objs.size)) { s with heap := h' }) :
    wpAny (model prog w) A (pyNext (.ref z)) Q E s := by
  have fin : ∀ h', (∃ T b oT, M ≤ T ∧ ZipO h' z TI TO T b ∧ h'.get? T = some oT) → h'.IsListIter i1 l1 (i + 1) → h'.IsListIter i2 l2 (i + 1) → IsPair h' s.heap.objs.size x y → (∀ c o, c ≠ z → c ≠ TO → c ≠ i1 → c ≠ i2 → s.heap.get? c = some o → h'.get? c = some o) →
      ZW h' z TI TO i1 i2 l1 l2 M xs ys (i + 1) (as ++ [s.heap.objs.size]) := fun h' st r1 r2 r3 kp => by
    refine ⟨.inr st, kp _ _ B.D.TIz B.D.TITO B.D.TIi1 B.D.TIi2 W.p1, r1, r2, W.g1.at fun o e => kp _ _ B.D.l1z B.D.l1TO B.D.l1i1 B.D.l1i2 e, W.g2.at fun o e => kp _ _ B.D.l2z B.D.l2TO B.D.l2i1 B.D.l2i2 e, by rw [List.length_append, W.len]; rfl, ?_, fun a ha => ?_, fun j a e => ?_⟩
    · refine List.pairwise_append.mpr ⟨W.rise, List.pairwise_singleton _ _, fun a ha b hb => ?_⟩
      rw [List.mem_singleton.mp hb]
      obtain ⟨j, hj⟩ := List.mem_iff_getElem?.mp ha
      obtain ⟨_, _, _, _, e⟩ := W.pr j a hj
      exact Heap.lt_size e
    · rcases List.mem_append.mp ha with ha | ha
      · exact W.lo a ha
      · rw [List.mem_singleton.mp ha]; exact hM
    · by_cases hj : j < as.length
      · rw [List.getElem?_append_left hj] at e
        obtain ⟨x', y', e1, e2, e3⟩ := W.pr j a e
        have := W.lo a (List.mem_of_getElem? e)
        exact ⟨x', y', e1, e2, kp _ _ (ne_lt B.lz this) (ne_lt B.lTO this) (ne_lt B.li1 this) (ne_lt B.li2 this) e3⟩
      · have hj' : j = as.length := by
          have := (List.getElem?_eq_some_iff.mp e).1
          rw [List.length_append, List.length_singleton] at this
          omega
        subst hj'
        rw [List.getElem?_append_right (Nat.le_refl _), Nat.sub_self] at e
        cases e
        exact ⟨x, y, by rw [W.len]; exact hx, by rw [W.len]; exact hy, r3⟩
  rcases W.st with ⟨e, e2, u, v, e3⟩ | ⟨T, b, oT, e1, e2, e3⟩
  · exact wpAny_pyNext_zip_item B.D e2 W.p1 e3 W.q1 W.q2 W.g1 W.g2 hx hy fun h' c1 c2 c3 c4 c5 c6 c7 => hQ h' (fin h' ⟨_, false, _, hM, c1, c5⟩ c3 c4 c5 c7) c6 c7
  · refine zo_nextItem B.D e2 e3 W.p1 W.q1 W.q2 W.g1 W.g2 hx hy fun h' c1 c2 c3 c4 c5 c6 => ?_
    have kp : ∀ c o, c ≠ z → c ≠ TO → c ≠ i1 → c ≠ i2 → s.heap.get? c = some o → h'.get? c = some o := fun c o d1 _ d3 d4 e => c6 c o d1 d3 d4 e
    exact hQ h' (fin h' ⟨T, true, oT, e1, c1, kp _ _ (ne_lt B.lz e1) (ne_lt B.lTO e1) (ne_lt B.li1 e1) (ne_lt B.li2 e1) e3⟩ c2 c3 c4 kp) c5 kp
theorem ZW.done {Q : Option Value → Shared → Prop} (hh : A.handled = none) (B : ZB z TI TO i1 i2 l1 l2 S M) (W : ZW s.heap z TI TO i1 i2 l1 l2 M xs ys i as) (hx : xs[i]? = none)
    (hQ : ∀ h', (∀ c o, c ≠ z → c ≠ TO → c ≠ i1 → c ≠ i2 → s.heap.get? c = some o → h'.get? c = some o) → Q none { s with heap := h' }) : wpAny (model prog w) A (pyNext (.ref z)) Q E s := by
  rcases W.st with ⟨e, e2, u, v, e3⟩ | ⟨T, b, oT, e1, e2, e3⟩
  · exact wpAny_pyNext_zip_end hh B.D e2 W.p1 e3 W.q1 W.q2 W.g1 W.g2 (.inl hx) hQ
  · exact zo_nextEnd hh B.D e2 e3 W.p1 W.q1 W.q2 W.g1 W.g2 hx fun h' kp => hQ h' fun c o d1 _ d3 d4 e => kp c o d1 d3 d4 e
/-- the pairs are put into the list at S -/
theorem zip_fill {R : Result → Shared → Prop} (hh : A.handled = none) (B : ZB z TI TO i1 i2 l1 l2 S M) (hn : xs.size ≤ sizeLine) (hl : xs.size = ys.size) (res : Value) {h0 : Heap}
    (hR : ∀ (h' : Heap) (tk c' : Nat) (acc : Array Value) (as : List Addr), (∀ b o, b ≠ S → b ≠ z → b ≠ TO → b ≠ i1 → b ≠ i2 → h0.get? b = some o → h'.get? b = some o) → h'.get? S = some { cls := .type "list", dict := none, data := .seq acc c', slots := #[] } → as.length = xs.size → as.Pairwise (· < ·) → (∀ a ∈ as, M ≤ a) →
      (∀ (j : Nat) (a : Addr), as[j]? = some a → ∃ x y, xs[j]? = some x ∧ ys[j]? = some y ∧ IsPair h' a x y) → acc.toList = as.map Value.ref → R (.ok (.ret res)) { s with heap := h', toks := tk }) :
    ∀ (m i : Nat) (h : Heap) (tk c : Nat) (acc : Array Value) (as : List Addr), xs.size - i = m → i ≤ xs.size → ZW h z TI TO i1 i2 l1 l2 M xs ys i as → (∀ b o, b ≠ S → b ≠ z → b ≠ TO → b ≠ i1 → b ≠ i2 → h0.get? b = some o → h.get? b = some o) → M ≤ h.objs.size →
      h.get? S = some { cls := .type "list", dict := none, data := .seq acc c, slots := #[] } → acc.toList = as.map Value.ref →
      codeAny (model prog w) A (.builtin "list.extend.loop" ⟨[.ref S, .ref z, res], []⟩) R { s with heap := h, toks := tk } := by
  intro m
  induction m with
  | zero =>
    intro i h tk c acc as hm hi W kp hM hS hacc
    have hi' : i = xs.size := by omega
    subst hi'
    refine codeAny_builtin F.entry_extend_loop ?_
    rw [Around.under_plainId F.plain_extend_loop]
    show wpAny _ A.in1 (pyNext (.ref z) >>= _) _ _ { s with heap := h, toks := tk }
    refine wpAny_bind (ZW.done (s := { s with heap := h, toks := tk }) (A := A.in1) hh B W (by simp) fun h' kp' => ?_)
    refine wpAny_pure (hR h' tk c acc as (fun b o b1 b2 b3 b4 b5 e => kp' b o b2 b3 b4 b5 (kp b o b1 b2 b3 b4 b5 e)) (kp' S _ B.nz B.nTO B.ni1 B.ni2 hS) W.len W.rise W.lo (fun j a e => ?_) hacc)
    obtain ⟨x, y, e1, e2, e3⟩ := W.pr j a e
    have := W.lo a (List.mem_of_getElem? e)
    exact ⟨x, y, e1, e2, kp' _ _ (ne_lt B.lz this) (ne_lt B.lTO this) (ne_lt B.li1 this) (ne_lt B.li2 this) e3⟩
  | succ m ih =>
    intro i h tk c acc as hm hi W kp hM hS hacc
    have lt : i < xs.size := by omega
    have lt2 : i < ys.size := by omega
    refine codeAny_builtin F.entry_extend_loop ?_
    rw [Around.under_plainId F.plain_extend_loop]
    show wpAny _ A.in1 (pyNext (.ref z) >>= _) _ _ { s with heap := h, toks := tk }
    refine wpAny_bind (ZW.item (s := { s with heap := h, toks := tk }) B W hM (Array.getElem?_eq_getElem lt) (Array.getElem?_eq_getElem lt2) fun h' W' sz' kp' => ?_)
    dsimp only at W' sz' kp' ⊢
    have hS' := kp' S _ B.nz B.nTO B.ni1 B.ni2 hS
    have hsz : acc.size = i := by rw [← Array.length_toList, hacc, List.length_map, W.len]
    have up : ∀ b o, b ≠ S → h'.get? b = some o → (h'.update S (Obj.mapSeq (·.push (Value.ref h.objs.size)))).get? b = some o := fun b o hb e => by rw [Heap.get?_update_other _ _ (Ne.symm hb)]; exact e
    show wpAny _ A.in1 (updateSeq S (·.push (Value.ref h.objs.size)) >>= _) _ _ { s with heap := h', toks := tk }
    refine wpAny_bind (wpAny_updateSeq hS' rfl (wpAny_pure ⟨plainId_quiet F.plain_extend_loop _, ih (i + 1) _ tk _ (acc.push (Value.ref h.objs.size)) (as ++ [h.objs.size]) (by omega) lt (W'.keep B up) (fun b o b1 b2 b3 b4 b5 e => up b o b1 (kp' b o b2 b3 b4 b5 (kp b o b1 b2 b3 b4 b5 e))) ?_ (Heap.get?_update_self _ hS' rfl) (by rw [Array.toList_push, hacc, List.map_append]; rfl)⟩)
      (by rw [hsz]; omega) (by show (acc.push (Value.ref h.objs.size)).size ≤ sizeLine + 1; rw [Array.size_push, hsz]; omega))
    have e1 : (h'.update S (Obj.mapSeq (·.push (Value.ref h.objs.size)))).objs.size = h'.objs.size := (Heap.SameBut.update ..).1
    exact Nat.le_trans hM (Nat.le_trans (Nat.le_succ _) (Nat.le_of_eq (sz'.symm.trans e1.symm)))
end
end LZ

namespace LZ
open PySem PySem.Spec PyProof.Rows
theorem zip_noLen : typeLookup (.type "zip") "__len__" = pure none := by rw [typeLookup_type, builtinLookup_eq_fast]; kernel_rfl
theorem zip_noHint : typeLookup (.type "zip") "__length_hint__" = pure none := by rw [typeLookup_type, builtinLookup_eq_fast]; kernel_rfl
section
variable {prog : Program} {w : World} {A : Around} {E : Value → Shared → Prop} {s : Shared} {z TI TO i1 i2 l1 l2 S M : Addr} {xs ys : Array Value}
theorem zip_hint {Q : Bool → Shared → Prop} (ty : s.TypeIs (.ref z) "zip") (h : Q true s) : wpAny (model prog w) A (Builtin.List.listLengthHint (.ref z)) Q E s := by
  unfold Builtin.List.listLengthHint
  refine wpAny_bind (wpAny_specialOf ty zip_noLen ?_)
  refine wpAny_ite_split (fun q => absurd q (by decide)) fun _ => ?_
  refine wpAny_ite_split (fun q => absurd q (by decide)) fun _ => ?_
  exact wpAny_bind (wpAny_specialOf ty zip_noHint (wpAny_pure h))
theorem zip_extend {R : Result → Shared → Prop} (hh : A.handled = none) (B : ZB z TI TO i1 i2 l1 l2 S M) (hn : xs.size ≤ sizeLine) (hl : xs.size = ys.size) (res : Value) (c0 : Nat) (hM : M ≤ s.heap.objs.size) (W : ZW s.heap z TI TO i1 i2 l1 l2 M xs ys 0 []) (pz : IsZip s.heap z TI TO .none)
    (hS : s.heap.get? S = some { cls := .type "list", data := .seq #[] c0 })
    (hR : ∀ (h' : Heap) (tk c' : Nat) (acc : Array Value) (as : List Addr), (∀ b o, b ≠ S → b ≠ z → b ≠ TO → b ≠ i1 → b ≠ i2 → s.heap.get? b = some o → h'.get? b = some o) → h'.get? S = some { cls := .type "list", dict := none, data := .seq acc c', slots := #[] } → as.length = xs.size → as.Pairwise (· < ·) → (∀ a ∈ as, M ≤ a) →
      (∀ (j : Nat) (a : Addr), as[j]? = some a → ∃ x y, xs[j]? = some x ∧ ys[j]? = some y ∧ IsPair h' a x y) → acc.toList = as.map Value.ref → R (.ok (.ret res)) { s with heap := h', toks := tk }) :
    wpAny (model prog w) A.in1 (Builtin.List.listExtendWith (.ref S) (.ref z) res) (fun fin s' => match fin with | .done f => R (.ok f) s' | .again c' => c'.quiet = true ∧ codeAny (model prog w) A c' R s') (fun e s' => R (.error e) s') s := by
  have ty : s.TypeIs (.ref z) "zip" := ⟨_, pz, rfl⟩
  unfold Builtin.List.listExtendWith
  refine wpAny_bind (wpAny_typeOf ty ?_)
  have n1 : Builtin.List.listSameRef (.ref S) (.ref z) = false := by simp [Builtin.List.listSameRef, B.nz]
  simp only [n1, show (Value.type "zip" == Value.type "list") = false by decide, show (Value.type "zip" == Value.type "tuple") = false by decide, Bool.or_false, Bool.false_eq_true, if_false]
  refine wpAny_bind (wpAny_pyIter_zip pz ?_)
  refine wpAny_bind (wpAny_holding (zip_hint ty ?_))
  simp only [Bool.true_or, if_true]
  refine wpAny_bind (wpAny_rule ?_)
  refine wpAny_bind ?_
  show wpAny _ _ (updateSeq S (·.push .none) >>= fun _ => updateSeq S (·.pop)) _ _ s
  refine wpAny_bind (wpAny_updateSeq hS rfl ?_)
  have hS2 := Heap.get?_update_self (Obj.mapSeq (·.push Value.none)) hS rfl
  refine wpAny_updateSeq (hz := by seq_fits) hS2 rfl ?_
  have hS3 := Heap.get?_update_self (Obj.mapSeq (·.pop)) hS2 rfl
  have up : ∀ b o, b ≠ S → s.heap.get? b = some o → ((s.heap.update S (Obj.mapSeq (·.push Value.none))).update S (Obj.mapSeq (·.pop))).get? b = some o := fun b o hb e => by rw [Heap.get?_update_other _ _ (Ne.symm hb), Heap.get?_update_other _ _ (Ne.symm hb)]; exact e
  refine wpAny_pure ⟨plainId_quiet F.plain_extend_loop _, ?_⟩
  refine zip_fill hh B hn hl res (h0 := s.heap) hR xs.size 0 _ _ _ #[] [] rfl (Nat.zero_le _) (W.keep B up) (fun b o b1 _ _ _ _ e => up b o b1 e) ?_ hS3 rfl
  rw [(Heap.SameBut.update ..).1, (Heap.SameBut.update ..).1]
  exact hM
theorem zip_init {R : Result → Shared → Prop} (hh : A.handled = none) (B : ZB z TI TO i1 i2 l1 l2 S M) (hn : xs.size ≤ sizeLine) (hl : xs.size = ys.size) (hM : M ≤ s.heap.objs.size) (W : ZW s.heap z TI TO i1 i2 l1 l2 M xs ys 0 []) (pz : IsZip s.heap z TI TO .none) (hS : s.heap.get? S = some { cls := .type "list", data := .seq #[] })
    (hR : ∀ (h' : Heap) (tk c' : Nat) (acc : Array Value) (as : List Addr), (∀ b o, b ≠ S → b ≠ z → b ≠ TO → b ≠ i1 → b ≠ i2 → s.heap.get? b = some o → h'.get? b = some o) → h'.get? S = some { cls := .type "list", dict := none, data := .seq acc c', slots := #[] } → as.length = xs.size → as.Pairwise (· < ·) → (∀ a ∈ as, M ≤ a) →
      (∀ (j : Nat) (a : Addr), as[j]? = some a → ∃ x y, xs[j]? = some x ∧ ys[j]? = some y ∧ IsPair h' a x y) → acc.toList = as.map Value.ref → R (.ok (.ret .none)) { s with heap := h', toks := tk }) :
    wpAny (model prog w) A.in1 (Builtin.«list.__init__» ⟨[.ref S, .ref z], []⟩) (fun fin s' => match fin with | .done f => R (.ok f) s' | .again c' => c'.quiet = true ∧ codeAny (model prog w) A c' R s') (fun e s' => R (.error e) s') s := by
  show wpAny _ _ (do let old ← Builtin.List.listItems (.ref S); Builtin.List.listUpdate (.ref S) (fun _ => #[]); letGo old.toList.reverse; Builtin.List.listExtendWith (.ref S) (.ref z) .none) _ _ s
  refine wpAny_bind ?_
  unfold Builtin.List.listItems
  refine wpAny_bind (wpAny_seqItems hS rfl (wpAny_pure ?_))
  show wpAny _ _ (updateSeq S (fun _ => #[]) >>= fun _ => letGo (#[] : Array Value).toList.reverse >>= fun _ => Builtin.List.listExtendWith (.ref S) (.ref z) .none) _ _ s
  refine wpAny_bind (wpAny_updateSeq hS rfl ?_)
  have hS2 := Heap.get?_update_self (Obj.mapSeq (fun _ => (#[] : Array Value))) hS rfl
  have up : ∀ b o, b ≠ S → s.heap.get? b = some o → (s.heap.update S (Obj.mapSeq (fun _ => (#[] : Array Value)))).get? b = some o := fun b o hb e => by rw [Heap.get?_update_other _ _ (Ne.symm hb)]; exact e
  refine wpAny_bind (wpAny_letGo ?_)
  refine zip_extend hh B hn hl .none _ ?_ (W.keep B up) (up _ _ (Ne.symm B.nz) pz) hS2 fun h' tk c' acc as kp h1 h2 h3 h4 h5 h6 => hR h' tk c' acc as (fun b o b1 b2 b3 b4 b5 e => kp b o b1 b2 b3 b4 b5 (up b o b1 e)) h1 h2 h3 h4 h5 h6
  show M ≤ (s.heap.update S _).objs.size
  rw [(Heap.SameBut.update ..).1]
  exact hM
/-- list(zip(l1, l2)), the zip made already -/
theorem list_zip {Q : Value → Shared → Prop} (hh : A.handled = none) (D : ZipApart z TI TO i1 i2 l1 l2) (hn : xs.size ≤ sizeLine) (hl : xs.size = ys.size) (pz : IsZip s.heap z TI TO .none) (p1 : IsPair s.heap TI (.ref i1) (.ref i2)) (p2 : ∃ u v, IsPair s.heap TO u v) (q1 : s.heap.IsListIter i1 l1 0) (q2 : s.heap.IsListIter i2 l2 0) (g1 : s.heap.IsList l1 xs) (g2 : s.heap.IsList l2 ys)
    (hQ : ∀ (h' : Heap) (tk c' : Nat) (acc : Array Value) (as : List Addr), (∀ b o, b ≠ z → b ≠ TO → b ≠ i1 → b ≠ i2 → s.heap.get? b = some o → h'.get? b = some o) → h'.get? s.heap.objs.size = some { cls := .type "list", dict := none, data := .seq acc c', slots := #[] } → as.length = xs.size → as.Pairwise (· < ·) → (∀ a ∈ as, s.heap.objs.size < a) →
      (∀ (j : Nat) (a : Addr), as[j]? = some a → ∃ x y, xs[j]? = some x ∧ ys[j]? = some y ∧ IsPair h' a x y) → acc.toList = as.map Value.ref → Q (.ref s.heap.objs.size) { s with heap := h', toks := tk }) :
    wpAny (model prog w) A (call (.type "list") [.ref z]) Q E s := by
  refine callType_codes (Q₁ := fun obj s₁ => obj = .ref s.heap.objs.size ∧ s₁ = { s with heap := s.heap.push { cls := .type "list", data := .seq #[] } }) F.called_list (F.typeCall_list_1 _) F.entry_list_init (PySem.code_list_new _ ⟨rfl, rfl⟩) fun obj s1 h1 => ?_
  obtain ⟨rfl, rfl⟩ := h1
  have hS : (s.heap.push { cls := .type "list", data := .seq #[] }).get? s.heap.objs.size = some { cls := .type "list", data := .seq #[] } := Heap.get?_push_size _ rfl
  obtain ⟨u, v, p2⟩ := p2
  have zl : z < s.heap.objs.size := Heap.lt_size pz
  have tl := Heap.lt_size p1
  have tol := Heap.lt_size p2
  have i1l : i1 < s.heap.objs.size := by obtain ⟨_, e, _⟩ := q1; exact Heap.lt_size e
  have i2l : i2 < s.heap.objs.size := by obtain ⟨_, e, _⟩ := q2; exact Heap.lt_size e
  have l1l : l1 < s.heap.objs.size := by obtain ⟨_, e, _⟩ := g1; exact Heap.lt_size e
  have l2l : l2 < s.heap.objs.size := by obtain ⟨_, e, _⟩ := g2; exact Heap.lt_size e
  have B : ZB z TI TO i1 i2 l1 l2 s.heap.objs.size (s.heap.objs.size + 1) := ⟨D, Nat.lt_succ_self _, Nat.lt_succ_of_lt zl, Nat.lt_succ_of_lt tl, Nat.lt_succ_of_lt tol, Nat.lt_succ_of_lt i1l, Nat.lt_succ_of_lt i2l, Nat.lt_succ_of_lt l1l, Nat.lt_succ_of_lt l2l, Nat.ne_of_gt zl, Nat.ne_of_gt tl, Nat.ne_of_gt tol, Nat.ne_of_gt i1l, Nat.ne_of_gt i2l, Nat.ne_of_gt l1l, Nat.ne_of_gt l2l⟩
  have up : ∀ b o, s.heap.get? b = some o → (s.heap.push { cls := .type "list", data := .seq #[] }).get? b = some o := fun b o e => Heap.get?_push_of_some _ e
  have W : ZW (s.heap.push { cls := .type "list", data := .seq #[] }) z TI TO i1 i2 l1 l2 (s.heap.objs.size + 1) xs ys 0 [] := ⟨.inl ⟨rfl, up _ _ pz, u, v, up _ _ p2⟩, up _ _ p1, q1.at fun o e => up _ _ e, q2.at fun o e => up _ _ e, g1.at fun o e => up _ _ e, g2.at fun o e => up _ _ e, rfl, List.Pairwise.nil, (fun _ h => absurd h (by simp)), fun j a h => by simp at h⟩
  refine ⟨⟨_, hS, rfl⟩, F.args_list_init_2 _ _, zip_init (A := A.in1) hh B hn hl (by rw [Heap.size_push]; exact Nat.le_refl _) W (up _ _ pz) hS fun h' tk c' acc as kp e1 e2 e3 e4 e5 e6 => ?_⟩
  exact ⟨rfl, hQ h' tk c' acc as (fun b o b2 b3 b4 b5 e => kp b o (Nat.ne_of_lt (Heap.lt_size e)) b2 b3 b4 b5 (up _ _ e)) e1 e2 e3 (fun a ha => e4 a ha) e5 e6⟩
end
end LZ

namespace LZ
open PySem PySem.Spec PyProof.Rows L2
/-- pairs at new places -/
def putP : Hp → List Addr → List (V × V) → Hp
  | H, a :: as, p :: ps => putP (upd H a (.tup [p.1, p.2])) as ps
  | H, _, _ => H
theorem putP_off : ∀ (as : List Addr) (ps : List (V × V)) (H : Hp) {b : Addr}, b ∉ as → putP H as ps b = H b
  | [], _, _, _, _ => rfl
  | _ :: _, [], _, _, _ => rfl
  | a :: as, p :: ps, H, b, h => by
    have h1 : b ≠ a := fun q => h (by rw [q]; exact List.mem_cons_self ..)
    show putP (upd H a (.tup [p.1, p.2])) as ps b = H b
    rw [putP_off as ps _ fun q => h (List.mem_cons_of_mem _ q), upd_ne h1]
theorem putP_at : ∀ (as : List Addr) (ps : List (V × V)) (H : Hp), as.Nodup → ∀ (j : Nat) (a : Addr) (p : V × V), as[j]? = some a → ps[j]? = some p → putP H as ps a = some (.tup [p.1, p.2])
  | [], _, _, _, j, a, p, h, _ => by simp at h
  | _ :: _, [], _, _, j, a, p, _, h => by simp at h
  | a :: as, p :: ps, H, nd, 0, b, q, h1, h2 => by
    cases h1
    cases h2
    show putP (upd H a (.tup [p.1, p.2])) as ps a = _
    rw [putP_off as ps _ (List.nodup_cons.mp nd).1, upd_same]
  | a :: as, p :: ps, H, nd, j + 1, b, q, h1, h2 => putP_at as ps _ (List.nodup_cons.mp nd).2 j b q (by simpa using h1) (by simpa using h2)
section
variable {X : Cx}
theorem pairs_laid {pins : List (Addr × Obj)} {σ : L2.St} {H : Hp} {s : Shared} {h' : Heap} {tk : Nat} {ps : List (V × V)} {xs ys : List Value} {acc : Array Value} {c : Nat} {as : List Addr} {q : Addr} (I : Inv X pins σ H s) (hz : ps.length ≤ sizeLine) (v1 : Vals (ps.map (·.1)) xs) (v2 : Vals (ps.map (·.2)) ys)
    (hk : ∀ b o, s.heap.get? b = some o → h'.get? b = some o) (hq : s.heap.objs.size ≤ q) (hS : h'.get? q = some { cls := .type "list", dict := none, data := .seq acc c, slots := #[] }) (hl : as.length = ps.length) (up : as.Pairwise (· < ·)) (lo : ∀ a ∈ as, q < a)
    (hp : ∀ (j : Nat) (a : Addr), as[j]? = some a → ∃ x y, xs[j]? = some x ∧ ys[j]? = some y ∧ IsPair h' a x y) (ha : acc.toList = as.map Value.ref) :
    ∃ H' : Hp, (∀ b o, H b = some o → H' b = some o) ∧ H q = none ∧ (∀ t ∈ as, H t = none) ∧ q ∉ as ∧ H' q = some (.lst (as.map V.ref)) ∧ (∀ (j : Nat) (a : Addr) (p : V × V), as[j]? = some a → ps[j]? = some p → H' a = some (.tup [p.1, p.2])) ∧ Inv X pins σ H' { s with heap := h', toks := tk } := by
  have nq : q ∉ as := fun z => Nat.lt_irrefl _ (lo _ z)
  have nd : as.Nodup := up.imp fun h => Nat.ne_of_lt h
  have fr : ∀ t ∈ as, H t = none := fun t ht => I.hok.fresh (Nat.le_trans hq (Nat.le_of_lt (lo t ht)))
  have fq : H q = none := I.hok.fresh hq
  have at_ := putP_at as ps (upd H q (.lst (as.map V.ref))) nd
  have off : ∀ b, b ∉ as → b ≠ q → putP (upd H q (.lst (as.map V.ref))) as ps b = H b := fun b h1 h2 => by rw [putP_off as ps _ h1, upd_ne h2]
  have low : ∀ b o, s.heap.get? b = some o → b ∉ as ∧ b ≠ q := fun b o e => ⟨fun z => absurd (Nat.lt_of_lt_of_le (Heap.lt_size e) hq) (Nat.not_lt.mpr (Nat.le_of_lt (lo b z))), Nat.ne_of_lt (Nat.lt_of_lt_of_le (Heap.lt_size e) hq)⟩
  have kp : ∀ b u, H b = some u → (putP (upd H q (.lst (as.map V.ref))) as ps) b = some u := fun b u e => by
    rw [off b (fun z => by rw [fr b z] at e; cases e) (fun z => by rw [z, fq] at e; cases e)]
    exact e
  have eq_ : putP (upd H q (.lst (as.map V.ref))) as ps q = some (.lst (as.map V.ref)) := by rw [putP_off as ps _ nq, upd_same]
  refine ⟨putP (upd H q (.lst (as.map V.ref))) as ps, kp, fq, fr, nq, eq_, at_, ?_⟩
  refine I.call' (ch := []) rfl ⟨fun b o e _ _ _ => hk b o e, fun b o e _ _ _ => ⟨o.slots, hk b o e⟩, fun b o e n _ => ?_, fun b o e _ => ⟨o, hk b o e⟩, fun b us e => kp b _ e, fun b o u e => kp b _ e, fun b us e => ⟨#[], by rw [kp b _ e]; simp⟩⟩ (fun b u e => ?_) I.bare fun b z => by simp at z
  · obtain ⟨z1, z2⟩ := low b o e
    rw [off b z1 z2]
    exact n
  · by_cases hb : b ∈ as
    · obtain ⟨j, hj⟩ := List.mem_iff_getElem?.mp hb
      have hlt := (List.getElem?_eq_some_iff.mp hj).1
      have hpj : ps[j]? = some ps[j] := List.getElem?_eq_getElem (by omega)
      rw [at_ j b _ hj hpj] at e
      cases e
      obtain ⟨x, y, e1, e2, e3⟩ := hp j b hj
      obtain ⟨x', f1, f2⟩ := v1.get (i := j) (x := ps[j].1) (by rw [List.getElem?_map, hpj]; rfl)
      obtain ⟨y', g1, g2⟩ := v2.get (i := j) (x := ps[j].2) (by rw [List.getElem?_map, hpj]; rfl)
      cases f1.symm.trans e1
      cases g1.symm.trans e2
      exact ⟨by show 2 ≤ sizeLine; decide, [_, _], .cons f2 (.cons g2 .nil), ⟨_, e3, rfl, _, rfl⟩⟩
    · by_cases hb2 : b = q
      · subst hb2
        rw [eq_] at e
        cases e
        refine ⟨by rw [List.length_map]; omega, acc.toList, c, by rw [ha]; exact vals_refs as, ?_⟩
        rw [Array.toArray_toList]
        exact hS
      · rw [off b hb hb2] at e
        exact (I.hok b u e).stay (fun d v _ y => hk d v y) (fun d y => kp d _ y) fun d us y => kp d _ y
/-- list(zip(e, e2)) of two lists, one as long as the other -/
def tLZip (K : PySem.W.Frag) (ta : TA) : TE := fun σ H Q => ta σ H fun vs H1 => ∃ (a b : Addr) (ps : List (V × V)), vs = [.ref a, .ref b] ∧ SqL K H1 a (ps.map (·.1)) ∧ SqL K H1 b (ps.map (·.2)) ∧
  ∀ (H' : Hp) (q : Addr) (as : List Addr), (∀ b o, H1 b = some o → H' b = some o) → H1 q = none → (∀ t ∈ as, H1 t = none) → q ∉ as → H' q = some (.lst (as.map V.ref)) → as.length = ps.length → (∀ (j : Nat) (a : Addr) (p : V × V), as[j]? = some a → ps[j]? = some p → H' a = some (.tup [p.1, p.2])) → Q (.ref q) H'
theorem pe_listZip {e e2 : Expr} {ta : TA} {p p2 pos pos2 : Pos} (hc : X.calm = true) (hg : Gl X "list") (hm : X.mg "list" = none) (hg2 : Gl X "zip") (hm2 : X.mg "zip" = none) (ha : PA X [e, e2] ta)
    (hs : starEach [e, e2] X.env = (false, eval e X.env) :: starEach [e2] X.env := by rfl) (hpl : (backTo pos2 (starEach [e2] X.env)).any (·.1) = false := by rfl)
    (na : starEach [Expr.Call (.Name "zip" p2) [e, e2] [] pos2] X.env = (false, eval (.Call (.Name "zip" p2) [e, e2] [] pos2) X.env) :: starEach [] X.env := by rfl) :
    PE X (.Call (.Name "list" p) [.Call (.Name "zip" p2) [e, e2] [] pos2] [] pos) (tLZip X.K ta) := by
  refine ⟨fun pins s σ H Q I h => ?_⟩
  refine Call_ (ld_blt I hg hm boot_list (PyProof.Rows.callWith_type1 (args_cons ?_ na) na))
  refine Call_ (ld_blt I hg2 hm2 PyProof.Rows.boot_zip (PyProof.Rows.callWith_type1 (thn (ha.run pos2 pins s σ H _ I h) fun us s1 ⟨vs, H1, I1, r1, q1⟩ => ?_) hs hpl))
  obtain ⟨a, b, ps, ex, sa, sb, q1⟩ := q1
  subst ex
  cases r1 with
  | cons r rr =>
    cases rr with
    | cons r' rr =>
      cases rr
      cases r
      cases r'
      obtain ⟨xs, v1, g1, z1⟩ := I1.list sa
      obtain ⟨ys, v2, g2, z2⟩ := I1.list sb
      refine call_zip_2 g1.isList g2.isList fun h' c1 c2 c3 c4 c5 c6 kp => args_nil ?_
      have lx := v1.length
      have ly := v2.length
      rw [List.length_map] at lx ly z1
      have gx : h'.IsList a xs.toArray := g1.isList.at fun o e => kp _ _ e
      have gy : h'.IsList b ys.toArray := g2.isList.at fun o e => kp _ _ e
      refine list_zip (s := { s1 with heap := h' }) (I1.ok.hd hc) (PySem.W.ktu_apart s1.heap.objs.size a b g1.lt g2.lt) (by simp; omega) (by simp; omega) c1 c2 ⟨_, _, c3⟩ c4 c5 gx gy fun h2 tk c' acc as kp2 d1 d2 d3 d4 d5 d6 => ?_
      have hq : s1.heap.objs.size ≤ h'.objs.size := by rw [c6]; exact Nat.le_add_right _ _
      have all : ∀ b o, s1.heap.get? b = some o → h2.get? b = some o := fun b o e => by
        have hb := Heap.lt_size e
        exact kp2 b o (Nat.ne_of_lt (Nat.lt_of_lt_of_le hb (Nat.le_add_right _ _))) (Nat.ne_of_lt (Nat.lt_of_lt_of_le hb (Nat.le_add_right _ _))) (Nat.ne_of_lt hb) (Nat.ne_of_lt (Nat.lt_of_lt_of_le hb (Nat.le_add_right _ _))) (kp _ _ e)
      obtain ⟨H', k1, k2, k3, k4, k5, k6, J⟩ := pairs_laid (tk := tk) I1 z1 v1 v2 all hq d1 (by rw [d2]; simp; omega) d3 d4 (fun j t e => by
        obtain ⟨x, y, e1, e2, e3⟩ := d5 j t e
        exact ⟨x, y, by simpa using e1, by simpa using e2, e3⟩) d6
      exact ⟨.ref h'.objs.size, H', J, rfl, q1 H' h'.objs.size as k1 k2 k3 k4 k5 (by rw [d2]; simp; omega) k6⟩
end
end LZ
namespace PM
open PySem PySem.Spec PyProof.Rows L2 Q2
/-- a list and what it holds are new -/
theorem RS.newIn {K : KX} {ρ : List Addr} {S : Sto} {H H' : Hp} (R : RS K ρ S H) {q : Addr} {xs : List Va} {ws : List V} (kp : ∀ b o, H b = some o → H' b = some o) (fq : H q = none) (hl : xs.length ≤ sizeLine) (hq : H' q = some (.lst ws)) (h : Rvs K (ρ ++ [q]) H' xs ws) : Ext ρ (ρ ++ [q]) H H' ∧ RS K (ρ ++ [q]) (S ++ [.lst xs]) H' := by
  have hq' := R.fresh fq
  have E : Ext ρ (ρ ++ [q]) H H' := ⟨R.nt, ⟨[q], rfl⟩, fun b u e _ => kp b u e, fun b hb n => by
    rcases List.mem_append.mp hb with hb | hb
    · exact absurd hb n
    · rw [List.mem_singleton.mp hb]; exact fq⟩
  refine ⟨E, by simp [R.len], ?_, fun n a u h1 h2 => ?_⟩
  · refine List.nodup_append.mpr ⟨R.nd, by simp, fun x hx y hy z => hq' ?_⟩
    rw [← List.mem_singleton.mp hy, ← z]
    exact hx
  · by_cases hn : n < ρ.length
    · rw [List.getElem?_append_left hn] at h1
      rw [List.getElem?_append_left (by rw [← R.len]; exact hn)] at h2
      have ro := R.at_ n a u h1 h2
      obtain ⟨o, e, _⟩ := ro.nt
      exact ro.ext E (by rw [e, kp _ _ e])
    · have hn' : n = ρ.length := by
        have := (List.getElem?_eq_some_iff.mp h1).1
        simp at this
        omega
      subst hn'
      rw [List.getElem?_append_right (Nat.le_refl _), Nat.sub_self] at h1
      rw [List.getElem?_append_right (by rw [R.len]; exact Nat.le_refl _), R.len, Nat.sub_self] at h2
      cases h1
      cases h2
      exact ⟨hl, ws, hq, h⟩
def zipP : List Va → List Va → List Va
  | x :: xs, y :: ys => .tup [x, y] :: zipP xs ys
  | _, _ => []
theorem zipP_len : ∀ {xs ys : List Va}, xs.length = ys.length → (zipP xs ys).length = xs.length
  | [], [], _ => rfl
  | x :: xs, y :: ys, h => by
    show (zipP xs ys).length + 1 = xs.length + 1
    rw [zipP_len (by simpa using h)]
def mLZip (t : MA) : ME := fun Γ S => (t Γ S).bind fun vs S1 => match vs with
  | [v, w] => match lstOf S1 v, lstOf S1 w with
    | some xs, some ys => if xs.length = ys.length ∧ xs.length ≤ sizeLine then .ok (.ref S1.length) (S1 ++ [.lst (zipP xs ys)]) else .bad
    | _, _ => .bad
  | _ => .bad
theorem lst_sq {K : KX} {ρ : List Addr} {S : Sto} {H : Hp} {v : Va} {xs : List Va} {u : V} (R : RS K ρ S H) (r : Rv K ρ H v u) (h : lstOf S v = some xs) : ∃ a ws, u = .ref a ∧ SqL K.K H a ws ∧ Rvs K ρ H xs ws := by
  cases v with
  | ref n =>
    obtain ⟨a, h1, rfl⟩ := r
    unfold lstOf at h
    simp only at h
    cases e : S[n]? with
    | none => rw [e] at h; cases h
    | some o =>
      rw [e] at h
      cases o with
      | lst ys =>
        cases h
        obtain ⟨_, ws, h3, h4⟩ := R.at_ n a _ h1 e
        exact ⟨a, ws, rfl, SqL.of h3, h4⟩
      | setT _ => cases h
      | raw _ => cases h
      | tbl _ => cases h
      | dct _ => cases h
  | rol ys =>
    cases h
    obtain ⟨a, ws, rfl, h1, h2⟩ := r
    exact ⟨a, ws, rfl, h1.sq, h2⟩
  | _ => cases h
theorem zip_rel {K : KX} {ρ ρ' : List Addr} {H H' : Hp} (E : Ext ρ ρ' H H') : ∀ {xs ys : List Va} {ps : List (V × V)} {as : List Addr}, Rvs K ρ H xs (ps.map (·.1)) → Rvs K ρ H ys (ps.map (·.2)) → as.length = ps.length → (∀ (j : Nat) (a : Addr) (p : V × V), as[j]? = some a → ps[j]? = some p → H' a = some (.tup [p.1, p.2])) → Rvs K ρ' H' (zipP xs ys) (as.map V.ref)
  | [], _, [], [], _, _, _, _ => rfl
  | x :: xs, y :: ys, p :: ps, a :: as, h1, h2, hl, hp => by
    obtain ⟨w, r, e1, r1, t1⟩ := h1
    obtain ⟨w', r', e2, r2, t2⟩ := h2
    cases e1
    cases e2
    refine Rvs.cons ⟨a, [p.1, p.2], rfl, SqT.of (hp 0 a p rfl rfl), Rvs.cons (r1.ext E) (Rvs.cons (r2.ext E) rfl)⟩ (zip_rel E t1 t2 (by simpa using hl) fun j b q e1 e2 => hp (j + 1) b q (by simpa using e1) (by simpa using e2))
  | [], _, p :: ps, _, h1, _, _, _ => by cases h1
  | x :: xs, _, [], _, h1, _, _, _ => by obtain ⟨w, r, e, _⟩ := h1; cases e
  | _, [], p :: ps, _, _, h2, _, _ => by cases h2
  | _, y :: ys, [], _, _, h2, _, _ => by obtain ⟨w, r, e, _⟩ := h2; cases e
  | _, _, p :: ps, [], _, _, hl, _ => by simp at hl
  | _, _, [], a :: as, _, _, hl, _ => by simp at hl
theorem pm_listZip {X : Cx} {W : XW} {e e2 : Expr} {t : MA} {p p2 pos pos2 : Pos} (hc : X.calm = true) (hg : Gl X "list") (hm : X.mg "list" = none) (hg2 : Gl X "zip") (hm2 : X.mg "zip" = none) (ha : PMA X W [e, e2] t)
    (hs : starEach [e, e2] X.env = (false, eval e X.env) :: starEach [e2] X.env := by rfl) (hpl : (backTo pos2 (starEach [e2] X.env)).any (·.1) = false := by rfl)
    (na : starEach [Expr.Call (.Name "zip" p2) [e, e2] [] pos2] X.env = (false, eval (.Call (.Name "zip" p2) [e, e2] [] pos2) X.env) :: starEach [] X.env := by rfl) :
    PM X W (.Call (.Name "list" p) [.Call (.Name "zip" p2) [e, e2] [] pos2] [] pos) (mLZip t) := by
  refine pe_imp (LZ.pe_listZip hc hg hm hg2 hm2 ha hs hpl na) fun σ H Q ⟨ρ, Γ, S, R, G, q⟩ => ?_
  refine ⟨ρ, Γ, S, R, G, q.bind fun vs S1 ρ1 H1 ws E1 R1 rx q1 => ?_⟩
  match vs, rx, q1 with
  | [], _, q1 => exact q1.elim
  | [_], _, q1 => exact q1.elim
  | _ :: _ :: _ :: _, _, q1 => exact q1.elim
  | [v, w], rx, q1 =>
    obtain ⟨x, y, rfl, r1, r2⟩ := two_of rx rfl
    cases ev : lstOf S1 v with
    | none => simp only [ev] at q1; exact q1.elim
    | some xs =>
      cases ew : lstOf S1 w with
      | none => simp only [ev, ew] at q1; exact q1.elim
      | some ys =>
        simp only [ev, ew] at q1
        by_cases hl : xs.length = ys.length ∧ xs.length ≤ sizeLine
        · rw [if_pos hl] at q1
          obtain ⟨a, us, rfl, s1, t1⟩ := lst_sq R1 r1 ev
          obtain ⟨b, zs, rfl, s2, t2⟩ := lst_sq R1 r2 ew
          have l1 := t1.len
          have l2 := t2.len
          have e1 : (us.zip zs).map (·.1) = us := by rw [List.map_fst_zip]; omega
          have e2 : (us.zip zs).map (·.2) = zs := by rw [List.map_snd_zip]; omega
          refine ⟨a, b, us.zip zs, rfl, by rw [e1]; exact s1, by rw [e2]; exact s2, fun H' q as k1 k2 k3 k4 k5 k6 k7 => ?_⟩
          have E0 : Ext ρ1 (ρ1 ++ [q]) H1 H' := ⟨R1.nt, ⟨[q], rfl⟩, fun b u e _ => k1 b u e, fun b hb n => by
            rcases List.mem_append.mp hb with hb | hb
            · exact absurd hb n
            · rw [List.mem_singleton.mp hb]; exact k2⟩
          have rel := zip_rel E0 (xs := xs) (ys := ys) (ps := us.zip zs) (as := as) (by rw [e1]; exact t1) (by rw [e2]; exact t2) k6 k7
          obtain ⟨E, R2⟩ := R1.newIn k1 k2 (xs := zipP xs ys) (by rw [zipP_len hl.1]; exact hl.2) k5 rel
          exact q1 _ _ _ E R2 (R1.last q)
        · rw [if_neg hl] at q1
          exact q1.elim
end PM

namespace Q2
open PySem PySem.Spec PyProof.Rows L2
section
variable {prog : Program} {w : World} {A : Around} {E : Value → Shared → Prop} {s : Shared}
theorem sliceApplied_rev2 {sl : Addr} {tk : Tok} {Q : Int × Int × Nat → Shared → Prop} (hs : s.heap.IsSliceOf sl .none .none (.int (-1) tk)) (h : Q (1, -1, 2) s) :
    wpAny (model prog w) A (Builtin.Slice.sliceApplied (.ref sl) (pure ((2 : Nat) : Int))) Q E s := by
  obtain ⟨os, hos, hcs, hds⟩ := id hs
  unfold Builtin.Slice.sliceApplied Builtin.Slice.sliceFields
  refine wpAny_bind (wpAny_bind (wpAny_field hos hds (x := .none) rfl (wpAny_bind (wpAny_field hos hds (x := .none) rfl (wpAny_bind (wpAny_field hos hds (x := .int (-1) tk) rfl (wpAny_pure ?_)))))))
  refine wpAny_bind (slicePart_int ?_)
  show wpAny _ _ (if ((-1 : Int) == 0) = true then _ else _) _ _ s
  rw [if_neg (by decide)]
  refine wpAny_bind (slicePart_none (wpAny_bind (slicePart_none (wpAny_bind (wpAny_pure ?_)))))
  show wpAny _ _ (match Builtin.Slice.sliceAdjust none none (-1) ((2 : Nat) : Int) with | (lo, hi) => pure (lo, (-1 : Int), Builtin.Slice.slicePlaces lo hi (-1))) _ _ s
  rw [show Builtin.Slice.sliceAdjust none none (-1) ((2 : Nat) : Int) = (1, -1) by decide]
  show wpAny _ _ (pure ((1 : Int), (-1 : Int), Builtin.Slice.slicePlaces 1 (-1) (-1))) _ _ s
  rw [show Builtin.Slice.slicePlaces 1 (-1) (-1) = 2 by decide]
  exact wpAny_pure h
theorem getItem_tuple_rev2 {t sl : Addr} {u v : Value} {tk : Tok} {Q : Value → Shared → Prop} (ht : IsTup s.heap t #[u, v]) (hs : s.heap.IsSliceOf sl .none .none (.int (-1) tk))
    (h : Q (.ref s.heap.objs.size) { s with heap := s.heap.push { cls := .type "tuple", data := .seq #[v, u] } }) : wpAny (model prog w) A (getItem (.ref t) (.ref sl)) Q E s := by
  have hdrop : sizeOk (.seq #[v, u]) := by
    show 2 ≤ sizeLine
    decide
  obtain ⟨os, hos, hcs, hds⟩ := id hs
  have hTs : s.TypeIs (.ref sl) "slice" := ⟨os, hos, hcs⟩
  unfold getItem
  try with_reducible refine wpAny_holding ?_
  first | refine wpAny_bind (wpAny_pure ?_) | skip
  refine wpAny_bind (wpAny_sequenceKey ht.typeIs (by decide) ?_)
  refine wpAny_bind (wpAny_callSpecial?_slot (name := Str.ofString "__getitem__") ht.typeIs PyProof.Rows.slot_tuple_getitem
    (wpAny_call_entry PyProof.Rows.slot_tuple_getitem ht.typeIs entry_tuple_getitem ?_ (args_tuple_getitem _ _)))
  show wpAny _ _ (Builtin.Tuple.tupleItemsOf (.ref t) >>= _) _ _ s
  refine wpAny_bind (tupleItemsOf_ ht ?_)
  refine wpAny_bind (wpAny_typeOf hTs ?_)
  rw [if_pos (by decide)]
  refine wpAny_bind (sliceApplied_rev2 hs ?_)
  show wpAny _ _ (if ((1 : Int) == 0 && (-1 : Int) == 1 && (2 : Nat) == 2) = true then _ else _) _ _ s
  rw [if_neg (by decide)]
  have pick : ((List.range 2).filterMap fun (k : Nat) => (#[u, v] : Array Value)[((1 : Int) + (k : Int) * (-1)).toNat]?).toArray = #[v, u] := rfl
  rw [pick]
  first
    | exact wpAny_bind (m := Builtin.Tuple.tupleExact _) (wpAny_newObj_type (wpAny_pure ⟨_, rfl, wpAny_pure h⟩) hdrop)
    | exact wpAny_bind (m := Builtin.Tuple.tupleExact _) (wpAny_newObj_type (wpAny_bind (wpAny_pure (wpAny_pure ⟨_, rfl, wpAny_pure h⟩))) hdrop)
    | exact wpAny_bind (wpAny_bind (m := Builtin.Tuple.tupleExact _) (wpAny_newObj_type (wpAny_pure (wpAny_pure ⟨_, rfl, wpAny_pure h⟩)) hdrop))
    | exact wpAny_bind (wpAny_bind (m := Builtin.Tuple.tupleExact _) (wpAny_newObj_type (wpAny_pure ⟨_, rfl, wpAny_pure h⟩) hdrop))
end
section
variable {X : Cx}
/-- t[::-1] of a pair -/
def tRevT (K : PySem.W.Frag) (te : TE) : TE := fun σ H Q => te σ H fun x H1 => ∃ a p q, x = .ref a ∧ SqT K H1 a [p, q] ∧ ∀ r, H1 r = none → Q (.ref r) (upd H1 r (.tup [q, p]))
theorem pe_revT {e : Expr} {te : TE} {k : Nat} {p1 p2 p3 pos : Pos} (he : PE X e te) : PE X (.Subscript e (.Slice none none (some (.UnaryOp .USub (.Constant (.int 1) k p1) p2)) p3) pos) (tRevT X.K te) := by
  refine ⟨fun pins s σ H Q I h => ?_⟩
  refine Subscript_ (thn (he.run pins s σ H _ I h) fun v s1 ⟨x, H1, I1, r1, q1⟩ => ?_)
  obtain ⟨a, xp, xq, ex, hx, q⟩ := q1
  subst ex
  cases r1
  have hst : PO X (some (.UnaryOp .USub (.Constant (.int 1) k p1) p2)) (tPart (tUn (rU fun i => .int (-i)) (tC (.int 1)))) := po_some (pe_un un_neg pe_int)
  refine wpAny_Slice (thn (po_none.run pins s1 σ H1 (fun o H2 => o = none ∧ H2 = H1) I1 ⟨rfl, rfl⟩) fun vl s2 ⟨l, H2, I2, pl, el, e2⟩ => ?_)
  subst el e2
  refine thn (po_none.run pins s2 σ H2 (fun o H3 => o = none ∧ H3 = H2) I2 ⟨rfl, rfl⟩) fun vu s3 ⟨u, H3, I3, pu, eu, e3⟩ => ?_
  subst eu e3
  refine thn (hst.run pins s3 σ H3 (fun o H4 => o = some (-1) ∧ H4 = H3) I3 ⟨1, rfl, -1, rfl, rfl, rfl⟩) fun vs s4 ⟨o, H4, I4, ps, eo, e4⟩ => ?_
  subst eo e4
  have I5 : Inv X pins σ H4 { s4 with heap := s4.heap.push { cls := .type "slice", data := .fields #[vl, vu, vs] } } := I4.kept (t' := s4.toks) fun b ob q => Heap.get?_push_of_some _ q
  obtain ⟨its, r, ht, hz⟩ := I5.tuple hx
  cases pl
  cases pu
  cases ps

  cases r with
  | cons r1 rr =>
    rename_i u1 us
    cases rr with
    | cons r2 rr2 =>
      rename_i u2 us2
      cases rr2
      show wpAny (model X.prog X.w) X.A (subscriptTail e (.Slice none none (some (.UnaryOp .USub (.Constant (.int 1) k p1) p2)) p3) (.ref a) (.ref s4.heap.objs.size)) (EP X pins σ Q) X.xe { s4 with heap := s4.heap.push { cls := .type "slice", data := .fields #[.none, .none, .int (-1) _] } }
      refine tail_any (ops := [.ref a, .ref s4.heap.objs.size]) ht.typeIs (PyProof.Rows.slot_tuple_getitem.lookup) ?_ (by with_unfolding_all rfl)
      refine getItem_tuple_rev2 (u := u1) (v := u2) ht (Heap.IsSliceOf.new _ .none .none _) ?_
      refine ⟨.ref _, _, I5.laid (t' := s4.toks) (o := .tup [xq, xp]) (fun b ob q => Heap.get?_push_of_some _ q) (Nat.le_refl _) ?_, rfl, q _ (I5.hok.fresh (Nat.le_refl _))⟩
      exact ⟨by show 2 ≤ sizeLine; decide, [u2, u1], .cons r2 (.cons r1 .nil), IsTup.new _ _⟩
end
end Q2

namespace Q2
open PySem PySem.Spec PyProof.Rows L2 PySem.Builtin PySem.Builtin.Str
/-- every other sign of a text, from a on -/
def every2 (a : Int) (z : PySem.Str) : PySem.Str := ⟨((strSliceIndices (some a) none 2 z.length).filterMap (z.cps[·]?)).toArray⟩
def tSl2 (a : Int) (te : TE) : TE := fun σ H Q => te σ H fun x H1 => ∃ z : PySem.Str, x = .str z ∧ (every2 a z).length ≤ sizeLine ∧ Q (.str (every2 a z)) H1
theorem made2 (z : PySem.Str) (t : Tok) (a : Int) (u1 u2 : Tok) : sliceMade z t (some (a, u1)) none (some (2, u2)) = Made.str (every2 a z) := by
  unfold sliceMade
  rw [if_neg (by simp)]
  rfl
theorem pe_sl2 {X : Cx} {e : Expr} {te : TE} {a : Int} {k1 k2 : Nat} {p1 p2 p3 pos : Pos} (he : PE X e te) : PE X (.Subscript e (.Slice (some (.Constant (.int a) k1 p1)) none (some (.Constant (.int 2) k2 p2)) p3) pos) (tSl2 a te) := by
  refine ⟨fun pins s σ H Q I h => ?_⟩
  refine Subscript_ (thn (he.run pins s σ H _ I h) fun v s1 ⟨x, H1, I1, r1, q1⟩ => ?_)
  obtain ⟨z, ex, hl, q⟩ := q1
  subst ex
  obtain ⟨t, rfl⟩ := r1
  have hlo : PO X (some (.Constant (.int a) k1 p1)) (tPart (tC (.int a))) := po_some pe_int
  have hst : PO X (some (.Constant (.int 2) k2 p2)) (tPart (tC (.int 2))) := po_some pe_int
  refine wpAny_Slice (thn (hlo.run pins s1 σ H1 (fun o H2 => o = some a ∧ H2 = H1) I1 ⟨a, rfl, rfl, rfl⟩) fun vl s2 ⟨l, H2, I2, pl, el, e2⟩ => ?_)
  subst el e2
  refine thn (po_none.run pins s2 σ H2 (fun o H3 => o = none ∧ H3 = H2) I2 ⟨rfl, rfl⟩) fun vu s3 ⟨u, H3, I3, pu, eu, e3⟩ => ?_
  subst eu e3
  refine thn (hst.run pins s3 σ H3 (fun o H4 => o = some 2 ∧ H4 = H3) I3 ⟨2, rfl, rfl, rfl⟩) fun vs s4 ⟨o, H4, I4, ps, eo, e4⟩ => ?_
  subst eo e4
  have I5 : Inv X pins σ H4 { s4 with heap := s4.heap.push { cls := .type "slice", data := .fields #[vl, vu, vs] } } := I4.kept (t' := s4.toks) fun b ob q => Heap.get?_push_of_some _ q
  cases pl
  cases pu
  cases ps

  show wpAny (model X.prog X.w) X.A (subscriptTail e (.Slice (some (.Constant (.int a) k1 p1)) none (some (.Constant (.int 2) k2 p2)) p3) (.str z t) (.ref s4.heap.objs.size)) (EP X pins σ Q) X.xe { s4 with heap := s4.heap.push { cls := .type "slice", data := .fields #[.int a _, .none, .int 2 _] } }
  refine tail_any (ops := [.str z t, .ref s4.heap.objs.size]) (typeIs_str _ z t) (F.slot_str_getitem.lookup) ?_ (by with_unfolding_all rfl)
  refine PySem.wpAny_getItem_str_slice (l := some (a, _)) (u := none) (st := some (2, _)) ⟨_, Heap.get?_push_size _ rfl, rfl, rfl⟩ rfl ?_
  rw [made2]
  exact ⟨hl, ⟨.str _, _, I5.tok _, ⟨_, rfl⟩, q⟩⟩
end Q2

namespace PM
open PySem PySem.Spec PyProof.Rows L2 Q2
/-! ### t[a::2], t.zfill(n) of a text -/
def sl2F (a : Int) : F1 := fun v S => match v with
  | .str z => if (every2 a z).length ≤ sizeLine then some (.str (every2 a z), S) else none
  | _ => none
theorem pm_sl2 {X : Cx} {W : XW} {e : Expr} {m : ME} {a : Int} {k1 k2 : Nat} {p1 p2 p3 pos : Pos} (h : PM X W e m) : PM X W (.Subscript e (.Slice (some (.Constant (.int a) k1 p1)) none (some (.Constant (.int 2) k2 p2)) p3) pos) (m1 (sl2F a) m) := by
  refine pe_imp (pe_sl2 h) fun σ H Q ⟨ρ, Γ, S, R, G, q⟩ => ?_
  refine ⟨ρ, Γ, S, R, G, q.bind fun v S1 ρ1 H1 x E1 R1 rx q1 => ?_⟩
  have q1 := q1.ans
  cases v with
  | str z =>
    cases rx
    have q1 : Ans (kxOf X) Q ρ1 H1 (if (every2 a z).length ≤ sizeLine then some (.str (every2 a z), S1) else none) := q1
    obtain ⟨hl, b⟩ := ans_if q1
    exact ⟨z, rfl, hl, b ρ1 H1 _ R1.refl R1 rfl⟩
  | _ => exact q1.elim
def mZf (o : ME) (t : MA) : ME := fun Γ S => (o Γ S).bind fun ov S1 => match ov with
  | .str z => (t Γ S1).bind fun vs S2 => match vs with
    | [.int i] => if PadOk i = true then .ok (.str (Txt.zfill z i)) S2 else .bad
    | _ => .bad
  | _ => .bad
theorem pm_zfill {X : Cx} {W : XW} {o e : Expr} {es : List Expr} {mo : ME} {t : MA} {apos cpos : Pos} (ho : PM X W o mo) (ht : PMA X W (e :: es) t)
    (hbase : attributeBase o "zfill" X.env (eval o X.env) = eval o X.env := by rfl)
    (hfew : ((backTo cpos (starEach (e :: es) X.env)).all (fun x => !x.1) && (backToKw cpos (keywordEach [] X.env)).all (fun x => x.1.isSome)
      && decide ((e :: es).length + ([] : List Keyword).length + (if ([] : List Keyword).isEmpty then 0 else 1) < 30)) = true := by rfl)
    (hline : (apos.endLine == cpos.line) = true := by rfl) (hs : starEach (e :: es) X.env = (false, eval e X.env) :: starEach es X.env := by rfl) (hplain : (backTo cpos (starEach es X.env)).any (·.1) = false := by rfl) :
    PM X W (.Call (.Attribute o "zfill" apos) (e :: es) [] cpos) (mZf mo t) := by
  refine pe_imp (pe_bm PySem.F.plainAttrs_str PySem.F.slot_str_zfill PySem.F.type_str_zfill mt_zfill ho ht hbase hfew hline hs hplain) fun σ H Q ⟨ρ, Γ, S, R, G, q⟩ => ?_
  refine ⟨ρ, Γ, S, R, G, q.bind fun ov S1 ρ1 H1 x E1 R1 rx q1 => ?_⟩
  cases ov with
  | str z =>
    cases rx
    refine ⟨?_, ρ1, Γ, S1, R1, G.ext E1, q1.bind fun vs S2 ρ2 H2 ys E2 R2 ry q2 => ?_⟩
    · rfl
    · cases vs with
      | nil => exact q2.elim
      | cons v r =>
        cases r with
        | cons _ _ => cases v <;> exact q2.elim
        | nil =>
          obtain ⟨y, rfl, r1⟩ := one_of ry rfl
          cases v with
          | int i =>
            cases r1
            have q3 : Aft (kxOf X) W σ (Rv (kxOf X)) Q ρ2 H2 (if PadOk i = true then Res.ok (Va.str (Txt.zfill z i)) S2 else Res.bad) := q2
            by_cases hp : PadOk i = true
            · rw [if_pos hp] at q3
              exact ⟨z, i, rfl, rfl, hp, q3 ρ2 H2 _ R2.refl R2 rfl⟩
            · rw [if_neg hp] at q3
              exact q3.elim
          | _ => exact q2.elim
  | _ => exact q1.elim
end PM

namespace PM
open PySem PySem.Spec PyProof.Rows L2 Q2
/-! ### << of great numbers -/
@[irreducible] def shlCW (i j : Int) : Bool := decide (0 ≤ j ∧ (Builtin.Int.intBits i : Int) + j ≤ 2 ^ 27)
def shlW : F2 := fI2 shlCW fun i j => .int (i * 2 ^ j.toNat)
theorem oShlW {X : Cx} : OpP X (binaryOp .LShift) shlW := opI2 op_shlW (fun i j h => of_decide_eq_true (p := 0 ≤ j ∧ (Builtin.Int.intBits i : Int) + j ≤ 2 ^ 27) (by unfold shlCW at h; exact h)) fun _ _ _ _ => rfl
end PM

namespace PM
open PySem PySem.Spec PyProof.Rows L2 Q2
/-! ### weakest conditions -/
def Wp {α : Type} (r : Res α) (Q : α → Sto → Prop) : Prop := match r with
  | .ok a S => Q a S
  | _ => False
structure Po where
  nx : En → Sto → Prop
  rt : Va → Sto → Prop
  bk : En → Sto → Prop := fun _ _ => False
  ct : En → Sto → Prop := fun _ _ => False
def Ws (r : Rs) (P : Po) : Prop := match r with
  | .nx Γ S => P.nx Γ S
  | .rt v S => P.rt v S
  | .bk Γ S => P.bk Γ S
  | .ct Γ S => P.ct Γ S
  | _ => False
def Wo (o : Option (Va × Sto)) (Q : Va → Sto → Prop) : Prop := match o with
  | some (v, S) => Q v S
  | none => False
section
variable {α β : Type} {Q Q' : α → Sto → Prop} {Γ : En} {S : Sto} {P : Po}
theorem Wp.mono {r : Res α} (h : Wp r Q) (hq : ∀ a S, Q a S → Q' a S) : Wp r Q' := by
  cases r with
  | ok a S => exact hq a S h
  | bad => exact h
  | ex c f v S => exact h
theorem Wp.bind {r : Res α} {k : α → Sto → Res β} {R : β → Sto → Prop} (h : Wp r fun a S => Wp (k a S) R) : Wp (r.bind k) R := by
  cases r with
  | ok a S => exact h
  | bad => exact h
  | ex c f v S => exact h
theorem Wp.bindN {r : Res α} {k : α → Sto → Res β} {R : β → Sto → Prop} (h : Wp r fun a S => Wp (k a S) R) : Wp (r.bindN k) R := by
  cases r with
  | ok a S => exact h
  | bad => exact h
  | ex c f v S => exact h
theorem Wp.noX {r : Res α} (h : Wp r Q) : Wp (noX r) Q := by
  cases r with
  | ok a S => exact h
  | bad => exact h
  | ex c f v S => exact h
theorem Wp.thenS {r : Res α} {k : α → Sto → Rs} (h : Wp r fun a S => Ws (k a S) P) : Ws (PM.thenS Γ r k) P := by
  cases r with
  | ok a S => exact h
  | bad => exact h
  | ex c f v S => exact h
theorem Wp.lift {o : Option (Va × Sto)} {Q : Va → Sto → Prop} (h : Wo o Q) : Wp (PM.lift o) Q := by
  cases o with
  | none => exact h
  | some p => exact h
theorem Wp.ok {a : α} (h : Q a S) : Wp (.ok a S) Q := h
theorem Wp.eq {r : Res α} {a : α} (e : r = .ok a S) (h : Q a S) : Wp r Q := by rw [e]; exact h
theorem Wp.get {r : Res α} (h : Wp r Q) : ∃ a S', r = .ok a S' ∧ Q a S' := by
  cases r with
  | ok a S => exact ⟨a, S, rfl, h⟩
  | bad => exact h.elim
  | ex c f v S => exact h.elim
theorem Wo.eq {o : Option (Va × Sto)} {v : Va} {Q : Va → Sto → Prop} (e : o = some (v, S)) (h : Q v S) : Wo o Q := by rw [e]; exact h
end
section
variable {Q : Va → Sto → Prop} {QL : List Va → Sto → Prop} {QB : Bool → Sto → Prop} {Γ : En} {S : Sto} {P : Po}
theorem w_var {i : Nat} {v : Va} (h : Γ[i]? = some (some v)) (q : Q v S) : Wp (mV i Γ S) Q := by
  unfold mV
  rw [h]
  exact q
theorem w_c {v : Va} (q : Q v S) : Wp (mC v Γ S) Q := q
theorem w_m1 {f : F1} {a : ME} (h : Wp (a Γ S) fun v S1 => Wo (f v S1) Q) : Wp (m1 f a Γ S) Q := Wp.bind (h.mono fun _ _ h => Wp.lift h)
theorem w_m2 {f : F2} {a b : ME} (h : Wp (a Γ S) fun v S1 => Wp (b Γ S1) fun w S2 => Wo (f v w S2) Q) : Wp (m2 f a b Γ S) Q := Wp.bind (h.mono fun _ _ h => Wp.bind (h.mono fun _ _ h => Wp.lift h))
theorem w_maN (q : QL [] S) : Wp (maN Γ S) QL := q
theorem w_maC {a : ME} {t : MA} (h : Wp (a Γ S) fun v S1 => Wp (t Γ S1) fun vs S2 => QL (v :: vs) S2) : Wp (maC a t Γ S) QL := Wp.bind (h.mono fun _ _ h => Wp.bind h)
theorem w_mL {f : FL} {t : MA} (h : Wp (t Γ S) fun vs S1 => Wo (f vs S1) Q) : Wp (mL f t Γ S) Q := Wp.bind (h.mono fun _ _ h => Wp.lift h)
theorem w_call {g : MF} {t : MA} (h : Wp (t Γ S) fun vs S1 => Wp (g vs S1) Q) : Wp (mCall g t Γ S) Q := Wp.bind h
theorem w_callKw {n m : Nat} {o : List Nat} {g : MF} {t u : MA} (h : Wp (t Γ S) fun vs S1 => Wp (u Γ S1) fun ws S2 => (vs.length = n ∧ ws.length = m ∧ (permL o (vs ++ ws)).length = o.length) ∧ Wp (g (permL o (vs ++ ws)) S2) Q) : Wp (mCallKw n m o g t u Γ S) Q :=
  Wp.bindN (h.mono fun _ _ h => Wp.bindN (h.mono fun _ _ h => by rw [if_pos h.1]; exact h.2.noX))
theorem w_mtOf {a : ME} (h : Wp (a Γ S) fun v S1 => ∃ b, v = .bl b ∧ QB b S1) : Wp (mtOf a Γ S) QB := Wp.bind (h.mono fun _ _ h => by obtain ⟨b, rfl, q⟩ := h; exact q)
theorem w_mtTru {a : ME} (h : Wp (a Γ S) fun v S1 => ∃ b, tru S1 v = some b ∧ QB b S1) : Wp (mtTru a Γ S) QB := Wp.bind (h.mono fun _ _ h => by obtain ⟨b, e, q⟩ := h; simp only [e]; exact q)
theorem w_mtNot {a : MT} (h : Wp (a Γ S) fun b S1 => QB (!b) S1) : Wp (mtNot a Γ S) QB := Wp.bind h
theorem w_mtAnd {a b : MT} (h : Wp (a Γ S) fun c S1 => if c = true then Wp (b Γ S1) QB else QB false S1) : Wp (mtAnd a b Γ S) QB := Wp.bind (h.mono fun c _ h => by
  cases c with
  | true => exact h
  | false => exact h)
theorem w_mtOr {a b : MT} (h : Wp (a Γ S) fun c S1 => if c = true then QB true S1 else Wp (b Γ S1) QB) : Wp (mtOr a b Γ S) QB := Wp.bind (h.mono fun c _ h => by
  cases c with
  | true => exact h
  | false => exact h)
theorem w_meAnd {a b : ME} (h : Wp (a Γ S) fun v S1 => ∃ c, v = .bl c ∧ if c = true then Wp (b Γ S1) Q else Q (.bl false) S1) : Wp (meAnd a b Γ S) Q := Wp.bind (h.mono fun _ _ h => by
  obtain ⟨c, rfl, h⟩ := h
  cases c with
  | true => exact h
  | false => exact h)
theorem w_meOr {a b : ME} (h : Wp (a Γ S) fun v S1 => ∃ c, v = .bl c ∧ if c = true then Q (.bl true) S1 else Wp (b Γ S1) Q) : Wp (meOr a b Γ S) Q := Wp.bind (h.mono fun _ _ h => by
  obtain ⟨c, rfl, h⟩ := h
  cases c with
  | true => exact h
  | false => exact h)
theorem w_mNot {a : ME} (h : Wp (a Γ S) fun v S1 => ∃ c, v = .bl c ∧ Q (.bl (!c)) S1) : Wp (mNot a Γ S) Q := Wp.bind (h.mono fun _ _ h => by
  obtain ⟨c, rfl, h⟩ := h
  exact h)
theorem w_isN {a : ME} (h : Wp (a Γ S) fun v S1 => Q (.bl (isNonV v)) S1) : Wp (mIsN a Γ S) Q := Wp.bind h
theorem w_notN {a : ME} (h : Wp (a Γ S) fun v S1 => Q (.bl (!isNonV v)) S1) : Wp (mNotN a Γ S) Q := Wp.bind h
theorem w_if {c : MT} {a b : ME} (h : Wp (c Γ S) fun k S1 => if k = true then Wp (a Γ S1) Q else Wp (b Γ S1) Q) : Wp (mIf c a b Γ S) Q := Wp.bind (h.mono fun c _ h => by
  cases c with
  | true => exact h
  | false => exact h)
theorem w_isiT {a : ME} {ts : List String} (h : Wp (a Γ S) fun v S1 => ∃ k b, kindV S1 v = some k ∧ kitAnyB k ts = some b ∧ Q (.bl b) S1) : Wp (mIsiT a ts Γ S) Q := Wp.bind (h.mono fun _ _ h => by
  obtain ⟨k, b, h1, h2, q⟩ := h
  simp only [h1, h2]
  exact q)
theorem w_chain {f g : F2} {a b c : ME} (h : Wp (a Γ S) fun v S1 => Wp (b Γ S1) fun w S2 => Wo (f v w S2) fun z S3 => ∃ k, z = .bl k ∧ if k = true then Wp (c Γ S3) fun u S4 => Wo (g w u S4) Q else Q (.bl false) S3) : Wp (mChain f g a b c Γ S) Q :=
  Wp.bind (h.mono fun _ _ h => Wp.bind (h.mono fun _ _ h => Wp.bind (Wp.mono (Wp.lift h) fun _ _ h => by
    obtain ⟨k, rfl, h⟩ := h
    cases k with
    | true => exact Wp.bind (Wp.mono h fun _ _ h => Wp.lift h)
    | false => exact h)))
/-! ### statements -/
theorem ws_seq {a b : MS} (h : Ws (a Γ S) { P with nx := fun Γ' S' => Ws (b Γ' S') P }) : Ws (sSeq a b Γ S) P := by
  unfold sSeq
  cases e : a Γ S <;> rw [e] at h <;> exact h
theorem ws_nil (h : P.nx Γ S) : Ws (sNil Γ S) P := h
theorem ws_expr {m : ME} (h : Wp (m Γ S) fun _ S1 => P.nx Γ S1) : Ws (sExpr m Γ S) P := Wp.thenS h
theorem ws_ret {m : ME} (h : Wp (m Γ S) P.rt) : Ws (sRet m Γ S) P := Wp.thenS h
theorem ws_if {c : MT} {a b : MS} (h : Wp (c Γ S) fun k S1 => if k = true then Ws (a Γ S1) P else Ws (b Γ S1) P) : Ws (sIf c a b Γ S) P := Wp.thenS (h.mono fun c _ h => by
  cases c with
  | true => exact h
  | false => exact h)
theorem ws_set {i : Nat} {m : ME} (h : Wp (m Γ S) fun v S1 => P.nx (Γ.set i (some v)) S1) : Ws (sSet i m Γ S) P := Wp.thenS h
theorem ws_par {i j : Nat} {t : MA} (h : Wp (t Γ S) fun vs S1 => ∃ v w, vs = [v, w] ∧ P.nx ((Γ.set i (some v)).set j (some w)) S1) : Ws (sPar i j t Γ S) P := Wp.thenS (h.mono fun _ _ h => by
  obtain ⟨v, w, rfl, h⟩ := h
  exact h)
theorem ws_par3 {i j l : Nat} {t : MA} (h : Wp (t Γ S) fun vs S1 => ∃ u v w, vs = [u, v, w] ∧ P.nx (((Γ.set i (some u)).set j (some v)).set l (some w)) S1) : Ws (sPar3 i j l t Γ S) P := Wp.thenS (h.mono fun _ _ h => by
  obtain ⟨u, v, w, rfl, h⟩ := h
  exact h)
theorem ws_aug {i : Nat} {f : F2} {m : ME} {x : Va} (hx : Γ[i]? = some (some x)) (h : Wp (m Γ S) fun v S1 => Wo (f x v S1) fun z S2 => P.nx (Γ.set i (some z)) S2) : Ws (sAug i f m Γ S) P := by
  unfold sAug
  rw [hx]
  exact Wp.thenS (h.mono fun _ _ h => Wp.thenS (Wp.lift h))
theorem ws_augSub {f : F2} {o i m : ME} (h : Wp (o Γ S) fun ov S1 => Wp (i Γ S1) fun iv S2 => ∃ n k xs x, ov = .ref n ∧ iv = .int k ∧ S2[n]? = some (.lst xs) ∧ L2.atI xs k = some x ∧ Wp (m Γ S2) fun v S3 => Wo (f x v S3) fun z S4 => ∃ ys j, S4[n]? = some (.lst ys) ∧ ixN ys.length k = some j ∧ P.nx Γ (S4.set n (.lst (ys.set j z)))) : Ws (sAugSub f o i m Γ S) P :=
  Wp.thenS (h.mono fun _ _ h => Wp.thenS (h.mono fun _ S2 h => by
    obtain ⟨n, k, xs, x, rfl, rfl, e1, e2, h⟩ := h
    simp only [e1, e2]
    refine Wp.thenS (h.mono fun _ _ h => Wp.thenS (Wp.mono (Wp.lift h) fun _ S4 h => ?_))
    obtain ⟨ys, j, e3, e4, h⟩ := h
    simp only [e3, e4]
    exact h))
theorem ws_asg {m : ME} {g : MG} (h : Wp (m Γ S) fun v S1 => Wp (g v Γ S1) fun Γ1 S2 => P.nx Γ1 S2) : Ws (sAsg m g Γ S) P := Wp.thenS (h.mono fun _ _ h => Wp.thenS h)
theorem ws_cnt (h : P.ct Γ S) : Ws (sCnt Γ S) P := h
theorem ws_brk (h : P.bk Γ S) : Ws (sBrk Γ S) P := h
theorem ws_for {mi : MI} {g : MG} {b : MS} (h : Wp (mi Γ S) fun it S1 => Ws (loopF it g b (it.fuel S1) 0 Γ S1) P) : Ws (sFor mi g b Γ S) P := Wp.thenS h
/-! ### targets -/
section
variable {QE : En → Sto → Prop} {v : Va}
theorem wg_v {i : Nat} (q : QE (Γ.set i (some v)) S) : Wp (gV i v Γ S) QE := q
theorem wg_t {n : Nat} {t : MGs} {xs : List Va} (h : xs.length = n) (q : Wp (t xs Γ S) QE) : Wp (gT n t (.tup xs) Γ S) QE := by
  unfold gT
  simp only
  rw [if_pos h]
  exact q.noX
theorem wg_n (q : QE Γ S) : Wp (gsN [] Γ S) QE := q
theorem wg_c {g : MG} {t : MGs} {r : List Va} (q : Wp (g v Γ S) fun Γ1 S1 => Wp (t r Γ1 S1) QE) : Wp (gsC g t (v :: r) Γ S) QE := Wp.bind (q.noX.mono fun _ _ h => h.noX)
theorem wg_sub {o i : ME} (h : Wp (o Γ S) fun ov S1 => Wp (i Γ S1) fun iv S2 => ∃ n k xs j, ov = .ref n ∧ iv = .int k ∧ S2[n]? = some (.lst xs) ∧ ixN xs.length k = some j ∧ QE Γ (S2.set n (.lst (xs.set j v)))) : Wp (gSubM o i v Γ S) QE :=
  Wp.bind (h.mono fun _ _ h => Wp.bind (h.mono fun _ _ h => by
    obtain ⟨n, k, xs, j, rfl, rfl, e1, e2, q⟩ := h
    simp only [e1, e2]
    exact q))
end
/-! ### methods -/
theorem w_app {o : ME} {t : MA} (h : Wp (o Γ S) fun ov S1 => ∃ n ys, ov = .ref n ∧ S1[n]? = some (.lst ys) ∧ Wp (t Γ S1) fun vs S2 => ∃ v xs, vs = [v] ∧ S2[n]? = some (.lst xs) ∧ xs.length < sizeLine ∧ Q .non (S2.set n (.lst (xs ++ [v])))) : Wp (mApp o t Γ S) Q :=
  Wp.bind (h.mono fun _ _ h => by
    obtain ⟨n, ys, rfl, e1, h⟩ := h
    simp only [e1]
    refine Wp.bind (h.mono fun _ _ h => ?_)
    obtain ⟨v, xs, rfl, e2, hl, q⟩ := h
    simp only [e2]
    rw [if_pos hl]
    exact q)
theorem w_ext {o : ME} {t : MA} (h : Wp (o Γ S) fun ov S1 => ∃ n ys, ov = .ref n ∧ S1[n]? = some (.lst ys) ∧ Wp (t Γ S1) fun vs S2 => ∃ m xs zs, vs = [.ref m] ∧ S2[n]? = some (.lst xs) ∧ S2[m]? = some (.lst zs) ∧ xs.length + zs.length ≤ sizeLine ∧ Q .non (S2.set n (.lst (xs ++ zs)))) : Wp (mExt o t Γ S) Q :=
  Wp.bind (h.mono fun _ _ h => by
    obtain ⟨n, ys, rfl, e1, h⟩ := h
    simp only [e1]
    refine Wp.bind (h.mono fun _ _ h => ?_)
    obtain ⟨m, xs, zs, rfl, e2, e3, hl, q⟩ := h
    simp only [e2, e3]
    rw [if_pos hl]
    exact q)
theorem w_revSl {a : ME} (h : Wp (a Γ S) fun v S1 => ∃ xs, lstOf S1 v = some xs ∧ xs.length ≤ sizeLine ∧ Q (.ref S1.length) (S1 ++ [.lst xs.reverse])) : Wp (mRevSl a Γ S) Q := Wp.bind (h.mono fun _ S1 h => by
  obtain ⟨xs, e, hl, q⟩ := h
  simp only [e]
  unfold mkL
  rw [if_pos (by rw [List.length_reverse]; exact hl)]
  exact q)
theorem w_pop {o : ME} (h : Wp (o Γ S) fun ov S1 => ∃ n xs v, ov = .ref n ∧ S1[n]? = some (.lst xs) ∧ xs[xs.length - 1]? = some v ∧ Q v (S1.set n (.lst xs.dropLast))) : Wp (mPop o Γ S) Q :=
  Wp.bind (h.mono fun _ _ h => by
    obtain ⟨n, xs, v, rfl, e1, e2, q⟩ := h
    simp only [e1, e2]
    exact q)
theorem w_set0 (q : Q (.ref S.length) (S ++ [.setT []])) : Wp (mSet0 Γ S) Q := q
theorem w_addS {o : ME} {t : MA} (h : Wp (o Γ S) fun ov S1 => ∃ n ks1, ov = .ref n ∧ S1[n]? = some (.setT ks1) ∧ Wp (t Γ S1) fun vs S2 => ∃ v ks k, vs = [v] ∧ S2[n]? = some (.setT ks) ∧ tIntsOf v = some k ∧ k ∉ ks ∧ ks.length + 1 < 64 ∧ Q .non (S2.set n (.setT (k :: ks)))) : Wp (mAddS o t Γ S) Q :=
  Wp.bind (h.mono fun _ _ h => by
    obtain ⟨n, ks1, rfl, e1, h⟩ := h
    simp only [e1]
    refine Wp.bind (h.mono fun _ _ h => ?_)
    obtain ⟨v, ks, k, rfl, e2, e3, h1, h2, q⟩ := h
    simp only [e2, e3]
    rw [if_pos ⟨h1, h2⟩]
    exact q)
theorem w_lrng1 {m : ME} (h : Wp (m Γ S) fun v S1 => ∃ j, v = .int j ∧ (-(2 ^ 62) ≤ j ∧ j ≤ 2 ^ 24) ∧ Wo (mkL S1 (rgA 0 j)) Q) : Wp (mLRng1 m Γ S) Q :=
  Wp.bind (h.mono fun _ _ h => by
    obtain ⟨j, rfl, c, h⟩ := h
    simp only
    rw [if_pos (show lrOk j = true by unfold lrOk; exact decide_eq_true c)]
    exact Wp.lift h)
theorem w_sl {f : FS} {a : ME} {lo hi : Option ME} (h : Wp (a Γ S) fun v S1 => Wp (mOpt lo Γ S1) fun l S2 => Wp (mOpt hi Γ S2) fun u S3 => Wo (f v l u S3) Q) : Wp (mSl f a lo hi Γ S) Q :=
  Wp.bind (h.mono fun _ _ h => Wp.bind (h.mono fun _ _ h => Wp.bind (h.mono fun _ _ h => Wp.lift h)))
theorem w_optN {QO : Option Int → Sto → Prop} (q : QO none S) : Wp (mOpt none Γ S) QO := q
theorem w_optS {QO : Option Int → Sto → Prop} {m : ME} (h : Wp (m Γ S) fun v S1 => ∃ i, v = .int i ∧ QO (some i) S1) : Wp (mOpt (some m) Γ S) QO := Wp.bind (h.mono fun _ _ h => by
  obtain ⟨i, rfl, q⟩ := h
  exact q)
/-! ### what is walked -/
section
variable {QI : ItV → Sto → Prop}
theorem w_walk {m : ME} (h : Wp (m Γ S) fun v S1 => (∃ n xs, v = .ref n ∧ S1[n]? = some (.lst xs) ∧ QI (.ref n) S1) ∨ ∃ xs, (v = .tup xs ∨ v = .rol xs) ∧ QI (.itm xs) S1) : Wp (mWalk m Γ S) QI := Wp.bind (h.mono fun _ _ h => by
  rcases h with ⟨n, xs, rfl, e, q⟩ | ⟨xs, rfl | rfl, q⟩
  · simp only [e]
    exact q
  · exact q
  · exact q)
theorem w_enum {t : MA} (h : Wp (t Γ S) fun vs S1 => ∃ v, vs = [v] ∧ ((∃ n xs, v = .ref n ∧ S1[n]? = some (.lst xs) ∧ QI (.enm n) S1) ∨ ∃ xs, (v = .tup xs ∨ v = .rol xs) ∧ QI (.enmI xs) S1)) : Wp (mEnum t Γ S) QI := Wp.bind (h.mono fun _ _ h => by
  obtain ⟨v, rfl, h⟩ := h
  rcases h with ⟨n, xs, rfl, e, q⟩ | ⟨xs, rfl | rfl, q⟩
  · simp only [e]
    exact q
  · exact q
  · exact q)
theorem rngOk_of {i j : Int} (h : -(2 ^ 62) ≤ i ∧ i < 2 ^ 62 ∧ -(2 ^ 62) ≤ j ∧ j < 2 ^ 62) : rngOk i j = true := by unfold rngOk; exact decide_eq_true h
theorem w_rng1 {t : MA} (h : Wp (t Γ S) fun vs S1 => ∃ j, vs = [.int j] ∧ (-(2 ^ 62) ≤ j ∧ j < 2 ^ 62) ∧ QI (.rng 0 1 j.toNat) S1) : Wp (mRng1 t Γ S) QI := Wp.bind (h.mono fun _ _ h => by
  obtain ⟨j, rfl, c, q⟩ := h
  simp only
  rw [if_pos (rngOk_of (i := 0) (j := j) ⟨by decide, by decide, c⟩)]
  exact q)
theorem w_rng2 {t : MA} (h : Wp (t Γ S) fun vs S1 => ∃ i j, vs = [.int i, .int j] ∧ (-(2 ^ 62) ≤ i ∧ i < 2 ^ 62 ∧ -(2 ^ 62) ≤ j ∧ j < 2 ^ 62) ∧ QI (.rng i 1 (j - i).toNat) S1) : Wp (mRng2 t Γ S) QI := Wp.bind (h.mono fun _ _ h => by
  obtain ⟨i, j, rfl, c, q⟩ := h
  simp only
  rw [if_pos (rngOk_of c)]
  exact q)
theorem w_rev1 {m : ME} (h : Wp (m Γ S) fun v S1 => ∃ j, v = .int j ∧ (-(2 ^ 62) ≤ j ∧ j < 2 ^ 62) ∧ QI (.rng (j.toNat - 1 : Int) (-1) j.toNat) S1) : Wp (mRev1 m Γ S) QI := Wp.bind (h.mono fun _ _ h => by
  obtain ⟨j, rfl, c, q⟩ := h
  simp only
  rw [if_pos (rngOk_of (i := 0) (j := j) ⟨by decide, by decide, c⟩)]
  exact q)
end
/-! ### loops -/
theorem loop_it {it : ItV} {g : MG} {b : MS} (n : Nat) (x : Nat → Va) (Inv : Nat → En → Sto → Prop) (hgo : ∀ i Γ S, i < n → Inv i Γ S → it.get i S = some (some (x i))) (hst : ∀ Γ S, Inv n Γ S → it.get n S = some none)
    (hs : ∀ i Γ S, i < n → Inv i Γ S → Wp (g (x i) Γ S) fun Γ1 S1 => Ws (b Γ1 S1) { nx := Inv (i + 1), ct := Inv (i + 1), bk := P.nx, rt := P.rt }) (hd : ∀ Γ S, Inv n Γ S → P.nx Γ S) :
    ∀ (k i : Nat) (Γ : En) (S : Sto), i ≤ n → n ≤ i + k → Inv i Γ S → Ws (loopF it g b k i Γ S) P
  | 0, i, Γ, S, h1, h2, h => by
    have e : i = n := by omega
    subst e
    unfold loopF
    rw [hst Γ S h]
    exact hd Γ S h
  | k + 1, i, Γ, S, h1, h2, h => by
    by_cases hlt : i < n
    · unfold loopF
      rw [hgo i Γ S hlt h]
      refine Wp.thenS ((hs i Γ S hlt h).mono fun Γ1 S1 q => ?_)
      cases e : b Γ1 S1 with
      | bad => rw [e] at q; exact q
      | nx Γ2 S2 => rw [e] at q; exact loop_it n x Inv hgo hst hs hd k (i + 1) Γ2 S2 hlt (by omega) q
      | ct Γ2 S2 => rw [e] at q; exact loop_it n x Inv hgo hst hs hd k (i + 1) Γ2 S2 hlt (by omega) q
      | bk Γ2 S2 => rw [e] at q; exact q
      | rt v S2 => rw [e] at q; exact q
      | ex a b c d f => rw [e] at q; exact q
    · have e : i = n := by omega
      subst e
      unfold loopF
      rw [hst Γ S h]
      exact hd Γ S h
/-- over a list that stands still -/
theorem loop_list {m : Nat} {xs : List Va} {g : MG} {b : MS} (Inv : Nat → En → Sto → Prop) (hl : ∀ i Γ S, i ≤ xs.length → Inv i Γ S → S[m]? = some (.lst xs)) (h0 : Inv 0 Γ S)
    (hs : ∀ i x Γ S, xs[i]? = some x → Inv i Γ S → Wp (g x Γ S) fun Γ1 S1 => Ws (b Γ1 S1) { nx := Inv (i + 1), ct := Inv (i + 1), bk := P.nx, rt := P.rt }) (hd : ∀ Γ S, Inv xs.length Γ S → P.nx Γ S) :
    Ws (loopF (.ref m) g b ((ItV.ref m).fuel S) 0 Γ S) P := by
  have hf : (ItV.ref m).fuel S = xs.length := by simp only [ItV.fuel, hl 0 Γ S (Nat.zero_le _) h0]
  rw [hf]
  refine loop_it xs.length (fun i => xs.getD i .non) (fun i Γ S => i ≤ xs.length ∧ Inv i Γ S) (fun i Γ S hi h => ?_) (fun Γ S h => ?_) (fun i Γ S hi h => ?_) (fun Γ S h => hd Γ S h.2) xs.length 0 Γ S (Nat.zero_le _) (by omega) ⟨Nat.zero_le _, h0⟩
  · simp only [ItV.get, hl i Γ S h.1 h.2, List.getD_eq_getElem?_getD, List.getElem?_eq_getElem hi, Option.getD_some]
  · simp only [ItV.get, hl _ Γ S h.1 h.2, List.getElem?_eq_none (Nat.le_refl _)]
  · have e : xs[i]? = some (xs.getD i .non) := by rw [List.getD_eq_getElem?_getD, List.getElem?_eq_getElem hi]; rfl
    refine (hs i _ Γ S e h.2).mono fun Γ1 S1 q => ?_
    cases e : b Γ1 S1 with
    | bad => rw [e] at q; exact q
    | nx Γ2 S2 => rw [e] at q; exact ⟨hi, q⟩
    | ct Γ2 S2 => rw [e] at q; exact ⟨hi, q⟩
    | bk Γ2 S2 => rw [e] at q; exact q
    | rt v S2 => rw [e] at q; exact q
    | ex a b c d f => rw [e] at q; exact q
theorem loop_itm {xs : List Va} {g : MG} {b : MS} (Inv : Nat → En → Sto → Prop) (h0 : Inv 0 Γ S)
    (hs : ∀ i x Γ S, xs[i]? = some x → Inv i Γ S → Wp (g x Γ S) fun Γ1 S1 => Ws (b Γ1 S1) { nx := Inv (i + 1), ct := Inv (i + 1), bk := P.nx, rt := P.rt }) (hd : ∀ Γ S, Inv xs.length Γ S → P.nx Γ S) :
    Ws (loopF (.itm xs) g b ((ItV.itm xs).fuel S) 0 Γ S) P := by
  refine loop_it xs.length (fun i => xs.getD i .non) Inv (fun i Γ S hi h => ?_) (fun Γ S h => ?_) (fun i Γ S hi h => ?_) (fun Γ S h => hd Γ S h) _ 0 Γ S (Nat.zero_le _) (by show xs.length ≤ 0 + xs.length; omega) h0
  · simp only [ItV.get, List.getD_eq_getElem?_getD, List.getElem?_eq_getElem hi, Option.getD_some]
  · simp only [ItV.get, List.getElem?_eq_none (Nat.le_refl _)]
  · exact hs i _ Γ S (by rw [List.getD_eq_getElem?_getD, List.getElem?_eq_getElem hi]; rfl) h
theorem loop_rng {lo c : Int} {n : Nat} {g : MG} {b : MS} (Inv : Nat → En → Sto → Prop) (h0 : Inv 0 Γ S)
    (hs : ∀ i Γ S, i < n → Inv i Γ S → Wp (g (.int (lo + (i : Nat) * c)) Γ S) fun Γ1 S1 => Ws (b Γ1 S1) { nx := Inv (i + 1), ct := Inv (i + 1), bk := P.nx, rt := P.rt }) (hd : ∀ Γ S, Inv n Γ S → P.nx Γ S) :
    Ws (loopF (.rng lo c n) g b ((ItV.rng lo c n).fuel S) 0 Γ S) P :=
  loop_it n (fun i => .int (lo + (i : Nat) * c)) Inv (fun i Γ S hi h => by simp only [ItV.get, if_pos hi]) (fun Γ S h => by simp only [ItV.get, if_neg (Nat.lt_irrefl _)]) (fun i Γ S hi h => hs i Γ S hi h) hd _ 0 Γ S (Nat.zero_le _) (by show n ≤ 0 + n; omega) h0
theorem loop_enm {m : Nat} {xs : List Va} {g : MG} {b : MS} (Inv : Nat → En → Sto → Prop) (hl : ∀ i Γ S, i ≤ xs.length → Inv i Γ S → S[m]? = some (.lst xs)) (h0 : Inv 0 Γ S)
    (hs : ∀ i x Γ S, xs[i]? = some x → Inv i Γ S → Wp (g (.tup [.int (i : Nat), x]) Γ S) fun Γ1 S1 => Ws (b Γ1 S1) { nx := Inv (i + 1), ct := Inv (i + 1), bk := P.nx, rt := P.rt }) (hd : ∀ Γ S, Inv xs.length Γ S → P.nx Γ S) :
    Ws (loopF (.enm m) g b ((ItV.enm m).fuel S) 0 Γ S) P := by
  have hf : (ItV.enm m).fuel S = xs.length := by simp only [ItV.fuel, hl 0 Γ S (Nat.zero_le _) h0]
  rw [hf]
  refine loop_it xs.length (fun i => pairE i (xs.getD i .non)) (fun i Γ S => i ≤ xs.length ∧ Inv i Γ S) (fun i Γ S hi h => ?_) (fun Γ S h => ?_) (fun i Γ S hi h => ?_) (fun Γ S h => hd Γ S h.2) xs.length 0 Γ S (Nat.zero_le _) (by omega) ⟨Nat.zero_le _, h0⟩
  · simp only [ItV.get, hl i Γ S h.1 h.2, List.getD_eq_getElem?_getD, List.getElem?_eq_getElem hi, Option.getD_some, Option.map_some]
  · simp only [ItV.get, hl _ Γ S h.1 h.2, List.getElem?_eq_none (Nat.le_refl _), Option.map_none]
  · have e : xs[i]? = some (xs.getD i .non) := by rw [List.getD_eq_getElem?_getD, List.getElem?_eq_getElem hi]; rfl
    refine (hs i _ Γ S e h.2).mono fun Γ1 S1 q => ?_
    cases e : b Γ1 S1 with
    | bad => rw [e] at q; exact q
    | nx Γ2 S2 => rw [e] at q; exact ⟨hi, q⟩
    | ct Γ2 S2 => rw [e] at q; exact ⟨hi, q⟩
    | bk Γ2 S2 => rw [e] at q; exact q
    | rt v S2 => rw [e] at q; exact q
    | ex a b c d f => rw [e] at q; exact q
theorem loop_enmI {xs : List Va} {g : MG} {b : MS} (Inv : Nat → En → Sto → Prop) (h0 : Inv 0 Γ S)
    (hs : ∀ i x Γ S, xs[i]? = some x → Inv i Γ S → Wp (g (.tup [.int (i : Nat), x]) Γ S) fun Γ1 S1 => Ws (b Γ1 S1) { nx := Inv (i + 1), ct := Inv (i + 1), bk := P.nx, rt := P.rt }) (hd : ∀ Γ S, Inv xs.length Γ S → P.nx Γ S) :
    Ws (loopF (.enmI xs) g b ((ItV.enmI xs).fuel S) 0 Γ S) P := by
  refine loop_it xs.length (fun i => pairE i (xs.getD i .non)) Inv (fun i Γ S hi h => ?_) (fun Γ S h => ?_) (fun i Γ S hi h => ?_) (fun Γ S h => hd Γ S h) _ 0 Γ S (Nat.zero_le _) (by show xs.length ≤ 0 + xs.length; omega) h0
  · simp only [ItV.get, List.getD_eq_getElem?_getD, List.getElem?_eq_getElem hi, Option.getD_some, Option.map_some]
  · simp only [ItV.get, List.getElem?_eq_none (Nat.le_refl _), Option.map_none]
  · exact hs i _ Γ S (by rw [List.getD_eq_getElem?_getD, List.getElem?_eq_getElem hi]; rfl) h
/-- while, by a measure -/
theorem ws_while {c : MT} {b : MS} {fuel : Nat} (Inv : En → Sto → Prop) (μ : En → Sto → Nat) (h0 : Inv Γ S) (hf : μ Γ S < fuel)
    (hs : ∀ Γ S, Inv Γ S → Wp (c Γ S) fun k S1 => if k = true then Ws (b Γ S1) { nx := fun Γ' S' => Inv Γ' S' ∧ μ Γ' S' < μ Γ S, ct := fun Γ' S' => Inv Γ' S' ∧ μ Γ' S' < μ Γ S, bk := P.nx, rt := P.rt } else P.nx Γ S1) : Ws (sWhile fuel c b Γ S) P := by
  unfold sWhile
  induction fuel generalizing Γ S with
  | zero => omega
  | succ k ih =>
    unfold loopW
    refine Wp.thenS ((hs Γ S h0).mono fun z S1 q => ?_)
    cases z with
    | false => exact q
    | true =>
      rw [if_pos rfl] at q ⊢
      cases e : b Γ S1 with
      | bad => rw [e] at q; exact q
      | nx Γ2 S2 => rw [e] at q; exact ih q.1 (by have := q.2; omega)
      | ct Γ2 S2 => rw [e] at q; exact ih q.1 (by have := q.2; omega)
      | bk Γ2 S2 => rw [e] at q; exact q
      | rt v S2 => rw [e] at q; exact q
      | ex a b c d f => rw [e] at q; exact q
/-! ### comprehensions -/
theorem w_lc {mi : MI} {g : MG} {mt : MT} {me : ME} {vs : List Nat} (h : Wp (mi Γ S) fun it S1 => Wp (compF it g mt me (wipeE Γ vs) (it.fuel S1) 0 [] S1) fun acc S2 => Q (.ref S2.length) (S2 ++ [.lst acc])) : Wp (mLc mi g mt me vs Γ S) Q :=
  Wp.bind (h.mono fun _ _ h => Wp.bindN h)
theorem comp_it {it : ItV} {g : MG} {mt : MT} {me : ME} (n : Nat) (x : Nat → Va) (Inv : Nat → List Va → Sto → Prop) (hn : n < sizeLine) (hgo : ∀ i acc S, i < n → Inv i acc S → it.get i S = some (some (x i))) (hst : ∀ acc S, Inv n acc S → it.get n S = some none)
    (hs : ∀ i acc S, i < n → Inv i acc S → Wp (g (x i) Γ S) fun Γ1 S1 => Wp (mt Γ1 S1) fun k S2 => if k = true then Wp (me Γ1 S2) fun y S3 => Inv (i + 1) (acc ++ [y]) S3 else Inv (i + 1) acc S2) (hd : ∀ acc S, Inv n acc S → QL acc S) :
    ∀ (k i : Nat) (acc : List Va) (S : Sto), i ≤ n → n ≤ i + k → acc.length ≤ i → Inv i acc S → Wp (compF it g mt me Γ k i acc S) QL
  | 0, i, acc, S, h1, h2, h3, h => by
    have e : i = n := by omega
    subst e
    unfold compF
    rw [hst acc S h]
    exact hd acc S h
  | k + 1, i, acc, S, h1, h2, h3, h => by
    by_cases hlt : i < n
    · unfold compF
      rw [hgo i acc S hlt h]
      refine Wp.bindN ((hs i acc S hlt h).mono fun Γ1 S1 q => Wp.bindN (q.mono fun z S2 q => ?_))
      cases z with
      | false => exact comp_it n x Inv hn hgo hst hs hd k (i + 1) acc S2 hlt (by omega) (by omega) q
      | true =>
        refine Wp.bindN (Wp.mono q fun y S3 q => ?_)
        show Wp (if acc.length < sizeLine then _ else _) _
        rw [if_pos (by omega)]
        exact comp_it n x Inv hn hgo hst hs hd k (i + 1) (acc ++ [y]) S3 hlt (by omega) (by rw [List.length_append]; show acc.length + 1 ≤ _; omega) q
    · have e : i = n := by omega
      subst e
      unfold compF
      rw [hst acc S h]
      exact hd acc S h
theorem comp_list {m : Nat} {xs : List Va} {g : MG} {mt : MT} {me : ME} (Inv : Nat → List Va → Sto → Prop) (hn : xs.length < sizeLine) (hl : ∀ i acc S, i ≤ xs.length → Inv i acc S → S[m]? = some (.lst xs)) (h0 : Inv 0 [] S)
    (hs : ∀ i x acc S, xs[i]? = some x → Inv i acc S → Wp (g x Γ S) fun Γ1 S1 => Wp (mt Γ1 S1) fun k S2 => if k = true then Wp (me Γ1 S2) fun y S3 => Inv (i + 1) (acc ++ [y]) S3 else Inv (i + 1) acc S2) (hd : ∀ acc S, Inv xs.length acc S → QL acc S) :
    Wp (compF (.ref m) g mt me Γ ((ItV.ref m).fuel S) 0 [] S) QL := by
  have hf : (ItV.ref m).fuel S = xs.length := by simp only [ItV.fuel, hl 0 [] S (Nat.zero_le _) h0]
  rw [hf]
  refine comp_it xs.length (fun i => xs.getD i .non) (fun i acc S => i ≤ xs.length ∧ Inv i acc S) hn (fun i acc S hi h => ?_) (fun acc S h => ?_) (fun i acc S hi h => ?_) (fun acc S h => hd acc S h.2) xs.length 0 [] S (Nat.zero_le _) (by omega) (Nat.le_refl _) ⟨Nat.zero_le _, h0⟩
  · simp only [ItV.get, hl i acc S h.1 h.2, List.getD_eq_getElem?_getD, List.getElem?_eq_getElem hi, Option.getD_some]
  · simp only [ItV.get, hl _ acc S h.1 h.2, List.getElem?_eq_none (Nat.le_refl _)]
  · refine (hs i _ acc S (by rw [List.getD_eq_getElem?_getD, List.getElem?_eq_getElem hi]; rfl) h.2).mono fun Γ1 S1 q => q.mono fun k S2 q => ?_
    cases k with
    | true => exact Wp.mono q fun y S3 q => ⟨hi, q⟩
    | false => exact ⟨hi, q⟩
theorem comp_enm {m : Nat} {xs : List Va} {g : MG} {mt : MT} {me : ME} (Inv : Nat → List Va → Sto → Prop) (hn : xs.length < sizeLine) (hl : ∀ i acc S, i ≤ xs.length → Inv i acc S → S[m]? = some (.lst xs)) (h0 : Inv 0 [] S)
    (hs : ∀ i x acc S, xs[i]? = some x → Inv i acc S → Wp (g (.tup [.int (i : Nat), x]) Γ S) fun Γ1 S1 => Wp (mt Γ1 S1) fun k S2 => if k = true then Wp (me Γ1 S2) fun y S3 => Inv (i + 1) (acc ++ [y]) S3 else Inv (i + 1) acc S2) (hd : ∀ acc S, Inv xs.length acc S → QL acc S) :
    Wp (compF (.enm m) g mt me Γ ((ItV.enm m).fuel S) 0 [] S) QL := by
  have hf : (ItV.enm m).fuel S = xs.length := by simp only [ItV.fuel, hl 0 [] S (Nat.zero_le _) h0]
  rw [hf]
  refine comp_it xs.length (fun i => pairE i (xs.getD i .non)) (fun i acc S => i ≤ xs.length ∧ Inv i acc S) hn (fun i acc S hi h => ?_) (fun acc S h => ?_) (fun i acc S hi h => ?_) (fun acc S h => hd acc S h.2) xs.length 0 [] S (Nat.zero_le _) (by omega) (Nat.le_refl _) ⟨Nat.zero_le _, h0⟩
  · simp only [ItV.get, hl i acc S h.1 h.2, List.getD_eq_getElem?_getD, List.getElem?_eq_getElem hi, Option.getD_some, Option.map_some]
  · simp only [ItV.get, hl _ acc S h.1 h.2, List.getElem?_eq_none (Nat.le_refl _), Option.map_none]
  · refine (hs i _ acc S (by rw [List.getD_eq_getElem?_getD, List.getElem?_eq_getElem hi]; rfl) h.2).mono fun Γ1 S1 q => q.mono fun k S2 q => ?_
    cases k with
    | true => exact Wp.mono q fun y S3 q => ⟨hi, q⟩
    | false => exact ⟨hi, q⟩
theorem comp_enmI {xs : List Va} {g : MG} {mt : MT} {me : ME} (Inv : Nat → List Va → Sto → Prop) (hn : xs.length < sizeLine) (h0 : Inv 0 [] S)
    (hs : ∀ i x acc S, xs[i]? = some x → Inv i acc S → Wp (g (.tup [.int (i : Nat), x]) Γ S) fun Γ1 S1 => Wp (mt Γ1 S1) fun k S2 => if k = true then Wp (me Γ1 S2) fun y S3 => Inv (i + 1) (acc ++ [y]) S3 else Inv (i + 1) acc S2) (hd : ∀ acc S, Inv xs.length acc S → QL acc S) :
    Wp (compF (.enmI xs) g mt me Γ ((ItV.enmI xs).fuel S) 0 [] S) QL := by
  refine comp_it xs.length (fun i => pairE i (xs.getD i .non)) Inv hn (fun i acc S hi h => ?_) (fun acc S h => ?_) (fun i acc S hi h => ?_) hd _ 0 [] S (Nat.zero_le _) (by show xs.length ≤ 0 + xs.length; omega) (Nat.le_refl _) h0
  · simp only [ItV.get, List.getD_eq_getElem?_getD, List.getElem?_eq_getElem hi, Option.getD_some, Option.map_some]
  · simp only [ItV.get, List.getElem?_eq_none (Nat.le_refl _), Option.map_none]
  · exact hs i _ acc S (by rw [List.getD_eq_getElem?_getD, List.getElem?_eq_getElem hi]; rfl) h
theorem comp_itm {xs : List Va} {g : MG} {mt : MT} {me : ME} (Inv : Nat → List Va → Sto → Prop) (hn : xs.length < sizeLine) (h0 : Inv 0 [] S)
    (hs : ∀ i x acc S, xs[i]? = some x → Inv i acc S → Wp (g x Γ S) fun Γ1 S1 => Wp (mt Γ1 S1) fun k S2 => if k = true then Wp (me Γ1 S2) fun y S3 => Inv (i + 1) (acc ++ [y]) S3 else Inv (i + 1) acc S2) (hd : ∀ acc S, Inv xs.length acc S → QL acc S) :
    Wp (compF (.itm xs) g mt me Γ ((ItV.itm xs).fuel S) 0 [] S) QL := by
  refine comp_it xs.length (fun i => xs.getD i .non) Inv hn (fun i acc S hi h => ?_) (fun acc S h => ?_) (fun i acc S hi h => ?_) hd _ 0 [] S (Nat.zero_le _) (by show xs.length ≤ 0 + xs.length; omega) (Nat.le_refl _) h0
  · simp only [ItV.get, List.getD_eq_getElem?_getD, List.getElem?_eq_getElem hi, Option.getD_some]
  · simp only [ItV.get, List.getElem?_eq_none (Nat.le_refl _)]
  · exact hs i _ acc S (by rw [List.getD_eq_getElem?_getD, List.getElem?_eq_getElem hi]; rfl) h
theorem comp_rng {lo c : Int} {n : Nat} {g : MG} {mt : MT} {me : ME} (Inv : Nat → List Va → Sto → Prop) (hn : n < sizeLine) (h0 : Inv 0 [] S)
    (hs : ∀ i acc S, i < n → Inv i acc S → Wp (g (.int (lo + (i : Nat) * c)) Γ S) fun Γ1 S1 => Wp (mt Γ1 S1) fun k S2 => if k = true then Wp (me Γ1 S2) fun y S3 => Inv (i + 1) (acc ++ [y]) S3 else Inv (i + 1) acc S2) (hd : ∀ acc S, Inv n acc S → QL acc S) :
    Wp (compF (.rng lo c n) g mt me Γ ((ItV.rng lo c n).fuel S) 0 [] S) QL :=
  comp_it n (fun i => .int (lo + (i : Nat) * c)) Inv hn (fun i acc S hi h => by simp only [ItV.get, if_pos hi]) (fun acc S h => by simp only [ItV.get, if_neg (Nat.lt_irrefl _)]) hs hd _ 0 [] S (Nat.zero_le _) (by show n ≤ 0 + n; omega) (Nat.le_refl _) h0
end
/-! ### defs -/
def runF (r : Rs) : Res Va := match r with
  | .nx _ S' => .ok .non S'
  | .rt v S' => .ok v S'
  | .ex c f v _ S' => .ex c f v S'
  | _ => .bad
theorem w_run {r : Rs} {Q : Va → Sto → Prop} (h : Ws r { nx := fun _ S => Q .non S, rt := Q }) : Wp (runF r) Q := by
  cases r with
  | nx Γ S => exact h
  | rt v S => exact h
  | _ => exact h.elim
theorem w_fn {n : Nat} {b : MS} {as : List Va} {S : Sto} {Q : Va → Sto → Prop} (Γ : En) (e : as.map some ++ List.replicate (n - as.length) none = Γ) (h : Ws (b Γ S) { nx := fun _ S => Q .non S, rt := Q }) : Wp (fnM n b as S) Q := by
  have : fnM n b as S = runF (b (as.map some ++ List.replicate (n - as.length) none) S) := by unfold fnM runF; rfl
  rw [this, e]
  exact w_run h
theorem w_fn1 {k : Nat} {b : MS} {x : Va} {S : Sto} {Q : Va → Sto → Prop} (h : Ws (b (some x :: List.replicate k none) S) { nx := fun _ S => Q .non S, rt := Q }) : Wp (fnM (k + 1) b [x] S) Q := w_fn _ rfl h
theorem w_fn2 {k : Nat} {b : MS} {x y : Va} {S : Sto} {Q : Va → Sto → Prop} (h : Ws (b (some x :: some y :: List.replicate k none) S) { nx := fun _ S => Q .non S, rt := Q }) : Wp (fnM (k + 2) b [x, y] S) Q := w_fn _ rfl h
theorem w_fn3 {k : Nat} {b : MS} {x y z : Va} {S : Sto} {Q : Va → Sto → Prop} (h : Ws (b (some x :: some y :: some z :: List.replicate k none) S) { nx := fun _ S => Q .non S, rt := Q }) : Wp (fnM (k + 3) b [x, y, z] S) Q := w_fn _ rfl h
theorem w_fn4 {k : Nat} {b : MS} {x y z u : Va} {S : Sto} {Q : Va → Sto → Prop} (h : Ws (b (some x :: some y :: some z :: some u :: List.replicate k none) S) { nx := fun _ S => Q .non S, rt := Q }) : Wp (fnM (k + 4) b [x, y, z, u] S) Q := w_fn _ rfl h
theorem w_fn5 {k : Nat} {b : MS} {x y z u v : Va} {S : Sto} {Q : Va → Sto → Prop} (h : Ws (b (some x :: some y :: some z :: some u :: some v :: List.replicate k none) S) { nx := fun _ S => Q .non S, rt := Q }) : Wp (fnM (k + 5) b [x, y, z, u, v] S) Q := w_fn _ rfl h
theorem w_fn6 {k : Nat} {b : MS} {x y z u v t : Va} {S : Sto} {Q : Va → Sto → Prop} (h : Ws (b (some x :: some y :: some z :: some u :: some v :: some t :: List.replicate k none) S) { nx := fun _ S => Q .non S, rt := Q }) : Wp (fnM (k + 6) b [x, y, z, u, v, t] S) Q := w_fn _ rfl h
theorem ite_t {A B : Prop} (h : A) : if true = true then A else B := by rw [if_pos rfl]; exact h
theorem ite_f {A B : Prop} (h : B) : if false = true then A else B := by rw [if_neg (by decide)]; exact h
theorem ite_d {p A B : Prop} {_ : Decidable p} (h1 : p → A) (h2 : ¬ p → B) : if decide p = true then A else B := by
  by_cases h : p
  · rw [if_pos (decide_eq_true h)]; exact h1 h
  · rw [if_neg (by simpa using h)]; exact h2 h
/-! ### the operators on ints -/
section
variable {S : Sto} {Q : Va → Sto → Prop} {i j : Int}
theorem wo_add (q : Q (.int (i + j)) S) : Wo (fAdd (.int i) (.int j) S) Q := q
theorem wo_addI (q : Q (.int (i + j)) S) : Wo (addI (.int i) (.int j) S) Q := q
theorem wo_sub (q : Q (.int (i - j)) S) : Wo (subI (.int i) (.int j) S) Q := q
theorem wo_fI2 {C : Int → Int → Bool} {g : Int → Int → Va} (h : C i j = true) (q : Q (g i j) S) : Wo (fI2 C g (.int i) (.int j) S) Q := by
  rw [fI2_int, if_pos h]
  exact q
theorem mulC_l (h : -18446744073709551616 < i ∧ i < 18446744073709551616) : mulC i j = true := by
  unfold mulC
  rw [Bool.or_eq_true]
  exact .inl (decide_eq_true (.inl ⟨by have := h.1; omega, by have := h.2; omega⟩))
theorem mulC_r (h : -18446744073709551616 < j ∧ j < 18446744073709551616) : mulC i j = true := by
  unfold mulC
  rw [Bool.or_eq_true]
  exact .inl (decide_eq_true (.inr ⟨by have := h.1; omega, by have := h.2; omega⟩))
theorem mulC_w {a b : Nat} (ha : i.natAbs < 2 ^ a) (hb : j.natAbs < 2 ^ b) (h0 : 0 < a) (h1 : 0 < b) (h : a + b ≤ 1000000) : mulC i j = true := by
  unfold mulC
  rw [Bool.or_eq_true]
  exact .inr (decide_eq_true (wide_mul ha hb h0 h1 h))
theorem wo_mul (h : mulC i j = true) (q : Q (.int (i * j)) S) : Wo (fMul (.int i) (.int j) S) Q := by
  rw [fMul_int i j S h]
  exact q
theorem wo_mul_l (h : -18446744073709551616 < i ∧ i < 18446744073709551616) (q : Q (.int (i * j)) S) : Wo (fMul (.int i) (.int j) S) Q := wo_mul (mulC_l h) q
theorem wo_mul_r (h : -18446744073709551616 < j ∧ j < 18446744073709551616) (q : Q (.int (i * j)) S) : Wo (fMul (.int i) (.int j) S) Q := wo_mul (mulC_r h) q
theorem wo_mod (h : 0 < j) (q : Q (.int (i % j)) S) : Wo (modI (.int i) (.int j) S) Q := wo_fI2 (by unfold modC; exact decide_eq_true h) q
theorem log_lt {n b : Nat} (h : n < 2 ^ b) (hb : 0 < b) : n.log2 < b := by
  by_cases h0 : n = 0
  · subst h0; simpa using hb
  · exact (Nat.log2_lt h0).2 h
theorem wo_div (h : 0 < j ∧ j < 1000000000000000000000000000000000000000000) (q : Q (.int (i / j)) S) : Wo (divI (.int i) (.int j) S) Q :=
  wo_fI2 (by unfold divC; exact decide_eq_true ⟨h.1, Nat.lt_of_lt_of_le (log_lt (b := 200) (Nat.lt_of_lt_of_le (by omega : j.natAbs < 1000000000000000000000000000000000000000000) (by decide)) (by decide)) (by decide)⟩) q
theorem wo_pow (h : 0 ≤ j ∧ j ≤ 1000000 ∧ -18446744073709551616 < i ∧ i < 18446744073709551616) (q : Q (.int (i ^ j.toNat)) S) : Wo (powI (.int i) (.int j) S) Q := by
  refine wo_fI2 ?_ q
  unfold powC
  rw [Bool.or_eq_true]
  exact .inl (decide_eq_true ⟨h.1, h.2.1, by omega⟩)
theorem wo_shl (h : 0 ≤ j ∧ j ≤ 1000000 ∧ -18446744073709551616 < i ∧ i < 18446744073709551616) (q : Q (.int (i * 2 ^ j.toNat)) S) : Wo (shlI (.int i) (.int j) S) Q := wo_fI2 (by unfold shlC; exact decide_eq_true ⟨h.1, h.2.1, by omega⟩) q
theorem wo_shr (h : 0 ≤ j) (q : Q (.int (i / 2 ^ j.toNat)) S) : Wo (shrI (.int i) (.int j) S) Q := wo_fI2 (by unfold shrC; exact decide_eq_true h) q
theorem wo_and (q : Q (.int (Builtin.bitAnd i j)) S) : Wo (andI (.int i) (.int j) S) Q := q
theorem wo_or (q : Q (.int (Builtin.bitOr i j)) S) : Wo (orI (.int i) (.int j) S) Q := q
theorem wo_xor (q : Q (.int (Builtin.bitXor i j)) S) : Wo (xorI (.int i) (.int j) S) Q := q
theorem wo_lt (q : Q (.bl (decide (i < j))) S) : Wo (ltI (.int i) (.int j) S) Q := q
theorem wo_le (q : Q (.bl (decide (i ≤ j))) S) : Wo (leI (.int i) (.int j) S) Q := q
theorem wo_gt (q : Q (.bl (decide (j < i))) S) : Wo (gtI (.int i) (.int j) S) Q := q
theorem wo_ge (q : Q (.bl (decide (j ≤ i))) S) : Wo (geI (.int i) (.int j) S) Q := q
theorem wo_neg (q : Q (.int (-i)) S) : Wo (negI (.int i) S) Q := q
theorem dat_int (S : Sto) (i : Int) : datOf S (.int i) = some (.int i) := by
  unfold datOf toD
  simp only
  rw [if_pos (by rfl)]
theorem beqD (i j : Int) : (i == j) = decide (i = j) := by
  by_cases h : i = j
  · subst h; simp
  · simp [h]
theorem wo_eqI (q : Q (.bl (decide (i = j))) S) : Wo (fEq (.int i) (.int j) S) Q := by
  unfold fEq
  rw [dat_int, dat_int]
  have e : PyData.eqv (.int i) (.int j) = decide (i = j) := by simp [PyData.eqv, beqD]
  simp only [e]
  exact q
theorem wo_neI (q : Q (.bl (decide (i ≠ j))) S) : Wo (fNe (.int i) (.int j) S) Q := by
  unfold fNe
  rw [dat_int, dat_int]
  have e : (!PyData.eqv (.int i) (.int j)) = decide (i ≠ j) := by simp [PyData.eqv, beqD]
  simp only [e]
  exact q
theorem wo_int (q : Q (.int i) S) : Wo (fInt [.int i] S) Q := q
theorem wo_intB {b : Bool} (q : Q (.int (if b = true then 1 else 0)) S) : Wo (fInt [.bl b] S) Q := q
theorem wo_abs (q : Q (.int (if i < 0 then -i else i)) S) : Wo (fAbs [.int i] S) Q := q
theorem wo_max2 (q : Q (.int (max i j)) S) : Wo (fMax [.int i, .int j] S) Q := by
  have e : (if j > i then j else i) = max i j := by omega
  show Q (.int (if j > i then j else i)) S
  rw [e]
  exact q
theorem wo_min2 (q : Q (.int (min i j)) S) : Wo (fMin [.int i, .int j] S) Q := by
  have e : (if j < i then j else i) = min i j := by omega
  show Q (.int (if j < i then j else i)) S
  rw [e]
  exact q
theorem wo_tup {vs : List Va} (h : vs.length ≤ sizeLine) (q : Q (.tup vs) S) : Wo (fTup vs S) Q := by
  unfold fTup
  rw [if_pos h]
  exact q
theorem wo_lst {vs : List Va} (h : vs.length ≤ sizeLine) (q : Q (.ref S.length) (S ++ [.lst vs])) : Wo (fLst vs S) Q := by
  unfold fLst
  rw [if_pos h]
  exact q
theorem wo_mkL {vs : List Va} (h : vs.length ≤ sizeLine) (q : Q (.ref S.length) (S ++ [.lst vs])) : Wo (mkL S vs) Q := by
  unfold mkL
  rw [if_pos h]
  exact q
theorem wo_isi {v : Va} {k T : String} {b : Bool} (h1 : kindV S v = some k) (h2 : kitB k T = some b) (q : Q (.bl b) S) : Wo (fIsi [v, .ty T] S) Q := by
  show Wo (match kindV S v, Va.ty T with
    | some k, .ty T => match kitB k T with
      | some b => some (.bl b, S)
      | none => none
    | _, _ => none) Q
  rw [h1]
  simp only [h2]
  exact q
theorem wo_ixL {v x : Va} {xs : List Va} (h1 : lstOf S v = some xs) (h2 : L2.atI xs i = some x) (q : Q x S) : Wo (fIx v (.int i) S) Q := by
  rw [fIx_lst h1 h2]
  exact q
theorem wo_ixT {x : Va} {xs : List Va} (h2 : L2.atI xs i = some x) (q : Q x S) : Wo (fIx (.tup xs) (.int i) S) Q := by
  rw [fIx_tup h2]
  exact q
theorem wo_len {v : Va} {xs : List Va} (h : seqOf S v = some xs) (q : Q (.int xs.length) S) : Wo (fLen [v] S) Q := by
  have e : lenQ [v] S = some (.int xs.length, S) := by
    show (match seqOf S v with
      | some xs => some (Va.int xs.length, S)
      | none => none) = _
    rw [h]
  unfold fLen orFL
  rw [e]
  exact q
theorem lst_ref {n : Nat} {xs : List Va} (h : S[n]? = some (.lst xs)) : lstOf S (.ref n) = some xs := by
  unfold lstOf
  simp only [h]
theorem wo_addL {v w : Va} {xs ys : List Va} (h : lstOf S v = some xs) (h' : lstOf S w = some ys) (hl : (xs ++ ys).length ≤ sizeLine) (q : Q (.ref S.length) (S ++ [.lst (xs ++ ys)])) : Wo (fAdd v w S) Q := by
  rw [fAdd_lst h h']
  exact wo_mkL hl q
theorem wo_addT {x : Va} {xs ys : List Va} (h : (x :: xs).length + ys.length ≤ sizeLine) (q : Q (.tup (x :: xs ++ ys)) S) : Wo (fAdd (.tup (x :: xs)) (.tup ys) S) Q := by
  rw [fAdd_tup h]
  exact q
theorem wo_eq {v w : Va} {d e : PyData} (h1 : datOf S v = some d) (h2 : datOf S w = some e) (q : Q (.bl (PyData.eqv d e)) S) : Wo (fEq v w S) Q := by
  unfold fEq
  rw [h1, h2]
  exact q
theorem wo_ne {v w : Va} {d e : PyData} (h1 : datOf S v = some d) (h2 : datOf S w = some e) (q : Q (.bl (!PyData.eqv d e)) S) : Wo (fNe v w S) Q := by
  unfold fNe
  rw [h1, h2]
  exact q
theorem wo_in {v w : Va} {d : PyData} {ds : List PyData} (h1 : datOf S v = some d) (h2 : datsOf S w = some ds) (q : Q (.bl (ds.any fun z => PyData.eqv z d)) S) : Wo (inD false v w S) Q := by
  unfold inD
  rw [h1, h2]
  exact q
theorem wo_notIn {v w : Va} {d : PyData} {ds : List PyData} (h1 : datOf S v = some d) (h2 : datsOf S w = some ds) (q : Q (.bl (!ds.any fun z => PyData.eqv z d)) S) : Wo (inD true v w S) Q := by
  unfold inD
  rw [h1, h2]
  exact q
end
end PM

namespace PM
open PySem PySem.Spec PyProof.Rows L2 Q2
/-! ### values that read as data -/
structure Rd (S : Sto) (n : Nat) (v : Va) (d : PyData) : Prop where
  rd : ∀ m, n < m → toD S m v = some d
  lay : d.canLay0 = true
  dp : d.depth ≤ n
section
variable {S : Sto} {n : Nat} {v : Va} {d : PyData}
theorem Rd.dat (h : Rd S n v d) (hn : n < 64) : datOf S v = some d := by
  unfold datOf
  rw [h.rd 64 hn]
  simp only
  rw [if_pos]
  unfold SeqAt.shaped
  rw [h.lay, Bool.true_and]
  exact decide_eq_true (Nat.le_trans h.dp (Nat.le_of_lt hn))
theorem pos_of {n m : Nat} (h : n < m) : ∃ k, m = k + 1 := ⟨m - 1, by omega⟩
theorem Rd.int {i : Int} : Rd S 0 (.int i) (.int i) := ⟨fun m h => by obtain ⟨k, rfl⟩ := pos_of h; rfl, rfl, Nat.le_refl _⟩
theorem Rd.bl {b : Bool} : Rd S 0 (.bl b) (.bool b) := ⟨fun m h => by obtain ⟨k, rfl⟩ := pos_of h; rfl, rfl, Nat.le_refl _⟩
theorem Rd.non : Rd S 0 .non .none := ⟨fun m h => by obtain ⟨k, rfl⟩ := pos_of h; rfl, rfl, Nat.le_refl _⟩
theorem Rd.str {z : Str} (h : PyData.strOk z = true) : Rd S 0 (.str z) (.str z) := ⟨fun m h => by obtain ⟨k, rfl⟩ := pos_of h; rfl, h, Nat.le_refl _⟩
theorem Rd.le {m : Nat} (h : Rd S n v d) (hm : n ≤ m) : Rd S m v d := ⟨fun k hk => h.rd k (by omega), h.lay, Nat.le_trans h.dp hm⟩
inductive RdA (S : Sto) (n : Nat) : List Va → List PyData → Prop
  | nil : RdA S n [] []
  | cons {v : Va} {d : PyData} {vs : List Va} {ds : List PyData} : Rd S n v d → RdA S n vs ds → RdA S n (v :: vs) (d :: ds)
theorem RdA.mapM {vs : List Va} {ds : List PyData} (h : RdA S n vs ds) {m : Nat} (hm : n < m) : vs.mapM (toD S m) = some ds := by
  induction h with
  | nil => rfl
  | cons h _ ih =>
    rw [List.mapM_cons, h.rd m hm, ih]
    rfl
theorem RdA.lay {vs : List Va} {ds : List PyData} (h : RdA S n vs ds) : PyData.canLayAll0 ds = true := by
  induction h with
  | nil => rfl
  | cons h _ ih => simp only [PyData.canLayAll0, h.lay, ih, Bool.and_self]
theorem RdA.dp {vs : List Va} {ds : List PyData} (h : RdA S n vs ds) : PyData.depthAll ds ≤ n := by
  induction h with
  | nil => simp [PyData.depthAll]
  | cons h _ ih =>
    have := h.dp
    simp only [PyData.depthAll]
    omega
theorem RdA.map {α : Type} {f : α → Va} {g : α → PyData} : ∀ {l : List α}, (∀ a ∈ l, Rd S n (f a) (g a)) → RdA S n (l.map f) (l.map g)
  | [], _ => .nil
  | a :: l, h => .cons (h a (List.mem_cons_self ..)) (RdA.map fun b hb => h b (List.mem_cons_of_mem _ hb))
theorem Rd.tup {vs : List Va} {ds : List PyData} (h : RdA S n vs ds) : Rd S (n + 1) (.tup vs) (.tuple ds) := by
  refine ⟨fun m hm => ?_, h.lay, ?_⟩
  · obtain ⟨k, rfl⟩ := pos_of hm
    show (vs.mapM (toD S k)).map PyData.tuple = _
    rw [h.mapM (by omega)]
    rfl
  · have := h.dp
    simp only [PyData.depth]
    omega
theorem Rd.rol {vs : List Va} {ds : List PyData} (h : RdA S n vs ds) : Rd S (n + 1) (.rol vs) (.list ds) := by
  refine ⟨fun m hm => ?_, h.lay, ?_⟩
  · obtain ⟨k, rfl⟩ := pos_of hm
    show (vs.mapM (toD S k)).map PyData.list = _
    rw [h.mapM (by omega)]
    rfl
  · have := h.dp
    simp only [PyData.depth]
    omega
theorem Rd.ref {k : Nat} {vs : List Va} {ds : List PyData} (e : S[k]? = some (.lst vs)) (h : RdA S n vs ds) : Rd S (n + 1) (.ref k) (.list ds) := by
  refine ⟨fun m hm => ?_, h.lay, ?_⟩
  · obtain ⟨j, rfl⟩ := pos_of hm
    show (match S[k]? with
      | some (.lst xs) => (xs.mapM (toD S j)).map PyData.list
      | _ => none) = _
    rw [e]
    simp only
    rw [h.mapM (by omega)]
    rfl
  · have := h.dp
    simp only [PyData.depth]
    omega
theorem Rd.dats {ds : List PyData} (h : Rd S n v (.list ds)) (hn : n < 64) : datsOf S v = some ds := by
  unfold datsOf
  rw [h.dat hn]
end
/-! ### equality of data is equality -/
def EqD {α : Type} (f : α → PyData) : Prop := ∀ a b, PyData.eqv (f a) (f b) = true ↔ a = b
theorem EqD.int : EqD PyData.int := fun a b => by simp [PyData.eqv]
theorem EqD.str : EqD PyData.str := fun a b => by simp [PyData.eqv]
section
variable {α β γ : Type} {f : α → PyData} {g : β → PyData} {h : γ → PyData}
theorem EqD.all (hf : EqD f) : ∀ xs ys : List α, PyData.eqvAll (xs.map f) (ys.map f) = true ↔ xs = ys
  | [], [] => by simp [PyData.eqvAll]
  | [], _ :: _ => by simp [PyData.eqvAll]
  | _ :: _, [] => by simp [PyData.eqvAll]
  | x :: xs, y :: ys => by
    simp only [List.map_cons, PyData.eqvAll, Bool.and_eq_true, List.cons.injEq]
    rw [hf x y, hf.all xs ys]
theorem EqD.list (hf : EqD f) : EqD fun xs : List α => PyData.list (xs.map f) := fun a b => by
  simp only [PyData.eqv]
  exact hf.all a b
theorem EqD.tup (hf : EqD f) : EqD fun xs : List α => PyData.tuple (xs.map f) := fun a b => by
  simp only [PyData.eqv]
  exact hf.all a b
theorem EqD.pair (hf : EqD f) (hg : EqD g) : EqD fun p : α × β => PyData.tuple [f p.1, g p.2] := fun a b => by
  simp only [PyData.eqv, PyData.eqvAll, Bool.and_eq_true, Bool.and_true]
  rw [hf, hg]
  exact ⟨fun h => Prod.ext h.1 h.2, fun h => by rw [h]; exact ⟨rfl, rfl⟩⟩
theorem EqD.trip (hf : EqD f) (hg : EqD g) (hh : EqD h) : EqD fun p : α × β × γ => PyData.tuple [f p.1, g p.2.1, h p.2.2] := fun a b => by
  simp only [PyData.eqv, PyData.eqvAll, Bool.and_eq_true, Bool.and_true]
  rw [hf, hg, hh]
  exact ⟨fun h => Prod.ext h.1 (Prod.ext h.2.1 h.2.2), fun h => by rw [h]; exact ⟨rfl, rfl, rfl⟩⟩
theorem EqD.any (hf : EqD f) [DecidableEq α] (a : α) (l : List α) : ((l.map f).any fun z => PyData.eqv z (f a)) = decide (a ∈ l) := by
  induction l with
  | nil => rfl
  | cons x l ih =>
    simp only [List.map_cons, List.any_cons, ih]
    by_cases e : x = a
    · rw [(hf x a).mpr e]
      simp [e]
    · have : PyData.eqv (f x) (f a) = false := by
        cases q : PyData.eqv (f x) (f a) with
        | false => rfl
        | true => exact absurd ((hf x a).mp q) e
      rw [this]
      have e' : ¬ a = x := fun z => e z.symm
      simp [e']
theorem EqD.dec (hf : EqD f) [DecidableEq α] (a b : α) : PyData.eqv (f a) (f b) = decide (a = b) := by
  by_cases e : a = b
  · rw [(hf a b).mpr e, decide_eq_true e]
  · rw [decide_eq_false e]
    cases q : PyData.eqv (f a) (f b) with
    | false => rfl
    | true => exact absurd ((hf a b).mp q) e
end
section
variable {α : Type} {f : α → PyData} [DecidableEq α] {S : Sto} {Q : Va → Sto → Prop} {v w : Va} {a b : α} {l : List α} {m n : Nat}
theorem wo_eqD (hf : EqD f) (h1 : Rd S m v (f a)) (h2 : Rd S n w (f b)) (hm : m < 64) (hn : n < 64) (q : Q (.bl (decide (a = b))) S) : Wo (fEq v w S) Q := wo_eq (h1.dat hm) (h2.dat hn) (by rw [hf.dec]; exact q)
theorem wo_neD (hf : EqD f) (h1 : Rd S m v (f a)) (h2 : Rd S n w (f b)) (hm : m < 64) (hn : n < 64) (q : Q (.bl (decide (a ≠ b))) S) : Wo (fNe v w S) Q := wo_ne (h1.dat hm) (h2.dat hn) (by rw [hf.dec]; rw [← decide_not]; exact q)
theorem wo_inD (hf : EqD f) (h1 : Rd S m v (f a)) (h2 : Rd S n w (.list (l.map f))) (hm : m < 64) (hn : n < 64) (q : Q (.bl (decide (a ∈ l))) S) : Wo (inF v w S) Q := by
  have h : Wo (inD false v w S) fun z S' => S' = S ∧ z = .bl (decide (a ∈ l)) := wo_in (h1.dat hm) (h2.dats hn) (by rw [hf.any]; exact ⟨rfl, rfl⟩)
  unfold inF orF2
  cases e : inD false v w S with
  | none => rw [e] at h; exact h.elim
  | some p =>
    obtain ⟨z, S'⟩ := p
    rw [e] at h
    obtain ⟨h3, h4⟩ := h
    subst h3
    subst h4
    exact q
omit [DecidableEq α] in
theorem wo_inSet {k : List Int} {ks : List (List Int)} {j : Nat} (h1 : tIntsOf v = some k) (h2 : S[j]? = some (.setT ks)) (h3 : k ∉ ks) (q : Q (.bl false) S) : Wo (inF v (.ref j) S) Q := by
  have h : inD false v (.ref j) S = none := by
    unfold inD datsOf
    have : datOf S (.ref j) = none := by
      unfold datOf
      have : toD S 64 (.ref j) = none := by
        show (match S[j]? with
          | some (.lst xs) => (xs.mapM (toD S 63)).map PyData.list
          | _ => none) = _
        rw [h2]
      rw [this]
    rw [this]
    cases datOf S v <;> rfl
  unfold inF orF2
  rw [h]
  unfold inSet
  rw [h1]
  simp only [h2]
  rw [if_neg h3]
  exact q
theorem wo_notInD (hf : EqD f) (h1 : Rd S m v (f a)) (h2 : Rd S n w (.list (l.map f))) (hm : m < 64) (hn : n < 64) (q : Q (.bl (decide (a ∉ l))) S) : Wo (inD true v w S) Q := wo_notIn (h1.dat hm) (h2.dats hn) (by rw [hf.any]; rw [← decide_not]; exact q)
end
/-! ### pairs and triples of ints -/
abbrev ptV (p : Int × Int) : Va := .tup [.int p.1, .int p.2]
abbrev clV (p : Int × Int × Int) : Va := .tup [.int p.1, .int p.2.1, .int p.2.2]
abbrev ptP (p : Int × Int) : PyData := .tuple [.int p.1, .int p.2]
abbrev clP (p : Int × Int × Int) : PyData := .tuple [.int p.1, .int p.2.1, .int p.2.2]
theorem ptE : EqD ptP := EqD.pair EqD.int EqD.int
theorem clE : EqD clP := EqD.trip EqD.int EqD.int EqD.int
section
variable {S : Sto}
theorem ptR {p : Int × Int} : Rd S 1 (ptV p) (ptP p) := Rd.tup (.cons Rd.int (.cons Rd.int .nil))
theorem clR {p : Int × Int × Int} : Rd S 1 (clV p) (clP p) := Rd.tup (.cons Rd.int (.cons Rd.int (.cons Rd.int .nil)))
theorem ptsR {k : Nat} {l : List (Int × Int)} (h : S[k]? = some (.lst (l.map ptV))) : Rd S 2 (.ref k) (.list (l.map ptP)) := Rd.ref h (RdA.map fun a _ => ptR)
theorem clsR {k : Nat} {l : List (Int × Int × Int)} (h : S[k]? = some (.lst (l.map clV))) : Rd S 2 (.ref k) (.list (l.map clP)) := Rd.ref h (RdA.map fun a _ => clR)
end
/-! ### stores -/
theorem get_set {S : Sto} {n : Nat} {o p : Ob} (h : S[n]? = some o) : (S.set n p)[n]? = some p := List.getElem?_set_self (List.getElem?_eq_some_iff.mp h).1
theorem get_ne {S : Sto} {n m : Nat} {o p : Ob} (hn : n ≠ m) (h : S[m]? = some o) : (S.set n p)[m]? = some o := by rw [List.getElem?_set_ne hn]; exact h
theorem get_app {S T : Sto} {n : Nat} {o : Ob} (h : S[n]? = some o) : (S ++ T)[n]? = some o := by rw [List.getElem?_append_left (List.getElem?_eq_some_iff.mp h).1]; exact h
theorem get_last {S : Sto} {o : Ob} : (S ++ [o])[S.length]? = some o := by rw [List.getElem?_append_right (Nat.le_refl _), Nat.sub_self]; rfl
theorem lt_get {S : Sto} {n : Nat} {o : Ob} (h : S[n]? = some o) : n < S.length := (List.getElem?_eq_some_iff.mp h).1
theorem seq_ref {S : Sto} {n : Nat} {xs : List Va} (h : S[n]? = some (.lst xs)) : seqOf S (.ref n) = some xs := lst_ref h
/-- all stands but what lies at n -/
def Kp (n : Nat) (S S' : Sto) : Prop := S.length ≤ S'.length ∧ ∀ i o, i ≠ n → S[i]? = some o → S'[i]? = some o
/-- all stands -/
def Gr (S S' : Sto) : Prop := ∃ T, S' = S ++ T
theorem Gr.refl (S : Sto) : Gr S S := ⟨[], by simp⟩
theorem Gr.trans {S S1 S2 : Sto} (a : Gr S S1) (b : Gr S1 S2) : Gr S S2 := by
  obtain ⟨T, rfl⟩ := a
  obtain ⟨U, rfl⟩ := b
  exact ⟨T ++ U, by rw [List.append_assoc]⟩
theorem Gr.app (S T : Sto) : Gr S (S ++ T) := ⟨T, rfl⟩
theorem Gr.get {S S' : Sto} (g : Gr S S') {n : Nat} {o : Ob} (h : S[n]? = some o) : S'[n]? = some o := by
  obtain ⟨T, rfl⟩ := g
  exact get_app h
theorem Gr.len {S S' : Sto} (g : Gr S S') : S.length ≤ S'.length := by
  obtain ⟨T, rfl⟩ := g
  simp
theorem Kp.refl (n : Nat) (S : Sto) : Kp n S S := ⟨Nat.le_refl _, fun _ _ _ h => h⟩
theorem Kp.trans {n : Nat} {S S1 S2 : Sto} (a : Kp n S S1) (b : Kp n S1 S2) : Kp n S S2 := ⟨Nat.le_trans a.1 b.1, fun i o hi h => b.2 i o hi (a.2 i o hi h)⟩
theorem Gr.kp {n : Nat} {S S' : Sto} (g : Gr S S') : Kp n S S' := ⟨g.len, fun _ _ _ h => g.get h⟩
theorem Kp.set (n : Nat) (S : Sto) (o : Ob) : Kp n S (S.set n o) := ⟨by simp, fun i p hi h => get_ne (fun z => hi z.symm) h⟩
theorem Kp.get {n : Nat} {S S' : Sto} (k : Kp n S S') {i : Nat} {o : Ob} (hi : i ≠ n) (h : S[i]? = some o) : S'[i]? = some o := k.2 i o hi h
theorem at_nat {xs : List Va} {i : Int} (h0 : 0 ≤ i) (h1 : i < xs.length) : ∃ x, L2.atI xs i = some x ∧ xs[i.toNat]? = some x ∧ x ∈ xs := by
  have h : i.toNat < xs.length := by omega
  refine ⟨xs[i.toNat], ?_, List.getElem?_eq_getElem h, List.getElem_mem h⟩
  unfold L2.atI L2.ixN
  rw [if_pos h0, if_pos h1]
  exact List.getElem?_eq_getElem h
/-! ### branches -/
theorem ite_nd {p A B : Prop} {_ : Decidable p} (h1 : ¬ p → A) (h2 : p → B) : if (!decide p) = true then A else B := by
  by_cases h : p
  · rw [if_neg (by simp [h])]; exact h2 h
  · rw [if_pos (by simp [h])]; exact h1 h
theorem ite_nt {A B : Prop} (h : B) : if (!true) = true then A else B := by rw [if_neg (by decide)]; exact h
theorem ite_nf {A B : Prop} (h : A) : if (!false) = true then A else B := by rw [if_pos (by decide)]; exact h
theorem kind_ref {S : Sto} {n : Nat} {xs : List Va} (h : S[n]? = some (.lst xs)) : kindV S (.ref n) = some "list" := by
  unfold kindV
  simp only [h]
theorem kb_int_int : kitB "int" "int" = some true := by decide +kernel
theorem kb_int_bool : kitB "int" "bool" = some false := by decide +kernel
theorem kb_int_str : kitB "int" "str" = some false := by decide +kernel
theorem kb_int_list : kitB "int" "list" = some false := by decide +kernel
theorem kb_int_tuple : kitB "int" "tuple" = some false := by decide +kernel
theorem kb_bool_int : kitB "bool" "int" = some true := by decide +kernel
theorem kb_bool_bool : kitB "bool" "bool" = some true := by decide +kernel
theorem kb_bool_str : kitB "bool" "str" = some false := by decide +kernel
theorem kb_bool_list : kitB "bool" "list" = some false := by decide +kernel
theorem kb_bool_tuple : kitB "bool" "tuple" = some false := by decide +kernel
theorem kb_str_int : kitB "str" "int" = some false := by decide +kernel
theorem kb_str_bool : kitB "str" "bool" = some false := by decide +kernel
theorem kb_str_str : kitB "str" "str" = some true := by decide +kernel
theorem kb_str_list : kitB "str" "list" = some false := by decide +kernel
theorem kb_str_tuple : kitB "str" "tuple" = some false := by decide +kernel
theorem kb_list_int : kitB "list" "int" = some false := by decide +kernel
theorem kb_list_bool : kitB "list" "bool" = some false := by decide +kernel
theorem kb_list_str : kitB "list" "str" = some false := by decide +kernel
theorem kb_list_list : kitB "list" "list" = some true := by decide +kernel
theorem kb_list_tuple : kitB "list" "tuple" = some false := by decide +kernel
theorem kb_tuple_int : kitB "tuple" "int" = some false := by decide +kernel
theorem kb_tuple_bool : kitB "tuple" "bool" = some false := by decide +kernel
theorem kb_tuple_str : kitB "tuple" "str" = some false := by decide +kernel
theorem kb_tuple_list : kitB "tuple" "list" = some false := by decide +kernel
theorem kb_tuple_tuple : kitB "tuple" "tuple" = some true := by decide +kernel
theorem kb_NoneType_int : kitB "NoneType" "int" = some false := by decide +kernel
theorem kb_NoneType_bool : kitB "NoneType" "bool" = some false := by decide +kernel
theorem kb_NoneType_str : kitB "NoneType" "str" = some false := by decide +kernel
theorem kb_NoneType_list : kitB "NoneType" "list" = some false := by decide +kernel
theorem kb_NoneType_tuple : kitB "NoneType" "tuple" = some false := by decide +kernel
theorem ka_tuple : kitAnyB "tuple" ["list", "tuple"] = some true := by decide +kernel
theorem ka_list : kitAnyB "list" ["list", "tuple"] = some true := by decide +kernel
/-! ### loops, whatever is walked -/
def IsSeq (S : Sto) (v : Va) (xs : List Va) : Prop := (∃ k, v = .ref k ∧ S[k]? = some (.lst xs)) ∨ v = .tup xs ∨ v = .rol xs
theorem IsSeq.ref {S : Sto} {k : Nat} {xs : List Va} (h : S[k]? = some (.lst xs)) : IsSeq S (.ref k) xs := .inl ⟨k, rfl, h⟩
theorem IsSeq.seq {S : Sto} {v : Va} {xs : List Va} (h : IsSeq S v xs) : seqOf S v = some xs := by
  rcases h with ⟨k, rfl, h⟩ | rfl | rfl
  · exact seq_ref h
  · rfl
  · rfl
theorem IsSeq.gr {S S' : Sto} (g : Gr S S') {v : Va} {xs : List Va} (h : IsSeq S v xs) : IsSeq S' v xs := by
  rcases h with ⟨k, rfl, h⟩ | h
  · exact .inl ⟨k, rfl, g.get h⟩
  · exact .inr h
theorem IsSeq.dat {S : Sto} {v : Va} {xs : List Va} (h : IsSeq S v xs) {i : Int} {x : Va} (e : L2.atI xs i = some x) {Q : Va → Sto → Prop} (q : Q x S) : Wo (fIx v (.int i) S) Q := by
  rcases h with ⟨k, rfl, h⟩ | rfl | rfl
  · exact wo_ixL (lst_ref h) e q
  · exact wo_ixT e q
  · exact wo_ixL rfl e q
theorem IsSeq.len {S : Sto} {v : Va} {xs : List Va} (h : IsSeq S v xs) {Q : Va → Sto → Prop} (q : Q (.int xs.length) S) : Wo (fLen [v] S) Q := wo_len h.seq q
theorem IsSeq.isi {S : Sto} {v : Va} {xs : List Va} (h : IsSeq S v xs) : ∃ k, kindV S v = some k ∧ kitAnyB k ["list", "tuple"] = some true := by
  rcases h with ⟨k, rfl, h⟩ | rfl | rfl
  · exact ⟨_, kind_ref h, ka_list⟩
  · exact ⟨_, rfl, ka_tuple⟩
  · exact ⟨_, rfl, ka_list⟩
section
variable {Γ : En} {S : Sto} {P : Po} {Q : Va → Sto → Prop}
theorem ws_forW {m : ME} {g : MG} {b : MS} (v : Va) (xs : List Va) (Inv : Nat → En → Sto → Prop) (hm : Wp (m Γ S) fun w S1 => w = v ∧ Inv 0 Γ S1) (hl : ∀ i Γ S, Inv i Γ S → IsSeq S v xs)
    (hs : ∀ i x Γ S, xs[i]? = some x → Inv i Γ S → Wp (g x Γ S) fun Γ1 S1 => Ws (b Γ1 S1) { nx := Inv (i + 1), ct := Inv (i + 1), bk := P.nx, rt := P.rt }) (hd : ∀ Γ S, Inv xs.length Γ S → P.nx Γ S) : Ws (sFor (mWalk m) g b Γ S) P := by
  refine ws_for (w_walk (hm.mono fun w S1 h => ?_))
  obtain ⟨rfl, h0⟩ := h
  rcases hl _ _ _ h0 with ⟨k, rfl, h⟩ | rfl | rfl
  · refine .inl ⟨k, xs, rfl, h, loop_list Inv (fun i Γ S _ h => ?_) h0 hs hd⟩
    rcases hl _ _ _ h with ⟨k', e, h⟩ | e | e
    · cases e; exact h
    · cases e
    · cases e
  · exact .inr ⟨xs, .inl rfl, loop_itm Inv h0 hs hd⟩
  · exact .inr ⟨xs, .inr rfl, loop_itm Inv h0 hs hd⟩
theorem ws_forE {m : ME} {g : MG} {b : MS} (v : Va) (xs : List Va) (Inv : Nat → En → Sto → Prop) (hm : Wp (m Γ S) fun w S1 => w = v ∧ Inv 0 Γ S1) (hl : ∀ i Γ S, Inv i Γ S → IsSeq S v xs)
    (hs : ∀ i x Γ S, xs[i]? = some x → Inv i Γ S → Wp (g (.tup [.int (i : Nat), x]) Γ S) fun Γ1 S1 => Ws (b Γ1 S1) { nx := Inv (i + 1), ct := Inv (i + 1), bk := P.nx, rt := P.rt }) (hd : ∀ Γ S, Inv xs.length Γ S → P.nx Γ S) : Ws (sFor (mEnum (maC m maN)) g b Γ S) P := by
  refine ws_for (w_enum (w_maC (hm.mono fun w S1 h => w_maN ⟨_, rfl, ?_⟩)))
  obtain ⟨rfl, h0⟩ := h
  rcases hl _ _ _ h0 with ⟨k, rfl, h⟩ | rfl | rfl
  · refine .inl ⟨k, xs, rfl, h, loop_enm Inv (fun i Γ S _ h => ?_) h0 hs hd⟩
    rcases hl _ _ _ h with ⟨k', e, h⟩ | e | e
    · cases e; exact h
    · cases e
    · cases e
  · exact .inr ⟨xs, .inl rfl, loop_enmI Inv h0 hs hd⟩
  · exact .inr ⟨xs, .inr rfl, loop_enmI Inv h0 hs hd⟩
theorem ws_forR {m : ME} {g : MG} {b : MS} (n : Int) (hn : -(2 ^ 62) ≤ n ∧ n < 2 ^ 62) (Inv : Nat → En → Sto → Prop) (hm : Wp (m Γ S) fun w S1 => w = .int n ∧ Inv 0 Γ S1)
    (hs : ∀ i Γ S, i < n.toNat → Inv i Γ S → Wp (g (.int (i : Nat)) Γ S) fun Γ1 S1 => Ws (b Γ1 S1) { nx := Inv (i + 1), ct := Inv (i + 1), bk := P.nx, rt := P.rt }) (hd : ∀ Γ S, Inv n.toNat Γ S → P.nx Γ S) : Ws (sFor (mRng1 (maC m maN)) g b Γ S) P := by
  refine ws_for (w_rng1 (w_maC (hm.mono fun w S1 h => w_maN ⟨n, ?_, hn, ?_⟩)))
  · rw [h.1]
  · refine loop_rng Inv h.2 (fun i Γ S hi h => ?_) hd
    have e : (0 : Int) + (i : Nat) * 1 = (i : Nat) := by omega
    rw [e]
    exact hs i Γ S hi h
theorem ws_forR2 {m m' : ME} {g : MG} {b : MS} (l n : Int) (hl : -(2 ^ 62) ≤ l ∧ l < 2 ^ 62) (hn : -(2 ^ 62) ≤ n ∧ n < 2 ^ 62) (Inv : Nat → En → Sto → Prop) (hm : Wp (m Γ S) fun w S1 => w = .int l ∧ Wp (m' Γ S1) fun w S2 => w = .int n ∧ Inv 0 Γ S2)
    (hs : ∀ i Γ S, i < (n - l).toNat → Inv i Γ S → Wp (g (.int (l + (i : Nat))) Γ S) fun Γ1 S1 => Ws (b Γ1 S1) { nx := Inv (i + 1), ct := Inv (i + 1), bk := P.nx, rt := P.rt }) (hd : ∀ Γ S, Inv (n - l).toNat Γ S → P.nx Γ S) : Ws (sFor (mRng2 (maC m (maC m' maN))) g b Γ S) P := by
  refine ws_for (w_rng2 (w_maC (hm.mono fun w S1 h => w_maC (h.2.mono fun w' S2 h' => w_maN ⟨l, n, ?_, ⟨hl.1, hl.2, hn.1, hn.2⟩, ?_⟩))))
  · rw [h.1, h'.1]
  · refine loop_rng Inv h'.2 (fun i Γ S hi h => ?_) hd
    have e : l + (i : Nat) * 1 = l + (i : Nat) := by omega
    rw [e]
    exact hs i Γ S hi h
theorem w_lcW {m : ME} {g : MG} {mt : MT} {me : ME} {vs : List Nat} (v : Va) (xs : List Va) (Inv : Nat → List Va → Sto → Prop) (hn : xs.length < sizeLine) (hm : Wp (m Γ S) fun w S1 => w = v ∧ Inv 0 [] S1) (hl : ∀ i acc S, Inv i acc S → IsSeq S v xs)
    (hs : ∀ i x acc S, xs[i]? = some x → Inv i acc S → Wp (g x (wipeE Γ vs) S) fun Γ1 S1 => Wp (mt Γ1 S1) fun k S2 => if k = true then Wp (me Γ1 S2) fun y S3 => Inv (i + 1) (acc ++ [y]) S3 else Inv (i + 1) acc S2) (hd : ∀ acc S, Inv xs.length acc S → Q (.ref S.length) (S ++ [.lst acc])) : Wp (mLc (mWalk m) g mt me vs Γ S) Q := by
  refine w_lc (w_walk (hm.mono fun w S1 h => ?_))
  obtain ⟨rfl, h0⟩ := h
  rcases hl _ _ _ h0 with ⟨k, rfl, h⟩ | rfl | rfl
  · refine .inl ⟨k, xs, rfl, h, comp_list Inv hn (fun i Γ S _ h => ?_) h0 hs hd⟩
    rcases hl _ _ _ h with ⟨k', e, h⟩ | e | e
    · cases e; exact h
    · cases e
    · cases e
  · exact .inr ⟨xs, .inl rfl, comp_itm Inv hn h0 hs hd⟩
  · exact .inr ⟨xs, .inr rfl, comp_itm Inv hn h0 hs hd⟩
theorem w_lcE {m : ME} {g : MG} {mt : MT} {me : ME} {vs : List Nat} (v : Va) (xs : List Va) (Inv : Nat → List Va → Sto → Prop) (hn : xs.length < sizeLine) (hm : Wp (m Γ S) fun w S1 => w = v ∧ Inv 0 [] S1) (hl : ∀ i acc S, Inv i acc S → IsSeq S v xs)
    (hs : ∀ i x acc S, xs[i]? = some x → Inv i acc S → Wp (g (.tup [.int (i : Nat), x]) (wipeE Γ vs) S) fun Γ1 S1 => Wp (mt Γ1 S1) fun k S2 => if k = true then Wp (me Γ1 S2) fun y S3 => Inv (i + 1) (acc ++ [y]) S3 else Inv (i + 1) acc S2) (hd : ∀ acc S, Inv xs.length acc S → Q (.ref S.length) (S ++ [.lst acc])) : Wp (mLc (mEnum (maC m maN)) g mt me vs Γ S) Q := by
  refine w_lc (w_enum (w_maC (hm.mono fun w S1 h => w_maN ⟨_, rfl, ?_⟩)))
  obtain ⟨rfl, h0⟩ := h
  rcases hl _ _ _ h0 with ⟨k, rfl, h⟩ | rfl | rfl
  · refine .inl ⟨k, xs, rfl, h, comp_enm Inv hn (fun i Γ S _ h => ?_) h0 hs hd⟩
    rcases hl _ _ _ h with ⟨k', e, h⟩ | e | e
    · cases e; exact h
    · cases e
    · cases e
  · exact .inr ⟨xs, .inl rfl, comp_enmI Inv hn h0 hs hd⟩
  · exact .inr ⟨xs, .inr rfl, comp_enmI Inv hn h0 hs hd⟩
theorem w_lcR {m : ME} {g : MG} {mt : MT} {me : ME} {vs : List Nat} (n : Int) (hn : -(2 ^ 62) ≤ n ∧ n < 2 ^ 24) (Inv : Nat → List Va → Sto → Prop) (hm : Wp (m Γ S) fun w S1 => w = .int n ∧ Inv 0 [] S1)
    (hs : ∀ i acc S, i < n.toNat → Inv i acc S → Wp (g (.int (i : Nat)) (wipeE Γ vs) S) fun Γ1 S1 => Wp (mt Γ1 S1) fun k S2 => if k = true then Wp (me Γ1 S2) fun y S3 => Inv (i + 1) (acc ++ [y]) S3 else Inv (i + 1) acc S2) (hd : ∀ acc S, Inv n.toNat acc S → Q (.ref S.length) (S ++ [.lst acc])) : Wp (mLc (mRng1 (maC m maN)) g mt me vs Γ S) Q := by
  refine w_lc (w_rng1 (w_maC (hm.mono fun w S1 h => w_maN ⟨n, ?_, ⟨hn.1, by omega⟩, ?_⟩)))
  · rw [h.1]
  · refine comp_rng Inv (by show n.toNat < 2 ^ 24; omega) h.2 (fun i acc S hi h => ?_) hd
    have e : (0 : Int) + (i : Nat) * 1 = (i : Nat) := by omega
    rw [e]
    exact hs i acc S hi h
end
theorem map_at {α β : Type} {f : α → β} {l : List α} {i : Nat} {x : β} (h : (l.map f)[i]? = some x) : ∃ p, l[i]? = some p ∧ x = f p := by
  rw [List.getElem?_map] at h
  cases e : l[i]? with
  | none => rw [e] at h; cases h
  | some p => rw [e] at h; cases h; exact ⟨p, rfl, rfl⟩
theorem take_at {α : Type} {l : List α} {i : Nat} {x : α} (h : l[i]? = some x) : l.take (i + 1) = l.take i ++ [x] := by
  obtain ⟨hi, e⟩ := List.getElem?_eq_some_iff.mp h
  rw [List.take_succ, h]
  rfl
theorem app_set {S T : Sto} {o p : Ob} : (S ++ o :: T).set S.length p = S ++ p :: T := by
  rw [List.set_append_right _ _ (Nat.le_refl _), Nat.sub_self]
  rfl
theorem app_at {S T : Sto} {o : Ob} : (S ++ o :: T)[S.length]? = some o := by
  rw [List.getElem?_append_right (Nat.le_refl _), Nat.sub_self]
  rfl
section
variable {Γ : En} {S : Sto} {P : Po} {Q : Va → Sto → Prop} {α : Type}
/-- [h(x) for x in l if p(x)], nothing is changed -/
theorem w_comp {m : ME} {g : MG} {mt : MT} {me : ME} {vs : List Nat} (v : Va) (l : List α) (enc : α → Va) (p : α → Bool) (h : α → Va) (hn : l.length < sizeLine) (hv : IsSeq S v (l.map enc)) (hm : Wp (m Γ S) fun w S1 => w = v ∧ S1 = S)
    (hs : ∀ q S', q ∈ l → Gr S S' → Wp (g (enc q) (wipeE Γ vs) S') fun Γ1 S1 => Wp (mt Γ1 S1) fun k S2 => k = p q ∧ if p q = true then Wp (me Γ1 S2) fun y S3 => y = h q ∧ Gr S S3 else Gr S S2) (hd : ∀ S2, Gr S S2 → Q (.ref S2.length) (S2 ++ [.lst ((l.filter p).map h)])) : Wp (mLc (mWalk m) g mt me vs Γ S) Q := by
  refine w_lcW v (l.map enc) (fun i acc S' => acc = ((l.take i).filter p).map h ∧ Gr S S') (by rw [List.length_map]; exact hn) (hm.mono fun w S1 h => ?_) (fun i acc S' h => hv.gr h.2) (fun i x acc S' hx h => ?_) (fun acc S' h => ?_)
  · obtain ⟨rfl, rfl⟩ := h
    exact ⟨rfl, by simp, Gr.refl _⟩
  · obtain ⟨rfl, g⟩ := h
    obtain ⟨q, hq, rfl⟩ := map_at hx
    refine (hs q S' (List.mem_of_getElem? hq) g).mono fun Γ1 S1 h => h.mono fun k S2 h => ?_
    obtain ⟨rfl, h⟩ := h
    rw [take_at hq, List.filter_append, List.map_append]
    by_cases e : p q = true
    · rw [if_pos e] at h
      rw [if_pos e]
      refine Wp.mono h fun y S3 h => ?_
      obtain ⟨rfl, g⟩ := h
      exact ⟨by simp [e], g⟩
    · rw [if_neg e] at h
      rw [if_neg e]
      exact ⟨by simp [e], h⟩
  · obtain ⟨rfl, g⟩ := h
    rw [List.length_map, List.take_length]
    exact hd S' g
end
section
variable {Γ : En} {S : Sto} {Q : Va → Sto → Prop} {α : Type}
/-- [x for i, x in enumerate(l) if i != n] -/
theorem w_others {m : ME} {mt : MT} {me : ME} {a b : Nat} (v : Va) (l : List α) (enc : α → Va) (n : Nat) (hn : l.length < sizeLine) (hv : IsSeq S v (l.map enc)) (hm : Wp (m Γ S) fun w S1 => w = v ∧ S1 = S)
    (ht : ∀ (i : Nat) (q : α) S', Gr S S' → Wp (mt (((wipeE Γ [a, b]).set a (some (.int i))).set b (some (enc q))) S') fun k S2 => k = decide (i ≠ n) ∧ S2 = S') (he : ∀ (i : Nat) (q : α) S', Wp (me (((wipeE Γ [a, b]).set a (some (.int i))).set b (some (enc q))) S') fun y S2 => y = enc q ∧ S2 = S') (hd : ∀ S2, Gr S S2 → Q (.ref S2.length) (S2 ++ [.lst ((l.eraseIdx n).map enc)])) : Wp (mLc (mEnum (maC m maN)) (gT 2 (gsC (gV a) (gsC (gV b) gsN))) mt me [a, b] Γ S) Q := by
  refine w_lcE v (l.map enc) (fun i acc S' => acc = ((l.take i).eraseIdx n).map enc ∧ Gr S S') (by rw [List.length_map]; exact hn) (hm.mono fun w S1 h => ?_) (fun i acc S' h => hv.gr h.2) (fun i x acc S' hx h => ?_) (fun acc S' h => ?_)
  · obtain ⟨rfl, rfl⟩ := h
    exact ⟨rfl, by simp, Gr.refl _⟩
  · obtain ⟨rfl, g⟩ := h
    obtain ⟨q, hq, rfl⟩ := map_at hx
    have hlt := (List.getElem?_eq_some_iff.mp hq).1
    refine wg_t rfl (wg_c (wg_v (wg_c (wg_v (wg_n ?_)))))
    refine (ht i q S' g).mono fun k S2 h => ?_
    obtain ⟨rfl, rfl⟩ := h
    rw [take_at hq]
    have hlen : (l.take i).length = i := by rw [List.length_take]; omega
    by_cases e : i = n
    · rw [if_neg (by simp [e])]
      refine ⟨?_, g⟩
      subst e
      rw [List.eraseIdx_append_of_length_le (by rw [hlen]; exact Nat.le_refl _), hlen, Nat.sub_self]
      rw [List.eraseIdx_of_length_le (by rw [hlen]; exact Nat.le_refl _)]
      simp
    · rw [if_pos (by simp [e])]
      refine (he i q _).mono fun y S3 h => ?_
      obtain ⟨rfl, rfl⟩ := h
      refine ⟨?_, g⟩
      by_cases e2 : n < i
      · rw [List.eraseIdx_append_of_lt_length (by rw [hlen]; exact e2), List.map_append]
        rfl
      · rw [List.eraseIdx_of_length_le (by rw [hlen]; omega), List.eraseIdx_of_length_le (by rw [List.length_append, hlen]; simp; omega), List.map_append]
        rfl
  · obtain ⟨rfl, g⟩ := h
    rw [List.length_map, List.take_length]
    exact hd S' g
end
/-! ### sorted -/
section
variable {S : Sto} {Q : Va → Sto → Prop} {α : Type} {enc : α → Va} {g : α → PyData} {n : Nat}
theorem dats_map (hn : n < 64) : ∀ {l : List α}, (∀ p ∈ l, Rd S n (enc p) (g p)) → datsV S (l.map enc) = some (l.map fun p => (enc p, g p))
  | [], _ => rfl
  | a :: l, h => by
    show (match datOf S (enc a), datsV S (l.map enc) with
      | some d, some ps => some ((enc a, d) :: ps)
      | _, _ => none) = _
    rw [(h a (List.mem_cons_self ..)).dat hn, dats_map hn fun b hb => h b (List.mem_cons_of_mem _ hb)]
    rfl
theorem wo_sort {v : Va} {l : List α} (hv : IsSeq S v (l.map enc)) (hR : ∀ p ∈ l, Rd S n (enc p) (g p)) (hn : n < 64) (hs : sortable (l.map g) = true) (hl : l.length ≤ sizeLine) (q : Q (.ref S.length) (S ++ [.lst ((l.mergeSort (dle g)).map enc)])) : Wo (fSort [v] S) Q := by
  have e : fSort [v] S = mkL S ((l.mergeSort (dle g)).map enc) := by
    show (match seqOf S v with
      | some xs => match datsV S xs with
        | some ps => if sortable (ps.map (fun q : Va × PyData => q.2)) = true then mkL S (sortPs ps) else none
        | none => none
      | none => none) = _
    rw [hv.seq]
    simp only
    rw [dats_map hn hR]
    simp only
    have e1 : (l.map fun p => (enc p, g p)).map (fun q : Va × PyData => q.2) = l.map g := by simp [List.map_map, Function.comp_def]
    rw [e1, if_pos hs]
    unfold sortPs
    have e2 : (l.mergeSort (dle g)).map (fun p => (enc p, g p)) = (l.map fun p => (enc p, g p)).mergeSort (dle fun q : Va × PyData => q.2) := List.map_mergeSort fun a _ b _ => rfl
    rw [← e2, List.map_map]
    rfl
  rw [e]
  exact wo_mkL (by rw [List.length_map, List.length_mergeSort]; exact hl) q
theorem sortable_of {l : List α} (h1 : ∀ a b, PySem.W.alike (g a) (g b) = true) (h2 : ∀ a, ∃ x r, g a = .tuple (x :: r)) (h3 : ∀ a, (g a).depth ≤ 40) : sortable (l.map g) = true := by
  unfold sortable
  rw [Bool.and_eq_true, Bool.and_eq_true]
  refine ⟨⟨?_, ?_⟩, ?_⟩
  · refine List.all_eq_true.mpr fun d hd => List.all_eq_true.mpr fun e he => ?_
    obtain ⟨a, _, rfl⟩ := List.mem_map.mp hd
    obtain ⟨b, _, rfl⟩ := List.mem_map.mp he
    exact h1 a b
  · refine Bool.or_eq_true_iff.mpr (.inl (List.all_eq_true.mpr fun d hd => ?_))
    obtain ⟨a, _, rfl⟩ := List.mem_map.mp hd
    obtain ⟨x, r, e⟩ := h2 a
    rw [e]
  · refine List.all_eq_true.mpr fun d hd => ?_
    obtain ⟨a, _, rfl⟩ := List.mem_map.mp hd
    exact decide_eq_true (h3 a)
end
theorem sortablePts (l : List (Int × Int)) : sortable (l.map ptP) = true := sortable_of (fun a b => by simp [PySem.W.alike, PySem.W.alikeAll]) (fun a => ⟨_, _, rfl⟩) fun a => by
  have : (ptP a).depth = 1 := depth_pt a.1 a.2
  omega
theorem wo_sl31 {S : Sto} {Q : Va → Sto → Prop} {x y z : Va} (q : Q (.tup [y, z]) S) : Wo (fSl (.tup [x, y, z]) (some 1) none S) Q := q
/-! ### a list so many times; the first ones -/
theorem wo_rep {S : Sto} {Q : Va → Sto → Prop} {n : Nat} {k : Int} {xs : List Va} (h : S[n]? = some (.lst xs)) (hk : 0 ≤ k ∧ k ≤ 16777216) (hl : xs.length * k.toNat ≤ 16777216) (q : Q (.ref S.length) (S ++ [.lst (List.replicate k.toNat xs).flatten])) : Wo (fMul (.ref n) (.int k) S) Q := by
  have e : fMul (.ref n) (.int k) S = some (.ref S.length, S ++ [.lst (List.replicate k.toNat xs).flatten]) := by
    unfold fMul orF2 mulI fI2
    simp only
    show (match S[n]? with
      | some (.lst xs) => if -(2 ^ 63) ≤ k ∧ k < 2 ^ 63 ∧ xs.length * k.toNat ≤ sizeLine then mkL S (List.replicate k.toNat xs).flatten else none
      | _ => none) = _
    rw [h]
    simp only
    rw [if_pos ⟨by omega, by omega, hl⟩]
    unfold mkL
    rw [if_pos]
    show (List.replicate k.toNat xs).flatten.length ≤ 16777216
    rw [List.length_flatten, List.map_replicate, List.sum_replicate_nat]
    rw [Nat.mul_comm] at hl
    exact hl
  rw [e]
  exact q
theorem wo_slTo {S : Sto} {Q : Va → Sto → Prop} {v : Va} {k : Int} {xs : List Va} (h : lstOf S v = some xs) (hk : 0 ≤ k) (hl : xs.length ≤ 16777216) (q : Q (.ref S.length) (S ++ [.lst (xs.take k.toNat)])) : Wo (fSl v none (some k) S) Q := by
  have e : fSl v none (some k) S = some (.ref S.length, S ++ [.lst (xs.take k.toNat)]) := by
    have e1 : cutA xs none (some k) = xs.take k.toNat := by
      have e0 : HT.sIx xs.length xs.length (some k) = min k.toNat xs.length := by
        unfold HT.sIx
        simp only
        rw [if_neg (by omega)]
      have e2 : HT.sIx xs.length 0 none = 0 := rfl
      unfold cutA
      rw [e0, e2, Nat.sub_zero, List.drop_zero]
      by_cases z : k.toNat ≤ xs.length
      · rw [Nat.min_eq_left z]
      · rw [Nat.min_eq_right (by omega), List.take_length, List.take_of_length_le (by omega)]
    have e3 : slL v none (some k) S = some (.ref S.length, S ++ [.lst (xs.take k.toNat)]) := by
      unfold slL
      rw [h]
      simp only
      rw [e1]
      unfold mkL
      rw [if_pos]
      have := List.length_take_le' k.toNat xs
      show _ ≤ 16777216
      omega
    unfold fSl
    rw [e3]
  rw [e]
  exact q
theorem dec_t {α : Type} {p : Prop} {_ : Decidable p} {a b : α} (h : p) : (if decide p = true then a else b) = a := by rw [if_pos (decide_eq_true h)]
theorem dec_f {α : Type} {p : Prop} {_ : Decidable p} {a b : α} (h : ¬ p) : (if decide p = true then a else b) = b := by rw [if_neg (by simpa using h)]
/-! ### what stood stands -/
def Lo (S S' : Sto) : Prop := S.length ≤ S'.length ∧ ∀ (i : Nat) (o : Ob), S[i]? = some o → S'[i]? = some o
theorem Lo.refl (S : Sto) : Lo S S := ⟨Nat.le_refl _, fun _ _ h => h⟩
theorem Lo.trans {S S1 S2 : Sto} (a : Lo S S1) (b : Lo S1 S2) : Lo S S2 := ⟨Nat.le_trans a.1 b.1, fun i o h => b.2 i o (a.2 i o h)⟩
theorem Gr.lo {S S' : Sto} (g : Gr S S') : Lo S S' := ⟨g.len, fun _ _ h => g.get h⟩
theorem Lo.gr {S S1 S2 : Sto} (a : Lo S S1) (g : Gr S1 S2) : Lo S S2 := a.trans g.lo
theorem Lo.get {S S' : Sto} (a : Lo S S') {i : Nat} {o : Ob} (h : S[i]? = some o) : S'[i]? = some o := a.2 i o h
theorem Lo.set {S S' : Sto} (a : Lo S S') {i : Nat} (hi : S.length ≤ i) (o : Ob) : Lo S (S'.set i o) := ⟨by simpa using a.1, fun j p h => get_ne (fun z => by have := lt_get h; omega) (a.2 j p h)⟩
theorem wo_tupR {S : Sto} {Q : Va → Sto → Prop} {k : Nat} {xs : List Va} (h : S[k]? = some (.lst xs)) (q : Q (.tup xs) S) : Wo (tupL [.ref k] S) Q := by
  have e : tupL [.ref k] S = some (.tup xs, S) := by
    show (match lstOf S (.ref k) with
      | some xs => some (Va.tup xs, S)
      | none => none) = _
    rw [lst_ref h]
  rw [e]
  exact q
theorem ws_merge {c : Bool} {a b : Rs} {P : Po} (N : En → Sto → Prop) (ha : c = true → Ws a { nx := N, rt := fun _ _ => False }) (hb : c = false → Ws b { nx := N, rt := fun _ _ => False }) (hN : ∀ Γ S, N Γ S → P.nx Γ S) : if c = true then Ws a P else Ws b P := by
  have up : ∀ r : Rs, Ws r { nx := N, rt := fun _ _ => False } → Ws r P := fun r h => by
    cases r with
    | nx Γ S => exact hN Γ S h
    | _ => exact h.elim
  cases c with
  | true => exact up a (ha rfl)
  | false => exact up b (hb rfl)
end PM

namespace PM
open PySem PySem.Spec PyProof.Rows L2 Q2
/-! ### a, b = a list -/
def gTL (n : Nat) (t : MGs) : MG := fun v Γ S => match lstOf S v with
  | some xs => if xs.length = n then noX (t xs Γ S) else .bad
  | none => .bad
theorem pmg_lst {X : Cx} {W : XW} {es : List Expr} {t : MGs} {pos : Pos} {vs : List Nat} {k n : Nat} (hc : X.calm = true) (h : PMGs X W vs es t) (hn : (assignEach es X.env).length = n := by rfl) (hst : (assignEach es X.env).findIdx? (·.1) = none := by rfl) : PMG X W vs (.Tuple es k pos) (gTL n t) := by
  refine pg_imp (pg_lst hc h hn hst) fun w σ H Q ⟨ρ, Γ, S, v, R, G, r, q⟩ => ?_
  unfold gTL at q
  cases e : lstOf S v with
  | none => rw [e] at q; exact q.elim
  | some xs =>
    rw [e] at q
    simp only at q
    obtain ⟨a, ws, rfl, h1, h2⟩ := lst_of R r e
    by_cases hl : xs.length = n
    · rw [if_pos hl] at q
      exact ⟨a, ws, rfl, h1, by rw [← h2.len]; exact hl, ρ, Γ, S, xs, R, G, h2, q.noX⟩
    · rw [if_neg hl] at q
      exact q.elim
theorem wg_tl {Γ : En} {S : Sto} {QE : En → Sto → Prop} {n : Nat} {t : MGs} {v : Va} {xs : List Va} (e : lstOf S v = some xs) (h : xs.length = n) (q : Wp (t xs Γ S) QE) : Wp (gTL n t v Γ S) QE := by
  unfold gTL
  rw [e]
  simp only
  rw [if_pos h]
  exact q.noX
end PM

/-! an own exception over ValueError whose __init__ says super().__init__('..') and self.f = f -/
namespace Q3
open PySem PySem.Spec PyProof.Rows L2 PySem.W
/-- how such an __init__ is written -/
structure SupTxt (params : Arguments) (body : List Stmt) (scope : Scope) (f : Str) : Prop where
  body : ∃ (msg n : Str) (p0 p1 p2 p3 p4 p5 p6 p7 p8 p9 : Pos) (j : Nat), (p2.endLine == p4.line) = true ∧ n ≠ "self" ∧ (n == ("__debug__" : Str)) = false ∧ scope.names.lookup n = some .local ∧
    body = [.Expr (.Call (.Attribute (.Call (.Name "super" p0) [] [] p1) "__init__" p2) [.Constant (.str msg) j p3] [] p4) p5, .Assign [.Attribute (.Name "self" p6) f p7] (.Name n p8) p9] ∧
    (∃ ar, (params.posonlyargs ++ params.args).head? = some ar ∧ ar.arg = "self") ∧
    (∀ (nm q : Str) (dV kV doc pm cdv ct : Value) (an : Option Addr) (cc : Addr) (a u : Value), dV = .none → bindArgs (ksFn nm q params [.Expr (.Call (.Attribute (.Call (.Name "super" p0) [] [] p1) "__init__" p2) [.Constant (.str msg) j p3] [] p4) p5, .Assign [.Attribute (.Name "self" p6) f p7] (.Name n p8) p9] scope dV kV doc pm an cdv ct cc) ⟨[a, u], []⟩ = pure ([("self", a), (n, u)] : List (Str × Value)))
  self : scope.names.lookup ("self" : Str) = some .local
  sup : scope.names.lookup ("super" : Str) = some .globalImplicit
  cls : scope.names.lookup ("__class__" : Str) = some .free
  cell : ∀ x ∈ scope.names, x.2 ≠ .cell
  co : scope.isCoroutine = false
  gen : scope.isGenerator = false
  kind : scope.kind = .function
/-- what the written part says of the class -/
structure SupC (P : Program) (K : PySem.W.Frag) (mg : Str → Option Value) (C : Addr) (x f : Str) : Prop where
  o : OexC K C
  gl : mg x = some (.ref C)
  sb : mg "super" = none
  no : PySem.W.findIn K (.ref C) f = some none
  sub : PySem.W.mroIn K C (.ref C) = some true
  up : PySem.W.ks_superIn K C C "__init__" = some (some (.builtin "ValueError.__init__"))
  ve : PySem.W.subIn K (.ref C) (.type "ValueError") = some true
  opq : PySem.W.nsIn K cStatics "thirdparty.any" = some none
  top : (P.main.scope.names.lookup ("super" : Str)).isSome = false
  ini : ∃ (fI : Addr) (oc : Value) (od : Option Addr) (osl : Array (Option Value)) (q : Str) (params : Arguments) (body : List Stmt) (scope : Scope) (kV doc pm ct : Value) (an : Option Addr) (cda cc : Addr),
    SupTxt params body scope f ∧ PySem.W.findIn K (.ref C) "__init__" = some (some (.ref fI)) ∧ PySem.W.typeIn K (.ref fI) = some (.type "function") ∧
    K.lookup fI = some ⟨oc, od, .func (ksFn "__init__" q params body scope .none kV doc pm an (.ref cda) ct cc), osl⟩ ∧ PySem.W.codeIn K (.ref cda) q = true ∧
    (∃ (ccl : Value) (cdd : Option Addr) (vs : Array Value) (ccs : Array (Option Value)) (file : Str) (tf : Tok), K.lookup cda = some ⟨ccl, cdd, .fields vs, ccs⟩ ∧ vs[2]? = some (.str file tf) ∧ ((P.main.file : Str) == file) = true) ∧
    (∃ (cl : Value) (cld : Option Addr) (csl : Array (Option Value)), K.lookup cc = some ⟨cl, cld, .cell (some (.ref C)), csl⟩)
theorem he_sup {env : Env} {o : Expr} {m msg : Str} {j : Nat} {p2 p3 p4 : Pos} (hline : (p2.endLine == p4.line) = true) :
    eval (.Call (.Attribute o m p2) [.Constant (.str msg) j p3] [] p4) env = (do
      let ov ← attributeBase o m env (eval o env)
      standAt p2.atName
      let (f, first) ← holding [ov] (getMethod ov m (do return (← importBound o env).getD true))
      callWith p4 f first (backTo p4 (starEach [.Constant (.str msg) j p3] env)) []) := by
  have hform : methodCallForm ([Expr.Constant (.str msg) j p3].length + ([] : List Keyword).length) (backTo p4 (starEach [.Constant (.str msg) j p3] env)) (backToKw p4 (keywordEach [] env)) = true := by rfl
  have hpos : methodCallPos true o env p2 p4 = pure p4 := by unfold methodCallPos; simp [hline]
  rw [arm_eval_Call]
  unfold methodCall
  rw [hform, hpos]
  rfl
section
variable {X : Cx} {pins : List (Addr × Obj)} {σ : L2.St} {H : Hp} {s : Shared}
/-- the own __init__ run: what stood stands, the exception has a dict with its field -/
theorem init_run {C a t0 : Addr} {x f : Str} {A : Around} {v : Value} {h : Heap} {g : Array GenState} {d : Drawn} {t : Nat} {os : OsState} {R : Result → Shared → Prop} (T : SupC X.prog X.K X.mg C x f) {fI : Addr} (hfi : PySem.W.findIn X.K (.ref C) "__init__" = some (some (.ref fI)))
    {B : Heap} (KB : X.K.In B) (kB : ∀ b o, B.get? b = some o → h.get? b = some o) (nB : B.get? a = none) (glob : h.Ns mainGlobals X.mg) {mb : Str → Option Value} (blt : h.Ns builtinsNs mb) (hboot : mb "super" = some (.type "super")) (lim : h.NoLimit) (room : A.depth < recursionLimit)
    (ha : h.get? a = some (PySem.HandSPX.excO C t0))
    (hq : ∀ h' tk dx t1, (∀ b o, b ≠ a → h.get? b = some o → h'.get? b = some o) → h.objs.size ≤ dx → dx ≠ a → h'.get? a = some { cls := .ref C, dict := some dx, data := .fields #[.ref t1, .none, .none, .none, .bool false, .none] } →
      h'.Ns1 dx (fun y => if y = f then some v else none) → R (.ok (.ret .none)) ⟨h', g, d, tk, os⟩) :
    codeAny (model X.prog X.w) A (.call (.ref fI) ⟨[.ref a, v], []⟩) R ⟨h, g, d, t, os⟩ := by
  have KX : X.K.In h := KB.keeps kB
  obtain ⟨fI', oc, od, osl, q, params, body, scope, kV, doc, pm, ct, an, cda, cc, TX, hi, ti, lk, hcd, ⟨ccl, cdd, vs, ccs, file, tf, lc, hvs, hfile⟩, ⟨cl, cld, csl, lcell⟩⟩ := T.ini
  obtain rfl : fI' = fI := by
    have := hi.symm.trans hfi
    simpa using this
  obtain ⟨msg, n, p0, p1, p2, p3, p4, p5, p6, p7, p8, p9, j, hline, hns, hnd, hnl, rfl, ⟨ar, har, harg⟩, hbind⟩ := TX.body
  obtain ⟨nm, qn, N, bs, bm, sn, sub, ab, col, dd, k0, k1, k2, k3, k5, hC, hbm⟩ := T.o.cls
  have hcl : PySem.W.clsIn X.K C = some { name := nm, bases := bs, mro := .ref C :: bm, ns := N, qualname := qn, hasDict := true, slotNames := sn, subclasses := sub, abstract := ab, collection := col, hasDel := false } := by unfold PySem.W.clsIn; rw [hC] <;> rfl
  have hCh := KX _ _ hC
  have xC : a ≠ C := fun z => by
    rw [z, hCh] at ha
    cases ha
  refine ks_codeAny_call_defAt (fd := ksFn "__init__" q params [.Expr (.Call (.Attribute (.Call (.Name "super" p0) [] [] p1) "__init__" p2) [.Constant (.str msg) j p3] [] p4) p5, .Assign [.Attribute (.Name "self" p6) f p7] (.Name n p8) p9] scope .none kV doc pm an (.ref cda) ct cc)
    (binds := ([("self", .ref a), (n, v)] : List (Str × Value))) room (KX _ _ lk) rfl lim (PySem.W.codeRec_of KX hcd) rfl (.of_eq (hbind _ _ _ _ _ _ _ _ _ _ _ _ rfl)) TX.cell ?_ ?_ TX.co TX.gen TX.kind
  · intro y hy
    rcases List.mem_cons.mp hy with rfl | hy
    · exact TX.self
    · rw [List.mem_singleton.mp hy]
      exact hnl
  intro h1 hns1 k1'
  have KX1 : X.K.In h1 := KX.keeps k1'
  have ha1 := k1' _ _ ha
  have look_self : (([("self", Value.ref a), (n, v)] : List (Str × Value)).reverse.lookup ("self" : Str)) = some (Value.ref a) := by
    show List.lookup ("self" : Str) [(n, v), ("self", Value.ref a)] = _
    have e : (("self" : Str) == n) = false := by simpa using fun z : ("self" : Str) = n => hns z.symm
    simp [List.lookup, e]
  have look_n : (([("self", Value.ref a), (n, v)] : List (Str × Value)).reverse.lookup n) = some v := by
    show List.lookup n [(n, v), ("self", Value.ref a)] = _
    simp [List.lookup]
  refine ks_wpAt_execs_cons (ks_wpAt_Expr_any ?_ (by show ((scope.kind == ScopeKind.module) && _) = false; rw [TX.kind]; rfl) (by rfl))
  refine ks_wpAt_MethodCall (ks_wpAt_super_base TX.sup TX.cls (by decide) rfl (KX1 _ _ lk) rfl har rfl (KX1 _ _ lc) rfl hvs hfile T.top ?_) (he_sup hline)
  refine ks_loadName_global TX.kind TX.sup (Calls.loadGlobal_builtin (glob.keeps k1') T.sb (blt.keeps k1') hboot ⟨rfl, ?_⟩)
  refine wpAny_loadName_free TX.kind TX.cls rfl ⟨_, KX1 _ _ lcell, rfl⟩ ?_
  refine wpAny_loadName_local (name := ar.arg) TX.kind (by rw [harg]; exact TX.self) hns1 (by rw [harg]; exact look_self) ?_
  have hC1 := KX1 _ _ hC
  refine ks_wpAny_isType_cls hC1 rfl ⟨rfl, ?_⟩
  refine ks_wpAny_call_super hC1 rfl ha1 rfl (fun c z => by cases z) (looks_mroIn KX1 T.sub) (fun h2 e2 k2 => ?_)
  have KX2 : X.K.In h2 := KX1.keeps k2
  have ha2 := k2 _ _ ha1
  have hup := T.up
  unfold ks_superIn at hup
  rw [hcl, Option.bind_some] at hup
  have I2 : InstAt h2 a (PySem.HandSPX.excO C t0) C none := ⟨ha2, rfl, rfl, trivial⟩
  refine kxs_getMethod kxs_ValueError e2 (looks_opaque KX2 T.opq) (l₀ := .ref C :: bm) (fun A Q E s k q => wpAny_bind ((looks_clsIn KX2 hcl) A _ E s k (wpAny_pure q))) rfl KX2 hup (I2.type.andThen (looks_subIn KX2 T.ve)) xC (by decide) ?_
  have hu3 : (h2.push (kxs_mw "ValueError.__init__" a)).get? h2.objs.size = some (kxs_mw "ValueError.__init__" a) := Heap.get?_push_size _ rfl
  have k3 : ∀ b o, h2.get? b = some o → (h2.push (kxs_mw "ValueError.__init__" a)).get? b = some o := fun b o e => Heap.get?_push_of_some _ e
  have ha3 := k3 _ _ ha2
  have KX3 := KX2.keeps k3
  generalize h2.push (kxs_mw "ValueError.__init__" a) = h3 at hu3 k3 ha3 KX3
  generalize h2.objs.size = u at hu3
  show wpAny _ _ (callWith p4 (.ref u) [] (backTo p4 (starEach [.Constant (.str msg) j p3] _)) []) _ _ _
  refine kxs_callWith (i := "ValueError.__init__") (x := a) rfl (Calls.evalArgs_plain (rest := []) ?_)
  refine Calls.spliced_cons (wpAny_Constant_str (k := j) (pos := p3) (Calls.spliced_nil ⟨hu3, ?_⟩))
  refine wpAny_call (codeAny_of_tree ?_)
  show wpAny _ _ (callAny (.ref u) ⟨[.str msg _], []⟩) _ _ _
  simp only [callAny]
  refine wpAny_bind (wpAny_load hu3 ?_)
  simp only [kxs_mw, show (Value.type "method-wrapper" == Value.type "method" || Value.type "method-wrapper" == Value.type "builtin_function_or_method" || Value.type "method-wrapper" == Value.type "method-wrapper") = true by decide, if_true]
  refine KFB.if_so (by decide) ?_
  refine wpAny_bind (check_bound_init PySem.F.excBase_ValueError.toExcCallFacts (KX3 _ _ hC) ha3 rfl ?_)
  refine wpAny_bind (wpAny_pure (wpAny_pure ?_))
  refine ⟨plainId_quiet PySem.F.excBase_ValueError.init.plain _, codeAny_builtin PySem.F.excBase_ValueError.initEntry ?_⟩
  refine exc_init_tree (cls := .ref C) (t0 := t0) (dv := none) (c2 := .none) (c3 := .none) (b4 := .bool false) ha3 (by show 1 ≤ 2 ^ 24; decide) fun h4 k4 ha4 _ => ?_
  have kO : ∀ b o, b ≠ a → h.get? b = some o → h4.get? b = some o := fun b o hb e => k4 b o hb (k3 _ _ (k2 _ _ (k1' _ _ e)))
  show PySem.wpAt _ _ _ (execs [.Assign [.Attribute (.Name "self" p6) f p7] (.Name n p8) p9] _) _ _ _
  have aL : a ≠ h.objs.size := Nat.ne_of_lt (Heap.lt_size ha)
  have hns4 : h4.Ns h.objs.size (fun x => ([("self", Value.ref a), (n, v)] : List (Str × Value)).reverse.lookup x) := by
    obtain ⟨oL, es, ep, e, r⟩ := hns1
    exact ⟨oL, es, ep, k4 _ _ (fun z => aL z.symm) (k3 _ _ (k2 _ _ e)), r⟩
  refine ks_wpAt_execs_cons (ks_wpAt_Assign_Attr (PySem.wpAt_of_wpAny (wpAny_Name (wpAny_loadName_local TX.kind hnl hns4 look_n ?_) hnd)) (by rfl))
  refine wpAny_Name (wpAny_loadName_local TX.kind TX.self hns4 look_self ?_)
  have KX4 : X.K.In h4 := KB.keeps fun b o e => kO b o (fun z => by rw [z, nB] at e; cases e) (kB b o e)
  refine PySem.W.set_plain KX4 (ox := { cls := .ref C, dict := none, data := .fields #[.ref h3.objs.size, .none, .none, .none, .bool false, .none] }) (od := none) ⟨ha4, rfl, rfl, trivial⟩ T.o.sa ?_
  refine PySem.HandSPX.exc_osa KX4 ha4 hcl (show PySem.HandSPX.refsVE (.ref C :: bm) = true from hbm) rfl T.no (fun h' tk' dx k dn dne hx hn => ?_)
  refine PySem.wpAt_of_wpAny (wpAny_execs_nil (hq h' tk' dx _ (fun b o hb e => k b o hb (kO b o hb e)) (Nat.le_trans ?_ dn) dne hx hn))
  obtain ⟨oL, es, ep, e, r⟩ := hns4
  exact Nat.le_of_lt (Heap.lt_size e)
end
end Q3

namespace Q3
open PySem PySem.Spec PyProof.Rows L2 PySem.W
section
variable {X : Cx}
/-- x(e): an exception with its field -/
def tMkS (C : Addr) (f : Str) (te : TE) : L2.St → Hp → XK → Prop := fun σ H Q => te σ H fun v H1 => ∀ d, H1 d = none → Q (.ref C) (some d) (upd H1 d (.xd [(f, v)]))
theorem pmk_sup {C : Addr} {x f : Str} {e : Expr} {te : TE} {k : Nat} {p pos : Pos} (T : SupC X.prog X.K X.mg C x f) (hr : Room (k + 1) X.A) (hg : Gl X x) (ha : PE X e te)
    (hdb : (x == ("__debug__" : Str)) = false := by decide) (he : starEach [e] X.env = (false, eval e X.env) :: starEach [] X.env := by rfl) (hpl : (backTo pos (starEach [] X.env)).any (·.1) = false := by rfl) :
    PMk X (.Call (.Name x p) [e] [] pos) (tMkS C f te) := by
  intro pins s σ H Q I h
  obtain ⟨nm, q, N, bs, bm, sn, sub, ab, col, dd, k0, k1, k2, k3, k5, hC, hbm⟩ := T.o.cls
  obtain ⟨fI, oc, od, osl, q', params, body, scope, kV, doc, pm, ct, an, cda, cc, TX, hi, ti, rest'⟩ := id T.ini
  refine wpAny_Call_Name_kw (ld_glob I hg T.gl ?_ hdb)
  refine PySem.W.callWith_K (h₀ := X.base) I.ok.mod.kin T.o.kC (thn ((pa_cons ha pa_nil he).run pos pins s σ H (fun vs H1 => match vs with
    | [v] => ∀ d, H1 d = none → Q (.ref C) (some d) (upd H1 d (.xd [(f, v)]))
    | _ => False) I h) fun us s1 ⟨vs, H1, I1, r1, q1⟩ => ⟨I1.kIn, ?_⟩) he hpl
  obtain ⟨v, rfl⟩ : ∃ v, vs = [v] := by
    match vs, q1 with
    | [v], _ => exact ⟨v, rfl⟩
    | [], q => exact q.elim
    | _ :: _ :: _, q => exact q.elim
  have q1 : ∀ d, H1 d = none → Q (.ref C) (some d) (upd H1 d (.xd [(f, v)])) := q1
  obtain ⟨u, rfl, rv⟩ : ∃ u, us = [u] ∧ RelV v u := by
    cases r1 with
    | cons a b => cases b; exact ⟨_, rfl, a⟩
  show wpAny _ _ (call (.ref C) [u]) _ _ _
  obtain ⟨hp, g, dr, tk, os⟩ := s1
  have kk : ∀ b o, hp.get? b = some o → ((hp.push (PySem.W.kdv_tup [u])).push (PySem.HandSPX.excO C hp.objs.size)).get? b = some o := fun b o e => Heap.get?_push_of_some _ (Heap.get?_push_of_some _ e)
  have hget : ((hp.push (PySem.W.kdv_tup [u])).push (PySem.HandSPX.excO C hp.objs.size)).get? (hp.objs.size + 1) = some (PySem.HandSPX.excO C hp.objs.size) := by heap_get
  have I2 : Inv X pins σ (upd H1 (hp.objs.size + 1) (exo (hp.objs.size + 1) C none)) ⟨(hp.push (PySem.W.kdv_tup [u])).push (PySem.HandSPX.excO C hp.objs.size), g, dr, tk, os⟩ :=
    I1.laid (t' := tk) (a := hp.objs.size + 1) (o := exo (hp.objs.size + 1) C none) (h' := (hp.push (PySem.W.kdv_tup [u])).push (PySem.HandSPX.excO C hp.objs.size)) kk (Nat.le_succ _) (exo_ok hget)
  obtain ⟨mb, hb1, hb2⟩ := I.mod.blt
  have nB : X.base.get? (hp.objs.size + 1) = none := by
    cases z : X.base.get? (hp.objs.size + 1) with
    | none => rfl
    | some o => exact absurd (Heap.lt_size (show hp.get? (hp.objs.size + 1) = some o from I1.bk _ _ z)) (Nat.not_lt.mpr (Nat.le_succ hp.objs.size))
  refine wpAny_call (PySem.HandSPX.call_own PySem.F.excBase_ValueError (fun Y => PySem.HandSPX.refsVE_contains Y bm hbm) (I1.kIn _ _ hC) (PySem.W.looks_findIn I1.kIn hi) (fun self => PySem.W.bind_fn I1.kIn self ti) (by show 1 ≤ 2 ^ 24; decide) ?_)
  refine init_run (t0 := hp.objs.size) T hi I.ok.mod.kin (fun b o e => kk b o (I1.bk b o e)) nB (I.mod.glob.keeps fun b o e => kk b o (I1.bk b o e)) (hb1.keeps fun b o e => kk b o (I1.bk b o e)) ((hb2 _ (by decide)).trans PyProof.Rows.Boot.«super») ?_ (hr.make C [u] []).depth hget ?_
  · exact I2.nolimit
  intro h' tk' dx t1 k dn dne hx hn
  have dn0 : hp.objs.size ≤ dx := Nat.le_trans (Nat.le_trans (Nat.le_succ _) (Nat.le_of_lt (Heap.lt_size hget))) dn
  obtain ⟨G, g1', g2'⟩ := restrict h' fun b => decide (b ≠ hp.objs.size + 1)
  have gk : ∀ b, b ≠ hp.objs.size + 1 → G.get? b = h'.get? b := fun b hb => g1' b (decide_eq_true hb)
  have ge : G.get? (hp.objs.size + 1) = none := g2' _ (by simp)
  have nha : ∀ {b : Addr} {o : Obj}, hp.get? b = some o → b ≠ hp.objs.size + 1 := fun {b o} z => Nat.ne_of_lt (Nat.lt_of_lt_of_le (Heap.lt_size z) (Nat.le_succ _))
  have J : Inv X pins σ (upd H1 dx (.xd [(f, v)])) ⟨G, g, dr, tk', os⟩ :=
    I1.laid (t' := tk') (a := dx) (o := .xd [(f, v)]) (h' := G) (fun b o z => by rw [gk b (nha z)]; exact k b o (nha z) (kk b o z)) dn0
      ⟨_, hn.at fun o y => (gk dx dne).trans y, relO_put (fs := []) rv fun g => True.intro⟩
  refine ⟨rfl, ?_⟩
  show MkP X pins σ Q (.ref (hp.objs.size + 1)) ⟨h', g, dr, tk', os⟩
  refine ⟨hp.objs.size + 1, _, _, ⟨G, g, dr, tk', os⟩, upd H1 dx (.xd [(f, v)]), .ref C, some dx, rfl, J, fun b o z => ?_, ge, hx, ⟨rfl, rfl⟩, rfl, rfl, ?_, rfl, I1.bare, raises_own T.o.exC T.o.tyC, q1 dx (I1.hok.fresh dn0)⟩
  · by_cases hb : b = hp.objs.size + 1
    · rw [hb, ge] at z
      cases z
    · exact (gk b hb).symm.trans z
  · rw [upd_ne (Ne.symm dne)]
    exact I1.hok.fresh (Nat.le_succ _)
end
end Q3

namespace PM
open PySem PySem.Spec PyProof.Rows L2 Q2
/-! ### raise X(e) -/
def sRaise (c f : Str) (m : ME) : MS := fun Γ S => thenS Γ (m Γ S) fun v S1 => .ex c f v Γ S1
theorem pms_raise {X : Cx} {W : XW} {C : Addr} {x f : Str} {e : Expr} {m : ME} {k : Nat} {p pos pos' : Pos} (T : Q3.SupC X.prog X.K X.mg C x f) (tk : Takes X (wx X.mg W)) (hr : Room (k + 1) X.A) (hg : Gl X x) (h : PM X W e m) (hc : X.calm = true := by rfl)
    (hdb : (x == ("__debug__" : Str)) = false := by decide) (he : starEach [e] X.env = (false, eval e X.env) :: starEach [] X.env := by rfl) (hpl : (backTo pos (starEach [] X.env)).any (·.1) = false := by rfl) :
    PMS X W (.Raise (some (.Call (.Name x p) [e] [] pos)) none pos') (sRaise x f m) := by
  refine ps_imp (ps_raise hc tk (Q3.pmk_sup T hr hg h hdb he hpl)) fun D σ H ⟨ρ, Γ, S, R, G, q⟩ => ?_
  refine ⟨ρ, Γ, S, R, G, AftS.bind G q fun v S1 ρ1 H1 w E1 R1 r1 q1 => fun d hd => ?_⟩
  obtain ⟨E2, R2⟩ := R1.own (o := .xd [(f, w)]) hd
  exact ⟨x, d, T.gl, rfl, q1 ρ1 _ σ w d E2 R2 ((G.ext E1).ext E2) (r1.ext E2) upd_same⟩
end PM

/-! try with any row of clauses, each with a name or without -/
namespace Q3
open PySem PySem.Spec PyProof.Rows L2 PySem.W
abbrev Clause := Value × Option Nat × (Addr → Value → Option Addr → TS)
def behind : Option Nat → Ends → Ends
  | none, D => D
  | some i, D => { nx := fun σ H => D.nx (σ.set i none) H, rt := D.rt, bk := fun σ H => D.bk (σ.set i none) H, ct := fun σ H => D.ct (σ.set i none) H }
def named : Option Nat → Addr → L2.St → L2.St
  | none, _, σ => σ
  | some i, a, σ => σ.set i (some (.ref a))
/-- what the clauses wish, from the first one on -/
def wMix (K : PySem.W.Frag) (Wout : WX) (D : Ends) : List Clause → WX
  | [] => Wout
  | (c, o, ts) :: r => fun cls d σ H => ∃ b, PySem.W.exmOne K cls c = some b ∧ (b = true → ∀ a, H a = none → ts a cls d (behind o D) (named o a σ) H) ∧ (b = false → wMix K Wout D r cls d σ H)
inductive ClOk (X : Cx) : List ExceptHandler → List Clause → Prop
  | nil : ClOk X [] []
  | plain {x : Str} {c : Value} {ts : Addr → Value → Option Addr → TS} {st : Stmt} {suite : List Stmt} {np p : Pos} {hs : List ExceptHandler} {l : List Clause} (nm : Names X x c)
      (su : ∀ (a : Addr) (oe : Obj) (cls : Value) (d : Option Addr) (pn : List (Addr × Obj)), Zc cls d oe → (∃ vs, oe.data = .fields vs) → PSs (X.suite a ((a, oe) :: pn)) (st :: suite) (ts a cls d)) (rest : ClOk X hs l) :
      ClOk X (.ExceptHandler (some (.Name x np)) none (st :: suite) p :: hs) ((c, none, ts) :: l)
  | bound {x n : Str} {i : Nat} {c : Value} {ts : Addr → Value → Option Addr → TS} {st : Stmt} {suite : List Stmt} {np p : Pos} {hs : List ExceptHandler} {l : List Clause} (nm : Names X x c) (nd : X.N.Nodup) (ix : X.N[i]? = some n) (lo : X.env.kindOf n = some .local)
      (su : ∀ (a : Addr) (oe : Obj) (cls : Value) (d : Option Addr) (pn : List (Addr × Obj)), Zc cls d oe → (∃ vs, oe.data = .fields vs) → PSs (X.suite a ((a, oe) :: pn)) (st :: suite) (ts a cls d)) (rest : ClOk X hs l) :
      ClOk X (.ExceptHandler (some (.Name x np)) (some n) (st :: suite) p :: hs) ((c, some i, ts) :: l)
section
variable {X : Cx}
theorem name_at {Y : Cx} {pins : List (Addr × Obj)} {σ : L2.St} {H : Hp} {s : Shared} {x : Str} {c : Value} {np : Pos} {Q : Value → Shared → Prop} {E : Value → Shared → Prop} (I : Inv Y pins σ H s) (nm : Names Y x c) (q : Q c s) : wpAny (model Y.prog Y.w) Y.A (eval (.Name x np) Y.env) Q E s := by
  obtain ⟨g, db, m | ⟨m, v, z⟩⟩ := nm
  · exact ld_glob I g m q db
  · exact ld_blt I g m v q z db
/-- the clauses, one after the other -/
theorem clauses {pins : List (Addr × Obj)} {Wout : WX} {D : Ends} {a : Addr} {B : Heap} {sI s : Shared} {h3 : Heap} {σ : L2.St} {H : Hp} {cls : Value} {d : Option Addr} (hs : X.stack = X.env :: X.outer) (hf : X.env.frame = some X.env.locals) (tk : Takes X Wout)
    (J : Inv X pins σ H sI) (fl : HandSPX.FlyingZ B (X.env :: X.outer) a (Zc cls d) h3) (na : H a = none) (nL : a ≠ X.env.locals) (nF : a ∉ X.fs)
    (back : ∀ h, HandSPX.FlyingZ B (X.env :: X.outer) a (Zc cls d) h → h3.UpToSlots h → Inv X pins σ H { s with heap := h })
    (out : ∀ h, HandSPX.HeldZ B (X.env :: X.outer) a (Zc cls d) X.env.locals h → h3.UpToSlots h → Wout cls d σ H → XE X Wout (.ref a) { s with heap := h }) (up0 : h3.UpToSlots h3) :
    ∀ {hds : List ExceptHandler} {l : List Clause}, ClOk X hds l → wMix X.K Wout D l cls d σ H → wpAny (model X.prog X.w) X.A (handleBy (.ref a) X.env hds) (SP X pins D) X.xe { s with heap := h3 } := by
  intro hds l hk
  have ok := J.ok
  obtain ⟨oe, vs, he, hz, hd⟩ := fl.there
  have S0 := (back h3 fl up0).suite he hd na nL nF
  induction hk with
  | nil =>
    intro w
    refine wpAny_handleBy_nil ?_
    obtain ⟨_, _, _, oe1, vs1, T, oT, ts1, g1, g2, g3, g4, _⟩ := id fl
    unfold PySem.passOn
    refine wpAny_bind (wpAny_field g1 g3 g4 ?_)
    rw [if_neg (by simp)]
    have go : wpAny (model X.prog X.w) X.A (setFlight (.ref a) X.env.frame) (fun _ s4 => wpAny (model X.prog X.w) X.A (throw (.ref a) : Sem Flow) (SP X pins D) X.xe s4) X.xe { s with heap := h3 } := by
      rw [hf]
      exact HandSPX.setFlight_upZ fl fun h4 held up => wpAny_throw (tk _ _ (out h4 held up w))
    first
      | exact wpAny_bind (wpAny_pure (wpAny_bind go))
      | exact wpAny_bind go
  | @plain x c ts st suite np p hs' l' nm su rest ih =>
    intro w
    obtain ⟨b, hb, yes, no⟩ := w
    refine wpAny_handleBy_cons (codeAny_handlers_test ?_) (by intro q; cases q)
    have LT : Looks (model X.prog X.w) h3 (typeOf (.ref a)) cls := fun A Q E s k q => wpAny_typeOf_ref (k _ _ he) (by rw [hz.1]; exact q)
    have LM := exm_one (M := model X.prog X.w) ((back h3 fl up0).kIn) LT hb
    refine name_at (Y := X.suite a ((a, oe) :: (X.pn ++ pins))) S0 nm (LM.here ?_)
    cases b with
    | false => exact ih (no rfl)
    | true =>
      refine codeAny_handlers_suite (HandSPX.lands_againZ fl fun h4 fl4 up4 => ?_)
      obtain ⟨oe4, vs4, he4, hz4, hd4⟩ := fl4.there
      have S4 := (back h4 fl4 up4).suite he4 hd4 na nL nF
      refine wpAny_mono ((su a oe4 cls d (X.pn ++ pins) hz4 ⟨_, hd4⟩).run [] _ _ H _ S4 (yes rfl a na)) (fun fl' s6 hsp => ?_) (fun _ _ z => z.elim)
      cases fl' with
      | ret u =>
        obtain ⟨v6, σ6, H6, S6, r6, q6⟩ := hsp
        exact ⟨_, _, _, S6.unsuite ok, r6, q6⟩
      | next =>
        obtain ⟨σ6, H6, S6, q6⟩ := hsp
        exact ⟨_, _, S6.unsuite ok, q6⟩
      | brk =>
        obtain ⟨σ6, H6, S6, q6⟩ := hsp
        exact ⟨_, _, S6.unsuite ok, q6⟩
      | cont =>
        obtain ⟨σ6, H6, S6, q6⟩ := hsp
        exact ⟨_, _, S6.unsuite ok, q6⟩
  | @bound x n i c ts st suite np p hs' l' nm nd ix lo su rest ih =>
    intro w
    obtain ⟨b, hb, yes, no⟩ := w
    refine wpAny_handleBy_cons (codeAny_handlers_test ?_) (by intro q; cases q)
    have LT : Looks (model X.prog X.w) h3 (typeOf (.ref a)) cls := fun A Q E s k q => wpAny_typeOf_ref (k _ _ he) (by rw [hz.1]; exact q)
    have LM := exm_one (M := model X.prog X.w) ((back h3 fl up0).kIn) LT hb
    refine name_at (Y := X.suite a ((a, oe) :: (X.pn ++ pins))) S0 nm (LM.here ?_)
    cases b with
    | false => exact ih (no rfl)
    | true =>
      refine codeAny_handlers_suite_as (HandSPX.lands_againZ fl fun h4 fl4 up4 => ?_)
      obtain ⟨oe4, vs4, he4, hz4, hd4⟩ := fl4.there
      have S4 := (back h4 fl4 up4).suite he4 hd4 na nL nF
      refine store_ok (X := X.suite a ((a, oe4) :: (X.pn ++ pins))) (v := .ref a) S4 nd ix (.inl lo) rfl (fun s5 S5 => ?_) (.inr lo)
      refine wpAny_mono ((su a oe4 cls d (X.pn ++ pins) hz4 ⟨_, hd4⟩).run [] s5 _ H _ S5 (yes rfl a na)) (fun fl' s6 hsp => ?_) (fun _ _ z => z.elim)
      have gone : ∀ {σ6 : L2.St} {H6 : Hp} {Q : Shared → Prop}, Inv (X.suite a ((a, oe4) :: (X.pn ++ pins))) [] σ6 H6 s6 → (∀ s7, Inv X pins (σ6.set i none) H6 s7 → Q s7) →
          wpAny (model X.prog X.w) X.A (do bindName X.env n .none; unbindBehindTheSuite X.env n p) (fun _ s7 => Q s7) X.xe s6 := fun S6 hq => gone_ok (S6.unsuite ok) nd ix lo hq
      cases fl' with
      | ret u =>
        obtain ⟨v6, σ6, H6, S6, r6, q6⟩ := hsp
        exact gone S6 fun s7 J7 => ⟨_, _, _, J7, r6, q6⟩
      | next =>
        obtain ⟨σ6, H6, S6, q6⟩ := hsp
        exact gone S6 fun s7 J7 => ⟨_, _, J7, q6⟩
      | brk =>
        obtain ⟨σ6, H6, S6, q6⟩ := hsp
        exact gone S6 fun s7 J7 => ⟨_, _, J7, q6⟩
      | cont =>
        obtain ⟨σ6, H6, S6, q6⟩ := hsp
        exact gone S6 fun s7 J7 => ⟨_, _, J7, q6⟩
theorem ps_try_mix {Wout : WX} {body : List Stmt} {h₀ : ExceptHandler} {hds : List ExceptHandler} {l : List Clause} {pos : Pos} {tb : WX → TS} (hs : X.stack = X.env :: X.outer) (hf : X.env.frame = some X.env.locals) (tk : Takes X Wout)
    (hb : ∀ (W : WX) (pn : List (Addr × Obj)) (xe : Value → Shared → Prop), Takes (X.tr pn xe) W → PassesOwn (model X.prog X.w) X.A X.env xe → PSs (X.tr pn xe) body (tb W))
    (hh : ClOk X (h₀ :: hds) l) : PS X (.Try body (h₀ :: hds) [] [] pos) (fun D σ H => tb (wMix X.K Wout D l) D σ H) := by
  refine ⟨fun pins s σ H D I h => ?_⟩
  have ok := I.ok
  have fr : X.A.frames = some (X.env :: X.outer) := by rw [ok.frames, hs]
  -- the body; what leaves it comes to the clauses
  let xe : Value → Shared → Prop := fun e s₁ => wpAny (model X.prog X.w) X.A (noteFrame e X.env) (fun _ s₂ => wpAny (model X.prog X.w) X.A (setFlight e none) (fun _ s₃ => wpAny (model X.prog X.w) X.A (handleBy e X.env (h₀ :: hds)) (SP X pins D) X.xe s₃) X.xe s₂) X.xe s₁
  have caught : Takes (X.tr (X.pn ++ pins) xe) (wMix X.K Wout D l) := fun u s' xx => by
    obtain ⟨a, B, sI, pins', σ', H', cls, d, rfl, J', nb, up, sky, na, os, ag, w⟩ := xx
    have J : Inv X pins σ' H' sI := J'.ofTry ok
    have sky' : Sky B (X.env :: X.outer) a (Zc cls d) X.env.locals s'.heap := by rw [← hs]; exact sky
    show wpAny (model X.prog X.w) X.A (noteFrame (.ref a) X.env) _ _ _
    refine Sky.land Zc.steady fr hf sky' fun h3 fl3 up3 => ?_
    obtain ⟨oe3, vs3, he3, hz3, hd3⟩ := fl3.there
    have off : a ∉ frs (X.env :: X.outer) := fun hm => by
      obtain ⟨_, o', e', hnf⟩ := fl3.2.2.1.mem hm
      rw [he3] at e'
      cases e'
      exact hnf _ hd3
    have nL : a ≠ X.env.locals := fun z => off (List.mem_filterMap.mpr ⟨X.env, List.mem_cons_self, by rw [hf, z]⟩)
    have nF : a ∉ X.fs := fun hm => by
      obtain ⟨e, he, q⟩ := List.mem_filterMap.mp hm
      exact off (List.mem_filterMap.mpr ⟨e, List.mem_cons_of_mem _ he, q⟩)
    refine clauses (s := s') hs hf tk J fl3 na nL nF (fun h fl u => J.landed nb fl.1 ((up.trans up3).trans u) os ag) (fun h held u w' => ?_) (fun b o e _ => ⟨o.slots, e⟩) hh w
    exact ⟨a, B, sI, pins, σ', H', cls, d, rfl, J, nb, (up.trans up3).trans u, .inr (.inr (by rw [hs]; exact held)), na, os, ag, w'⟩
  refine wpAny_Try_except (wpAny_mono ((hb (wMix X.K Wout D l) (X.pn ++ pins) xe caught PassesOwn.looking).run [] s σ H D (I.toTry _) h) (fun f s1 hsp => ?_) (fun e s1 he => he))
  cases f with
  | ret u =>
    obtain ⟨v, σ', H', J', r, q⟩ := hsp
    exact ⟨v, σ', H', J'.ofTry ok, r, q⟩
  | next =>
    obtain ⟨σ', H', J', q⟩ := hsp
    exact wpAny_execs_nil ⟨σ', H', J'.ofTry ok, q⟩
  | brk =>
    obtain ⟨σ', H', J', q⟩ := hsp
    exact ⟨σ', H', J'.ofTry ok, q⟩
  | cont =>
    obtain ⟨σ', H', J', q⟩ := hsp
    exact ⟨σ', H', J'.ofTry ok, q⟩
end
end Q3

namespace PM
open PySem PySem.Spec PyProof.Rows L2 Q2
/-! ### try .. except -/
/-- a clause takes what a class raises: leaves under one base -/
def exTab (base : Str) (L : List Str) (c x : Str) : Option Bool := if c ∈ L then (if x = base then some true else if x ∈ L then some (decide (c = x)) else none) else none
/-- behind a suite: its name goes, and nothing is raised -/
def cutS (i : Nat) : Rs → Rs
  | .nx Γ S => .nx (Γ.set i none) S
  | .bk Γ S => .bk (Γ.set i none) S
  | .ct Γ S => .ct (Γ.set i none) S
  | .rt v S => .rt v S
  | _ => .bad
def noXS : Rs → Rs
  | .ex _ _ _ _ _ => .bad
  | r => r
structure Cl where
  x : Str
  o : Option Nat
  su : Addr → Addr → MS
def tryCl (tab : Str → Str → Option Bool) (c f : Str) (v : Va) (Γ : En) (S : Sto) : List Cl → Rs
  | [] => .ex c f v Γ S
  | k :: r => match tab c k.x with
    | some true => match k.o with
      | none => noXS (k.su 0 0 Γ S)
      | some i => cutS i (k.su 0 0 (Γ.set i (some (.exc 0 0 f v))) S)
    | some false => tryCl tab c f v Γ S r
    | none => .bad
def sTry (tab : Str → Str → Option Bool) (mb : MS) (cl : List Cl) : MS := fun Γ S => match mb Γ S with
  | .ex c f v Γ1 S1 => tryCl tab c f v Γ1 S1 cl
  | r => r
/-- a suite tells the same wherever the exception lies -/
def Free (i : Nat) (su : Addr → Addr → MS) : Prop := ∀ (a d : Addr) (f : Str) (v : Va) (Γ : En) (S : Sto), cutS i (su a d (Γ.set i (some (.exc a d f v))) S) = cutS i (su 0 0 (Γ.set i (some (.exc 0 0 f v))) S)
/-- the clauses of a try, with what they tell -/
inductive ClM (X : Cx) (tab : Str → Str → Option Bool) : List ExceptHandler → List Cl → Prop
  | nil : ClM X tab [] []
  | plain {x : Str} {C : Value} {m : MS} {st : Stmt} {suite : List Stmt} {np p : Pos} {hs : List ExceptHandler} {l : List Cl} (nm : Names X x C) (gl : X.mg x = some C)
      (ex : ∀ c cls b, tab c x = some b → X.mg c = some cls → PySem.W.exmOne X.K cls C = some b)
      (su : ∀ (a : Addr) (oe : Obj) (cls : Value) (d : Option Addr) (pn : List (Addr × Obj)), Zc cls d oe → (∃ vs, oe.data = .fields vs) → PMSs (X.suite a ((a, oe) :: pn)) WF (st :: suite) m) (rest : ClM X tab hs l) :
      ClM X tab (.ExceptHandler (some (.Name x np)) none (st :: suite) p :: hs) (⟨x, none, fun _ _ => m⟩ :: l)
  | bound {x n : Str} {i : Nat} {C : Value} {m : Addr → Addr → MS} {st : Stmt} {suite : List Stmt} {np p : Pos} {hs : List ExceptHandler} {l : List Cl} (nm : Names X x C) (gl : X.mg x = some C) (nd : X.N.Nodup) (ix : X.N[i]? = some n) (lo : X.env.kindOf n = some .local)
      (ex : ∀ c cls b, tab c x = some b → X.mg c = some cls → PySem.W.exmOne X.K cls C = some b) (fr : Free i m)
      (su : ∀ (a dd : Addr) (oe : Obj) (c : Str) (cls : Value) (pn : List (Addr × Obj)), tab c x = some true → X.mg c = some cls → Zc cls (some dd) oe → (∃ vs, oe.data = .fields vs) → PMSs (X.suite a ((a, oe) :: pn)) WF (st :: suite) (m a dd)) (rest : ClM X tab hs l) :
      ClM X tab (.ExceptHandler (some (.Name x np)) (some n) (st :: suite) p :: hs) (⟨x, some i, m⟩ :: l)
/-- a wish by class names, of a wish by classes -/
def xwOf (mg : Str → Option Value) (W : WX) : XW := fun c dd σ H => ∀ cls, mg c = some cls → W cls (some dd) σ H
section
variable {X : Cx} {W : XW}
theorem takes_xw {pn : List (Addr × Obj)} {xe : Value → Shared → Prop} {V : WX} (tk : Takes (X.tr pn xe) V) : Takes (X.tr pn xe) (wx X.mg (xwOf X.mg V)) := tk.imp fun cls d σ H h => by
  obtain ⟨c, dd, h1, rfl, h2⟩ := h
  exact h2 cls h1
theorem AftS.noXS {K : KX} {W W' : XW} {D : Ends} {ρ : List Addr} {H : Hp} {r : Rs} (h : AftS K W D ρ H (noXS r)) : AftS K W' D ρ H r := by
  cases r with
  | ex c f v Γ S => exact h.elim
  | bad => exact h
  | nx Γ S => exact h
  | rt v S => exact h
  | bk Γ S => exact h
  | ct Γ S => exact h
/-- the exception's slot is emptied -/
theorem RE.gone {K : KX} {ρ : List Addr} {H : Hp} {Γ : En} {σ : L2.St} (G : RE K ρ H Γ σ) (i : Nat) : RE K ρ H (Γ.set i none) (σ.set i none) := by
  refine ⟨by simp [G.len], fun j v e => ?_⟩
  rw [List.getElem?_set] at e
  by_cases z : i = j
  · rw [if_pos z] at e
    split at e <;> cases e
  · rw [if_neg z] at e
    rw [List.getElem?_set_ne z]
    exact G.at_ j v e
theorem AftS.cutS {K : KX} {W W' : XW} {D : Ends} {ρ : List Addr} {H : Hp} {r : Rs} {i : Nat} (h : AftS K W D ρ H (cutS i r)) : AftS K W' (Q3.behind (some i) D) ρ H r := by
  cases r with
  | ex c f v Γ S => exact h.elim
  | bad => exact h
  | nx Γ S => exact fun ρ' H' σ' E R G => h ρ' H' _ E R (G.gone i)
  | rt v S => exact h
  | bk Γ S => exact fun ρ' H' σ' E R G => h ρ' H' _ E R (G.gone i)
  | ct Γ S => exact fun ρ' H' σ' E R G => h ρ' H' _ E R (G.gone i)
/-- the readings of the suites, for the rule of clauses -/
def tsOf (X : Cx) (tab : Str → Str → Option Bool) (k : Cl) : Addr → Value → Option Addr → TS := fun a cls d D σ H =>
  ∃ c dd f v w ρ Γ S, tab c k.x = some true ∧ X.mg c = some cls ∧ d = some dd ∧ RS (kxOf X) ρ S H ∧ RE (kxOf X) ρ H Γ σ ∧ Rv (kxOf X) ρ H v w ∧ H dd = some (.xd [(f, w)]) ∧ AftS (kxOf X) WF D ρ H (k.su a dd Γ S)
theorem cl_ok {tab : Str → Str → Option Bool} {hs : List ExceptHandler} {l : List Cl} (h : ClM X tab hs l) : ∃ l' : List Q3.Clause, Q3.ClOk X hs l' ∧ ∀ (W : XW) (D : Ends) (c f : Str) (v : Va) (Γ : En) (S : Sto) (ρ : List Addr) (H : Hp) (σ : L2.St) (w : V) (dd : Addr) (cls : Value), X.mg c = some cls → RS (kxOf X) ρ S H → RE (kxOf X) ρ H Γ σ → Rv (kxOf X) ρ H v w → H dd = some (.xd [(f, w)]) →
    AftS (kxOf X) W D ρ H (tryCl tab c f v Γ S l) → Q3.wMix X.K (wx X.mg W) D l' cls (some dd) σ H := by
  induction h with
  | nil => exact ⟨[], .nil, fun W D c f v Γ S ρ H σ w dd cls hc R G r e q => ⟨c, dd, hc, rfl, q ρ H σ w dd R.refl R G r e⟩⟩
  | @plain x C m st suite np p hs l nm gl ex su rest ih =>
    obtain ⟨l', h1, h2⟩ := ih
    refine ⟨(C, none, tsOf X tab ⟨x, none, fun _ _ => m⟩) :: l', .plain nm (fun a oe cls d pn hz hf => ?_) h1, fun W D c f v Γ S ρ H σ w dd cls hc R G r e q => ?_⟩
    · refine pss_imp (su a oe cls d pn hz hf) fun D σ H ⟨c, dd, f, v, w, ρ, Γ, S, _, _, _, R, G, _, _, q⟩ => ⟨ρ, Γ, S, R, G, q⟩
    · unfold tryCl at q
      cases t : tab c x with
      | none => simp only [t] at q; exact q.elim
      | some b =>
        refine ⟨b, ex c cls b t hc, fun hb a na => ?_, fun hb => ?_⟩
        · subst hb
          simp only [t] at q
          exact ⟨c, dd, f, v, w, ρ, Γ, S, t, hc, rfl, R, G, r, e, q.noXS⟩
        · subst hb
          simp only [t] at q
          exact h2 W D c f v Γ S ρ H σ w dd cls hc R G r e q
  | @bound x n i C m st suite np p hs l nm gl nd ix lo ex fr su rest ih =>
    obtain ⟨l', h1, h2⟩ := ih
    refine ⟨(C, some i, tsOf X tab ⟨x, some i, m⟩) :: l', .bound nm nd ix lo (fun a oe cls d pn hz hf => ?_) h1, fun W D c f v Γ S ρ H σ w dd cls hc R G r e q => ?_⟩
    · cases d with
      | none => exact pss_imp pss_never fun D σ H ⟨c, dd, f, v, w, ρ, Γ, S, _, _, z, _⟩ => nomatch z
      | some d0 =>
        by_cases z : ∃ c, tab c x = some true ∧ X.mg c = some cls
        · obtain ⟨c, z1, z2⟩ := z
          refine pss_imp (su a d0 oe c cls pn z1 z2 hz hf) fun D σ H ⟨c', dd, f, v, w, ρ, Γ, S, _, _, ed, R, G, _, _, q⟩ => ⟨ρ, Γ, S, R, G, ?_⟩
          cases ed
          exact q
        · exact pss_imp pss_never fun D σ H ⟨c, dd, f, v, w, ρ, Γ, S, z1, z2, _⟩ => absurd ⟨c, z1, z2⟩ z
    · unfold tryCl at q
      cases t : tab c x with
      | none => simp only [t] at q; exact q.elim
      | some b =>
        refine ⟨b, ex c cls b t hc, fun hb a na => ?_, fun hb => ?_⟩
        · subst hb
          simp only [t] at q
          rw [← fr a dd f v Γ S] at q
          refine ⟨c, dd, f, v, w, ρ, Γ.set i (some (.exc a dd f v)), S, t, hc, rfl, R, ?_, r, e, q.cutS⟩
          exact G.set i ⟨rfl, R.noxd e, w, e, r⟩
        · subst hb
          simp only [t] at q
          exact h2 W D c f v Γ S ρ H σ w dd cls hc R G r e q
theorem pms_try {tab : Str → Str → Option Bool} {body : List Stmt} {mb : MS} {h₀ : ExceptHandler} {hds : List ExceptHandler} {cl : List Cl} {pos : Pos} (hs : X.stack = X.env :: X.outer) (hf : X.env.frame = some X.env.locals) (tk : Takes X (wx X.mg W))
    (hb : ∀ (V : XW) (pn : List (Addr × Obj)) (xe : Value → Shared → Prop), Takes (X.tr pn xe) (wx X.mg V) → PassesOwn (model X.prog X.w) X.A X.env xe → PMSs (X.tr pn xe) V body mb)
    (hh : ClM X tab (h₀ :: hds) cl) : PMS X W (.Try body (h₀ :: hds) [] [] pos) (sTry tab mb cl) := by
  obtain ⟨l', h1, h2⟩ := cl_ok hh
  refine ps_imp (Q3.ps_try_mix (tb := fun V => tMS (kxOf X) (xwOf X.mg V) mb) hs hf tk (fun V pn xe tk' po => hb (xwOf X.mg V) pn xe (takes_xw tk') po) h1) fun D σ H ⟨ρ, Γ, S, R, G, q⟩ => ?_
  refine ⟨ρ, Γ, S, R, G, ?_⟩
  unfold sTry at q
  cases e : mb Γ S with
  | ex c f v Γ1 S1 =>
    rw [e] at q
    exact fun ρ' H' σ' w d E R' G' r hd cls hc => h2 W D c f v Γ1 S1 ρ' H' σ' w d cls hc R' G' r hd (q.shift E)
  | bad => rw [e] at q; exact q
  | nx Γ' S' => rw [e] at q; exact q
  | rt v S' => rw [e] at q; exact q
  | bk Γ' S' => rw [e] at q; exact q
  | ct Γ' S' => rw [e] at q; exact q
/-! ### error.f in a suite -/
def mErr (i : Nat) (f' : Str) (a d : Addr) : ME := fun Γ S => match Γ[i]? with
  | some (some (.exc a' d' f v)) => if a' = a ∧ d' = d ∧ f = f' then .ok v S else .bad
  | _ => .bad
theorem mErr_set {i : Nat} {f' f : Str} {a d : Addr} {Γ : En} {S : Sto} {v : Va} : mErr i f' a d (Γ.set i (some (.exc a d f v))) S = if i < Γ.length ∧ f = f' then .ok v S else .bad := by
  unfold mErr
  rw [List.getElem?_set]
  by_cases h : i < Γ.length
  · simp [h]
  · simp [h]
theorem pm_err {i : Nat} {a dd C : Addr} {oe : Obj} {pn : List (Addr × Obj)} {y n : Str} {pos p : Pos} {W : XW} (T : XfC X.K C) (hno : PySem.W.findIn X.K (.ref C) n = some none) (hz : Zc (.ref C) (some dd) oe) (hf : ∃ vs, oe.data = .fields vs)
    (hv : PE (X.suite a ((a, oe) :: pn)) (.Name y p) (tVar i)) (hb : attributeBase (.Name y p) n X.env (eval (.Name y p) X.env) = eval (.Name y p) X.env := by rfl) :
    PM (X.suite a ((a, oe) :: pn)) W (.Attribute (.Name y p) n pos) (mErr i n a dd) := by
  refine pe_imp (pe_xf T hno hz hf hv) fun σ H Q ⟨ρ, Γ, S, R, G, q⟩ => ?_
  unfold mErr at q
  cases e : Γ[i]? with
  | none => rw [e] at q; exact q.elim
  | some o =>
    cases o with
    | none => rw [e] at q; exact q.elim
    | some u =>
      rw [e] at q
      cases u with
      | exc a' d' f v =>
        simp only at q
        by_cases c : a' = a ∧ d' = dd ∧ f = n
        · rw [if_pos c] at q
          obtain ⟨rfl, rfl, rfl⟩ := c
          obtain ⟨w, h1, h2, h3, u, h4, h5⟩ := G.at_ i _ e
          exact ⟨w, h1, h2, rfl, d', _, u, rfl, h4, by simp [List.lookup], q ρ H u R.refl R h5⟩
        · rw [if_neg c] at q
          exact q.elim
      | _ => exact q.elim
end
end PM

/-! sum(lists, list), from the semantics up -/
namespace LZ
open PySem PySem.Spec PyProof.Rows
theorem args_sum2 (a b : Value) : argsOk "sum" ⟨[a, b], []⟩ := by unfold argsOk; kernel_rfl
theorem sub_list_str : isSubtype (.type "list") (.type "str") = pure false := by rw [isSubtype_type]; kernel_rfl
theorem sub_list_bytes : isSubtype (.type "list") (.type "bytes") = pure false := by rw [isSubtype_type]; kernel_rfl
theorem sub_list_bytearray : isSubtype (.type "list") (.type "bytearray") = pure false := by rw [isSubtype_type]; kernel_rfl
def restR (row : Nat → List Value) (i : Nat) : Nat → List Value
  | 0 => []
  | k + 1 => row i ++ restR row (i + 1) k
section
variable {prog : Program} {w : World} {A : Around} {E : Value → Shared → Prop} {s : Shared}
theorem add_raw {l b : Addr} {vs ws : List Value} {Q : Value → Shared → Prop} (hl : s.heap.IsList l vs.toArray) (hb : s.heap.IsList b ws.toArray) (hsz : vs.length + ws.length ≤ sizeLine)
    (h : Q (.ref s.heap.objs.size) { s with heap := s.heap.push { cls := .type "list", data := .seq (vs ++ ws).toArray } }) : wpAny (model prog w) A (binaryOp .Add (.ref l) (.ref b)) Q E s := by
  obtain ⟨⟨cls, dd, data, sl⟩, ho, hc, n, hd⟩ := id hl
  obtain ⟨⟨cls2, dd2, data2, sl2⟩, ho2, hc2, n2, hd2⟩ := id hb
  simp only at hc hd hc2 hd2
  subst hc hd hc2 hd2
  have e : vs.toArray ++ ws.toArray = (vs ++ ws).toArray := by simp
  refine concat_meets ⟨_, ho, rfl⟩ ⟨_, ho2, rfl⟩ noFill_list_add seq_list_add PySem.F.slot_list_add PySem.F.entry_list_add (PySem.F.args_list_add_2 _ _) (list_addW l b vs.toArray ws.toArray n n2 dd dd2 sl sl2 (by simpa using hsz)) ⟨ho, ho2, ?_⟩
  rw [e]
  exact h
theorem sum_rows {R : Result → Shared → Prop} {I : Addr} {fp wr : List Addr} {n : Nat} {P : Nat → Value → Prop} {St : Nat → Heap → Prop} (W : Walks prog w A.in1 I fp wr n P St) (S : Addr) (hSf : S ∉ fp) (row : Nat → List Value) {h0 : Heap} (hwr : ∀ b ∈ wr, h0.objs.size ≤ b) (hfp : ∀ b ∈ fp, b < S) (hS0 : h0.objs.size ≤ S)
    (hrow : ∀ j v, j < n → P j v → ∃ p, v = .ref p ∧ h0.IsList p (row j).toArray) :
    ∀ (k i : Nat) (s : Shared) (T : Addr) (acc : List Value) (c : Nat), n - i = k → i ≤ n → St i s.heap → (∀ b o, h0.get? b = some o → s.heap.get? b = some o) → S < s.heap.objs.size → s.heap.get? S = some { cls := .type "list", dict := none, data := .seq #[.ref T] c, slots := #[] } →
    s.heap.IsList T acc.toArray → T ≠ S → T ∉ fp → acc.length + (restR row i k).length ≤ sizeLine →
    (∀ h' tk T', (∀ b o, h0.get? b = some o → h'.get? b = some o) → ((k = 0 ∧ T' = T ∧ ∀ o, s.heap.get? T = some o → h'.get? T = some o) ∨ (0 < k ∧ h0.objs.size ≤ T' ∧ ∃ c', h'.get? T' = some { cls := .type "list", data := .seq (acc ++ restR row i k).toArray c' })) → R (.ok (.ret (.ref T'))) { s with heap := h', toks := tk }) →
    codeAny (model prog w) A (.builtin "sum.loop" ⟨[.ref I, .ref S, rawInt 2, rawInt 0], []⟩) R s := by
  have hSw : S ∉ wr := fun h => hSf (W.sub _ h)
  have lt0 : ∀ {b : Addr} {o : Obj}, h0.get? b = some o → b ∉ wr ∧ b ≠ S := fun {b o} e => ⟨fun z => absurd (Heap.lt_size e) (Nat.not_lt.mpr (hwr b z)), fun z => absurd (Heap.lt_size e) (Nat.not_lt.mpr (by rw [z]; exact hS0))⟩
  intro k
  induction k with
  | zero =>
    intro i s T acc c hk hi hst kp hSs hS hT hTS hTf hz hR
    have hin : i = n := by omega
    subst hin
    refine codeAny_builtin F.entry_sum_loop ?_
    rw [Around.under_plainId F.plain_sum_loop _]
    show wpAny _ A.in1 (seqItems? (.ref S) >>= _) _ _ s
    refine wpAny_bind (wpAny_seqItems hS rfl ?_)
    show wpAny _ A.in1 (tryCatch (pyNext (.ref I)) _ >>= _) _ _ s
    refine wpAny_bind (wpAny_tryCatch (W.done s _ _ hst fun h' tk hk' => ?_))
    exact wpAny_pure (hR h' tk T (fun b o e => hk' b o (lt0 e).1 (kp b o e)) (.inl ⟨rfl, rfl, fun o e => hk' T o (fun z => hTf (W.sub _ z)) e⟩))
  | succ k ih =>
    intro i s T acc c hk hi hst kp hSs hS hT hTS hTf hz hR
    have hlt : i < n := by omega
    refine codeAny_builtin F.entry_sum_loop ?_
    rw [Around.under_plainId F.plain_sum_loop _]
    show wpAny _ A.in1 (seqItems? (.ref S) >>= _) _ _ s
    refine wpAny_bind (wpAny_seqItems hS rfl ?_)
    show wpAny _ A.in1 (tryCatch (pyNext (.ref I)) _ >>= _) _ _ s
    refine wpAny_bind (wpAny_tryCatch (W.item i s _ _ hlt hst fun v h1 tk hP hst1 hk1 => ?_))
    obtain ⟨p, rfl, hp⟩ := hrow i v hlt hP
    have kp1 : ∀ b o, h0.get? b = some o → h1.get? b = some o := fun b o e => hk1 b o (lt0 e).1 (kp b o e)
    have hS1 := hk1 S _ hSw hS
    have hT1 : h1.IsList T acc.toArray := hT.at fun o e => hk1 T o (fun z => hTf (W.sub _ z)) e
    have hp1 : h1.IsList p (row i).toArray := hp.at fun o e => kp1 _ _ e
    have hz' : acc.length + (row i).length + (restR row (i + 1) k).length ≤ sizeLine := by
      have : (restR row i (k + 1)).length = (row i).length + (restR row (i + 1) k).length := List.length_append
      rw [this] at hz
      omega
    show wpAny _ A.in1 ((holding [Value.ref p] (binaryOp .Add (.ref T) (.ref p))).attempt >>= _) _ _ _
    refine wpAny_bind (wpAny_attempt (wpAny_holding (add_raw (s := { s with heap := h1, toks := tk }) hT1 hp1 (by omega) ?_)))
    show wpAny _ A.in1 (updateSeq S (fun _ => #[Value.ref h1.objs.size]) >>= _) _ _ _
    have pu : ∀ b o, h1.get? b = some o → (h1.push { cls := .type "list", data := .seq (acc ++ row i).toArray }).get? b = some o := fun b o e => Heap.get?_push_of_some _ e
    have hT2 : (h1.push { cls := .type "list", data := .seq (acc ++ row i).toArray }).get? h1.objs.size = some { cls := .type "list", data := .seq (acc ++ row i).toArray } := Heap.get?_push_size _ rfl
    have s1 : (h1.push { cls := .type "list", data := .seq (acc ++ row i).toArray }).objs.size = h1.objs.size + 1 := Heap.size_push _ _
    have hSl : S < h1.objs.size := Heap.lt_size hS1
    have h0l : h0.objs.size ≤ h1.objs.size := Nat.le_of_lt (Nat.lt_of_le_of_lt hS0 hSl)
    have hS2 := pu _ _ hS1
    generalize (h1.push { cls := .type "list", data := .seq (acc ++ row i).toArray }) = h2 at pu hT2 s1 hS2
    refine wpAny_bind (wpAny_updateSeq hS2 rfl ?_)
    have hS3 := Heap.get?_update_self (Obj.mapSeq fun _ => #[Value.ref h1.objs.size]) hS2 rfl
    refine wpAny_bind (wpAny_letGo ?_)
    refine wpAny_bind (wpAny_updateSeq hS3 rfl (wpAny_pure ⟨plainId_quiet F.plain_sum_loop _, ?_⟩))
    have hS4 := Heap.get?_update_self (Obj.mapSeq fun _ => #[Value.ref h1.objs.size]) hS3 rfl
    have up : ∀ b o, b ≠ S → h2.get? b = some o → ((h2.update S (Obj.mapSeq fun _ => #[Value.ref h1.objs.size])).update S (Obj.mapSeq fun _ => #[Value.ref h1.objs.size])).get? b = some o := fun b o hb e => by
      rw [Heap.get?_update_other _ _ (Ne.symm hb), Heap.get?_update_other _ _ (Ne.symm hb)]; exact e
    have s3 : ((h2.update S (Obj.mapSeq fun _ => #[Value.ref h1.objs.size])).update S (Obj.mapSeq fun _ => #[Value.ref h1.objs.size])).objs.size = h1.objs.size + 1 := by
      rw [(Heap.SameBut.update ..).1, (Heap.SameBut.update ..).1]; exact s1
    generalize ((h2.update S (Obj.mapSeq fun _ => #[Value.ref h1.objs.size])).update S (Obj.mapSeq fun _ => #[Value.ref h1.objs.size])) = h4 at hS4 up s3
    have nS : h1.objs.size ≠ S := Nat.ne_of_gt hSl
    have gT : h4.get? h1.objs.size = some { cls := .type "list", data := .seq (acc ++ row i).toArray } := up _ _ nS hT2
    refine ih (i + 1) _ h1.objs.size (acc ++ row i) _ (by omega) hlt (W.frame _ _ _ hst1 fun b hb o e => up b o (fun z => hSf (by rw [← z]; exact hb)) (pu b o e)) (fun b o e => up b o (lt0 e).2 (pu b o (kp1 b o e))) (by show S < h4.objs.size; rw [s3]; exact Nat.lt_succ_of_lt hSl) hS4 ⟨_, gT, rfl, _, rfl⟩ nS (fun z => ?_) (by rw [List.length_append]; omega) fun h' tk' T' k' h'' => ?_
    · exact absurd (hfp _ z) (Nat.not_lt.mpr (Nat.le_of_lt hSl))
    · refine hR h' tk' T' k' (.inr ?_)
      rcases h'' with ⟨rfl, rfl, h7⟩ | ⟨_, h5, c', h6⟩
      · refine ⟨Nat.succ_pos _, h0l, 0, ?_⟩
        rw [h7 _ gT]
        show _ = some ({ cls := .type "list", data := .seq (acc ++ (row i ++ [])).toArray _ } : Obj)
        rw [List.append_nil]
      · refine ⟨Nat.succ_pos _, h5, c', ?_⟩
        rw [h6]
        show _ = some ({ cls := .type "list", data := .seq (acc ++ (row i ++ restR row (i + 1) k)).toArray _ } : Obj)
        rw [List.append_assoc]
theorem sum_lists {l b : Addr} {xs : Array Value} {st : List Value} {row : Nat → List Value} {Q : Value → Shared → Prop} (hh : A.handled = none) (hl : s.heap.IsList l xs) (hb : s.heap.IsList b st.toArray) (hbl : b ≠ l) (hrow : ∀ j v, xs[j]? = some v → ∃ p, v = .ref p ∧ s.heap.IsList p (row j).toArray) (hz : st.length + (restR row 0 xs.size).length ≤ sizeLine)
    (h : ∀ h' tk T', (∀ b o, s.heap.get? b = some o → h'.get? b = some o) → ((xs.size = 0 ∧ T' = b) ∨ (0 < xs.size ∧ s.heap.objs.size ≤ T' ∧ ∃ c', h'.get? T' = some { cls := .type "list", data := .seq (st ++ restR row 0 xs.size).toArray c' })) → Q (.ref T') { s with heap := h', toks := tk }) :
    wpAny (model prog w) A (call (.builtin "sum") [.ref l, .ref b]) Q E s := by
  refine call_function_tree PySem.F.kind_sum PySem.F.plain_sum PySem.F.entry_sum (args_sum2 _ _) ?_
  unfold Builtin.«sum»
  simp only [List.length_cons, List.length_nil]
  rw [if_neg (by decide)]
  refine wpAny_bind (wpAny_of_eq (show Builtin.Builtins.bindParams "sum" ["start"] 0 ⟨[.ref b], []⟩ = pure [some (.ref b)] from rfl) ?_)
  have hlt : l < s.heap.objs.size := by obtain ⟨_, e, _⟩ := hl; exact Heap.lt_size e
  have hbt : b < s.heap.objs.size := by obtain ⟨_, e, _⟩ := hb; exact Heap.lt_size e
  refine wpAny_bind (wpAny_pyIter_list hl ?_)
  have pu : ∀ c o, s.heap.get? c = some o → (s.heap.push { cls := .type "list_iterator", data := .fields #[.ref l, .int 0 0] }).get? c = some o := fun c o e => Heap.get?_push_of_some _ e
  have it0 : (s.heap.push { cls := .type "list_iterator", data := .fields #[.ref l, .int 0 0] }).IsListIter s.heap.objs.size l 0 := ⟨_, Heap.get?_push_size _ rfl, rfl, rfl⟩
  have sz0 : (s.heap.push { cls := .type "list_iterator", data := .fields #[.ref l, .int 0 0] }).objs.size = s.heap.objs.size + 1 := Heap.size_push _ _
  generalize (s.heap.push { cls := .type "list_iterator", data := .fields #[.ref l, .int 0 0] }) = h1 at pu it0 sz0
  have hb1 : h1.IsList b st.toArray := hb.at fun o e => pu _ _ e
  have ty : ({ s with heap := h1 } : Shared).TypeIs (.ref b) "list" := by obtain ⟨o, e, c, _⟩ := hb1; exact ⟨o, e, c⟩
  refine wpAny_bind (wpAny_pure ?_)
  simp only [List.forIn_cons, List.forIn_nil]
  refine wpAny_bind (wpAny_bind (wpAny_bind (wpAny_isInstance (T := "list") (b := false) ty sub_list_str ?_)))
  simp only [Bool.false_eq_true, if_false]
  refine wpAny_pure (wpAny_bind (wpAny_bind (wpAny_isInstance (T := "list") (b := false) ty sub_list_bytes ?_)))
  simp only [Bool.false_eq_true, if_false]
  refine wpAny_pure (wpAny_bind (wpAny_bind (wpAny_isInstance (T := "list") (b := false) ty sub_list_bytearray ?_)))
  simp only [Bool.false_eq_true, if_false]
  refine wpAny_pure (wpAny_pure ?_)
  refine wpAny_bind (wpAny_newObj_type ?_)
  have pu2 : ∀ c o, h1.get? c = some o → (h1.push { cls := .type "list", data := .seq #[.ref b] }).get? c = some o := fun c o e => Heap.get?_push_of_some _ e
  have hS : (h1.push { cls := .type "list", data := .seq #[.ref b] }).get? h1.objs.size = some { cls := .type "list", data := .seq #[.ref b] } := Heap.get?_push_size _ rfl
  have sz1 : (h1.push { cls := .type "list", data := .seq #[.ref b] }).objs.size = h1.objs.size + 1 := Heap.size_push _ _
  refine wpAny_pure ⟨plainId_quiet PySem.F.plain_sum_loop _, sum_rows (h0 := s.heap) (Walks.list (A := A.in1) hh s.heap.objs.size l (Nat.ne_of_lt hlt) xs) h1.objs.size (fun z => ?_) row (fun c hc => ?_) (fun c hc => ?_) ?_ (fun j v _ e => hrow j v e) xs.size 0 _ b st _ rfl (Nat.zero_le _) ⟨it0.at fun o e => pu2 _ _ e, (hl.at fun o e => pu _ _ e).at fun o e => pu2 _ _ e⟩ (fun c o e => pu2 _ _ (pu _ _ e)) (Nat.lt_of_lt_of_eq (Nat.lt_succ_self _) sz1.symm) hS (hb1.at fun o e => pu2 _ _ e) (fun z => ?_) (fun z => ?_) hz fun h' tk T' k hT => ?_⟩
  · rcases List.mem_cons.mp z with z | z
    · rw [sz0] at z; exact absurd z (Nat.ne_of_gt (Nat.lt_succ_self _))
    · rw [List.mem_singleton.mp z] at sz0; exact absurd (Nat.lt_trans hlt (Nat.lt_of_lt_of_eq (Nat.lt_succ_self _) sz0.symm)) (Nat.lt_irrefl _)
  · rw [List.mem_singleton.mp hc]; exact Nat.le_refl _
  · rw [sz0]
    rcases List.mem_cons.mp hc with rfl | hc
    · exact Nat.lt_succ_self _
    · rw [List.mem_singleton.mp hc]; exact Nat.lt_succ_of_lt hlt
  · rw [sz0]; exact Nat.le_succ _
  · rw [z, sz0] at hbt; exact absurd hbt (Nat.not_lt.mpr (Nat.le_succ _))
  · rcases List.mem_cons.mp z with z | z
    · exact absurd z (Nat.ne_of_lt hbt)
    · exact hbl (List.mem_singleton.mp z)
  · refine h h' tk T' k ?_
    rcases hT with ⟨h1, h2, _⟩ | hT
    · exact .inl ⟨h1, h2⟩
    · exact .inr hT
end
end LZ

namespace LZ
open PySem PySem.Spec PyProof.Rows L2
def rSumL (K : PySem.W.Frag) : List V → Hp → VK → Prop := fun vs H Q => ∃ (a b : Addr) (ps : List Addr) (rows : List (List V)) (st : List V), vs = [.ref a, .ref b] ∧ b ≠ a ∧ SqL K H a (ps.map V.ref) ∧ SqL K H b st ∧ rows.length = ps.length ∧
  (∀ (j : Nat) (p : Addr) (r : List V), ps[j]? = some p → rows[j]? = some r → SqL K H p r) ∧ (st ++ rows.flatten).length ≤ sizeLine ∧ (ps = [] → Q (.ref b) H) ∧ (ps ≠ [] → ∀ q, H q = none → Q (.ref q) (upd H q (.lst (st ++ rows.flatten))))
theorem vals_rest {rows : List (List V)} {row : Nat → List Value} (h : ∀ (j : Nat) (r : List V), rows[j]? = some r → Vals r (row j)) : ∀ (k i : Nat), i + k = rows.length → Vals ((rows.drop i).flatten) (restR row i k)
  | 0, i, e => by rw [List.drop_of_length_le (by omega)]; exact .nil
  | k + 1, i, e => by
    have hi : i < rows.length := by omega
    rw [List.drop_eq_getElem_cons hi]
    show Vals (rows[i] ++ (rows.drop (i + 1)).flatten) (row i ++ restR row (i + 1) k)
    exact (h i _ (List.getElem?_eq_getElem hi)).append (vals_rest h k (i + 1) (by omega))
section
variable {X : Cx}
theorem cr_sumL (hc : X.calm = true) : CallR X (.builtin "sum") (rSumL X.K) := by
  intro pins s σ H vs us Q I r h
  obtain ⟨a, b, ps, rows, st, rfl, hne, sa, sb, hl, hp, hz, q0, q1⟩ := h
  cases r with
  | cons r rr =>
    cases rr with
    | cons r' rr =>
      cases rr
      cases r
      cases r'
      obtain ⟨xs, v1, g1, z1⟩ := I.list sa
      obtain ⟨ts, v2, g2, z2⟩ := I.list sb
      have ex : ∀ j : Nat, ∃ its : List Value, ∀ p r, ps[j]? = some p → rows[j]? = some r → s.heap.IsList p its.toArray ∧ Vals r its := fun j => by
        cases e : ps[j]? with
        | none => exact ⟨[], fun p r z => nomatch z⟩
        | some p =>
          cases e2 : rows[j]? with
          | none => exact ⟨[], fun p r _ z => nomatch z⟩
          | some r =>
            obtain ⟨its, v3, g3, z3⟩ := I.list (hp j p r e e2)
            refine ⟨its, fun p' r' e3 e4 => ?_⟩
            cases e3
            cases e4
            exact ⟨g3.isList, v3⟩
      have row := fun j => Classical.choose (ex j)
      have hrow' : ∃ row : Nat → List Value, ∀ j p r, ps[j]? = some p → rows[j]? = some r → s.heap.IsList p (row j).toArray ∧ Vals r (row j) := ⟨fun j => Classical.choose (ex j), fun j => Classical.choose_spec (ex j)⟩
      clear row
      obtain ⟨row, hrow⟩ := hrow'
      have lx := v1.length
      rw [List.length_map] at lx
      have at_ : ∀ (j : Nat) (r : List V), rows[j]? = some r → Vals r (row j) := fun j r e => by
        have hj := (List.getElem?_eq_some_iff.mp e).1
        exact (hrow j _ r (List.getElem?_eq_getElem (by omega : j < ps.length)) e).2
      have vr : Vals rows.flatten (restR row 0 xs.length) := by
        have := vals_rest at_ xs.length 0 (by omega)
        exact this
      have vall := v2.append vr
      have ll := vall.length
      refine sum_lists (row := row) (I.ok.hd hc) g1.isList g2.isList hne (fun j v e => ?_) ?_ fun h' tk T' k hT => ?_
      · have e' : xs[j]? = some v := by simpa using e
        have hj : j < xs.length := (List.getElem?_eq_some_iff.mp e').1
        have hpj : ps[j]? = some ps[j] := List.getElem?_eq_getElem (by omega)
        have hrj : rows[j]? = some rows[j] := List.getElem?_eq_getElem (by omega)
        obtain ⟨u, f1, f2⟩ := v1.get (i := j) (x := V.ref ps[j]) (by rw [List.getElem?_map, hpj]; rfl)
        cases f1.symm.trans e'
        cases f2
        exact ⟨_, rfl, (hrow j _ _ hpj hrj).1⟩
      · have : (ts ++ restR row 0 xs.length).length ≤ sizeLine := by rw [← ll]; exact hz
        rw [List.length_append] at this
        simpa using this
      · rcases hT with ⟨h1, rfl⟩ | ⟨h0, h1, c', h2⟩
        · have e0 : xs.length = 0 := by simpa using h1
          exact ⟨.ref _, H, I.kept k, rfl, q0 (List.eq_nil_of_length_eq_zero (by omega))⟩
        · by_cases e0 : ps = []
          · subst e0
            have e1 : xs.length = 0 := by simpa using lx.symm
            have h0' : 0 < xs.length := by simpa using h0
            omega
          · refine ⟨.ref T', _, I.laid (t' := tk) (a := T') (o := .lst (st ++ rows.flatten)) (h' := h') k h1 ⟨hz, _, c', vall, ?_⟩, rfl, q1 e0 T' (I.hok.fresh h1)⟩
            have e2 : xs.toArray.size = xs.length := by simp
            rw [h2, e2]
end
end LZ
namespace PM
open PySem PySem.Spec PyProof.Rows L2 Q2
/-- the lists that stand at some places -/
def rowsOf (S : Sto) : List Va → Option (List (List Va))
  | [] => some []
  | .ref n :: r => match S[n]?, rowsOf S r with
    | some (.lst xs), some l => some (xs :: l)
    | _, _ => none
  | _ :: _ => none
def fSumL : FL := fL2 fun v w S => match v, w with
  | .ref i, .ref j => if i = j then none else match S[i]?, S[j]? with
    | some (.lst vs), some (.lst st) => match rowsOf S vs with
      | some rows => if rows = [] then some (.ref j, S) else mkL S (st ++ rows.flatten)
      | none => none
    | _, _ => none
  | _, _ => none
theorem rows_rel {K : KX} {ρ : List Addr} {S : Sto} {H : Hp} (R : RS K ρ S H) : ∀ {vs : List Va} {ws : List V} {rows : List (List Va)}, Rvs K ρ H vs ws → rowsOf S vs = some rows → ∃ (ps : List Addr) (us : List (List V)), ws = ps.map V.ref ∧ rows.length = ps.length ∧ us.length = ps.length ∧ (∀ (j : Nat) (p : Addr) (r : List V), ps[j]? = some p → us[j]? = some r → SqL K.K H p r) ∧ Rvs K ρ H rows.flatten us.flatten
  | [], _, _, h, e => by
    cases h
    cases e
    exact ⟨[], [], rfl, rfl, rfl, fun j p r z => by simp at z, rfl⟩
  | v :: vs, _, rows, h, e => by
    obtain ⟨w, r, rfl, h1, h2⟩ := h
    cases v with
    | ref n =>
      unfold rowsOf at e
      cases e1 : S[n]? with
      | none => rw [e1] at e; simp at e
      | some o =>
        cases o with
        | lst xs =>
          cases e2 : rowsOf S vs with
          | none => rw [e1, e2] at e; simp at e
          | some l =>
            rw [e1, e2] at e
            cases e
            obtain ⟨ps, us, rfl, l1, l2, hp, hr⟩ := rows_rel R h2 e2
            obtain ⟨a, ea, rfl⟩ := h1
            obtain ⟨_, ws, hw, hx⟩ := R.at_ n a _ ea e1
            refine ⟨a :: ps, ws :: us, rfl, by simp [l1], by simp [l2], fun j p r z1 z2 => ?_, ?_⟩
            · cases j with
              | zero => cases z1; cases z2; exact SqL.of hw
              | succ j => exact hp j p r z1 z2
            · show Rvs K ρ H (xs ++ l.flatten) (ws ++ us.flatten)
              exact hx.app hr
        | _ => rw [e1] at e; simp at e
    | _ => unfold rowsOf at e; cases e
theorem cSumL {X : Cx} (hc : X.calm = true) : CallP X (.builtin "sum") fSumL := by
  refine ⟨_, LZ.cr_sumL hc, callM2 fun ρ S H v w x y Q R r r' q => ?_⟩
  cases v with
  | ref i =>
    cases w with
    | ref j =>
      simp only at q
      by_cases ij : i = j
      · rw [if_pos ij] at q; exact q.elim
      · rw [if_neg ij] at q
        cases e1 : S[i]? with
        | none => rw [e1] at q; exact q.elim
        | some o =>
          cases o with
          | lst vs =>
            cases e2 : S[j]? with
            | none => rw [e1, e2] at q; exact q.elim
            | some o2 =>
              cases o2 with
              | lst st =>
                cases e3 : rowsOf S vs with
                | none => rw [e1, e2] at q; simp only [e3] at q; exact q.elim
                | some rows =>
                  rw [e1, e2] at q
                  simp only [e3] at q
                  obtain ⟨a, ea, rfl⟩ := r
                  obtain ⟨b, eb, rfl⟩ := r'
                  obtain ⟨_, ws, hw, hx⟩ := R.at_ i a _ ea e1
                  obtain ⟨_, ts, ht, hy⟩ := R.at_ j b _ eb e2
                  obtain ⟨ps, us, rfl, l1, l2, hp, hr⟩ := rows_rel R hx e3
                  have hne : b ≠ a := fun z => by
                    subst z
                    have h1 := (List.getElem?_eq_some_iff.mp ea)
                    have h2 := (List.getElem?_eq_some_iff.mp eb)
                    obtain ⟨i1, e4⟩ := h1
                    obtain ⟨j1, e5⟩ := h2
                    exact ij ((List.getElem_inj R.nd).mp (e4.trans e5.symm))
                  have rel : Rvs (kxOf X) ρ H (st ++ rows.flatten) (ts ++ us.flatten) := hy.app hr
                  have ll := rel.len
                  by_cases e0 : rows = []
                  · rw [if_pos e0] at q
                    have p0 : ps = [] := List.eq_nil_of_length_eq_zero (by rw [← l1, e0]; rfl)
                    have u0 : us = [] := List.eq_nil_of_length_eq_zero (by rw [l2, p0]; rfl)
                    refine ⟨a, b, ps, us, ts, rfl, hne, SqL.of hw, SqL.of ht, l2, hp, ?_, fun _ => q ρ H _ R.refl R ⟨b, eb, rfl⟩, fun z => absurd p0 z⟩
                    obtain ⟨hz, _⟩ := R.at_ j b _ eb e2
                    rw [u0, List.flatten_nil, List.append_nil, ← hy.len]
                    exact hz
                  · rw [if_neg e0] at q
                    unfold mkL at q
                    by_cases hz : (st ++ rows.flatten).length ≤ sizeLine
                    · rw [if_pos hz] at q
                      refine ⟨a, b, ps, us, ts, rfl, hne, SqL.of hw, SqL.of ht, l2, hp, by rw [← ll]; exact hz, fun z => absurd (List.eq_nil_of_length_eq_zero (by rw [l1, z]; rfl)) e0, fun _ p hp' => ?_⟩
                      obtain ⟨E, R2⟩ := R.new hp' hz rel
                      exact q _ _ _ E R2 (R.last p)
                    · rw [if_neg hz] at q
                      exact q.elim
              | _ => rw [e1, e2] at q; exact q.elim
          | _ => rw [e1] at q; exact q.elim
    | _ => exact q.elim
  | _ => exact q.elim
end PM

namespace PM
open PySem PySem.Spec PyProof.Rows L2 Q2
/-! ### clauses of leaf classes under one base -/
def ExA (K : PySem.W.Frag) (mg : Str → Option Value) (C : Value) (base x : Str) : List Str → Prop
  | [] => True
  | c :: r => (∃ cls, mg c = some cls ∧ PySem.W.exmOne K cls C = some (if x = base then true else decide (c = x))) ∧ ExA K mg C base x r
theorem ExA.get {K : PySem.W.Frag} {mg : Str → Option Value} {C : Value} {base x : Str} : ∀ {L : List Str}, ExA K mg C base x L → ∀ c ∈ L, ∀ cls, mg c = some cls → PySem.W.exmOne K cls C = some (if x = base then true else decide (c = x))
  | c :: r, h, d, hd, cls, hc => by
    rcases List.mem_cons.mp hd with rfl | hd
    · obtain ⟨cls', h1, h2⟩ := h.1
      cases h1.symm.trans hc
      exact h2
    · exact ExA.get h.2 d hd cls hc
theorem ExA.tab {K : PySem.W.Frag} {mg : Str → Option Value} {C : Value} {base x : Str} {L : List Str} (h : ExA K mg C base x L) (c : Str) (cls : Value) (b : Bool) (e : exTab base L c x = some b) (hc : mg c = some cls) : PySem.W.exmOne K cls C = some b := by
  unfold exTab at e
  by_cases h1 : c ∈ L
  · rw [if_pos h1] at e
    have := h.get c h1 cls hc
    by_cases h2 : x = base
    · rw [if_pos h2] at e this
      cases e
      exact this
    · rw [if_neg h2] at e this
      by_cases h3 : x ∈ L
      · rw [if_pos h3] at e
        cases e
        exact this
      · rw [if_neg h3] at e
        cases e
  · rw [if_neg h1] at e
    cases e
theorem leaf_cls {base x c : Str} {L : List Str} (hx : x ≠ base) (e : exTab base L c x = some true) : c = x := by
  unfold exTab at e
  by_cases h1 : c ∈ L
  · rw [if_pos h1, if_neg hx] at e
    by_cases h3 : x ∈ L
    · rw [if_pos h3] at e
      simpa using e
    · rw [if_neg h3] at e
      cases e
  · rw [if_neg h1] at e
    cases e
theorem ClM.leaf {X : Cx} {base : Str} {L : List Str} {x n : Str} {i : Nat} {C : Addr} {m : Addr → Addr → MS} {st : Stmt} {suite : List Stmt} {np p : Pos} {hs : List ExceptHandler} {l : List Cl} (hg : Gl X x) (gl : X.mg x = some (.ref C)) (nd : X.N.Nodup) (ix : X.N[i]? = some n) (lo : X.env.kindOf n = some .local)
    (ex : ExA X.K X.mg (.ref C) base x L) (fr : Free i m) (hx : x ≠ base)
    (su : ∀ (a dd : Addr) (oe : Obj) (pn : List (Addr × Obj)), Zc (.ref C) (some dd) oe → (∃ vs, oe.data = .fields vs) → PMSs (X.suite a ((a, oe) :: pn)) WF (st :: suite) (m a dd)) (rest : ClM X (exTab base L) hs l) (hdb : (x == ("__debug__" : Str)) = false := by decide) :
      ClM X (exTab base L) (.ExceptHandler (some (.Name x np)) (some n) (st :: suite) p :: hs) (⟨x, some i, m⟩ :: l) :=
  .bound ⟨hg, hdb, .inl gl⟩ gl nd ix lo ex.tab fr (fun a dd oe c cls pn tb gc hz hf => by
    obtain rfl := leaf_cls hx tb
    cases gl.symm.trans gc
    exact su a dd oe pn hz hf) rest
theorem ClM.bare {X : Cx} {base : Str} {L : List Str} {x : Str} {C : Addr} {m : MS} {st : Stmt} {suite : List Stmt} {np p : Pos} {hs : List ExceptHandler} {l : List Cl} (hg : Gl X x) (gl : X.mg x = some (.ref C)) (ex : ExA X.K X.mg (.ref C) base x L)
    (su : ∀ (a : Addr) (oe : Obj) (pn : List (Addr × Obj)), PMSs (X.suite a ((a, oe) :: pn)) WF (st :: suite) m) (rest : ClM X (exTab base L) hs l) (hdb : (x == ("__debug__" : Str)) = false := by decide) :
      ClM X (exTab base L) (.ExceptHandler (some (.Name x np)) none (st :: suite) p :: hs) (⟨x, none, fun _ _ => m⟩ :: l) :=
  .plain ⟨hg, hdb, .inl gl⟩ gl ex.tab (fun a oe cls d pn hz hf => su a oe pn) rest
/-! ### suites that tell the same wherever the exception lies -/
def FreeE (i : Nat) (m : Addr → Addr → ME) : Prop := ∀ (a d : Addr) (f : Str) (v : Va) (Γ : En) (S : Sto), m a d (Γ.set i (some (.exc a d f v))) S = m 0 0 (Γ.set i (some (.exc 0 0 f v))) S
def FreeA (i : Nat) (m : Addr → Addr → MA) : Prop := ∀ (a d : Addr) (f : Str) (v : Va) (Γ : En) (S : Sto), m a d (Γ.set i (some (.exc a d f v))) S = m 0 0 (Γ.set i (some (.exc 0 0 f v))) S
section
variable {i : Nat}
theorem fr_err {f : Str} : FreeE i (mErr i f) := fun a d f' v Γ S => by rw [mErr_set, mErr_set]
theorem fr_c {v : Va} : FreeE i fun _ _ => mC v := fun a d f v' Γ S => rfl
theorem fr_v {j : Nat} (h : i ≠ j := by decide) : FreeE i fun _ _ => mV j := fun a d f v' Γ S => by
  show mV j _ S = mV j _ S
  unfold mV
  rw [List.getElem?_set_ne h, List.getElem?_set_ne h]
theorem fr_2 {g : F2} {m m' : Addr → Addr → ME} (h : FreeE i m) (h' : FreeE i m') : FreeE i fun a d => m2 g (m a d) (m' a d) := fun a d f v Γ S => by
  show m2 g _ _ _ S = m2 g _ _ _ S
  unfold m2
  rw [h a d f v Γ S]
  congr 1
  funext u S1
  rw [h' a d f v Γ S1]
theorem fr_N : FreeA i fun _ _ => maN := fun a d f v Γ S => rfl
theorem fr_C {m : Addr → Addr → ME} {t : Addr → Addr → MA} (h : FreeE i m) (h' : FreeA i t) : FreeA i fun a d => maC (m a d) (t a d) := fun a d f v Γ S => by
  show maC _ _ _ S = maC _ _ _ S
  unfold maC
  rw [h a d f v Γ S]
  congr 1
  funext u S1
  rw [h' a d f v Γ S1]
theorem fr_L {g : FL} {t : Addr → Addr → MA} (h : FreeA i t) : FreeE i fun a d => mL g (t a d) := fun a d f v Γ S => by
  show mL g _ _ S = mL g _ _ S
  unfold mL
  rw [h a d f v Γ S]
theorem fr_ret {m : Addr → Addr → ME} (h : FreeE i m) : Free i fun a d => sRet (m a d) := fun a d f v Γ S => by
  show cutS i (sRet _ _ S) = cutS i (sRet _ _ S)
  unfold sRet
  rw [h a d f v Γ S]
  cases m 0 0 (Γ.set i (some (.exc 0 0 f v))) S <;> rfl
theorem fr_set {j : Nat} {m : Addr → Addr → ME} (h : FreeE i m) (hij : i ≠ j := by decide) : Free i fun a d => sSet j (m a d) := fun a d f v Γ S => by
  show cutS i (sSet j _ _ S) = cutS i (sSet j _ _ S)
  unfold sSet
  rw [h a d f v Γ S]
  cases m 0 0 (Γ.set i (some (.exc 0 0 f v))) S with
  | ok u S1 =>
    show Rs.nx ((((Γ.set i _).set j _)).set i none) S1 = Rs.nx ((((Γ.set i _).set j _)).set i none) S1
    rw [List.set_comm _ _ hij, List.set_comm _ _ hij, List.set_set, List.set_set]
  | bad => rfl
  | ex c f v S => rfl
end
/-! ### weakest conditions -/
/-- what a suite may end in: an exception of these names -/
structure Px where
  P : Po
  ex : Str → Str → Va → Sto → Prop
def Wsx (r : Rs) (P : Px) : Prop := match r with
  | .ex c f v Γ S => P.ex c f v S
  | r => Ws r P.P
def Wpx {α : Type} (r : Res α) (Q : α → Sto → Prop) (X : Str → Str → Va → Sto → Prop) : Prop := match r with
  | .ok a S => Q a S
  | .ex c f v S => X c f v S
  | .bad => False
theorem Wp.x {α : Type} {r : Res α} {Q : α → Sto → Prop} {X : Str → Str → Va → Sto → Prop} (h : Wp r Q) : Wpx r Q X := by
  cases r with
  | ok a S => exact h
  | bad => exact h
  | ex c f v S => exact h.elim
theorem Ws.x {r : Rs} {P : Px} (h : Ws r P.P) : Wsx r P := by
  cases r with
  | ex c f v Γ S => exact h.elim
  | _ => exact h
/-! ### classes -/
def iniOf (s : Stmt) : Stmt := match s with
  | .ClassDef _ _ _ (b :: _) _ _ _ _ _ _ _ => b
  | s => s
theorem sup_mk {P : Program} {K : PySem.W.Frag} {h : Heap} {mg : Str → Option Value} {x f : Str} {c : Stmt} {qual : Str} (X : K.In h) (G : h.Ns mainGlobals mg) (tx : Q3.SupTxt (defArgs c) (defBody c) (defScope c) f) {C fI cda cc : Addr}
    {nm q : Str} {N : Addr} {bs bm : List Value} {sn : List Str} {sub : List Value} {ab : Bool} {col : Option Bool} {dd : Option Addr} {m0 m1 m2 m3 m5 : Option Value} {oc kV doc pm ct : Value} {od an : Option Addr} {osl : Array (Option Value)}
    {ccl : Value} {cdd : Option Addr} {vs : Array Value} {ccs : Array (Option Value)} {file : Str} {tf : Tok} {cl : Value} {cld : Option Addr} {csl : Array (Option Value)}
    (aC : PySem.W.nsIn K mainGlobals x = some (some (.ref C))) (aS : PySem.W.nsIn K mainGlobals "super" = some none)
    (xL : K.lookup C = some (excClassObj nm q C N bs bm true sn sub ab col dd m0 m1 m2 m3 m5 "ValueError.__new__"))
    (sa : PySem.W.findIn K (.ref C) "__setattr__" = some (some (.builtin "object.__setattr__"))) (no : PySem.W.findIn K (.ref C) f = some none)
    (eC : PySem.W.subIn K (.ref C) (.type "BaseException") = some true) (tC : PySem.W.typeIn K (.ref C) = some (.type "type")) (kC : PySem.W.keepIn K (.ref C) = true)
    (mC : PySem.W.mroIn K C (.ref C) = some true) (uC : PySem.W.ks_superIn K C C "__init__" = some (some (.builtin "ValueError.__init__"))) (vC : PySem.W.subIn K (.ref C) (.type "ValueError") = some true) (oq : PySem.W.nsIn K cStatics "thirdparty.any" = some none)
    (iC : PySem.W.findIn K (.ref C) "__init__" = some (some (.ref fI))) (tI : PySem.W.typeIn K (.ref fI) = some (.type "function"))
    (lI : K.lookup fI = some ⟨oc, od, .func (PySem.W.ksFn "__init__" qual (defArgs c) (defBody c) (defScope c) .none kV doc pm an (.ref cda) ct cc), osl⟩) (cI : PySem.W.codeIn K (.ref cda) qual = true)
    (lD : K.lookup cda = some ⟨ccl, cdd, .fields vs, ccs⟩) (lC : K.lookup cc = some ⟨cl, cld, .cell (some (.ref C)), csl⟩)
    (hbm : PySem.HandSPX.refsVE bm = true) (hvs : vs[2]? = some (.str file tf)) (hfile : ((P.main.file : Str) == file) = true) (htop : (P.main.scope.names.lookup ("super" : Str)).isSome = false) :
    Q3.SupC P K mg C x f :=
  ⟨⟨⟨nm, q, N, bs, bm, sn, sub, ab, col, dd, m0, m1, m2, m3, m5, xL, hbm⟩, sa, eC, tC, kC⟩, PySem.W.mg_of X G aC, PySem.W.mg_none_of X G aS, no, mC, uC, vC, oq, htop,
    ⟨fI, oc, od, osl, qual, defArgs c, defBody c, defScope c, kV, doc, pm, ct, an, cda, cc, tx, iC, tI, lI, cI, ⟨ccl, cdd, vs, ccs, file, tf, lD, hvs, hfile⟩, ⟨cl, cld, csl, lC⟩⟩⟩
theorem exa_ref {K : PySem.W.Frag} {h : Heap} {mg : Str → Option Value} (X : K.In h) (G : h.Ns mainGlobals mg) {c : Str} {D C : Addr} {b : Bool} (aD : PySem.W.nsIn K mainGlobals c = some (some (.ref D))) (h1 : PySem.W.subIn K (.ref C) (.type "BaseException") = some true) (hdct : PySem.W.hasDictIn K C = true) (ht : PySem.W.typeIn K (.ref C) = some (.type "type"))
    (h4 : PySem.W.subIn K (.ref D) (.ref C) = some b) : ∃ cls, mg c = some cls ∧ PySem.W.exmOne K cls (.ref C) = some b := ⟨_, PySem.W.mg_of X G aD, PySem.W.exm_ref h1 hdct ht h4⟩
theorem xf_mk {K : PySem.W.Frag} {C : Addr} (ga : PySem.W.findIn K (.ref C) "__getattribute__" = some (some (.builtin "BaseException.__getattribute__"))) (gg : PySem.W.findIn K (.ref C) "__getattr__" = some none) (exC : PySem.W.subIn K (.ref C) (.type "BaseException") = some true) (hdC : PySem.W.hasDictIn K C = true) : XfC K C := ⟨ga, gg, exC, hdC⟩
end PM

namespace PM
open PySem PySem.Spec PyProof.Rows L2 Q2
def top (i : Nat) : Stmt := PySem.Challenge.pw_planesplits_k15_whole_depths_of_all_orde.main.body.getD i (.Pass ⟨0, 0, 0, 0⟩)
abbrev s_is_integer : Stmt := top 7
abbrev s_is_coordinate : Stmt := top 8
abbrev s_is_point : Stmt := top 9
abbrev s_check_points : Stmt := top 10
abbrev s_y_key : Stmt := top 13
abbrev s_part_of : Stmt := top 14
abbrev s_rows_by_steps : Stmt := top 17
abbrev s_masks_around : Stmt := top 18
abbrev s_masks_on_axes : Stmt := top 19
abbrev s_rows_by_masks : Stmt := top 20
abbrev s_quarter_of_rows : Stmt := top 21
abbrev s_grown : Stmt := top 22
abbrev s_is_node : Stmt := top 26
abbrev s_narrowed : Stmt := top 27
abbrev s_fault_of : Stmt := top 28
abbrev s_check_quarter : Stmt := top 29
abbrev s_nodes_of : Stmt := top 30
abbrev s_reading : Stmt := top 31
abbrev s_level_counts : Stmt := top 32
abbrev s_built : Stmt := top 33
abbrev s_is_quarter : Stmt := top 34
abbrev s_points_of : Stmt := top 35
abbrev s_depth : Stmt := top 36
abbrev s_law_mixed : Stmt := top 38
abbrev s_law_source : Stmt := top 39
abbrev s_law_take : Stmt := top 40
abbrev s_law_pick : Stmt := top 41
abbrev s_law_spots : Stmt := top 42
abbrev s_law_end : Stmt := top 43
abbrev s_law_box : Stmt := top 44
abbrev s_law_holds : Stmt := top 45
abbrev s_law_orders : Stmt := top 46
abbrev s_law_readings : Stmt := top 47
abbrev s_law : Stmt := top 48
abbrev c_InvalidPoints : Stmt := iniOf (top 2)
theorem x_InvalidPoints : Q3.SupTxt (defArgs c_InvalidPoints) (defBody c_InvalidPoints) (defScope c_InvalidPoints) "index" := by
  refine' ⟨⟨_, "index", _, _, _, _, _, _, _, _, _, _, _, ?a, ?b, ?c, ?d, ?e, ?f, ?g⟩, ?h1, ?h2, ?h3, ?h4, ?h5, ?h6, ?h7⟩
  case e => exact rfl
  case a => rfl
  case b => decide
  case c => decide
  case d => rfl
  case f => exact ⟨_, rfl, rfl⟩
  case g => exact fun _ _ _ _ _ _ _ _ _ _ _ _ h => by subst h; rfl
  case h1 => rfl
  case h2 => rfl
  case h3 => rfl
  case h4 => decide
  case h5 => rfl
  case h6 => rfl
  case h7 => rfl
abbrev c_InvalidTree : Stmt := iniOf (top 3)
theorem x_InvalidTree : Q3.SupTxt (defArgs c_InvalidTree) (defBody c_InvalidTree) (defScope c_InvalidTree) "path" := by
  refine' ⟨⟨_, "path", _, _, _, _, _, _, _, _, _, _, _, ?a, ?b, ?c, ?d, ?e, ?f, ?g⟩, ?h1, ?h2, ?h3, ?h4, ?h5, ?h6, ?h7⟩
  case e => exact rfl
  case a => rfl
  case b => decide
  case c => decide
  case d => rfl
  case f => exact ⟨_, rfl, rfl⟩
  case g => exact fun _ _ _ _ _ _ _ _ _ _ _ _ h => by subst h; rfl
  case h1 => rfl
  case h2 => rfl
  case h3 => rfl
  case h4 => decide
  case h5 => rfl
  case h6 => rfl
  case h7 => rfl
end PM

namespace PM
open PySem PySem.Spec PyProof.Rows L2 Q2
/-! ### t[::-1] of a pair -/
def mRevT (m : ME) : ME := fun Γ S => (m Γ S).bind fun v S1 => match v with
  | .tup xs => match xs with
    | [x, y] => .ok (.tup [y, x]) S1
    | _ => .bad
  | _ => .bad
theorem pm_revT {X : Cx} {W : XW} {e : Expr} {m : ME} {k : Nat} {p1 p2 p3 pos : Pos} (h : PM X W e m) : PM X W (.Subscript e (.Slice none none (some (.UnaryOp .USub (.Constant (.int 1) k p1) p2)) p3) pos) (mRevT m) := by
  refine pe_imp (pe_revT h) fun σ H Q ⟨ρ, Γ, S, R, G, q⟩ => ?_
  refine ⟨ρ, Γ, S, R, G, q.bind fun v S1 ρ1 H1 x E1 R1 rx q1 => ?_⟩
  cases v with
  | tup xs =>
    match xs, rx, q1 with
    | [], _, q1 => exact q1.elim
    | [_], _, q1 => exact q1.elim
    | _ :: _ :: _ :: _, _, q1 => exact q1.elim
    | [u, v], rx, q1 =>
      obtain ⟨a, ws, rfl, h1, w1, _, rfl, r1, w2, _, rfl, r2, rfl⟩ := rx
      refine ⟨a, w1, w2, rfl, h1, fun p hp => ?_⟩
      obtain ⟨E, R2⟩ := R1.own (o := .tup [w2, w1]) hp
      exact q1 ρ1 _ _ E R2 ⟨p, [w2, w1], rfl, SqT.of upd_same, Rvs.cons (r2.ext E) (Rvs.cons (r1.ext E) rfl)⟩
  | _ => exact q1.elim
end PM

/-! a lambda handed to a def: with a default that its body does not use, or without -/
namespace Q4
open PySem PySem.Spec PyProof.Rows L2 LamX
/-- the lambda's names: captured ones, globals, and own ones that nobody else has -/
structure LamN (sc scope : Scope) (N : List Str) : Prop where
  kd : scope.kind = .function
  co : scope.isCoroutine = false
  ge : scope.isGenerator = false
  nc : ∀ y ∈ scope.names, y.2 ≠ .cell
  off : ∀ y ∈ scope.names, y.2 = .local → y.1 ∉ N
  fr : ∀ y ∈ scope.names, y.2 = .free → sc.names.lookup y.1 = some .cell ∨ sc.names.lookup y.1 = some .free
def lamNB (sc scope : Scope) (N : List Str) : Bool :=
  decide (scope.kind = .function) && !scope.isCoroutine && !scope.isGenerator && scope.names.all fun y => !decide (y.2 = .cell) && (!decide (y.2 = .local) || !decide (y.1 ∈ N)) && (!decide (y.2 = .free) || decide (sc.names.lookup y.1 = some .cell) || decide (sc.names.lookup y.1 = some .free))
theorem lamN_by {sc scope : Scope} {N : List Str} (h : lamNB sc scope N = true) : LamN sc scope N := by
  unfold lamNB at h
  simp only [Bool.and_eq_true, Bool.or_eq_true, Bool.not_eq_true', decide_eq_true_eq, decide_eq_false_iff_not, List.all_eq_true] at h
  obtain ⟨⟨⟨a1, a2⟩, a3⟩, a4⟩ := h
  refine ⟨a1, a2, a3, fun y m => (a4 y m).1.1, fun y m e => ?_, fun y m e => ?_⟩
  · exact (a4 y m).1.2.resolve_left fun z => z e
  · rcases (a4 y m).2 with (z | z) | z
    · exact absurd e z
    · exact .inl z
    · exact .inr z
theorem LamN.has {X : Cx} {scope : Scope} (L : LamN X.env.scope scope X.N) (ok : X.Ok) : ∀ y ∈ scope.names, y.2 = .free → ∃ c, X.env.cells.lookup y.1 = some c := fun y m e => (L.fr y m e).elim (fun k => ok.has _ (.inl k)) fun k => ok.has _ (.inr k)
/-- its parameters: none, or one with an int as default -/
inductive LamD (params : Arguments) (body : Expr) (scope : Scope) : Prop
  | zero (h1 : params.defaults = []) (h2 : params.kw_defaults = []) (h3 : ∀ (q : Str) (cl : List (Str × Addr)) (doc pm cv ct : Value), bindArgs (PySem.W.kdv_fn "<lambda>" q params (.expr body) scope cl .none doc pm cv ct) ⟨[], []⟩ = pure [])
  | one {i : Int} {j : Nat} {p : Pos} {n : Str} (h1 : params.defaults = [.Constant (.int i) j p]) (h2 : params.kw_defaults = []) (h3 : scope.names.lookup n = some .local)
      (h4 : ∀ (q : Str) (cl : List (Str × Addr)) (d : Addr) (doc pm cv ct : Value), ∃ k : Option (Array Value) → Sem (List (Str × Value)), bindArgs (PySem.W.kdv_fn "<lambda>" q params (.expr body) scope cl (.ref d) doc pm cv ct) ⟨[], []⟩ = seqItems? (.ref d) >>= k ∧ ∀ v, k (some #[v]) = pure [(n, v)])
/-- the defaults of the made one -/
def DvA (X : Cx) (H : Hp) (h : Heap) (params : Arguments) (dV : Value) : Prop := (params.defaults = [] ∧ dV = .none) ∨ ∃ (d : Addr) (v : Value), params.defaults ≠ [] ∧ dV = .ref d ∧ h.get? d = some (PySem.W.kdv_tup [v]) ∧ H d = none ∧ d ∉ frs X.stack
/-- the table at P: what it tells bears the name q -/
def TabK (H : Hp) (P : Addr) (q : Str) (ps : Array Value) : Prop := H P = some (.tbl ps) ∧ TriplesOk ps.toList ∧ ∀ (pos : Pos) (cv : Value), codeAmong pos ps.toList = some cv → ∃ c, cv = .ref c ∧ H c = some (CodeO c q)
/-- what the making of a lambda leaves: its code object stood, or is new and told by the table -/
def LamH (P : Addr) (q : Str) (ps : Array Value) (H H1 : Hp) (c' : Addr) : Prop := H1 c' = some (CodeO c' q) ∧
  ((H1 = H ∧ ∃ pos, codeAmong pos ps.toList = some (.ref c')) ∨ ∃ more : Array Value, H c' = none ∧ H1 = upd (upd H P (.tbl (ps ++ more))) c' (CodeO c' q) ∧ TriplesOk (ps ++ more).toList ∧ ∀ (pos : Pos) (cv : Value), codeAmong pos (ps ++ more).toList = some cv → codeAmong pos ps.toList = some cv ∨ cv = .ref c')
section
variable {X : Cx} {pins : List (Addr × Obj)} {σ : L2.St} {H : Hp} {s : Shared}
abbrev lamObj (X : Cx) (params : Arguments) (body : Expr) (scope : Scope) (dV doc pm : Value) (c' : Addr) (ctv : Value) : Obj := PySem.W.kdv_obj "<lambda>" (X.env.qual ++ "<lambda>") params (.expr body) scope (cloFrom X.env.cells scope.names []) dV doc pm c' ctv
theorem far {f : Addr} (I : Inv X pins σ H s) (hf : s.heap.objs.size ≤ f) : f ∉ frs X.stack := fun z => (List.mem_cons.mp (I.stkSub _ z)).elim (fun e => Nat.lt_irrefl _ (Nat.lt_of_lt_of_le (e ▸ I.lt) hf)) fun e => I.nofs hf e
theorem lam_tail {c P : Addr} {params : Arguments} {body : Expr} {scope : Scope} {pos : Pos} {n : Nat} {dV : Value} {ps : Array Value} {E Q : Value → Shared → Prop} (I : Inv X pins σ H s) (TB : TabB X.base X.mg c P) (hcode : X.env.code = .ref c) (T : TabK H P (X.env.qual ++ "<lambda>") ps)
    (L : LamN X.env.scope scope X.N) (D : DvA X H s.heap params dV)
    (h : ∀ (f c' : Addr) (doc pm ctv : Value) (H1 : Hp) (s' : Shared), Inv X pins σ H1 s' → LamH P (X.env.qual ++ "<lambda>") ps H H1 c' → s'.heap.get? f = some (lamObj X params body scope dV doc pm c' ctv) → H1 f = none → f ∉ frs X.stack → DvA X H1 s'.heap params dV → Q (.ref f) s') :
    wpAny (model X.prog X.w) X.A (makeTail "<lambda>" (X.env.qual ++ "<lambda>") params (.expr body) scope X.env dV .none none pos n) Q E s := by
  obtain ⟨hP, ht, ha⟩ := T
  have gP : s.heap.get? P = some { cls := .none, data := .fields ps } := I.hok P _ hP
  have fre := L.has I.ok
  cases hc : codeAmong pos ps.toList with
  | some cv =>
    obtain ⟨c', rfl, hco⟩ := ha pos cv hc
    refine PySem.W.kdv_makeTailHit (mg := X.mg) (c := c) (P := P) (closure_ok fre) I.ok.glob (I.mod.glob.keeps I.bk) hcode (TB.code.keeps I.bk) gP ht hc (TB.bm.keeps I.bk) fun ctv doc h' tk hx hsz => ?_
    have up : ∀ b o, s.heap.get? b = some o → (h'.push (lamObj X params body scope dV doc ((X.mg "__name__").getD .none) c' ctv)).get? b = some o := fun b o e => Heap.get?_push_of_some _ (hx b o e)
    refine h h'.objs.size c' doc _ ctv H { s with heap := h'.push (lamObj X params body scope dV doc ((X.mg "__name__").getD .none) c' ctv), toks := tk } (I.kept up) ⟨hco, .inl ⟨rfl, pos, hc⟩⟩ (Heap.get?_push_size _ rfl) (I.hok.fresh hsz) (far I hsz) ?_
    rcases D with D | ⟨d, v, d1, d2, d3, d4, d5⟩
    · exact .inl D
    · exact .inr ⟨d, v, d1, d2, up _ _ d3, d4, d5⟩
  | none =>
    refine PySem.W.kdv_makeTail (mg := X.mg) (c := c) (P := P) (closure_ok fre) I.ok.glob (I.mod.glob.keeps I.bk) hcode (TB.code.keeps I.bk) gP ht hc TB.gP (TB.bm.keeps I.bk) fun c' ctv doc h' tk hx hge hlt hrec htb => ?_
    obtain ⟨c2, oc, vs, t, e2, hoc, hd, hv⟩ := hrec
    cases e2
    have hsz : s.heap.objs.size ≤ h'.objs.size := Nat.le_trans hge (Nat.le_of_lt hlt)
    have nC : H c' = none := I.hok.fresh hge
    have pu : ∀ b o, h'.get? b = some o → (h'.push (lamObj X params body scope dV doc ((X.mg "__name__").getD .none) c' ctv)).get? b = some o := fun b o e => Heap.get?_push_of_some _ e
    have I1 := inv_table (q := X.env.qual ++ "<lambda>") (t' := tk) (more := #[rawInt pos.line, rawInt pos.col, .ref c']) (h' := h'.push (lamObj X params body scope dV doc ((X.mg "__name__").getD .none) c' ctv)) I hP (fun b o hb e => pu b o (hx b o hb e)) (pu _ _ htb) hge ⟨oc, vs, t, pu _ _ hoc, hd, hv⟩
    have el : (ps ++ #[rawInt pos.line, rawInt pos.col, .ref c']).toList = ps.toList ++ [rawInt pos.line, rawInt pos.col, .ref c'] := by simp
    have fN : ∀ b, H b = none → b ≠ c' → upd (upd H P (.tbl (ps ++ #[rawInt pos.line, rawInt pos.col, .ref c']))) c' (CodeO c' (X.env.qual ++ "<lambda>")) b = none := fun b e z => by
      rw [upd_ne z, upd_ne (fun y => by rw [y, hP] at e; cases e)]
      exact e
    refine h h'.objs.size c' doc _ ctv _ _ I1 ⟨upd_same, .inr ⟨_, nC, rfl, by rw [el]; exact PySem.TriplesOk_snoc _ _ _ _ ht, fun p2 cv z => ?_⟩⟩ (Heap.get?_push_size _ rfl) (fN _ (I.hok.fresh hsz) (Nat.ne_of_gt hlt)) (far I hsz) ?_
    · rw [el] at z
      exact among_app _ ht z
    · rcases D with D | ⟨d, v, d1, d2, d3, d4, d5⟩
      · exact .inl D
      · have dl := Heap.lt_size d3
        have dP : d ≠ P := fun z => by rw [z, hP] at d4; cases d4
        exact .inr ⟨d, v, d1, d2, pu _ _ (hx _ _ dP d3), fN _ d4 (Nat.ne_of_lt (Nat.lt_of_lt_of_le dl hge)), d5⟩
end
end Q4

namespace Q4
open PySem PySem.Spec PyProof.Rows L2 LamX
section
variable {X : Cx} {pins : List (Addr × Obj)} {σ : L2.St} {H HZ : Hp} {s s1 : Shared}
theorem lam_eval {c P : Addr} {params : Arguments} {body : Expr} {scope : Scope} {pos : Pos} {ps : Array Value} {Q : Value → Shared → Prop} (I : Inv X pins σ H s) (TB : TabB X.base X.mg c P) (hcode : X.env.code = .ref c) (T : TabK H P (X.env.qual ++ "<lambda>") ps)
    (L : LamN X.env.scope scope X.N) (D : LamD params body scope)
    (h : ∀ (f c' : Addr) (dV doc pm ctv : Value) (H1 : Hp) (s' : Shared), Inv X pins σ H1 s' → LamH P (X.env.qual ++ "<lambda>") ps H H1 c' → s'.heap.get? f = some (lamObj X params body scope dV doc pm c' ctv) → H1 f = none → f ∉ frs X.stack → DvA X H1 s'.heap params dV → Q (.ref f) s') :
    wpAny (model X.prog X.w) X.A (eval (.Lambda params body scope pos) X.env) Q X.xe s := by
  cases D with
  | zero h1 h2 h3 =>
    refine PySem.W.kla_eval (by rw [defaultsOf_eq, h1, h2] <;> rfl) ?_
    rw [makeFunction_eq]
    simp only [List.zip_nil_right, List.filterMap_nil, List.isEmpty_nil, if_true, pure_bind]
    exact lam_tail I TB hcode T L (.inl ⟨h1, rfl⟩) fun f c' doc pm ctv H1 s' => h f c' .none doc pm ctv H1 s'
  | @one i j p n h1 h2 h3 h4 =>
    refine PySem.W.kdv_lam (by rw [h1] <;> rfl) h2 ?_
    rw [h1]
    refine PySem.W.kdv_all1 (thn ((pe_int (X := X) (i := i) (j := j) (pos := p)).run pins s σ H (fun _ H1 => H1 = H) I rfl) fun u s1 ⟨x, H1, I1, _, e⟩ => PySem.W.kdv_all0 ?_)
    subst e
    rw [makeFunction_eq]
    simp only [List.zip_nil_right, List.filterMap_nil, List.isEmpty_nil, List.isEmpty_cons, if_true, pure_bind, Bool.false_eq_true, if_false]
    refine wpAny_bind (wpAny_newTextTuple ?_)
    have I2 : Inv X pins σ H1 { s1 with heap := s1.heap.push (PySem.W.kdv_tup [u]) } := I1.kept (t' := s1.toks) fun b o e => Heap.get?_push_of_some _ e
    exact lam_tail I2 TB hcode T L (.inr ⟨s1.heap.objs.size, u, by rw [h1]; simp, rfl, Heap.get?_push_size _ rfl, I1.hok.fresh (Nat.le_refl _), far I1 (Nat.le_refl _)⟩) fun f c' doc pm ctv H2 s' => h f c' _ doc pm ctv H2 s'
/-- the body is entered: what the lambda captured stands -/
theorem lam_in {A : Around} {outer : List Env} {E : XK} {scope : Scope} {f c' : Addr} {h₁ : Heap} {tk : Nat} {bs : List (Str × Value)} (I : Inv X pins σ H s) (L : LamN X.env.scope scope X.N) (e0 : Env0 X.prog X.w X.K X.mg X.base A outer s1 HZ) (hd : A.handled = none)
    (un : Un (frs X.stack) [] H HZ s.heap s1.heap) (hns : h₁.Ns s1.heap.objs.size fun y => bs.reverse.lookup y) (kp : ∀ b o, s1.heap.get? b = some o → h₁.get? b = some o) : Inv (lamCx X A outer s1 HZ E scope f c') [] σ HZ { s1 with heap := h₁, toks := tk } := by
  have fre := L.has I.ok
  have cm : ∀ {y c}, (cloFrom X.env.cells scope.names []).lookup y = some c → X.env.cells.lookup y = some c := fun {y c} e => (cloFrom_mem (PySem.mem_of_lookup e)).elim (fun z => nomatch z) fun ⟨z1, z2⟩ => by
    obtain ⟨d, hd'⟩ := fre _ z1 rfl
    have hd' : X.env.cells.lookup y = some d := hd'
    rw [hd'] at z2
    have z2 : c = d := z2
    rw [z2]
    exact hd'
  have lk : ∀ {y}, scope.names.lookup y = some .free → ∃ c, (cloFrom X.env.cells scope.names []).lookup y = some c := fun {y} z => mem_lookup (cloFrom_has (cells := X.env.cells) (acc := []) (show (y, NameKind.free) ∈ scope.names from PySem.mem_of_lookup z))
  have ck : ∀ {c : Addr} {v : Option Value}, H c = none → s.heap.IsCell c v → h₁.IsCell c v := fun {c v} n ⟨o, ho, hd⟩ => by
    obtain ⟨sl, q⟩ := un.any ho n (by simp)
    exact ⟨_, kp _ _ q, hd⟩
  have nx : ∀ b : Addr, b ∉ (lamCx X A outer s1 HZ E scope f c').ex := fun b z => nomatch (show b ∈ ([] : List Addr) from z)
  refine ⟨⟨e0.mod, L.kd, rfl, rfl, Nat.le_refl _, fun y z c e1 e2 => I.ok.inj y z c (cm e1) (cm e2), ?has, ?fn, fun _ => hd, Around.frames_deeper e0.frames, .inr ⟨rfl, rfl⟩, fun b z => absurd z (nx b), e0.bs, e0.bsz, fun b _ _ => nx b, fun b z => absurd z (nx b), e0.funs, e0.frf⟩, rfl, e0.bare, Un.kept kp, ⟨_, hns, ?loc⟩, ?cell, e0.hok.fresh (Nat.le_refl _), ?freeC, fun q hq => absurd (show q ∈ ([] : List (Addr × Obj)) ++ [] from hq) (by simp), e0.hok.kept kp, I.len⟩
  case has => exact fun y z => (show scope.names.lookup y = some .cell ∨ scope.names.lookup y = some .free from z).elim (fun z => absurd rfl (L.nc _ (PySem.mem_of_lookup z))) lk
  case fn => exact fun y c z _ => nomatch (show false = true from z)
  case cell => exact fun y c e => let ⟨v, z⟩ := I.cell y c (cm e); ⟨v, ck (I.freeC y c (cm e)) z⟩
  case freeC =>
    intro y c e
    obtain ⟨v, o, ho, _⟩ := I.cell y c (cm e)
    exact un.free c o ho (I.freeC y c (cm e)) (by simp)
  case loc =>
    intro i y v e1 e2 e3
    have e1 : X.N[i]? = some y := e1
    rcases (show Vis scope y from e3) with k | k | k
    · exact absurd (List.mem_of_getElem? e1) (L.off _ (PySem.mem_of_lookup k) rfl)
    · exact absurd rfl (L.nc _ (PySem.mem_of_lookup k))
    · obtain ⟨m, _, hl⟩ := I.loc
      have hv : Vis X.env.scope y := (L.fr _ (PySem.mem_of_lookup k) rfl).elim (fun k => .inr (.inl k)) fun k => .inr (.inr k)
      obtain ⟨u, r, q⟩ := hl i y v e1 e2 hv
      obtain ⟨d, h2⟩ := lk k
      refine ⟨u, r, .inr ⟨.inr k, d, h2, ?_⟩⟩
      rcases q with ⟨k', _⟩ | ⟨_, d', e', z⟩
      · have k' : X.env.scope.names.lookup y = some .local := k'
        rcases L.fr _ (PySem.mem_of_lookup k) rfl with z | z <;> (have z : X.env.scope.names.lookup y = _ := z; rw [z] at k'; cases k')
      · have := (cm h2).symm.trans e'
        cases this
        exact ck (I.freeC y _ (cm h2)) z
end
end Q4

namespace Q4
open PySem PySem.Spec PyProof.Rows L2 LamX
section
variable {X : Cx} {pins : List (Addr × Obj)} {σ : L2.St} {H : Hp} {s : Shared}
theorem lam_binds {params : Arguments} {body : Expr} {scope : Scope} {dV doc pm cv ct : Value} {q : Str} {cl : List (Str × Addr)} {H1 : Hp} {s1 : Shared} (D : LamD params body scope) (dv : DvA X H s.heap params dV) (keep : ∀ d o, s.heap.get? d = some o → H d = none → d ∉ frs X.stack → s1.heap.get? d = some o) :
    ∃ bs : List (Str × Value), BindsTo s1 (PySem.W.kdv_fn "<lambda>" q params (.expr body) scope cl dV doc pm cv ct) ⟨[], []⟩ bs ∧ ∀ y ∈ bs, scope.names.lookup y.1 = some .local := by
  cases D with
  | zero h1 h2 h3 =>
    rcases dv with ⟨_, rfl⟩ | ⟨d, v, n, _⟩
    · exact ⟨[], .of_eq (h3 q cl doc pm cv ct), fun y z => nomatch z⟩
    · exact absurd h1 n
  | @one i j p n h1 h2 h3 h4 =>
    rcases dv with ⟨e, _⟩ | ⟨d, v, _, rfl, e1, e2, e3⟩
    · rw [h1] at e; cases e
    · obtain ⟨k, k1, k2⟩ := h4 q cl d doc pm cv ct
      exact ⟨[(n, v)], BindsTo.of_defaults (T := d) rfl (keep d _ e1 e2 e3) rfl k1 (k2 v), fun y z => by rw [List.mem_singleton.mp z]; exact h3⟩
theorem lam_act {CXg : CXT} {Eg : XK} {Ng : List Str} {qg : Str} {sg : Scope} {g f c' : Addr} {cdg doc pm ctv dV : Value} {params : Arguments} {body : Expr} {scope : Scope} {k i : Nat} {a : Str} {pn : List (Addr × Obj)} {xe : Value → Shared → Prop} {W : WX} {E : XK} {tb : TE} {p1 p2 : Pos}
    (I : Inv X pins σ H s) (L : LamN X.env.scope scope X.N) (D : LamD params body scope) (dv : DvA X H s.heap params dV) (hf : s.heap.get? f = some (lamObj X params body scope dV doc pm c' ctv)) (hfn : H f = none) (hfr : f ∉ frs X.stack)
    (tk : Takes ((cxOf CXg X.prog X.w X.K X.mg X.base Ng qg sg g cdg X.A X.stack s H Eg).tr pn xe) W) (hW : ∀ cls d σ' H', E cls d H' → W cls d σ' H') (hr : Room (k + 1) (X.A.deeper (envOfC qg sg s.heap.objs.size g cdg)))
    (hbody : ∀ (A : Around) (outer : List Env) (s2 : Shared) (H2 : Hp), Room k (A.deeper (lamEnv X scope s2.heap.objs.size f c')) → PE (lamCx X A outer s2 H2 E scope f c') body tb)
    (hN : Ng[i]? = some a) (hv : Vis sg a) (hd : (a == ("__debug__" : Str)) = false := by decide) (hcd : (a == ("__classdict__" : Str)) = false := by decide) :
    PE ((cxOf CXg X.prog X.w X.K X.mg X.base Ng qg sg g cdg X.A X.stack s H Eg).tr pn xe) (.Call (.Name a p1) [] [] p2) (fun σZ HZ Q => σZ[i]? = some (some (.ref f)) ∧ HZ c' = some (CodeO c' (X.env.qual ++ "<lambda>")) ∧ tb σ HZ Q) := by
  refine ⟨fun pz sZ σZ HZ Q IZ ⟨hs, hc, ht⟩ => ?_⟩
  refine wpAny_Call_Name_kw (thn ((pe_var (pos := p1) (i := i) hN hv hd hcd).run pz sZ σZ HZ (fun v H1 => v = .ref f ∧ H1 = HZ) IZ ⟨.ref f, hs, rfl, rfl⟩) fun u s1 ⟨v, H1, I1, r1, ev, eH⟩ => ?_)
  subst ev
  rw [eH] at I1
  obtain rfl : u = Value.ref f := r1
  have keep : ∀ d o, s.heap.get? d = some o → H d = none → d ∉ frs X.stack → s1.heap.get? d = some o := fun d o e n m => I1.base.keep d _ e n m (fun z => nomatch (show d ∈ ([] : List Addr) from z))
  have of1 := keep f _ hf hfn hfr
  refine PySem.W.callWith_F0 ⟨_, _, _, _, of1⟩ ?_
  obtain ⟨⟨oc, vs, t, hoc, hdc, hvc⟩, _, _⟩ := I1.hok c' _ hc
  obtain ⟨bs, hb, hbl⟩ := lam_binds (q := X.env.qual ++ "<lambda>") (cl := cloFrom X.env.cells scope.names []) (doc := doc) (pm := pm) (cv := .ref c') (ct := ctv) (s1 := s1) (H1 := HZ) D dv keep
  have go : codeAny (model X.prog X.w) (X.A.deeper (envOfC qg sg s.heap.objs.size g cdg)) (.call (.ref f) ⟨[], []⟩) (CR (L2.CX X.prog X.w) (envOfC qg sg s.heap.objs.size g cdg :: X.stack) X.prog X.w HZ s1 Q E) s1 := by
    refine PySem.W.kla_callFunE hr.depth of1 rfl L.co L.ge rfl ⟨c', oc, vs, t, rfl, hoc, hdc, hvc⟩ (hb _ _ _ _ ?_)
    refine wpAny_newFunctionEnv L.nc hbl (fun h₁ hns hsb => ⟨I1.nolimit.fresh _ hsb, ?_⟩) L.kd
    show codeAny _ _ (.expr body (lamEnv X scope s1.heap.objs.size f c')) _ _
    have up : ∀ b o, s1.heap.get? b = some o → h₁.get? b = some o := fun b o e => hsb.extBut b o (Nat.ne_of_lt (Heap.lt_size e)) (Heap.get?_push_of_some _ e)
    have J : Inv (lamCx X (X.A.deeper (envOfC qg sg s.heap.objs.size g cdg)) (envOfC qg sg s.heap.objs.size g cdg :: X.stack) s1 HZ E scope f c') [] σ HZ { s1 with heap := h₁, toks := s1.toks + bs.length } := lam_in I L I1.env0 hr.hd I1.base hns up
    refine PySem.W.kla_codeExpr (wpAny_mono ((hbody _ _ s1 HZ (hr.deeper _)).run [] _ _ HZ Q J ht) (fun v s' ⟨w', H', J', rv, q⟩ => ⟨w', H', J'.os, J'.bare, J'.base, J'.hok, rv, q⟩) fun e s' z => z)
  refine wpAny_call (codeAny_mono go fun r s' z => ?_)
  cases r with
  | error e => exact passes_call tk hW pz σZ HZ s1 e s' I1 z
  | ok fl =>
    cases fl with
    | ret u => exact I1.after z
    | _ => exact False.elim z
end
/-- what a def makes of the lambda that it is handed -/
def Gives (X : Cx) (Ng : List Str) (x : Str) (sg : Scope) (g : Addr) (cdg : Value) (bg : List Stmt) (a : Str) (q : Str) (TT : (XK → Hp → VK → Prop) → Hp → VK → Prop) : Prop :=
  ∀ (f c' : Addr) (s : Shared) (H : Hp) (Q : VK) (tl : XK → Hp → VK → Prop),
    (∀ (W : WX) (pn : List (Addr × Obj)) (xe : Value → Shared → Prop) (E : XK) (p1 p2 : Pos), Takes ((cxOf C8.CX0 X.prog X.w X.K X.mg X.base Ng x sg g cdg X.A X.stack s H C8.E0).tr pn xe) W → (∀ cls d σ' H', E cls d H' → W cls d σ' H') →
      PE ((cxOf C8.CX0 X.prog X.w X.K X.mg X.base Ng x sg g cdg X.A X.stack s H C8.E0).tr pn xe) (.Call (.Name a p1) [] [] p2) (fun σZ HZ Q => σZ[0]? = some (some (.ref f)) ∧ HZ c' = some (CodeO c' q) ∧ tl E HZ Q)) →
    H c' = some (CodeO c' q) → TT tl H Q → ∃ t, PSs (cxOf C8.CX0 X.prog X.w X.K X.mg X.base Ng x sg g cdg X.A X.stack s H C8.E0).nox bg t ∧ t { nx := fun _ H' => Q .non H', rt := Q } (L2.start Ng [.ref f]) H
/-- x(lambda: body) -/
def tLamC (P : Addr) (q : Str) (TT : (XK → Hp → VK → Prop) → Hp → VK → Prop) (t : XK → TE) : TE := fun σ H Q => ∃ ps, TabK H P q ps ∧ ∀ H1 c', LamH P q ps H H1 c' → TT (fun E H' Q' => t E σ H' Q') H1 Q
theorem pe_lamC {X : Cx} {TT : (XK → Hp → VK → Prop) → Hp → VK → Prop} {x a : Str} {g c P : Addr} {k : Nat} {pg : Arguments} {bg : List Stmt} {sg : Scope} {dV kV doc pm cdv ct oc : Value} {an od : Option Addr} {osl : Array (Option Value)} {Ng : List Str}
    {params : Arguments} {body : Expr} {scope : Scope} {t : XK → TE} {p lpos pos : Pos} (hg : Gl X x) (hm : X.mg x = some (.ref g)) (hk : PySem.W.keepIn X.K (.ref g) = true)
    (lk : X.K.lookup g = some ⟨oc, od, .func (PySem.W.fnOf x x pg bg sg dV kV doc pm an cdv ct), osl⟩) (hcg : PySem.W.codeIn X.K cdv x = true) (hb : L2.Binds X.K (PySem.W.fnOf x x pg bg sg dV kV doc pm an cdv ct) [a] []) (Sg : FnScope Ng [a] sg) (hNg : Ng[0]? = some a) (hva : Vis sg a)
    (hG : Gives X Ng x sg g cdv bg a (X.env.qual ++ "<lambda>") TT) (TB : TabB X.base X.mg c P) (hcode : X.env.code = .ref c) (hr : Room (k + 2) X.A) (L : LamN X.env.scope scope X.N) (D : LamD params body scope)
    (hbody : ∀ (A : Around) (outer : List Env) (s : Shared) (H : Hp) (E : XK) (f c' : Addr), Room k (A.deeper (lamEnv X scope s.heap.objs.size f c')) → PE (lamCx X A outer s H E scope f c') body (t E))
    (hdb : (x == ("__debug__" : Str)) = false := by decide) (hd : (a == ("__debug__" : Str)) = false := by decide) (hcd : (a == ("__classdict__" : Str)) = false := by decide) :
    PE X (.Call (.Name x p) [.Lambda params body scope lpos] [] pos) (tLamC P (X.env.qual ++ "<lambda>") TT t) := by
  refine ⟨fun pins s σ H Q I ⟨ps, hT, h⟩ => wpAny_Call_Name_kw (ld_glob I hg hm (PySem.W.callWith_K (h₀ := X.base) I.ok.mod.kin hk ?_ (by rfl) (by rfl)) hdb)⟩
  show wpAny _ _ (spliced ((false, eval (.Lambda params body scope lpos) X.env) :: backTo pos (starEach [] X.env))) _ _ s
  refine Calls.spliced_cons (lam_eval I TB hcode hT L D fun f c' dV' doc' pm' ctv H1 s' I1 lh hf hfn hfr dv => Calls.spliced_nil ⟨I1.kIn, ?_⟩)
  have go : codeAny (model X.prog X.w) X.A (.call (.ref g) ⟨[.ref f], []⟩) (CR C8.CX0 X.stack X.prog X.w H1 s' Q C8.E0) s' := by
    refine run_ofS (N := Ng) (ps := [a]) (us := [.ref f]) (vs := [.ref f]) lk hcg Sg hr I1.env0 (hb s' [.ref f] I1.kIn rfl) (.cons rfl .nil) rfl fun hr' => ?_
    obtain ⟨t', a1, a2⟩ := hG f c' s' H1 Q (fun E H' Q' => t E σ H' Q') (fun W pn xe E p1 p2 tk hW => lam_act (i := 0) I1 L D dv hf hfn hfr tk hW hr' (fun A outer s H hr2 => hbody A outer s H E f c' hr2) hNg hva hd hcd) lh.1 (h H1 c' lh)
    exact ⟨t', a1.nox, a2⟩
  refine wpAny_call (codeAny_mono go fun r s2 z => ?_)
  cases r with
  | error e => exact (show False from z).elim
  | ok fl =>
    cases fl with
    | ret u => exact I1.after z
    | _ => exact False.elim z
end Q4

namespace PM
open PySem PySem.Spec PyProof.Rows L2 Q2
/-! ### x(lambda: e) -/
/-- the table of a def's lambdas stands in the store -/
def hasT (x : Str) (S : Sto) : Bool := S.any fun o => match o with
  | .tbl q => decide (q = x)
  | _ => false
def mLam (x : Str) (ms : Res Va → Res Va) (e : ME) : ME := fun Γ S => if hasT x S = true then noX (ms (e Γ S)) else .bad
/-- what the def makes of the lambda's result -/
def ttm (K : KX) (mg : Str → Option Value) (ms : Res Va → Res Va) : (XK → Hp → VK → Prop) → Hp → VK → Prop := fun tl H Q => ∃ ρ S r, RS K ρ S H ∧ (∀ E Q', Aft K (xwE mg E) [] (Rv K) Q' ρ H r → tl E H Q') ∧ Aft K WF [] (Rv K) Q ρ H (ms r)
theorem Aft.noW {K : KX} {W W' : XW} {σ σ' : L2.St} {Q : VK} {ρ : List Addr} {H : Hp} {r : Res Va} (h : Aft K W σ (Rv K) Q ρ H (PM.noX r)) : Aft K W' σ' (Rv K) Q ρ H r := by
  cases r with
  | ok v S => exact h
  | bad => exact h
  | ex c f v S => exact h.elim
theorem hasT_at {x : Str} {S : Sto} (h : hasT x S = true) : ∃ j : Nat, S[j]? = some (Ob.tbl x) := by
  unfold hasT at h
  obtain ⟨o, ho, e⟩ := List.any_eq_true.mp h
  obtain ⟨j, hj⟩ := List.mem_iff_getElem?.mp ho
  cases o with
  | tbl q =>
    have e : q = x := by simpa using e
    subst e
    exact ⟨j, hj⟩
  | _ => cases e
theorem hasT_of {x : Str} {S : Sto} {j : Nat} (h : S[j]? = some (Ob.tbl x)) : hasT x S = true := by
  unfold hasT
  exact List.any_eq_true.mpr ⟨_, List.mem_of_getElem? h, by simp⟩
/-- the table is written, a code object is new: what stood in the store stands -/
theorem RS.tab {K : KX} {ρ : List Addr} {S : Sto} {H H1 : Hp} {x : Str} {j : Nat} {P c' : Addr} {ps : Array Value} (R : RS K ρ S H) (hj : S[j]? = some (Ob.tbl x)) (hP : ρ[j]? = some P) (hp : H P = some (.tbl ps)) (L : Q4.LamH P (lamQ x) ps H H1 c') : Ext ρ ρ H H1 ∧ RS K ρ S H1 := by
  obtain ⟨hc, h⟩ := L
  rcases h with ⟨rfl, _⟩ | ⟨more, nC, rfl, tr, am⟩
  · exact ⟨R.refl, R⟩
  · have inP : P ∈ ρ := List.mem_of_getElem? hP
    have off : ∀ b, b ≠ P → b ≠ c' → upd (upd H P (.tbl (ps ++ more))) c' (LamX.CodeO c' (lamQ x)) b = H b := fun b h1 h2 => by rw [upd_ne h2, upd_ne h1]
    have E : Ext ρ ρ H (upd (upd H P (.tbl (ps ++ more))) c' (LamX.CodeO c' (lamQ x))) := ⟨R.nt, ⟨[], by simp⟩, fun b o e n => by rw [off b (fun z => n (z ▸ inP)) (ne_of_none e nC)]; exact e, fun b h n => absurd h n⟩
    have nPc : P ≠ c' := ne_of_none hp nC
    refine ⟨E, R.len, R.nd, fun n a o h1 h2 => ?_⟩
    by_cases e : n = j
    · subst e
      obtain rfl : a = P := Option.some.inj (h1.symm.trans hP)
      obtain rfl : o = Ob.tbl x := Option.some.inj (h2.symm.trans hj)
      obtain ⟨ps', g1, g2, g3, g4⟩ := R.at_ n a _ h1 h2
      obtain rfl : ps' = ps := by
        have := g1.symm.trans hp
        injection this with this
        injection this
      refine ⟨ps' ++ more, by rw [upd_ne nPc, upd_same], tr, fun pos cv z => ?_, g4⟩
      rcases am pos cv z with z | z
      · obtain ⟨c0, z1, z2, z3⟩ := g3 pos cv z
        refine ⟨c0, z1, z2, ?_⟩
        rw [off c0 (fun y => z2 (y ▸ inP)) (ne_of_none z3 nC)]
        exact z3
      · exact ⟨c', z, R.fresh nC, upd_same⟩
    · have na : a ≠ P := fun z => by
        subst z
        obtain ⟨i1, e1⟩ := List.getElem?_eq_some_iff.mp h1
        obtain ⟨i2, e2⟩ := List.getElem?_eq_some_iff.mp hP
        exact e ((List.getElem_inj R.nd).mp (e1.trans e2.symm))
      have ro := R.at_ n a o h1 h2
      obtain ⟨u, hu, _⟩ := ro.nt
      exact ro.ext E (off a na (ne_of_none hu nC))
theorem pm_lam {X : Cx} {W : XW} {x g a : Str} {ga c P : Addr} {fd : FuncData} {st : Stmt} {Ng : List Str} {k : Nat} {ms : Res Va → Res Va} {e : ME} {params : Arguments} {body : Expr} {scope : Scope} {p lpos pos : Pos}
    (hx : X.env.qual = x ++ ".<locals>.") (hcode : X.env.code = .ref c) (ht : PySem.W.tabIn X.K x = some (c, P)) (TB : LamX.TabB X.base X.mg c P) (hg : Gl X g) (gl : X.mg g = some (.ref ga)) (F : FnP X.K g st ga fd) (bd : Binds X.K fd [a] []) (sc : FnScope Ng [a] (defScope st)) (hNg : Ng[0]? = some a) (hva : Vis (defScope st) a)
    (hG : ∀ cdv, Q4.Gives X Ng g (defScope st) ga cdv (defBody st) a (X.env.qual ++ "<lambda>") (ttm (kxOf X) X.mg ms)) (hr : Room (k + 2) X.A) (L : Q4.LamN X.env.scope scope X.N) (D : Q4.LamD params body scope)
    (hbody : ∀ (A : Around) (outer : List Env) (s : Shared) (H : Hp) (E : XK) (f c' : Addr), Room k (A.deeper (LamX.lamEnv X scope s.heap.objs.size f c')) → Takes (LamX.lamCx X A outer s H E scope f c') (wx X.mg (xwE X.mg E)) → PM (LamX.lamCx X A outer s H E scope f c') (xwE X.mg E) body e)
    (hdb : (g == ("__debug__" : Str)) = false := by decide) (hd : (a == ("__debug__" : Str)) = false := by decide) (hcd : (a == ("__classdict__" : Str)) = false := by decide) :
    PM X W (.Call (.Name g p) [.Lambda params body scope lpos] [] pos) (mLam x ms e) := by
  obtain ⟨oc, od, kV, doc, pm, an, cdv, ct, osl, rfl, lk, hcg⟩ := F.ex
  refine pe_imp (Q4.pe_lamC (t := fun E => tM (kxOf X) (xwE X.mg E) e) hg gl F.kp lk hcg bd sc hNg hva (hG cdv) TB hcode hr L D (fun A outer s H E f c' hr2 => hbody A outer s H E f c' hr2 ?_) hdb hd hcd) fun σ H Q ⟨ρ, Γ, S, R, G, q⟩ => ?_
  · exact (takes_of (X := LamX.lamCx X A outer s H E scope f c') (E := E) rfl rfl rfl rfl).imp fun cls d σ H h => by
      obtain ⟨c, dd, h1, rfl, h2⟩ := h
      exact h2 cls h1
  · unfold mLam at q
    by_cases hT : hasT x S = true
    · rw [if_pos hT] at q
      obtain ⟨j, hj⟩ := hasT_at hT
      obtain ⟨P', hP, ps, g1, g2, g3, c0, g4⟩ := R.adr hj
      have g4 : PySem.W.tabIn X.K x = some (c0, P') := g4
      cases ht.symm.trans g4
      have eq : X.env.qual ++ "<lambda>" = lamQ x := by rw [hx]; rfl
      rw [eq]
      refine ⟨ps, ⟨g1, g2, fun pos cv z => ?_⟩, fun H1 c' lh => ?_⟩
      · obtain ⟨c0, z1, _, z3⟩ := g3 pos cv z
        exact ⟨c0, z1, z3⟩
      · obtain ⟨E1, R1⟩ := R.tab hj hP g1 lh
        refine ⟨ρ, S, e Γ S, R1, fun E Q' aft => ⟨ρ, Γ, S, R1, G.ext E1, ?_⟩, (q.shift E1).noW⟩
        cases er : e Γ S with
        | bad => rw [er] at aft; exact aft
        | ok v S' => rw [er] at aft; exact aft
        | ex cc f v S' => rw [er] at aft; exact aft
    · rw [if_neg hT] at q
      exact q.elim
end PM

namespace PM
open PySem PySem.Spec PyProof.Rows L2 Q2
/-! ### a def that calls what it got, first of all, within try -/
def seqR (k : MS) : Rs → Rs
  | .nx Γ S => k Γ S
  | r => r
def finR : Rs → Res Va
  | .nx _ S => .ok .non S
  | .rt v S => .ok v S
  | .ex c f v _ S => .ex c f v S
  | _ => .bad
inductive AskK where
  | set (i : Nat) | ret | exp
def askR (kd : AskK) (Γ : En) (r : Res Va) : Rs := thenS Γ r fun v S => match kd with
  | .set i => .nx (Γ.set i (some v)) S
  | .ret => .rt v S
  | .exp => .nx Γ S
def excR (tab : Str → Str → Option Bool) (cl : List Cl) : Rs → Rs
  | .ex c f v Γ S => tryCl tab c f v Γ S cl
  | r => r
/-- n names; the call's place; the clauses; what follows -/
def mSaid (n : Nat) (kd : AskK) (tab : Str → Str → Option Bool) (cl : List Cl) (rest : MS) : Res Va → Res Va := fun r => finR (seqR rest (excR tab cl (askR kd (List.replicate n none) r)))
theorem fin_aft {K : KX} {Q : VK} {ρ : List Addr} {H : Hp} {r : Rs} (h : Aft K WF [] (Rv K) Q ρ H (finR r)) : AftS K WF { nx := fun _ H' => Q .non H', rt := Q } ρ H r := by
  cases r with
  | bad => exact h
  | nx Γ' S' => exact fun ρ' H' σ' E' R' G' => h ρ' H' .non E' R' rfl
  | rt v S' => exact h
  | bk Γ' S' => exact h.elim
  | ct Γ' S' => exact h.elim
  | ex c f v Γ' S' => exact fun ρ' H' σ' w d E' R' G' rv hd => h ρ' H' w d E' R' rv hd
theorem seq_aft {K : KX} {W : XW} {D : Ends} {ρ : List Addr} {H : Hp} {k : MS} {r : Rs} (h : AftS K W D ρ H (seqR k r)) : AftS K W { D with nx := tMS K W k D } ρ H r := by
  cases r with
  | nx Γ' S' => exact fun ρ' H' σ' E' R' G' => ⟨ρ', Γ', S', R', G', h.shift E'⟩
  | bad => exact h
  | rt v S' => exact h
  | bk Γ' S' => exact h
  | ct Γ' S' => exact h
  | ex c f v Γ' S' => exact h
theorem re0 {K : KX} {ρ : List Addr} {H : Hp} {n : Nat} {σ : L2.St} (h : σ.length = n) : RE K ρ H (List.replicate n none) σ := ⟨by simp [h], fun i v e => by
  rw [List.getElem?_replicate] at e
  split at e <;> cases e⟩
theorem takes_len {X : Cx} {W : WX} (t : Takes X W) : Takes X fun c d σ H => σ.length = X.N.length → W c d σ H := fun u s' ⟨a, B, sI, pins, σ, H, cls, d, e, I, nb, up, sky, na, os, ag, w⟩ => t u s' ⟨a, B, sI, pins, σ, H, cls, d, e, I, nb, up, sky, na, os, ag, w I.len⟩
theorem start_len {N : List Str} {v : V} (h : 0 < N.length) : (L2.start N [v]).length = N.length := by
  unfold L2.start
  simp
  omega
section
variable {X : Cx} {Ng : List Str} {x a q : Str} {sg : Scope} {g : Addr} {p1 p2 p3 p4 pos : Pos} {h₀ : ExceptHandler} {hds : List ExceptHandler} {rest : List Stmt} {tab : Str → Str → Option Bool} {cl : List Cl} {mr : MS}
abbrev saidCx (X : Cx) (Ng : List Str) (x : Str) (sg : Scope) (g : Addr) (cdg : Value) (s : Shared) (H : Hp) : Cx := (cxOf C8.CX0 X.prog X.w X.K X.mg X.base Ng x sg g cdg X.A X.stack s H C8.E0).nox
def endK (kd : AskK) (D : Ends) (σ : L2.St) : VK := fun w H2 => match kd with
  | .set i => D.nx (σ.set i (some w)) H2
  | .ret => D.rt w H2
  | .exp => D.nx σ H2
theorem gives_try {kd : AskK} {S1 : Stmt} {cdg : Value} (h0 : 0 < Ng.length)
    (hB : ∀ (s : Shared) (H : Hp) (pn : List (Addr × Obj)) (xe : Value → Shared → Prop) (te : TE), PE ((saidCx X Ng x sg g cdg s H).tr pn xe) (.Call (.Name a p1) [] [] p2) te → ∃ t : TS, PS ((saidCx X Ng x sg g cdg s H).tr pn xe) S1 t ∧ ∀ D σ H', te σ H' (endK kd D σ) → t D σ H')
    (hh : ∀ (s : Shared) (H : Hp), ClM (saidCx X Ng x sg g cdg s H) tab (h₀ :: hds) cl) (hr : ∀ (s : Shared) (H : Hp), PMSs (saidCx X Ng x sg g cdg s H) WF rest mr) (ne : ∀ f : Addr, (L2.start Ng [V.ref f])[0]? = some (some (V.ref f))) :
    Q4.Gives X Ng x sg g cdg (.Try [S1] (h₀ :: hds) [] [] pos :: rest) a q (ttm (kxOf X) X.mg (mSaid Ng.length kd tab cl mr)) := by
  intro f c' s H Q tl act hc ⟨ρ, S, r, R, htl, aq⟩
  obtain ⟨l', k1, k2⟩ := cl_ok (hh s H)
  have aq := seq_aft (fin_aft aq)
  let D1 : Ends := { nx := tMS (kxOf X) WF mr { nx := fun _ H' => Q .non H', rt := Q }, rt := Q }
  let TB : WX → TS := fun V D σ H' => ∃ Ech : XK, (∀ cls d σ' H', Ech cls d H' → σ'.length = Ng.length → V cls d σ' H') ∧ σ[0]? = some (some (.ref f)) ∧ H' c' = some (LamX.CodeO c' q) ∧ tl Ech H' (endK kd D σ)
  refine ⟨_, pss_cons (Q3.ps_try_mix (X := saidCx X Ng x sg g cdg s H) (Wout := wx X.mg WF) (tb := TB) rfl rfl takesF (fun V pn xe tk' po => pss_one ?body) k1) (hr s H), ?_⟩
  case body =>
    refine ⟨fun pins s' σ H' D I ⟨Ech, hW, h1, h2, h3⟩ => ?_⟩
    obtain ⟨t, t1, t2⟩ := hB s H pn xe _ (act (fun c d σ H => σ.length = Ng.length → V c d σ H) pn xe Ech p1 p2 (takes_len tk') (fun cls d σ' H' z => hW cls d σ' H' z))
    exact t1.run pins s' σ H' D I (t2 D σ H' ⟨h1, h2, h3⟩)
  · refine ⟨fun cls d H' => ∀ σ' : L2.St, σ'.length = Ng.length → Q3.wMix X.K (wx X.mg WF) D1 l' cls d σ' H', fun cls d σ' H' z hl => z σ' hl, ne f, hc, htl _ _ ?_⟩
    cases r with
    | bad => exact aq.elim
    | ok v S1 =>
      cases kd with
      | set i =>
        intro ρ' H' w E' R' rv
        exact aq ρ' H' ((L2.start Ng [V.ref f]).set i (some w)) E' R' ((re0 (start_len h0)).set i rv)
      | ret => exact fun ρ' H' w E' R' rv => aq ρ' H' w E' R' rv
      | exp => exact fun ρ' H' w E' R' rv => aq ρ' H' _ E' R' (re0 (start_len h0))
    | ex c fl v S1 =>
      intro ρ' H' w d E' R' rv hd cls hcls σ' hl
      exact k2 WF D1 c fl v _ S1 ρ' H' σ' w d cls hcls R' (re0 hl) rv hd (AftS.shift E' aq)
theorem gives_set {i : Nat} {y : Str} {cdg : Value} (hc : sg.names.lookup y = some .local) (nd : Ng.Nodup) (ix : Ng[i]? = some y) (hs : ∀ (s : Shared) (H : Hp), swapsWith (.Call (.Name a p1) [] [] p2) (some (.Name y p4)) p3.line (saidCx X Ng x sg g cdg s H).env = pure false)
    (hh : ∀ (s : Shared) (H : Hp), ClM (saidCx X Ng x sg g cdg s H) tab (h₀ :: hds) cl) (hr : ∀ (s : Shared) (H : Hp), PMSs (saidCx X Ng x sg g cdg s H) WF rest mr) (ne : ∀ f : Addr, (L2.start Ng [V.ref f])[0]? = some (some (V.ref f))) :
    Q4.Gives X Ng x sg g cdg (.Try [.Assign [.Name y p4] (.Call (.Name a p1) [] [] p2) p3] (h₀ :: hds) [] [] pos :: rest) a q (ttm (kxOf X) X.mg (mSaid Ng.length (.set i) tab cl mr)) :=
  gives_try (p1 := p1) (p2 := p2) (Nat.lt_of_le_of_lt (Nat.zero_le _) (List.getElem?_eq_some_iff.mp ix).1) (fun s H pn xe te he => ⟨_, ps_set (i := i) nd ix (.inl hc) he (hs s H) (.inr hc), fun D σ H' h => h⟩) hh hr ne
theorem gives_ret {cdg : Value} (h0 : 0 < Ng.length) (hh : ∀ (s : Shared) (H : Hp), ClM (saidCx X Ng x sg g cdg s H) tab (h₀ :: hds) cl) (hr : ∀ (s : Shared) (H : Hp), PMSs (saidCx X Ng x sg g cdg s H) WF rest mr) (ne : ∀ f : Addr, (L2.start Ng [V.ref f])[0]? = some (some (V.ref f))) :
    Q4.Gives X Ng x sg g cdg (.Try [.Return (some (.Call (.Name a p1) [] [] p2)) p3] (h₀ :: hds) [] [] pos :: rest) a q (ttm (kxOf X) X.mg (mSaid Ng.length .ret tab cl mr)) :=
  gives_try (p1 := p1) (p2 := p2) h0 (fun s H pn xe te he => ⟨_, ps_ret he, fun D σ H' h => h⟩) hh hr ne
theorem gives_exp {cdg : Value} (h0 : 0 < Ng.length) (hs : ∀ (s : Shared) (H : Hp), swapsWith (.Call (.Name a p1) [] [] p2) none p3.line (saidCx X Ng x sg g cdg s H).env = pure false) (hh : ∀ (s : Shared) (H : Hp), ClM (saidCx X Ng x sg g cdg s H) tab (h₀ :: hds) cl) (hr : ∀ (s : Shared) (H : Hp), PMSs (saidCx X Ng x sg g cdg s H) WF rest mr) (ne : ∀ f : Addr, (L2.start Ng [V.ref f])[0]? = some (some (V.ref f))) :
    Q4.Gives X Ng x sg g cdg (.Try [.Expr (.Call (.Name a p1) [] [] p2) p3] (h₀ :: hds) [] [] pos :: rest) a q (ttm (kxOf X) X.mg (mSaid Ng.length .exp tab cl mr)) :=
  gives_try (p1 := p1) (p2 := p2) h0 (fun s H pn xe te he => ⟨_, ps_expr he (hs s H), fun D σ H' h => h⟩) hh hr ne
end
end PM

namespace PM
open PySem PySem.Spec PyProof.Rows L2 Q2
/-! ### the law, at the top -/
theorem fn_imp {P : Program} {w : World} {K : PySem.W.Frag} {mg : Str → Option Value} {base : Heap} {cx : CXT} {k : Nat} {f : Addr} {fd : FuncData} {ps : List Str} {sp sp' : Sp} (F : FnOk P w K mg base cx k f fd ps sp) (h : ∀ vs H Q E, sp' vs H Q E → sp vs H Q E) : FnOk P w K mg base cx k f fd ps sp' :=
  ⟨fun vs H Q E q => F.len vs H Q E (h _ _ _ _ q), fun A outer s H args us vs Q E hr e0 hb r q => F.run A outer s H args us vs Q E hr e0 hb r (h _ _ _ _ q)⟩
def spTop (K : KX) (g : MF) : Sp := fun vs H Q _ => vs.length = 1 ∧ ∃ as S', Rvs K [] H as vs ∧ g as [] = .ok (.bl true) S' ∧ ∀ H', Q (.bl true) H'
theorem spTop_up {K : KX} {mg : Str → Option Value} {g : MF} : ∀ vs H Q E, spTop K g vs H Q E → spM K mg 1 g vs H Q E := by
  rintro vs H Q E ⟨hl, as, S', r, e, q⟩
  refine ⟨hl, [], [], as, ⟨rfl, List.nodup_nil, fun n a o h _ => by simp at h⟩, r, ?_⟩
  rw [e]
  intro ρ' H' w _ _ rw
  cases rw
  exact q H'
theorem fzl_of {K : PySem.W.Frag} {H : Hp} {a : Addr} {xs : List V} (o : Only H) (h : SqL K H a xs) : FzL K H a xs := by
  rcases h with (h | h) | h
  · rcases o a with z | ⟨_, _, z⟩
    · rw [h] at z; cases z
    · rw [h] at z; cases z
  · exact .inl h
  · exact .inr h
theorem ints_rol {K : KX} {ρ : List Addr} {H : Hp} : ∀ ns : List Int, Rvs K ρ H (ns.map Va.int) (ns.map V.int)
  | [] => rfl
  | n :: ns => Rvs.cons rfl (ints_rol ns)
theorem top_ok {K : KX} {g : MF} (h : ∀ ns : List Int, ns.length ≤ 63 → ∃ S', g [.rol (ns.map Va.int)] [] = .ok (.bl true) S') {H : Hp} {a : Addr} {ns : List Int} (hl : ns.length ≤ 63) (o : Only H) (hs : SqL K.K H a (ns.map V.int)) {E : XK} : spTop K g [.ref a] H (fun v _ => v = .bl true) E := by
  obtain ⟨S', e⟩ := h ns hl
  exact ⟨rfl, [.rol (ns.map Va.int)], S', Rvs.cons (x := .rol (ns.map Va.int)) ⟨a, _, rfl, fzl_of o hs, ints_rol ns⟩ rfl, e, fun _ => rfl⟩
/-- a tuple that stands in the written part -/
theorem tupW {K : KX} {a : Addr} {od : Option Addr} {its : Array Value} {n : Nat} {sl : Array (Option Value)} {xs : List Va} {ws : List V} (h : K.K.lookup a = some ⟨.type "tuple", od, .seq its n, sl⟩) (hl : its.size ≤ sizeLine) (v : Vals ws its.toList) (r : ∀ ρ H, Rvs K ρ H xs ws) : ∀ ρ H, Rv K ρ H (.tup xs) (.ref a) :=
  fun ρ H => ⟨a, ws, rfl, .inr ⟨_, its, n, h, rfl, rfl, hl, v⟩, r ρ H⟩
example {K : KX} {a : Addr} {od : Option Addr} {t1 t2 : Tok} {n : Nat} {sl : Array (Option Value)} (h : K.K.lookup a = some ⟨.type "tuple", od, .seq #[.int 3 t1, .none, .int 2 t2] n, sl⟩) : ∀ ρ H, Rv K ρ H (.tup [.int 3, .non, .int 2]) (.ref a) :=
  tupW (ws := [.int 3, .non, .int 2]) h (Nat.le_of_ble_eq_true rfl) (.cons ⟨_, rfl⟩ (.cons rfl (.cons ⟨_, rfl⟩ .nil))) (fun ρ H => Rvs.cons rfl (Rvs.cons rfl (Rvs.cons rfl rfl)))
end PM

namespace PM
open PySem PySem.Spec PyProof.Rows L2 Q2
/-! ### a def that makes lambdas: its code object is known -/
theorem code_tab {K : PySem.W.Frag} {x : Str} {f : Addr} {oc cdv : Value} {od : Option Addr} {fd : FuncData} {osl : Array (Option Value)} (hn : PySem.W.nsIn K mainGlobals x = some (some (.ref f))) (lk : K.lookup f = some ⟨oc, od, .func fd, osl⟩) (e : fd.code = cdv) {c P : Addr} (h : PySem.W.tabIn K x = some (c, P)) : cdv = .ref c := by
  unfold PySem.W.tabIn at h
  rw [hn] at h
  simp only [lk, e] at h
  split at h
  · split at h
    · split at h
      · cases h; rfl
      · cases h
    · cases h
  · cases h
theorem tab_mk {K : PySem.W.Frag} {x : Str} {f c P : Addr} {oc cc : Value} {od cd : Option Addr} {fd : FuncData} {osl csl : Array (Option Value)} {vs : Array Value} (hn : PySem.W.nsIn K mainGlobals x = some (some (.ref f))) (lk : K.lookup f = some ⟨oc, od, .func fd, osl⟩) (e : fd.code = .ref c) (lc : K.lookup c = some ⟨cc, cd, .fields vs, csl⟩) (h : vs[11]? = some (.ref P)) : PySem.W.tabIn K x = some (c, P) := by
  unfold PySem.W.tabIn
  rw [hn]
  simp only [lk, e, lc, h]
section
variable {P : Program} {w : World} {K : PySem.W.Frag} {mg : Str → Option Value} {base : Heap}
theorem fn_okC {k : Nat} {x : Str} {st : Stmt} {f : Addr} {fd : FuncData} {N ps : List Str} {m : MS} (F : FnP K x st f fd) (S : FnScope N ps (defScope st)) (hn : PySem.W.nsIn K mainGlobals x = some (some (.ref f)))
    (hb : ∀ (cdv : Value) (A : Around) (outer : List Env) (s : Shared) (H : Hp) (E : XK) (W : XW), (∀ {c P' : Addr}, PySem.W.tabIn K x = some (c, P') → cdv = .ref c) → Room k (A.deeper (envOfC x (defScope st) s.heap.objs.size f cdv)) →
      Takes (cxOf (L2.CX P w) P w K mg base N x (defScope st) f cdv A outer s H E) (wx mg W) → PMSs (cxOf (L2.CX P w) P w K mg base N x (defScope st) f cdv A outer s H E) W (defBody st) m) :
    FnOk P w K mg base (L2.CX P w) (k + 1) f fd ps (spM ⟨K, P, w⟩ mg ps.length (fnM N.length m)) := by
  obtain ⟨oc, od, kV, doc, pm, an, cdv, ct, osl, e, lk, hcd⟩ := F.ex
  have hc : ∀ {c P' : Addr}, PySem.W.tabIn K x = some (c, P') → cdv = .ref c := fun h => code_tab hn lk (by rw [e]) h
  subst e
  refine fn_of lk hcd S (fun vs H Q E h => h.1) fun A outer s H vs Q E hr h => ?_
  obtain ⟨hl, ρ, S0, as, R, r, q⟩ := h
  have tk : Takes (cxOf (L2.CX P w) P w K mg base N x (defScope st) f cdv A outer s H E) (wx mg (xwE mg E)) :=
    (takes_of (X := cxOf (L2.CX P w) P w K mg base N x (defScope st) f cdv A outer s H E) (E := E) rfl rfl rfl rfl).imp fun cls d σ H h => by
      obtain ⟨c, dd, h1, rfl, h2⟩ := h
      exact h2 cls h1
  refine ⟨_, hb cdv A outer s H E (xwE mg E) hc hr tk, ρ, _, S0, R, RE.start r N, ?_⟩
  unfold fnM at q
  cases e : m (as.map some ++ List.replicate (N.length - as.length) none) S0 with
  | bad => rw [e] at q; exact q
  | nx Γ' S' => rw [e] at q; exact fun ρ' H' σ' E' R' G' => q ρ' H' .non E' R' rfl
  | rt v S' => rw [e] at q; exact q
  | bk Γ' S' => rw [e] at q; exact q.elim
  | ct Γ' S' => rw [e] at q; exact q.elim
  | ex c f v Γ' S' => rw [e] at q; exact fun ρ' H' σ' w d E' R' G' rv hd => q ρ' H' w d E' R' rv hd
end
/-! ### the law, with tables -/
def spTopT (K : KX) (g : MF) : Sp := fun vs H Q _ => vs.length = 1 ∧ ∃ ρ S as S', RS K ρ S H ∧ Rvs K ρ H as vs ∧ g as S = .ok (.bl true) S' ∧ ∀ H', Q (.bl true) H'
theorem spTopT_up {K : KX} {mg : Str → Option Value} {g : MF} : ∀ vs H Q E, spTopT K g vs H Q E → spM K mg 1 g vs H Q E := by
  rintro vs H Q E ⟨hl, ρ, S, as, S', R, r, e, q⟩
  refine ⟨hl, ρ, S, as, R, r, ?_⟩
  rw [e]
  intro ρ' H' w _ _ rw
  cases rw
  exact q H'
/-- the store at the start: a table for each def that makes lambdas -/
def tabsOf (xs : List Str) : Sto := xs.map Ob.tbl
theorem rs_tabs {K : KX} {H : Hp} : ∀ {xs : List Str} {ps : List Addr}, (∀ p ∈ ps, H p = some (.tbl #[])) → ps.Nodup → xs.length = ps.length → (∀ (n : Nat) (x : Str) (p : Addr), xs[n]? = some x → ps[n]? = some p → ∃ c, PySem.W.tabIn K.K x = some (c, p)) → RS K ps (tabsOf xs) H := fun {xs ps} h nd hl ht =>
  ⟨by unfold tabsOf; simp [hl], nd, fun n a o h1 h2 => by
    unfold tabsOf at h2
    rw [List.getElem?_map] at h2
    cases e : xs[n]? with
    | none => rw [e] at h2; cases h2
    | some x =>
      rw [e] at h2
      cases h2
      exact ⟨#[], h a (List.mem_of_getElem? h1), True.intro, fun pos cv z => by
        have z' : codeAmong pos [] = some cv := z
        simp [codeAmong] at z', ht n x a e h1⟩⟩
/-- what the law must keep: the script as a list that nobody changes, or as one of the store -/
def LawT (xs : List Str) (g : MF) : Prop := ∀ (ns : List Int) (v : Va) (T : Sto), ns.length ≤ 63 → lstOf (tabsOf xs ++ T) v = some (ns.map Va.int) → ((∃ zs, v = .rol zs) ∨ ∃ j, v = .ref j) → ∃ S', g [v] (tabsOf xs ++ T) = .ok (.bl true) S'
theorem top_okT {K : KX} {g : MF} {xs : List Str} {ps : List Addr} (h : LawT xs g) {H : Hp} {a : Addr} {ns : List Int} (hl : ns.length ≤ 63) (hp : ∀ p ∈ ps, H p = some (.tbl #[])) (nd : ps.Nodup) (hlen : xs.length = ps.length) (ht : ∀ (n : Nat) (x : Str) (p : Addr), xs[n]? = some x → ps[n]? = some p → ∃ c, PySem.W.tabIn K.K x = some (c, p))
    (hs : SqL K.K H a (ns.map V.int)) {E : XK} : spTopT K g [.ref a] H (fun v _ => v = .bl true) E := by
  have R : RS K ps (tabsOf xs) H := rs_tabs hp nd hlen ht
  by_cases z : H a = some (.lst (ns.map V.int))
  · have na : a ∉ ps := fun m => by
      rw [hp a m] at z
      cases z
    have hz : (ns.map Va.int).length ≤ sizeLine := by rw [List.length_map, sizeLine_eq]; omega
    have R2 := R.adopt (xs := ns.map Va.int) na z hz (ints_rol ns)
    have hat : (tabsOf xs ++ [Ob.lst (ns.map Va.int)])[(tabsOf xs).length]? = some (.lst (ns.map Va.int)) := by
      rw [List.getElem?_append_right (Nat.le_refl _), Nat.sub_self]
      rfl
    obtain ⟨S', e⟩ := h ns (.ref (tabsOf xs).length) [.lst (ns.map Va.int)] hl (by unfold lstOf; simp only [hat]) (.inr ⟨_, rfl⟩)
    refine ⟨rfl, ps ++ [a], _, [.ref (tabsOf xs).length], S', R2, Rvs.cons (x := .ref _) ⟨a, ?_, rfl⟩ rfl, e, fun _ => rfl⟩
    rw [← R.len, List.getElem?_append_right (Nat.le_refl _), Nat.sub_self]
    rfl
  · obtain ⟨S', e⟩ := h ns (.rol (ns.map Va.int)) [] hl rfl (.inl ⟨_, rfl⟩)
    rw [List.append_nil] at e
    refine ⟨rfl, ps, _, [.rol (ns.map Va.int)], S', R, Rvs.cons (x := .rol (ns.map Va.int)) ⟨a, _, rfl, ?_, ints_rol ns⟩ rfl, e, fun _ => rfl⟩
    rcases hs with (h1 | h1) | h1
    · exact absurd h1 z
    · exact .inl h1
    · exact .inr h1
end PM
namespace LamX
open PySem PySem.Spec PyProof.Rows L2
/-- the end of a law: what is known of the tables at the head is handed on -/
theorem walk_tab {l : PySem.W.OpenLaw} {n k : Nat} {q : Program} {loose : List Str} {XP : (Str → Option Value) → Heap → Prop} {YP : World → Heap → Prop} {d : DefRec} {K : Params → PySem.W.Frag} {CX : World → CXT} {x : Str}
    (hn : l.most = some n) (hn2 : n ≤ sizeLine) (hdf : d.params.defaults = []) (hr : Room k callerA) (hY : ∀ (w : World) (h : Heap), YP w h → (K w.params).In h)
    (F : ∀ (w : World) (mg : Str → Option Value) (fa : Addr) (h : Heap), YP w h → (K w.params).In h → h.Ns mainGlobals mg → mg d.name = some (.ref fa) → (∀ {d' : DefRec} {y : Str} {c P : Addr}, (recsOf q).find? (fun e => e.name == y) = some d' → PySem.W.tabIn (K w.params) y = some (c, P) → PySem.W.CodeHd h c P ∧ h.get? P = some { cls := .none, data := .fields #[] }) → LawAtS l w (K w.params) (CX w) k n x mg fa h)
    (hCX : ∀ (w : World) (H : Hp) (s : Shared) (e : Value) (s' : Shared), CX w [] H s (fun _ _ _ => False) e s' → False) : PySem.W.WalkO q loose XP YP l.row.toRowW d [] (fun f vs => PySem.call f vs) := by
  refine Att.attach_callB hn hdf fun w s₀ s₁ mg mb fa o pm cd doc a vs ns G Y ho hd hcd hmg hobj hints hlen hbits hg => ?_
  have kx := hY w _ Y
  obtain ⟨fd, cs, sp, hT, nT, C, hb, hsp, hF⟩ := F w mg fa _ Y kx G.T.g hmg fun h1 h2 => PySem.W.tab_of G.T kx h1 h2
  exact law_callTs kx G.T.g G.T.b G.T.builtins G.T.nolimit hg hT nT C G.T.bmain hobj hints (Nat.le_trans hlen hn2) hr hF hb (fun H z1 z2 => hsp H a ns hlen hbits z1 z2) fun H e s' => hCX w H s₁ e s'
end LamX

namespace PM
open PySem PySem.Spec PyProof.Rows L2 Q2
inductive TabsIn (K : PySem.W.Frag) : List Str → List (Addr × Addr) → Prop
  | nil : TabsIn K [] []
  | cons {x : Str} {p : Addr × Addr} {xs : List Str} {cs : List (Addr × Addr)} : PySem.W.tabIn K x = some p → TabsIn K xs cs → TabsIn K (x :: xs) (p :: cs)
theorem TabsIn.len {K : PySem.W.Frag} {xs : List Str} {cs : List (Addr × Addr)} (h : TabsIn K xs cs) : xs.length = cs.length := by
  induction h with
  | nil => rfl
  | cons _ _ ih => simp [ih]
theorem TabsIn.get {K : PySem.W.Frag} {xs : List Str} {cs : List (Addr × Addr)} (h : TabsIn K xs cs) : ∀ {n : Nat} {x : Str} {p : Addr × Addr}, xs[n]? = some x → cs[n]? = some p → PySem.W.tabIn K x = some p := by
  induction h with
  | nil => intro n x p e; simp at e
  | cons h _ ih =>
    intro n x p e1 e2
    cases n with
    | zero => cases e1; cases e2; exact h
    | succ n => exact ih (by simpa using e1) (by simpa using e2)
theorem TabsIn.mem {K : PySem.W.Frag} {xs : List Str} {cs : List (Addr × Addr)} (h : TabsIn K xs cs) : ∀ p ∈ cs, ∃ x ∈ xs, PySem.W.tabIn K x = some p := by
  induction h with
  | nil => intro p m; cases m
  | cons h _ ih =>
    intro p m
    rcases List.mem_cons.mp m with rfl | m
    · exact ⟨_, List.mem_cons_self, h⟩
    · obtain ⟨x, m1, e⟩ := ih p m
      exact ⟨x, List.mem_cons_of_mem _ m1, e⟩
theorem lawAtS_of {l : PySem.W.OpenLaw} {w : World} {K : PySem.W.Frag} {mg : Str → Option Value} {fa : Addr} {h : Heap} {x : Str} {lev : Nat} {q : Program} {xs : List Str} {cs : List (Addr × Addr)} {g : MF} (hl : LawT xs g)
    (M : ∃ fd : FuncData, (∀ (s : Shared) (v : Value), BindsTo s fd ⟨[v], []⟩ [(x, v)]) ∧ TabsIn K xs cs ∧ ∀ base : Heap, K.In base → base.Ns mainGlobals mg → (∀ p ∈ cs, LamX.TabB base mg p.1 p.2) → FnOk l.prog w K mg base (L2.CX l.prog w) lev fa fd [x] (spTopT ⟨K, l.prog, w⟩ g))
    (htab : ∀ {d' : DefRec} {y : Str} {c P : Addr}, (recsOf q).find? (fun e => e.name == y) = some d' → PySem.W.tabIn K y = some (c, P) → PySem.W.CodeHd h c P ∧ h.get? P = some { cls := .none, data := .fields #[] })
    (nT : ∀ p ∈ cs, K.lookup p.2 = none) (rec_ : ∀ y ∈ xs, ∃ d' : DefRec, (recsOf q).find? (fun e => e.name == y) = some d') (nd : (cs.map (·.2)).Nodup) : LamX.LawAtS l w K (L2.CX l.prog w) lev 63 x mg fa h := by
  obtain ⟨fd, hb, T, hF⟩ := M
  have at_ : ∀ p ∈ cs, PySem.W.CodeHd h p.1 p.2 ∧ h.get? p.2 = some { cls := .none, data := .fields #[] } := fun p m => by
    obtain ⟨y, my, e⟩ := T.mem p m
    obtain ⟨d', hd⟩ := rec_ y my
    exact htab hd e
  refine ⟨fd, cs, spTopT ⟨K, l.prog, w⟩ g, fun p m => (at_ p m).2, nT, fun p m => (at_ p m).1, hb, fun H a ns hn _ hp hs => ?_, hF⟩
  refine top_okT (ps := cs.map (·.2)) hl hn (fun p m => ?_) nd (by rw [T.len]; simp) (fun n y p e1 e2 => ?_) hs
  · obtain ⟨r, mr, rfl⟩ := List.mem_map.mp m
    exact hp r mr
  · rw [List.getElem?_map] at e2
    cases e3 : cs[n]? with
    | none => rw [e3] at e2; cases e2
    | some r =>
      rw [e3] at e2
      cases e2
      exact ⟨r.1, T.get e1 e3⟩
end PM

namespace PM
open PySem PySem.Spec PyProof.Rows L2 Q2
/-! ### e is True, e is not False .. of bools -/
def rIsB (neg : Bool) : R2 := fun x y H Q => ∃ b c : Bool, x = .bl b ∧ y = .bl c ∧ Q (.bl (if neg = true then !decide (b = c) else decide (b = c))) H
def isB (neg : Bool) : F2 := fun v w S => match v, w with
  | .bl b, .bl c => some (.bl (if neg = true then !decide (b = c) else decide (b = c)), S)
  | _, _ => none
theorem op_isB {X : Cx} : OpR X (compareOp .Is) (rIsB false) := by
  intro pins s σ H x y v u Q I rx ry h
  obtain ⟨b, c, rfl, rfl, q⟩ := h
  cases rx
  cases ry
  have e : compareOp .Is (.bool b) (.bool c) = pure (.bool (decide (b = c))) := by cases b <;> cases c <;> rfl
  rw [e]
  exact wpAny_pure ⟨.bl _, H, I, rfl, q⟩
theorem op_notB {X : Cx} : OpR X (compareOp .IsNot) (rIsB true) := by
  intro pins s σ H x y v u Q I rx ry h
  obtain ⟨b, c, rfl, rfl, q⟩ := h
  cases rx
  cases ry
  have e : compareOp .IsNot (.bool b) (.bool c) = pure (.bool (!decide (b = c))) := by cases b <;> cases c <;> rfl
  rw [e]
  exact wpAny_pure ⟨.bl _, H, I, rfl, q⟩
theorem isB_m {K : KX} {neg : Bool} : OpM K (rIsB neg) (isB neg) := fun ρ S H v w x y Q R rv rw a => by
  cases v with
  | bl b =>
    cases w with
    | bl c => cases rv; cases rw; exact ⟨b, c, rfl, rfl, a ρ H _ R.refl R rfl⟩
    | _ => exact a.elim
  | _ => exact a.elim
theorem oIsB {X : Cx} : OpP X (compareOp .Is) (isB false) := ⟨_, op_isB, isB_m⟩
theorem oNotB {X : Cx} : OpP X (compareOp .IsNot) (isB true) := ⟨_, op_notB, isB_m⟩
theorem wo_isB {S : Sto} {Q : Va → Sto → Prop} {b c : Bool} (q : Q (.bl (decide (b = c))) S) : Wo (isB false (.bl b) (.bl c) S) Q := q
theorem wo_notB {S : Sto} {Q : Va → Sto → Prop} {b c : Bool} (q : Q (.bl (!decide (b = c))) S) : Wo (isB true (.bl b) (.bl c) S) Q := q
end PM

namespace PM
open PySem PySem.Spec PyProof.Rows L2 Q2
/-! ### () + t -/
def catE : F2 := fun v w S => match v, w with
  | .tup [], .tup ys => if ys.length ≤ sizeLine then some (.tup ys, S) else none
  | _, _ => none
theorem oCatE {X : Cx} : OpP X (binaryOp .Add) catE := by
  refine ⟨_, op_catA, fun ρ S H v w x y Q R rv rw a => ?_⟩
  cases v with
  | tup xs =>
    cases xs with
    | cons z zs => exact a.elim
    | nil =>
      cases w with
      | tup ys =>
        obtain ⟨hl, a⟩ := ans_if (p := ys.length ≤ sizeLine) (o := some (.tup ys, S)) a
        obtain ⟨p, ws, rfl, h1, r1⟩ := rv
        obtain ⟨p2, us, rfl, h2, r2⟩ := rw
        cases r1
        refine ⟨p, p2, [], us, rfl, rfl, h1, h2, by rw [← r2.len]; simpa using hl, fun _ => a ρ H _ R.refl R ⟨p2, us, rfl, h2, r2⟩, fun z => absurd rfl z, fun z => absurd rfl z⟩
      | _ => exact a.elim
  | _ => exact a.elim
def fAddE : F2 := orF2 fAdd catE
theorem oAddE {X : Cx} : OpP X (binaryOp .Add) fAddE := oAdd.or oCatE
theorem wo_addE {S : Sto} {Q : Va → Sto → Prop} {xs ys : List Va} (h : xs.length + ys.length ≤ sizeLine) (q : Q (.tup (xs ++ ys)) S) : Wo (fAddE (.tup xs) (.tup ys) S) Q := by
  cases xs with
  | nil =>
    have e : fAddE (.tup []) (.tup ys) S = some (.tup ys, S) := by
      have e1 : fAdd (.tup []) (.tup ys) S = none := rfl
      unfold fAddE orF2
      rw [e1]
      unfold catE
      simp only
      rw [if_pos (by simpa using h)]
    rw [e]
    exact q
  | cons x xs =>
    have e : fAddE (.tup (x :: xs)) (.tup ys) S = some (.tup (x :: xs ++ ys), S) := by
      unfold fAddE orF2
      rw [fAdd_tup (by simpa using h)]
    rw [e]
    exact q
end PM

namespace Q2
open PySem PySem.Spec PyProof.Rows L2
/-! ### t[::-1] of four, and a list extended by a tuple -/
section
variable {prog : Program} {w : World} {A : Around} {E : Value → Shared → Prop} {s : Shared}
theorem sliceApplied_rev4 {sl : Addr} {tk : Tok} {Q : Int × Int × Nat → Shared → Prop} (hs : s.heap.IsSliceOf sl .none .none (.int (-1) tk)) (h : Q (3, -1, 4) s) :
    wpAny (model prog w) A (Builtin.Slice.sliceApplied (.ref sl) (pure ((4 : Nat) : Int))) Q E s := by
  obtain ⟨os, hos, hcs, hds⟩ := id hs
  unfold Builtin.Slice.sliceApplied Builtin.Slice.sliceFields
  refine wpAny_bind (wpAny_bind (wpAny_field hos hds (x := .none) rfl (wpAny_bind (wpAny_field hos hds (x := .none) rfl (wpAny_bind (wpAny_field hos hds (x := .int (-1) tk) rfl (wpAny_pure ?_)))))))
  refine wpAny_bind (slicePart_int ?_)
  show wpAny _ _ (if ((-1 : Int) == 0) = true then _ else _) _ _ s
  rw [if_neg (by decide)]
  refine wpAny_bind (slicePart_none (wpAny_bind (slicePart_none (wpAny_bind (wpAny_pure ?_)))))
  show wpAny _ _ (match Builtin.Slice.sliceAdjust none none (-1) ((4 : Nat) : Int) with | (lo, hi) => pure (lo, (-1 : Int), Builtin.Slice.slicePlaces lo hi (-1))) _ _ s
  rw [show Builtin.Slice.sliceAdjust none none (-1) ((4 : Nat) : Int) = (3, -1) by decide]
  show wpAny _ _ (pure ((3 : Int), (-1 : Int), Builtin.Slice.slicePlaces 3 (-1) (-1))) _ _ s
  rw [show Builtin.Slice.slicePlaces 3 (-1) (-1) = 4 by decide]
  exact wpAny_pure h
theorem getItem_tuple_rev4 {t sl : Addr} {u v x y : Value} {tk : Tok} {Q : Value → Shared → Prop} (ht : IsTup s.heap t #[u, v, x, y]) (hs : s.heap.IsSliceOf sl .none .none (.int (-1) tk))
    (h : Q (.ref s.heap.objs.size) { s with heap := s.heap.push { cls := .type "tuple", data := .seq #[y, x, v, u] } }) : wpAny (model prog w) A (getItem (.ref t) (.ref sl)) Q E s := by
  have hdrop : sizeOk (.seq #[y, x, v, u]) := by
    show 4 ≤ sizeLine
    decide
  obtain ⟨os, hos, hcs, hds⟩ := id hs
  have hTs : s.TypeIs (.ref sl) "slice" := ⟨os, hos, hcs⟩
  unfold getItem
  try with_reducible refine wpAny_holding ?_
  first | refine wpAny_bind (wpAny_pure ?_) | skip
  refine wpAny_bind (wpAny_sequenceKey ht.typeIs (by decide) ?_)
  refine wpAny_bind (wpAny_callSpecial?_slot (name := Str.ofString "__getitem__") ht.typeIs PyProof.Rows.slot_tuple_getitem
    (wpAny_call_entry PyProof.Rows.slot_tuple_getitem ht.typeIs entry_tuple_getitem ?_ (args_tuple_getitem _ _)))
  show wpAny _ _ (Builtin.Tuple.tupleItemsOf (.ref t) >>= _) _ _ s
  refine wpAny_bind (tupleItemsOf_ ht ?_)
  refine wpAny_bind (wpAny_typeOf hTs ?_)
  rw [if_pos (by decide)]
  refine wpAny_bind (sliceApplied_rev4 hs ?_)
  show wpAny _ _ (if ((3 : Int) == 0 && (-1 : Int) == 1 && (4 : Nat) == 4) = true then _ else _) _ _ s
  rw [if_neg (by decide)]
  have pick : ((List.range 4).filterMap fun (k : Nat) => (#[u, v, x, y] : Array Value)[((3 : Int) + (k : Int) * (-1)).toNat]?).toArray = #[y, x, v, u] := rfl
  rw [pick]
  first
    | exact wpAny_bind (m := Builtin.Tuple.tupleExact _) (wpAny_newObj_type (wpAny_pure ⟨_, rfl, wpAny_pure h⟩) hdrop)
    | exact wpAny_bind (m := Builtin.Tuple.tupleExact _) (wpAny_newObj_type (wpAny_bind (wpAny_pure (wpAny_pure ⟨_, rfl, wpAny_pure h⟩))) hdrop)
    | exact wpAny_bind (wpAny_bind (m := Builtin.Tuple.tupleExact _) (wpAny_newObj_type (wpAny_pure (wpAny_pure ⟨_, rfl, wpAny_pure h⟩)) hdrop))
    | exact wpAny_bind (wpAny_bind (m := Builtin.Tuple.tupleExact _) (wpAny_newObj_type (wpAny_pure ⟨_, rfl, wpAny_pure h⟩) hdrop))
end
section
variable {X : Cx}
def tRev4 (K : PySem.W.Frag) (te : TE) : TE := fun σ H Q => te σ H fun x H1 => ∃ a v0 v1 v2 v3, x = .ref a ∧ SqT K H1 a [v0, v1, v2, v3] ∧ ∀ r, H1 r = none → Q (.ref r) (upd H1 r (.tup [v3, v2, v1, v0]))
theorem pe_rev4 {e : Expr} {te : TE} {k : Nat} {p1 p2 p3 pos : Pos} (he : PE X e te) : PE X (.Subscript e (.Slice none none (some (.UnaryOp .USub (.Constant (.int 1) k p1) p2)) p3) pos) (tRev4 X.K te) := by
  refine ⟨fun pins s σ H Q I h => ?_⟩
  refine Subscript_ (thn (he.run pins s σ H _ I h) fun v s1 ⟨x, H1, I1, r1, q1⟩ => ?_)
  obtain ⟨a, x0, x1, x2, x3, ex, hx, q⟩ := q1
  subst ex
  cases r1
  have hst : PO X (some (.UnaryOp .USub (.Constant (.int 1) k p1) p2)) (tPart (tUn (rU fun i => .int (-i)) (tC (.int 1)))) := po_some (pe_un un_neg pe_int)
  refine wpAny_Slice (thn (po_none.run pins s1 σ H1 (fun o H2 => o = none ∧ H2 = H1) I1 ⟨rfl, rfl⟩) fun vl s2 ⟨l, H2, I2, pl, el, e2⟩ => ?_)
  subst el e2
  refine thn (po_none.run pins s2 σ H2 (fun o H3 => o = none ∧ H3 = H2) I2 ⟨rfl, rfl⟩) fun vu s3 ⟨u, H3, I3, pu, eu, e3⟩ => ?_
  subst eu e3
  refine thn (hst.run pins s3 σ H3 (fun o H4 => o = some (-1) ∧ H4 = H3) I3 ⟨1, rfl, -1, rfl, rfl, rfl⟩) fun vs s4 ⟨o, H4, I4, ps, eo, e4⟩ => ?_
  subst eo e4
  have I5 : Inv X pins σ H4 { s4 with heap := s4.heap.push { cls := .type "slice", data := .fields #[vl, vu, vs] } } := I4.kept (t' := s4.toks) fun b ob q => Heap.get?_push_of_some _ q
  obtain ⟨its, r, ht, hz⟩ := I5.tuple hx
  cases pl
  cases pu
  cases ps
  cases r with
  | cons r1 rr =>
    rename_i u1 us
    cases rr with
    | cons r2 rr =>
      rename_i u2 us
      cases rr with
      | cons r3 rr =>
        rename_i u3 us
        cases rr with
        | cons r4 rr =>
          rename_i u4 us
          cases rr
          show wpAny (model X.prog X.w) X.A (subscriptTail e (.Slice none none (some (.UnaryOp .USub (.Constant (.int 1) k p1) p2)) p3) (.ref a) (.ref s4.heap.objs.size)) (EP X pins σ Q) X.xe { s4 with heap := s4.heap.push { cls := .type "slice", data := .fields #[.none, .none, _] } }
          refine tail_any (ops := [.ref a, .ref s4.heap.objs.size]) ht.typeIs (PyProof.Rows.slot_tuple_getitem.lookup) ?_ (by with_unfolding_all rfl)
          refine getItem_tuple_rev4 (u := u1) (v := u2) (x := u3) (y := u4) ht (Heap.IsSliceOf.new _ .none .none _) ?_
          refine ⟨.ref _, _, I5.laid (t' := s4.toks) (o := .tup [x3, x2, x1, x0]) (fun b ob q => Heap.get?_push_of_some _ q) (Nat.le_refl _) ?_, rfl, q _ (I5.hok.fresh (Nat.le_refl _))⟩
          exact ⟨by show 4 ≤ sizeLine; decide, [u4, u3, u2, u1], .cons r4 (.cons r3 (.cons r2 (.cons r1 .nil))), IsTup.new _ _⟩
theorem list_extend_tupleAt (l : Addr) (items : Array Value) (n : Nat) (b : Addr) (items2 : Array Value) (n2 : Nat) (dd2 : Option Addr) (sl2 : Array (Option Value)) (hs0 : ¬(!items.isEmpty && Builtin.List.listTooLong (items.size + items2.size)) = true) (hs1 : items.size ≤ sizeLine) (hs2 : items.size + items2.size ≤ sizeLine + 1) :
    Meets (Builtin.«list.extend» ⟨[.ref l, .ref b], []⟩) (fun _ R s => s.heap.get? l = some { cls := .type "list", dict := none, data := .seq items n, slots := #[] } ∧ s.heap.get? b = some { cls := .type "tuple", dict := dd2, data := .seq items2 n2, slots := sl2 } ∧ R (.ok (.ret Value.none)) { s with heap := s.heap.update l (Obj.mapSeq fun x => x ++ items2), toks := s.toks }) :=
  .of_wp fun prog w A R s h => by
    obtain ⟨hp, g, d, tk, os⟩ := s
    obtain ⟨hl, hb, h⟩ := h
    have f1 := AutoSeq1.idx_int
    have f2 := AutoSeq1.sub_tuple_tuple
    have f3 := AutoSeq1.sub_list_list
    have f4 := AutoSeq1.sub_tuple_list
    have f5 := AutoSeq1.sub_list_tuple
    have hz' : (items ++ items2).size ≤ sizeLine + 1 := by rw [Array.size_append]; exact hs2
    wp_walk using (wpAny_updateSeq hl rfl (hz := hs1) (_hz' := hz')), AutoSeq1.wpAny_loadPart' hl, AutoSeq1.wpAny_loadPart' hb
    exact ⟨_, rfl, h⟩
def rExtendT (K : PySem.W.Frag) : V → List V → Hp → VK → Prop := fun x vs H Q => ∃ l b xs zs, x = .ref l ∧ vs = [.ref b] ∧ H l = some (.lst xs) ∧ SqT K H b zs ∧ xs.length + zs.length ≤ sizeLine ∧ Q .non (upd H l (.lst (xs ++ zs)))
theorem mt_extendT : MtM X "list.extend" (rExtendT X.K) := by
  intro pins s σ H x vs v us Q I rx rv h
  obtain ⟨l, b, xs, zs, rfl, rfl, hH, hB, hz, q⟩ := h
  cases rx
  obtain ⟨u, rfl, ru⟩ := rv.one
  cases ru
  obtain ⟨z, its, n, r, hl, e⟩ := I.lstM hH
  obtain ⟨its2, r2, p2, hz2⟩ := I.tuple hB
  obtain ⟨⟨cls2, dd2, data2, sl2⟩, ho2, hc2, n2, hd2⟩ := id p2
  simp only at hc2 hd2
  subst hc2 hd2
  have h1 := r.length
  have h2 := r2.length
  have hsz : its.toArray.size + its2.toArray.size ≤ sizeLine := by rw [List.size_toArray, List.size_toArray]; omega
  have hlong : ¬ (!its.toArray.isEmpty && Builtin.List.listTooLong (its.toArray.size + its2.toArray.size)) = true := by
    rw [notLongL hsz, Bool.and_false]
    exact Bool.false_ne_true
  refine call_meets F.slot_list_extend ⟨_, e, rfl⟩ F.entry_list_extend (F.args_list_extend_2 _ _)
    (list_extend_tupleAt l its.toArray n b its2.toArray n2 dd2 sl2 hlong (by rw [List.size_toArray]; omega) (by omega)) ⟨e, ho2, ?_⟩
  refine ⟨.non, _, I.lset (its' := its ++ its2) hH e (by simp) (r.append r2) ?_, rfl, q⟩
  rw [List.length_append]
  omega
end
end Q2

namespace Q2
open PySem PySem.Spec PyProof.Rows L2
/-! ### tuples of two, compared -/
def lt2 (a b : Int × Int) : Bool := decide (a.1 < b.1 ∨ (a.1 = b.1 ∧ a.2 < b.2))
def rLt2 (K : PySem.W.Frag) : R2 := fun x y H Q => ∃ (a b : Addr) (p q : Int × Int), x = .ref a ∧ y = .ref b ∧ SqT K H a [.int p.1, .int p.2] ∧ SqT K H b [.int q.1, .int q.2] ∧ Q (.bl (lt2 p q)) H
section
variable {X : Cx}
theorem raw_pt2 {pins : List (Addr × Obj)} {σ : L2.St} {H : Hp} {s : Shared} {a : Addr} {p : Int × Int} (I : Inv X pins σ H s) (h : SqT X.K H a [.int p.1, .int p.2]) : ∃ tx ty, s.heap.IsTuple a #[.int p.1 tx, .int p.2 ty] := by
  obtain ⟨its, r1, p1, _⟩ := I.tuple h
  cases r1 with
  | cons rx rr =>
    cases rr with
    | cons ry rn =>
      cases rn
      obtain ⟨tx, rfl⟩ := rx
      obtain ⟨ty, rfl⟩ := ry
      exact ⟨tx, ty, p1⟩
theorem op_lt2 (hu : X.A.units < cLine) : OpR X (compareOp .Lt) (rLt2 X.K) := by
  intro pins s σ H vv uu v u Q I rx ry h
  obtain ⟨a, b, ⟨x, y⟩, ⟨x', y'⟩, rfl, rfl, ha, hb, q⟩ := h
  cases rx
  cases ry
  obtain ⟨tx, ty, p1⟩ := raw_pt2 I ha
  obtain ⟨tx', ty', p2⟩ := raw_pt2 I hb
  have R := Ob.RcOp.tuples_lt (A := X.A) (s := s) (e := fun j => match j with | 0 => x == x' | _ => y == y') (r := fun j => match j with | 0 => decide (x < x') | _ => decide (y < y')) p1 p2 hu (fun j h1 h2 => by
    match j, h1 with
    | 0, _ => exact SeqAt.EqAt.int_int _ _ _ _
    | 1, _ => exact SeqAt.EqAt.int_int _ _ _ _) (fun j h1 h2 _ => by
    match j, h1 with
    | 0, _ => exact Ob.RcOp.lt_int _ _ _ _
    | 1, _ => exact Ob.RcOp.lt_int _ _ _ _)
  have e : Ob.lexAt (fun j => match j with | 0 => x == x' | _ => y == y') (fun j => match j with | 0 => decide (x < x') | _ => decide (y < y')) (decide ((#[Value.int x tx, Value.int y ty] : Array Value).size < (#[Value.int x' tx', Value.int y' ty'] : Array Value).size)) 0 (min (#[Value.int x tx, Value.int y ty] : Array Value).size (#[Value.int x' tx', Value.int y' ty'] : Array Value).size) = lt2 (x, y) (x', y') := by
    show (if (x == x') = true then (if (y == y') = true then decide (2 < 2) else decide (y < y')) else decide (x < x')) = lt2 (x, y) (x', y')
    unfold lt2
    by_cases h1 : x = x'
    · subst h1
      by_cases h2 : y = y'
      · subst h2
        simp
      · simp [h2]
    · simp [h1]
  rw [e] at R
  exact R X.prog X.w X.xe (EP X pins σ Q) ⟨.bl _, H, I, rfl, q⟩
end
end Q2
namespace PM
open PySem PySem.Spec PyProof.Rows L2 Q2
section
variable {X : Cx} {W : XW}
def twoI : Va → Option (Int × Int)
  | .tup [.int x, .int y] => some (x, y)
  | _ => none
theorem twoI_eq {v : Va} {p : Int × Int} (h : twoI v = some p) : v = .tup [.int p.1, .int p.2] := by
  unfold twoI at h
  split at h
  · cases h; rfl
  · cases h
def ltT : F2 := fun v w S => match twoI v, twoI w with
  | some p, some q => some (.bl (lt2 p q), S)
  | _, _ => none
theorem rv_two {K : KX} {ρ : List Addr} {H : Hp} {p : Int × Int} {x : V} (h : Rv K ρ H (.tup [.int p.1, .int p.2]) x) : ∃ a, x = .ref a ∧ SqT K.K H a [.int p.1, .int p.2] := by
  obtain ⟨a, ws, rfl, h1, w1, _, rfl, r1, w2, _, rfl, r2, rfl⟩ := h
  have e1 : w1 = .int p.1 := r1
  have e2 : w2 = .int p.2 := r2
  subst e1 e2
  exact ⟨a, rfl, h1⟩
theorem oLtT (hu : X.A.units < cLine) : OpP X (compareOp .Lt) ltT := by
  refine ⟨_, op_lt2 hu, fun ρ S H v w x y Q R rv rw a => ?_⟩
  unfold ltT at a
  cases e1 : twoI v with
  | none => simp only [e1] at a; exact a.elim
  | some p =>
    cases e2 : twoI w with
    | none => simp only [e1, e2] at a; exact a.elim
    | some q =>
      simp only [e1, e2] at a
      have h1 := twoI_eq e1
      have h2 := twoI_eq e2
      subst h1 h2
      obtain ⟨b, rfl, hb⟩ := rv_two rv
      obtain ⟨c, rfl, hc⟩ := rv_two rw
      exact ⟨b, c, p, q, rfl, rfl, hb, hc, a ρ H _ R.refl R rfl⟩
def ltE : F2 := orF2 ltI ltT
theorem oLtE (hu : X.A.units + 64 < cLine) : OpP X (compareOp .Lt) ltE := oLtI.or (oLtT (by omega))
theorem wo_ltE {S : Sto} {Q : Va → Sto → Prop} {x y x' y' : Int} (q : Q (.bl (lt2 (x, y) (x', y'))) S) : Wo (ltE (.tup [.int x, .int y]) (.tup [.int x', .int y']) S) Q := q
/-! ### t[::-1] of four, a list extended by a tuple -/
def mRevT4 (m : ME) : ME := fun Γ S => (m Γ S).bind fun v S1 => match v with
  | .tup xs => match xs with
    | [x, y, z, u] => .ok (.tup [u, z, y, x]) S1
    | _ => .bad
  | _ => .bad
theorem pm_revT4 {e : Expr} {m : ME} {k : Nat} {p1 p2 p3 pos : Pos} (h : PM X W e m) : PM X W (.Subscript e (.Slice none none (some (.UnaryOp .USub (.Constant (.int 1) k p1) p2)) p3) pos) (mRevT4 m) := by
  refine pe_imp (pe_rev4 h) fun σ H Q ⟨ρ, Γ, S, R, G, q⟩ => ?_
  refine ⟨ρ, Γ, S, R, G, q.bind fun v S1 ρ1 H1 x E1 R1 rx q1 => ?_⟩
  cases v with
  | tup xs =>
    match xs, rx, q1 with
    | [], _, q1 => exact q1.elim
    | [_], _, q1 => exact q1.elim
    | [_, _], _, q1 => exact q1.elim
    | [_, _, _], _, q1 => exact q1.elim
    | _ :: _ :: _ :: _ :: _ :: _, _, q1 => exact q1.elim
    | [u, v, w, z], rx, q1 =>
      obtain ⟨a, ws, rfl, h1, w1, _, rfl, r1, w2, _, rfl, r2, w3, _, rfl, r3, w4, _, rfl, r4, rfl⟩ := rx
      refine ⟨a, w1, w2, w3, w4, rfl, h1, fun p hp => ?_⟩
      obtain ⟨E, R2⟩ := R1.own (o := .tup [w4, w3, w2, w1]) hp
      exact q1 ρ1 _ _ E R2 ⟨p, [w4, w3, w2, w1], rfl, SqT.of upd_same, Rvs.cons (r4.ext E) (Rvs.cons (r3.ext E) (Rvs.cons (r2.ext E) (Rvs.cons (r1.ext E) rfl)))⟩
  | _ => exact q1.elim
theorem w_revT4 {m : ME} {Γ : En} {S : Sto} {Q : Va → Sto → Prop} (h : Wp (m Γ S) fun v S1 => ∃ x y z u, v = .tup [x, y, z, u] ∧ Q (.tup [u, z, y, x]) S1) : Wp (mRevT4 m Γ S) Q := Wp.bind (h.mono fun _ _ h => by
  obtain ⟨x, y, z, u, rfl, q⟩ := h
  exact q)
def mExtT (o : ME) (t : MA) : ME := fun Γ S => (o Γ S).bind fun ov S1 => match ov with
  | .ref n => match S1[n]? with
    | some (.lst _) => (t Γ S1).bind fun vs S2 => match vs, S2[n]? with
      | [.tup ys], some (.lst xs) => if xs.length + ys.length ≤ sizeLine then .ok .non (S2.set n (.lst (xs ++ ys))) else .bad
      | _, _ => .bad
    | _ => .bad
  | _ => .bad
theorem pm_extendT {o e : Expr} {es : List Expr} {mo : ME} {t : MA} {apos cpos : Pos} (ho : PM X W o mo) (ht : PMA X W (e :: es) t)
    (hbase : attributeBase o "extend" X.env (eval o X.env) = eval o X.env := by rfl)
    (hfew : ((backTo cpos (starEach (e :: es) X.env)).all (fun x => !x.1) && (backToKw cpos (keywordEach [] X.env)).all (fun x => x.1.isSome)
      && decide ((e :: es).length + ([] : List Keyword).length + (if ([] : List Keyword).isEmpty then 0 else 1) < 30)) = true := by rfl)
    (hline : (apos.endLine == cpos.line) = true := by rfl) (hs : starEach (e :: es) X.env = (false, eval e X.env) :: starEach es X.env := by rfl) (hplain : (backTo cpos (starEach es X.env)).any (·.1) = false := by rfl) :
    PM X W (.Call (.Attribute o "extend" apos) (e :: es) [] cpos) (mExtT mo t) := by
  refine pe_imp (pe_bm PySem.F.plainAttrs_list PySem.F.slot_list_extend PySem.F.type_list_extend mt_extendT ho ht hbase hfew hline hs hplain) fun σ H Q ⟨ρ, Γ, S, R, G, q⟩ => ?_
  refine ⟨ρ, Γ, S, R, G, q.bind fun ov S1 ρ1 H1 x E1 R1 rx q1 => ?_⟩
  cases ov with
  | ref n =>
    obtain ⟨a, ha, rfl⟩ := rx
    cases e : S1[n]? with
    | none => simp only [e] at q1; exact q1.elim
    | some ob =>
      cases ob with
      | setT _ => simp only [e] at q1; exact q1.elim
      | raw _ => simp only [e] at q1; exact q1.elim
      | tbl _ => simp only [e] at q1; exact q1.elim
      | dct _ => simp only [e] at q1; exact q1.elim
      | lst xs1 =>
        simp only [e] at q1
        obtain ⟨_, ws1, h1, _⟩ := R1.at_ n a _ ha e
        refine ⟨.inl ⟨rfl, ws1, SqL.of h1⟩, ρ1, Γ, S1, R1, G.ext E1, q1.bind fun vs S2 ρ2 H2 ys E2 R2 ry q2 => ?_⟩
        cases vs with
        | nil => exact q2.elim
        | cons v r =>
          cases r with
          | cons _ _ => cases v <;> exact q2.elim
          | nil =>
            obtain ⟨y, rfl, r1⟩ := one_of ry rfl
            have ha2 := E2.get ha
            cases v with
            | tup zs =>
              obtain ⟨b, us, rfl, h6, h7⟩ := r1
              cases e2 : S2[n]? with
              | none => simp only [e2] at q2; exact q2.elim
              | some ob =>
                cases ob with
                | setT _ => simp only [e2] at q2; exact q2.elim
                | raw _ => simp only [e2] at q2; exact q2.elim
                | tbl _ => simp only [e2] at q2; exact q2.elim
                | dct _ => simp only [e2] at q2; exact q2.elim
                | lst xs =>
                  simp only [e2] at q2
                  obtain ⟨_, ws, h4, h5⟩ := R2.at_ n a _ ha2 e2
                  by_cases hl : xs.length + zs.length ≤ sizeLine
                  · rw [if_pos hl] at q2
                    refine ⟨a, b, ws, us, rfl, rfl, h4, h6, by rw [← h5.len, ← h7.len]; exact hl, ?_⟩
                    obtain ⟨E3, R3⟩ := R2.put ha2 e2 (by rw [List.length_append]; exact hl) (h5.app h7)
                    exact q2 ρ2 _ _ E3 R3 rfl
                  · rw [if_neg hl] at q2
                    exact q2.elim
            | _ => exact q2.elim
  | _ => exact q1.elim
theorem w_extT {o : ME} {t : MA} {Γ : En} {S : Sto} {Q : Va → Sto → Prop} (h : Wp (o Γ S) fun ov S1 => ∃ n ys, ov = .ref n ∧ S1[n]? = some (.lst ys) ∧ Wp (t Γ S1) fun vs S2 => ∃ xs zs, vs = [.tup zs] ∧ S2[n]? = some (.lst xs) ∧ xs.length + zs.length ≤ sizeLine ∧ Q .non (S2.set n (.lst (xs ++ zs)))) : Wp (mExtT o t Γ S) Q :=
  Wp.bind (h.mono fun ov S1 h => by
    obtain ⟨n, ys, rfl, e1, h⟩ := h
    simp only [e1]
    exact Wp.bind (h.mono fun vs S2 h => by
      obtain ⟨xs, zs, rfl, e2, hl, q⟩ := h
      simp only [e2, if_pos hl]
      exact q))
end
end PM

namespace PM
open PySem PySem.Spec PyProof.Rows L2 Q2
/-! ### a number in a tuple of numbers -/
def inT : F2 := fun v w S => match v, w with
  | .int i, .tup xs => match intsOf xs with
    | some ns => some (.bl (decide (i ∈ ns)), S)
    | none => none
  | _, _ => none
theorem flat_ints : ∀ ns : List Int, (ns.map V.int).all flatV = true
  | [] => rfl
  | n :: ns => by simp only [List.map_cons, List.all_cons, flat_ints ns, Bool.and_true]; rfl
theorem in_ints (i : Int) : ∀ ns : List Int, inV (.int i) (ns.map V.int) = decide (i ∈ ns)
  | [] => by simp [inV]
  | n :: ns => by
    have ih := in_ints i ns
    unfold inV at ih ⊢
    rw [List.map_cons, List.any_cons, ih]
    have e : eqV (.int n) (.int i) = decide (n = i) := by
      show (n == i) = decide (n = i)
      by_cases h : n = i <;> simp [h]
    rw [e]
    by_cases h1 : n = i
    · subst h1; simp
    · simp [h1]
      exact fun z => absurd z.symm h1
theorem oInT {X : Cx} : OpP X (compareOp .In) inT := by
  refine ⟨_, op_in_seq, fun ρ S H v w x y Q R rv rw a => ?_⟩
  cases v with
  | int i =>
    cases w with
    | tup xs =>
      unfold inT at a
      simp only at a
      cases e : intsOf xs with
      | none => rw [e] at a; exact a.elim
      | some ns =>
        rw [e] at a
        obtain ⟨p, ws, rfl, h1, r1⟩ := rw
        have hw := ints_of r1 e
        subst hw
        cases rv
        refine ⟨p, _, rfl, .inr h1, rfl, flat_ints ns, ?_⟩
        rw [if_neg (by decide), in_ints]
        exact a ρ H _ R.refl R rfl
    | _ => exact a.elim
  | _ => exact a.elim
def inFT : F2 := orF2 inF inT
theorem oInFT {X : Cx} (hu : X.A.units + 65 < cLine) : OpP X (compareOp .In) inFT := (oInF hu).or oInT
theorem wo_inT2 {S : Sto} {Q : Va → Sto → Prop} {i a b : Int} (q : Q (.bl (decide (i = a ∨ i = b))) S) : Wo (inT (.int i) (.tup [.int a, .int b]) S) Q := by
  have e : inT (.int i) (.tup [.int a, .int b]) S = some (.bl (decide (i ∈ [a, b])), S) := rfl
  rw [e]
  have e2 : decide (i ∈ [a, b]) = decide (i = a ∨ i = b) := by simp
  rw [e2]
  exact q
end PM

namespace Q2
open PySem PySem.Spec PyProof.Rows L2
/-! ### xs.count(x), data -/
def rCntD (K : PySem.W.Frag) : V → List V → Hp → VK → Prop := fun x xs H Q => ∃ (p : Addr) (ds : List PyData) (v : V) (d : PyData), x = .ref p ∧ xs = [v] ∧ Dp K H (.ref p) (.list ds) ∧ Dp K H v d ∧ SeqAt.shaped (.list ds) = true ∧ SeqAt.shaped d = true ∧ Q (.int ((ds.countP fun y => PyData.eqv y d : Nat) : Int)) H
theorem shaped_of {d : PyData} (h : SeqAt.shaped d = true) : d.canLay0 = true ∧ d.depth ≤ 64 := by
  unfold SeqAt.shaped at h
  rw [Bool.and_eq_true] at h
  exact ⟨h.1, of_decide_eq_true h.2⟩
theorem mt_countD {X : Cx} (hu : X.A.units + 65 < cLine) : MtM X "list.count" (rCntD X.K) := by
  intro pins s σ H x vs v us Q I rx rv h
  obtain ⟨p, ds, y, d, rfl, rfl, h1, h2, s1, s2, q⟩ := h
  cases rx
  obtain ⟨u, rfl, ru⟩ := rv.one
  obtain ⟨bs, hb⟩ := Dp.reads I _ _ u h2 ru
  obtain ⟨as, ha⟩ := Dp.reads I _ _ (.ref p) h1 rfl
  cases ha with
  | list e1 e2 e3 e4 =>
    rename_i o vs n as
    have hl : s.heap.IsList p vs := ⟨o, e1, e2, n, e3⟩
    obtain ⟨l1, d1⟩ := shaped_of s1
    obtain ⟨l2, d2⟩ := shaped_of s2
    have p1 := PyData.plainAll_of_canLay0 ds (by simpa [PyData.canLay0] using l1)
    have p2 := PyData.plain_of_canLay0 d l2
    refine SeqAt.count_list_data hl e4 hb p1 p2 (by omega) ?_
    exact ⟨.int _, H, I.kept (t' := s.toks + 1) fun _ _ q => q, ⟨_, rfl⟩, q⟩
end Q2
namespace PM
open PySem PySem.Spec PyProof.Rows L2 Q2
section
variable {X : Cx} {W : XW}
def mCnt (o : ME) (t : MA) : ME := fun Γ S => (o Γ S).bind fun ov S1 => match ov with
  | .ref n => match S1[n]? with
    | some (.lst _) => (t Γ S1).bind fun vs S2 => match vs with
      | [v] => match datsOf S2 (.ref n), datOf S2 v with
        | some ds, some d => .ok (.int ((ds.countP fun y => PyData.eqv y d : Nat) : Int)) S2
        | _, _ => .bad
      | _ => .bad
    | _ => .bad
  | _ => .bad
theorem pm_count (hu : X.A.units + 65 < cLine) {o e : Expr} {es : List Expr} {mo : ME} {t : MA} {apos cpos : Pos} (ho : PM X W o mo) (ht : PMA X W (e :: es) t)
    (hbase : attributeBase o "count" X.env (eval o X.env) = eval o X.env := by rfl)
    (hfew : ((backTo cpos (starEach (e :: es) X.env)).all (fun x => !x.1) && (backToKw cpos (keywordEach [] X.env)).all (fun x => x.1.isSome)
      && decide ((e :: es).length + ([] : List Keyword).length + (if ([] : List Keyword).isEmpty then 0 else 1) < 30)) = true := by rfl)
    (hline : (apos.endLine == cpos.line) = true := by rfl) (hs : starEach (e :: es) X.env = (false, eval e X.env) :: starEach es X.env := by rfl) (hplain : (backTo cpos (starEach es X.env)).any (·.1) = false := by rfl) :
    PM X W (.Call (.Attribute o "count" apos) (e :: es) [] cpos) (mCnt mo t) := by
  refine pe_imp (pe_bm PySem.F.plainAttrs_list PySem.F.slot_list_count PySem.F.type_list_count (mt_countD hu) ho ht hbase hfew hline hs hplain) fun σ H Q ⟨ρ, Γ, S, R, G, q⟩ => ?_
  refine ⟨ρ, Γ, S, R, G, q.bind fun ov S1 ρ1 H1 x E1 R1 rx q1 => ?_⟩
  cases ov with
  | ref n =>
    obtain ⟨a, ha, rfl⟩ := rx
    cases e : S1[n]? with
    | none => simp only [e] at q1; exact q1.elim
    | some ob =>
      cases ob with
      | setT _ => simp only [e] at q1; exact q1.elim
      | raw _ => simp only [e] at q1; exact q1.elim
      | tbl _ => simp only [e] at q1; exact q1.elim
      | dct _ => simp only [e] at q1; exact q1.elim
      | lst xs1 =>
        simp only [e] at q1
        obtain ⟨_, ws1, h1, _⟩ := R1.at_ n a _ ha e
        refine ⟨.inl ⟨rfl, ws1, SqL.of h1⟩, ρ1, Γ, S1, R1, G.ext E1, q1.bind fun vs S2 ρ2 H2 ys E2 R2 ry q2 => ?_⟩
        cases vs with
        | nil => exact q2.elim
        | cons v r =>
          cases r with
          | cons _ _ => exact q2.elim
          | nil =>
            obtain ⟨y, rfl, r1⟩ := one_of ry rfl
            have ha2 := E2.get ha
            cases e2 : datsOf S2 (.ref n) with
            | none => simp only [e2] at q2; exact q2.elim
            | some ds =>
              cases e3 : datOf S2 v with
              | none => simp only [e2, e3] at q2; exact q2.elim
              | some d =>
                simp only [e2, e3] at q2
                obtain ⟨c1, c2⟩ := dats_of R2 (show Rv (kxOf X) ρ2 H2 (.ref n) (.ref a) from ⟨a, ha2, rfl⟩) e2
                obtain ⟨c3, c4⟩ := dat_of R2 r1 e3
                exact ⟨a, ds, _, d, rfl, rfl, c1, c3, c2, c4, q2 ρ2 H2 _ R2.refl R2 rfl⟩
  | _ => exact q1.elim

end
end PM

namespace PM
open PySem PySem.Spec PyProof.Rows L2 Q2
def v_ALL_KEYS : Va := (.tup [(.tup [(.int (-10000000000000000000000000000000)), (.int 0)]), (.tup [(.int (-10000000000000000000000000000000)), (.int 0)]), (.tup [(.int 10000000000000000000000000000000), (.int 0)]), (.tup [(.int 10000000000000000000000000000000), (.int 0)])])
def v_LAST_PART_FIRST : Va := (.tup [(.int 3), (.int 2), (.int 1), (.int 0)])
def b_is_integer : MS :=
  (sRet (meAnd (mL fIsi (maC (mV 0) (maC (mC (.ty "int")) maN))) (mNot (mL fIsi (maC (mV 0) (maC (mC (.ty "bool")) maN))))))
def m_is_integer : MF := fnM 1 b_is_integer
def b_is_coordinate : MS :=
  (sRet (meAnd (mCall m_is_integer (maC (mV 0) maN)) (mChain leI leI (m1 negI (mC (.int 1000000000000000000000000000000))) (mV 0) (mC (.int 1000000000000000000000000000000)))))
def m_is_coordinate : MF := fnM 1 b_is_coordinate
def b_is_point : MS :=
  (sSeq (sIf (mtOr (mtNot (mtOf (mL fIsi (maC (mV 0) (maC (mC (.ty "tuple")) maN))))) (mtOf (m2 fNe (mL fLen (maC (mV 0) maN)) (mC (.int 2))))) (sRet (mC (.bl false))) sNil)
    (sRet (meAnd (mCall m_is_coordinate (maC (m2 fIx (mV 0) (mC (.int 0))) maN)) (mCall m_is_coordinate (maC (m2 fIx (mV 0) (mC (.int 1))) maN)))))
def m_is_point : MF := fnM 1 b_is_point
def b_check_points : MS :=
  (sSeq (sIf (mtOr (mtNot (mtOf (mIsiT (mV 0) ["list", "tuple"]))) (mtOf (m2 gtI (mL fLen (maC (mV 0) maN)) (mC (.int 500))))) (sRaise "InvalidPoints" "index" (m1 negI (mC (.int 1)))) sNil)
    (sSeq (sSet 1 mSet0)
    (sFor (mEnum (maC (mV 0) maN)) (gT 2 (gsC (gV 2) (gsC (gV 3) gsN))) (sSeq (sIf (mtOr (mtNot (mtOf (mCall m_is_point (maC (mV 3) maN)))) (mtOf (m2 inF (mV 3) (mV 1)))) (sRaise "InvalidPoints" "index" (mV 2)) sNil)
    (sExpr (mAddS (mV 1) (maC (mV 3) maN)))))))
def m_check_points : MF := fnM 4 b_check_points
def b_y_key : MS :=
  (sRet (mL fTup (maC (m2 fIx (mV 0) (mC (.int 1))) (maC (m2 fIx (mV 0) (mC (.int 0))) maN))))
def m_y_key : MF := fnM 1 b_y_key
def b_part_of : MS :=
  (sSeq (sAsg (mV 0) (gT 2 (gsC (gV 2) (gsC (gV 3) gsN))))
    (sSeq (sIf (mtOf (m2 gtI (m2 fIx (mV 1) (mC (.int 0))) (mV 2))) (sRet (mIf (mtOf (m2 geI (m2 fIx (mV 1) (mC (.int 1))) (mV 3))) (mC (.int 3)) (mC (.int 1)))) sNil)
    (sSeq (sIf (mtOf (m2 ltI (m2 fIx (mV 1) (mC (.int 0))) (mV 2))) (sRet (mIf (mtOf (m2 gtI (m2 fIx (mV 1) (mC (.int 1))) (mV 3))) (mC (.int 2)) (mC (.int 0)))) sNil)
    (sSeq (sIf (mtOf (m2 fEq (m2 fIx (mV 1) (mC (.int 1))) (mV 3))) (sRet (mC .non)) sNil)
    (sRet (mIf (mtOf (m2 gtI (m2 fIx (mV 1) (mC (.int 1))) (mV 3))) (mC (.int 3)) (mC (.int 0))))))))
def m_part_of : MF := fnM 4 b_part_of
def b_rows_by_steps : MS :=
  (sSeq (sSet 1 (mL fLen (maC (mV 0) maN)))
    (sSeq (sSet 2 (mL fLst maN))
    (sSeq (sFor (mEnum (maC (mV 0) maN)) (gT 2 (gsC (gV 3) (gsC (gV 4) gsN))) (sSeq (sSet 5 (mC (.int 0)))
    (sSeq (sWhile 1000000 (mtOf (m2 ltI (mV 5) (mV 3))) (sSeq (sSet 6 (m2 fIx (mV 2) (mV 5)))
    (sSeq (sSet 7 (mCall m_part_of (maC (m2 fIx (mV 0) (mV 5)) (maC (mV 4) maN))))
    (sSet 5 (m2 fIx (mV 6) (mV 7))))))
    (sSeq (sIf (mtOf (m2 gtI (mV 3) (mC (.int 0)))) (sAsg (mV 3) (gSubM (mV 6) (mV 7))) sNil)
    (sExpr (mApp (mV 2) (maC (mL fLst (maC (mV 1) (maC (mV 1) (maC (mV 1) (maC (mV 1) maN))))) maN)))))))
    (sRet (mV 2)))))
def m_rows_by_steps : MF := fnM 8 b_rows_by_steps
def b_quarter_of_rows : MS :=
  (sSeq (sSet 3 (m2 fMul (mL fLst (maC (mC .non) maN)) (m2 fAdd (mL fLen (maC (mV 0) maN)) (mC (.int 1)))))
    (sSeq (sFor (mRev1 (mV 2)) (gV 4) (sSeq (sAsg (m2 fIx (mV 1) (mV 4)) (gTL 4 (gsC (gV 5) (gsC (gV 6) (gsC (gV 7) (gsC (gV 8) gsN))))))
    (sAsg (mL fTup (maC (m2 fIx (mV 0) (mV 4)) (maC (mL fTup (maC (m2 fIx (mV 3) (mV 5)) (maC (m2 fIx (mV 3) (mV 6)) (maC (m2 fIx (mV 3) (mV 7)) (maC (m2 fIx (mV 3) (mV 8)) maN))))) maN))) (gSubM (mV 3) (mV 4)))))
    (sRet (m2 fIx (mV 3) (mC (.int 0))))))
def m_quarter_of_rows : MF := fnM 9 b_quarter_of_rows
def b_grown : MS :=
  (sSeq (sSet 1 (mIf (mtOf (m2 ltI (mL fLen (maC (mV 0) maN)) (mC (.int 32)))) (mCall m_rows_by_steps (maC (mV 0) maN)) (mCall mBadF (maC (mV 0) maN))))
    (sRet (mCall m_quarter_of_rows (maC (mV 0) (maC (mV 1) (maC (mL fLen (maC (mV 0) maN)) maN))))))
def m_grown : MF := fnM 2 b_grown
def b_is_node : MS :=
  (sSeq (sIf (mtOr (mtNot (mtOf (mL fIsi (maC (mV 0) (maC (mC (.ty "tuple")) maN))))) (mtOf (m2 fNe (mL fLen (maC (mV 0) maN)) (mC (.int 2))))) (sRet (mC (.bl false))) sNil)
    (sRet (meAnd (mCall m_is_point (maC (m2 fIx (mV 0) (mC (.int 0))) maN)) (meAnd (mL fIsi (maC (m2 fIx (mV 0) (mC (.int 1))) (maC (mC (.ty "tuple")) maN))) (m2 fEq (mL fLen (maC (m2 fIx (mV 0) (mC (.int 1))) maN)) (mC (.int 4)))))))
def m_is_node : MF := fnM 1 b_is_node
def b_narrowed : MS :=
  (sSeq (sAsg (mV 0) (gT 4 (gsC (gV 3) (gsC (gV 4) (gsC (gV 5) (gsC (gV 6) gsN))))))
    (sSeq (sIf (mtOf (m2 inT (mV 2) (mL fTup (maC (mC (.int 1)) (maC (mC (.int 3)) maN))))) (sSet 3 (m2 fIx (mV 1) (mC (.int 0)))) (sSet 5 (m2 fIx (mV 1) (mC (.int 0)))))
    (sSeq (sIf (mtOf (m2 inT (mV 2) (mL fTup (maC (mC (.int 2)) (maC (mC (.int 3)) maN))))) (sSet 4 (m2 fIx (mV 1) (mC (.int 1)))) (sSet 6 (m2 fIx (mV 1) (mC (.int 1)))))
    (sRet (mL fTup (maC (mV 3) (maC (mV 4) (maC (mV 5) (maC (mV 6) maN)))))))))
def m_narrowed : MF := fnM 7 b_narrowed
def b_fault_of : MS :=
  (sSeq (sSet 1 (mC (.int 0)))
    (sSeq (sSet 2 (mL fLst (maC (mL fTup (maC (mV 0) (maC (mL fTup maN) (maC (mC v_ALL_KEYS) maN)))) maN)))
    (sSeq (sWhile 1000000 (mtTru (mV 2)) (sSeq (sAsg (mPop (mV 2)) (gT 3 (gsC (gV 3) (gsC (gV 4) (gsC (gV 5) gsN)))))
    (sSeq (sIf (mtOf (mIsN (mV 3))) sCnt sNil)
    (sSeq (sAug 1 addI (mC (.int 1)))
    (sSeq (sIf (mtOr (mtOf (m2 gtI (mV 1) (mC (.int 500)))) (mtNot (mtOf (mCall m_is_node (maC (mV 3) maN))))) (sRet (mV 4)) sNil)
    (sSeq (sAsg (mV 3) (gT 2 (gsC (gV 6) (gsC (gV 7) gsN))))
    (sSeq (sSet 8 (mL fTup (maC (mV 6) (maC (mCall m_y_key (maC (mV 6) maN)) maN))))
    (sSeq (sAsg (mV 5) (gT 4 (gsC (gV 9) (gsC (gV 10) (gsC (gV 11) (gsC (gV 12) gsN))))))
    (sSeq (sIf (mtOr (mtNot (mtOf (mChain ltE ltE (mV 9) (mV 6) (mV 11)))) (mtNot (mtOf (mChain ltE ltE (mV 10) (m2 fIx (mV 8) (mC (.int 1))) (mV 12))))) (sRet (mV 4)) sNil)
    (sFor (mWalk (mC v_LAST_PART_FIRST)) (gV 13) (sIf (mtOf (mNotN (m2 fIx (mV 7) (mV 13)))) (sExpr (mApp (mV 2) (maC (mL fTup (maC (m2 fIx (mV 7) (mV 13)) (maC (m2 fAddE (mV 4) (mL fTup (maC (mV 13) maN))) (maC (mCall m_narrowed (maC (mV 5) (maC (mV 8) (maC (mV 13) maN)))) maN)))) maN))) sNil)))))))))))
    (sRet (mC .non)))))
def m_fault_of : MF := fnM 14 b_fault_of
def b_check_quarter : MS :=
  (sSeq (sSet 1 (mCall m_fault_of (maC (mV 0) maN)))
    (sIf (mtOf (mNotN (mV 1))) (sRaise "InvalidTree" "path" (mV 1)) sNil))
def m_check_quarter : MF := fnM 2 b_check_quarter
def b_nodes_of : MS :=
  (sSeq (sSet 1 (mL fLst maN))
    (sSeq (sSet 2 (mL fLst (maC (mV 0) maN)))
    (sSeq (sWhile 1000000 (mtTru (mV 2)) (sSeq (sSet 3 (mPop (mV 2)))
    (sIf (mtOf (mNotN (mV 3))) (sSeq (sExpr (mApp (mV 1) (maC (mV 3) maN)))
    (sExpr (mExtT (mV 2) (maC (mRevT4 (m2 fIx (mV 3) (mC (.int 1)))) maN)))) sNil)))
    (sRet (mV 1)))))
def m_nodes_of : MF := fnM 4 b_nodes_of
def b_reading : MS :=
  (sRet (mLc (mWalk (mCall m_nodes_of (maC (mV 0) maN))) (gV 1) mtYes (m2 fIx (mV 1) (mC (.int 0))) [1]))
def m_reading : MF := fnM 2 b_reading
def b_level_counts : MS :=
  (sSeq (sSet 1 (mL fLst maN))
    (sSeq (sSet 2 (mIf (mtOf (mIsN (mV 0))) (mL fLst maN) (mL fLst (maC (mV 0) maN))))
    (sSeq (sWhile 1000000 (mtTru (mV 2)) (sSeq (sExpr (mApp (mV 1) (maC (mL fLen (maC (mV 2) maN)) maN)))
    (sSet 2 (mLc2 (mWalk (mV 2)) (gV 3) mtYes (mWalk (m2 fIx (mV 3) (mC (.int 1)))) (gV 4) (mtOf (mNotN (mV 4))) (mV 4) [3, 4] [4]))))
    (sRet (mV 1)))))
def m_level_counts : MF := fnM 5 b_level_counts
def b_built : MS :=
  (sSeq (sExpr (mCall m_check_points (maC (mV 0) maN)))
    (sRet (mCall m_grown (maC (mV 0) maN))))
def m_built : MF := fnM 1 b_built
def b_is_quarter : MS :=
  (sRet (mIsN (mCall m_fault_of (maC (mV 0) maN))))
def m_is_quarter : MF := fnM 1 b_is_quarter
def b_points_of : MS :=
  (sSeq (sExpr (mCall m_check_quarter (maC (mV 0) maN)))
    (sRet (mCall m_reading (maC (mV 0) maN))))
def m_points_of : MF := fnM 1 b_points_of
def b_depth : MS :=
  (sSeq (sExpr (mCall m_check_quarter (maC (mV 0) maN)))
    (sRet (mL fLen (maC (mCall m_level_counts (maC (mV 0) maN)) maN))))
def m_depth : MF := fnM 1 b_depth
def b_law_mixed : MS :=
  (sSeq (sSet 2 (m2 modI (mL fInt (maC (m2 fMul (m2 fAdd (m2 modI (mL fInt (maC (mV 0) maN)) (mC (.int 2147483646))) (mC (.int 1))) (m2 fAdd (m2 fMul (mV 1) (mC (.int 7919))) (mC (.int 104729)))) maN)) (mC (.int 2147483647))))
    (sSeq (sSet 2 (m2 modI (mL fInt (maC (m2 fMul (m2 fAdd (mV 2) (m2 fMul (m2 modI (mL fInt (maC (m2 divI (mV 0) (mC (.int 2147483646))) maN)) (mC (.int 1000003))) (m2 fAdd (mV 1) (mC (.int 31))))) (mC (.int 48271))) maN)) (mC (.int 2147483629))))
    (sSeq (sSet 2 (m2 modI (mL fInt (maC (m2 fMul (mV 2) (m2 fAdd (m2 fAdd (m2 divI (mV 2) (mC (.int 1013))) (mC (.int 69621))) (mV 1))) maN)) (mC (.int 2147483587))))
    (sRet (m2 modI (mL fInt (maC (m2 fMul (mV 2) (m2 fAdd (m2 divI (mV 2) (mC (.int 2003))) (mC (.int 40692)))) maN)) (mC (.int 2147483563)))))))
def m_law_mixed : MF := fnM 3 b_law_mixed
def b_law_source : MS :=
  (sSeq (sIf (mtOf (m2 geI (mL fAbs (maC (mV 0) maN)) (m2 powI (mC (.int 10)) (mC (.int 18))))) (sRet (mL fLst (maC (mL fAbs (maC (mV 0) maN)) (maC (mL fAbs (maC (mV 0) maN)) (maC (mC (.int 0)) maN))))) sNil)
    (sRet (mL fLst (maC (mC (.int 0)) (maC (mL fAbs (maC (mV 0) maN)) (maC (mC (.int 0)) maN))))))
def m_law_source : MF := fnM 1 b_law_source
def b_law_take : MS :=
  (sSeq (sIf (mtOf (m2 gtI (m2 fIx (mV 0) (mC (.int 0))) (mC (.int 0)))) (sSeq (sSet 2 (m2 modI (mL fInt (maC (m2 fIx (mV 0) (mC (.int 0))) maN)) (mV 1)))
    (sSeq (sAsg (m2 divI (m2 fIx (mV 0) (mC (.int 0))) (mV 1)) (gSubM (mV 0) (mC (.int 0))))
    (sRet (mV 2)))) sNil)
    (sSeq (sAsg (m2 fAdd (m2 fIx (mV 0) (mC (.int 2))) (mC (.int 1))) (gSubM (mV 0) (mC (.int 2))))
    (sRet (m2 modI (mL fInt (maC (mCall m_law_mixed (maC (m2 fIx (mV 0) (mC (.int 1))) (maC (m2 fIx (mV 0) (mC (.int 2))) maN))) maN)) (mV 1)))))
def m_law_take : MF := fnM 3 b_law_take
def b_law_pick : MS :=
  (sRet (m2 fIx (mV 1) (mCall m_law_take (maC (mV 0) (maC (mL fLen (maC (mV 1) maN)) maN)))))
def m_law_pick : MF := fnM 2 b_law_pick
def b_law_spots : MS :=
  (sSeq (sPar 2 3 (maC (mCall m_law_take (maC (mV 0) (maC (m2 fAdd (mV 1) (mC (.int 1))) maN))) (maC (mCall m_law_pick (maC (mV 0) (maC (mL fLst (maC (mC (.int 3)) (maC (mC (.int 6)) (maC (mC (.int 20)) (maC (m2 powI (mC (.int 10)) (mC (.int 9))) (maC (m2 powI (mC (.int 10)) (mC (.int 30))) maN)))))) maN))) maN)))
    (sSeq (sSet 4 (mL fLst maN))
    (sSeq (sFor (mRng1 (maC (mV 2) maN)) (gV 5) (sSeq (sSet 6 (mL fTup (maC (m2 subI (mCall m_law_take (maC (mV 0) (maC (m2 fAdd (m2 fMul (mC (.int 2)) (mV 3)) (mC (.int 1))) maN))) (mV 3)) (maC (m2 subI (mCall m_law_take (maC (mV 0) (maC (m2 fAdd (m2 fMul (mC (.int 2)) (mV 3)) (mC (.int 1))) maN))) (mV 3)) maN))))
    (sSet 4 (m2 fAdd (mV 4) (m2 fMul (mL fLst (maC (mV 6) maN)) (mL fInt (maC (m2 (inD true) (mV 6) (mV 4)) maN)))))))
    (sRet (mV 4)))))
def m_law_spots : MF := fnM 7 b_law_spots
def b_law_orders (g : MF) : MS :=
  (sSeq (sIf (mtOf (m2 fEq (mV 0) (mL fLst maN))) (sRet (mL fLst (maC (mL fLst maN) maN))) sNil)
    (sSeq (sSet 1 (mL fLst maN))
    (sSeq (sFor (mEnum (maC (mV 0) maN)) (gT 2 (gsC (gV 2) (gsC (gV 3) gsN))) (sSet 1 (m2 fAdd (mV 1) (mLc (mWalk (mCall g (maC (m2 fAdd (mSl fSl (mV 0) none (some (mV 2))) (mSl fSl (mV 0) (some (m2 fAdd (mV 2) (mC (.int 1)))) none)) maN))) (gV 4) mtYes (m2 fAdd (mL fLst (maC (mV 3) maN)) (mV 4)) [4]))))
    (sRet (mV 1)))))
def m_law_orders : Nat → MF
  | 0 => mBadF
  | n + 1 => fnM 5 (b_law_orders (m_law_orders n))
def b_law_readings (g : MF) : MS :=
  (sSeq (sSet 1 (mC (.int 0)))
    (sSeq (sFor (mEnum (maC (mV 0) maN)) (gT 2 (gsC (gV 2) (gsC (gV 3) gsN))) (sSet 1 (m2 fAdd (mV 1) (mCall g (maC (m2 fAdd (m2 fAdd (mSl fSl (mV 0) none (some (mV 2))) (mSl fSl (mV 0) (some (m2 fAdd (mV 2) (mC (.int 1)))) none)) (mLc (mWalk (m2 fIx (mV 3) (mC (.int 1)))) (gV 4) (mtOf (mNotN (mV 4))) (mV 4) [4])) maN)))))
    (sRet (mL fMax (maC (mV 1) (maC (mL fInt (maC (m2 fEq (mV 0) (mL fLst maN)) maN)) maN))))))
def m_law_readings : Nat → MF
  | 0 => mBadF
  | n + 1 => fnM 5 (b_law_readings (m_law_readings n))
def b_law : MS :=
  (sSeq (sFor (mWalk (mSl fSl (m2 fAdd (mV 0) (mL fLst (maC (mC (.int 0)) maN))) none (some (mC (.int 2))))) (gV 1) (sSeq (sSet 2 (mCall m_law_source (maC (mV 1) maN)))
    (sSeq (sSet 3 (mCall m_law_spots (maC (mV 2) (maC (mC (.int 5)) maN))))
    (sSeq (sSet 4 (mLc (mWalk (mCall (m_law_orders 7) (maC (mV 3) maN))) (gV 5) mtYes (mCall m_built (maC (mV 5) maN)) [5]))
    (sSeq (sSet 6 (mCall m_law_pick (maC (mV 2) (maC (mV 4) maN))))
    (sSeq (sIf (mtAnd (mtOf (m2 fNe (mV 3) (mL fLst maN))) (mtOf (m2 fNe (mCnt (mV 4) (maC (mV 6) maN)) (mCall (m_law_readings 7) (maC (mL fLst (maC (mV 6) maN)) maN))))) (sRet (mC (.bl false))) sNil)
    (sSeq (sFor (mWalk (mV 4)) (gV 7) (sIf (mtOr (mtOf (m2 (isB true) (mCall m_is_quarter (maC (mV 7) maN)) (mC (.bl true)))) (mtOf (m2 fNe (mL fSort (maC (mCall m_points_of (maC (mV 7) maN)) maN)) (mL fSort (maC (mV 3) maN))))) (sRet (mC (.bl false))) sNil))
    (sSeq (sSet 8 (m2 fIx (mL fLst (maC (mC (.int 0)) (maC (mC (.int 1)) (maC (mC (.int 2)) (maC (mC (.int 2)) (maC (mC (.int 3)) (maC (mC (.int 3)) maN))))))) (mL fLen (maC (mV 3) maN))))
    (sSeq (sIf (mtOf (m2 gtI (mL fMin (maC (mLc (mWalk (mV 4)) (gV 7) mtYes (mCall m_depth (maC (mV 7) maN)) [7]) maN)) (mV 8))) (sRet (mC (.bl false))) sNil)
    (sSeq (sSet 9 (mLc (mRng1 (maC (mL fLen (maC (mV 3) maN)) maN)) (gV 10) mtYes (mL fTup (maC (mV 10) (maC (m2 fMul (mC (.int 5)) (mV 10)) maN))) [10]))
    (sIf (mtOf (m2 fNe (mL fMin (maC (mLc (mWalk (mCall (m_law_orders 7) (maC (mV 9) maN))) (gV 5) mtYes (mCall m_depth (maC (mCall m_built (maC (mV 5) maN)) maN)) [5]) maN)) (mV 8))) (sRet (mC (.bl false))) sNil)))))))))))
    (sRet (mC (.bl true))))
def m_law : MF := fnM 11 b_law
end PM

namespace PM
open PySem PySem.Spec PyProof.Rows L2 Q2
structure Top (P : Program) (w : World) (K : PySem.W.Frag) (mg : Str → Option Value) (base : Heap) where
  f_is_integer : Addr
  fd_is_integer : FuncData
  F_is_integer : FnP K "is_integer" s_is_integer f_is_integer fd_is_integer
  b_is_integer : Binds K fd_is_integer ["value"] []
  m_is_integer : mg "is_integer" = some (.ref f_is_integer)
  f_is_coordinate : Addr
  fd_is_coordinate : FuncData
  F_is_coordinate : FnP K "is_coordinate" s_is_coordinate f_is_coordinate fd_is_coordinate
  b_is_coordinate : Binds K fd_is_coordinate ["value"] []
  m_is_coordinate : mg "is_coordinate" = some (.ref f_is_coordinate)
  f_is_point : Addr
  fd_is_point : FuncData
  F_is_point : FnP K "is_point" s_is_point f_is_point fd_is_point
  b_is_point : Binds K fd_is_point ["value"] []
  m_is_point : mg "is_point" = some (.ref f_is_point)
  f_check_points : Addr
  fd_check_points : FuncData
  F_check_points : FnP K "check_points" s_check_points f_check_points fd_check_points
  b_check_points : Binds K fd_check_points ["value"] []
  m_check_points : mg "check_points" = some (.ref f_check_points)
  f_y_key : Addr
  fd_y_key : FuncData
  F_y_key : FnP K "y_key" s_y_key f_y_key fd_y_key
  b_y_key : Binds K fd_y_key ["point"] []
  m_y_key : mg "y_key" = some (.ref f_y_key)
  f_part_of : Addr
  fd_part_of : FuncData
  F_part_of : FnP K "part_of" s_part_of f_part_of fd_part_of
  b_part_of : Binds K fd_part_of ["root", "point"] []
  m_part_of : mg "part_of" = some (.ref f_part_of)
  f_rows_by_steps : Addr
  fd_rows_by_steps : FuncData
  F_rows_by_steps : FnP K "rows_by_steps" s_rows_by_steps f_rows_by_steps fd_rows_by_steps
  b_rows_by_steps : Binds K fd_rows_by_steps ["points"] []
  m_rows_by_steps : mg "rows_by_steps" = some (.ref f_rows_by_steps)
  f_masks_around : Addr
  fd_masks_around : FuncData
  F_masks_around : FnP K "masks_around" s_masks_around f_masks_around fd_masks_around
  b_masks_around : Binds K fd_masks_around ["numbers"] []
  m_masks_around : mg "masks_around" = some (.ref f_masks_around)
  f_masks_on_axes : Addr
  fd_masks_on_axes : FuncData
  F_masks_on_axes : FnP K "masks_on_axes" s_masks_on_axes f_masks_on_axes fd_masks_on_axes
  b_masks_on_axes : Binds K fd_masks_on_axes ["points"] []
  m_masks_on_axes : mg "masks_on_axes" = some (.ref f_masks_on_axes)
  f_rows_by_masks : Addr
  fd_rows_by_masks : FuncData
  F_rows_by_masks : FnP K "rows_by_masks" s_rows_by_masks f_rows_by_masks fd_rows_by_masks
  b_rows_by_masks : Binds K fd_rows_by_masks ["points"] []
  m_rows_by_masks : mg "rows_by_masks" = some (.ref f_rows_by_masks)
  f_quarter_of_rows : Addr
  fd_quarter_of_rows : FuncData
  F_quarter_of_rows : FnP K "quarter_of_rows" s_quarter_of_rows f_quarter_of_rows fd_quarter_of_rows
  b_quarter_of_rows : Binds K fd_quarter_of_rows ["points", "rows", "many"] []
  m_quarter_of_rows : mg "quarter_of_rows" = some (.ref f_quarter_of_rows)
  f_grown : Addr
  fd_grown : FuncData
  F_grown : FnP K "grown" s_grown f_grown fd_grown
  b_grown : Binds K fd_grown ["points"] []
  m_grown : mg "grown" = some (.ref f_grown)
  f_is_node : Addr
  fd_is_node : FuncData
  F_is_node : FnP K "is_node" s_is_node f_is_node fd_is_node
  b_is_node : Binds K fd_is_node ["value"] []
  m_is_node : mg "is_node" = some (.ref f_is_node)
  f_narrowed : Addr
  fd_narrowed : FuncData
  F_narrowed : FnP K "narrowed" s_narrowed f_narrowed fd_narrowed
  b_narrowed : Binds K fd_narrowed ["ends", "split", "part"] []
  m_narrowed : mg "narrowed" = some (.ref f_narrowed)
  f_fault_of : Addr
  fd_fault_of : FuncData
  F_fault_of : FnP K "fault_of" s_fault_of f_fault_of fd_fault_of
  b_fault_of : Binds K fd_fault_of ["value"] []
  m_fault_of : mg "fault_of" = some (.ref f_fault_of)
  f_check_quarter : Addr
  fd_check_quarter : FuncData
  F_check_quarter : FnP K "check_quarter" s_check_quarter f_check_quarter fd_check_quarter
  b_check_quarter : Binds K fd_check_quarter ["value"] []
  m_check_quarter : mg "check_quarter" = some (.ref f_check_quarter)
  f_nodes_of : Addr
  fd_nodes_of : FuncData
  F_nodes_of : FnP K "nodes_of" s_nodes_of f_nodes_of fd_nodes_of
  b_nodes_of : Binds K fd_nodes_of ["tree"] []
  m_nodes_of : mg "nodes_of" = some (.ref f_nodes_of)
  f_reading : Addr
  fd_reading : FuncData
  F_reading : FnP K "reading" s_reading f_reading fd_reading
  b_reading : Binds K fd_reading ["tree"] []
  m_reading : mg "reading" = some (.ref f_reading)
  f_level_counts : Addr
  fd_level_counts : FuncData
  F_level_counts : FnP K "level_counts" s_level_counts f_level_counts fd_level_counts
  b_level_counts : Binds K fd_level_counts ["tree"] []
  m_level_counts : mg "level_counts" = some (.ref f_level_counts)
  f_built : Addr
  fd_built : FuncData
  F_built : FnP K "built" s_built f_built fd_built
  b_built : Binds K fd_built ["points"] []
  m_built : mg "built" = some (.ref f_built)
  f_is_quarter : Addr
  fd_is_quarter : FuncData
  F_is_quarter : FnP K "is_quarter" s_is_quarter f_is_quarter fd_is_quarter
  b_is_quarter : Binds K fd_is_quarter ["value"] []
  m_is_quarter : mg "is_quarter" = some (.ref f_is_quarter)
  f_points_of : Addr
  fd_points_of : FuncData
  F_points_of : FnP K "points_of" s_points_of f_points_of fd_points_of
  b_points_of : Binds K fd_points_of ["tree"] []
  m_points_of : mg "points_of" = some (.ref f_points_of)
  f_depth : Addr
  fd_depth : FuncData
  F_depth : FnP K "depth" s_depth f_depth fd_depth
  b_depth : Binds K fd_depth ["tree"] []
  m_depth : mg "depth" = some (.ref f_depth)
  f_law_mixed : Addr
  fd_law_mixed : FuncData
  F_law_mixed : FnP K "_law_mixed" s_law_mixed f_law_mixed fd_law_mixed
  b_law_mixed : Binds K fd_law_mixed ["_law_cell", "_law_draw"] []
  m_law_mixed : mg "_law_mixed" = some (.ref f_law_mixed)
  f_law_source : Addr
  fd_law_source : FuncData
  F_law_source : FnP K "_law_source" s_law_source f_law_source fd_law_source
  b_law_source : Binds K fd_law_source ["_law_cell"] []
  m_law_source : mg "_law_source" = some (.ref f_law_source)
  f_law_take : Addr
  fd_law_take : FuncData
  F_law_take : FnP K "_law_take" s_law_take f_law_take fd_law_take
  b_law_take : Binds K fd_law_take ["_law_source_here", "_law_bound"] []
  m_law_take : mg "_law_take" = some (.ref f_law_take)
  f_law_pick : Addr
  fd_law_pick : FuncData
  F_law_pick : FnP K "_law_pick" s_law_pick f_law_pick fd_law_pick
  b_law_pick : Binds K fd_law_pick ["_law_source_here", "_law_some"] []
  m_law_pick : mg "_law_pick" = some (.ref f_law_pick)
  f_law_spots : Addr
  fd_law_spots : FuncData
  F_law_spots : FnP K "_law_spots" s_law_spots f_law_spots fd_law_spots
  b_law_spots : Binds K fd_law_spots ["_law_source_here", "_law_most"] []
  m_law_spots : mg "_law_spots" = some (.ref f_law_spots)
  f_law_orders : Addr
  fd_law_orders : FuncData
  F_law_orders : FnP K "_law_orders" s_law_orders f_law_orders fd_law_orders
  b_law_orders : Binds K fd_law_orders ["_law_spots_here"] []
  m_law_orders : mg "_law_orders" = some (.ref f_law_orders)
  f_law_readings : Addr
  fd_law_readings : FuncData
  F_law_readings : FnP K "_law_readings" s_law_readings f_law_readings fd_law_readings
  b_law_readings : Binds K fd_law_readings ["_law_woods"] []
  m_law_readings : mg "_law_readings" = some (.ref f_law_readings)
  f_law : Addr
  fd_law : FuncData
  F_law : FnP K "law" s_law f_law fd_law
  b_law : Binds K fd_law ["_law_script"] []
  m_law : mg "law" = some (.ref f_law)
  t_FARTHEST_COORDINATE : Tok
  c_FARTHEST_COORDINATE : mg "FARTHEST_COORDINATE" = some (.int 1000000000000000000000000000000 t_FARTHEST_COORDINATE)
  t_MOST_POINTS : Tok
  c_MOST_POINTS : mg "MOST_POINTS" = some (.int 500 t_MOST_POINTS)
  t_MANY_POINTS : Tok
  c_MANY_POINTS : mg "MANY_POINTS" = some (.int 32 t_MANY_POINTS)
  t_MOST_NODES : Tok
  c_MOST_NODES : mg "MOST_NODES" = some (.int 500 t_MOST_NODES)
  a_ALL_KEYS : Addr
  c_ALL_KEYS : mg "ALL_KEYS" = some (.ref a_ALL_KEYS)
  r_ALL_KEYS : ∀ ρ H, Rv ⟨K, P, w⟩ ρ H v_ALL_KEYS (.ref a_ALL_KEYS)
  a_LAST_PART_FIRST : Addr
  c_LAST_PART_FIRST : mg "LAST_PART_FIRST" = some (.ref a_LAST_PART_FIRST)
  r_LAST_PART_FIRST : ∀ ρ H, Rv ⟨K, P, w⟩ ρ H v_LAST_PART_FIRST (.ref a_LAST_PART_FIRST)
  a_InvalidPoints : Addr
  e_InvalidPoints : Q3.SupC P K mg a_InvalidPoints "InvalidPoints" "index"
  a_InvalidTree : Addr
  e_InvalidTree : Q3.SupC P K mg a_InvalidTree "InvalidTree" "path"
  n_abs : mg "abs" = none
  n_bool : mg "bool" = none
  n_enumerate : mg "enumerate" = none
  n_int : mg "int" = none
  n_isinstance : mg "isinstance" = none
  n_len : mg "len" = none
  n_list : mg "list" = none
  n_max : mg "max" = none
  n_min : mg "min" = none
  n_range : mg "range" = none
  n_reversed : mg "reversed" = none
  n_set : mg "set" = none
  n_sorted : mg "sorted" = none
  n_tuple : mg "tuple" = none
section
variable {P : Program} {w : World} {K : PySem.W.Frag} {mg : Str → Option Value} {base : Heap}
theorem hu65 {A : Around} {k : Nat} (hr : Room k A) : A.units + 65 < cLine := by have := hr.un; omega
abbrev N_is_integer : List Str := ["value"]
theorem sc_is_integer : FnScope N_is_integer ["value"] (defScope s_is_integer) := ⟨rfl, rfl, rfl, by decide +kernel, rfl, by decide +kernel, by decide +kernel⟩
theorem d_is_integer (Z : Top P w K mg base) : Dx P w K mg base 1 "is_integer" ["value"] m_is_integer Z.f_is_integer Z.fd_is_integer :=
  ⟨fn_ok (N := N_is_integer) (ps := ["value"]) (k := 0) (m := b_is_integer) Z.F_is_integer sc_is_integer fun cdv A outer s H E W hr tk => by
      have PO := passes_of (X := cxOf (L2.CX P w) P w K mg base N_is_integer "is_integer" (defScope s_is_integer) Z.f_is_integer cdv A outer s H E) rfl
      exact (pmss_one (pms_ret (pm_and (pm_callB cIsi (by rfl) Z.n_isinstance (by decide +kernel) (pma_cons (pm_var (pv 0)) (pma_cons (pm_const (w := .ty "int") (pe_bltn (v := .ty "int") (by rfl) Z.n_int (by decide +kernel) rfl) (fun _ _ => rfl)) pma_nil))) (pm_one (pm_not (pm_callB cIsi (by rfl) Z.n_isinstance (by decide +kernel) (pma_cons (pm_var (pv 0)) (pma_cons (pm_const (w := .ty "bool") (pe_bltn (v := .ty "bool") (by rfl) Z.n_bool (by decide +kernel) rfl) (fun _ _ => rfl)) pma_nil)))))))), Z.F_is_integer.kp, Z.b_is_integer, Z.m_is_integer⟩
abbrev N_is_coordinate : List Str := ["value"]
theorem sc_is_coordinate : FnScope N_is_coordinate ["value"] (defScope s_is_coordinate) := ⟨rfl, rfl, rfl, by decide +kernel, rfl, by decide +kernel, by decide +kernel⟩
theorem d_is_coordinate (Z : Top P w K mg base) : Dx P w K mg base 2 "is_coordinate" ["value"] m_is_coordinate Z.f_is_coordinate Z.fd_is_coordinate :=
  ⟨fn_ok (N := N_is_coordinate) (ps := ["value"]) (k := 1) (m := b_is_coordinate) Z.F_is_coordinate sc_is_coordinate fun cdv A outer s H E W hr tk => by
      have PO := passes_of (X := cxOf (L2.CX P w) P w K mg base N_is_coordinate "is_coordinate" (defScope s_is_coordinate) Z.f_is_coordinate cdv A outer s H E) rfl
      exact (pmss_one (pms_ret (pm_and (pm_call (d_is_integer Z) tk (hr.mono (by decide)) (by rfl) (pma_cons (pm_var (pv 0)) pma_nil) rfl (hn := ArgN.len (n := 1) (.cons .nil))) (pm_one (pm_chain oLe oLe (pm_neg (pm_const (w := .int 1000000000000000000000000000000) (pe_glob (v := .int 1000000000000000000000000000000) (by rfl) Z.c_FARTHEST_COORDINATE ⟨_, rfl⟩) (fun _ _ => rfl))) (pm_var (pv 0)) (pm_const (w := .int 1000000000000000000000000000000) (pe_glob (v := .int 1000000000000000000000000000000) (by rfl) Z.c_FARTHEST_COORDINATE ⟨_, rfl⟩) (fun _ _ => rfl))))))), Z.F_is_coordinate.kp, Z.b_is_coordinate, Z.m_is_coordinate⟩
abbrev N_is_point : List Str := ["value"]
theorem sc_is_point : FnScope N_is_point ["value"] (defScope s_is_point) := ⟨rfl, rfl, rfl, by decide +kernel, rfl, by decide +kernel, by decide +kernel⟩
theorem d_is_point (Z : Top P w K mg base) : Dx P w K mg base 3 "is_point" ["value"] m_is_point Z.f_is_point Z.fd_is_point :=
  ⟨fn_ok (N := N_is_point) (ps := ["value"]) (k := 2) (m := b_is_point) Z.F_is_point sc_is_point fun cdv A outer s H E W hr tk => by
      have PO := passes_of (X := cxOf (L2.CX P w) P w K mg base N_is_point "is_point" (defScope s_is_point) Z.f_is_point cdv A outer s H E) rfl
      exact (pmss_cons (pms_if (PW.pt (pmw_or (pmt_not (pmt_val (pm_callB cIsi (by rfl) Z.n_isinstance (by decide +kernel) (pma_cons (pm_var (pv 0)) (pma_cons (pm_const (w := .ty "tuple") (pe_bltn (v := .ty "tuple") (by rfl) Z.n_tuple (by decide +kernel) rfl) (fun _ _ => rfl)) pma_nil))))) (pmw_or1 (pmt_cmp (oNe hr.units) (pm_callB cLen (by rfl) Z.n_len PySem.boot_len (pma_cons (pm_var (pv 0)) pma_nil)) pm_int (nomark _))))) (pmss_one (pms_ret pm_bl)) pmss_nil)
        (pmss_one (pms_ret (pm_and (pm_call (d_is_coordinate Z) tk (hr.mono (by decide)) (by rfl) (pma_cons (pm_ix iIx (pm_var (pv 0)) pm_int (fun _ _ => rfl)) pma_nil) rfl (hn := ArgN.len (n := 1) (.cons .nil))) (pm_one (pm_call (d_is_coordinate Z) tk (hr.mono (by decide)) (by rfl) (pma_cons (pm_ix iIx (pm_var (pv 0)) pm_int (fun _ _ => rfl)) pma_nil) rfl (hn := ArgN.len (n := 1) (.cons .nil)))))))), Z.F_is_point.kp, Z.b_is_point, Z.m_is_point⟩
abbrev N_check_points : List Str := ["value", "seen", "index", "entry"]
theorem sc_check_points : FnScope N_check_points ["value"] (defScope s_check_points) := ⟨rfl, rfl, rfl, by decide +kernel, rfl, by decide +kernel, by decide +kernel⟩
theorem d_check_points (Z : Top P w K mg base) : Dx P w K mg base 4 "check_points" ["value"] m_check_points Z.f_check_points Z.fd_check_points :=
  ⟨fn_ok (N := N_check_points) (ps := ["value"]) (k := 3) (m := b_check_points) Z.F_check_points sc_check_points fun cdv A outer s H E W hr tk => by
      have PO := passes_of (X := cxOf (L2.CX P w) P w K mg base N_check_points "check_points" (defScope s_check_points) Z.f_check_points cdv A outer s H E) rfl
      exact (pmss_cons (pms_if (PW.pt (pmw_or (pmt_not (pmt_val (pm_isiT (ts := ["list", "tuple"]) (by rfl) Z.n_isinstance (by decide +kernel) (pm_var (pv 0)) (pa_cons (pe_bltn (v := .ty "list") (by rfl) Z.n_list (by decide +kernel) rfl) (pa_cons (pe_bltn (v := .ty "tuple") (by rfl) Z.n_tuple (by decide +kernel) rfl) pa_nil)) (by decide)))) (pmw_or1 (pmt_cmp oGtI (pm_callB cLen (by rfl) Z.n_len PySem.boot_len (pma_cons (pm_var (pv 0)) pma_nil)) (pm_const (w := .int 500) (pe_glob (v := .int 500) (by rfl) Z.c_MOST_POINTS ⟨_, rfl⟩) (fun _ _ => rfl)) (nomark _))))) (pmss_one (pms_raise (k := 0) Z.e_InvalidPoints tk (hr.mono (by decide)) (by rfl) (pm_neg pm_int))) pmss_nil)
        (pmss_cons (pms_set (ps_set (i := 1) sc_check_points.nd rfl (.inl rfl) (pm_set0 (by rfl) Z.n_set (by decide +kernel))))
        (pmss_one (pms_for PO rfl (pmi_enum (by rfl) Z.n_enumerate (pma_cons (pm_var (pv 0)) pma_nil)) (pmg_tup rfl (pmgs_cons (pmg_name (pg_name (i := 2) sc_check_points.nd rfl (.inl rfl))) (pmgs_cons (pmg_name (pg_name (i := 3) sc_check_points.nd rfl (.inl rfl))) pmgs_nil))) (pmss_cons (pms_if (PW.pt (pmw_or (pmt_not (pmt_val (pm_call (d_is_point Z) tk (hr.mono (by decide)) (by rfl) (pma_cons (pm_var (pv 3)) pma_nil) rfl (hn := ArgN.len (n := 1) (.cons .nil))))) (pmw_or1 (pmt_cmp (oInF (hu65 hr)) (pm_var (pv 3)) (pm_var (pv 1)) (by with_unfolding_all rfl))))) (pmss_one (pms_raise (k := 0) Z.e_InvalidPoints tk (hr.mono (by decide)) (by rfl) (pm_var (pv 2)))) pmss_nil)
        (pmss_one (pms_expr (pm_addS hr.units (pm_var (pv 1)) (pma_cons (pm_var (pv 3)) pma_nil))))))))), Z.F_check_points.kp, Z.b_check_points, Z.m_check_points⟩
abbrev N_y_key : List Str := ["point"]
theorem sc_y_key : FnScope N_y_key ["point"] (defScope s_y_key) := ⟨rfl, rfl, rfl, by decide +kernel, rfl, by decide +kernel, by decide +kernel⟩
theorem d_y_key (Z : Top P w K mg base) : Dx P w K mg base 1 "y_key" ["point"] m_y_key Z.f_y_key Z.fd_y_key :=
  ⟨fn_ok (N := N_y_key) (ps := ["point"]) (k := 0) (m := b_y_key) Z.F_y_key sc_y_key fun cdv A outer s H E W hr tk => by
      have PO := passes_of (X := cxOf (L2.CX P w) P w K mg base N_y_key "y_key" (defScope s_y_key) Z.f_y_key cdv A outer s H E) rfl
      exact (pmss_one (pms_ret (pm_tup (pma_cons (pm_ix iIx (pm_var (pv 0)) pm_int (fun _ _ => rfl)) (pma_cons (pm_ix iIx (pm_var (pv 0)) pm_int (fun _ _ => rfl)) pma_nil))))), Z.F_y_key.kp, Z.b_y_key, Z.m_y_key⟩
abbrev N_part_of : List Str := ["root", "point", "x", "y"]
theorem sc_part_of : FnScope N_part_of ["root", "point"] (defScope s_part_of) := ⟨rfl, rfl, rfl, by decide +kernel, rfl, by decide +kernel, by decide +kernel⟩
theorem d_part_of (Z : Top P w K mg base) : Dx P w K mg base 1 "part_of" ["root", "point"] m_part_of Z.f_part_of Z.fd_part_of :=
  ⟨fn_ok (N := N_part_of) (ps := ["root", "point"]) (k := 0) (m := b_part_of) Z.F_part_of sc_part_of fun cdv A outer s H E W hr tk => by
      have PO := passes_of (X := cxOf (L2.CX P w) P w K mg base N_part_of "part_of" (defScope s_part_of) Z.f_part_of cdv A outer s H E) rfl
      exact (pmss_cons (pms_asg (pm_var (pv 0)) (pmg_tup rfl (pmgs_cons (pmg_name (pg_name (i := 2) sc_part_of.nd rfl (.inl rfl))) (pmgs_cons (pmg_name (pg_name (i := 3) sc_part_of.nd rfl (.inl rfl))) pmgs_nil))))
        (pmss_cons (pms_if (pmt_cmp oGtI (pm_ix iIx (pm_var (pv 1)) pm_int (fun _ _ => rfl)) (pm_var (pv 2)) (nomark _)) (pmss_one (pms_ret (pm_if (pmt_cmp oGe (pm_ix iIx (pm_var (pv 1)) pm_int (fun _ _ => rfl)) (pm_var (pv 3)) (nomark _)) pm_int pm_int))) pmss_nil)
        (pmss_cons (pms_if (pmt_cmp oLtI (pm_ix iIx (pm_var (pv 1)) pm_int (fun _ _ => rfl)) (pm_var (pv 2)) (nomark _)) (pmss_one (pms_ret (pm_if (pmt_cmp oGtI (pm_ix iIx (pm_var (pv 1)) pm_int (fun _ _ => rfl)) (pm_var (pv 3)) (nomark _)) pm_int pm_int))) pmss_nil)
        (pmss_cons (pms_if (pmt_cmp (oEq hr.units) (pm_ix iIx (pm_var (pv 1)) pm_int (fun _ _ => rfl)) (pm_var (pv 3)) (nomark _)) (pmss_one (pms_ret pm_non)) pmss_nil)
        (pmss_one (pms_ret (pm_if (pmt_cmp oGtI (pm_ix iIx (pm_var (pv 1)) pm_int (fun _ _ => rfl)) (pm_var (pv 3)) (nomark _)) pm_int pm_int))))))), Z.F_part_of.kp, Z.b_part_of, Z.m_part_of⟩
abbrev N_rows_by_steps : List Str := ["points", "many", "rows", "number", "point", "at", "row", "part"]
theorem sc_rows_by_steps : FnScope N_rows_by_steps ["points"] (defScope s_rows_by_steps) := ⟨rfl, rfl, rfl, by decide +kernel, rfl, by decide +kernel, by decide +kernel⟩
theorem d_rows_by_steps (Z : Top P w K mg base) : Dx P w K mg base 2 "rows_by_steps" ["points"] m_rows_by_steps Z.f_rows_by_steps Z.fd_rows_by_steps :=
  ⟨fn_ok (N := N_rows_by_steps) (ps := ["points"]) (k := 1) (m := b_rows_by_steps) Z.F_rows_by_steps sc_rows_by_steps fun cdv A outer s H E W hr tk => by
      have PO := passes_of (X := cxOf (L2.CX P w) P w K mg base N_rows_by_steps "rows_by_steps" (defScope s_rows_by_steps) Z.f_rows_by_steps cdv A outer s H E) rfl
      exact (pmss_cons (pms_set (ps_set (i := 1) sc_rows_by_steps.nd rfl (.inl rfl) (pm_callB cLen (by rfl) Z.n_len PySem.boot_len (pma_cons (pm_var (pv 0)) pma_nil))))
        (pmss_cons (pms_set (ps_set (i := 2) sc_rows_by_steps.nd rfl (.inl rfl) (pm_lst pma_nil)))
        (pmss_cons (pms_for PO rfl (pmi_enum (by rfl) Z.n_enumerate (pma_cons (pm_var (pv 0)) pma_nil)) (pmg_tup rfl (pmgs_cons (pmg_name (pg_name (i := 3) sc_rows_by_steps.nd rfl (.inl rfl))) (pmgs_cons (pmg_name (pg_name (i := 4) sc_rows_by_steps.nd rfl (.inl rfl))) pmgs_nil))) (pmss_cons (pms_set (ps_set (i := 5) sc_rows_by_steps.nd rfl (.inl rfl) pm_int))
        (pmss_cons (pms_while 1000000 PO (pmt_cmp oLtI (pm_var (pv 5)) (pm_var (pv 3)) (nomark _)) (pmss_cons (pms_set (ps_set (i := 6) sc_rows_by_steps.nd rfl (.inl rfl) (pm_ix iIx (pm_var (pv 2)) (pm_var (pv 5)) (fun _ _ => rfl))))
        (pmss_cons (pms_set (ps_set (i := 7) sc_rows_by_steps.nd rfl (.inl rfl) (pm_call (d_part_of Z) tk (hr.mono (by decide)) (by rfl) (pma_cons (pm_ix iIx (pm_var (pv 0)) (pm_var (pv 5)) (fun _ _ => rfl)) (pma_cons (pm_var (pv 4)) pma_nil)) rfl (hn := ArgN.len (n := 2) (.cons (.cons .nil))))))
        (pmss_one (pms_set (ps_set (i := 5) sc_rows_by_steps.nd rfl (.inl rfl) (pm_ix iIx (pm_var (pv 6)) (pm_var (pv 7)) (fun _ _ => rfl))))))))
        (pmss_cons (pms_if (pmt_cmp oGtI (pm_var (pv 3)) pm_int (nomark _)) (pmss_one (pms_asg (pm_var (pv 3)) (pmg_sub (pm_var (pv 6)) (pm_var (pv 7))))) pmss_nil)
        (pmss_one (pms_expr (pm_append (pm_var (pv 2)) (pma_cons (pm_lst (pma_cons (pm_var (pv 1)) (pma_cons (pm_var (pv 1)) (pma_cons (pm_var (pv 1)) (pma_cons (pm_var (pv 1)) pma_nil))))) pma_nil))))))))
        (pmss_one (pms_ret (pm_var (pv 2))))))), Z.F_rows_by_steps.kp, Z.b_rows_by_steps, Z.m_rows_by_steps⟩
theorem d_masks_around (Z : Top P w K mg base) : Dx P w K mg base 1 "masks_around" ["numbers"] mBadF Z.f_masks_around Z.fd_masks_around := ⟨bad_ok rfl, Z.F_masks_around.kp, Z.b_masks_around, Z.m_masks_around⟩
theorem d_masks_on_axes (Z : Top P w K mg base) : Dx P w K mg base 1 "masks_on_axes" ["points"] mBadF Z.f_masks_on_axes Z.fd_masks_on_axes := ⟨bad_ok rfl, Z.F_masks_on_axes.kp, Z.b_masks_on_axes, Z.m_masks_on_axes⟩
theorem d_rows_by_masks (Z : Top P w K mg base) : Dx P w K mg base 1 "rows_by_masks" ["points"] mBadF Z.f_rows_by_masks Z.fd_rows_by_masks := ⟨bad_ok rfl, Z.F_rows_by_masks.kp, Z.b_rows_by_masks, Z.m_rows_by_masks⟩
abbrev N_quarter_of_rows : List Str := ["points", "rows", "many", "trees", "number", "part0", "part1", "part2", "part3"]
theorem sc_quarter_of_rows : FnScope N_quarter_of_rows ["points", "rows", "many"] (defScope s_quarter_of_rows) := ⟨rfl, rfl, rfl, by decide +kernel, rfl, by decide +kernel, by decide +kernel⟩
theorem d_quarter_of_rows (Z : Top P w K mg base) : Dx P w K mg base 1 "quarter_of_rows" ["points", "rows", "many"] m_quarter_of_rows Z.f_quarter_of_rows Z.fd_quarter_of_rows :=
  ⟨fn_ok (N := N_quarter_of_rows) (ps := ["points", "rows", "many"]) (k := 0) (m := b_quarter_of_rows) Z.F_quarter_of_rows sc_quarter_of_rows fun cdv A outer s H E W hr tk => by
      have PO := passes_of (X := cxOf (L2.CX P w) P w K mg base N_quarter_of_rows "quarter_of_rows" (defScope s_quarter_of_rows) Z.f_quarter_of_rows cdv A outer s H E) rfl
      exact (pmss_cons (pms_set (ps_set (i := 3) sc_quarter_of_rows.nd rfl (.inl rfl) (pm_op oMul (pm_lst (pma_cons pm_non pma_nil)) (pm_op oAdd (pm_callB cLen (by rfl) Z.n_len PySem.boot_len (pma_cons (pm_var (pv 0)) pma_nil)) pm_int))))
        (pmss_cons (pms_for PO rfl (pmi_rev1 (by rfl) Z.n_reversed (by rfl) Z.n_range (pm_var (pv 2))) (pmg_name (pg_name (i := 4) sc_quarter_of_rows.nd rfl (.inl rfl))) (pmss_cons (pms_asg (pm_ix iIx (pm_var (pv 1)) (pm_var (pv 4)) (fun _ _ => rfl)) (pmg_lst rfl (pmgs_cons (pmg_name (pg_name (i := 5) sc_quarter_of_rows.nd rfl (.inl rfl))) (pmgs_cons (pmg_name (pg_name (i := 6) sc_quarter_of_rows.nd rfl (.inl rfl))) (pmgs_cons (pmg_name (pg_name (i := 7) sc_quarter_of_rows.nd rfl (.inl rfl))) (pmgs_cons (pmg_name (pg_name (i := 8) sc_quarter_of_rows.nd rfl (.inl rfl))) pmgs_nil))))))
        (pmss_one (pms_asg (pm_tup (pma_cons (pm_ix iIx (pm_var (pv 0)) (pm_var (pv 4)) (fun _ _ => rfl)) (pma_cons (pm_tup (pma_cons (pm_ix iIx (pm_var (pv 3)) (pm_var (pv 5)) (fun _ _ => rfl)) (pma_cons (pm_ix iIx (pm_var (pv 3)) (pm_var (pv 6)) (fun _ _ => rfl)) (pma_cons (pm_ix iIx (pm_var (pv 3)) (pm_var (pv 7)) (fun _ _ => rfl)) (pma_cons (pm_ix iIx (pm_var (pv 3)) (pm_var (pv 8)) (fun _ _ => rfl)) pma_nil))))) pma_nil))) (pmg_sub (pm_var (pv 3)) (pm_var (pv 4)))))))
        (pmss_one (pms_ret (pm_ix iIx (pm_var (pv 3)) pm_int (fun _ _ => rfl)))))), Z.F_quarter_of_rows.kp, Z.b_quarter_of_rows, Z.m_quarter_of_rows⟩
abbrev N_grown : List Str := ["points", "rows"]
theorem sc_grown : FnScope N_grown ["points"] (defScope s_grown) := ⟨rfl, rfl, rfl, by decide +kernel, rfl, by decide +kernel, by decide +kernel⟩
theorem d_grown (Z : Top P w K mg base) : Dx P w K mg base 3 "grown" ["points"] m_grown Z.f_grown Z.fd_grown :=
  ⟨fn_ok (N := N_grown) (ps := ["points"]) (k := 2) (m := b_grown) Z.F_grown sc_grown fun cdv A outer s H E W hr tk => by
      have PO := passes_of (X := cxOf (L2.CX P w) P w K mg base N_grown "grown" (defScope s_grown) Z.f_grown cdv A outer s H E) rfl
      exact (pmss_cons (pms_set (ps_set (i := 1) sc_grown.nd rfl (.inl rfl) (pm_if (pmt_cmp oLtI (pm_callB cLen (by rfl) Z.n_len PySem.boot_len (pma_cons (pm_var (pv 0)) pma_nil)) (pm_const (w := .int 32) (pe_glob (v := .int 32) (by rfl) Z.c_MANY_POINTS ⟨_, rfl⟩) (fun _ _ => rfl)) (nomark _)) (pm_call (d_rows_by_steps Z) tk (hr.mono (by decide)) (by rfl) (pma_cons (pm_var (pv 0)) pma_nil) rfl (hn := ArgN.len (n := 1) (.cons .nil))) (pm_call (d_rows_by_masks Z) tk (hr.mono (by decide)) (by rfl) (pma_cons (pm_var (pv 0)) pma_nil) rfl (hn := ArgN.len (n := 1) (.cons .nil))))))
        (pmss_one (pms_ret (pm_call (d_quarter_of_rows Z) tk (hr.mono (by decide)) (by rfl) (pma_cons (pm_var (pv 0)) (pma_cons (pm_var (pv 1)) (pma_cons (pm_callB cLen (by rfl) Z.n_len PySem.boot_len (pma_cons (pm_var (pv 0)) pma_nil)) pma_nil))) rfl (hn := ArgN.len (n := 3) (.cons (.cons (.cons .nil)))))))), Z.F_grown.kp, Z.b_grown, Z.m_grown⟩
abbrev N_is_node : List Str := ["value"]
theorem sc_is_node : FnScope N_is_node ["value"] (defScope s_is_node) := ⟨rfl, rfl, rfl, by decide +kernel, rfl, by decide +kernel, by decide +kernel⟩
theorem d_is_node (Z : Top P w K mg base) : Dx P w K mg base 4 "is_node" ["value"] m_is_node Z.f_is_node Z.fd_is_node :=
  ⟨fn_ok (N := N_is_node) (ps := ["value"]) (k := 3) (m := b_is_node) Z.F_is_node sc_is_node fun cdv A outer s H E W hr tk => by
      have PO := passes_of (X := cxOf (L2.CX P w) P w K mg base N_is_node "is_node" (defScope s_is_node) Z.f_is_node cdv A outer s H E) rfl
      exact (pmss_cons (pms_if (PW.pt (pmw_or (pmt_not (pmt_val (pm_callB cIsi (by rfl) Z.n_isinstance (by decide +kernel) (pma_cons (pm_var (pv 0)) (pma_cons (pm_const (w := .ty "tuple") (pe_bltn (v := .ty "tuple") (by rfl) Z.n_tuple (by decide +kernel) rfl) (fun _ _ => rfl)) pma_nil))))) (pmw_or1 (pmt_cmp (oNe hr.units) (pm_callB cLen (by rfl) Z.n_len PySem.boot_len (pma_cons (pm_var (pv 0)) pma_nil)) pm_int (nomark _))))) (pmss_one (pms_ret pm_bl)) pmss_nil)
        (pmss_one (pms_ret (pm_and (pm_call (d_is_point Z) tk (hr.mono (by decide)) (by rfl) (pma_cons (pm_ix iIx (pm_var (pv 0)) pm_int (fun _ _ => rfl)) pma_nil) rfl (hn := ArgN.len (n := 1) (.cons .nil))) (pm_and (pm_callB cIsi (by rfl) Z.n_isinstance (by decide +kernel) (pma_cons (pm_ix iIx (pm_var (pv 0)) pm_int (fun _ _ => rfl)) (pma_cons (pm_const (w := .ty "tuple") (pe_bltn (v := .ty "tuple") (by rfl) Z.n_tuple (by decide +kernel) rfl) (fun _ _ => rfl)) pma_nil))) (pm_one (pm_cmp (oEq hr.units) (pm_callB cLen (by rfl) Z.n_len PySem.boot_len (pma_cons (pm_ix iIx (pm_var (pv 0)) pm_int (fun _ _ => rfl)) pma_nil)) pm_int (nomark _)))))))), Z.F_is_node.kp, Z.b_is_node, Z.m_is_node⟩
abbrev N_narrowed : List Str := ["ends", "split", "part", "x", "y", "x2", "y2"]
theorem sc_narrowed : FnScope N_narrowed ["ends", "split", "part"] (defScope s_narrowed) := ⟨rfl, rfl, rfl, by decide +kernel, rfl, by decide +kernel, by decide +kernel⟩
theorem d_narrowed (Z : Top P w K mg base) : Dx P w K mg base 1 "narrowed" ["ends", "split", "part"] m_narrowed Z.f_narrowed Z.fd_narrowed :=
  ⟨fn_ok (N := N_narrowed) (ps := ["ends", "split", "part"]) (k := 0) (m := b_narrowed) Z.F_narrowed sc_narrowed fun cdv A outer s H E W hr tk => by
      have PO := passes_of (X := cxOf (L2.CX P w) P w K mg base N_narrowed "narrowed" (defScope s_narrowed) Z.f_narrowed cdv A outer s H E) rfl
      exact (pmss_cons (pms_asg (pm_var (pv 0)) (pmg_tup rfl (pmgs_cons (pmg_name (pg_name (i := 3) sc_narrowed.nd rfl (.inl rfl))) (pmgs_cons (pmg_name (pg_name (i := 4) sc_narrowed.nd rfl (.inl rfl))) (pmgs_cons (pmg_name (pg_name (i := 5) sc_narrowed.nd rfl (.inl rfl))) (pmgs_cons (pmg_name (pg_name (i := 6) sc_narrowed.nd rfl (.inl rfl))) pmgs_nil))))))
        (pmss_cons (pms_if (pmt_cmp oInT (pm_var (pv 2)) (pm_tup (pma_cons pm_int (pma_cons pm_int pma_nil))) (by with_unfolding_all rfl)) (pmss_one (pms_set (ps_set (i := 3) sc_narrowed.nd rfl (.inl rfl) (pm_ix iIx (pm_var (pv 1)) pm_int (fun _ _ => rfl))))) (pmss_one (pms_set (ps_set (i := 5) sc_narrowed.nd rfl (.inl rfl) (pm_ix iIx (pm_var (pv 1)) pm_int (fun _ _ => rfl))))))
        (pmss_cons (pms_if (pmt_cmp oInT (pm_var (pv 2)) (pm_tup (pma_cons pm_int (pma_cons pm_int pma_nil))) (by with_unfolding_all rfl)) (pmss_one (pms_set (ps_set (i := 4) sc_narrowed.nd rfl (.inl rfl) (pm_ix iIx (pm_var (pv 1)) pm_int (fun _ _ => rfl))))) (pmss_one (pms_set (ps_set (i := 6) sc_narrowed.nd rfl (.inl rfl) (pm_ix iIx (pm_var (pv 1)) pm_int (fun _ _ => rfl))))))
        (pmss_one (pms_ret (pm_tup (pma_cons (pm_var (pv 3)) (pma_cons (pm_var (pv 4)) (pma_cons (pm_var (pv 5)) (pma_cons (pm_var (pv 6)) pma_nil)))))))))), Z.F_narrowed.kp, Z.b_narrowed, Z.m_narrowed⟩
abbrev N_fault_of : List Str := ["value", "many", "pile", "thing", "path", "keys", "point", "parts", "split", "x", "y", "x2", "y2", "part"]
theorem sc_fault_of : FnScope N_fault_of ["value"] (defScope s_fault_of) := ⟨rfl, rfl, rfl, by decide +kernel, rfl, by decide +kernel, by decide +kernel⟩
theorem d_fault_of (Z : Top P w K mg base) : Dx P w K mg base 5 "fault_of" ["value"] m_fault_of Z.f_fault_of Z.fd_fault_of :=
  ⟨fn_ok (N := N_fault_of) (ps := ["value"]) (k := 4) (m := b_fault_of) Z.F_fault_of sc_fault_of fun cdv A outer s H E W hr tk => by
      have PO := passes_of (X := cxOf (L2.CX P w) P w K mg base N_fault_of "fault_of" (defScope s_fault_of) Z.f_fault_of cdv A outer s H E) rfl
      exact (pmss_cons (pms_set (ps_set (i := 1) sc_fault_of.nd rfl (.inl rfl) pm_int))
        (pmss_cons (pms_set (ps_set (i := 2) sc_fault_of.nd rfl (.inl rfl) (pm_lst (pma_cons (pm_tup (pma_cons (pm_var (pv 0)) (pma_cons (pm_tup pma_nil) (pma_cons (pm_const (w := .ref Z.a_ALL_KEYS) (pe_glob (v := .ref Z.a_ALL_KEYS) (by rfl) Z.c_ALL_KEYS rfl) (fun ρ H => Z.r_ALL_KEYS ρ H)) pma_nil)))) pma_nil))))
        (pmss_cons (pms_while 1000000 PO (pmt_tru (pm_var (pv 2))) (pmss_cons (pms_asg (pm_pop (pm_var (pv 2))) (pmg_tup rfl (pmgs_cons (pmg_name (pg_name (i := 3) sc_fault_of.nd rfl (.inl rfl))) (pmgs_cons (pmg_name (pg_name (i := 4) sc_fault_of.nd rfl (.inl rfl))) (pmgs_cons (pmg_name (pg_name (i := 5) sc_fault_of.nd rfl (.inl rfl))) pmgs_nil)))))
        (pmss_cons (pms_if (pmt_isN (b := .Constant .none 0 ⟨0, 0, 0, 0⟩) (pt_cmp (pc_isN (pm_var (pv 3))))) (pmss_one pms_cnt) pmss_nil)
        (pmss_cons (pms_aug (i := 1) sc_fault_of.nd rfl (.inl rfl) ipAdd pm_int)
        (pmss_cons (pms_if (PW.pt (pmw_or (pmt_cmp oGtI (pm_var (pv 1)) (pm_const (w := .int 500) (pe_glob (v := .int 500) (by rfl) Z.c_MOST_NODES ⟨_, rfl⟩) (fun _ _ => rfl)) (nomark _)) (pmw_or1 (pmt_not (pmt_val (pm_call (d_is_node Z) tk (hr.mono (by decide)) (by rfl) (pma_cons (pm_var (pv 3)) pma_nil) rfl (hn := ArgN.len (n := 1) (.cons .nil)))))))) (pmss_one (pms_ret (pm_var (pv 4)))) pmss_nil)
        (pmss_cons (pms_asg (pm_var (pv 3)) (pmg_tup rfl (pmgs_cons (pmg_name (pg_name (i := 6) sc_fault_of.nd rfl (.inl rfl))) (pmgs_cons (pmg_name (pg_name (i := 7) sc_fault_of.nd rfl (.inl rfl))) pmgs_nil))))
        (pmss_cons (pms_set (ps_set (i := 8) sc_fault_of.nd rfl (.inl rfl) (pm_tup (pma_cons (pm_var (pv 6)) (pma_cons (pm_call (d_y_key Z) tk (hr.mono (by decide)) (by rfl) (pma_cons (pm_var (pv 6)) pma_nil) rfl (hn := ArgN.len (n := 1) (.cons .nil))) pma_nil)))))
        (pmss_cons (pms_asg (pm_var (pv 5)) (pmg_tup rfl (pmgs_cons (pmg_name (pg_name (i := 9) sc_fault_of.nd rfl (.inl rfl))) (pmgs_cons (pmg_name (pg_name (i := 10) sc_fault_of.nd rfl (.inl rfl))) (pmgs_cons (pmg_name (pg_name (i := 11) sc_fault_of.nd rfl (.inl rfl))) (pmgs_cons (pmg_name (pg_name (i := 12) sc_fault_of.nd rfl (.inl rfl))) pmgs_nil))))))
        (pmss_cons (pms_if (PW.pt (pmw_or (pmt_not (pmt_chain (oLtE hr.units) (oLtE hr.units) (pm_var (pv 9)) (pm_var (pv 6)) (pm_var (pv 11)))) (pmw_or1 (pmt_not (pmt_chain (oLtE hr.units) (oLtE hr.units) (pm_var (pv 10)) (pm_ix iIx (pm_var (pv 8)) pm_int (fun _ _ => rfl)) (pm_var (pv 12))))))) (pmss_one (pms_ret (pm_var (pv 4)))) pmss_nil)
        (pmss_one (pms_for PO rfl (pmi_any (pm_const (w := .ref Z.a_LAST_PART_FIRST) (pe_glob (v := .ref Z.a_LAST_PART_FIRST) (by rfl) Z.c_LAST_PART_FIRST rfl) (fun ρ H => Z.r_LAST_PART_FIRST ρ H))) (pmg_name (pg_name (i := 13) sc_fault_of.nd rfl (.inl rfl))) (pmss_one (pms_if (pmt_notN (b := .Constant .none 0 ⟨0, 0, 0, 0⟩) (pt_cmp (pc_notN (pm_ix iIx (pm_var (pv 7)) (pm_var (pv 13)) (fun _ _ => rfl))))) (pmss_one (pms_expr (pm_append (pm_var (pv 2)) (pma_cons (pm_tup (pma_cons (pm_ix iIx (pm_var (pv 7)) (pm_var (pv 13)) (fun _ _ => rfl)) (pma_cons (pm_op oAddE (pm_var (pv 4)) (pm_tup (pma_cons (pm_var (pv 13)) pma_nil))) (pma_cons (pm_call (d_narrowed Z) tk (hr.mono (by decide)) (by rfl) (pma_cons (pm_var (pv 5)) (pma_cons (pm_var (pv 8)) (pma_cons (pm_var (pv 13)) pma_nil))) rfl (hn := ArgN.len (n := 3) (.cons (.cons (.cons .nil))))) pma_nil)))) pma_nil)))) pmss_nil)))))))))))))
        (pmss_one (pms_ret pm_non))))), Z.F_fault_of.kp, Z.b_fault_of, Z.m_fault_of⟩
abbrev N_check_quarter : List Str := ["value", "path"]
theorem sc_check_quarter : FnScope N_check_quarter ["value"] (defScope s_check_quarter) := ⟨rfl, rfl, rfl, by decide +kernel, rfl, by decide +kernel, by decide +kernel⟩
theorem d_check_quarter (Z : Top P w K mg base) : Dx P w K mg base 6 "check_quarter" ["value"] m_check_quarter Z.f_check_quarter Z.fd_check_quarter :=
  ⟨fn_ok (N := N_check_quarter) (ps := ["value"]) (k := 5) (m := b_check_quarter) Z.F_check_quarter sc_check_quarter fun cdv A outer s H E W hr tk => by
      have PO := passes_of (X := cxOf (L2.CX P w) P w K mg base N_check_quarter "check_quarter" (defScope s_check_quarter) Z.f_check_quarter cdv A outer s H E) rfl
      exact (pmss_cons (pms_set (ps_set (i := 1) sc_check_quarter.nd rfl (.inl rfl) (pm_call (d_fault_of Z) tk (hr.mono (by decide)) (by rfl) (pma_cons (pm_var (pv 0)) pma_nil) rfl (hn := ArgN.len (n := 1) (.cons .nil)))))
        (pmss_one (pms_if (pmt_notN (b := .Constant .none 0 ⟨0, 0, 0, 0⟩) (pt_cmp (pc_notN (pm_var (pv 1))))) (pmss_one (pms_raise (k := 0) Z.e_InvalidTree tk (hr.mono (by decide)) (by rfl) (pm_var (pv 1)))) pmss_nil))), Z.F_check_quarter.kp, Z.b_check_quarter, Z.m_check_quarter⟩
abbrev N_nodes_of : List Str := ["tree", "nodes", "pile", "node"]
theorem sc_nodes_of : FnScope N_nodes_of ["tree"] (defScope s_nodes_of) := ⟨rfl, rfl, rfl, by decide +kernel, rfl, by decide +kernel, by decide +kernel⟩
theorem d_nodes_of (Z : Top P w K mg base) : Dx P w K mg base 1 "nodes_of" ["tree"] m_nodes_of Z.f_nodes_of Z.fd_nodes_of :=
  ⟨fn_ok (N := N_nodes_of) (ps := ["tree"]) (k := 0) (m := b_nodes_of) Z.F_nodes_of sc_nodes_of fun cdv A outer s H E W hr tk => by
      have PO := passes_of (X := cxOf (L2.CX P w) P w K mg base N_nodes_of "nodes_of" (defScope s_nodes_of) Z.f_nodes_of cdv A outer s H E) rfl
      exact (pmss_cons (pms_set (ps_set (i := 1) sc_nodes_of.nd rfl (.inl rfl) (pm_lst pma_nil)))
        (pmss_cons (pms_set (ps_set (i := 2) sc_nodes_of.nd rfl (.inl rfl) (pm_lst (pma_cons (pm_var (pv 0)) pma_nil))))
        (pmss_cons (pms_while 1000000 PO (pmt_tru (pm_var (pv 2))) (pmss_cons (pms_set (ps_set (i := 3) sc_nodes_of.nd rfl (.inl rfl) (pm_pop (pm_var (pv 2)))))
        (pmss_one (pms_if (pmt_notN (b := .Constant .none 0 ⟨0, 0, 0, 0⟩) (pt_cmp (pc_notN (pm_var (pv 3))))) (pmss_cons (pms_expr (pm_append (pm_var (pv 1)) (pma_cons (pm_var (pv 3)) pma_nil)))
        (pmss_one (pms_expr (pm_extendT (pm_var (pv 2)) (pma_cons (pm_revT4 (pm_ix iIx (pm_var (pv 3)) pm_int (fun _ _ => rfl))) pma_nil))))) pmss_nil))))
        (pmss_one (pms_ret (pm_var (pv 1))))))), Z.F_nodes_of.kp, Z.b_nodes_of, Z.m_nodes_of⟩
abbrev N_reading : List Str := ["tree", "node"]
theorem sc_reading : FnScope N_reading ["tree"] (defScope s_reading) := ⟨rfl, rfl, rfl, by decide +kernel, rfl, by decide +kernel, by decide +kernel⟩
theorem d_reading (Z : Top P w K mg base) : Dx P w K mg base 2 "reading" ["tree"] m_reading Z.f_reading Z.fd_reading :=
  ⟨fn_ok (N := N_reading) (ps := ["tree"]) (k := 1) (m := b_reading) Z.F_reading sc_reading fun cdv A outer s H E W hr tk => by
      have PO := passes_of (X := cxOf (L2.CX P w) P w K mg base N_reading "reading" (defScope s_reading) Z.f_reading cdv A outer s H E) rfl
      exact (pmss_one (pms_ret (pm_lc (own := [("node", 1)]) rfl sc_reading.nd (pmi_any (pm_call (d_nodes_of Z) tk (hr.mono (by decide)) (by rfl) (pma_cons (pm_var (pv 0)) pma_nil) rfl (hn := ArgN.len (n := 1) (.cons .nil)))) (blkOk_by (own := [("node", 1)]) (N := N_reading) (sc := defScope s_reading) (by decide +kernel)) (by decide) (fun _ _ _ _ _ => (pmg_name (pg_name (i := 1) sc_reading.nd rfl (Or.inl rfl)))) (fun _ _ _ _ _ => pmts_nil) (fun _ _ _ _ _ => (pm_ix iIx (pm_var (pv 1)) pm_int (fun _ _ => rfl)))))), Z.F_reading.kp, Z.b_reading, Z.m_reading⟩
abbrev N_level_counts : List Str := ["tree", "counts", "row", "node", "part"]
theorem sc_level_counts : FnScope N_level_counts ["tree"] (defScope s_level_counts) := ⟨rfl, rfl, rfl, by decide +kernel, rfl, by decide +kernel, by decide +kernel⟩
theorem d_level_counts (Z : Top P w K mg base) : Dx P w K mg base 1 "level_counts" ["tree"] m_level_counts Z.f_level_counts Z.fd_level_counts :=
  ⟨fn_ok (N := N_level_counts) (ps := ["tree"]) (k := 0) (m := b_level_counts) Z.F_level_counts sc_level_counts fun cdv A outer s H E W hr tk => by
      have PO := passes_of (X := cxOf (L2.CX P w) P w K mg base N_level_counts "level_counts" (defScope s_level_counts) Z.f_level_counts cdv A outer s H E) rfl
      exact (pmss_cons (pms_set (ps_set (i := 1) sc_level_counts.nd rfl (.inl rfl) (pm_lst pma_nil)))
        (pmss_cons (pms_set (ps_set (i := 2) sc_level_counts.nd rfl (.inl rfl) (pm_if (pmt_isN (b := .Constant .none 0 ⟨0, 0, 0, 0⟩) (pt_cmp (pc_isN (pm_var (pv 0))))) (pm_lst pma_nil) (pm_lst (pma_cons (pm_var (pv 0)) pma_nil)))))
        (pmss_cons (pms_while 1000000 PO (pmt_tru (pm_var (pv 2))) (pmss_cons (pms_expr (pm_append (pm_var (pv 1)) (pma_cons (pm_callB cLen (by rfl) Z.n_len PySem.boot_len (pma_cons (pm_var (pv 2)) pma_nil)) pma_nil)))
        (pmss_one (pms_lc2 (i := 2) (own := [("node", 3), ("part", 4)]) rfl sc_level_counts.nd rfl rfl (sw_true rfl rfl rfl (by decide +kernel)) (pmi_any (pm_var (pv 2))) (blkOk_by (own := [("node", 3), ("part", 4)]) (N := N_level_counts) (sc := defScope s_level_counts) (by decide +kernel)) (vs1 := [4]) (by decide) (by decide) (by decide) (fun _ _ _ _ _ => (pmg_name (pg_name (i := 3) sc_level_counts.nd rfl (Or.inl rfl)))) (fun _ _ _ _ _ => pmts_nil) (fun _ _ _ _ _ => (pmi_any (pm_ix iIx (pm_var (pv 3)) pm_int (fun _ _ => rfl)))) (fun _ _ _ _ _ => (pmg_name (pg_name (i := 4) sc_level_counts.nd rfl (Or.inl rfl)))) (fun _ _ _ _ _ => (pmts_one (pmt_notN (b := .Constant .none 0 ⟨0, 0, 0, 0⟩) (pt_cmp (pc_notN (pm_var (pv 4))))))) (fun _ _ _ _ _ => (pm_var (pv 4)))))))
        (pmss_one (pms_ret (pm_var (pv 1))))))), Z.F_level_counts.kp, Z.b_level_counts, Z.m_level_counts⟩
abbrev N_built : List Str := ["points"]
theorem sc_built : FnScope N_built ["points"] (defScope s_built) := ⟨rfl, rfl, rfl, by decide +kernel, rfl, by decide +kernel, by decide +kernel⟩
theorem d_built (Z : Top P w K mg base) : Dx P w K mg base 5 "built" ["points"] m_built Z.f_built Z.fd_built :=
  ⟨fn_ok (N := N_built) (ps := ["points"]) (k := 4) (m := b_built) Z.F_built sc_built fun cdv A outer s H E W hr tk => by
      have PO := passes_of (X := cxOf (L2.CX P w) P w K mg base N_built "built" (defScope s_built) Z.f_built cdv A outer s H E) rfl
      exact (pmss_cons (pms_expr (pm_call (d_check_points Z) tk (hr.mono (by decide)) (by rfl) (pma_cons (pm_var (pv 0)) pma_nil) rfl (hn := ArgN.len (n := 1) (.cons .nil))))
        (pmss_one (pms_ret (pm_call (d_grown Z) tk (hr.mono (by decide)) (by rfl) (pma_cons (pm_var (pv 0)) pma_nil) rfl (hn := ArgN.len (n := 1) (.cons .nil)))))), Z.F_built.kp, Z.b_built, Z.m_built⟩
abbrev N_is_quarter : List Str := ["value"]
theorem sc_is_quarter : FnScope N_is_quarter ["value"] (defScope s_is_quarter) := ⟨rfl, rfl, rfl, by decide +kernel, rfl, by decide +kernel, by decide +kernel⟩
theorem d_is_quarter (Z : Top P w K mg base) : Dx P w K mg base 6 "is_quarter" ["value"] m_is_quarter Z.f_is_quarter Z.fd_is_quarter :=
  ⟨fn_ok (N := N_is_quarter) (ps := ["value"]) (k := 5) (m := b_is_quarter) Z.F_is_quarter sc_is_quarter fun cdv A outer s H E W hr tk => by
      have PO := passes_of (X := cxOf (L2.CX P w) P w K mg base N_is_quarter "is_quarter" (defScope s_is_quarter) Z.f_is_quarter cdv A outer s H E) rfl
      exact (pmss_one (pms_ret (pm_isN (b := .Constant .none 0 ⟨0, 0, 0, 0⟩) (pe_cmp (pc_isN (pm_call (d_fault_of Z) tk (hr.mono (by decide)) (by rfl) (pma_cons (pm_var (pv 0)) pma_nil) rfl (hn := ArgN.len (n := 1) (.cons .nil)))))))), Z.F_is_quarter.kp, Z.b_is_quarter, Z.m_is_quarter⟩
abbrev N_points_of : List Str := ["tree"]
theorem sc_points_of : FnScope N_points_of ["tree"] (defScope s_points_of) := ⟨rfl, rfl, rfl, by decide +kernel, rfl, by decide +kernel, by decide +kernel⟩
theorem d_points_of (Z : Top P w K mg base) : Dx P w K mg base 7 "points_of" ["tree"] m_points_of Z.f_points_of Z.fd_points_of :=
  ⟨fn_ok (N := N_points_of) (ps := ["tree"]) (k := 6) (m := b_points_of) Z.F_points_of sc_points_of fun cdv A outer s H E W hr tk => by
      have PO := passes_of (X := cxOf (L2.CX P w) P w K mg base N_points_of "points_of" (defScope s_points_of) Z.f_points_of cdv A outer s H E) rfl
      exact (pmss_cons (pms_expr (pm_call (d_check_quarter Z) tk (hr.mono (by decide)) (by rfl) (pma_cons (pm_var (pv 0)) pma_nil) rfl (hn := ArgN.len (n := 1) (.cons .nil))))
        (pmss_one (pms_ret (pm_call (d_reading Z) tk (hr.mono (by decide)) (by rfl) (pma_cons (pm_var (pv 0)) pma_nil) rfl (hn := ArgN.len (n := 1) (.cons .nil)))))), Z.F_points_of.kp, Z.b_points_of, Z.m_points_of⟩
abbrev N_depth : List Str := ["tree"]
theorem sc_depth : FnScope N_depth ["tree"] (defScope s_depth) := ⟨rfl, rfl, rfl, by decide +kernel, rfl, by decide +kernel, by decide +kernel⟩
theorem d_depth (Z : Top P w K mg base) : Dx P w K mg base 7 "depth" ["tree"] m_depth Z.f_depth Z.fd_depth :=
  ⟨fn_ok (N := N_depth) (ps := ["tree"]) (k := 6) (m := b_depth) Z.F_depth sc_depth fun cdv A outer s H E W hr tk => by
      have PO := passes_of (X := cxOf (L2.CX P w) P w K mg base N_depth "depth" (defScope s_depth) Z.f_depth cdv A outer s H E) rfl
      exact (pmss_cons (pms_expr (pm_call (d_check_quarter Z) tk (hr.mono (by decide)) (by rfl) (pma_cons (pm_var (pv 0)) pma_nil) rfl (hn := ArgN.len (n := 1) (.cons .nil))))
        (pmss_one (pms_ret (pm_callB cLen (by rfl) Z.n_len PySem.boot_len (pma_cons (pm_call (d_level_counts Z) tk (hr.mono (by decide)) (by rfl) (pma_cons (pm_var (pv 0)) pma_nil) rfl (hn := ArgN.len (n := 1) (.cons .nil))) pma_nil))))), Z.F_depth.kp, Z.b_depth, Z.m_depth⟩
abbrev N_law_mixed : List Str := ["_law_cell", "_law_draw", "_law_figure"]
theorem sc_law_mixed : FnScope N_law_mixed ["_law_cell", "_law_draw"] (defScope s_law_mixed) := ⟨rfl, rfl, rfl, by decide +kernel, rfl, by decide +kernel, by decide +kernel⟩
theorem d_law_mixed (Z : Top P w K mg base) : Dx P w K mg base 1 "_law_mixed" ["_law_cell", "_law_draw"] m_law_mixed Z.f_law_mixed Z.fd_law_mixed :=
  ⟨fn_ok (N := N_law_mixed) (ps := ["_law_cell", "_law_draw"]) (k := 0) (m := b_law_mixed) Z.F_law_mixed sc_law_mixed fun cdv A outer s H E W hr tk => by
      have PO := passes_of (X := cxOf (L2.CX P w) P w K mg base N_law_mixed "_law_mixed" (defScope s_law_mixed) Z.f_law_mixed cdv A outer s H E) rfl
      exact (pmss_cons (pms_set (ps_set (i := 2) sc_law_mixed.nd rfl (.inl rfl) (pm_op oMod (pm_callTy cInt (by rfl) Z.n_int (by decide +kernel) (pma_cons (pm_op oMul (pm_op oAdd (pm_op oMod (pm_callTy cInt (by rfl) Z.n_int (by decide +kernel) (pma_cons (pm_var (pv 0)) pma_nil)) pm_int) pm_int) (pm_op oAdd (pm_op oMul (pm_var (pv 1)) pm_int) pm_int)) pma_nil)) pm_int)))
        (pmss_cons (pms_set (ps_set (i := 2) sc_law_mixed.nd rfl (.inl rfl) (pm_op oMod (pm_callTy cInt (by rfl) Z.n_int (by decide +kernel) (pma_cons (pm_op oMul (pm_op oAdd (pm_var (pv 2)) (pm_op oMul (pm_op oMod (pm_callTy cInt (by rfl) Z.n_int (by decide +kernel) (pma_cons (pm_op oDiv (pm_var (pv 0)) pm_int) pma_nil)) pm_int) (pm_op oAdd (pm_var (pv 1)) pm_int))) pm_int) pma_nil)) pm_int)))
        (pmss_cons (pms_set (ps_set (i := 2) sc_law_mixed.nd rfl (.inl rfl) (pm_op oMod (pm_callTy cInt (by rfl) Z.n_int (by decide +kernel) (pma_cons (pm_op oMul (pm_var (pv 2)) (pm_op oAdd (pm_op oAdd (pm_op oDiv (pm_var (pv 2)) pm_int) pm_int) (pm_var (pv 1)))) pma_nil)) pm_int)))
        (pmss_one (pms_ret (pm_op oMod (pm_callTy cInt (by rfl) Z.n_int (by decide +kernel) (pma_cons (pm_op oMul (pm_var (pv 2)) (pm_op oAdd (pm_op oDiv (pm_var (pv 2)) pm_int) pm_int)) pma_nil)) pm_int)))))), Z.F_law_mixed.kp, Z.b_law_mixed, Z.m_law_mixed⟩
abbrev N_law_source : List Str := ["_law_cell"]
theorem sc_law_source : FnScope N_law_source ["_law_cell"] (defScope s_law_source) := ⟨rfl, rfl, rfl, by decide +kernel, rfl, by decide +kernel, by decide +kernel⟩
theorem d_law_source (Z : Top P w K mg base) : Dx P w K mg base 1 "_law_source" ["_law_cell"] m_law_source Z.f_law_source Z.fd_law_source :=
  ⟨fn_ok (N := N_law_source) (ps := ["_law_cell"]) (k := 0) (m := b_law_source) Z.F_law_source sc_law_source fun cdv A outer s H E W hr tk => by
      have PO := passes_of (X := cxOf (L2.CX P w) P w K mg base N_law_source "_law_source" (defScope s_law_source) Z.f_law_source cdv A outer s H E) rfl
      exact (pmss_cons (pms_if (pmt_cmp oGe (pm_callB cAbs (by rfl) Z.n_abs (by decide +kernel) (pma_cons (pm_var (pv 0)) pma_nil)) (pm_op oPow pm_int pm_int) (nomark _)) (pmss_one (pms_ret (pm_lst (pma_cons (pm_callB cAbs (by rfl) Z.n_abs (by decide +kernel) (pma_cons (pm_var (pv 0)) pma_nil)) (pma_cons (pm_callB cAbs (by rfl) Z.n_abs (by decide +kernel) (pma_cons (pm_var (pv 0)) pma_nil)) (pma_cons pm_int pma_nil)))))) pmss_nil)
        (pmss_one (pms_ret (pm_lst (pma_cons pm_int (pma_cons (pm_callB cAbs (by rfl) Z.n_abs (by decide +kernel) (pma_cons (pm_var (pv 0)) pma_nil)) (pma_cons pm_int pma_nil))))))), Z.F_law_source.kp, Z.b_law_source, Z.m_law_source⟩
abbrev N_law_take : List Str := ["_law_source_here", "_law_bound", "_law_drawn"]
theorem sc_law_take : FnScope N_law_take ["_law_source_here", "_law_bound"] (defScope s_law_take) := ⟨rfl, rfl, rfl, by decide +kernel, rfl, by decide +kernel, by decide +kernel⟩
theorem d_law_take (Z : Top P w K mg base) : Dx P w K mg base 2 "_law_take" ["_law_source_here", "_law_bound"] m_law_take Z.f_law_take Z.fd_law_take :=
  ⟨fn_ok (N := N_law_take) (ps := ["_law_source_here", "_law_bound"]) (k := 1) (m := b_law_take) Z.F_law_take sc_law_take fun cdv A outer s H E W hr tk => by
      have PO := passes_of (X := cxOf (L2.CX P w) P w K mg base N_law_take "_law_take" (defScope s_law_take) Z.f_law_take cdv A outer s H E) rfl
      exact (pmss_cons (pms_if (pmt_cmp oGtI (pm_ix iIx (pm_var (pv 0)) pm_int (fun _ _ => rfl)) pm_int (nomark _)) (pmss_cons (pms_set (ps_set (i := 2) sc_law_take.nd rfl (.inl rfl) (pm_op oMod (pm_callTy cInt (by rfl) Z.n_int (by decide +kernel) (pma_cons (pm_ix iIx (pm_var (pv 0)) pm_int (fun _ _ => rfl)) pma_nil)) (pm_var (pv 1)))))
        (pmss_cons (pms_asg (pm_op oDiv (pm_ix iIx (pm_var (pv 0)) pm_int (fun _ _ => rfl)) (pm_var (pv 1))) (pmg_sub (pm_var (pv 0)) pm_int))
        (pmss_one (pms_ret (pm_var (pv 2)))))) pmss_nil)
        (pmss_cons (pms_asg (pm_op oAdd (pm_ix iIx (pm_var (pv 0)) pm_int (fun _ _ => rfl)) pm_int) (pmg_sub (pm_var (pv 0)) pm_int))
        (pmss_one (pms_ret (pm_op oMod (pm_callTy cInt (by rfl) Z.n_int (by decide +kernel) (pma_cons (pm_call (d_law_mixed Z) tk (hr.mono (by decide)) (by rfl) (pma_cons (pm_ix iIx (pm_var (pv 0)) pm_int (fun _ _ => rfl)) (pma_cons (pm_ix iIx (pm_var (pv 0)) pm_int (fun _ _ => rfl)) pma_nil)) rfl (hn := ArgN.len (n := 2) (.cons (.cons .nil)))) pma_nil)) (pm_var (pv 1))))))), Z.F_law_take.kp, Z.b_law_take, Z.m_law_take⟩
abbrev N_law_pick : List Str := ["_law_source_here", "_law_some"]
theorem sc_law_pick : FnScope N_law_pick ["_law_source_here", "_law_some"] (defScope s_law_pick) := ⟨rfl, rfl, rfl, by decide +kernel, rfl, by decide +kernel, by decide +kernel⟩
theorem d_law_pick (Z : Top P w K mg base) : Dx P w K mg base 3 "_law_pick" ["_law_source_here", "_law_some"] m_law_pick Z.f_law_pick Z.fd_law_pick :=
  ⟨fn_ok (N := N_law_pick) (ps := ["_law_source_here", "_law_some"]) (k := 2) (m := b_law_pick) Z.F_law_pick sc_law_pick fun cdv A outer s H E W hr tk => by
      have PO := passes_of (X := cxOf (L2.CX P w) P w K mg base N_law_pick "_law_pick" (defScope s_law_pick) Z.f_law_pick cdv A outer s H E) rfl
      exact (pmss_one (pms_ret (pm_ix iIx (pm_var (pv 1)) (pm_call (d_law_take Z) tk (hr.mono (by decide)) (by rfl) (pma_cons (pm_var (pv 0)) (pma_cons (pm_callB cLen (by rfl) Z.n_len PySem.boot_len (pma_cons (pm_var (pv 1)) pma_nil)) pma_nil)) rfl (hn := ArgN.len (n := 2) (.cons (.cons .nil)))) (fun _ _ => rfl)))), Z.F_law_pick.kp, Z.b_law_pick, Z.m_law_pick⟩
abbrev N_law_spots : List Str := ["_law_source_here", "_law_most", "_law_many", "_law_wide", "_law_found", "_law_turn", "_law_spot"]
theorem sc_law_spots : FnScope N_law_spots ["_law_source_here", "_law_most"] (defScope s_law_spots) := ⟨rfl, rfl, rfl, by decide +kernel, rfl, by decide +kernel, by decide +kernel⟩
theorem d_law_spots (Z : Top P w K mg base) : Dx P w K mg base 4 "_law_spots" ["_law_source_here", "_law_most"] m_law_spots Z.f_law_spots Z.fd_law_spots :=
  ⟨fn_ok (N := N_law_spots) (ps := ["_law_source_here", "_law_most"]) (k := 3) (m := b_law_spots) Z.F_law_spots sc_law_spots fun cdv A outer s H E W hr tk => by
      have PO := passes_of (X := cxOf (L2.CX P w) P w K mg base N_law_spots "_law_spots" (defScope s_law_spots) Z.f_law_spots cdv A outer s H E) rfl
      exact (pmss_cons (pms_par (ps_par (i := 2) (j := 3) rfl sc_law_spots.nd rfl rfl (by decide) rfl rfl (pma_cons (pm_call (d_law_take Z) tk (hr.mono (by decide)) (by rfl) (pma_cons (pm_var (pv 0)) (pma_cons (pm_op oAdd (pm_var (pv 1)) pm_int) pma_nil)) rfl (hn := ArgN.len (n := 2) (.cons (.cons .nil)))) (pma_cons (pm_call (d_law_pick Z) tk (hr.mono (by decide)) (by rfl) (pma_cons (pm_var (pv 0)) (pma_cons (pm_lst (pma_cons pm_int (pma_cons pm_int (pma_cons pm_int (pma_cons (pm_op oPow pm_int pm_int) (pma_cons (pm_op oPow pm_int pm_int) pma_nil)))))) pma_nil)) rfl (hn := ArgN.len (n := 2) (.cons (.cons .nil)))) pma_nil)) rfl))
        (pmss_cons (pms_set (ps_set (i := 4) sc_law_spots.nd rfl (.inl rfl) (pm_lst pma_nil)))
        (pmss_cons (pms_for PO rfl (pmi_range1 (by rfl) Z.n_range (pma_cons (pm_var (pv 2)) pma_nil)) (pmg_name (pg_name (i := 5) sc_law_spots.nd rfl (.inl rfl))) (pmss_cons (pms_set (ps_set (i := 6) sc_law_spots.nd rfl (.inl rfl) (pm_tup (pma_cons (pm_op oSub (pm_call (d_law_take Z) tk (hr.mono (by decide)) (by rfl) (pma_cons (pm_var (pv 0)) (pma_cons (pm_op oAdd (pm_op oMul pm_int (pm_var (pv 3))) pm_int) pma_nil)) rfl (hn := ArgN.len (n := 2) (.cons (.cons .nil)))) (pm_var (pv 3))) (pma_cons (pm_op oSub (pm_call (d_law_take Z) tk (hr.mono (by decide)) (by rfl) (pma_cons (pm_var (pv 0)) (pma_cons (pm_op oAdd (pm_op oMul pm_int (pm_var (pv 3))) pm_int) pma_nil)) rfl (hn := ArgN.len (n := 2) (.cons (.cons .nil)))) (pm_var (pv 3))) pma_nil)))))
        (pmss_one (pms_set (ps_set (i := 4) sc_law_spots.nd rfl (.inl rfl) (pm_op oAdd (pm_var (pv 4)) (pm_op oMul (pm_lst (pma_cons (pm_var (pv 6)) pma_nil)) (pm_callTy cInt (by rfl) Z.n_int (by decide +kernel) (pma_cons (pm_cmp (oNotIn (hu65 hr)) (pm_var (pv 6)) (pm_var (pv 4)) (by with_unfolding_all rfl)) pma_nil)))))))))
        (pmss_one (pms_ret (pm_var (pv 4))))))), Z.F_law_spots.kp, Z.b_law_spots, Z.m_law_spots⟩
abbrev N_law_orders : List Str := ["_law_spots_here", "_law_found", "_law_k", "_law_spot", "_law_row"]
theorem sc_law_orders : FnScope N_law_orders ["_law_spots_here"] (defScope s_law_orders) := ⟨rfl, rfl, rfl, by decide +kernel, rfl, by decide +kernel, by decide +kernel⟩
theorem d_law_orders (Z : Top P w K mg base) : ∀ n, Dx P w K mg base (1 + n) "_law_orders" ["_law_spots_here"] (m_law_orders n) Z.f_law_orders Z.fd_law_orders
  | 0 => ⟨bad_ok rfl, Z.F_law_orders.kp, Z.b_law_orders, Z.m_law_orders⟩
  | n + 1 => by
    have ih := d_law_orders Z n
    exact ⟨fn_ok (N := N_law_orders) (ps := ["_law_spots_here"]) (k := 1 + n) (m := b_law_orders (m_law_orders n)) Z.F_law_orders sc_law_orders fun cdv A outer s H E W hr tk => by
      have PO := passes_of (X := cxOf (L2.CX P w) P w K mg base N_law_orders "_law_orders" (defScope s_law_orders) Z.f_law_orders cdv A outer s H E) rfl
      exact (pmss_cons (pms_if (pmt_cmp (oEq hr.units) (pm_var (pv 0)) (pm_lst pma_nil) (nomark _)) (pmss_one (pms_ret (pm_lst (pma_cons (pm_lst pma_nil) pma_nil)))) pmss_nil)
        (pmss_cons (pms_set (ps_set (i := 1) sc_law_orders.nd rfl (.inl rfl) (pm_lst pma_nil)))
        (pmss_cons (pms_for PO rfl (pmi_enum (by rfl) Z.n_enumerate (pma_cons (pm_var (pv 0)) pma_nil)) (pmg_tup rfl (pmgs_cons (pmg_name (pg_name (i := 2) sc_law_orders.nd rfl (.inl rfl))) (pmgs_cons (pmg_name (pg_name (i := 3) sc_law_orders.nd rfl (.inr rfl))) pmgs_nil))) (pmss_one (pms_set (ps_set (i := 1) sc_law_orders.nd rfl (.inl rfl) (pm_op oAdd (pm_var (pv 1)) (pm_lc (own := [("_law_row", 4)]) rfl sc_law_orders.nd (pmi_any (pm_call ih tk hr (by rfl) (pma_cons (pm_op oAdd (pm_slice sSl (pm_var (pv 0)) True.intro (pm_var (pv 2))) (pm_slice sSl (pm_var (pv 0)) (pm_op oAdd (pm_var (pv 2)) pm_int) True.intro)) pma_nil) rfl (hn := ArgN.len (n := 1) (.cons .nil)))) (blkOk_by (own := [("_law_row", 4)]) (N := N_law_orders) (sc := defScope s_law_orders) (by decide +kernel)) (by decide) (fun _ _ _ _ _ => (pmg_name (pg_name (i := 4) sc_law_orders.nd rfl (Or.inl rfl)))) (fun _ _ _ _ _ => pmts_nil) (fun _ _ _ _ _ => (pm_op oAdd (pm_lst (pma_cons (pm_var (pv 3)) pma_nil)) (pm_var (pv 4))))))))))
        (pmss_one (pms_ret (pm_var (pv 1))))))), Z.F_law_orders.kp, Z.b_law_orders, Z.m_law_orders⟩
abbrev N_law_readings : List Str := ["_law_woods", "_law_found", "_law_k", "_law_wood", "_law_one"]
theorem sc_law_readings : FnScope N_law_readings ["_law_woods"] (defScope s_law_readings) := ⟨rfl, rfl, rfl, by decide +kernel, rfl, by decide +kernel, by decide +kernel⟩
theorem d_law_readings (Z : Top P w K mg base) : ∀ n, Dx P w K mg base (1 + n) "_law_readings" ["_law_woods"] (m_law_readings n) Z.f_law_readings Z.fd_law_readings
  | 0 => ⟨bad_ok rfl, Z.F_law_readings.kp, Z.b_law_readings, Z.m_law_readings⟩
  | n + 1 => by
    have ih := d_law_readings Z n
    exact ⟨fn_ok (N := N_law_readings) (ps := ["_law_woods"]) (k := 1 + n) (m := b_law_readings (m_law_readings n)) Z.F_law_readings sc_law_readings fun cdv A outer s H E W hr tk => by
      have PO := passes_of (X := cxOf (L2.CX P w) P w K mg base N_law_readings "_law_readings" (defScope s_law_readings) Z.f_law_readings cdv A outer s H E) rfl
      exact (pmss_cons (pms_set (ps_set (i := 1) sc_law_readings.nd rfl (.inl rfl) pm_int))
        (pmss_cons (pms_for PO rfl (pmi_enum (by rfl) Z.n_enumerate (pma_cons (pm_var (pv 0)) pma_nil)) (pmg_tup rfl (pmgs_cons (pmg_name (pg_name (i := 2) sc_law_readings.nd rfl (.inl rfl))) (pmgs_cons (pmg_name (pg_name (i := 3) sc_law_readings.nd rfl (.inl rfl))) pmgs_nil))) (pmss_one (pms_set (ps_set (i := 1) sc_law_readings.nd rfl (.inl rfl) (pm_op oAdd (pm_var (pv 1)) (pm_call ih tk hr (by rfl) (pma_cons (pm_op oAdd (pm_op oAdd (pm_slice sSl (pm_var (pv 0)) True.intro (pm_var (pv 2))) (pm_slice sSl (pm_var (pv 0)) (pm_op oAdd (pm_var (pv 2)) pm_int) True.intro)) (pm_lc (own := [("_law_one", 4)]) rfl sc_law_readings.nd (pmi_any (pm_ix iIx (pm_var (pv 3)) pm_int (fun _ _ => rfl))) (blkOk_by (own := [("_law_one", 4)]) (N := N_law_readings) (sc := defScope s_law_readings) (by decide +kernel)) (by decide) (fun _ _ _ _ _ => (pmg_name (pg_name (i := 4) sc_law_readings.nd rfl (Or.inl rfl)))) (fun _ _ _ _ _ => (pmts_one (pmt_notN (b := .Constant .none 0 ⟨0, 0, 0, 0⟩) (pt_cmp (pc_notN (pm_var (pv 4))))))) (fun _ _ _ _ _ => (pm_var (pv 4))))) pma_nil) rfl (hn := ArgN.len (n := 1) (.cons .nil))))))))
        (pmss_one (pms_ret (pm_callB (cMax rfl) (by rfl) Z.n_max (by decide +kernel) (pma_cons (pm_var (pv 1)) (pma_cons (pm_callTy cInt (by rfl) Z.n_int (by decide +kernel) (pma_cons (pm_cmp (oEq hr.units) (pm_var (pv 0)) (pm_lst pma_nil) (nomark _)) pma_nil)) pma_nil))))))), Z.F_law_readings.kp, Z.b_law_readings, Z.m_law_readings⟩
abbrev N_law : List Str := ["_law_script", "_law_cell", "_law_source_here", "_law_spots_here", "_law_woods", "_law_row", "_law_one", "_law_wood", "_law_figures", "_law_line", "_law_k"]
theorem sc_law : FnScope N_law ["_law_script"] (defScope s_law) := ⟨rfl, rfl, rfl, by decide +kernel, rfl, by decide +kernel, by decide +kernel⟩
theorem d_law (Z : Top P w K mg base) : Dx P w K mg base 9 "law" ["_law_script"] m_law Z.f_law Z.fd_law :=
  ⟨fn_ok (N := N_law) (ps := ["_law_script"]) (k := 8) (m := b_law) Z.F_law sc_law fun cdv A outer s H E W hr tk => by
      have PO := passes_of (X := cxOf (L2.CX P w) P w K mg base N_law "law" (defScope s_law) Z.f_law cdv A outer s H E) rfl
      exact (pmss_cons (pms_for PO rfl (pmi_any (pm_slice sSl (pm_op oAdd (pm_var (pv 0)) (pm_lst (pma_cons pm_int pma_nil))) True.intro pm_int)) (pmg_name (pg_name (i := 1) sc_law.nd rfl (.inl rfl))) (pmss_cons (pms_set (ps_set (i := 2) sc_law.nd rfl (.inl rfl) (pm_call (d_law_source Z) tk (hr.mono (by decide)) (by rfl) (pma_cons (pm_var (pv 1)) pma_nil) rfl (hn := ArgN.len (n := 1) (.cons .nil)))))
        (pmss_cons (pms_set (ps_set (i := 3) sc_law.nd rfl (.inl rfl) (pm_call (d_law_spots Z) tk (hr.mono (by decide)) (by rfl) (pma_cons (pm_var (pv 2)) (pma_cons pm_int pma_nil)) rfl (hn := ArgN.len (n := 2) (.cons (.cons .nil))))))
        (pmss_cons (pms_lc (i := 4) (own := [("_law_row", 5)]) rfl sc_law.nd rfl rfl (sw_true rfl rfl rfl (by decide +kernel)) (pmi_any (pm_call (d_law_orders Z 7) tk (hr.mono (by decide)) (by rfl) (pma_cons (pm_var (pv 3)) pma_nil) rfl (hn := ArgN.len (n := 1) (.cons .nil)))) (blkOk_by (own := [("_law_row", 5)]) (N := N_law) (sc := defScope s_law) (by decide +kernel)) (by decide) (fun _ _ _ _ _ => (pmg_name (pg_name (i := 5) sc_law.nd rfl (Or.inl rfl)))) (fun _ _ _ _ _ => pmts_nil) (fun _ _ _ _ _ => (pm_call (d_built Z) takesF (hr.mono (by decide)) (by rfl) (pma_cons (pm_var (pv 5)) pma_nil) rfl (hn := ArgN.len (n := 1) (.cons .nil)))))
        (pmss_cons (pms_set (ps_set (i := 6) sc_law.nd rfl (.inl rfl) (pm_call (d_law_pick Z) tk (hr.mono (by decide)) (by rfl) (pma_cons (pm_var (pv 2)) (pma_cons (pm_var (pv 4)) pma_nil)) rfl (hn := ArgN.len (n := 2) (.cons (.cons .nil))))))
        (pmss_cons (pms_if (PW.pt (pmw_and (pmt_cmp (oNe hr.units) (pm_var (pv 3)) (pm_lst pma_nil) (nomark _)) (pmw_and1 (pmt_cmp (oNe hr.units) (pm_count (hu65 hr) (pm_var (pv 4)) (pma_cons (pm_var (pv 6)) pma_nil)) (pm_call (d_law_readings Z 7) tk (hr.mono (by decide)) (by rfl) (pma_cons (pm_lst (pma_cons (pm_var (pv 6)) pma_nil)) pma_nil) rfl (hn := ArgN.len (n := 1) (.cons .nil))) (nomark _))))) (pmss_one (pms_ret pm_bl)) pmss_nil)
        (pmss_cons (pms_for PO rfl (pmi_any (pm_var (pv 4))) (pmg_name (pg_name (i := 7) sc_law.nd rfl (.inl rfl))) (pmss_one (pms_if (PW.pt (pmw_or (pmt_cmp oNotB (pm_call (d_is_quarter Z) tk (hr.mono (by decide)) (by rfl) (pma_cons (pm_var (pv 7)) pma_nil) rfl (hn := ArgN.len (n := 1) (.cons .nil))) pm_bl (nomark _)) (pmw_or1 (pmt_cmp (oNe hr.units) (pm_callB (cSort hr.units) (by rfl) Z.n_sorted (by decide +kernel) (pma_cons (pm_call (d_points_of Z) tk (hr.mono (by decide)) (by rfl) (pma_cons (pm_var (pv 7)) pma_nil) rfl (hn := ArgN.len (n := 1) (.cons .nil))) pma_nil)) (pm_callB (cSort hr.units) (by rfl) Z.n_sorted (by decide +kernel) (pma_cons (pm_var (pv 3)) pma_nil)) (nomark _))))) (pmss_one (pms_ret pm_bl)) pmss_nil)))
        (pmss_cons (pms_set (ps_set (i := 8) sc_law.nd rfl (.inl rfl) (pm_ix iIx (pm_lst (pma_cons pm_int (pma_cons pm_int (pma_cons pm_int (pma_cons pm_int (pma_cons pm_int (pma_cons pm_int pma_nil))))))) (pm_callB cLen (by rfl) Z.n_len PySem.boot_len (pma_cons (pm_var (pv 3)) pma_nil)) (fun _ _ => rfl))))
        (pmss_cons (pms_if (pmt_cmp oGtI (pm_callB (cMin rfl) (by rfl) Z.n_min (by decide +kernel) (pma_cons (pm_lc (own := [("_law_wood", 7)]) rfl sc_law.nd (pmi_any (pm_var (pv 4))) (blkOk_by (own := [("_law_wood", 7)]) (N := N_law) (sc := defScope s_law) (by decide +kernel)) (by decide) (fun _ _ _ _ _ => (pmg_name (pg_name (i := 7) sc_law.nd rfl (Or.inl rfl)))) (fun _ _ _ _ _ => pmts_nil) (fun _ _ _ _ _ => (pm_call (d_depth Z) takesF (hr.mono (by decide)) (by rfl) (pma_cons (pm_var (pv 7)) pma_nil) rfl (hn := ArgN.len (n := 1) (.cons .nil))))) pma_nil)) (pm_var (pv 8)) (nomark _)) (pmss_one (pms_ret pm_bl)) pmss_nil)
        (pmss_cons (pms_lc (i := 9) (own := [("_law_k", 10)]) rfl sc_law.nd rfl rfl (sw_true rfl rfl rfl (by decide +kernel)) (pmi_range1 (by rfl) Z.n_range (pma_cons (pm_callB cLen (by rfl) Z.n_len PySem.boot_len (pma_cons (pm_var (pv 3)) pma_nil)) pma_nil)) (blkOk_by (own := [("_law_k", 10)]) (N := N_law) (sc := defScope s_law) (by decide +kernel)) (by decide) (fun _ _ _ _ _ => (pmg_name (pg_name (i := 10) sc_law.nd rfl (Or.inl rfl)))) (fun _ _ _ _ _ => pmts_nil) (fun _ _ _ _ _ => (pm_tup (pma_cons (pm_var (pv 10)) (pma_cons (pm_op oMul pm_int (pm_var (pv 10))) pma_nil)))))
        (pmss_one (pms_if (pmt_cmp (oNe hr.units) (pm_callB (cMin rfl) (by rfl) Z.n_min (by decide +kernel) (pma_cons (pm_lc (own := [("_law_row", 5)]) rfl sc_law.nd (pmi_any (pm_call (d_law_orders Z 7) tk (hr.mono (by decide)) (by rfl) (pma_cons (pm_var (pv 9)) pma_nil) rfl (hn := ArgN.len (n := 1) (.cons .nil)))) (blkOk_by (own := [("_law_row", 5)]) (N := N_law) (sc := defScope s_law) (by decide +kernel)) (by decide) (fun _ _ _ _ _ => (pmg_name (pg_name (i := 5) sc_law.nd rfl (Or.inl rfl)))) (fun _ _ _ _ _ => pmts_nil) (fun _ _ _ _ _ => (pm_call (d_depth Z) takesF (hr.mono (by decide)) (by rfl) (pma_cons (pm_call (d_built Z) takesF (hr.mono (by decide)) (by rfl) (pma_cons (pm_var (pv 5)) pma_nil) rfl (hn := ArgN.len (n := 1) (.cons .nil))) pma_nil) rfl (hn := ArgN.len (n := 1) (.cons .nil))))) pma_nil)) (pm_var (pv 8)) (nomark _)) (pmss_one (pms_ret pm_bl)) pmss_nil))))))))))))
        (pmss_one (pms_ret pm_bl))), Z.F_law.kp, Z.b_law, Z.m_law⟩
end
end PM

namespace PM
open PySem PySem.Spec PyProof.Rows L2 Q2
local macro_rules | `(tactic| walk_at "fn") => `(tactic| (first | refine w_fn1 ?_ | refine w_fn2 ?_ | refine w_fn3 ?_ | refine w_fn4 ?_ | refine w_fn5 ?_ | refine w_fn6 ?_); dsimp only [List.replicate])
local macro_rules | `(tactic| walk_at "kb") => `(tactic| with_reducible first | exact kb_int_int | exact kb_int_bool | exact kb_int_str | exact kb_int_list | exact kb_int_tuple | exact kb_bool_int | exact kb_bool_bool | exact kb_bool_str | exact kb_bool_list | exact kb_bool_tuple | exact kb_str_int | exact kb_str_bool | exact kb_str_str | exact kb_str_list | exact kb_str_tuple | exact kb_list_int | exact kb_list_bool | exact kb_list_str | exact kb_list_list | exact kb_list_tuple | exact kb_tuple_int | exact kb_tuple_bool | exact kb_tuple_str | exact kb_tuple_list | exact kb_tuple_tuple | exact kb_NoneType_int | exact kb_NoneType_bool | exact kb_NoneType_str | exact kb_NoneType_list | exact kb_NoneType_tuple)
local macro_rules | `(tactic| walk_at "go1") => `(tactic| first
  | ((with_reducible refine w_var (v := ?v) ?h ?_); case h => exact rfl)
  | with_reducible first
  | refine w_c ?_ | refine w_m2 ?_ | refine w_m1 ?_ | refine w_maC ?_ | refine w_maN ?_ | refine w_mL ?_ | refine w_call ?_
  | refine w_mtOf ?_ | refine w_mtNot ?_ | refine w_mtAnd ?_ | refine w_mtOr ?_ | refine w_meAnd ?_ | refine w_meOr ?_ | refine w_mNot ?_
  | refine ws_seq ?_ | (refine ws_set ?_) | refine ws_ret ?_ | refine ws_if ?_ | refine ws_expr ?_ | refine ws_nil ?_ | refine ws_asg ?_
  | refine wo_int ?_ | refine wo_add ?_ | refine wo_addI ?_ | refine wo_sub ?_ | refine wo_lt ?_ | refine wo_le ?_ | refine wo_gt ?_ | refine wo_ge ?_
  | refine wo_max2 ?_ | refine wo_min2 ?_ | refine wo_abs ?_ | refine wo_neg ?_ | refine wo_eqI ?_ | refine wo_neI ?_ | refine wo_intB ?_ | refine wo_ixT rfl ?_ | refine ws_brk ?_ | refine ws_cnt ?_ | refine w_if ?_ | refine ws_par ?_ | refine ws_par3 ?_ | (refine ⟨_, _, rfl, ?_⟩) | (refine ⟨_, _, _, rfl, ?_⟩) | refine w_isN ?_ | refine w_notN ?_ | refine ite_t ?_ | refine ite_f ?_ | refine ite_nt ?_ | refine ite_nf ?_ | refine w_chain ?_ | refine w_isiT ?_ | refine wg_sub ?_ | (refine ⟨_, rfl, ?_⟩) | refine wg_v ?_ | refine wg_c ?_ | refine wg_n ?_ | refine w_sl ?_ | refine w_optS ?_ | refine w_optN ?_ | refine wo_sl31 ?_)
local macro_rules | `(tactic| walk_at "go2") => `(tactic| first
  | walk_at "go1"
  | ((with_reducible refine wo_mod ?h ?_); case h => omega) | ((with_reducible refine wo_div ?h ?_); case h => omega) | ((with_reducible refine wo_mul_l ?h ?_); case h => omega) | ((with_reducible refine wo_mul_r ?h ?_); case h => omega)
  | ((with_reducible refine wo_shr ?h ?_); case h => omega) | ((with_reducible refine wo_shl ?h ?_); case h => omega) | ((with_reducible refine wo_pow ?h ?_); case h => omega)
  | ((with_reducible refine ite_d ?a ?b); (case b => exact fun h => absurd (by omega) h); intro _)
  | ((with_reducible refine ite_d ?a ?b); (case a => exact fun h => absurd h (by omega)); intro _)
  | ((with_reducible refine ite_d ?a ?b) <;> intro _)
  | ((with_reducible refine ⟨_, _, ?xs, ?j, rfl, rfl, ?h, ?e, ?_⟩); (case h => assumption); (case e => exact rfl))
  | ((with_reducible refine ite_nd ?a ?b); (case b => exact fun h => absurd h (by omega)); intro _)
  | ((with_reducible refine ite_nd ?a ?b); (case a => exact fun h => absurd (by omega) h); intro _)
  | ((with_reducible refine ite_nd ?a ?b) <;> intro _)
  | ((with_reducible refine wg_t ?h ?_); case h => exact rfl)
  | ((with_reducible refine wo_addL (xs := ?xs) (ys := ?ys) (lst_ref ?h1) (lst_ref ?h2) ?h3 ?_); (case h1 => first | assumption | exact get_app (by assumption)); (case h2 => first | assumption | exact get_app (by assumption)); (case h3 => (show _ ≤ 2 ^ 24; simp only [List.length_append, List.length_cons, List.length_nil, List.length_map]; omega)))
  | ((with_reducible refine wo_isi (k := ?k) (b := ?b) ?h1 ?h2 ?_); (case h1 => first | exact rfl | exact kind_ref (by assumption)); (case h2 => walk_at "kb"))
  | ((with_reducible refine wo_len (xs := ?xs) ?h ?_); (case h => first | exact rfl | exact seq_ref (by assumption)))
  | ((with_reducible refine wo_ixL (xs := ?xs) (x := ?x) ?h1 ?h2 ?_); (case h1 => exact lst_ref (by assumption)); (case h2 => exact rfl))
  | ((with_reducible refine wo_tup ?h ?_); case h => (simp only [List.length_cons, List.length_nil]; decide)) | ((with_reducible refine wo_lst ?h ?_); case h => (simp only [List.length_cons, List.length_nil]; decide)))
local macro_rules | `(tactic| walk_at "go") => `(tactic| (repeat' walk_at "go2") <;> try dsimp only [List.set_cons_zero, List.set_cons_succ])

def Src (S : Sto) (n : Nat) : Prop := ∃ a b c : Int, S[n]? = some (.lst [.int a, .int b, .int c])
structure Mv (n : Nat) (S S' : Sto) : Prop where
  src : Src S' n
  kp : Kp n S S'
theorem Mv.refl {n : Nat} {S : Sto} (h : Src S n) : Mv n S S := ⟨h, Kp.refl n S⟩
theorem Mv.trans {n : Nat} {S S1 S2 : Sto} (a : Mv n S S1) (b : Mv n S1 S2) : Mv n S S2 := ⟨b.src, a.kp.trans b.kp⟩
theorem Gr.mv {n : Nat} {S S' : Sto} (h : Src S n) (g : Gr S S') : Mv n S S' := ⟨by obtain ⟨a, b, c, h⟩ := h; exact ⟨a, b, c, g.get h⟩, g.kp⟩
theorem Mv.get {n : Nat} {S S' : Sto} (m : Mv n S S') {i : Nat} {o : Ob} (hi : i ≠ n) (h : S[i]? = some o) : S'[i]? = some o := m.kp.get hi h
theorem Src.lt {n : Nat} {S : Sto} (h : Src S n) : n < S.length := by obtain ⟨a, b, c, h⟩ := h; exact lt_get h
theorem mv_set {S : Sto} {n : Nat} (h : Src S n) (a b c : Int) : Mv n S (S.set n (.lst [.int a, .int b, .int c])) := ⟨by obtain ⟨_, _, _, h⟩ := h; exact ⟨a, b, c, get_set h⟩, Kp.set n S _⟩
theorem sp_mixed {S : Sto} {i j : Int} : Wp (m_law_mixed [.int i, .int j] S) (fun v S' => S' = S ∧ ∃ r : Int, v = .int r) := by
  walk_at "fn"
  unfold b_law_mixed
  walk_at "go"
  exact ⟨rfl, _, rfl⟩
theorem sp_take {S : Sto} {n : Nat} {B : Int} (h : Src S n) (hB : 0 < B ∧ B < 10000000000000000000000000000000) : Wp (m_law_take [.ref n, .int B] S) (fun v S' => ∃ r : Int, v = .int r ∧ 0 ≤ r ∧ r < B ∧ Mv n S S') := by
  have hs := h
  obtain ⟨a, b, c, h⟩ := h
  have := hB.1
  have g : (S.set n (.lst [.int a, .int b, .int (c + 1)]))[n]? = some (.lst [.int a, .int b, .int (c + 1)]) := get_set h
  walk_at "fn"
  unfold b_law_take
  walk_at "go"
  · exact ⟨Int.emod_nonneg _ (by omega), Int.emod_lt_of_pos _ (by omega), mv_set hs _ _ _⟩
  · refine sp_mixed.mono ?_
    rintro v S' ⟨rfl, r, rfl⟩
    walk_at "go"
    exact ⟨Int.emod_nonneg _ (by omega), Int.emod_lt_of_pos _ (by omega), mv_set hs _ _ _⟩
theorem sp_source {S : Sto} {i : Int} : Wp (m_law_source [.int i] S) (fun v S' => v = .ref S.length ∧ Src S' S.length ∧ Gr S S') := by
  walk_at "fn"
  unfold b_law_source
  walk_at "go"
  · exact ⟨rfl, ⟨_, _, _, get_last⟩, Gr.app _ _⟩
  · exact ⟨rfl, ⟨_, _, _, get_last⟩, Gr.app _ _⟩
theorem sp_pick {S : Sto} {n k : Nat} {xs : List Va} (h : Src S n) (hk : S[k]? = some (.lst xs)) (hn : k ≠ n) (hx : 0 < xs.length) (hl : xs.length < 1000000000) : Wp (m_law_pick [.ref n, .ref k] S) (fun v S' => v ∈ xs ∧ Mv n S S') := by
  walk_at "fn"
  unfold b_law_pick
  walk_at "go"
  refine (sp_take h (by omega)).mono ?_
  rintro v S' ⟨r, rfl, h0, h1, m⟩
  obtain ⟨x, e, _, hx⟩ := at_nat h0 h1
  exact wo_ixL (lst_ref (m.get hn hk)) e ⟨hx, m⟩
end PM

namespace PM
/-! ### trees of numbers, and the rows that tell them -/
inductive IT where
  | nil : IT
  | node (k : Nat) (ch : Fin 4 → IT) : IT
namespace IT
def rt (m : Nat) : IT → Nat
  | nil => m
  | node k _ => k
def Mem (m : Nat) : IT → Prop
  | nil => False
  | node k ch => m = k ∨ ∃ j, Mem m (ch j)
/-- all below a node have greater numbers, and no number stands twice -/
def Asc : IT → Prop
  | nil => True
  | node k ch => (∀ j m, Mem m (ch j) → k < m) ∧ (∀ i j m, Mem m (ch i) → Mem m (ch j) → i = j) ∧ ∀ j, Asc (ch j)
def Rep (rows : List (List Nat)) (m : Nat) : IT → Prop
  | nil => True
  | node k ch => rows[k]? = some [(ch 0).rt m, (ch 1).rt m, (ch 2).rt m, (ch 3).rt m] ∧ ∀ j, Rep rows m (ch j)
def ins (f : Nat → Nat → Fin 4) (n : Nat) : IT → IT
  | nil => node n fun _ => nil
  | node k ch => node k fun j => if j = f k n then ins f n (ch j) else ch j
def isNil : IT → Bool
  | nil => true
  | node _ _ => false
/-- where a number is hung: at which one, as which part -/
def tgt (f : Nat → Nat → Fin 4) (n : Nat) : IT → Nat × Fin 4
  | nil => (0, 0)
  | node k ch => if (ch (f k n)).isNil = true then (k, f k n) else tgt f n (ch (f k n))
theorem mem_ins {f : Nat → Nat → Fin 4} {n m : Nat} : ∀ {t : IT}, Mem m (ins f n t) ↔ m = n ∨ Mem m t
  | nil => by simp [ins, Mem]
  | node k ch => by
    simp only [ins, Mem]
    constructor
    · rintro (h | ⟨j, h⟩)
      · exact .inr (.inl h)
      · by_cases e : j = f k n
        · rw [if_pos e] at h
          rcases mem_ins.mp h with h | h
          · exact .inl h
          · exact .inr (.inr ⟨j, h⟩)
        · rw [if_neg e] at h
          exact .inr (.inr ⟨j, h⟩)
    · rintro (h | h | ⟨j, h⟩)
      · exact .inr ⟨f k n, by rw [if_pos rfl]; exact mem_ins.mpr (.inl h)⟩
      · exact .inl h
      · refine .inr ⟨j, ?_⟩
        by_cases e : j = f k n
        · rw [if_pos e]
          exact mem_ins.mpr (.inr h)
        · rw [if_neg e]
          exact h
theorem asc_ins {f : Nat → Nat → Fin 4} {n : Nat} : ∀ {t : IT}, Asc t → (∀ m, Mem m t → m < n) → Asc (ins f n t)
  | nil, _, _ => ⟨fun _ _ h => h.elim, fun _ _ _ h => h.elim, fun _ => trivial⟩
  | node k ch, ⟨h1, h2, h3⟩, hn => by
    have lt : ∀ {j m}, Mem m (ch j) → m < n := fun h => hn _ (.inr ⟨_, h⟩)
    have kn : k < n := hn k (.inl rfl)
    have key : ∀ {j m}, Mem m (if j = f k n then ins f n (ch j) else ch j) → (m = n ∧ j = f k n) ∨ Mem m (ch j) := fun {j m} h => by
      by_cases e : j = f k n
      · rw [if_pos e] at h
        rcases mem_ins.mp h with h | h
        · exact .inl ⟨h, e⟩
        · exact .inr h
      · rw [if_neg e] at h
        exact .inr h
    refine ⟨fun j m h => ?_, fun i j m hi hj => ?_, fun j => ?_⟩
    · rcases key h with ⟨rfl, _⟩ | h
      · exact kn
      · exact h1 j m h
    · rcases key hi with ⟨e, ei⟩ | hi
      · rcases key hj with ⟨_, ej⟩ | hj
        · rw [ei, ej]
        · have := lt hj
          omega
      · rcases key hj with ⟨e, _⟩ | hj
        · have := lt hi
          omega
        · exact h2 i j m hi hj
    · by_cases e : j = f k n
      · show Asc (if j = f k n then ins f n (ch j) else ch j)
        rw [if_pos e]
        exact asc_ins (h3 j) fun m h => lt h
      · show Asc (if j = f k n then ins f n (ch j) else ch j)
        rw [if_neg e]
        exact h3 j
theorem rt_mem {m : Nat} : ∀ {t : IT}, t.isNil = false → Mem (t.rt m) t
  | nil, h => by cases h
  | node k ch, _ => .inl rfl
theorem rt_nil {m : Nat} : ∀ {t : IT}, t.isNil = true → t.rt m = m
  | nil, _ => rfl
  | node k ch, h => by cases h
theorem rt_ins {f : Nat → Nat → Fin 4} {n m : Nat} : ∀ {t : IT}, (ins f n t).rt m = if t.isNil = true then n else t.rt m
  | nil => rfl
  | node k ch => rfl
theorem tgt_mem {f : Nat → Nat → Fin 4} {n : Nat} : ∀ {t : IT}, t.isNil = false → Mem (tgt f n t).1 t
  | nil, h => by cases h
  | node k ch, _ => by
    unfold tgt
    split
    · exact .inl rfl
    · rename_i h
      exact .inr ⟨f k n, tgt_mem (by simpa using h)⟩
/-- the rows with a number more, hung at a part -/
structure Hung (rows rows' : List (List Nat)) (kp : Nat × Fin 4) (n m : Nat) : Prop where
  old : ∀ k r, rows[k]? = some r → rows'[k]? = some (if k = kp.1 then r.set kp.2 n else r)
  new : rows'[n]? = some [m, m, m, m]
theorem rep_other {rows rows' : List (List Nat)} {m : Nat} {kp : Nat × Fin 4} {n : Nat} (H : Hung rows rows' kp n m) : ∀ {t : IT}, ¬ Mem kp.1 t → Rep rows m t → Rep rows' m t
  | nil, _, _ => trivial
  | node k ch, hm, ⟨h1, h2⟩ => by
    refine ⟨?_, fun j => rep_other H (fun h => hm (.inr ⟨j, h⟩)) (h2 j)⟩
    rw [H.old k _ h1, if_neg (fun e => hm (.inl e.symm))]
theorem isNil_eq {t : IT} (h : t.isNil = true) : t = nil := by
  cases t with
  | nil => rfl
  | node _ _ => cases h
theorem rep_hang {f : Nat → Nat → Fin 4} {rows rows' : List (List Nat)} {m n : Nat} : ∀ {t : IT}, Hung rows rows' (tgt f n t) n m → t.isNil = false → Asc t → Rep rows m t → Rep rows' m (ins f n t)
  | nil, _, h, _, _ => by cases h
  | node k ch, H, _, ⟨h1, h2, h3⟩, ⟨r1, r2⟩ => by
    have kn : ∀ j, ¬ Mem k (ch j) := fun j h => by have := h1 j k h; omega
    unfold tgt at H
    have key : ∀ j, (if j = f k n then ins f n (ch j) else ch j).rt m = if j = f k n then (if (ch (f k n)).isNil = true then n else (ch j).rt m) else (ch j).rt m := fun j => by
      by_cases q : j = f k n
      · rw [if_pos q, if_pos q, rt_ins, q]
      · rw [if_neg q, if_neg q]
    by_cases e : (ch (f k n)).isNil = true
    · rw [if_pos e] at H
      refine ⟨?_, fun j => ?_⟩
      · rw [H.old k _ r1, if_pos rfl, key, key, key, key, if_pos e, if_pos e, if_pos e, if_pos e]
        show some (List.set [(ch 0).rt m, (ch 1).rt m, (ch 2).rt m, (ch 3).rt m] (f k n) n) = _
        generalize f k n = p
        match p with
        | 0 => rfl
        | 1 => rfl
        | 2 => rfl
        | 3 => rfl
      · show Rep _ m (if j = f k n then ins f n (ch j) else ch j)
        by_cases q : j = f k n
        · rw [if_pos q, q, isNil_eq e]
          exact ⟨H.new, fun _ => trivial⟩
        · rw [if_neg q]
          exact rep_other H (kn j) (r2 j)
    · rw [if_neg e] at H
      have e' : (ch (f k n)).isNil = false := by simpa using e
      have tm := tgt_mem (f := f) (n := n) e'
      refine ⟨?_, fun j => ?_⟩
      · rw [H.old k _ r1, if_neg (fun h => kn (f k n) (Eq.mpr (congrArg (fun z => Mem z (ch (f k n))) h) tm)), key, key, key, key, if_neg e, if_neg e, if_neg e, if_neg e]
        simp only [ite_self]
      · show Rep _ m (if j = f k n then ins f n (ch j) else ch j)
        by_cases q : j = f k n
        · rw [if_pos q, q]
          exact rep_hang H e' (h3 _) (r2 _)
        · rw [if_neg q]
          exact rep_other H (fun h => q (h2 _ _ _ h tm)) (r2 j)
/-! ### the tree that comes of dividing at the first one -/
def grow (f : Nat → Nat → Fin 4) : Nat → List Nat → IT
  | 0, _ => nil
  | _ + 1, [] => nil
  | n + 1, k :: r => node k fun j => grow f n (r.filter fun m => decide (f k m = j))
theorem grow_snoc {f : Nat → Nat → Fin 4} {a : Nat} : ∀ (n : Nat) (l : List Nat), l.length + 1 ≤ n → grow f n (l ++ [a]) = ins f a (grow f n l)
  | 0, l, h => by omega
  | n + 1, [], h => by
    show node a (fun j => grow f n _) = node a fun _ => nil
    congr 1
    funext j
    cases n <;> rfl
  | n + 1, k :: r, h => by
    show node k _ = node k _
    congr 1
    funext j
    show grow f n ((r ++ [a]).filter _) = if j = f k a then ins f a (grow f n (r.filter _)) else grow f n (r.filter _)
    rw [List.filter_append]
    have hl : (r.filter fun m => decide (f k m = j)).length ≤ r.length := List.length_filter_le ..
    have h' : r.length + 1 + 1 ≤ n + 1 := h
    by_cases q : j = f k a
    · have e : [a].filter (fun m => decide (f k m = j)) = [a] := by simp [q]
      rw [if_pos q, e, grow_snoc n _ (by omega)]
    · have e : [a].filter (fun m => decide (f k m = j)) = [] := by simp [show ¬ f k a = j from fun h => q h.symm]
      rw [if_neg q, e, List.append_nil]
theorem grow_fuel {f : Nat → Nat → Fin 4} : ∀ (n n' : Nat) (l : List Nat), l.length ≤ n → l.length ≤ n' → grow f n l = grow f n' l
  | 0, 0, _, _, _ => rfl
  | 0, n' + 1, [], _, _ => rfl
  | n + 1, 0, [], _, _ => rfl
  | n + 1, n' + 1, [], _, _ => rfl
  | 0, _, k :: r, h, _ => by simp at h
  | _, 0, k :: r, _, h => by simp at h
  | n + 1, n' + 1, k :: r, h, h' => by
    show node k _ = node k _
    congr 1
    funext j
    have hl : (r.filter fun m => decide (f k m = j)).length ≤ r.length := List.length_filter_le ..
    simp only [List.length_cons] at h h'
    exact grow_fuel n n' _ (by omega) (by omega)
theorem mem_grow {f : Nat → Nat → Fin 4} {m : Nat} : ∀ (n : Nat) (l : List Nat), Mem m (grow f n l) → m ∈ l
  | 0, _, h => h.elim
  | _ + 1, [], h => h.elim
  | n + 1, k :: r, h => by
    rcases h with h | ⟨j, h⟩
    · rw [h]
      exact List.mem_cons_self ..
    · exact List.mem_cons_of_mem _ (List.mem_filter.mp (mem_grow n _ h)).1
end IT
/-! ### trees of points -/
inductive QT where
  | nil : QT
  | node (p : Int × Int) (ch : Fin 4 → QT) : QT
namespace QT
def growQ (f : Int × Int → Int × Int → Fin 4) : Nat → List (Int × Int) → QT
  | 0, _ => nil
  | _ + 1, [] => nil
  | n + 1, k :: r => node k fun j => growQ f n (r.filter fun m => decide (f k m = j))
def ofI (p : Nat → Int × Int) : IT → QT
  | .nil => nil
  | .node k ch => node (p k) fun j => ofI p (ch j)
theorem ofI_grow {f : Int × Int → Int × Int → Fin 4} {p : Nat → Int × Int} : ∀ (n : Nat) (l : List Nat), ofI p (IT.grow (fun a b => f (p a) (p b)) n l) = growQ f n (l.map p)
  | 0, _ => rfl
  | _ + 1, [] => rfl
  | n + 1, k :: r => by
    show node (p k) _ = node (p k) _
    congr 1
    funext j
    rw [List.filter_map]
    exact ofI_grow n _
end QT

def ltK (a b : Int × Int) : Bool := decide (a.1 < b.1 ∨ (a.1 = b.1 ∧ a.2 < b.2))
def yk (p : Int × Int) : Int × Int := (p.2, p.1)
def isHi (j : Fin 4) : Bool := decide (j.val % 2 = 1)
def isUp (j : Fin 4) : Bool := decide (2 ≤ j.val)
def sideF (p q : Int × Int) : Fin 4 := ⟨(if ltK p q = true then 1 else 0) + (if ltK (yk p) (yk q) = true then 2 else 0), by split <;> split <;> decide⟩
theorem isHi_side (p q : Int × Int) : isHi (sideF p q) = ltK p q := by
  show decide (((if ltK p q = true then 1 else 0) + (if ltK (yk p) (yk q) = true then 2 else 0) : Nat) % 2 = 1) = ltK p q
  cases ltK p q <;> cases ltK (yk p) (yk q) <;> rfl
theorem isUp_side (p q : Int × Int) : isUp (sideF p q) = ltK (yk p) (yk q) := by
  show decide (2 ≤ ((if ltK p q = true then 1 else 0) + (if ltK (yk p) (yk q) = true then 2 else 0) : Nat)) = ltK (yk p) (yk q)
  cases ltK p q <;> cases ltK (yk p) (yk q) <;> rfl
def Far : Int := 1000000000000000000000000000000
def PtB (p : Int × Int) : Prop := (-Far ≤ p.1 ∧ p.1 ≤ Far) ∧ (-Far ≤ p.2 ∧ p.2 ≤ Far)
namespace QT
def ht : QT → Nat
  | nil => 0
  | node _ ch => 1 + max (max (ht (ch 0)) (ht (ch 1))) (max (ht (ch 2)) (ht (ch 3)))
def size : QT → Nat
  | nil => 0
  | node _ ch => 1 + (size (ch 0) + size (ch 1) + size (ch 2) + size (ch 3))
theorem grow_ht {f : Int × Int → Int × Int → Fin 4} : ∀ (n : Nat) (l : List (Int × Int)), (growQ f n l).ht ≤ l.length
  | 0, _ => Nat.zero_le _
  | _ + 1, [] => Nat.le_refl _
  | n + 1, k :: r => by
    have h : ∀ j : Fin 4, (growQ f n (r.filter fun m => decide (f k m = j))).ht ≤ r.length := fun j => Nat.le_trans (grow_ht n _) (List.length_filter_le ..)
    simp only [growQ, ht, List.length_cons]
    have h0 := h 0
    have h1 := h 1
    have h2 := h 2
    have h3 := h 3
    omega
end QT
theorem ltK_flip {p q : Int × Int} (h : q ≠ p) (h2 : ltK p q = false) : ltK q p = true := by
  unfold ltK at *
  have := of_decide_eq_false h2
  apply decide_eq_true
  have h3 : q.1 ≠ p.1 ∨ q.2 ≠ p.2 := by
    by_cases e : q.1 = p.1
    · exact .inr fun e2 => h (Prod.ext e e2)
    · exact .inl e
  omega
theorem yk_ne {p q : Int × Int} (h : q ≠ p) : yk q ≠ yk p := fun e => h (by
  have h1 : q.2 = p.2 := congrArg Prod.fst e
  have h2 : q.1 = p.1 := congrArg Prod.snd e
  exact Prod.ext h2 h1)
structure Ks where
  x : Int × Int
  y : Int × Int
  x2 : Int × Int
  y2 : Int × Int
def Ks.has (k : Ks) (p : Int × Int) : Prop := ltK k.x p = true ∧ ltK p k.x2 = true ∧ ltK k.y (yk p) = true ∧ ltK (yk p) k.y2 = true
def Ks.nar (k : Ks) (p : Int × Int) (j : Fin 4) : Ks := ⟨if isHi j = true then p else k.x, if isUp j = true then yk p else k.y, if isHi j = true then k.x2 else p, if isUp j = true then k.y2 else yk p⟩
def InK : QT → Ks → Prop
  | .nil, _ => True
  | .node p ch, k => k.has p ∧ ∀ j, InK (ch j) (k.nar p j)
theorem has_nar {k : Ks} {p q : Int × Int} (hq : k.has q) (ne : q ≠ p) : (k.nar p (sideF p q)).has q := by
  obtain ⟨h1, h2, h3, h4⟩ := hq
  unfold Ks.nar Ks.has
  rw [isHi_side, isUp_side]
  dsimp only
  cases e : ltK p q with
  | true =>
    cases e2 : ltK (yk p) (yk q) with
    | true => exact ⟨e, h2, e2, h4⟩
    | false => exact ⟨e, h2, h3, ltK_flip (yk_ne ne) e2⟩
  | false =>
    cases e2 : ltK (yk p) (yk q) with
    | true => exact ⟨h1, ltK_flip ne e, e2, h4⟩
    | false => exact ⟨h1, ltK_flip ne e, h3, ltK_flip (yk_ne ne) e2⟩
theorem inK_grow : ∀ (n : Nat) (l : List (Int × Int)) (k : Ks), l.Nodup → (∀ q ∈ l, k.has q) → InK (QT.growQ sideF n l) k
  | 0, _, _, _, _ => trivial
  | _ + 1, [], _, _, _ => trivial
  | n + 1, p :: r, k, nd, h => by
    have nd2 := List.nodup_cons.mp nd
    refine ⟨h p (List.mem_cons_self ..), fun j => inK_grow n _ _ (nd2.2.filter _) fun q hq => ?_⟩
    obtain ⟨hm, hs⟩ := List.mem_filter.mp hq
    have e : sideF p q = j := of_decide_eq_true hs
    rw [← e]
    exact has_nar (h q (List.mem_cons_of_mem _ hm)) fun z => nd2.1 (by rw [← z]; exact hm)
def BdQ : QT → Prop
  | .nil => True
  | .node p ch => PtB p ∧ ∀ j, BdQ (ch j)
theorem bd_grow {f : Int × Int → Int × Int → Fin 4} : ∀ (n : Nat) (l : List (Int × Int)), (∀ q ∈ l, PtB q) → BdQ (QT.growQ f n l)
  | 0, _, _ => trivial
  | _ + 1, [], _ => trivial
  | n + 1, p :: r, h => ⟨h p (List.mem_cons_self ..), fun j => bd_grow n _ fun q hq => h q (List.mem_cons_of_mem _ (List.mem_filter.mp hq).1)⟩
theorem four_filter {α : Type} (g : α → Fin 4) : ∀ r : List α, (r.filter fun m => decide (g m = 0)).length + (r.filter fun m => decide (g m = 1)).length + (r.filter fun m => decide (g m = 2)).length + (r.filter fun m => decide (g m = 3)).length = r.length
  | [] => rfl
  | a :: r => by
    have ih := four_filter g r
    simp only [List.filter_cons, List.length_cons]
    have h : g a = 0 ∨ g a = 1 ∨ g a = 2 ∨ g a = 3 := by
      generalize g a = p
      match p with
      | 0 => exact .inl rfl
      | 1 => exact .inr (.inl rfl)
      | 2 => exact .inr (.inr (.inl rfl))
      | 3 => exact .inr (.inr (.inr rfl))
    rcases h with h | h | h | h
    all_goals
      rw [h]
      simp
      omega
theorem size_grow {f : Int × Int → Int × Int → Fin 4} : ∀ (n : Nat) (l : List (Int × Int)), (QT.growQ f n l).size ≤ l.length
  | 0, _ => Nat.zero_le _
  | _ + 1, [] => Nat.le_refl _
  | n + 1, p :: r => by
    have h := four_filter (f p) r
    have h0 := size_grow (f := f) n (r.filter fun m => decide (f p m = 0))
    have h1 := size_grow (f := f) n (r.filter fun m => decide (f p m = 1))
    have h2 := size_grow (f := f) n (r.filter fun m => decide (f p m = 2))
    have h3 := size_grow (f := f) n (r.filter fun m => decide (f p m = 3))
    simp only [QT.growQ, QT.size, List.length_cons]
    omega
def nonnil : QT → Bool
  | .nil => false
  | .node _ _ => true
def chs (ch : Fin 4 → QT) : List QT := [ch 3, ch 2, ch 1, ch 0]
theorem ht_size : ∀ t : QT, t.ht ≤ t.size
  | .nil => Nat.le_refl _
  | .node p ch => by
    have h0 := ht_size (ch 0)
    have h1 := ht_size (ch 1)
    have h2 := ht_size (ch 2)
    have h3 := ht_size (ch 3)
    simp only [QT.ht, QT.size]
    omega
theorem ht_child (p : Int × Int) (ch : Fin 4 → QT) (j : Fin 4) : (ch j).ht + 1 ≤ (QT.node p ch).ht := by
  simp only [QT.ht]
  match j with
  | 0 => omega
  | 1 => omega
  | 2 => omega
  | 3 => omega
theorem sums_nonnil : ∀ l : List QT, ((l.filter nonnil).map QT.size).sum = (l.map QT.size).sum
  | [] => rfl
  | .nil :: l => by
    rw [List.filter_cons_of_neg (by decide), sums_nonnil l, List.map_cons, List.sum_cons]
    show _ = 0 + _
    omega
  | .node p ch :: l => by
    rw [List.filter_cons_of_pos (by rfl), List.map_cons, List.sum_cons, List.map_cons, List.sum_cons, sums_nonnil l]
def K31 : Ks := ⟨(-10000000000000000000000000000000, 0), (-10000000000000000000000000000000, 0), (10000000000000000000000000000000, 0), (10000000000000000000000000000000, 0)⟩
theorem k31_has {p : Int × Int} (h : PtB p) : K31.has p := by
  obtain ⟨⟨h1, h2⟩, h3, h4⟩ := h
  have hL : Far = 1000000000000000000000000000000 := rfl
  refine ⟨decide_eq_true (.inl ?_), decide_eq_true (.inl ?_), decide_eq_true (.inl ?_), decide_eq_true (.inl ?_)⟩
  · show (-10000000000000000000000000000000 : Int) < p.1; omega
  · show p.1 < (10000000000000000000000000000000 : Int); omega
  · show (-10000000000000000000000000000000 : Int) < p.2; omega
  · show p.2 < (10000000000000000000000000000000 : Int); omega
def ptsQ : QT → List (Int × Int)
  | .nil => []
  | .node p ch => p :: (ptsQ (ch 0) ++ (ptsQ (ch 1) ++ (ptsQ (ch 2) ++ ptsQ (ch 3))))
theorem ptsQ_len : ∀ T : QT, (ptsQ T).length = T.size
  | .nil => rfl
  | .node p ch => by
    have h0 := ptsQ_len (ch 0)
    have h1 := ptsQ_len (ch 1)
    have h2 := ptsQ_len (ch 2)
    have h3 := ptsQ_len (ch 3)
    simp only [ptsQ, QT.size, List.length_cons, List.length_append]
    omega
theorem ltK_le {a b : Int × Int} (h : ltK a b = true) : a.1 ≤ b.1 := by
  have := of_decide_eq_true h
  omega
theorem ltK_trans {a b c : Int × Int} (h : ltK a b = true) (h2 : ltK b c = true) : ltK a c = true := by
  have h1 := of_decide_eq_true h
  have h3 := of_decide_eq_true h2
  exact decide_eq_true (by omega)
theorem nar_has {k : Ks} {p q : Int × Int} {j : Fin 4} (hp : k.has p) (h : (k.nar p j).has q) : k.has q := by
  obtain ⟨a, b, c, d⟩ := hp
  unfold Ks.has Ks.nar at h
  obtain ⟨e, f, g, i⟩ := h
  refine ⟨?_, ?_, ?_, ?_⟩
  · cases z : isHi j with
    | true => rw [z] at e; exact ltK_trans a e
    | false => rw [z] at e; exact e
  · cases z : isHi j with
    | true => rw [z] at f; exact f
    | false => rw [z] at f; exact ltK_trans f b
  · cases z : isUp j with
    | true => rw [z] at g; exact ltK_trans c g
    | false => rw [z] at g; exact g
  · cases z : isUp j with
    | true => rw [z] at i; exact i
    | false => rw [z] at i; exact ltK_trans i d
theorem all_has : ∀ {T : QT} {k : Ks}, InK T k → ∀ q ∈ ptsQ T, k.has q
  | .nil, _, _, q, h => by simp [ptsQ] at h
  | .node p ch, k, hk, q, h => by
    obtain ⟨hp, hc⟩ := hk
    simp only [ptsQ, List.mem_cons, List.mem_append] at h
    rcases h with rfl | h | h | h | h
    · exact hp
    · exact nar_has hp (all_has (hc 0) q h)
    · exact nar_has hp (all_has (hc 1) q h)
    · exact nar_has hp (all_has (hc 2) q h)
    · exact nar_has hp (all_has (hc 3) q h)
theorem part_ext : ∀ a b : Fin 4, isHi a = isHi b → isUp a = isUp b → a = b := by decide
theorem ltK_anti {a b : Int × Int} (h : ltK a b = true) : ltK b a = false := by
  have := of_decide_eq_true h
  exact decide_eq_false (by omega)
theorem side_nar {k : Ks} {p q : Int × Int} {j : Fin 4} (h : (k.nar p j).has q) : sideF p q = j := by
  obtain ⟨a, b, c, d⟩ := h
  unfold Ks.nar at a b c d
  refine part_ext _ _ ?_ ?_
  · rw [isHi_side]
    cases z : isHi j with
    | true => rw [z] at a; exact a
    | false =>
      rw [z] at b
      exact ltK_anti b
  · rw [isUp_side]
    cases z : isUp j with
    | true => rw [z] at c; exact c
    | false =>
      rw [z] at d
      exact ltK_anti d
theorem nar_ne {k : Ks} {p q : Int × Int} {j : Fin 4} (h : (k.nar p j).has q) : p ≠ q := by
  rintro rfl
  obtain ⟨a, b, _, _⟩ := h
  unfold Ks.nar at a b
  have irr : ltK p p = false := decide_eq_false (by omega)
  cases z : isHi j with
  | true =>
    rw [z] at a
    rw [show ltK p p = true from a] at irr
    cases irr
  | false =>
    rw [z] at b
    rw [show ltK p p = true from b] at irr
    cases irr
abbrev all4 : List (Fin 4) := [0, 1, 2, 3]
theorem mem4 (j : Fin 4) : j ∈ all4 := by
  match j with
  | 0 => simp
  | 1 => simp
  | 2 => simp
  | 3 => simp
theorem pts_node (p : Int × Int) (ch : Fin 4 → QT) : ptsQ (.node p ch) = p :: all4.flatMap fun j => ptsQ (ch j) := by
  rw [ptsQ]
  simp only [List.flatMap_cons, List.flatMap_nil, List.append_nil]
theorem pts_mem {p : Int × Int} {ch : Fin 4 → QT} {x : Int × Int} (h : x ∈ ptsQ (.node p ch)) : x = p ∨ ∃ j, x ∈ ptsQ (ch j) := by
  rw [pts_node] at h
  rcases List.mem_cons.mp h with h | h
  · exact .inl h
  · obtain ⟨j, _, hx⟩ := List.mem_flatMap.mp h
    exact .inr ⟨j, hx⟩
theorem pts_child {p : Int × Int} {ch : Fin 4 → QT} {x : Int × Int} {j : Fin 4} (h : x ∈ ptsQ (ch j)) : x ∈ ptsQ (.node p ch) := by
  rw [pts_node]
  exact List.mem_cons_of_mem _ (List.mem_flatMap.mpr ⟨j, mem4 j, h⟩)
theorem kid_side {p : Int × Int} {ch : Fin 4 → QT} {k : Ks} (hk : InK (.node p ch) k) {j : Fin 4} {x : Int × Int} (h : x ∈ ptsQ (ch j)) : sideF p x = j ∧ p ≠ x := by
  have := all_has (hk.2 j) x h
  exact ⟨side_nar this, nar_ne this⟩
theorem perm4 {α : Type} (g : α → Fin 4) : ∀ r : List α, (all4.flatMap fun j => r.filter fun m => decide (g m = j)).Perm r
  | [] => by simp
  | a :: r => by
    have ih := perm4 g r
    simp only [List.flatMap_cons, List.flatMap_nil, List.append_nil] at ih ⊢
    have h : ∀ j : Fin 4, (a :: r).filter (fun m => decide (g m = j)) = if g a = j then a :: r.filter (fun m => decide (g m = j)) else r.filter (fun m => decide (g m = j)) := fun j => by
      rw [List.filter_cons]
      by_cases e : g a = j
      · simp [e]
      · simp [e]
    rw [h 0, h 1, h 2, h 3]
    match e : g a with
    | 0 => exact List.Perm.cons a ih
    | 1 =>
      refine List.Perm.trans ?_ (List.Perm.cons a ih)
      exact List.perm_middle
    | 2 =>
      refine List.Perm.trans ?_ (List.Perm.cons a ih)
      refine (List.Perm.append_left _ List.perm_middle).trans ?_
      exact List.perm_middle
    | 3 =>
      refine List.Perm.trans ?_ (List.Perm.cons a ih)
      refine (List.Perm.append_left _ ((List.Perm.append_left _ List.perm_middle).trans List.perm_middle)).trans ?_
      exact List.perm_middle
theorem flat_perm {f g : Fin 4 → List (Int × Int)} (h : ∀ j, (f j).Perm (g j)) : ∀ l : List (Fin 4), (l.flatMap f).Perm (l.flatMap g)
  | [] => .nil
  | j :: l => by
    rw [List.flatMap_cons, List.flatMap_cons]
    exact (h j).append (flat_perm h l)
theorem pts_grow : ∀ (n : Nat) (l : List (Int × Int)), l.length ≤ n → (ptsQ (QT.growQ sideF n l)).Perm l
  | 0, [], _ => .nil
  | 0, _ :: _, h => absurd h (by simp)
  | _ + 1, [], _ => .nil
  | n + 1, p :: r, h => by
    show (ptsQ (.node p fun j => QT.growQ sideF n (r.filter fun m => decide (sideF p m = j)))).Perm _
    rw [pts_node]
    refine List.Perm.cons p (List.Perm.trans (flat_perm (fun j => pts_grow n _ ?_) all4) (perm4 (sideF p) r))
    have hl : (r.filter fun m => decide (sideF p m = j)).length ≤ r.length := List.length_filter_le ..
    simp only [List.length_cons] at h
    omega
def treeQ (qs : List (Int × Int)) : QT := QT.growQ sideF qs.length qs
theorem pts_tree (l : List (Int × Int)) : (ptsQ (treeQ l)).Perm l := pts_grow _ _ (Nat.le_refl _)
theorem sorted_uniq : ∀ (a b : List (Int × Int)), a.Perm b → a.Pairwise (fun x y => ltK x y = true) → b.Pairwise (fun x y => ltK x y = true) → a = b
  | [], b, h, _, _ => (List.nil_perm.mp h).symm
  | x :: xs, [], h, _, _ => absurd h.length_eq (by simp)
  | x :: xs, y :: ys, h, ha, hb => by
    have e : x = y := by
      rcases List.mem_cons.mp (h.mem_iff.mp (List.mem_cons_self ..)) with e | hx
      · exact e
      · rcases List.mem_cons.mp (h.mem_iff.mpr (List.mem_cons_self ..)) with e | hy
        · exact e.symm
        · have h1 := (List.pairwise_cons.mp ha).1 y hy
          have h2 := (List.pairwise_cons.mp hb).1 x hx
          rw [ltK_anti h1] at h2
          cases h2
    subst e
    rw [sorted_uniq xs ys (List.Perm.cons_inv h) (List.pairwise_cons.mp ha).2 (List.pairwise_cons.mp hb).2]
theorem growQ_fuel {f : Int × Int → Int × Int → Fin 4} : ∀ (n n' : Nat) (l : List (Int × Int)), l.length ≤ n → l.length ≤ n' → QT.growQ f n l = QT.growQ f n' l
  | 0, 0, _, _, _ => rfl
  | 0, n' + 1, [], _, _ => rfl
  | n + 1, 0, [], _, _ => rfl
  | n + 1, n' + 1, [], _, _ => rfl
  | 0, _, k :: r, h, _ => by simp at h
  | _, 0, k :: r, _, h => by simp at h
  | n + 1, n' + 1, k :: r, h, h' => by
    show QT.node k _ = QT.node k _
    congr 1
    funext j
    have hl : (r.filter fun m => decide (f k m = j)).length ≤ r.length := List.length_filter_le ..
    simp only [List.length_cons] at h h'
    exact growQ_fuel n n' _ (by omega) (by omega)
theorem treeQ_cons (p : Int × Int) (r : List (Int × Int)) : treeQ (p :: r) = .node p fun j => treeQ (r.filter fun m => decide (sideF p m = j)) := by
  unfold treeQ
  show QT.node p _ = _
  congr 1
  funext j
  have hl : (r.filter fun m => decide (sideF p m = j)).length ≤ r.length := List.length_filter_le ..
  exact growQ_fuel _ _ _ hl (Nat.le_refl _)
/-- the parts of a list that is put together part by part -/
theorem filter_part {g : Fin 4 → List (Int × Int)} {s : Int × Int → Fin 4} (h : ∀ j, ∀ x ∈ g j, s x = j) (j : Fin 4) : (all4.flatMap g).filter (fun m => decide (s m = j)) = g j := by
  have e : ∀ i, (g i).filter (fun m => decide (s m = j)) = if i = j then g j else [] := fun i => by
    by_cases c : i = j
    · subst c
      rw [if_pos rfl]
      exact List.filter_eq_self.mpr fun x hx => decide_eq_true (h i x hx)
    · rw [if_neg c]
      exact List.filter_eq_nil_iff.mpr fun x hx => by rw [h i x hx]; simp [c]
  simp only [List.flatMap_cons, List.flatMap_nil, List.append_nil, List.filter_append, e]
  match j with
  | 0 => simp
  | 1 => simp
  | 2 => simp
  | 3 => simp
/-- a tree is built of its points in reading order -/
theorem tree_pts : ∀ {T : QT} {k : Ks}, InK T k → treeQ (ptsQ T) = T
  | .nil, _, _ => rfl
  | .node p ch, k, hk => by
    rw [pts_node, treeQ_cons]
    congr 1
    funext j
    rw [filter_part (s := sideF p) (fun i x hx => (kid_side hk hx).1) j]
    exact tree_pts (hk.2 j)
/-- a part's points, in the order of the list -/
theorem list_part {p : Int × Int} {r : List (Int × Int)} {k : Ks} (nd : (p :: r).Nodup) (hk : InK (treeQ (p :: r)) k) (j : Fin 4) : (p :: r).filter (fun x => decide (x ∈ ptsQ (treeQ (r.filter fun m => decide (sideF p m = j))))) = r.filter fun m => decide (sideF p m = j) := by
  rw [treeQ_cons] at hk
  have pj := pts_tree (r.filter fun m => decide (sideF p m = j))
  have hp : p ∉ ptsQ (treeQ (r.filter fun m => decide (sideF p m = j))) := fun h => (kid_side (j := j) hk h).2 rfl
  rw [List.filter_cons, if_neg (by rw [decide_eq_false hp]; decide)]
  refine List.filter_congr fun x hx => ?_
  rw [Bool.eq_iff_iff, decide_eq_true_eq, decide_eq_true_eq, pj.mem_iff, List.mem_filter, decide_eq_true_eq]
  exact ⟨fun h => h.2, fun h => ⟨hx, h⟩⟩
abbrev Pts := List (Int × Int)
def fI (qs : Pts) (a b : Nat) : Fin 4 := sideF (qs.getD a (0, 0)) (qs.getD b (0, 0))
abbrev ITg (qs : Pts) (i : Nat) : IT := IT.grow (fI qs) i (List.range i)
theorem itg_succ (qs : Pts) (i : Nat) : ITg qs (i + 1) = IT.ins (fI qs) i (ITg qs i) := by
  unfold ITg
  rw [List.range_succ, IT.grow_snoc (i + 1) _ (by rw [List.length_range]; omega), IT.grow_fuel (i + 1) i _ (by rw [List.length_range]; omega) (by rw [List.length_range]; omega)]
theorem itg_mem {qs : Pts} {i k : Nat} (h : IT.Mem k (ITg qs i)) : k < i := List.mem_range.mp (IT.mem_grow i _ h)
theorem itg_asc (qs : Pts) : ∀ i, IT.Asc (ITg qs i)
  | 0 => trivial
  | i + 1 => by
    rw [itg_succ]
    exact IT.asc_ins (itg_asc qs i) fun m h => itg_mem h
theorem itg_rt (qs : Pts) (m : Nat) : ∀ i, 0 < i → (ITg qs i).isNil = false ∧ (ITg qs i).rt m = 0
  | 0, h => absurd h (Nat.lt_irrefl _)
  | 1, _ => ⟨rfl, rfl⟩
  | i + 2, _ => by
    obtain ⟨h1, h2⟩ := itg_rt qs m (i + 1) (Nat.succ_pos _)
    rw [itg_succ, IT.rt_ins, h1, if_neg (by decide), h2]
    refine ⟨?_, rfl⟩
    cases e : ITg qs (i + 1) with
    | nil => rw [e] at h1; cases h1
    | node _ _ => rfl
/-- each row has four numbers, none of which is greater than many -/
def Rows4 (M : List (List Nat)) (m : Nat) : Prop := ∀ row ∈ M, row.length = 4 ∧ ∀ k ∈ row, k ≤ m
/-- the model of a turn -/
theorem hung_of {M : List (List Nat)} {n i k : Nat} {p : Fin 4} {row : List Nat} (hM : M.length = i) (hk : k < i) (hr : M[k]? = some row) : IT.Hung M (M.set k (row.set p i) ++ [[n, n, n, n]]) (k, p) i n := by
  refine ⟨fun k' r h => ?_, ?_⟩
  · obtain ⟨hk', _⟩ := List.getElem?_eq_some_iff.mp h
    rw [List.getElem?_append_left (by rw [List.length_set]; exact hk')]
    by_cases e : k' = k
    · subst e
      rw [if_pos rfl, List.getElem?_set_self hk']
      rw [h] at hr
      cases hr
      rfl
    · rw [if_neg e, List.getElem?_set_ne (fun z => e z.symm)]
      exact h
  · rw [List.getElem?_append_right (by rw [List.length_set]; omega), List.length_set, hM, Nat.sub_self]
    rfl
theorem rows4_set {M : List (List Nat)} {n k i : Nat} {p : Fin 4} {row : List Nat} (h : Rows4 M n) (hr : M[k]? = some row) (hi : i ≤ n) : Rows4 (M.set k (row.set p i) ++ [[n, n, n, n]]) n := by
  intro r hr2
  rcases List.mem_append.mp hr2 with q | q
  · rcases List.mem_or_eq_of_mem_set q with q | rfl
    · exact h r q
    · obtain ⟨l, b⟩ := h row (List.mem_of_getElem? hr)
      refine ⟨by rw [List.length_set]; exact l, fun x hx => ?_⟩
      rcases List.mem_or_eq_of_mem_set hx with q | rfl
      · exact b x q
      · exact hi
  · rw [List.mem_singleton.mp q]
    refine ⟨rfl, fun x hx => ?_⟩
    simp at hx
    omega
def Sub (s : IT) : IT → Prop
  | .nil => s = .nil
  | .node k ch => s = .node k ch ∨ ∃ j, Sub s (ch j)
theorem sub_refl : ∀ t : IT, Sub t t
  | .nil => rfl
  | .node _ _ => .inl rfl
theorem sub_rep {s : IT} {M : List (List Nat)} {m : Nat} : ∀ {t : IT}, Sub s t → IT.Rep M m t → IT.Rep M m s
  | .nil, h, _ => by rw [h]; trivial
  | .node k ch, h, r => by
    rcases h with h | ⟨j, h⟩
    · rw [h]; exact r
    · exact sub_rep h (r.2 j)
theorem sub_asc {s : IT} : ∀ {t : IT}, Sub s t → IT.Asc t → IT.Asc s
  | .nil, h, _ => by rw [h]; trivial
  | .node k ch, h, r => by
    rcases h with h | ⟨j, h⟩
    · rw [h]; exact r
    · exact sub_asc h (r.2.2 j)
theorem sub_mem {s : IT} {x : Nat} : ∀ {t : IT}, Sub s t → IT.Mem x s → IT.Mem x t
  | .nil, h, m => by rw [h] at m; exact m
  | .node k ch, h, m => by
    rcases h with h | ⟨j, h⟩
    · rw [h] at m; exact m
    · exact .inr ⟨j, sub_mem h m⟩
theorem sub_child {k : Nat} {ch : Fin 4 → IT} {p : Fin 4} : ∀ {t : IT}, Sub (.node k ch) t → Sub (ch p) t
  | .nil, h => by cases h
  | .node k' ch', h => by
    rcases h with h | ⟨j, h⟩
    · cases h
      exact .inr ⟨p, sub_refl _⟩
    · exact .inr ⟨j, sub_child h⟩
def pI (qs : Pts) (k : Nat) : Int × Int := qs.getD k (0, 0)
theorem sub_bound {qs : Pts} {t T : IT} (s : Sub t T) (h : ∀ k, IT.Mem k T → k < qs.length) : t.rt qs.length ≤ qs.length := by
  cases t with
  | nil => exact Nat.le_refl _
  | node k ch => exact Nat.le_of_lt (h k (sub_mem s (.inl rfl)))
theorem ofI_itg (qs : Pts) : QT.ofI (pI qs) (ITg qs qs.length) = treeQ qs := by
  have h := QT.ofI_grow (f := sideF) (p := pI qs) qs.length (List.range qs.length)
  have e : (List.range qs.length).map (pI qs) = qs := by
    apply List.ext_getElem
    · simp
    · intro i h1 h2
      simp only [List.getElem_map, List.getElem_range]
      unfold pI
      rw [List.getD_eq_getElem?_getD, List.getElem?_eq_getElem h2, Option.getD_some]
  rw [e] at h
  exact h
theorem fI_side {qs : Pts} {k i : Nat} {q r : Int × Int} (hk : qs[k]? = some q) (hi : qs[i]? = some r) : fI qs k i = sideF q r := by
  unfold fI
  rw [List.getD_eq_getElem?_getD, List.getD_eq_getElem?_getD, hk, hi]
  rfl
def itSz : IT → Nat
  | .nil => 0
  | .node _ ch => 1 + (itSz (ch 0) + itSz (ch 1) + itSz (ch 2) + itSz (ch 3))
theorem itSz_lt (k : Nat) (ch : Fin 4 → IT) (p : Fin 4) : itSz (ch p) < itSz (.node k ch) := by
  show itSz (ch p) < 1 + (itSz (ch 0) + itSz (ch 1) + itSz (ch 2) + itSz (ch 3))
  match p with
  | 0 => omega
  | 1 => omega
  | 2 => omega
  | 3 => omega
theorem four_map {α β : Type} (g : α → β) (f : Fin 4 → α) (p : Fin 4) : ([f 0, f 1, f 2, f 3].map g)[p.val]? = some (g (f p)) := by
  match p with
  | 0 => rfl
  | 1 => rfl
  | 2 => rfl
  | 3 => rfl
def wayP (q : Int × Int) : QT → List (Fin 4)
  | .nil => []
  | .node p ch => if p = q then [] else sideF p q :: wayP q (ch (sideF p q))
def atP (q : Int × Int) : QT → QT
  | .nil => .nil
  | .node p ch => if p = q then .node p ch else atP q (ch (sideF p q))
def aboveP (q : Int × Int) : QT → List QT
  | .nil => []
  | .node p ch => if p = q then [] else .node p ch :: aboveP q (ch (sideF p q))
theorem way_len (q : Int × Int) : ∀ T : QT, (wayP q T).length ≤ T.ht
  | .nil => Nat.le_refl _
  | .node p ch => by
    have h := way_len q (ch (sideF p q))
    have h2 := ht_child p ch (sideF p q)
    unfold wayP
    split
    · exact Nat.zero_le _
    · rw [List.length_cons]
      omega
theorem above_len (q : Int × Int) : ∀ T : QT, (aboveP q T).length = (wayP q T).length
  | .nil => rfl
  | .node p ch => by
    have h := above_len q (ch (sideF p q))
    unfold wayP aboveP
    split
    · rfl
    · rw [List.length_cons, List.length_cons, h]
def kidsQ : QT → List QT
  | .nil => []
  | .node _ ch => [ch 0, ch 1, ch 2, ch 3].filter nonnil
def lvls : Nat → List QT → List Nat
  | 0, _ => []
  | _ + 1, [] => []
  | n + 1, r :: rs => (r :: rs).length :: lvls n ((r :: rs).flatMap kidsQ)
def levelsQ (T : QT) : List Nat := lvls T.ht ([T].filter nonnil)
def tsz (row : List QT) : Nat := (row.map QT.size).sum
theorem tsz_app (a b : List QT) : tsz (a ++ b) = tsz a + tsz b := by
  unfold tsz
  simp
theorem kids_sz : ∀ T : QT, nonnil T = true → tsz (kidsQ T) + 1 = T.size
  | .nil, h => by cases h
  | .node p ch, _ => by
    have h := sums_nonnil [ch 0, ch 1, ch 2, ch 3]
    unfold tsz kidsQ
    rw [h]
    simp only [List.map_cons, List.map_nil, List.sum_cons, List.sum_nil, QT.size]
    omega
theorem kids_row : ∀ row : List QT, (∀ t ∈ row, nonnil t = true) → tsz (row.flatMap kidsQ) + row.length = tsz row
  | [], _ => rfl
  | t :: row, h => by
    have h1 := kids_sz t (h t (List.mem_cons_self ..))
    have h2 := kids_row row fun x hx => h x (List.mem_cons_of_mem _ hx)
    rw [List.flatMap_cons, tsz_app, List.length_cons]
    unfold tsz at *
    rw [List.map_cons, List.sum_cons]
    omega
theorem kid_mem {t x : QT} (h : x ∈ kidsQ t) : nonnil x = true ∧ x.ht + 1 ≤ t.ht := by
  cases t with
  | nil => simp [kidsQ] at h
  | node p ch =>
    obtain ⟨h1, h2⟩ := List.mem_filter.mp h
    refine ⟨h2, ?_⟩
    simp only [List.mem_cons, List.not_mem_nil, or_false] at h1
    rcases h1 with rfl | rfl | rfl | rfl
    · exact ht_child p ch 0
    · exact ht_child p ch 1
    · exact ht_child p ch 2
    · exact ht_child p ch 3
end PM

namespace PM
open PySem PySem.Spec PyProof.Rows L2 Q2
local macro_rules | `(tactic| walk_at "fn") => `(tactic| (first | refine w_fn1 ?_ | refine w_fn2 ?_ | refine w_fn3 ?_ | refine w_fn4 ?_ | refine w_fn5 ?_ | refine w_fn6 ?_); dsimp only [List.replicate])
local macro_rules | `(tactic| walk_at "kb") => `(tactic| with_reducible first | exact kb_int_int | exact kb_int_bool | exact kb_int_str | exact kb_int_list | exact kb_int_tuple | exact kb_bool_int | exact kb_bool_bool | exact kb_bool_str | exact kb_bool_list | exact kb_bool_tuple | exact kb_str_int | exact kb_str_bool | exact kb_str_str | exact kb_str_list | exact kb_str_tuple | exact kb_list_int | exact kb_list_bool | exact kb_list_str | exact kb_list_list | exact kb_list_tuple | exact kb_tuple_int | exact kb_tuple_bool | exact kb_tuple_str | exact kb_tuple_list | exact kb_tuple_tuple | exact kb_NoneType_int | exact kb_NoneType_bool | exact kb_NoneType_str | exact kb_NoneType_list | exact kb_NoneType_tuple)
local macro_rules | `(tactic| walk_at "go1") => `(tactic| first
  | ((with_reducible refine w_var (v := ?v) ?h ?_); case h => exact rfl)
  | with_reducible first
  | refine w_c ?_ | refine w_m2 ?_ | refine w_m1 ?_ | refine w_maC ?_ | refine w_maN ?_ | refine w_mL ?_ | refine w_call ?_
  | refine w_mtOf ?_ | refine w_mtNot ?_ | refine w_mtAnd ?_ | refine w_mtOr ?_ | refine w_meAnd ?_ | refine w_meOr ?_ | refine w_mNot ?_
  | refine ws_seq ?_ | (refine ws_set ?_) | refine ws_ret ?_ | refine ws_if ?_ | refine ws_expr ?_ | refine ws_nil ?_ | refine ws_asg ?_
  | refine wo_int ?_ | refine wo_add ?_ | refine wo_addI ?_ | refine wo_sub ?_ | refine wo_lt ?_ | refine wo_le ?_ | refine wo_gt ?_ | refine wo_ge ?_
  | refine wo_max2 ?_ | refine wo_min2 ?_ | refine wo_abs ?_ | refine wo_neg ?_ | refine wo_eqI ?_ | refine wo_neI ?_ | refine wo_intB ?_ | refine wo_ixT rfl ?_ | refine ws_brk ?_ | refine ws_cnt ?_ | refine w_if ?_ | refine ws_par ?_ | refine ws_par3 ?_ | (refine ⟨_, _, rfl, ?_⟩) | (refine ⟨_, _, _, rfl, ?_⟩) | refine w_isN ?_ | refine w_notN ?_ | refine ite_t ?_ | refine ite_f ?_ | refine ite_nt ?_ | refine ite_nf ?_ | refine w_chain ?_ | refine w_isiT ?_ | refine wg_sub ?_ | (refine ⟨_, rfl, ?_⟩) | refine wg_v ?_ | refine wg_c ?_ | refine wg_n ?_ | refine w_sl ?_ | refine w_optS ?_ | refine w_optN ?_ | refine wo_sl31 ?_)
local macro_rules | `(tactic| walk_at "go2") => `(tactic| first
  | walk_at "go1"
  | ((with_reducible refine wo_mod ?h ?_); case h => omega) | ((with_reducible refine wo_div ?h ?_); case h => omega) | ((with_reducible refine wo_mul_l ?h ?_); case h => omega) | ((with_reducible refine wo_mul_r ?h ?_); case h => omega)
  | ((with_reducible refine wo_shr ?h ?_); case h => omega) | ((with_reducible refine wo_shl ?h ?_); case h => omega) | ((with_reducible refine wo_pow ?h ?_); case h => omega)
  | ((with_reducible refine ite_d ?a ?b); (case b => exact fun h => absurd (by omega) h); intro _)
  | ((with_reducible refine ite_d ?a ?b); (case a => exact fun h => absurd h (by omega)); intro _)
  | ((with_reducible refine ite_d ?a ?b) <;> intro _)
  | ((with_reducible refine ⟨_, _, ?xs, ?j, rfl, rfl, ?h, ?e, ?_⟩); (case h => assumption); (case e => exact rfl))
  | ((with_reducible refine ite_nd ?a ?b); (case b => exact fun h => absurd h (by omega)); intro _)
  | ((with_reducible refine ite_nd ?a ?b); (case a => exact fun h => absurd (by omega) h); intro _)
  | ((with_reducible refine ite_nd ?a ?b) <;> intro _)
  | ((with_reducible refine wg_t ?h ?_); case h => exact rfl)
  | ((with_reducible refine wo_addL (xs := ?xs) (ys := ?ys) (lst_ref ?h1) (lst_ref ?h2) ?h3 ?_); (case h1 => first | assumption | exact get_app (by assumption)); (case h2 => first | assumption | exact get_app (by assumption)); (case h3 => (show _ ≤ 2 ^ 24; simp only [List.length_append, List.length_cons, List.length_nil, List.length_map]; omega)))
  | ((with_reducible refine wo_isi (k := ?k) (b := ?b) ?h1 ?h2 ?_); (case h1 => first | exact rfl | exact kind_ref (by assumption)); (case h2 => walk_at "kb"))
  | ((with_reducible refine wo_len (xs := ?xs) ?h ?_); (case h => first | exact rfl | exact seq_ref (by assumption)))
  | ((with_reducible refine wo_ixL (xs := ?xs) (x := ?x) ?h1 ?h2 ?_); (case h1 => exact lst_ref (by assumption)); (case h2 => exact rfl))
  | ((with_reducible refine wo_tup ?h ?_); case h => (simp only [List.length_cons, List.length_nil]; decide)) | ((with_reducible refine wo_lst ?h ?_); case h => (simp only [List.length_cons, List.length_nil]; decide)))
local macro_rules | `(tactic| walk_at "go") => `(tactic| (repeat' walk_at "go2") <;> try dsimp only [List.set_cons_zero, List.set_cons_succ])

theorem sp_is_integer {S : Sto} {i : Int} : Wp (m_is_integer [.int i] S) (fun v S' => v = .bl true ∧ S' = S) := by
  walk_at "fn"
  unfold b_is_integer
  walk_at "go"
  exact ⟨rfl, rfl⟩
theorem sp_is_coordinate {S : Sto} {i : Int} (h : -Far ≤ i ∧ i ≤ Far) : Wp (m_is_coordinate [.int i] S) (fun v S' => v = .bl true ∧ S' = S) := by
  walk_at "fn"
  unfold b_is_coordinate
  walk_at "go"
  refine sp_is_integer.mono ?_
  rintro v S' ⟨rfl, rfl⟩
  have hF : Far = 1000000000000000000000000000000 := rfl
  have h1 := h.1
  have h2 := h.2
  rw [hF] at h1 h2
  walk_at "go"
  exact ⟨by rw [decide_eq_true h2], rfl⟩
theorem sp_is_point {S : Sto} {p : Int × Int} (h : PtB p) : Wp (m_is_point [ptV p] S) (fun v S' => v = .bl true ∧ S' = S) := by
  walk_at "fn"
  unfold b_is_point
  walk_at "go"
  · next h => exact absurd rfl h
  · refine (sp_is_coordinate h.1).mono ?_
    rintro v S' ⟨rfl, rfl⟩
    walk_at "go"
    exact sp_is_coordinate h.2
theorem sp_check_points {S : Sto} {v : Va} {l : List (Int × Int)} (hv : IsSeq S v (l.map ptV)) (hl : l.length < 60) (hn : ∀ p ∈ l, PtB p) (nd : l.Nodup) : Wp (m_check_points [v] S) (fun v S' => Gr S S') := by
  obtain ⟨k, hk, ha⟩ := hv.isi
  have hlen : (l.map ptV).length = l.length := List.length_map ..
  walk_at "fn"
  unfold b_check_points
  walk_at "go"
  refine ⟨k, true, hk, ha, ?_⟩
  walk_at "go"
  refine hv.len ?_
  walk_at "go"
  refine w_set0 ?_
  walk_at "go"
  refine ws_forE v (l.map ptV) (fun i Γ S' => i ≤ l.length ∧ ∃ z2 z3, Γ = [some v, some (.ref S.length), z2, z3] ∧ S' = S ++ [.setT ((l.take i).reverse.map fun p => [p.1, p.2])]) ?_ ?_ ?_ ?_
  · walk_at "go"
    exact ⟨rfl, Nat.zero_le _, none, none, rfl, rfl⟩
  · rintro i Γ S' ⟨_, _, _, _, rfl⟩
    exact hv.gr (Gr.app _ _)
  · rintro i x Γ S' hx ⟨hi, z2, z3, rfl, rfl⟩
    obtain ⟨p, hp, rfl⟩ := map_at hx
    have hpm := List.mem_of_getElem? hp
    have hlt := (List.getElem?_eq_some_iff.mp hp).1
    have e2 : (S ++ [Ob.setT ((l.take i).reverse.map fun p => [p.1, p.2])])[S.length]? = some (.setT ((l.take i).reverse.map fun p => [p.1, p.2])) := get_last
    have hnot : [p.1, p.2] ∉ ((l.take i).reverse.map fun p : Int × Int => [p.1, p.2]) := by
      intro z
      obtain ⟨q, hq, e⟩ := List.mem_map.mp z
      have hq := List.mem_reverse.mp hq
      have : q = p := by
        simp only [List.cons.injEq, and_true] at e
        exact Prod.ext e.1 e.2
      subst this
      obtain ⟨j, hj, ej⟩ := List.mem_take_iff_getElem.mp hq
      have h1 : l[j]? = some q := by rw [List.getElem?_eq_getElem (by omega)]; exact congrArg some ej
      have := (List.getElem?_inj hlt nd).mp (hp.trans h1.symm)
      omega
    walk_at "go"
    refine (sp_is_point (hn p hpm)).mono ?_
    rintro v' S' ⟨rfl, rfl⟩
    walk_at "go"
    refine wo_inSet (k := [p.1, p.2]) rfl e2 hnot ?_
    walk_at "go"
    refine w_addS ?_
    walk_at "go"
    refine ⟨_, _, rfl, e2, ?_⟩
    walk_at "go"
    refine ⟨_, _, _, rfl, e2, rfl, hnot, ?_, hlt, some (.int i), some (ptV p), rfl, ?_⟩
    · simp only [List.length_map, List.length_reverse, List.length_take]
      omega
    · rw [take_at hp]
      simp [List.reverse_append]
  · rintro Γ S' ⟨_, _, _, _, rfl⟩
    exact Gr.app _ _
/-! ### trees as values -/
def QT.va : QT → Va
  | .nil => .non
  | .node p ch => .tup [ptV p, .tup [(ch 0).va, (ch 1).va, (ch 2).va, (ch 3).va]]
def qP : QT → PyData
  | .nil => .none
  | .node p ch => .tuple [ptP p, .tuple [qP (ch 0), qP (ch 1), qP (ch 2), qP (ch 3)]]
theorem qR {S : Sto} : ∀ (t : QT) (n : Nat), 2 * t.ht ≤ n → Rd S n t.va (qP t)
  | .nil, n, _ => Rd.non.le (Nat.zero_le _)
  | .node p ch, n, h => by
    simp only [QT.ht] at h
    have h0 := qR (S := S) (ch 0) (n - 2) (by omega)
    have h1 := qR (S := S) (ch 1) (n - 2) (by omega)
    have h2 := qR (S := S) (ch 2) (n - 2) (by omega)
    have h3 := qR (S := S) (ch 3) (n - 2) (by omega)
    obtain ⟨m, rfl⟩ : ∃ m, n = m + 2 := ⟨n - 2, by omega⟩
    exact Rd.tup (.cons (ptR.le (by omega)) (.cons (Rd.tup (.cons h0 (.cons h1 (.cons h2 (.cons h3 .nil))))) .nil))
theorem qE : EqD qP
  | .nil, .nil => by simp [qP, PyData.eqv]
  | .nil, .node p ch => by simp [qP, PyData.eqv]
  | .node p ch, .nil => by simp [qP, PyData.eqv]
  | .node p ch, .node q dh => by
    have h0 := qE (ch 0) (dh 0)
    have h1 := qE (ch 1) (dh 1)
    have h2 := qE (ch 2) (dh 2)
    have h3 := qE (ch 3) (dh 3)
    have hp := ptE p q
    simp only [qP, PyData.eqv, PyData.eqvAll, Bool.and_true, Bool.and_eq_true] at hp ⊢
    rw [show (PyData.eqv (qP (ch 0)) (qP (dh 0)) = true ↔ _) from h0, show (PyData.eqv (qP (ch 1)) (qP (dh 1)) = true ↔ _) from h1, show (PyData.eqv (qP (ch 2)) (qP (dh 2)) = true ↔ _) from h2, show (PyData.eqv (qP (ch 3)) (qP (dh 3)) = true ↔ _) from h3, hp]
    constructor
    · rintro ⟨rfl, e0, e1, e2, e3⟩
      congr 1
      funext j
      match j with
      | 0 => exact e0
      | 1 => exact e1
      | 2 => exact e2
      | 3 => exact e3
    · intro e
      cases e
      exact ⟨rfl, rfl, rfl, rfl, rfl⟩
theorem va_ne {p : Int × Int} {ch : Fin 4 → QT} : isNonV (QT.node p ch).va = false := rfl
/-! ### part_of -/
def sideV (r p : Int × Int) : Va := if r = p then .non else .int (sideF r p).val
theorem sp_part_of {S : Sto} {r p : Int × Int} : Wp (m_part_of [ptV r, ptV p] S) (fun v S' => v = sideV r p ∧ S' = S) := by
  obtain ⟨x, y⟩ := r
  obtain ⟨x', y'⟩ := p
  walk_at "fn"
  unfold b_part_of
  refine ws_seq (ws_asg ?_)
  walk_at "go"
  all_goals
    refine ⟨?_, rfl⟩
    unfold sideV sideF ltK yk
    simp only [Prod.mk.injEq] at *
    first
      | (rw [if_pos (by omega)])
      | (rw [if_neg (by omega)]
         simp only [decide_eq_true_eq, Va.int.injEq]
         repeat' split
         all_goals omega)
end PM

namespace PM
open PySem PySem.Spec PyProof.Rows L2 Q2
local macro_rules | `(tactic| walk_at "fn") => `(tactic| (first | refine w_fn1 ?_ | refine w_fn2 ?_ | refine w_fn3 ?_ | refine w_fn4 ?_ | refine w_fn5 ?_ | refine w_fn6 ?_); dsimp only [List.replicate])
local macro_rules | `(tactic| walk_at "kb") => `(tactic| with_reducible first | exact kb_int_int | exact kb_int_bool | exact kb_int_str | exact kb_int_list | exact kb_int_tuple | exact kb_bool_int | exact kb_bool_bool | exact kb_bool_str | exact kb_bool_list | exact kb_bool_tuple | exact kb_str_int | exact kb_str_bool | exact kb_str_str | exact kb_str_list | exact kb_str_tuple | exact kb_list_int | exact kb_list_bool | exact kb_list_str | exact kb_list_list | exact kb_list_tuple | exact kb_tuple_int | exact kb_tuple_bool | exact kb_tuple_str | exact kb_tuple_list | exact kb_tuple_tuple | exact kb_NoneType_int | exact kb_NoneType_bool | exact kb_NoneType_str | exact kb_NoneType_list | exact kb_NoneType_tuple)
local macro_rules | `(tactic| walk_at "go1") => `(tactic| first
  | ((with_reducible refine w_var (v := ?v) ?h ?_); case h => exact rfl)
  | with_reducible first
  | refine w_c ?_ | refine w_m2 ?_ | refine w_m1 ?_ | refine w_maC ?_ | refine w_maN ?_ | refine w_mL ?_ | refine w_call ?_
  | refine w_mtOf ?_ | refine w_mtNot ?_ | refine w_mtAnd ?_ | refine w_mtOr ?_ | refine w_meAnd ?_ | refine w_meOr ?_ | refine w_mNot ?_
  | refine ws_seq ?_ | (refine ws_set ?_) | refine ws_ret ?_ | refine ws_if ?_ | refine ws_expr ?_ | refine ws_nil ?_ | refine ws_asg ?_
  | refine wo_int ?_ | refine wo_add ?_ | refine wo_addI ?_ | refine wo_sub ?_ | refine wo_lt ?_ | refine wo_le ?_ | refine wo_gt ?_ | refine wo_ge ?_
  | refine wo_max2 ?_ | refine wo_min2 ?_ | refine wo_abs ?_ | refine wo_neg ?_ | refine wo_eqI ?_ | refine wo_neI ?_ | refine wo_intB ?_ | refine wo_ixT rfl ?_ | refine ws_brk ?_ | refine ws_cnt ?_ | refine w_if ?_ | refine ws_par ?_ | refine ws_par3 ?_ | (refine ⟨_, _, rfl, ?_⟩) | (refine ⟨_, _, _, rfl, ?_⟩) | refine w_isN ?_ | refine w_notN ?_ | refine ite_t ?_ | refine ite_f ?_ | refine ite_nt ?_ | refine ite_nf ?_ | refine w_chain ?_ | refine w_isiT ?_ | refine wg_sub ?_ | (refine ⟨_, rfl, ?_⟩) | refine wg_v ?_ | refine wg_c ?_ | refine wg_n ?_ | refine w_sl ?_ | refine w_optS ?_ | refine w_optN ?_ | refine wo_sl31 ?_)
local macro_rules | `(tactic| walk_at "go2") => `(tactic| first
  | walk_at "go1"
  | ((with_reducible refine wo_mod ?h ?_); case h => omega) | ((with_reducible refine wo_div ?h ?_); case h => omega) | ((with_reducible refine wo_mul_l ?h ?_); case h => omega) | ((with_reducible refine wo_mul_r ?h ?_); case h => omega)
  | ((with_reducible refine wo_shr ?h ?_); case h => omega) | ((with_reducible refine wo_shl ?h ?_); case h => omega) | ((with_reducible refine wo_pow ?h ?_); case h => omega)
  | ((with_reducible refine ite_d ?a ?b); (case b => exact fun h => absurd (by omega) h); intro _)
  | ((with_reducible refine ite_d ?a ?b); (case a => exact fun h => absurd h (by omega)); intro _)
  | ((with_reducible refine ite_d ?a ?b) <;> intro _)
  | ((with_reducible refine ⟨_, _, ?xs, ?j, rfl, rfl, ?h, ?e, ?_⟩); (case h => assumption); (case e => exact rfl))
  | ((with_reducible refine ite_nd ?a ?b); (case b => exact fun h => absurd h (by omega)); intro _)
  | ((with_reducible refine ite_nd ?a ?b); (case a => exact fun h => absurd (by omega) h); intro _)
  | ((with_reducible refine ite_nd ?a ?b) <;> intro _)
  | ((with_reducible refine wg_t ?h ?_); case h => exact rfl)
  | ((with_reducible refine wo_addL (xs := ?xs) (ys := ?ys) (lst_ref ?h1) (lst_ref ?h2) ?h3 ?_); (case h1 => first | assumption | exact get_app (by assumption)); (case h2 => first | assumption | exact get_app (by assumption)); (case h3 => (show _ ≤ 2 ^ 24; simp only [List.length_append, List.length_cons, List.length_nil, List.length_map]; omega)))
  | ((with_reducible refine wo_isi (k := ?k) (b := ?b) ?h1 ?h2 ?_); (case h1 => first | exact rfl | exact kind_ref (by assumption)); (case h2 => walk_at "kb"))
  | ((with_reducible refine wo_len (xs := ?xs) ?h ?_); (case h => first | exact rfl | exact seq_ref (by assumption)))
  | ((with_reducible refine wo_ixL (xs := ?xs) (x := ?x) ?h1 ?h2 ?_); (case h1 => exact lst_ref (by assumption)); (case h2 => exact rfl))
  | ((with_reducible refine wo_tup ?h ?_); case h => (simp only [List.length_cons, List.length_nil]; decide)) | ((with_reducible refine wo_lst ?h ?_); case h => (simp only [List.length_cons, List.length_nil]; decide)))
local macro_rules | `(tactic| walk_at "go") => `(tactic| (repeat' walk_at "go2") <;> try dsimp only [List.set_cons_zero, List.set_cons_succ])

theorem Lo.app (S T : Sto) : Lo S (S ++ T) := (Gr.app S T).lo
theorem ixN_lt {n j : Nat} (h : j < n) : ixN n (j : Int) = some j := by
  unfold ixN
  rw [if_pos (by omega), if_pos (by omega)]
  rfl
abbrev nv (k : Nat) : Va := .int (k : Int)
/-- rows in the store: the list at R of the lists at rs, all of them new -/
structure RowsAt (S0 S : Sto) (R : Nat) (rs : List Nat) (M : List (List Nat)) : Prop where
  lo : Lo S0 S
  lst : S[R]? = some (.lst (rs.map Va.ref))
  len : rs.length = M.length
  row : ∀ (i r : Nat) (row : List Nat), rs[i]? = some r → M[i]? = some row → S[r]? = some (.lst (row.map nv))
  nd : rs.Nodup
  ne : R ∉ rs
  fr : S0.length ≤ R
  frs : ∀ r ∈ rs, S0.length ≤ r
section
variable {S0 S : Sto} {R : Nat} {rs : List Nat} {M : List (List Nat)}
theorem RowsAt.get (h : RowsAt S0 S R rs M) {i : Nat} (hi : i < M.length) : ∃ r row, rs[i]? = some r ∧ M[i]? = some row ∧ S[r]? = some (.lst (row.map nv)) := by
  have hi' : i < rs.length := by rw [h.len]; exact hi
  have h1 : rs[i]? = some rs[i] := List.getElem?_eq_getElem hi'
  have h2 : M[i]? = some M[i] := List.getElem?_eq_getElem hi
  exact ⟨_, _, h1, h2, h.row i _ _ h1 h2⟩
theorem RowsAt.set (h : RowsAt S0 S R rs M) {k r : Nat} {row' : List Nat} (hr : rs[k]? = some r) : RowsAt S0 (S.set r (.lst (row'.map nv))) R rs (M.set k row') := by
  have hm := List.mem_of_getElem? hr
  have hk := (List.getElem?_eq_some_iff.mp hr).1
  have hRr : r ≠ R := fun z => h.ne (by rw [← z]; exact hm)
  refine ⟨h.lo.set (h.frs r hm) _, get_ne hRr h.lst, by rw [List.length_set]; exact h.len, fun i s row hi hrow => ?_, h.nd, h.ne, h.fr, h.frs⟩
  have hi' := (List.getElem?_eq_some_iff.mp hi).1
  by_cases e : i = k
  · subst e
    rw [hi] at hr
    cases hr
    rw [List.getElem?_set_self (by rw [← h.len]; exact hi')] at hrow
    cases hrow
    have hl : r < S.length := by
      obtain ⟨r2, row2, e1, _, e3⟩ := h.get (i := i) (by rw [← h.len]; exact hi')
      rw [hi] at e1
      cases e1
      exact lt_get e3
    exact List.getElem?_set_self hl
  · rw [List.getElem?_set_ne (fun z => e z.symm)] at hrow
    have hsr : r ≠ s := fun z => by
      subst z
      exact e ((List.getElem?_inj hi' h.nd).mp (hi.trans hr.symm))
    exact get_ne hsr (h.row i s row hi hrow)
theorem RowsAt.snoc (h : RowsAt S0 S R rs M) {row : List Nat} : RowsAt S0 ((S ++ [Ob.lst (row.map nv)]).set R (Ob.lst (rs.map Va.ref ++ [Va.ref S.length]))) R (rs ++ [S.length]) (M ++ [row]) := by
  have hR := lt_get h.lst
  have hrl : ∀ r ∈ rs, r < S.length := fun r hr => by
    obtain ⟨i, hi⟩ := List.mem_iff_getElem?.mp hr
    have hi' := (List.getElem?_eq_some_iff.mp hi).1
    obtain ⟨r2, row2, e1, _, e3⟩ := h.get (i := i) (by rw [← h.len]; exact hi')
    rw [hi] at e1
    cases e1
    exact lt_get e3
  refine ⟨(h.lo.trans (Lo.app _ _)).set h.fr _, ?_, by simp [h.len], fun i r row2 hi hrow => ?_, ?_, ?_, h.fr, fun r hr => ?_⟩
  · rw [List.getElem?_set_self (by simp; omega)]
    simp
  · by_cases e : i < rs.length
    · rw [List.getElem?_append_left e] at hi
      rw [List.getElem?_append_left (by rw [← h.len]; exact e)] at hrow
      have hm := List.mem_of_getElem? hi
      exact get_ne (fun z => h.ne (by rw [z]; exact hm)) (get_app (h.row i r row2 hi hrow))
    · have hi2 := (List.getElem?_eq_some_iff.mp hi).1
      rw [List.length_append, List.length_singleton] at hi2
      have e2 : i = rs.length := by omega
      subst e2
      rw [List.getElem?_append_right (Nat.le_refl _), Nat.sub_self] at hi
      rw [h.len, List.getElem?_append_right (Nat.le_refl _), Nat.sub_self] at hrow
      cases hi
      cases hrow
      exact get_ne (by omega) get_last
  · rw [List.nodup_append]
    refine ⟨h.nd, List.nodup_cons.mpr ⟨by simp, List.nodup_nil⟩, fun a ha b hb e => ?_⟩
    rw [List.mem_singleton.mp hb] at e
    have := hrl a ha
    omega
  · intro z
    rcases List.mem_append.mp z with z | z
    · exact h.ne z
    · have := List.mem_singleton.mp z
      omega
  · rcases List.mem_append.mp hr with z | z
    · exact h.frs r z
    · rw [List.mem_singleton.mp z]
      exact h.lo.1
end
theorem row_ix {S : Sto} {row : List Nat} {r j k : Nat} {Q : Va → Sto → Prop} (h : S[r]? = some (.lst (row.map nv))) (e : row[j]? = some k) (q : Q (nv k) S) : Wo (fIx (.ref r) (.int (j : Int)) S) Q :=
  wo_ixL (lst_ref h) (atI_nat (by rw [List.getElem?_map, e]; rfl)) q
theorem pts_ix {S : Sto} {v : Va} {ps : Pts} {j : Nat} {p : Int × Int} {Q : Va → Sto → Prop} (h : IsSeq S v (ps.map ptV)) (e : ps[j]? = some p) (q : Q (ptV p) S) : Wo (fIx v (.int (j : Int)) S) Q :=
  h.dat (atI_nat (by rw [List.getElem?_map, e]; rfl)) q
theorem nd_ne {ps : Pts} (nd : ps.Nodup) {i k : Nat} {p q : Int × Int} (hk : ps[k]? = some p) (hi : ps[i]? = some q) (h : k < i) : p ≠ q := fun e => by
  subst e
  have := (List.getElem?_inj (List.getElem?_eq_some_iff.mp hk).1 nd).mp (hk.trans hi.symm)
  omega
def muR (n : Nat) (Γ : En) : Nat := match Γ[5]? with
  | some (some (Va.int a)) => ((n : Int) - a).toNat
  | _ => 0
/-- on the way down -/
structure WayR (ps : Pts) (i : Nat) (rs : List Nat) (M : List (List Nat)) (t : IT) (z6 z7 : Option Va) : Prop where
  rep : IT.Rep M ps.length t
  mem : ∀ k, IT.Mem k t → k < i
  asc : IT.Asc t
  tgt : t.isNil = false → IT.tgt (fI ps) i t = IT.tgt (fI ps) i (ITg ps i)
  nil : t.isNil = true → ∃ r : Nat, rs[(IT.tgt (fI ps) i (ITg ps i)).1]? = some r ∧ z6 = some (.ref r) ∧ z7 = some (nv (IT.tgt (fI ps) i (ITg ps i)).2.val)
theorem rt_child {t : IT} {k : Nat} {ch : Fin 4 → IT} {n : Nat} (j : Fin 4) (ha : IT.Asc (.node k ch)) (hk : k < n) : k < (ch j).rt n := by
  cases e : ch j with
  | nil => exact hk
  | node k2 ch2 => exact ha.1 j k2 (by rw [e]; exact .inl rfl)
theorem sp_rows {S : Sto} {v : Va} {ps : Pts} (hv : IsSeq S v (ps.map ptV)) (hlo : ∀ S', Lo S S' → IsSeq S' v (ps.map ptV)) (nd : ps.Nodup) (hl : ps.length ≤ 1000) :
    Wp (m_rows_by_steps [v] S) (fun u S' => ∃ R rs M, u = .ref R ∧ RowsAt S S' R rs M ∧ M.length = ps.length ∧ Rows4 M ps.length ∧ IT.Rep M ps.length (ITg ps ps.length)) := by
  have hlen : (ps.map ptV).length = ps.length := List.length_map ..
  walk_at "fn"
  unfold b_rows_by_steps
  walk_at "go"
  refine hv.len ?_
  rw [hlen]
  walk_at "go"
  refine ws_forE v (ps.map ptV) (fun i Γ S' => ∃ rs M z3 z4 z5 z6 z7, Γ = [some v, some (nv ps.length), some (.ref S.length), z3, z4, z5, z6, z7] ∧ RowsAt S S' S.length rs M ∧ M.length = i ∧ Rows4 M ps.length ∧ IT.Rep M ps.length (ITg ps i)) ?_ ?_ ?_ ?_
  · walk_at "go"
    refine ⟨rfl, [], [], _, _, _, _, _, rfl, ⟨Lo.app _ _, get_last, rfl, fun i r row h => by simp at h, List.nodup_nil, by simp, Nat.le_refl _, fun r h => by simp at h⟩, rfl, fun r h => by simp at h, trivial⟩
  · rintro i Γ S' ⟨rs, M, z3, z4, z5, z6, z7, rfl, A, _⟩
    exact hlo _ A.lo
  · rintro i x Γ S' hx ⟨rs, M, z3, z4, z5, z6, z7, rfl, A, hM, h4, hrep⟩
    obtain ⟨q0, hq0, rfl⟩ := map_at hx
    have hi := (List.getElem?_eq_some_iff.mp hq0).1
    have hsq := hlo _ A.lo
    walk_at "go"
    refine ws_while (fun Γ S1 => S1 = S' ∧ ∃ t y6 y7, Γ = [some v, some (nv ps.length), some (.ref S.length), some (nv i), some (ptV q0), some (nv (t.rt ps.length)), y6, y7] ∧ (0 < i → WayR ps i rs M t y6 y7) ∧ (i = 0 → t.rt ps.length = 0)) (fun Γ _ => muR ps.length Γ) ?_ ?_ ?_
    · refine ⟨rfl, if 0 < i then ITg ps i else .node 0 fun _ => .nil, z6, z7, ?_, fun h => ?_, fun h => ?_⟩
      · by_cases h : 0 < i
        · rw [if_pos h, (itg_rt ps _ i h).2]; rfl
        · rw [if_neg h]; rfl
      · rw [if_pos h]
        exact ⟨hrep, fun k hk => itg_mem hk, itg_asc ps i, fun _ => rfl, fun z => by rw [(itg_rt ps ps.length i h).1] at z; cases z⟩
      · rw [if_neg (by omega)]; rfl
    · show (((ps.length : Int) - 0).toNat) < 1000000
      omega
    · rintro Γ S1 ⟨rfl, t, y6, y7, rfl, hW, hz⟩
      have fin : ∀ (S3 : Sto) (M' : List (List Nat)) (y5 y6 y7 : Option Va), RowsAt S S3 S.length rs M' → M'.length = i → Rows4 (M' ++ [[ps.length, ps.length, ps.length, ps.length]]) ps.length →
          IT.Rep (M' ++ [[ps.length, ps.length, ps.length, ps.length]]) ps.length (ITg ps (i + 1)) →
          ∃ rs' M'' z3 z4 z5 z6 z7, [some v, some (nv ps.length), some (.ref S.length), some (nv i), some (ptV q0), y5, y6, y7] = [some v, some (nv ps.length), some (.ref S.length), z3, z4, z5, z6, z7] ∧ RowsAt S ((S3 ++ [Ob.lst ([ps.length, ps.length, ps.length, ps.length].map nv)]).set S.length (Ob.lst (rs.map Va.ref ++ [Va.ref S3.length]))) S.length rs' M'' ∧ M''.length = i + 1 ∧ Rows4 M'' ps.length ∧ IT.Rep M'' ps.length (ITg ps (i + 1)) :=
        fun S3 M' y5 y6 y7 B hl' h4' hr' => ⟨_, _, _, _, _, _, _, rfl, B.snoc, by simp [hl'], h4', hr'⟩
      by_cases i0 : 0 < i
      · obtain ⟨c2, c3, ca, c4, c5⟩ := hW i0
        walk_at "go"
        · next hlt =>
          have hlt : t.rt ps.length < i := by omega
          cases t with
          | nil => exact absurd hlt (by show ¬ ps.length < i; omega)
          | node k ch =>
            have hk : k < i := hlt
            obtain ⟨rk, r2⟩ := c2
            obtain ⟨r, row, hr1, hr2, hr3⟩ := A.get (i := k) (by rw [hM]; exact hk)
            rw [rk] at hr2
            cases hr2
            have hqk : ps[k]? = some ps[k] := List.getElem?_eq_getElem (by omega)
            refine wo_ixL (lst_ref A.lst) (atI_nat (j := k) (by rw [List.getElem?_map, hr1]; rfl)) ?_
            walk_at "go"
            refine pts_ix hsq hqk ?_
            walk_at "go"
            refine sp_part_of.mono ?_
            rintro w S2 ⟨rfl, rfl⟩
            have es : sideV ps[k] q0 = nv (fI ps k i).val := by
              unfold sideV
              rw [if_neg (nd_ne nd hqk hq0 hk), fI_side hqk hq0]
            rw [es]
            walk_at "go"
            refine row_ix hr3 (four_map id (fun j => (ch j).rt ps.length) (fI ps k i)) ?_
            walk_at "go"
            refine ⟨⟨rfl, ch (fI ps k i), some (.ref r), some (nv (fI ps k i).val), rfl, fun _ => ⟨r2 _, fun k' h' => c3 k' (.inr ⟨_, h'⟩), ca.2.2 _, fun nn => ?_, fun nn => ?_⟩, fun z => by omega⟩, ?_⟩
            · rw [← c4 rfl]
              show _ = IT.tgt (fI ps) i (.node k ch)
              unfold IT.tgt
              rw [nn, if_neg (by decide)]
              cases z : ch (fI ps k i) with
              | nil => rw [z] at nn; cases nn
              | node k2 ch2 => rw [IT.tgt]
            · have e2 : IT.tgt (fI ps) i (ITg ps i) = (k, fI ps k i) := by
                rw [← c4 rfl]
                show IT.tgt (fI ps) i (.node k ch) = _
                unfold IT.tgt
                rw [nn, if_pos rfl]
              rw [e2]
              exact ⟨r, hr1, rfl, rfl⟩
            · have := rt_child (t := .nil) (fI ps k i) ca (show k < ps.length by omega)
              show (((ps.length : Int) - ((ch (fI ps k i)).rt ps.length : Nat)).toNat) < (((ps.length : Int) - ((IT.node k ch).rt ps.length : Nat)).toNat)
              have e : (IT.node k ch).rt ps.length = k := rfl
              rw [e]
              omega
        · next hge =>
          have ge : i ≤ t.rt ps.length := by omega
          have hnil : t.isNil = true := by
            cases t with
            | nil => rfl
            | node k ch => exact absurd (c3 k (.inl rfl)) (by have : i ≤ k := ge; omega)
          obtain ⟨r, hr1, rfl, rfl⟩ := c5 hnil
          have tm := IT.tgt_mem (f := fI ps) (n := i) (itg_rt ps ps.length i i0).1
          generalize hkp : IT.tgt (fI ps) i (ITg ps i) = kp at hr1 tm
          obtain ⟨k, p⟩ := kp
          have hk : k < i := itg_mem tm
          obtain ⟨r', row, hr1', hr2, hr3⟩ := A.get (i := k) (by rw [hM]; exact hk)
          rw [hr1] at hr1'
          cases hr1'
          obtain ⟨l4, b4⟩ := h4 row (List.mem_of_getElem? hr2)
          have pl : p.val < (row.map nv).length := by rw [List.length_map, l4]; exact p.isLt
          have em : (row.map nv).set p.val (.int (i : Nat)) = (row.set p.val i).map nv := by rw [List.map_set]
          have R6 := A.set (row' := row.set p.val i) hr1
          have hl6 : (M.set k (row.set p.val i)).length = i := by rw [List.length_set]; exact hM
          have hr4 := rows4_set (p := p) h4 hr2 (show i ≤ ps.length by omega)
          have hrep' : IT.Rep (M.set k (row.set p.val i) ++ [[ps.length, ps.length, ps.length, ps.length]]) ps.length (ITg ps (i + 1)) := by
            rw [itg_succ]
            refine IT.rep_hang ?_ (itg_rt ps ps.length i i0).1 (itg_asc ps i) hrep
            rw [hkp]
            exact hung_of hM hk hr2
          refine ⟨r, p.val, row.map nv, p.val, rfl, rfl, hr3, ixN_lt pl, ?_⟩
          rw [em]
          walk_at "go"
          refine w_app ?_
          walk_at "go"
          refine ⟨_, _, rfl, R6.lst, ?_⟩
          walk_at "go"
          refine ⟨_, _, rfl, get_app R6.lst, ?_, fin _ _ _ _ _ R6 hl6 hr4 hrep'⟩
          rw [List.length_map, R6.len, hl6]
          show i < 2 ^ 24
          omega
      · have i0' : i = 0 := by omega
        have hz := hz i0'
        subst i0'
        have hM0 : M = [] := List.length_eq_zero_iff.mp hM
        walk_at "go"
        refine w_app ?_
        walk_at "go"
        refine ⟨_, _, rfl, A.lst, ?_⟩
        walk_at "go"
        refine ⟨_, _, rfl, get_app A.lst, ?_, fin _ _ _ _ _ A hM ?_ ?_⟩
        · rw [List.length_map, A.len, hM]
          decide
        · subst hM0
          intro row hrow
          rw [List.mem_singleton.mp hrow]
          refine ⟨rfl, fun x hx => ?_⟩
          simp at hx
          omega
        · subst hM0
          exact ⟨rfl, fun _ => trivial⟩
  · rintro Γ S' ⟨rs, M, z3, z4, z5, z6, z7, rfl, A, hM, h4, hrep⟩
    rw [hlen] at hM hrep
    walk_at "go"
    exact ⟨_, rs, M, rfl, A, hM, h4, hrep⟩
end PM

namespace PM
open PySem PySem.Spec PyProof.Rows L2 Q2
local macro_rules | `(tactic| walk_at "fn") => `(tactic| (first | refine w_fn1 ?_ | refine w_fn2 ?_ | refine w_fn3 ?_ | refine w_fn4 ?_ | refine w_fn5 ?_ | refine w_fn6 ?_); dsimp only [List.replicate])
local macro_rules | `(tactic| walk_at "kb") => `(tactic| with_reducible first | exact kb_int_int | exact kb_int_bool | exact kb_int_str | exact kb_int_list | exact kb_int_tuple | exact kb_bool_int | exact kb_bool_bool | exact kb_bool_str | exact kb_bool_list | exact kb_bool_tuple | exact kb_str_int | exact kb_str_bool | exact kb_str_str | exact kb_str_list | exact kb_str_tuple | exact kb_list_int | exact kb_list_bool | exact kb_list_str | exact kb_list_list | exact kb_list_tuple | exact kb_tuple_int | exact kb_tuple_bool | exact kb_tuple_str | exact kb_tuple_list | exact kb_tuple_tuple | exact kb_NoneType_int | exact kb_NoneType_bool | exact kb_NoneType_str | exact kb_NoneType_list | exact kb_NoneType_tuple)
local macro_rules | `(tactic| walk_at "go1") => `(tactic| first
  | ((with_reducible refine w_var (v := ?v) ?h ?_); case h => exact rfl)
  | with_reducible first
  | refine w_c ?_ | refine w_m2 ?_ | refine w_m1 ?_ | refine w_maC ?_ | refine w_maN ?_ | refine w_mL ?_ | refine w_call ?_
  | refine w_mtOf ?_ | refine w_mtNot ?_ | refine w_mtAnd ?_ | refine w_mtOr ?_ | refine w_meAnd ?_ | refine w_meOr ?_ | refine w_mNot ?_
  | refine ws_seq ?_ | (refine ws_set ?_) | refine ws_ret ?_ | refine ws_if ?_ | refine ws_expr ?_ | refine ws_nil ?_ | refine ws_asg ?_
  | refine wo_int ?_ | refine wo_add ?_ | refine wo_addI ?_ | refine wo_sub ?_ | refine wo_lt ?_ | refine wo_le ?_ | refine wo_gt ?_ | refine wo_ge ?_
  | refine wo_max2 ?_ | refine wo_min2 ?_ | refine wo_abs ?_ | refine wo_neg ?_ | refine wo_eqI ?_ | refine wo_neI ?_ | refine wo_intB ?_ | refine wo_ixT rfl ?_ | refine ws_brk ?_ | refine ws_cnt ?_ | refine w_if ?_ | refine ws_par ?_ | refine ws_par3 ?_ | (refine ⟨_, _, rfl, ?_⟩) | (refine ⟨_, _, _, rfl, ?_⟩) | refine w_isN ?_ | refine w_notN ?_ | refine ite_t ?_ | refine ite_f ?_ | refine ite_nt ?_ | refine ite_nf ?_ | refine w_chain ?_ | refine w_isiT ?_ | refine wg_sub ?_ | (refine ⟨_, rfl, ?_⟩) | refine wg_v ?_ | refine wg_c ?_ | refine wg_n ?_ | refine w_sl ?_ | refine w_optS ?_ | refine w_optN ?_ | refine wo_sl31 ?_)
local macro_rules | `(tactic| walk_at "go2") => `(tactic| first
  | walk_at "go1"
  | ((with_reducible refine wo_mod ?h ?_); case h => omega) | ((with_reducible refine wo_div ?h ?_); case h => omega) | ((with_reducible refine wo_mul_l ?h ?_); case h => omega) | ((with_reducible refine wo_mul_r ?h ?_); case h => omega)
  | ((with_reducible refine wo_shr ?h ?_); case h => omega) | ((with_reducible refine wo_shl ?h ?_); case h => omega) | ((with_reducible refine wo_pow ?h ?_); case h => omega)
  | ((with_reducible refine ite_d ?a ?b); (case b => exact fun h => absurd (by omega) h); intro _)
  | ((with_reducible refine ite_d ?a ?b); (case a => exact fun h => absurd h (by omega)); intro _)
  | ((with_reducible refine ite_d ?a ?b) <;> intro _)
  | ((with_reducible refine ⟨_, _, ?xs, ?j, rfl, rfl, ?h, ?e, ?_⟩); (case h => assumption); (case e => exact rfl))
  | ((with_reducible refine ite_nd ?a ?b); (case b => exact fun h => absurd h (by omega)); intro _)
  | ((with_reducible refine ite_nd ?a ?b); (case a => exact fun h => absurd (by omega) h); intro _)
  | ((with_reducible refine ite_nd ?a ?b) <;> intro _)
  | ((with_reducible refine wg_t ?h ?_); case h => exact rfl)
  | ((with_reducible refine wo_addL (xs := ?xs) (ys := ?ys) (lst_ref ?h1) (lst_ref ?h2) ?h3 ?_); (case h1 => first | assumption | exact get_app (by assumption)); (case h2 => first | assumption | exact get_app (by assumption)); (case h3 => (show _ ≤ 2 ^ 24; simp only [List.length_append, List.length_cons, List.length_nil, List.length_map]; omega)))
  | ((with_reducible refine wo_isi (k := ?k) (b := ?b) ?h1 ?h2 ?_); (case h1 => first | exact rfl | exact kind_ref (by assumption)); (case h2 => walk_at "kb"))
  | ((with_reducible refine wo_len (xs := ?xs) ?h ?_); (case h => first | exact rfl | exact seq_ref (by assumption)))
  | ((with_reducible refine wo_ixL (xs := ?xs) (x := ?x) ?h1 ?h2 ?_); (case h1 => exact lst_ref (by assumption)); (case h2 => exact rfl))
  | ((with_reducible refine wo_tup ?h ?_); case h => (simp only [List.length_cons, List.length_nil]; decide)) | ((with_reducible refine wo_lst ?h ?_); case h => (simp only [List.length_cons, List.length_nil]; decide)))
local macro_rules | `(tactic| walk_at "go") => `(tactic| (repeat' walk_at "go2") <;> try dsimp only [List.set_cons_zero, List.set_cons_succ])

theorem ws_forV {Γ : En} {S : Sto} {P : Po} {m : ME} {g : MG} {b : MS} (n : Nat) (hn : n < 2 ^ 62) (Inv : Nat → En → Sto → Prop) (hm : Wp (m Γ S) fun w S1 => w = .int (n : Int) ∧ Inv n Γ S1)
    (hs : ∀ j Γ S, j < n → Inv (j + 1) Γ S → Wp (g (.int (j : Nat)) Γ S) fun Γ1 S1 => Ws (b Γ1 S1) { nx := Inv j, ct := Inv j, bk := P.nx, rt := P.rt }) (hd : ∀ Γ S, Inv 0 Γ S → P.nx Γ S) : Ws (sFor (mRev1 m) g b Γ S) P := by
  refine ws_for (w_rev1 (hm.mono fun w S1 h => ?_))
  obtain ⟨rfl, h0⟩ := h
  refine ⟨(n : Int), rfl, ⟨by omega, by omega⟩, ?_⟩
  rw [Int.toNat_natCast]
  refine loop_rng (fun i => Inv (n - i)) (by simpa using h0) (fun i Γ S hi h => ?_) (fun Γ S h => hd Γ S (by simpa using h))
  have e : ((n : Int) - 1) + (i : Nat) * (-1) = ((n - (i + 1) : Nat) : Int) := by omega
  rw [e]
  have e2 : n - i = (n - (i + 1)) + 1 := by omega
  rw [e2] at h
  exact hs (n - (i + 1)) Γ S (by omega) h
theorem four_of {row : List Nat} (h : row.length = 4) : ∃ a b c d, row = [a, b, c, d] := by
  match row, h with
  | [a, b, c, d], _ => exact ⟨a, b, c, d, rfl⟩
/-- the list of the trees from a number on -/
structure TreesAt (S0 S : Sto) (L : Nat) (TR : List Va) (ps : Pts) (T : IT) (j : Nat) : Prop where
  lo : Lo S0 S
  fr : S0.length ≤ L
  lst : S[L]? = some (.lst TR)
  len : TR.length = ps.length + 1
  got : ∀ t : IT, Sub t T → (t.isNil = false → j ≤ t.rt ps.length) → TR[t.rt ps.length]? = some (QT.ofI (pI ps) t).va
theorem pI_at {ps : Pts} {k : Nat} {p : Int × Int} (h : ps[k]? = some p) : pI ps k = p := by
  unfold pI
  rw [List.getD_eq_getElem?_getD, h]
  rfl
theorem sp_qor {S0 S : Sto} {v : Va} {ps : Pts} {R : Nat} {rs : List Nat} {M : List (List Nat)} (hv : IsSeq S v (ps.map ptV)) (hlo : ∀ S', Lo S S' → IsSeq S' v (ps.map ptV)) (hl : ps.length ≤ 1000)
    (A : RowsAt S0 S R rs M) (hM : M.length = ps.length) (h4 : Rows4 M ps.length) (hrep : IT.Rep M ps.length (ITg ps ps.length)) :
    Wp (m_quarter_of_rows [v, .ref R, nv ps.length] S) (fun u S' => u = (treeQ ps).va ∧ Lo S S') := by
  have hlen : (ps.map ptV).length = ps.length := List.length_map ..
  walk_at "fn"
  unfold b_quarter_of_rows
  walk_at "go"
  refine (hlo _ (Lo.app _ _)).len ?_
  rw [hlen]
  walk_at "go"
  refine wo_rep get_last (by omega) (by simp only [List.length_cons, List.length_nil]; omega) ?_
  walk_at "go"
  have eL : (List.replicate ((ps.length : Int) + 1).toNat [Va.non]).flatten = List.replicate (ps.length + 1) Va.non := by
    have e : ((ps.length : Int) + 1).toNat = ps.length + 1 := by omega
    rw [e]
    generalize ps.length + 1 = n
    induction n with
    | zero => rfl
    | succ n ih => rw [List.replicate_succ, List.flatten_cons, ih, List.replicate_succ]; rfl
  rw [eL]
  have lo0 : Lo S (S ++ [Ob.lst [Va.non]] ++ [Ob.lst (List.replicate (ps.length + 1) Va.non)]) := (Lo.app _ _).trans (Lo.app _ _)
  have g0 : (S ++ [Ob.lst [Va.non]] ++ [Ob.lst (List.replicate (ps.length + 1) Va.non)])[(S ++ [Ob.lst [Va.non]]).length]? = some (.lst (List.replicate (ps.length + 1) Va.non)) := get_last
  have hL : S.length ≤ (S ++ [Ob.lst [Va.non]]).length := by simp
  generalize (S ++ [Ob.lst [Va.non]]).length = L at g0 hL ⊢
  generalize S ++ [Ob.lst [Va.non]] ++ [Ob.lst (List.replicate (ps.length + 1) Va.non)] = S1 at lo0 g0 ⊢
  have hRl := lt_get A.lst
  refine ws_forV ps.length (by omega) (fun j Γ S' => ∃ TR z4 z5 z6 z7 z8, Γ = [some v, some (.ref R), some (nv ps.length), some (.ref L), z4, z5, z6, z7, z8] ∧ TreesAt S S' L TR ps (ITg ps ps.length) j) ?_ ?_ ?_
  · walk_at "go"
    refine ⟨rfl, _, _, _, _, _, _, rfl, ⟨lo0, hL, g0, by simp, fun t st ht => ?_⟩⟩
    cases t with
    | nil =>
      show (List.replicate (ps.length + 1) Va.non)[ps.length]? = some .non
      rw [List.getElem?_replicate, if_pos (by omega)]
    | node k ch =>
      have h1 : ps.length ≤ k := ht rfl
      have h2 := itg_mem (sub_mem st (.inl rfl))
      omega
  · rintro j Γ S' hj ⟨TR, z4, z5, z6, z7, z8, rfl, B⟩
    obtain ⟨r, row, hr1, hr2, hr3⟩ := A.get (i := j) (by rw [hM]; exact hj)
    obtain ⟨l4, b4⟩ := h4 row (List.mem_of_getElem? hr2)
    obtain ⟨k0, k1, k2, k3, rfl⟩ := four_of l4
    have hpj : ps[j]? = some ps[j] := List.getElem?_eq_getElem hj
    have hb : ∀ k ∈ [k0, k1, k2, k3], ∃ w, TR[k]? = some w := fun k hk => ⟨_, List.getElem?_eq_getElem (by rw [B.len]; have := b4 k hk; omega)⟩
    obtain ⟨w0, e0⟩ := hb k0 (by simp)
    obtain ⟨w1, e1⟩ := hb k1 (by simp)
    obtain ⟨w2, e2⟩ := hb k2 (by simp)
    obtain ⟨w3, e3⟩ := hb k3 (by simp)
    have hsq := hlo _ B.lo
    have hRS := B.lo.get A.lst
    have hrS := B.lo.get hr3
    walk_at "go"
    refine wo_ixL (lst_ref hRS) (atI_nat (j := j) (by rw [List.getElem?_map, hr1]; rfl)) ?_
    refine wg_tl (lst_ref hrS) rfl ?_
    simp only [List.map_cons, List.map_nil]
    walk_at "go"
    refine pts_ix hsq hpj ?_
    walk_at "go"
    refine wo_ixL (lst_ref B.lst) (atI_nat e0) ?_
    walk_at "go"
    refine wo_ixL (lst_ref B.lst) (atI_nat e1) ?_
    walk_at "go"
    refine wo_ixL (lst_ref B.lst) (atI_nat e2) ?_
    walk_at "go"
    refine wo_ixL (lst_ref B.lst) (atI_nat e3) ?_
    walk_at "go"
    have hjl : j < TR.length := by rw [B.len]; omega
    refine ⟨L, (j : Int), TR, j, rfl, rfl, B.lst, ixN_lt hjl, _, _, _, _, _, _, rfl, ⟨B.lo.set B.fr _, B.fr, get_set B.lst, by rw [List.length_set]; exact B.len, fun t st ht => ?_⟩⟩
    by_cases e : t.isNil = false ∧ t.rt ps.length = j
    · cases t with
      | nil => exact absurd e.1 (by decide)
      | node k ch =>
        have ek : k = j := e.2
        subst ek
        obtain ⟨rk, rc⟩ := sub_rep st hrep
        rw [hr2] at rk
        simp only [Option.some.injEq, List.cons.injEq, and_true] at rk
        obtain ⟨q0, q1, q2, q3⟩ := rk
        subst q0 q1 q2 q3
        have kid : ∀ i : Fin 4, TR[(ch i).rt ps.length]? = some (QT.ofI (pI ps) (ch i)).va := fun i => B.got (ch i) (sub_child st) fun nn => by
          have ha := sub_asc st (itg_asc ps ps.length)
          cases z : ch i with
          | nil => rw [z] at nn; cases nn
          | node k2 ch2 =>
            have := ha.1 i k2 (by rw [z]; exact .inl rfl)
            exact this
        have k0 := (kid 0).symm.trans e0
        have k1 := (kid 1).symm.trans e1
        have k2 := (kid 2).symm.trans e2
        have k3 := (kid 3).symm.trans e3
        cases k0
        cases k1
        cases k2
        cases k3
        show (TR.set k _)[k]? = _
        rw [List.getElem?_set_self hjl]
        have ep : pI ps k = ps[k] := pI_at hpj
        show some (Va.tup [ptV ps[k], _]) = some (QT.node (pI ps k) fun i => QT.ofI (pI ps) (ch i)).va
        rw [ep]
        rfl
    · have hne : j ≠ t.rt ps.length := fun z => by
        cases hn : t.isNil with
        | true =>
          have := IT.rt_nil (m := ps.length) hn
          omega
        | false => exact e ⟨hn, z.symm⟩
      rw [List.getElem?_set_ne hne]
      exact B.got t st fun nn => by have := ht nn; omega
  · rintro Γ S' ⟨TR, z4, z5, z6, z7, z8, rfl, B⟩
    have h0 := B.got (ITg ps ps.length) (sub_refl _) fun _ => Nat.zero_le _
    rw [ofI_itg] at h0
    have er : (ITg ps ps.length).rt ps.length = 0 := by
      by_cases h : 0 < ps.length
      · exact (itg_rt ps _ _ h).2
      · have : ps.length = 0 := by omega
        rw [this]
        rfl
    rw [er] at h0
    walk_at "go"
    exact wo_ixL (lst_ref B.lst) (atI_nat (j := 0) h0) ⟨rfl, B.lo⟩
theorem sp_grown {S : Sto} {v : Va} {ps : Pts} (hv : IsSeq S v (ps.map ptV)) (hlo : ∀ S', Lo S S' → IsSeq S' v (ps.map ptV)) (nd : ps.Nodup) (hl : ps.length < 32) :
    Wp (m_grown [v] S) (fun u S' => u = (treeQ ps).va ∧ Lo S S') := by
  have hlen : (ps.map ptV).length = ps.length := List.length_map ..
  walk_at "fn"
  unfold b_grown
  walk_at "go"
  refine hv.len ?_
  rw [hlen]
  walk_at "go"
  refine (sp_rows hv hlo nd (by omega)).mono ?_
  rintro u S1 ⟨R, rs, M, rfl, A, hM, h4, hrep⟩
  walk_at "go"
  refine (hlo _ A.lo).len ?_
  rw [hlen]
  walk_at "go"
  refine (sp_qor (hlo _ A.lo) (fun S' h => hlo _ (A.lo.trans h)) (by omega) A hM h4 hrep).mono ?_
  rintro u S2 ⟨rfl, l⟩
  exact ⟨rfl, A.lo.trans l⟩
end PM

namespace PM
open PySem PySem.Spec PyProof.Rows L2 Q2
local macro_rules | `(tactic| walk_at "fn") => `(tactic| (first | refine w_fn1 ?_ | refine w_fn2 ?_ | refine w_fn3 ?_ | refine w_fn4 ?_ | refine w_fn5 ?_ | refine w_fn6 ?_); dsimp only [List.replicate])
local macro_rules | `(tactic| walk_at "kb") => `(tactic| with_reducible first | exact kb_int_int | exact kb_int_bool | exact kb_int_str | exact kb_int_list | exact kb_int_tuple | exact kb_bool_int | exact kb_bool_bool | exact kb_bool_str | exact kb_bool_list | exact kb_bool_tuple | exact kb_str_int | exact kb_str_bool | exact kb_str_str | exact kb_str_list | exact kb_str_tuple | exact kb_list_int | exact kb_list_bool | exact kb_list_str | exact kb_list_list | exact kb_list_tuple | exact kb_tuple_int | exact kb_tuple_bool | exact kb_tuple_str | exact kb_tuple_list | exact kb_tuple_tuple | exact kb_NoneType_int | exact kb_NoneType_bool | exact kb_NoneType_str | exact kb_NoneType_list | exact kb_NoneType_tuple)
local macro_rules | `(tactic| walk_at "go1") => `(tactic| first
  | ((with_reducible refine w_var (v := ?v) ?h ?_); case h => exact rfl)
  | with_reducible first
  | refine w_c ?_ | refine w_m2 ?_ | refine w_m1 ?_ | refine w_maC ?_ | refine w_maN ?_ | refine w_mL ?_ | refine w_call ?_
  | refine w_mtOf ?_ | refine w_mtNot ?_ | refine w_mtAnd ?_ | refine w_mtOr ?_ | refine w_meAnd ?_ | refine w_meOr ?_ | refine w_mNot ?_
  | refine ws_seq ?_ | (refine ws_set ?_) | refine ws_ret ?_ | refine ws_if ?_ | refine ws_expr ?_ | refine ws_nil ?_ | refine ws_asg ?_
  | refine wo_int ?_ | refine wo_add ?_ | refine wo_addI ?_ | refine wo_sub ?_ | refine wo_lt ?_ | refine wo_le ?_ | refine wo_gt ?_ | refine wo_ge ?_
  | refine wo_max2 ?_ | refine wo_min2 ?_ | refine wo_abs ?_ | refine wo_neg ?_ | refine wo_eqI ?_ | refine wo_neI ?_ | refine wo_intB ?_ | refine wo_ixT rfl ?_ | refine ws_brk ?_ | refine ws_cnt ?_ | refine w_if ?_ | refine ws_par ?_ | refine ws_par3 ?_ | (refine ⟨_, _, rfl, ?_⟩) | (refine ⟨_, _, _, rfl, ?_⟩) | refine w_isN ?_ | refine w_notN ?_ | refine ite_t ?_ | refine ite_f ?_ | refine ite_nt ?_ | refine ite_nf ?_ | refine w_chain ?_ | refine w_isiT ?_ | refine wg_sub ?_ | (refine ⟨_, rfl, ?_⟩) | refine wg_v ?_ | refine wg_c ?_ | refine wg_n ?_ | refine w_sl ?_ | refine w_optS ?_ | refine w_optN ?_ | refine wo_sl31 ?_)
local macro_rules | `(tactic| walk_at "go2") => `(tactic| first
  | walk_at "go1"
  | ((with_reducible refine wo_mod ?h ?_); case h => omega) | ((with_reducible refine wo_div ?h ?_); case h => omega) | ((with_reducible refine wo_mul_l ?h ?_); case h => omega) | ((with_reducible refine wo_mul_r ?h ?_); case h => omega)
  | ((with_reducible refine wo_shr ?h ?_); case h => omega) | ((with_reducible refine wo_shl ?h ?_); case h => omega) | ((with_reducible refine wo_pow ?h ?_); case h => omega)
  | ((with_reducible refine ite_d ?a ?b); (case b => exact fun h => absurd (by omega) h); intro _)
  | ((with_reducible refine ite_d ?a ?b); (case a => exact fun h => absurd h (by omega)); intro _)
  | ((with_reducible refine ite_d ?a ?b) <;> intro _)
  | ((with_reducible refine ⟨_, _, ?xs, ?j, rfl, rfl, ?h, ?e, ?_⟩); (case h => assumption); (case e => exact rfl))
  | ((with_reducible refine ite_nd ?a ?b); (case b => exact fun h => absurd h (by omega)); intro _)
  | ((with_reducible refine ite_nd ?a ?b); (case a => exact fun h => absurd (by omega) h); intro _)
  | ((with_reducible refine ite_nd ?a ?b) <;> intro _)
  | ((with_reducible refine wg_t ?h ?_); case h => exact rfl)
  | ((with_reducible refine wo_addL (xs := ?xs) (ys := ?ys) (lst_ref ?h1) (lst_ref ?h2) ?h3 ?_); (case h1 => first | assumption | exact get_app (by assumption)); (case h2 => first | assumption | exact get_app (by assumption)); (case h3 => (show _ ≤ 2 ^ 24; simp only [List.length_append, List.length_cons, List.length_nil, List.length_map]; omega)))
  | ((with_reducible refine wo_isi (k := ?k) (b := ?b) ?h1 ?h2 ?_); (case h1 => first | exact rfl | exact kind_ref (by assumption)); (case h2 => walk_at "kb"))
  | ((with_reducible refine wo_len (xs := ?xs) ?h ?_); (case h => first | exact rfl | exact seq_ref (by assumption)))
  | ((with_reducible refine wo_ixL (xs := ?xs) (x := ?x) ?h1 ?h2 ?_); (case h1 => exact lst_ref (by assumption)); (case h2 => exact rfl))
  | ((with_reducible refine wo_tup ?h ?_); case h => (simp only [List.length_cons, List.length_nil]; decide)) | ((with_reducible refine wo_lst ?h ?_); case h => (simp only [List.length_cons, List.length_nil]; decide)))
local macro_rules | `(tactic| walk_at "go") => `(tactic| (repeat' walk_at "go2") <;> try dsimp only [List.set_cons_zero, List.set_cons_succ])

theorem w_yesE {Γ : En} {S : Sto} {QB : Bool → Sto → Prop} (q : QB true S) : Wp (mtYes Γ S) QB := q
theorem sp_y_key {S : Sto} {p : Int × Int} : Wp (m_y_key [ptV p] S) (fun v S' => v = ptV (yk p) ∧ S' = S) := by
  walk_at "fn"
  unfold b_y_key
  walk_at "go"
  exact ⟨rfl, rfl⟩
theorem sp_is_node {S : Sto} {p : Int × Int} {ch : Fin 4 → QT} (h : PtB p) : Wp (m_is_node [(QT.node p ch).va] S) (fun v S' => v = .bl true ∧ S' = S) := by
  show Wp (m_is_node [.tup [ptV p, .tup [(ch 0).va, (ch 1).va, (ch 2).va, (ch 3).va]]] S) _
  walk_at "fn"
  unfold b_is_node
  walk_at "go"
  · next h => exact absurd rfl h
  · refine (sp_is_point h).mono ?_
    rintro v S' ⟨rfl, rfl⟩
    walk_at "go"
    exact ⟨rfl, rfl⟩
def ksV (k : Ks) : Va := .tup [ptV k.x, ptV k.y, ptV k.x2, ptV k.y2]
theorem sp_narrowed {S : Sto} {k : Ks} {p : Int × Int} (j : Fin 4) : Wp (m_narrowed [ksV k, .tup [ptV p, ptV (yk p)], nv j.val] S) (fun v S' => v = ksV (k.nar p j) ∧ S' = S) := by
  unfold ksV
  match j with
  | 0 =>
    show Wp (m_narrowed [.tup [ptV k.x, ptV k.y, ptV k.x2, ptV k.y2], .tup [ptV p, ptV (yk p)], .int 0] S) _
    walk_at "fn"
    unfold b_narrowed
    walk_at "go"
    refine wo_inT2 ?_
    walk_at "go"
    refine wo_inT2 ?_
    walk_at "go"
    exact ⟨rfl, rfl⟩
  | 1 =>
    show Wp (m_narrowed [.tup [ptV k.x, ptV k.y, ptV k.x2, ptV k.y2], .tup [ptV p, ptV (yk p)], .int 1] S) _
    walk_at "fn"
    unfold b_narrowed
    walk_at "go"
    refine wo_inT2 ?_
    walk_at "go"
    refine wo_inT2 ?_
    walk_at "go"
    exact ⟨rfl, rfl⟩
  | 2 =>
    show Wp (m_narrowed [.tup [ptV k.x, ptV k.y, ptV k.x2, ptV k.y2], .tup [ptV p, ptV (yk p)], .int 2] S) _
    walk_at "fn"
    unfold b_narrowed
    walk_at "go"
    refine wo_inT2 ?_
    walk_at "go"
    refine wo_inT2 ?_
    walk_at "go"
    exact ⟨rfl, rfl⟩
  | 3 =>
    show Wp (m_narrowed [.tup [ptV k.x, ptV k.y, ptV k.x2, ptV k.y2], .tup [ptV p, ptV (yk p)], .int 3] S) _
    walk_at "fn"
    unfold b_narrowed
    walk_at "go"
    refine wo_inT2 ?_
    walk_at "go"
    refine wo_inT2 ?_
    walk_at "go"
    exact ⟨rfl, rfl⟩
/-! ### fault_of -/
structure Ent where
  t : QT
  pa : List Va
  k : Ks
def Ent.va (e : Ent) : Va := .tup [e.t.va, .tup e.pa, ksV e.k]
def Ent.ok (e : Ent) : Prop := InK e.t e.k ∧ BdQ e.t ∧ e.pa.length + e.t.ht ≤ 500
def esz (es : List Ent) : Nat := (es.map fun e => e.t.size).sum
def ewt (es : List Ent) : Nat := (es.map fun e => 2 * e.t.size + 1).sum
theorem esz_app (a b : List Ent) : esz (a ++ b) = esz a + esz b := by simp [esz]
theorem ewt_app (a b : List Ent) : ewt (a ++ b) = ewt a + ewt b := by simp [ewt]
/-- the parts that are put on the pile, in the order of their coming -/
def kidE (p : Int × Int) (ch : Fin 4 → QT) (pa : List Va) (k : Ks) (js : List (Fin 4)) : List Ent := (js.filter fun j => nonnil (ch j)).map fun j => ⟨ch j, pa ++ [nv j.val], k.nar p j⟩
abbrev back4 : List (Fin 4) := [3, 2, 1, 0]
theorem kidE_ok {p : Int × Int} {ch : Fin 4 → QT} {pa : List Va} {k : Ks} (h : Ent.ok ⟨.node p ch, pa, k⟩) (js : List (Fin 4)) : ∀ e ∈ kidE p ch pa k js, e.ok := by
  intro e he
  obtain ⟨j, _, rfl⟩ := List.mem_map.mp he
  obtain ⟨h1, h2, h3⟩ := h
  refine ⟨h1.2 j, h2.2 j, ?_⟩
  have := ht_child p ch j
  simp only [List.length_append, List.length_singleton] at h3 ⊢
  omega
theorem size_nil {t : QT} (h : ¬ nonnil t = true) : t.size = 0 := by
  cases t with
  | nil => rfl
  | node _ _ => exact absurd rfl h
theorem kidE_sz {p : Int × Int} {ch : Fin 4 → QT} {pa : List Va} {k : Ks} : ∀ js : List (Fin 4), esz (kidE p ch pa k js) = (js.map fun j => (ch j).size).sum
  | [] => rfl
  | j :: js => by
    have ih := kidE_sz (p := p) (ch := ch) (pa := pa) (k := k) js
    unfold kidE esz at *
    rw [List.filter_cons]
    by_cases hn : nonnil (ch j) = true
    · rw [if_pos hn]
      simp only [List.map_cons, List.sum_cons, ih]
    · rw [if_neg hn]
      have h0 : (ch j).size = 0 := size_nil hn
      simp only [List.map_cons, List.sum_cons, h0, Nat.zero_add, ih]
theorem kidE_wt {p : Int × Int} {ch : Fin 4 → QT} {pa : List Va} {k : Ks} : ∀ js : List (Fin 4), ewt (kidE p ch pa k js) ≤ 2 * (js.map fun j => (ch j).size).sum + js.length
  | [] => by simp [kidE, ewt]
  | j :: js => by
    have ih := kidE_wt (p := p) (ch := ch) (pa := pa) (k := k) js
    unfold kidE ewt at *
    rw [List.filter_cons]
    by_cases hn : nonnil (ch j) = true
    · rw [if_pos hn]
      simp only [List.map_cons, List.sum_cons, List.length_cons]
      omega
    · rw [if_neg hn]
      have h0 : (ch j).size = 0 := size_nil hn
      simp only [List.map_cons, List.sum_cons, List.length_cons, h0]
      omega
theorem kidE_len {p : Int × Int} {ch : Fin 4 → QT} {pa : List Va} {k : Ks} (js : List (Fin 4)) : (kidE p ch pa k js).length ≤ js.length := by
  unfold kidE
  rw [List.length_map]
  exact List.length_filter_le ..
theorem esz_ge : ∀ es : List Ent, (∀ e ∈ es, e.t ≠ .nil) → es.length ≤ esz es
  | [], _ => Nat.le_refl _
  | e :: es, h => by
    have ih := esz_ge es fun x hx => h x (List.mem_cons_of_mem _ hx)
    have h1 : 1 ≤ e.t.size := by
      have := h e (List.mem_cons_self ..)
      cases he : e.t with
      | nil => exact absurd he this
      | node _ _ => simp only [QT.size]; omega
    unfold esz at *
    simp only [List.map_cons, List.sum_cons, List.length_cons]
    omega
theorem part_at (ch : Fin 4 → QT) (j : Fin 4) {S : Sto} {Q : Va → Sto → Prop} (q : Q (ch j).va S) : Wo (fIx (.tup [(ch 0).va, (ch 1).va, (ch 2).va, (ch 3).va]) (nv j.val) S) Q := by
  match j with
  | 0 => exact wo_ixT (x := (ch 0).va) rfl q
  | 1 => exact wo_ixT (x := (ch 1).va) rfl q
  | 2 => exact wo_ixT (x := (ch 2).va) rfl q
  | 3 => exact wo_ixT (x := (ch 3).va) rfl q
theorem non_va (t : QT) : isNonV t.va = !nonnil t := by cases t <;> rfl
theorem tru_lst {S : Sto} {n : Nat} {xs : List Va} (h : S[n]? = some (.lst xs)) : tru S (.ref n) = some (!xs.isEmpty) := by
  show (match S[n]? with
      | some (Ob.lst xs) => some (!xs.isEmpty)
      | some (Ob.raw (HO.dK kvs)) => some (!kvs.isEmpty)
      | some (Ob.dct kvs) => some (!kvs.isEmpty)
      | _ => none) = _
  rw [h]
def mnS (Γ : En) : Nat := match Γ[1]? with
  | some (some (Va.int a)) => a.toNat
  | _ => 0
def wtS (L : Nat) (S : Sto) : Nat := match S[L]? with
  | some (.lst xs) => xs.length
  | _ => 0
end PM

namespace PM
open PySem PySem.Spec PyProof.Rows L2 Q2
local macro_rules | `(tactic| walk_at "fn") => `(tactic| (first | refine w_fn1 ?_ | refine w_fn2 ?_ | refine w_fn3 ?_ | refine w_fn4 ?_ | refine w_fn5 ?_ | refine w_fn6 ?_); dsimp only [List.replicate])
local macro_rules | `(tactic| walk_at "kb") => `(tactic| with_reducible first | exact kb_int_int | exact kb_int_bool | exact kb_int_str | exact kb_int_list | exact kb_int_tuple | exact kb_bool_int | exact kb_bool_bool | exact kb_bool_str | exact kb_bool_list | exact kb_bool_tuple | exact kb_str_int | exact kb_str_bool | exact kb_str_str | exact kb_str_list | exact kb_str_tuple | exact kb_list_int | exact kb_list_bool | exact kb_list_str | exact kb_list_list | exact kb_list_tuple | exact kb_tuple_int | exact kb_tuple_bool | exact kb_tuple_str | exact kb_tuple_list | exact kb_tuple_tuple | exact kb_NoneType_int | exact kb_NoneType_bool | exact kb_NoneType_str | exact kb_NoneType_list | exact kb_NoneType_tuple)
local macro_rules | `(tactic| walk_at "go1") => `(tactic| first
  | ((with_reducible refine w_var (v := ?v) ?h ?_); case h => exact rfl)
  | with_reducible first
  | refine w_c ?_ | refine w_m2 ?_ | refine w_m1 ?_ | refine w_maC ?_ | refine w_maN ?_ | refine w_mL ?_ | refine w_call ?_
  | refine w_mtOf ?_ | refine w_mtNot ?_ | refine w_mtAnd ?_ | refine w_mtOr ?_ | refine w_meAnd ?_ | refine w_meOr ?_ | refine w_mNot ?_
  | refine ws_seq ?_ | (refine ws_set ?_) | refine ws_ret ?_ | refine ws_if ?_ | refine ws_expr ?_ | refine ws_nil ?_ | refine ws_asg ?_
  | refine wo_int ?_ | refine wo_add ?_ | refine wo_addI ?_ | refine wo_sub ?_ | refine wo_lt ?_ | refine wo_le ?_ | refine wo_gt ?_ | refine wo_ge ?_
  | refine wo_max2 ?_ | refine wo_min2 ?_ | refine wo_abs ?_ | refine wo_neg ?_ | refine wo_eqI ?_ | refine wo_neI ?_ | refine wo_intB ?_ | refine wo_ixT rfl ?_ | refine ws_brk ?_ | refine ws_cnt ?_ | refine w_if ?_ | refine ws_par ?_ | refine ws_par3 ?_ | (refine ⟨_, _, rfl, ?_⟩) | (refine ⟨_, _, _, rfl, ?_⟩) | refine w_isN ?_ | refine w_notN ?_ | refine ite_t ?_ | refine ite_f ?_ | refine ite_nt ?_ | refine ite_nf ?_ | refine w_chain ?_ | refine w_isiT ?_ | refine wg_sub ?_ | (refine ⟨_, rfl, ?_⟩) | refine wg_v ?_ | refine wg_c ?_ | refine wg_n ?_ | refine w_sl ?_ | refine w_optS ?_ | refine w_optN ?_ | refine wo_sl31 ?_)
local macro_rules | `(tactic| walk_at "go2") => `(tactic| first
  | walk_at "go1"
  | ((with_reducible refine wo_mod ?h ?_); case h => omega) | ((with_reducible refine wo_div ?h ?_); case h => omega) | ((with_reducible refine wo_mul_l ?h ?_); case h => omega) | ((with_reducible refine wo_mul_r ?h ?_); case h => omega)
  | ((with_reducible refine wo_shr ?h ?_); case h => omega) | ((with_reducible refine wo_shl ?h ?_); case h => omega) | ((with_reducible refine wo_pow ?h ?_); case h => omega)
  | ((with_reducible refine ite_d ?a ?b); (case b => exact fun h => absurd (by omega) h); intro _)
  | ((with_reducible refine ite_d ?a ?b); (case a => exact fun h => absurd h (by omega)); intro _)
  | ((with_reducible refine ite_d ?a ?b) <;> intro _)
  | ((with_reducible refine ⟨_, _, ?xs, ?j, rfl, rfl, ?h, ?e, ?_⟩); (case h => assumption); (case e => exact rfl))
  | ((with_reducible refine ite_nd ?a ?b); (case b => exact fun h => absurd h (by omega)); intro _)
  | ((with_reducible refine ite_nd ?a ?b); (case a => exact fun h => absurd (by omega) h); intro _)
  | ((with_reducible refine ite_nd ?a ?b) <;> intro _)
  | ((with_reducible refine wg_t ?h ?_); case h => exact rfl)
  | ((with_reducible refine wo_addL (xs := ?xs) (ys := ?ys) (lst_ref ?h1) (lst_ref ?h2) ?h3 ?_); (case h1 => first | assumption | exact get_app (by assumption)); (case h2 => first | assumption | exact get_app (by assumption)); (case h3 => (show _ ≤ 2 ^ 24; simp only [List.length_append, List.length_cons, List.length_nil, List.length_map]; omega)))
  | ((with_reducible refine wo_isi (k := ?k) (b := ?b) ?h1 ?h2 ?_); (case h1 => first | exact rfl | exact kind_ref (by assumption)); (case h2 => walk_at "kb"))
  | ((with_reducible refine wo_len (xs := ?xs) ?h ?_); (case h => first | exact rfl | exact seq_ref (by assumption)))
  | ((with_reducible refine wo_ixL (xs := ?xs) (x := ?x) ?h1 ?h2 ?_); (case h1 => exact lst_ref (by assumption)); (case h2 => exact rfl))
  | ((with_reducible refine wo_tup ?h ?_); case h => (simp only [List.length_cons, List.length_nil]; decide)) | ((with_reducible refine wo_lst ?h ?_); case h => (simp only [List.length_cons, List.length_nil]; decide)))
local macro_rules | `(tactic| walk_at "go") => `(tactic| (repeat' walk_at "go2") <;> try dsimp only [List.set_cons_zero, List.set_cons_succ])

theorem node_va (p : Int × Int) (ch : Fin 4 → QT) : (QT.node p ch).va = .tup [ptV p, .tup [(ch 0).va, (ch 1).va, (ch 2).va, (ch 3).va]] := rfl
theorem kid_next {p : Int × Int} {ch : Fin 4 → QT} {pa : List Va} {k : Ks} {i : Nat} {j : Fin 4} (h : back4[i]? = some j) : kidE p ch pa k (back4.take (i + 1)) = kidE p ch pa k (back4.take i) ++ (if nonnil (ch j) = true then [⟨ch j, pa ++ [nv j.val], k.nar p j⟩] else []) := by
  rw [take_at h]
  unfold kidE
  rw [List.filter_append, List.map_append]
  by_cases e : nonnil (ch j) = true
  · rw [if_pos e]; simp [e]
  · rw [if_neg e]; simp [e]
theorem sp_fault {S : Sto} {T : QT} (hk : InK T K31) (hb : BdQ T) (hs : T.size ≤ 500) : Wp (m_fault_of [T.va] S) (fun v S' => v = .non ∧ Lo S S') := by
  walk_at "fn"
  unfold b_fault_of
  walk_at "go"
  refine ws_while (fun Γ S' => ∃ (es : List Ent) (mn : Nat) (z3 z4 z5 z6 z7 z8 z9 z10 z11 z12 z13 : Option Va), Γ = [some T.va, some (nv mn), some (.ref S.length), z3, z4, z5, z6, z7, z8, z9, z10, z11, z12, z13] ∧ Lo S S' ∧ S'[S.length]? = some (.lst (es.map Ent.va)) ∧ (∀ e ∈ es, e.ok) ∧ mn + esz es = T.size ∧ es.length ≤ 4 * mn + 1) (fun Γ S' => 5 * (501 - mnS Γ) + wtS S.length S') ?_ ?_ ?_
  · refine ⟨[⟨T, [], K31⟩], 0, none, none, none, none, none, none, none, none, none, none, none, rfl, Lo.app _ _, get_last, ?_, by simp [esz], by simp⟩
    intro e he
    rw [List.mem_singleton.mp he]
    exact ⟨hk, hb, by have := ht_size T; simp only [List.length_nil]; omega⟩
  · have e : wtS S.length (S ++ [Ob.lst [Va.tup [T.va, Va.tup [], v_ALL_KEYS]]]) = 1 := by
      unfold wtS
      rw [get_last]
      rfl
    rw [e]
    show 5 * (501 - _) + 1 < 1000000
    omega
  · rintro Γ S' ⟨es, mn, z3, z4, z5, z6, z7, z8, z9, z10, z11, z12, z13, rfl, l, hP, hE, hN, hL⟩
    have hw0 : wtS S.length S' = es.length := by
      unfold wtS
      rw [hP]
      exact List.length_map ..
    refine w_mtTru ?_
    walk_at "go"
    refine ⟨_, tru_lst hP, ?_⟩
    rcases List.eq_nil_or_concat es with rfl | ⟨es', e, rfl⟩
    · refine ite_f ?_
      walk_at "go"
      exact ⟨rfl, l⟩
    · rw [List.concat_eq_append] at hP hE hN hL hw0 ⊢
      have emp : (!((es' ++ [e]).map Ent.va).isEmpty) = true := by simp
      rw [emp]
      refine ite_t ?_
      rw [esz_app] at hN
      rw [List.length_append, List.length_singleton] at hL hw0
      obtain ⟨t, pa, k⟩ := e
      have ho := hE ⟨t, pa, k⟩ (by simp)
      have hE' : ∀ e ∈ es', e.ok := fun e he => hE e (List.mem_append.mpr (.inl he))
      have hs1 : esz [(⟨t, pa, k⟩ : Ent)] = t.size := by simp [esz]
      rw [hs1] at hN
      refine ws_seq (ws_asg (w_pop ?_))
      walk_at "go"
      refine ⟨S.length, _, Ent.va ⟨t, pa, k⟩, rfl, hP, by simp, ?_⟩
      have hd : ((es' ++ [(⟨t, pa, k⟩ : Ent)]).map Ent.va).dropLast = es'.map Ent.va := by simp
      rw [hd]
      have l5 : Lo S (S'.set S.length (.lst (es'.map Ent.va))) := l.set (Nat.le_refl _) _
      have hP5 : (S'.set S.length (.lst (es'.map Ent.va)))[S.length]? = some (.lst (es'.map Ent.va)) := get_set hP
      generalize S'.set S.length (.lst (es'.map Ent.va)) = S5 at l5 hP5 ⊢
      have hw5 : wtS S.length S5 = es'.length := by
        unfold wtS
        rw [hP5]
        exact List.length_map ..
      show Wp (gT 3 (gsC (gV 3) (gsC (gV 4) (gsC (gV 5) gsN))) (.tup [t.va, .tup pa, ksV k]) _ _) _
      walk_at "go"
      cases t with
      | nil =>
        refine ite_t ?_
        walk_at "go"
        refine ⟨⟨es', mn, _, _, _, _, _, _, _, _, _, _, _, rfl, l5, hP5, hE', by simpa [QT.size] using hN, by omega⟩, ?_⟩
        rw [hw0, hw5]
        show 5 * (501 - mn) + _ < 5 * (501 - mn) + _
        omega
      | node p ch =>
        refine ite_f ?_
        obtain ⟨o1, o2, o3⟩ := ho
        have hsz : (QT.node p ch).size = 1 + ((ch 0).size + (ch 1).size + (ch 2).size + (ch 3).size) := rfl
        have hpB : PtB p := o2.1
        obtain ⟨c1, c2, c3, c4⟩ : k.has p := o1.1
        walk_at "go"
        refine ws_aug rfl ?_
        walk_at "go"
        refine (sp_is_node hpB).mono ?_
        rintro w S2 ⟨rfl, rfl⟩
        walk_at "go"
        rw [node_va]
        walk_at "go"
        refine sp_y_key.mono ?_
        rintro w S3 ⟨rfl, rfl⟩
        walk_at "go"
        unfold ksV
        walk_at "go"
        refine wo_ltE ?_
        refine ⟨_, rfl, ?_⟩
        rw [show lt2 (k.x.fst, k.x.snd) (p.fst, p.snd) = true from c1]
        refine ite_t ?_
        walk_at "go"
        refine wo_ltE ?_
        refine ⟨_, rfl, ?_⟩
        rw [show lt2 (p.fst, p.snd) (k.x2.fst, k.x2.snd) = true from c2]
        refine ite_nt ?_
        walk_at "go"
        refine wo_ltE ?_
        refine ⟨_, rfl, ?_⟩
        rw [show lt2 (k.y.fst, k.y.snd) ((yk p).fst, (yk p).snd) = true from c3]
        refine ite_t ?_
        walk_at "go"
        refine wo_ltE ?_
        refine ⟨_, rfl, ?_⟩
        rw [show lt2 ((yk p).fst, (yk p).snd) (k.y2.fst, k.y2.snd) = true from c4]
        refine ite_nt ?_
        walk_at "go"
        have hkk : Ent.ok ⟨.node p ch, pa, k⟩ := ⟨o1, o2, o3⟩
        refine ws_forW v_LAST_PART_FIRST [.int 3, .int 2, .int 1, .int 0] (fun i Γ S' => ∃ z13, Γ = [some T.va, some (.int ((mn : Int) + 1)), some (.ref S.length), some (.tup [ptV p, .tup [(ch 0).va, (ch 1).va, (ch 2).va, (ch 3).va]]), some (.tup pa), some (ksV k), some (ptV p), some (.tup [(ch 0).va, (ch 1).va, (ch 2).va, (ch 3).va]), some (.tup [ptV p, ptV (yk p)]), some (ptV k.x), some (ptV k.y), some (ptV k.x2), some (ptV k.y2), z13] ∧ Lo S S' ∧ S'[S.length]? = some (.lst ((es' ++ kidE p ch pa k (back4.take i)).map Ent.va))) ?_ (fun i Γ S' h => .inr (.inl rfl)) ?_ ?_
        · walk_at "go"
          refine ⟨rfl, z13, rfl, l5, ?_⟩
          simpa [kidE] using hP5
        · rintro i x Γ S' hx ⟨y13, rfl, l6, hP6⟩
          obtain ⟨j, hj, rfl⟩ := map_at (f := fun j : Fin 4 => nv j.val) (l := back4) hx
          have hi : i < 4 := (List.getElem?_eq_some_iff.mp hj).1
          have hnx := kid_next (p := p) (ch := ch) (pa := pa) (k := k) hj
          have hlen := kidE_len (p := p) (ch := ch) (pa := pa) (k := k) (back4.take i)
          rw [List.length_take] at hlen
          have h4 : back4.length = 4 := rfl
          walk_at "go"
          refine part_at ch j ?_
          walk_at "go"
          rw [non_va]
          by_cases e : nonnil (ch j) = true
          · rw [e]
            rw [if_pos e] at hnx
            refine ite_t ?_
            walk_at "go"
            refine w_app ?_
            walk_at "go"
            refine ⟨_, _, rfl, hP6, ?_⟩
            walk_at "go"
            refine part_at ch j ?_
            walk_at "go"
            refine wo_addE (by simp only [List.length_singleton]; show _ ≤ 2 ^ 24; have o3 : pa.length + (QT.node p ch).ht ≤ 500 := o3; omega) ?_
            walk_at "go"
            refine (sp_narrowed j).mono ?_
            rintro w S7 ⟨rfl, rfl⟩
            walk_at "go"
            refine ⟨_, _, rfl, hP6, ?_, some (nv j.val), rfl, l6.set (Nat.le_refl _) _, ?_⟩
            · rw [List.length_map, List.length_append]
              show _ < 2 ^ 24
              omega
            · rw [get_set hP6, hnx, ← List.append_assoc, List.map_append (l₂ := [_])]
              rfl
          · rw [if_neg e, List.append_nil] at hnx
            have e' : nonnil (ch j) = false := by simpa using e
            rw [e']
            refine ite_f ?_
            walk_at "go"
            refine ⟨l6, ?_⟩
            rw [hnx]
            exact hP6
        · rintro Γ S' ⟨y13, rfl, l6, hP6⟩
          have hwk := kidE_len (p := p) (ch := ch) (pa := pa) (k := k) back4
          have h4 : back4.length = 4 := rfl
          have hsk := kidE_sz (p := p) (ch := ch) (pa := pa) (k := k) back4
          simp only [List.map_cons, List.map_nil, List.sum_cons, List.sum_nil] at hsk
          have hP6 : S'[S.length]? = some (.lst ((es' ++ kidE p ch pa k back4).map Ent.va)) := hP6
          have hw6 : wtS S.length S' = es'.length + (kidE p ch pa k back4).length := by
            unfold wtS
            rw [hP6]
            show (List.map Ent.va _).length = _
            rw [List.length_map, List.length_append]
          refine ⟨⟨es' ++ kidE p ch pa k back4, mn + 1, _, _, _, _, _, _, _, _, _, _, _, rfl, l6, hP6, ?_, ?_, ?_⟩, ?_⟩
          · intro e he
            rcases List.mem_append.mp he with he | he
            · exact hE' e he
            · exact kidE_ok hkk _ e he
          · rw [esz_app, hsk]
            omega
          · rw [List.length_append]
            omega
          · rw [hw0, hw6]
            show 5 * (501 - ((mn : Int) + 1).toNat) + _ < 5 * (501 - ((mn : Int)).toNat) + _
            omega
end PM

namespace PM
open PySem PySem.Spec PyProof.Rows L2 Q2
local macro_rules | `(tactic| walk_at "fn") => `(tactic| (first | refine w_fn1 ?_ | refine w_fn2 ?_ | refine w_fn3 ?_ | refine w_fn4 ?_ | refine w_fn5 ?_ | refine w_fn6 ?_); dsimp only [List.replicate])
local macro_rules | `(tactic| walk_at "kb") => `(tactic| with_reducible first | exact kb_int_int | exact kb_int_bool | exact kb_int_str | exact kb_int_list | exact kb_int_tuple | exact kb_bool_int | exact kb_bool_bool | exact kb_bool_str | exact kb_bool_list | exact kb_bool_tuple | exact kb_str_int | exact kb_str_bool | exact kb_str_str | exact kb_str_list | exact kb_str_tuple | exact kb_list_int | exact kb_list_bool | exact kb_list_str | exact kb_list_list | exact kb_list_tuple | exact kb_tuple_int | exact kb_tuple_bool | exact kb_tuple_str | exact kb_tuple_list | exact kb_tuple_tuple | exact kb_NoneType_int | exact kb_NoneType_bool | exact kb_NoneType_str | exact kb_NoneType_list | exact kb_NoneType_tuple)
local macro_rules | `(tactic| walk_at "go1") => `(tactic| first
  | ((with_reducible refine w_var (v := ?v) ?h ?_); case h => exact rfl)
  | with_reducible first
  | refine w_c ?_ | refine w_m2 ?_ | refine w_m1 ?_ | refine w_maC ?_ | refine w_maN ?_ | refine w_mL ?_ | refine w_call ?_
  | refine w_mtOf ?_ | refine w_mtNot ?_ | refine w_mtAnd ?_ | refine w_mtOr ?_ | refine w_meAnd ?_ | refine w_meOr ?_ | refine w_mNot ?_
  | refine ws_seq ?_ | (refine ws_set ?_) | refine ws_ret ?_ | refine ws_if ?_ | refine ws_expr ?_ | refine ws_nil ?_ | refine ws_asg ?_
  | refine wo_int ?_ | refine wo_add ?_ | refine wo_addI ?_ | refine wo_sub ?_ | refine wo_lt ?_ | refine wo_le ?_ | refine wo_gt ?_ | refine wo_ge ?_
  | refine wo_max2 ?_ | refine wo_min2 ?_ | refine wo_abs ?_ | refine wo_neg ?_ | refine wo_eqI ?_ | refine wo_neI ?_ | refine wo_intB ?_ | refine wo_ixT rfl ?_ | refine ws_brk ?_ | refine ws_cnt ?_ | refine w_if ?_ | refine ws_par ?_ | refine ws_par3 ?_ | (refine ⟨_, _, rfl, ?_⟩) | (refine ⟨_, _, _, rfl, ?_⟩) | refine w_isN ?_ | refine w_notN ?_ | refine ite_t ?_ | refine ite_f ?_ | refine ite_nt ?_ | refine ite_nf ?_ | refine w_chain ?_ | refine w_isiT ?_ | refine wg_sub ?_ | (refine ⟨_, rfl, ?_⟩) | refine wg_v ?_ | refine wg_c ?_ | refine wg_n ?_ | refine w_sl ?_ | refine w_optS ?_ | refine w_optN ?_ | refine wo_sl31 ?_)
local macro_rules | `(tactic| walk_at "go2") => `(tactic| first
  | walk_at "go1"
  | ((with_reducible refine wo_mod ?h ?_); case h => omega) | ((with_reducible refine wo_div ?h ?_); case h => omega) | ((with_reducible refine wo_mul_l ?h ?_); case h => omega) | ((with_reducible refine wo_mul_r ?h ?_); case h => omega)
  | ((with_reducible refine wo_shr ?h ?_); case h => omega) | ((with_reducible refine wo_shl ?h ?_); case h => omega) | ((with_reducible refine wo_pow ?h ?_); case h => omega)
  | ((with_reducible refine ite_d ?a ?b); (case b => exact fun h => absurd (by omega) h); intro _)
  | ((with_reducible refine ite_d ?a ?b); (case a => exact fun h => absurd h (by omega)); intro _)
  | ((with_reducible refine ite_d ?a ?b) <;> intro _)
  | ((with_reducible refine ⟨_, _, ?xs, ?j, rfl, rfl, ?h, ?e, ?_⟩); (case h => assumption); (case e => exact rfl))
  | ((with_reducible refine ite_nd ?a ?b); (case b => exact fun h => absurd h (by omega)); intro _)
  | ((with_reducible refine ite_nd ?a ?b); (case a => exact fun h => absurd (by omega) h); intro _)
  | ((with_reducible refine ite_nd ?a ?b) <;> intro _)
  | ((with_reducible refine wg_t ?h ?_); case h => exact rfl)
  | ((with_reducible refine wo_addL (xs := ?xs) (ys := ?ys) (lst_ref ?h1) (lst_ref ?h2) ?h3 ?_); (case h1 => first | assumption | exact get_app (by assumption)); (case h2 => first | assumption | exact get_app (by assumption)); (case h3 => (show _ ≤ 2 ^ 24; simp only [List.length_append, List.length_cons, List.length_nil, List.length_map]; omega)))
  | ((with_reducible refine wo_isi (k := ?k) (b := ?b) ?h1 ?h2 ?_); (case h1 => first | exact rfl | exact kind_ref (by assumption)); (case h2 => walk_at "kb"))
  | ((with_reducible refine wo_len (xs := ?xs) ?h ?_); (case h => first | exact rfl | exact seq_ref (by assumption)))
  | ((with_reducible refine wo_ixL (xs := ?xs) (x := ?x) ?h1 ?h2 ?_); (case h1 => exact lst_ref (by assumption)); (case h2 => exact rfl))
  | ((with_reducible refine wo_tup ?h ?_); case h => (simp only [List.length_cons, List.length_nil]; decide)) | ((with_reducible refine wo_lst ?h ?_); case h => (simp only [List.length_cons, List.length_nil]; decide)))
local macro_rules | `(tactic| walk_at "go") => `(tactic| (repeat' walk_at "go2") <;> try dsimp only [List.set_cons_zero, List.set_cons_succ])

def nodesQ : QT → List QT
  | .nil => []
  | .node p ch => .node p ch :: (nodesQ (ch 0) ++ (nodesQ (ch 1) ++ (nodesQ (ch 2) ++ nodesQ (ch 3))))
def rootQ : QT → Int × Int
  | .nil => (0, 0)
  | .node p _ => p
theorem nodes_pts : ∀ T : QT, (nodesQ T).map rootQ = ptsQ T
  | .nil => rfl
  | .node p ch => by
    simp only [nodesQ, ptsQ, List.map_cons, List.map_append, nodes_pts (ch 0), nodes_pts (ch 1), nodes_pts (ch 2), nodes_pts (ch 3), rootQ]
theorem nodes_node : ∀ (T : QT), ∀ t ∈ nodesQ T, ∃ p ch, t = .node p ch
  | .nil, t, h => by simp [nodesQ] at h
  | .node p ch, t, h => by
    simp only [nodesQ, List.mem_cons, List.mem_append] at h
    rcases h with rfl | h | h | h | h
    · exact ⟨p, ch, rfl⟩
    · exact nodes_node (ch 0) t h
    · exact nodes_node (ch 1) t h
    · exact nodes_node (ch 2) t h
    · exact nodes_node (ch 3) t h
theorem nodes_len (T : QT) : (nodesQ T).length = T.size := by
  have h := congrArg List.length (nodes_pts T)
  rw [List.length_map, ptsQ_len] at h
  exact h
def qsz (es : List QT) : Nat := (es.map QT.size).sum
theorem qsz_app (a b : List QT) : qsz (a ++ b) = qsz a + qsz b := by simp [qsz]
theorem wt_eq {L : Nat} {S : Sto} {es : List QT} (h : S[L]? = some (.lst (es.map QT.va))) : wtS L S = es.length := by
  unfold wtS
  rw [h]
  exact List.length_map ..
theorem sp_nodes {S : Sto} {T : QT} (hs : T.size ≤ 500) : Wp (m_nodes_of [T.va] S) (fun v S' => ∃ j, v = .ref j ∧ S'[j]? = some (.lst ((nodesQ T).map QT.va)) ∧ S.length ≤ j ∧ Lo S S') := by
  walk_at "fn"
  unfold b_nodes_of
  walk_at "go"
  have l0 : Lo S (S ++ [Ob.lst []] ++ [Ob.lst [T.va]]) := (Lo.app _ _).trans (Lo.app _ _)
  have h0 : (S ++ [Ob.lst []] ++ [Ob.lst [T.va]])[S.length]? = some (.lst []) := get_app get_last
  have h1 : (S ++ [Ob.lst []] ++ [Ob.lst [T.va]])[(S ++ [Ob.lst []]).length]? = some (.lst [T.va]) := get_last
  have hL : (S ++ [Ob.lst []]).length = S.length + 1 := by simp
  rw [hL] at h1 ⊢
  generalize S ++ [Ob.lst []] ++ [Ob.lst [T.va]] = S1 at l0 h0 h1 ⊢
  refine ws_while (fun Γ S' => ∃ (es ns : List QT) (z3 : Option Va), Γ = [some T.va, some (.ref S.length), some (.ref (S.length + 1)), z3] ∧ Lo S S' ∧ S'[S.length]? = some (.lst (ns.map QT.va)) ∧ S'[S.length + 1]? = some (.lst (es.map QT.va)) ∧ ns ++ es.reverse.flatMap nodesQ = nodesQ T ∧ ns.length + qsz es = T.size ∧ es.length ≤ 4 * ns.length + 1) (fun _ S' => 5 * (501 - wtS S.length S') + wtS (S.length + 1) S') ?_ ?_ ?_
  · exact ⟨[T], [], none, rfl, l0, h0, h1, by simp, by simp [qsz], by simp⟩
  · have e1 : wtS (S.length + 1) S1 = 1 := wt_eq (es := [T]) h1
    rw [e1]
    omega
  · rintro Γ S' ⟨es, ns, z3, rfl, l, hN, hP, hall, hcnt, hlen⟩
    have w1 := wt_eq hN
    have w2 := wt_eq hP
    refine w_mtTru ?_
    walk_at "go"
    refine ⟨_, tru_lst hP, ?_⟩
    rcases List.eq_nil_or_concat es with rfl | ⟨es', t, rfl⟩
    · refine ite_f ?_
      walk_at "go"
      rw [List.reverse_nil, List.flatMap_nil, List.append_nil] at hall
      rw [← hall]
      exact ⟨hN, Nat.le_refl _, l⟩
    · rw [List.concat_eq_append] at hP hall hcnt hlen w2 ⊢
      have emp : (!((es' ++ [t]).map QT.va).isEmpty) = true := by simp
      rw [emp]
      refine ite_t ?_
      rw [qsz_app] at hcnt
      rw [List.length_append, List.length_singleton] at hlen w2
      have hs1 : qsz [t] = t.size := by simp [qsz]
      rw [hs1] at hcnt
      rw [List.reverse_append, List.flatMap_append] at hall
      have hr1 : ([t].reverse.flatMap nodesQ) = nodesQ t := by simp
      rw [hr1] at hall
      refine ws_seq (ws_set (w_pop ?_))
      walk_at "go"
      refine ⟨S.length + 1, _, t.va, rfl, hP, by simp, ?_⟩
      have hd : ((es' ++ [t]).map QT.va).dropLast = es'.map QT.va := by simp
      rw [hd]
      have l5 : Lo S (S'.set (S.length + 1) (.lst (es'.map QT.va))) := l.set (by omega) _
      have hP5 : (S'.set (S.length + 1) (.lst (es'.map QT.va)))[S.length + 1]? = some (.lst (es'.map QT.va)) := get_set hP
      have hN5 : (S'.set (S.length + 1) (.lst (es'.map QT.va)))[S.length]? = some (.lst (ns.map QT.va)) := get_ne (by omega) hN
      generalize S'.set (S.length + 1) (.lst (es'.map QT.va)) = S5 at l5 hP5 hN5 ⊢
      have w3 := wt_eq hN5
      have w4 := wt_eq hP5
      walk_at "go"
      rw [non_va]
      cases t with
      | nil =>
        refine ite_f ?_
        walk_at "go"
        refine ⟨⟨es', ns, _, rfl, l5, hN5, hP5, by simpa [nodesQ] using hall, by simpa [QT.size] using hcnt, by omega⟩, ?_⟩
        rw [w1, w2, w3, w4]
        omega
      | node p ch =>
        refine ite_t ?_
        have hsz : (QT.node p ch).size = 1 + ((ch 0).size + (ch 1).size + (ch 2).size + (ch 3).size) := rfl
        walk_at "go"
        refine w_app ?_
        walk_at "go"
        refine ⟨_, _, rfl, hN5, ?_⟩
        walk_at "go"
        refine ⟨_, _, rfl, hN5, by rw [List.length_map]; show _ < 2 ^ 24; omega, ?_⟩
        have hN6 : (S5.set S.length (.lst (ns.map QT.va ++ [(QT.node p ch).va])))[S.length]? = some (.lst ((ns ++ [QT.node p ch]).map QT.va)) := by rw [get_set hN5, List.map_append]; rfl
        have hP6 : (S5.set S.length (.lst (ns.map QT.va ++ [(QT.node p ch).va])))[S.length + 1]? = some (.lst (es'.map QT.va)) := get_ne (by omega) hP5
        have l6 : Lo S (S5.set S.length (.lst (ns.map QT.va ++ [(QT.node p ch).va]))) := l5.set (Nat.le_refl _) _
        generalize S5.set S.length (.lst (ns.map QT.va ++ [(QT.node p ch).va])) = S6 at hN6 hP6 l6 ⊢
        walk_at "go"
        refine w_extT ?_
        walk_at "go"
        refine ⟨_, _, rfl, hP6, ?_⟩
        walk_at "go"
        refine w_revT4 ?_
        rw [node_va]
        walk_at "go"
        refine ⟨_, _, _, _, rfl, ?_⟩
        walk_at "go"
        have eV : es'.map QT.va ++ [(ch 3).va, (ch 2).va, (ch 1).va, (ch 0).va] = (es' ++ [ch 3, ch 2, ch 1, ch 0]).map QT.va := by simp
        refine ⟨_, _, rfl, hP6, by rw [List.length_map]; show _ + 4 ≤ 2 ^ 24; omega, ?_⟩
        rw [eV]
        have l7 : Lo S (S6.set (S.length + 1) (.lst ((es' ++ [ch 3, ch 2, ch 1, ch 0]).map QT.va))) := l6.set (by omega) _
        have hN7 : (S6.set (S.length + 1) (.lst ((es' ++ [ch 3, ch 2, ch 1, ch 0]).map QT.va)))[S.length]? = some (.lst ((ns ++ [QT.node p ch]).map QT.va)) := get_ne (by omega) hN6
        have hP7 : (S6.set (S.length + 1) (.lst ((es' ++ [ch 3, ch 2, ch 1, ch 0]).map QT.va)))[S.length + 1]? = some (.lst ((es' ++ [ch 3, ch 2, ch 1, ch 0]).map QT.va)) := get_set hP6
        have hq4 : qsz [ch 3, ch 2, ch 1, ch 0] = (ch 0).size + (ch 1).size + (ch 2).size + (ch 3).size := by simp only [qsz, List.map_cons, List.map_nil, List.sum_cons, List.sum_nil]; omega
        refine ⟨⟨es' ++ [ch 3, ch 2, ch 1, ch 0], ns ++ [.node p ch], _, rfl, l7, hN7, hP7, ?_, ?_, ?_⟩, ?_⟩
        · rw [← hall]
          simp [nodesQ, List.flatMap_append]
        · rw [List.length_append, List.length_singleton, qsz_app, hq4]
          omega
        · rw [List.length_append, List.length_append]
          simp only [List.length_cons, List.length_nil]
          omega
        · rw [w1, w2, wt_eq hN7, wt_eq hP7, List.length_append, List.length_append]
          simp only [List.length_cons, List.length_nil]
          omega
theorem w_lcX {Γ : En} {S : Sto} {Q : Va → Sto → Prop} {m : ME} {g : MG} {mt : MT} {me : ME} {vs : List Nat} (h : Wp (m Γ S) fun w S1 => ∃ (xs : List Va) (Inv : Nat → List Va → Sto → Prop), xs.length < sizeLine ∧ Inv 0 [] S1 ∧ (∀ i acc S, Inv i acc S → IsSeq S w xs) ∧
    (∀ i x acc S, xs[i]? = some x → Inv i acc S → Wp (g x (wipeE Γ vs) S) fun Γ1 S1 => Wp (mt Γ1 S1) fun k S2 => if k = true then Wp (me Γ1 S2) fun y S3 => Inv (i + 1) (acc ++ [y]) S3 else Inv (i + 1) acc S2) ∧ ∀ acc S, Inv xs.length acc S → Q (.ref S.length) (S ++ [.lst acc])) : Wp (mLc (mWalk m) g mt me vs Γ S) Q := by
  obtain ⟨w, S1, e, xs, Inv, h0, h1, h2, h3, h4⟩ := h.get
  exact w_lcW w xs Inv h0 (Wp.eq e ⟨rfl, h1⟩) h2 h3 h4
theorem ws_forX {Γ : En} {S : Sto} {P : Po} {m : ME} {g : MG} {b : MS} (h : Wp (m Γ S) fun w S1 => ∃ (xs : List Va) (Inv : Nat → En → Sto → Prop), Inv 0 Γ S1 ∧ (∀ i Γ S, Inv i Γ S → IsSeq S w xs) ∧ (∀ i x Γ S, xs[i]? = some x → Inv i Γ S → Wp (g x Γ S) fun Γ1 S1 => Ws (b Γ1 S1) { nx := Inv (i + 1), ct := Inv (i + 1), bk := P.nx, rt := P.rt }) ∧ ∀ Γ S, Inv xs.length Γ S → P.nx Γ S) : Ws (sFor (mWalk m) g b Γ S) P := by
  obtain ⟨w, S1, e, xs, Inv, h0, h1, h2, h3⟩ := h.get
  exact ws_forW w xs Inv (Wp.eq e ⟨rfl, h0⟩) h1 h2 h3
theorem sp_reading {S : Sto} {T : QT} (hs : T.size ≤ 500) : Wp (m_reading [T.va] S) (fun v S' => ∃ j, v = .ref j ∧ S'[j]? = some (.lst ((ptsQ T).map ptV)) ∧ S.length ≤ j ∧ Lo S S') := by
  have hl := nodes_len T
  walk_at "fn"
  unfold b_reading
  refine ws_ret ?_
  refine w_lcX ?_
  walk_at "go"
  refine (sp_nodes hs).mono ?_
  rintro v S1 ⟨j, rfl, hj, hlt, l⟩
  refine ⟨(nodesQ T).map QT.va, fun i acc S' => Lo S1 S' ∧ acc = ((nodesQ T).take i).map fun t => ptV (rootQ t), by rw [List.length_map, hl]; show _ < 2 ^ 24; omega, ⟨Lo.refl _, rfl⟩, fun i acc S' h => .inl ⟨j, rfl, h.1.get hj⟩, ?_, ?_⟩
  · rintro i x acc S' hx ⟨l2, rfl⟩
    obtain ⟨t, ht, rfl⟩ := map_at hx
    obtain ⟨p, ch, rfl⟩ := nodes_node T t (List.mem_of_getElem? ht)
    rw [node_va]
    walk_at "go"
    refine w_yesE ?_
    walk_at "go"
    refine ⟨l2, ?_⟩
    rw [take_at ht, List.map_append]
    rfl
  · rintro acc S' ⟨l2, rfl⟩
    rw [List.length_map, List.take_length]
    refine ⟨_, rfl, ?_, ?_, (l.trans l2).trans (Lo.app _ _)⟩
    · rw [get_last, ← nodes_pts, List.map_map]
      rfl
    · have := l.1
      have := l2.1
      omega
theorem ws_forZ {Γ : En} {S : Sto} {P : Po} {t : MA} {g : MG} {b : MS} (h : Wp (t Γ S) fun vs S1 => ∃ (v w : Va) (xs ys : List Va) (Inv : Nat → En → Sto → Prop), vs = [v, w] ∧ xs.length = ys.length ∧ Inv 0 Γ S1 ∧ (∀ i Γ S, Inv i Γ S → lstOf S v = some xs ∧ lstOf S w = some ys) ∧ (∀ i x y Γ S, xs[i]? = some x → ys[i]? = some y → Inv i Γ S → Wp (g (.tup [x, y]) Γ S) fun Γ1 S1 => Ws (b Γ1 S1) { nx := Inv (i + 1), ct := Inv (i + 1), bk := P.nx, rt := P.rt }) ∧ ∀ Γ S, Inv xs.length Γ S → P.nx Γ S) : Ws (sFor (mZip t) g b Γ S) P := by
  refine ws_for (Wp.bind (h.mono fun vs S1 h => ?_))
  obtain ⟨v, w, xs, ys, Inv, rfl, hlen, h0, hl, hs, hd⟩ := h
  show Wp (zipOf v w S1) _
  obtain ⟨e1, e2⟩ := hl _ _ _ h0
  unfold zipOf
  rw [e1, e2]
  show Ws (loopF (.zip v w) g b ((ItV.zip v w).fuel S1) 0 Γ S1) P
  have hf : (ItV.zip v w).fuel S1 = xs.length := by simp only [ItV.fuel, e1]
  rw [hf]
  refine loop_it xs.length (fun i => .tup [xs.getD i .non, ys.getD i .non]) (fun i Γ S => i ≤ xs.length ∧ Inv i Γ S) (fun i Γ S hi h => ?_) (fun Γ S h => ?_) (fun i Γ S hi h => ?_) (fun Γ S h => hd Γ S h.2) xs.length 0 Γ S1 (Nat.zero_le _) (by omega) ⟨Nat.zero_le _, h0⟩
  · obtain ⟨e1, e2⟩ := hl _ _ _ h.2
    simp only [ItV.get, e1, e2, List.getD_eq_getElem?_getD, List.getElem?_eq_getElem hi, List.getElem?_eq_getElem (hlen ▸ hi : i < ys.length), Option.getD_some, pair2]
  · obtain ⟨e1, e2⟩ := hl _ _ _ h.2
    simp only [ItV.get, e1, e2, List.getElem?_eq_none (Nat.le_refl xs.length), pair2]
  · have x1 : xs[i]? = some (xs.getD i .non) := by rw [List.getD_eq_getElem?_getD, List.getElem?_eq_getElem hi]; rfl
    have y1 : ys[i]? = some (ys.getD i .non) := by rw [List.getD_eq_getElem?_getD, List.getElem?_eq_getElem (hlen ▸ hi : i < ys.length)]; rfl
    refine (hs i _ _ Γ S x1 y1 h.2).mono fun Γ1 S1 q => ?_
    cases e : b Γ1 S1 with
    | bad => rw [e] at q; exact q
    | nx Γ2 S2 => rw [e] at q; exact ⟨hi, q⟩
    | ct Γ2 S2 => rw [e] at q; exact ⟨hi, q⟩
    | bk Γ2 S2 => rw [e] at q; exact q
    | rt v S2 => rw [e] at q; exact q
    | ex a b c d f => rw [e] at q; exact q
end PM

namespace PM
open PySem PySem.Spec PyProof.Rows L2 Q2
local macro_rules | `(tactic| walk_at "fn") => `(tactic| (first | refine w_fn1 ?_ | refine w_fn2 ?_ | refine w_fn3 ?_ | refine w_fn4 ?_ | refine w_fn5 ?_ | refine w_fn6 ?_); dsimp only [List.replicate])
local macro_rules | `(tactic| walk_at "kb") => `(tactic| with_reducible first | exact kb_int_int | exact kb_int_bool | exact kb_int_str | exact kb_int_list | exact kb_int_tuple | exact kb_bool_int | exact kb_bool_bool | exact kb_bool_str | exact kb_bool_list | exact kb_bool_tuple | exact kb_str_int | exact kb_str_bool | exact kb_str_str | exact kb_str_list | exact kb_str_tuple | exact kb_list_int | exact kb_list_bool | exact kb_list_str | exact kb_list_list | exact kb_list_tuple | exact kb_tuple_int | exact kb_tuple_bool | exact kb_tuple_str | exact kb_tuple_list | exact kb_tuple_tuple | exact kb_NoneType_int | exact kb_NoneType_bool | exact kb_NoneType_str | exact kb_NoneType_list | exact kb_NoneType_tuple)
local macro_rules | `(tactic| walk_at "go1") => `(tactic| first
  | ((with_reducible refine w_var (v := ?v) ?h ?_); case h => exact rfl)
  | with_reducible first
  | refine w_c ?_ | refine w_m2 ?_ | refine w_m1 ?_ | refine w_maC ?_ | refine w_maN ?_ | refine w_mL ?_ | refine w_call ?_
  | refine w_mtOf ?_ | refine w_mtNot ?_ | refine w_mtAnd ?_ | refine w_mtOr ?_ | refine w_meAnd ?_ | refine w_meOr ?_ | refine w_mNot ?_
  | refine ws_seq ?_ | (refine ws_set ?_) | refine ws_ret ?_ | refine ws_if ?_ | refine ws_expr ?_ | refine ws_nil ?_ | refine ws_asg ?_
  | refine wo_int ?_ | refine wo_add ?_ | refine wo_addI ?_ | refine wo_sub ?_ | refine wo_lt ?_ | refine wo_le ?_ | refine wo_gt ?_ | refine wo_ge ?_
  | refine wo_max2 ?_ | refine wo_min2 ?_ | refine wo_abs ?_ | refine wo_neg ?_ | refine wo_eqI ?_ | refine wo_neI ?_ | refine wo_intB ?_ | refine wo_ixT rfl ?_ | refine ws_brk ?_ | refine ws_cnt ?_ | refine w_if ?_ | refine ws_par ?_ | refine ws_par3 ?_ | (refine ⟨_, _, rfl, ?_⟩) | (refine ⟨_, _, _, rfl, ?_⟩) | refine w_isN ?_ | refine w_notN ?_ | refine ite_t ?_ | refine ite_f ?_ | refine ite_nt ?_ | refine ite_nf ?_ | refine w_chain ?_ | refine w_isiT ?_ | refine wg_sub ?_ | (refine ⟨_, rfl, ?_⟩) | refine wg_v ?_ | refine wg_c ?_ | refine wg_n ?_ | refine w_sl ?_ | refine w_optS ?_ | refine w_optN ?_ | refine wo_sl31 ?_)
local macro_rules | `(tactic| walk_at "go2") => `(tactic| first
  | walk_at "go1"
  | ((with_reducible refine wo_mod ?h ?_); case h => omega) | ((with_reducible refine wo_div ?h ?_); case h => omega) | ((with_reducible refine wo_mul_l ?h ?_); case h => omega) | ((with_reducible refine wo_mul_r ?h ?_); case h => omega)
  | ((with_reducible refine wo_shr ?h ?_); case h => omega) | ((with_reducible refine wo_shl ?h ?_); case h => omega) | ((with_reducible refine wo_pow ?h ?_); case h => omega)
  | ((with_reducible refine ite_d ?a ?b); (case b => exact fun h => absurd (by omega) h); intro _)
  | ((with_reducible refine ite_d ?a ?b); (case a => exact fun h => absurd h (by omega)); intro _)
  | ((with_reducible refine ite_d ?a ?b) <;> intro _)
  | ((with_reducible refine ⟨_, _, ?xs, ?j, rfl, rfl, ?h, ?e, ?_⟩); (case h => assumption); (case e => exact rfl))
  | ((with_reducible refine ite_nd ?a ?b); (case b => exact fun h => absurd h (by omega)); intro _)
  | ((with_reducible refine ite_nd ?a ?b); (case a => exact fun h => absurd (by omega) h); intro _)
  | ((with_reducible refine ite_nd ?a ?b) <;> intro _)
  | ((with_reducible refine wg_t ?h ?_); case h => exact rfl)
  | ((with_reducible refine wo_addL (xs := ?xs) (ys := ?ys) (lst_ref ?h1) (lst_ref ?h2) ?h3 ?_); (case h1 => first | assumption | exact get_app (by assumption)); (case h2 => first | assumption | exact get_app (by assumption)); (case h3 => (show _ ≤ 2 ^ 24; simp only [List.length_append, List.length_cons, List.length_nil, List.length_map]; omega)))
  | ((with_reducible refine wo_isi (k := ?k) (b := ?b) ?h1 ?h2 ?_); (case h1 => first | exact rfl | exact kind_ref (by assumption)); (case h2 => walk_at "kb"))
  | ((with_reducible refine wo_len (xs := ?xs) ?h ?_); (case h => first | exact rfl | exact seq_ref (by assumption)))
  | ((with_reducible refine wo_ixL (xs := ?xs) (x := ?x) ?h1 ?h2 ?_); (case h1 => exact lst_ref (by assumption)); (case h2 => exact rfl))
  | ((with_reducible refine wo_tup ?h ?_); case h => (simp only [List.length_cons, List.length_nil]; decide)) | ((with_reducible refine wo_lst ?h ?_); case h => (simp only [List.length_cons, List.length_nil]; decide)))
local macro_rules | `(tactic| walk_at "go") => `(tactic| (repeat' walk_at "go2") <;> try dsimp only [List.set_cons_zero, List.set_cons_succ])

theorem wo_listS {S : Sto} {Q : Va → Sto → Prop} {v : Va} {xs : List Va} (h : seqOf S v = some xs) (hl : xs.length ≤ sizeLine) (q : Q (.ref S.length) (S ++ [.lst xs])) : Wo (fList [v] S) Q := by
  show Wo (match seqOf S v with
    | some xs => mkL S xs
    | none => none) Q
  rw [h]
  exact wo_mkL hl q
theorem sl_ref {S : Sto} {Q : Va → Sto → Prop} {n : Nat} {lo hi : Option Int} {xs : List Va} (h : S[n]? = some (.lst xs)) (hl : (cutA xs lo hi).length ≤ 16777216) (q : Q (.ref S.length) (S ++ [.lst (cutA xs lo hi)])) : Wo (fSl (.ref n) lo hi S) Q := by
  have e3 : slL (.ref n) lo hi S = some (.ref S.length, S ++ [.lst (cutA xs lo hi)]) := by
    unfold slL
    rw [lst_ref h]
    simp only
    unfold mkL
    rw [if_pos]
    exact hl
  unfold fSl
  rw [e3]
  exact q
theorem cut_init (xs : List Va) : cutA xs none (some (-1)) = xs.dropLast := by
  show List.take ((if (-1 : Int) < 0 then (-1 + (xs.length : Int)).toNat else min (-1 : Int).toNat xs.length) - 0) (List.drop 0 xs) = _
  rw [if_pos (by decide), List.drop_zero, List.dropLast_eq_take, Nat.sub_zero]
  congr 1
  omega
theorem cut_from (xs : List Va) (k : Nat) : cutA xs (some (k : Int)) none = xs.drop k := by
  show List.take (xs.length - HT.sIx xs.length 0 (some (k : Int))) (List.drop (HT.sIx xs.length 0 (some (k : Int))) xs) = _
  rw [HT.sIx_nat]
  by_cases h : k ≤ xs.length
  · rw [Nat.min_eq_left h, List.take_of_length_le (by rw [List.length_drop]; exact Nat.le_refl _)]
  · rw [Nat.min_eq_right (by omega), Nat.sub_self, List.take_zero, List.drop_eq_nil_of_le (by omega)]
theorem cut_to (xs : List Va) (k : Nat) : cutA xs none (some (k : Int)) = xs.take k := by
  show List.take (HT.sIx xs.length xs.length (some (k : Int)) - 0) (List.drop 0 xs) = _
  rw [HT.sIx_nat, List.drop_zero, Nat.sub_zero]
  by_cases h : k ≤ xs.length
  · rw [Nat.min_eq_left h]
  · rw [Nat.min_eq_right (by omega), List.take_length, List.take_of_length_le (by omega)]
theorem kid_uniq {p : Int × Int} {ch : Fin 4 → QT} {k : Ks} (hk : InK (.node p ch) k) {i j : Fin 4} {x : Int × Int} (hi : x ∈ ptsQ (ch i)) (hj : x ∈ ptsQ (ch j)) : i = j :=
  (kid_side hk hi).1.symm.trans (kid_side hk hj).1
theorem nd_pts : ∀ {T : QT} {k : Ks}, InK T k → (ptsQ T).Nodup
  | .nil, _, _ => List.nodup_nil
  | .node p ch, k, hk => by
    have d : ∀ i j : Fin 4, i ≠ j → ∀ a ∈ ptsQ (ch i), ∀ b ∈ ptsQ (ch j), a ≠ b := fun i j hij a ha b hb e => hij (by subst e; exact kid_uniq hk ha hb)
    have n := fun j => nd_pts (hk.2 j)
    simp only [ptsQ]
    refine List.nodup_cons.mpr ⟨fun h => ?_, ?_⟩
    · simp only [List.mem_append] at h
      rcases h with h | h | h | h
      · exact (kid_side hk h).2 rfl
      · exact (kid_side hk h).2 rfl
      · exact (kid_side hk h).2 rfl
      · exact (kid_side hk h).2 rfl
    · refine List.nodup_append.mpr ⟨n 0, List.nodup_append.mpr ⟨n 1, List.nodup_append.mpr ⟨n 2, n 3, d 2 3 (by decide)⟩, fun a ha b hb => ?_⟩, fun a ha b hb => ?_⟩
      · rcases List.mem_append.mp hb with hb | hb
        · exact d 1 2 (by decide) a ha b hb
        · exact d 1 3 (by decide) a ha b hb
      · rcases List.mem_append.mp hb with hb | hb
        · exact d 0 1 (by decide) a ha b hb
        · rcases List.mem_append.mp hb with hb | hb
          · exact d 0 2 (by decide) a ha b hb
          · exact d 0 3 (by decide) a ha b hb
structure TOk (T : QT) : Prop where
  k : InK T K31
  b : BdQ T
  s : T.size ≤ 500
theorem sp_check_quarter {S : Sto} {T : QT} (h : TOk T) : Wp (m_check_quarter [T.va] S) (fun v S' => Lo S S') := by
  walk_at "fn"
  unfold b_check_quarter
  walk_at "go"
  refine (sp_fault h.k h.b h.s).mono ?_
  rintro v S1 ⟨rfl, l⟩
  walk_at "go"
  refine ite_f ?_
  walk_at "go"
  exact l
theorem sp_is_quarter {S : Sto} {T : QT} (h : TOk T) : Wp (m_is_quarter [T.va] S) (fun v S' => v = .bl true ∧ Lo S S') := by
  walk_at "fn"
  unfold b_is_quarter
  walk_at "go"
  refine (sp_fault h.k h.b h.s).mono ?_
  rintro v S1 ⟨rfl, l⟩
  exact ⟨rfl, l⟩
theorem TOk.ht {T : QT} (h : TOk T) : T.ht ≤ 500 := Nat.le_trans (ht_size T) h.s
theorem sp_points_of {S : Sto} {T : QT} (h : TOk T) : Wp (m_points_of [T.va] S) (fun v S' => ∃ j, v = .ref j ∧ S'[j]? = some (.lst ((ptsQ T).map ptV)) ∧ S.length ≤ j ∧ Lo S S') := by
  walk_at "fn"
  unfold b_points_of
  walk_at "go"
  refine (sp_check_quarter h).mono ?_
  rintro v S1 l
  walk_at "go"
  refine (sp_reading h.s).mono ?_
  rintro v S2 ⟨j, rfl, hj, hlt, l2⟩
  exact ⟨j, rfl, hj, Nat.le_trans l.1 hlt, l.trans l2⟩
theorem sp_built {S : Sto} {v : Va} {ps : Pts} (hv : IsSeq S v (ps.map ptV)) (hlo : ∀ S', Lo S S' → IsSeq S' v (ps.map ptV)) (nd : ps.Nodup) (hb : ∀ p ∈ ps, PtB p) (hl : ps.length < 32) :
    Wp (m_built [v] S) (fun u S' => u = (treeQ ps).va ∧ Lo S S') := by
  walk_at "fn"
  unfold b_built
  walk_at "go"
  refine (sp_check_points hv (by omega) hb nd).mono ?_
  rintro u S1 g
  walk_at "go"
  refine (sp_grown (hlo _ g.lo) (fun S' h => hlo _ (g.lo.trans h)) nd hl).mono ?_
  rintro u S2 ⟨rfl, l⟩
  exact ⟨rfl, g.lo.trans l⟩
theorem tok_tree {ps : Pts} (nd : ps.Nodup) (hb : ∀ p ∈ ps, PtB p) (hl : ps.length ≤ 500) : TOk (treeQ ps) :=
  ⟨inK_grow _ _ _ nd fun q hq => k31_has (hb q hq), bd_grow _ _ hb, Nat.le_trans (size_grow _ _) hl⟩
theorem dle_pt (p q : Int × Int) : dle ptP p q = !ltK q p := dataLe_two (fun q => q.2.1) (fun q => q.2.2) ((default : Addr), p) ((default : Addr), q)
theorem sort_pw {ps : Pts} (nd : ps.Nodup) : (ps.mergeSort (dle ptP)).Pairwise (fun x y => ltK x y = true) := by
  have pm := List.mergeSort_perm ps (dle ptP)
  have h1 : (ps.mergeSort (dle ptP)).Pairwise (fun p q => dle ptP p q = true) := by
    refine List.pairwise_mergeSort (fun a b c h h' => ?_) (fun a b => ?_) ps
    · rw [dle_pt] at *
      simp only [Bool.not_eq_true'] at *
      cases e : ltK c a with
      | false => rfl
      | true =>
        have e' := of_decide_eq_true e
        have h1 := of_decide_eq_false h
        have h2 := of_decide_eq_false h'
        omega
    · rw [dle_pt, dle_pt]
      cases e : ltK b a with
      | false => rfl
      | true =>
        rw [ltK_anti e]
        rfl
  have nd2 : (ps.mergeSort (dle ptP)).Nodup := pm.nodup_iff.mpr nd
  refine (h1.and nd2).imp fun {a b} h => ?_
  obtain ⟨h, hne⟩ := h
  rw [dle_pt] at h
  exact ltK_flip hne (by simpa using h)
theorem sort_eq {ps qs : Pts} (h : ps.Perm qs) (nd : qs.Nodup) : ps.mergeSort (dle ptP) = qs.mergeSort (dle ptP) :=
  sorted_uniq _ _ (((List.mergeSort_perm ps _).trans h).trans (List.mergeSort_perm qs _).symm) (sort_pw (h.nodup_iff.mpr nd)) (sort_pw nd)
theorem neQ {S : Sto} {Q : Va → Sto → Prop} {A B : QT} (hA : A.ht ≤ 30) (hB : B.ht ≤ 30) (h : A = B) (q : Q (.bl false) S) : Wo (fNe A.va B.va S) Q := by
  letI : DecidableEq QT := fun _ _ => Classical.propDecidable _
  refine wo_neD (m := 60) (n := 60) qE (qR A 60 (by omega)) (qR B 60 (by omega)) (by decide) (by decide) ?_
  rw [decide_eq_false (fun z => z h)]
  exact q
theorem neL {S : Sto} {Q : Va → Sto → Prop} {i j : Nat} {as bs : List QT} (h1 : S[i]? = some (.lst (as.map QT.va))) (h2 : S[j]? = some (.lst (bs.map QT.va))) (hA : ∀ t ∈ as, t.ht ≤ 30) (hB : ∀ t ∈ bs, t.ht ≤ 30) (h : as = bs) (q : Q (.bl false) S) : Wo (fNe (.ref i) (.ref j) S) Q := by
  letI : DecidableEq (List QT) := fun _ _ => Classical.propDecidable _
  refine wo_neD (m := 61) (n := 61) (EqD.list qE) (Rd.ref h1 (RdA.map fun t ht => qR t 60 (by have := hA t ht; omega))) (Rd.ref h2 (RdA.map fun t ht => qR t 60 (by have := hB t ht; omega))) (by decide) (by decide) ?_
  rw [decide_eq_false (fun z => z h)]
  exact q
theorem Mv.gr {n : Nat} {S S1 S2 : Sto} (m : Mv n S S1) (g : Gr S1 S2) : Mv n S S2 := m.trans (g.mv m.src)
theorem sp_takeM {S0 S : Sto} {n : Nat} {B : Int} (m : Mv n S0 S) (hB : 0 < B ∧ B < 10000000000000000000000000000000) : Wp (m_law_take [.ref n, .int B] S) (fun v S' => ∃ r : Int, v = .int r ∧ 0 ≤ r ∧ r < B ∧ Mv n S0 S' ∧ Mv n S S') := by
  refine (sp_take m.src hB).mono ?_
  rintro v S' ⟨r, rfl, h0, h1, m2⟩
  exact ⟨r, rfl, h0, h1, m.trans m2, m2⟩
theorem sp_spots {S : Sto} {n : Nat} {m : Int} (hs : Src S n) (hm : 0 ≤ m ∧ m ≤ 60) : Wp (m_law_spots [.ref n, .int m] S) (fun v S' => ∃ (j : Nat) (ps : Pts), v = .ref j ∧ S'[j]? = some (.lst (ps.map ptV)) ∧ ps.Nodup ∧ (∀ p ∈ ps, PtB p) ∧ (ps.length : Int) ≤ m ∧ j ≠ n ∧ Mv n S S') := by
  walk_at "fn"
  unfold b_law_spots
  walk_at "go"
  refine (sp_takeM (Mv.refl hs) ⟨by omega, by omega⟩).mono ?_
  rintro _ S1 ⟨many, rfl, a0, a1, m1, _⟩
  walk_at "go"
  have m2 := m1.gr (Gr.app S1 [Ob.lst [.int 3, .int 6, .int 20, .int (10 ^ (9 : Int).toNat), .int (10 ^ (30 : Int).toNat)]])
  refine (sp_pick m2.src (k := S1.length) get_last (by have := m1.src.lt; omega) (by decide) (by decide)).mono ?_
  rintro w S2 ⟨hw, m3⟩
  obtain ⟨wide, rfl, hwide⟩ : ∃ i : Int, w = .int i ∧ 0 < i ∧ i ≤ Far := by
    simp only [List.mem_cons, List.not_mem_nil, or_false] at hw
    rcases hw with rfl | rfl | rfl | rfl | rfl
    · exact ⟨_, rfl, by decide, by decide⟩
    · exact ⟨_, rfl, by decide, by decide⟩
    · exact ⟨_, rfl, by decide, by decide⟩
    · exact ⟨_, rfl, by decide, by decide⟩
    · exact ⟨_, rfl, by decide, by decide⟩
  have hF : Far = 1000000000000000000000000000000 := rfl
  rw [hF] at hwide
  have m4 := (m2.trans m3).gr (Gr.app S2 [Ob.lst []])
  walk_at "go"
  refine ws_forR many (by omega) (fun i Γ S' => ∃ (k : Nat) (l : Pts) (z5 z6 : Option Va), Γ = [some (.ref n), some (.int m), some (.int many), some (.int wide), some (.ref k), z5, z6] ∧ Mv n S S' ∧ S'[k]? = some (.lst (l.map ptV)) ∧ k ≠ n ∧ l.Nodup ∧ (∀ p ∈ l, PtB p) ∧ l.length ≤ i) ?_ ?_ ?_
  · walk_at "go"
    exact ⟨rfl, _, [], none, none, rfl, m4, get_last, by have := (m2.trans m3).src.lt; omega, List.nodup_nil, by simp, by simp⟩
  · rintro i Γ S5 hi ⟨k, l, z5, z6, rfl, m5, e5, hkn, nd, hb, hl⟩
    walk_at "go"
    refine (sp_takeM m5 ⟨by omega, by omega⟩).mono ?_
    rintro _ S7 ⟨x, rfl, hx0, hx1, m7, m7'⟩
    walk_at "go"
    refine (sp_takeM m7 ⟨by omega, by omega⟩).mono ?_
    rintro _ S8 ⟨y, rfl, hy0, hy1, m8, m8'⟩
    have e8 := m8'.get hkn (m7'.get hkn e5)
    walk_at "go"
    have hq : PtB (x - wide, y - wide) := by
      refine ⟨⟨?_, ?_⟩, ⟨?_, ?_⟩⟩ <;> rw [hF] <;> dsimp only <;> omega
    show Wo (inD true (ptV (x - wide, y - wide)) (.ref k) (S8 ++ [.lst [ptV (x - wide, y - wide)]])) _
    generalize (x - wide, y - wide) = q at hq ⊢
    have e' : (S8 ++ [Ob.lst [ptV q]])[k]? = some (.lst (l.map ptV)) := get_app e8
    refine wo_notInD ptE ptR (ptsR e') (by decide) (by decide) ?_
    walk_at "go"
    have hkS := lt_get e8
    have hnS := m8.src.lt
    have m' : Mv n S (S8 ++ [Ob.lst [ptV q]]) := m8.gr (Gr.app _ _)
    by_cases hin : q ∈ l
    · rw [dec_f (fun z => z hin)]
      refine wo_rep get_last (by decide) (by simp) ?_
      refine wo_addL (lst_ref (get_app e')) (lst_ref get_last) (by show _ ≤ 2 ^ 24; simp; omega) ?_
      exact ⟨_, l, _, _, rfl, (m'.gr (Gr.app _ _)).gr (Gr.app _ _), by rw [get_last]; simp, by simp; omega, nd, hb, by omega⟩
    · rw [dec_t hin]
      refine wo_rep get_last (by decide) (by simp) ?_
      refine wo_addL (lst_ref (get_app e')) (lst_ref get_last) (by show _ ≤ 2 ^ 24; simp; omega) ?_
      refine ⟨_, l ++ [q], _, _, rfl, (m'.gr (Gr.app _ _)).gr (Gr.app _ _), by rw [get_last]; simp, by simp; omega, List.nodup_append.mpr ⟨nd, by simp, fun a ha b hb z => hin (by rw [← List.mem_singleton.mp hb, ← z]; exact ha)⟩, fun p hp => ?_, by simp; omega⟩
      rcases List.mem_append.mp hp with z | z
      · exact hb p z
      · rw [List.mem_singleton.mp z]; exact hq
  · rintro Γ S5 ⟨k, l, z5, z6, rfl, m5, e5, hkn, nd, hb, hl⟩
    walk_at "go"
    exact ⟨k, l, rfl, e5, nd, hb, by omega, hkn, m5⟩
end PM

namespace PM
open PySem PySem.Spec PyProof.Rows L2 Q2
local macro_rules | `(tactic| walk_at "fn") => `(tactic| (first | refine w_fn1 ?_ | refine w_fn2 ?_ | refine w_fn3 ?_ | refine w_fn4 ?_ | refine w_fn5 ?_ | refine w_fn6 ?_); dsimp only [List.replicate])
local macro_rules | `(tactic| walk_at "kb") => `(tactic| with_reducible first | exact kb_int_int | exact kb_int_bool | exact kb_int_str | exact kb_int_list | exact kb_int_tuple | exact kb_bool_int | exact kb_bool_bool | exact kb_bool_str | exact kb_bool_list | exact kb_bool_tuple | exact kb_str_int | exact kb_str_bool | exact kb_str_str | exact kb_str_list | exact kb_str_tuple | exact kb_list_int | exact kb_list_bool | exact kb_list_str | exact kb_list_list | exact kb_list_tuple | exact kb_tuple_int | exact kb_tuple_bool | exact kb_tuple_str | exact kb_tuple_list | exact kb_tuple_tuple | exact kb_NoneType_int | exact kb_NoneType_bool | exact kb_NoneType_str | exact kb_NoneType_list | exact kb_NoneType_tuple)
local macro_rules | `(tactic| walk_at "go1") => `(tactic| first
  | ((with_reducible refine w_var (v := ?v) ?h ?_); case h => exact rfl)
  | with_reducible first
  | refine w_c ?_ | refine w_m2 ?_ | refine w_m1 ?_ | refine w_maC ?_ | refine w_maN ?_ | refine w_mL ?_ | refine w_call ?_
  | refine w_mtOf ?_ | refine w_mtNot ?_ | refine w_mtAnd ?_ | refine w_mtOr ?_ | refine w_meAnd ?_ | refine w_meOr ?_ | refine w_mNot ?_
  | refine ws_seq ?_ | (refine ws_set ?_) | refine ws_ret ?_ | refine ws_if ?_ | refine ws_expr ?_ | refine ws_nil ?_ | refine ws_asg ?_
  | refine wo_int ?_ | refine wo_add ?_ | refine wo_addI ?_ | refine wo_sub ?_ | refine wo_lt ?_ | refine wo_le ?_ | refine wo_gt ?_ | refine wo_ge ?_
  | refine wo_max2 ?_ | refine wo_min2 ?_ | refine wo_abs ?_ | refine wo_neg ?_ | refine wo_eqI ?_ | refine wo_neI ?_ | refine wo_intB ?_ | refine wo_ixT rfl ?_ | refine ws_brk ?_ | refine ws_cnt ?_ | refine w_if ?_ | refine ws_par ?_ | refine ws_par3 ?_ | (refine ⟨_, _, rfl, ?_⟩) | (refine ⟨_, _, _, rfl, ?_⟩) | refine w_isN ?_ | refine w_notN ?_ | refine ite_t ?_ | refine ite_f ?_ | refine ite_nt ?_ | refine ite_nf ?_ | refine w_chain ?_ | refine w_isiT ?_ | refine wg_sub ?_ | (refine ⟨_, rfl, ?_⟩) | refine wg_v ?_ | refine wg_c ?_ | refine wg_n ?_ | refine w_sl ?_ | refine w_optS ?_ | refine w_optN ?_ | refine wo_sl31 ?_)
local macro_rules | `(tactic| walk_at "go2") => `(tactic| first
  | walk_at "go1"
  | ((with_reducible refine wo_mod ?h ?_); case h => omega) | ((with_reducible refine wo_div ?h ?_); case h => omega) | ((with_reducible refine wo_mul_l ?h ?_); case h => omega) | ((with_reducible refine wo_mul_r ?h ?_); case h => omega)
  | ((with_reducible refine wo_shr ?h ?_); case h => omega) | ((with_reducible refine wo_shl ?h ?_); case h => omega) | ((with_reducible refine wo_pow ?h ?_); case h => omega)
  | ((with_reducible refine ite_d ?a ?b); (case b => exact fun h => absurd (by omega) h); intro _)
  | ((with_reducible refine ite_d ?a ?b); (case a => exact fun h => absurd h (by omega)); intro _)
  | ((with_reducible refine ite_d ?a ?b) <;> intro _)
  | ((with_reducible refine ⟨_, _, ?xs, ?j, rfl, rfl, ?h, ?e, ?_⟩); (case h => assumption); (case e => exact rfl))
  | ((with_reducible refine ite_nd ?a ?b); (case b => exact fun h => absurd h (by omega)); intro _)
  | ((with_reducible refine ite_nd ?a ?b); (case a => exact fun h => absurd (by omega) h); intro _)
  | ((with_reducible refine ite_nd ?a ?b) <;> intro _)
  | ((with_reducible refine wg_t ?h ?_); case h => exact rfl)
  | ((with_reducible refine wo_addL (xs := ?xs) (ys := ?ys) (lst_ref ?h1) (lst_ref ?h2) ?h3 ?_); (case h1 => first | assumption | exact get_app (by assumption)); (case h2 => first | assumption | exact get_app (by assumption)); (case h3 => (show _ ≤ 2 ^ 24; simp only [List.length_append, List.length_cons, List.length_nil, List.length_map]; omega)))
  | ((with_reducible refine wo_isi (k := ?k) (b := ?b) ?h1 ?h2 ?_); (case h1 => first | exact rfl | exact kind_ref (by assumption)); (case h2 => walk_at "kb"))
  | ((with_reducible refine wo_len (xs := ?xs) ?h ?_); (case h => first | exact rfl | exact seq_ref (by assumption)))
  | ((with_reducible refine wo_ixL (xs := ?xs) (x := ?x) ?h1 ?h2 ?_); (case h1 => exact lst_ref (by assumption)); (case h2 => exact rfl))
  | ((with_reducible refine wo_tup ?h ?_); case h => (simp only [List.length_cons, List.length_nil]; decide)) | ((with_reducible refine wo_lst ?h ?_); case h => (simp only [List.length_cons, List.length_nil]; decide)))
local macro_rules | `(tactic| walk_at "go") => `(tactic| (repeat' walk_at "go2") <;> try dsimp only [List.set_cons_zero, List.set_cons_succ])

theorem ws_whileN {Γ : En} {S : Sto} {P : Po} {c : MT} {b : MS} {fuel : Nat} (Inv : Nat → En → Sto → Prop) {m : Nat} (h0 : Inv m Γ S) (hf : m < fuel)
    (hs : ∀ m Γ S, Inv m Γ S → Wp (c Γ S) fun k S1 => if k = true then Ws (b Γ S1) { nx := fun Γ' S' => ∃ m', m' < m ∧ Inv m' Γ' S', ct := fun Γ' S' => ∃ m', m' < m ∧ Inv m' Γ' S', bk := P.nx, rt := P.rt } else P.nx Γ S1) : Ws (sWhile fuel c b Γ S) P := by
  unfold sWhile
  induction fuel generalizing Γ S m with
  | zero => omega
  | succ k ih =>
    unfold loopW
    refine Wp.thenS ((hs m Γ S h0).mono fun z S1 q => ?_)
    cases z with
    | false => exact q
    | true =>
      rw [if_pos rfl] at q ⊢
      cases e : b Γ S1 with
      | bad => rw [e] at q; exact q
      | nx Γ2 S2 => rw [e] at q; obtain ⟨m', h1, h2⟩ := q; exact ih h2 (by omega)
      | ct Γ2 S2 => rw [e] at q; obtain ⟨m', h1, h2⟩ := q; exact ih h2 (by omega)
      | bk Γ2 S2 => rw [e] at q; exact q
      | rt v S2 => rw [e] at q; exact q
      | ex a b c d f => rw [e] at q; exact q
section
variable {Γ : En} {S : Sto}
theorem w_lc2 {Q : Va → Sto → Prop} {mi mi1 : MI} {g g1 : MG} {mt mt1 : MT} {me : ME} {vs vs1 : List Nat} (h : Wp (mi Γ S) fun it S1 => Wp (comp2G S1.length it g mt mi1 g1 mt1 me vs1 (wipeE Γ vs) (it.fuel S1) 0 (S1 ++ [.lst []])) fun _ S2 => Q (.ref S1.length) S2) : Wp (mLc2 mi g mt mi1 g1 mt1 me vs vs1 Γ S) Q :=
  Wp.bind (h.mono fun _ _ h => Wp.bindN (h.mono fun _ _ h => h))
theorem compG_it {n : Nat} {it : ItV} {g : MG} {mt : MT} {me : ME} {Q : Unit → Sto → Prop} (c : Nat) (x : Nat → Va) (Inv : Nat → Sto → Prop) (hgo : ∀ i S, i < c → Inv i S → it.get i S = some (some (x i))) (hst : ∀ S, Inv c S → it.get c S = some none)
    (hs : ∀ i S, i < c → Inv i S → Wp (g (x i) Γ S) fun Γ1 S1 => Wp (mt Γ1 S1) fun b S2 => if b = true then Wp (me Γ1 S2) fun y S3 => ∃ acc, S3[n]? = some (.lst acc) ∧ acc.length < sizeLine ∧ Inv (i + 1) (S3.set n (.lst (acc ++ [y]))) else Inv (i + 1) S2) (hd : ∀ S, Inv c S → Q () S) :
    ∀ (k i : Nat) (S : Sto), i ≤ c → c ≤ i + k → Inv i S → Wp (compG n it g mt me Γ k i S) Q
  | 0, i, S, h1, h2, h => by
    have e : i = c := by omega
    subst e
    unfold compG
    rw [hst S h]
    exact hd S h
  | k + 1, i, S, h1, h2, h => by
    by_cases hlt : i < c
    · unfold compG
      rw [hgo i S hlt h]
      refine Wp.bindN ((hs i S hlt h).mono fun Γ1 S1 q => Wp.bindN (q.mono fun z S2 q => ?_))
      cases z with
      | false => exact compG_it c x Inv hgo hst hs hd k (i + 1) S2 hlt (by omega) q
      | true =>
        refine Wp.bindN (Wp.mono q fun y S3 q => ?_)
        obtain ⟨acc, e, hl, q⟩ := q
        have ep : putG n y S3 = some (S3.set n (.lst (acc ++ [y]))) := by
          unfold putG
          rw [e]
          simp only
          rw [if_pos hl]
        rw [ep]
        exact compG_it c x Inv hgo hst hs hd k (i + 1) _ hlt (by omega) q
    · have e : i = c := by omega
      subst e
      unfold compG
      rw [hst S h]
      exact hd S h
theorem comp2_it {n : Nat} {it : ItV} {g g1 : MG} {mt mt1 : MT} {mi1 : MI} {me : ME} {vs1 : List Nat} {Q : Unit → Sto → Prop} (c : Nat) (x : Nat → Va) (Inv : Nat → Sto → Prop) (hgo : ∀ i S, i < c → Inv i S → it.get i S = some (some (x i))) (hst : ∀ S, Inv c S → it.get c S = some none)
    (hs : ∀ i S, i < c → Inv i S → Wp (g (x i) Γ S) fun Γ1 S1 => Wp (mt Γ1 S1) fun b S2 => if b = true then Wp (mi1 Γ1 S2) fun it1 S3 => Wp (compG n it1 g1 mt1 me (wipeE Γ1 vs1) (it1.fuel S3) 0 S3) fun _ S4 => Inv (i + 1) S4 else Inv (i + 1) S2) (hd : ∀ S, Inv c S → Q () S) :
    ∀ (k i : Nat) (S : Sto), i ≤ c → c ≤ i + k → Inv i S → Wp (comp2G n it g mt mi1 g1 mt1 me vs1 Γ k i S) Q
  | 0, i, S, h1, h2, h => by
    have e : i = c := by omega
    subst e
    unfold comp2G
    rw [hst S h]
    exact hd S h
  | k + 1, i, S, h1, h2, h => by
    by_cases hlt : i < c
    · unfold comp2G
      rw [hgo i S hlt h]
      refine Wp.bindN ((hs i S hlt h).mono fun Γ1 S1 q => Wp.bindN (q.mono fun z S2 q => ?_))
      cases z with
      | false => exact comp2_it c x Inv hgo hst hs hd k (i + 1) S2 hlt (by omega) q
      | true => exact Wp.bindN (Wp.mono q fun it1 S3 q => Wp.bindN (q.mono fun _ S4 q => comp2_it c x Inv hgo hst hs hd k (i + 1) S4 hlt (by omega) q))
    · have e : i = c := by omega
      subst e
      unfold comp2G
      rw [hst S h]
      exact hd S h
end
def mh : List QT → Nat
  | [] => 0
  | t :: r => max t.ht (mh r)
theorem mh_app : ∀ a b : List QT, mh (a ++ b) = max (mh a) (mh b)
  | [], b => by simp [mh]
  | t :: a, b => by
    have ih := mh_app a b
    simp only [List.cons_append, mh, ih]
    omega
theorem mh_nonnil : ∀ l : List QT, mh (l.filter nonnil) = mh l
  | [] => rfl
  | t :: l => by
    have ih := mh_nonnil l
    cases t with
    | nil =>
      rw [List.filter_cons_of_neg (by simp [nonnil]), ih]
      simp [mh, QT.ht]
    | node p ch =>
      rw [List.filter_cons_of_pos rfl]
      simp only [mh, ih]
theorem mh_kid {t : QT} (h : nonnil t = true) : mh (kidsQ t) + 1 = t.ht := by
  cases t with
  | nil => cases h
  | node p ch =>
    unfold kidsQ
    rw [mh_nonnil]
    simp only [mh, QT.ht]
    omega
theorem mh_kids : ∀ row : List QT, row ≠ [] → (∀ t ∈ row, nonnil t = true) → mh (row.flatMap kidsQ) + 1 = mh row
  | [], h, _ => absurd rfl h
  | [t], _, h => by
    have h1 := mh_kid (h t (List.mem_cons_self ..))
    simp only [List.flatMap_cons, List.flatMap_nil, List.append_nil, mh]
    omega
  | t :: u :: row, _, h => by
    have h1 := mh_kid (h t (List.mem_cons_self ..))
    have h2 := mh_kids (u :: row) (List.cons_ne_nil _ _) fun x hx => h x (List.mem_cons_of_mem _ hx)
    rw [List.flatMap_cons, mh_app]
    show _ = max t.ht (mh (u :: row))
    omega
theorem mh_zero : ∀ row : List QT, mh row = 0 → (∀ t ∈ row, nonnil t = true) → row = []
  | [], _, _ => rfl
  | t :: row, h, hn => by
    have h1 := mh_kid (hn t (List.mem_cons_self ..))
    simp only [mh] at h
    omega
theorem kids4 (p : Int × Int) (ch : Fin 4 → QT) : kidsQ (.node p ch) = (all4.map ch).filter nonnil := rfl
theorem getD_at' {row : List QT} {i : Nat} (h : i < row.length) : row[i]? = some (row.getD i .nil) := by rw [List.getD_eq_getElem?_getD, List.getElem?_eq_getElem h]; rfl
theorem kids_step {S1 : Sto} {Γ : En} {row : List QT} {r : Nat} {z0 z1 z3 z4 : Option Va} {Q : Va → Sto → Prop} (hΓ : Γ = [z0, z1, some (.ref r), z3, z4]) (hr : S1[r]? = some (.lst (row.map QT.va))) (hn : ∀ t ∈ row, nonnil t = true) (hl : 4 * row.length < 1000000) (q : Q (.ref S1.length) (S1 ++ [.lst ((row.flatMap kidsQ).map QT.va)])) :
    Wp (mLc2 (mWalk (mV 2)) (gV 3) mtYes (mWalk (m2 fIx (mV 3) (mC (.int 1)))) (gV 4) (mtOf (mNotN (mV 4))) (mV 4) [3, 4] [4] Γ S1) Q := by
  subst hΓ
  refine w_lc2 (w_walk ?_)
  walk_at "go"
  refine .inl ⟨r, _, rfl, hr, ?_⟩
  have hr' : ∀ X, (S1 ++ [Ob.lst X])[r]? = some (.lst (row.map QT.va)) := fun X => get_app hr
  have hfu : (ItV.ref r).fuel S1 = row.length := by
    show (match S1[r]? with | some (Ob.lst xs) => xs.length | _ => 0) = _
    rw [hr]
    exact List.length_map ..
  rw [hfu]
  refine comp2_it row.length (fun i => (row.getD i .nil).va) (fun i S' => S' = S1 ++ [.lst (((row.take i).flatMap kidsQ).map QT.va)]) (fun i S' hi h => ?_) (fun S' h => ?_) (fun i S' hi h => ?_) (fun S' h => ?_) row.length 0 _ (Nat.zero_le _) (by omega) rfl
  · subst h
    show (match (S1 ++ [Ob.lst _])[r]? with | some (Ob.lst xs) => some xs[i]? | _ => none) = _
    rw [hr']
    simp only
    rw [List.getElem?_map, getD_at' hi]
    rfl
  · subst h
    show (match (S1 ++ [Ob.lst _])[r]? with | some (Ob.lst xs) => some xs[row.length]? | _ => none) = _
    rw [hr']
    simp only
    rw [List.getElem?_eq_none (by rw [List.length_map]; exact Nat.le_refl _)]
  · subst h
    have hti := getD_at' hi
    generalize row.getD i .nil = t at hti
    have hnt := hn t (List.mem_of_getElem? hti)
    cases t with
    | nil => cases hnt
    | node p ch =>
      rw [node_va]
      walk_at "go"
      refine w_yesE ?_
      rw [if_pos rfl]
      refine w_walk ?_
      walk_at "go"
      refine .inr ⟨_, .inl rfl, ?_⟩
      refine compG_it 4 (fun j => ((all4.map ch).getD j .nil).va) (fun j S' => S' = S1 ++ [.lst (((row.take i).flatMap kidsQ ++ ((all4.map ch).take j).filter nonnil).map QT.va)]) (fun j S' hj h => ?_) (fun S' _ => rfl) (fun j S' hj h => ?_) (fun S' h => ?_) 4 0 _ (Nat.zero_le _) (by decide) (by simp)
      · match j, hj with
        | 0, _ => rfl
        | 1, _ => rfl
        | 2, _ => rfl
        | 3, _ => rfl
      · subst h
        have htj : (all4.map ch)[j]? = some ((all4.map ch).getD j .nil) := getD_at' (by show j < 4; exact hj)
        generalize (all4.map ch).getD j .nil = u at htj
        walk_at "go"
        rw [non_va]
        have e1 : (((all4.map ch).take (j + 1)).filter nonnil) = ((all4.map ch).take j).filter nonnil ++ (if nonnil u = true then [u] else []) := by
          rw [take_at htj, List.filter_append]
          by_cases e : nonnil u = true
          · rw [if_pos e]; simp [e]
          · rw [if_neg e]; simp [e]
        rw [e1]
        cases e : nonnil u with
        | false =>
          refine ite_f ?_
          simp
        | true =>
          refine ite_t ?_
          walk_at "go"
          refine ⟨_, get_last, ?_, ?_⟩
          · rw [List.length_map, List.length_append]
            have k1 : ((row.take i).flatMap kidsQ).length ≤ 4 * row.length := by
              have : ∀ l : List QT, (l.flatMap kidsQ).length ≤ 4 * l.length := fun l => by
                induction l with
                | nil => simp
                | cons a l ih =>
                  rw [List.flatMap_cons, List.length_append, List.length_cons]
                  have : (kidsQ a).length ≤ 4 := by
                    cases a with
                    | nil => simp [kidsQ]
                    | node p ch => exact List.length_filter_le ..
                  omega
              have h1 := this (row.take i)
              rw [List.length_take] at h1
              omega
            have k2 : (((all4.map ch).take j).filter nonnil).length ≤ 4 := Nat.le_trans (List.length_filter_le ..) (by rw [List.length_take]; show min j 4 ≤ 4; omega)
            show _ < 2 ^ 24
            omega
          · rw [app_set]
            simp
      · rw [h, take_at hti, List.flatMap_append]
        have e4 : (all4.map ch).take 4 = all4.map ch := rfl
        rw [e4]
        have e5 : [QT.node p ch].flatMap kidsQ = (all4.map ch).filter nonnil := by simp [kidsQ]
        rw [e5]
  · subst h
    rw [List.take_length]
    exact q
theorem row_small : ∀ {row : List QT}, (∀ t ∈ row, nonnil t = true) → row.length ≤ tsz row
  | [], _ => Nat.zero_le _
  | t :: row, h => by
    have h1 := row_small (row := row) fun x hx => h x (List.mem_cons_of_mem _ hx)
    have h2 : 1 ≤ t.size := by
      have := h t (List.mem_cons_self ..)
      cases t with
      | nil => cases this
      | node _ _ => show 1 ≤ 1 + _; omega
    unfold tsz at *
    rw [List.map_cons, List.sum_cons, List.length_cons]
    omega
theorem lc_loop {c : Nat} {z0 : Option Va} {P : Po} {row0 : List QT} {r0 : Nat} {S1 : Sto} (h0 : S1[c]? = some (.lst [])) (hr0 : S1[r0]? = some (.lst (row0.map QT.va))) (hcr : c < r0) (hn0 : ∀ t ∈ row0, nonnil t = true) (ht : tsz row0 ≤ 500) (hm : mh row0 ≤ 500)
    (hd : ∀ Γ S' cs r z3 z4, Γ = [z0, some (.ref c), some (.ref r), z3, z4] → S'.length ≥ S1.length → (∀ (i : Nat) (o : Ob), i ≠ c → S1[i]? = some o → S'[i]? = some o) → S'[c]? = some (.lst cs) → cs.length = mh row0 → P.nx Γ S') :
    Ws (sWhile 1000000 (mtTru (mV 2)) (sSeq (sExpr (mApp (mV 1) (maC (mL fLen (maC (mV 2) maN)) maN))) (sSet 2 (mLc2 (mWalk (mV 2)) (gV 3) mtYes (mWalk (m2 fIx (mV 3) (mC (.int 1)))) (gV 4) (mtOf (mNotN (mV 4))) (mV 4) [3, 4] [4]))) [z0, some (.ref c), some (.ref r0), none, none] S1) P := by
  refine ws_whileN (m := mh row0) (fun m Γ S' => ∃ (row : List QT) (cs : List Va) (r : Nat) (z3 z4 : Option Va), Γ = [z0, some (.ref c), some (.ref r), z3, z4] ∧ S'.length ≥ S1.length ∧ (∀ (i : Nat) (o : Ob), i ≠ c → S1[i]? = some o → S'[i]? = some o) ∧ S'[c]? = some (.lst cs) ∧ S'[r]? = some (.lst (row.map QT.va)) ∧ c ≠ r ∧ (∀ t ∈ row, nonnil t = true) ∧ tsz row ≤ 500 ∧ cs.length + mh row = mh row0 ∧ mh row = m) ?_ (by omega) ?_
  · exact ⟨row0, [], r0, none, none, rfl, Nat.le_refl _, fun i o _ h => h, h0, hr0, by omega, hn0, ht, by simp, rfl⟩
  · rintro m Γ S' ⟨row, cs, r, z3, z4, rfl, hlen, kp, hc, hr, hcr, hn, hts, hcs, hmm⟩
    have hsm := row_small hn
    refine w_mtTru ?_
    walk_at "go"
    refine ⟨_, tru_lst hr, ?_⟩
    cases row with
    | nil =>
      refine ite_f ?_
      exact hd _ _ cs _ _ _ rfl hlen kp hc (by simpa [mh] using hcs)
    | cons t row' =>
      refine ite_t ?_
      have hmk := mh_kids (t :: row') (by simp) hn
      have hkr := kids_row (t :: row') hn
      generalize t :: row' = row at *
      have hrl : (row.map QT.va).length = row.length := List.length_map ..
      walk_at "go"
      refine w_app ?_
      walk_at "go"
      refine ⟨_, _, rfl, hc, ?_⟩
      walk_at "go"
      refine ⟨_, _, rfl, hc, by show _ < 2 ^ 24; omega, ?_⟩
      have hc2 : (S'.set c (.lst (cs ++ [.int ((row.map QT.va).length : Nat)])))[c]? = some (.lst (cs ++ [.int ((row.map QT.va).length : Nat)])) := get_set hc
      have hr2 : (S'.set c (.lst (cs ++ [.int ((row.map QT.va).length : Nat)])))[r]? = some (.lst (row.map QT.va)) := get_ne hcr hr
      have kp2 : ∀ (i : Nat) (o : Ob), i ≠ c → S1[i]? = some o → (S'.set c (.lst (cs ++ [.int ((row.map QT.va).length : Nat)])))[i]? = some o := fun i o hi h => get_ne (fun z => hi z.symm) (kp i o hi h)
      have hl2 : (S'.set c (.lst (cs ++ [.int ((row.map QT.va).length : Nat)]))).length = S'.length := by simp
      generalize S'.set c (.lst (cs ++ [.int ((row.map QT.va).length : Nat)])) = S2 at hc2 hr2 kp2 hl2 ⊢
      have hcl := lt_get hc2
      walk_at "go"
      refine kids_step rfl hr2 hn (by omega) ?_
      walk_at "go"
      refine ⟨mh (row.flatMap kidsQ), by omega, row.flatMap kidsQ, cs ++ [.int ((row.map QT.va).length : Nat)], _, _, _, rfl, by rw [List.length_append]; omega, fun i o hi h => get_app (kp2 i o hi h), get_app hc2, get_last, by omega, ?_, by omega, by rw [List.length_append, List.length_singleton]; omega, rfl⟩
      intro x hx
      obtain ⟨u, _, hu⟩ := List.mem_flatMap.mp hx
      exact (kid_mem hu).1
theorem sp_level_counts {S : Sto} {T : QT} (hs : T.size ≤ 500) : Wp (m_level_counts [T.va] S) (fun v S' => ∃ j cs, v = .ref j ∧ S'[j]? = some (.lst cs) ∧ cs.length = T.ht ∧ Lo S S') := by
  have hht := ht_size T
  have fin : ∀ (S1 S' : Sto), Lo S S1 → S'.length ≥ S1.length → (∀ (i : Nat) (o : Ob), i ≠ S.length → S1[i]? = some o → S'[i]? = some o) → Lo S S' := fun S1 S' l h1 h2 => ⟨Nat.le_trans l.1 h1, fun i o h => h2 i o (by have := lt_get h; omega) (l.2 i o h)⟩
  walk_at "fn"
  unfold b_level_counts
  walk_at "go"
  cases T with
  | nil =>
    refine ite_t ?_
    walk_at "go"
    refine lc_loop (row0 := []) (r0 := (S ++ [Ob.lst []]).length) (get_app get_last) get_last (by simp) (by simp) (by simp [tsz]) (by simp [mh]) ?_
    rintro Γ S' cs r z3 z4 rfl h1 h2 hc hl
    walk_at "go"
    exact ⟨_, cs, rfl, hc, by rw [hl]; rfl, fin _ _ ((Lo.app _ _).trans (Lo.app _ _)) h1 h2⟩
  | node p ch =>
    refine ite_f ?_
    walk_at "go"
    refine lc_loop (row0 := [.node p ch]) (r0 := (S ++ [Ob.lst []]).length) (get_app get_last) get_last (by simp) (by simp [nonnil]) (by simpa [tsz] using hs) (by show max _ 0 ≤ 500; omega) ?_
    rintro Γ S' cs r z3 z4 rfl h1 h2 hc hl
    walk_at "go"
    exact ⟨_, cs, rfl, hc, by rw [hl]; show max _ 0 = _; omega, fin _ _ ((Lo.app _ _).trans (Lo.app _ _)) h1 h2⟩
theorem sp_depth {S : Sto} {T : QT} (h : TOk T) : Wp (m_depth [T.va] S) (fun v S' => v = .int (T.ht : Nat) ∧ Lo S S') := by
  walk_at "fn"
  unfold b_depth
  walk_at "go"
  refine (sp_check_quarter h).mono ?_
  rintro v S1 l
  walk_at "go"
  refine (sp_level_counts h.s).mono ?_
  rintro v S2 ⟨j, cs, rfl, hj, hl, l2⟩
  walk_at "go"
  exact ⟨by rw [hl], l.trans l2⟩
end PM

namespace PM
open PySem PySem.Spec PyProof.Rows L2 Q2
/-! ### all orders of a list -/
def permsP : Nat → Pts → List Pts
  | 0, _ => [[]]
  | n + 1, l => (List.range l.length).flatMap fun k => (permsP n (l.eraseIdx k)).map fun r => l.getD k (0, 0) :: r
theorem pop_perm {ps : Pts} {k : Nat} (h : k < ps.length) : (ps.getD k (0, 0) :: ps.eraseIdx k).Perm ps := by
  have e : ps.getD k (0, 0) = ps[k] := by rw [List.getD_eq_getElem?_getD, List.getElem?_eq_getElem h]; rfl
  rw [e, List.eraseIdx_eq_take_drop_succ]
  refine List.perm_middle.symm.trans (List.Perm.of_eq ?_)
  rw [← List.drop_eq_getElem_cons h, List.take_append_drop]
theorem perms_perm : ∀ (n : Nat) (l : Pts), l.length = n → ∀ r ∈ permsP n l, r.Perm l
  | 0, l, h, r, hr => by
    have : l = [] := List.length_eq_zero_iff.mp h
    subst this
    simp [permsP] at hr
    rw [hr]
  | n + 1, l, h, r, hr => by
    unfold permsP at hr
    obtain ⟨k, hk, hr⟩ := List.mem_flatMap.mp hr
    obtain ⟨r', hr', rfl⟩ := List.mem_map.mp hr
    have hk := List.mem_range.mp hk
    have := perms_perm n (l.eraseIdx k) (by rw [List.length_eraseIdx_of_lt hk]; omega) r' hr'
    exact (List.Perm.cons _ this).trans (pop_perm hk)
theorem perms_all : ∀ (n : Nat) (l : Pts), l.length = n → ∀ r : Pts, r.Perm l → r ∈ permsP n l
  | 0, l, h, r, hr => by
    have : l = [] := List.length_eq_zero_iff.mp h
    subst this
    rw [List.Perm.eq_nil hr]
    simp [permsP]
  | n + 1, l, h, [], hr => by
    have := hr.length_eq
    simp [h] at this
  | n + 1, l, h, p :: r, hr => by
    have hp : p ∈ l := hr.mem_iff.mp (List.mem_cons_self ..)
    obtain ⟨k, hk, e⟩ := List.mem_iff_getElem.mp hp
    unfold permsP
    refine List.mem_flatMap.mpr ⟨k, List.mem_range.mpr hk, List.mem_map.mpr ⟨r, ?_, ?_⟩⟩
    · refine perms_all n _ (by rw [List.length_eraseIdx_of_lt hk]; omega) r ?_
      have e2 : l.getD k (0, 0) = p := by rw [List.getD_eq_getElem?_getD, List.getElem?_eq_getElem hk]; exact e
      have := pop_perm hk
      rw [e2] at this
      exact List.Perm.cons_inv (hr.trans this.symm)
    · rw [List.getD_eq_getElem?_getD, List.getElem?_eq_getElem hk, Option.getD_some, e]
theorem perms_len : ∀ (n : Nat) (l : Pts), n ≤ 5 → l.length = n → (permsP n l).length ≤ 6 ^ n
  | 0, l, _, _ => by simp [permsP]
  | n + 1, l, hn, h => by
    unfold permsP
    have : ∀ ks : List Nat, (∀ k ∈ ks, k < l.length) → (ks.flatMap fun k => (permsP n (l.eraseIdx k)).map fun r => l.getD k (0, 0) :: r).length ≤ ks.length * 6 ^ n := by
      intro ks
      induction ks with
      | nil => intro _; simp
      | cons k ks ih =>
        intro hk
        have h1 := perms_len n (l.eraseIdx k) (by omega) (by rw [List.length_eraseIdx_of_lt (hk k (List.mem_cons_self ..))]; omega)
        have h2 := ih fun x hx => hk x (List.mem_cons_of_mem _ hx)
        rw [List.flatMap_cons, List.length_append, List.length_map, List.length_cons, Nat.succ_mul]
        omega
    have h1 := this (List.range l.length) fun k hk => List.mem_range.mp hk
    rw [List.length_range] at h1
    refine Nat.le_trans h1 ?_
    rw [Nat.pow_succ, Nat.mul_comm]
    exact Nat.mul_le_mul_left _ (by omega)
/-! ### readings of forests -/
def readN : Nat → List QT → Nat
  | 0, F => if F = [] then 1 else 0
  | n + 1, F => max ((List.range F.length).map fun k => readN n (F.eraseIdx k ++ kidsQ (F.getD k .nil))).sum (if F = [] then 1 else 0)
end PM

namespace PM
open PySem PySem.Spec PyProof.Rows L2 Q2
/-! ### how many orders give a tree -/
theorem sum_swap {α β : Type} (f : α → β → Nat) : ∀ (A : List α) (B : List β), (A.map fun a => (B.map fun b => f a b).sum).sum = (B.map fun b => (A.map fun a => f a b).sum).sum
  | [], B => by
    have : ∀ B : List β, (B.map fun _ => 0).sum = 0 := fun B => by induction B with
      | nil => rfl
      | cons b B ih => simpa using ih
    simp [this]
  | a :: A, B => by
    have ih := sum_swap f A B
    rw [List.map_cons, List.sum_cons, ih]
    have : ∀ B : List β, (B.map fun b => f a b).sum + (B.map fun b => (A.map fun a => f a b).sum).sum = (B.map fun b => ((a :: A).map fun a => f a b).sum).sum := fun B => by
      induction B with
      | nil => rfl
      | cons b B ih =>
        simp only [List.map_cons, List.sum_cons] at ih ⊢
        omega
    exact this B
theorem sum_one {r : Nat} {q : Int × Int} : ∀ {S : Pts}, S.Nodup → (S.map fun p => if q = p then r else 0).sum = if q ∈ S then r else 0
  | [], _ => rfl
  | p :: S, h => by
    have h2 := List.nodup_cons.mp h
    rw [List.map_cons, List.sum_cons, sum_one h2.2]
    by_cases e : q = p
    · subst e
      rw [if_pos rfl, if_neg h2.1, if_pos (List.mem_cons_self ..)]
      omega
    · rw [if_neg e]
      by_cases e2 : q ∈ S
      · rw [if_pos e2, if_pos (List.mem_cons_of_mem _ e2)]; omega
      · rw [if_neg e2, if_neg (fun z => (List.mem_cons.mp z).elim e e2)]
theorem range_getD {α : Type} (f : α → Nat) (d : α) : ∀ l : List α, (List.range l.length).map (fun k => f (l.getD k d)) = l.map f := fun l => by
  apply List.ext_getElem
  · simp
  · intro i h1 h2
    simp only [List.getElem_map, List.getElem_range]
    rw [List.getD_eq_getElem?_getD, List.getElem?_eq_getElem (by simpa using h2)]
    rfl
theorem flat_count {f : Pts → Bool} {g : Nat → List Pts} : ∀ ks : List Nat, (ks.flatMap g).countP f = (ks.map fun k => (g k).countP f).sum
  | [] => rfl
  | k :: ks => by rw [List.flatMap_cons, List.countP_append, flat_count ks, List.map_cons, List.sum_cons]
abbrev ptsF (F : List QT) : Pts := F.flatMap ptsQ
structure GF (F : List QT) : Prop where
  k : ∀ t ∈ F, ∃ p ch k, t = .node p ch ∧ InK t k
  nd : (ptsF F).Nodup
theorem dis_at {x : Int × Int} : ∀ {F : List QT} {i j : Nat} {a b : QT}, (ptsF F).Nodup → F[i]? = some a → F[j]? = some b → x ∈ ptsQ a → x ∈ ptsQ b → i = j
  | [], i, _, _, _, _, h, _, _, _ => by simp at h
  | t :: F, 0, 0, _, _, _, _, _, _, _ => rfl
  | t :: F, 0, j + 1, a, b, nd, h1, h2, m1, m2 => by
    cases h1
    rw [ptsF, List.flatMap_cons] at nd
    exact absurd rfl ((List.nodup_append.mp nd).2.2 x m1 x (List.mem_flatMap.mpr ⟨b, List.mem_of_getElem? (by simpa using h2), m2⟩))
  | t :: F, i + 1, 0, a, b, nd, h1, h2, m1, m2 => by
    cases h2
    rw [ptsF, List.flatMap_cons] at nd
    exact absurd rfl ((List.nodup_append.mp nd).2.2 x m2 x (List.mem_flatMap.mpr ⟨a, List.mem_of_getElem? (by simpa using h1), m1⟩))
  | t :: F, i + 1, j + 1, a, b, nd, h1, h2, m1, m2 => by
    rw [ptsF, List.flatMap_cons] at nd
    have := dis_at (F := F) (i := i) (j := j) (List.nodup_append.mp nd).2.1 (by simpa using h1) (by simpa using h2) m1 m2
    omega
theorem kids_pts (p : Int × Int) (ch : Fin 4 → QT) : ptsF (kidsQ (.node p ch)) = (ptsQ (.node p ch)).tail := by
  have h0 : ∀ t : QT, nonnil t = false → ptsQ t = [] := fun t e => by cases t with
    | nil => rfl
    | node _ _ => cases e
  unfold kidsQ ptsF
  simp only [ptsQ, List.tail_cons]
  cases e0 : nonnil (ch 0) <;> cases e1 : nonnil (ch 1) <;> cases e2 : nonnil (ch 2) <;> cases e3 : nonnil (ch 3)
  all_goals
    simp only [List.filter_cons, List.filter_nil, e0, e1, e2, e3, Bool.false_eq_true, if_false, if_true, List.flatMap_cons, List.flatMap_nil, List.append_nil]
    try rw [h0 _ e0]
    try rw [h0 _ e1]
    try rw [h0 _ e2]
    try rw [h0 _ e3]
    try simp
theorem less_perm {F : List QT} {m : Nat} {p : Int × Int} {ch : Fin 4 → QT} (h : F[m]? = some (.node p ch)) : (p :: ptsF (F.eraseIdx m ++ kidsQ (.node p ch))).Perm (ptsF F) := by
  obtain ⟨hlt, e⟩ := List.getElem?_eq_some_iff.mp h
  have e2 : F = F.take m ++ .node p ch :: F.drop (m + 1) := by rw [← e, ← List.drop_eq_getElem_cons hlt, List.take_append_drop]
  rw [List.eraseIdx_eq_take_drop_succ]
  conv => rhs; rw [e2]
  unfold ptsF
  rw [List.flatMap_append, List.flatMap_append, List.flatMap_append, List.flatMap_cons]
  have ek : (kidsQ (.node p ch)).flatMap ptsQ = (ptsQ (.node p ch)).tail := kids_pts p ch
  rw [ek]
  have ep : ptsQ (.node p ch) = p :: (ptsQ (.node p ch)).tail := rfl
  generalize (ptsQ (.node p ch)).tail = K at ep ⊢
  rw [ep, List.append_assoc, List.cons_append]
  refine List.perm_middle.symm.trans (List.Perm.append_left _ (List.Perm.cons _ ?_))
  exact List.perm_append_comm
theorem gf_less {F : List QT} (g : GF F) {m : Nat} {p : Int × Int} {ch : Fin 4 → QT} (h : F[m]? = some (.node p ch)) : GF (F.eraseIdx m ++ kidsQ (.node p ch)) := by
  refine ⟨fun t ht => ?_, ?_⟩
  · rcases List.mem_append.mp ht with ht | ht
    · exact g.k t (List.mem_of_mem_eraseIdx ht)
    · obtain ⟨p', ch', k, e, hk⟩ := g.k _ (List.mem_of_getElem? h)
      cases e
      obtain ⟨h1, h2⟩ := List.mem_filter.mp ht
      have : ∃ j, t = ch j := by
        simp only [List.mem_cons, List.not_mem_nil, or_false] at h1
        rcases h1 with rfl | rfl | rfl | rfl
        · exact ⟨0, rfl⟩
        · exact ⟨1, rfl⟩
        · exact ⟨2, rfl⟩
        · exact ⟨3, rfl⟩
      obtain ⟨j, rfl⟩ := this
      cases e : ch j with
      | nil => rw [e] at h2; cases h2
      | node q dh => exact ⟨q, dh, k.nar p j, rfl, by rw [← e]; exact hk.2 j⟩
  · have := (less_perm h).nodup_iff.mpr g.nd
    exact (List.nodup_cons.mp this).2
def builds (F : List QT) (l : Pts) : Prop := ∀ t ∈ F, treeQ (l.filter fun x => decide (x ∈ ptsQ t)) = t
/-- a list that begins with a point -/
theorem build_cons {F : List QT} (g : GF F) {p : Int × Int} {l : Pts} (hp : (p :: l).Perm (ptsF F)) {m : Nat} {q : Int × Int} {ch : Fin 4 → QT} (h : F[m]? = some (.node q ch)) (hm : p ∈ ptsQ (.node q ch)) :
    builds F (p :: l) ↔ q = p ∧ builds (F.eraseIdx m ++ kidsQ (.node q ch)) l := by
  have nd : (p :: l).Nodup := hp.nodup_iff.mpr g.nd
  have hpl : p ∉ l := (List.nodup_cons.mp nd).1
  obtain ⟨q', ch', k, e, hk⟩ := g.k _ (List.mem_of_getElem? h)
  cases e
  have oth : ∀ t, t ∈ F.eraseIdx m → (p :: l).filter (fun x => decide (x ∈ ptsQ t)) = l.filter fun x => decide (x ∈ ptsQ t) := fun t ht => by
    obtain ⟨i, hi⟩ := List.mem_iff_getElem?.mp ht
    have : ∃ i', i' ≠ m ∧ F[i']? = some t := by
      rw [List.getElem?_eraseIdx] at hi
      by_cases e : i < m
      · rw [if_pos e] at hi; exact ⟨i, by omega, hi⟩
      · rw [if_neg e] at hi; exact ⟨i + 1, by omega, hi⟩
    obtain ⟨i', hne, hi'⟩ := this
    have hnot : p ∉ ptsQ t := fun z => hne (dis_at g.nd hi' h z hm)
    rw [List.filter_cons, if_neg (by simpa using hnot)]
  have own : (p :: l).filter (fun x => decide (x ∈ ptsQ (.node q ch))) = p :: l.filter fun x => decide (x ∈ ptsQ (.node q ch)) := by
    rw [List.filter_cons, if_pos (by simpa using hm)]
  have kid : q = p → ∀ j, (l.filter fun x => decide (x ∈ ptsQ (.node q ch))).filter (fun x => decide (sideF p x = j)) = l.filter fun x => decide (x ∈ ptsQ (ch j)) := fun e j => by
    subst e
    rw [List.filter_filter]
    refine List.filter_congr fun x hx => ?_
    rw [Bool.eq_iff_iff, Bool.and_eq_true, decide_eq_true_eq, decide_eq_true_eq, decide_eq_true_eq]
    constructor
    · rintro ⟨h1, h2⟩
      rcases pts_mem h2 with rfl | ⟨i, hi⟩
      · exact absurd hx hpl
      · have := (kid_side hk hi).1
        rw [h1] at this
        rw [this]
        exact hi
    · intro h1
      exact ⟨(kid_side hk h1).1, pts_child h1⟩
  constructor
  · intro b
    have b0 := b _ (List.mem_of_getElem? h)
    rw [own, treeQ_cons] at b0
    injection b0 with e1 e2
    refine ⟨e1.symm, fun t ht => ?_⟩
    rcases List.mem_append.mp ht with ht | ht
    · rw [← oth t ht]
      exact b t (List.mem_of_mem_eraseIdx ht)
    · obtain ⟨h1, _⟩ := List.mem_filter.mp ht
      have : ∃ j, t = ch j := by
        simp only [List.mem_cons, List.not_mem_nil, or_false] at h1
        rcases h1 with rfl | rfl | rfl | rfl
        · exact ⟨0, rfl⟩
        · exact ⟨1, rfl⟩
        · exact ⟨2, rfl⟩
        · exact ⟨3, rfl⟩
      obtain ⟨j, rfl⟩ := this
      rw [← kid e1.symm j]
      exact congrFun e2 j
  · rintro ⟨rfl, b⟩ t ht
    obtain ⟨i, hi⟩ := List.mem_iff_getElem?.mp ht
    by_cases e : i = m
    · subst e
      rw [h] at hi
      cases hi
      rw [own, treeQ_cons]
      congr 1
      funext j
      rw [kid rfl j]
      by_cases hn : nonnil (ch j) = true
      · refine b (ch j) (List.mem_append.mpr (.inr (List.mem_filter.mpr ⟨?_, hn⟩)))
        match j with
        | 0 => simp
        | 1 => simp
        | 2 => simp
        | 3 => simp
      · have e0 : ch j = .nil := by
          cases z : ch j with
          | nil => rfl
          | node _ _ => rw [z] at hn; exact absurd rfl hn
        rw [e0]
        have ef : (l.filter fun x => decide (x ∈ ptsQ .nil)) = [] := by simp [ptsQ]
        rw [ef]
        rfl
    · have ht' : t ∈ F.eraseIdx m := by
        refine List.mem_iff_getElem?.mpr ?_
        by_cases c : i < m
        · exact ⟨i, by rw [List.getElem?_eraseIdx, if_pos c]; exact hi⟩
        · exact ⟨i - 1, by rw [List.getElem?_eraseIdx, if_neg (by omega)]; rw [show i - 1 + 1 = i by omega]; exact hi⟩
      rw [oth t ht']
      exact b t (List.mem_append.mpr (.inl ht'))
end PM

namespace PM
open PySem PySem.Spec PyProof.Rows L2 Q2
theorem sum_congr {α : Type} {f g : α → Nat} : ∀ {l : List α}, (∀ a ∈ l, f a = g a) → (l.map f).sum = (l.map g).sum
  | [], _ => rfl
  | a :: l, h => by
    rw [List.map_cons, List.map_cons, List.sum_cons, List.sum_cons, h a (List.mem_cons_self ..), sum_congr fun b hb => h b (List.mem_cons_of_mem _ hb)]
theorem sum_zero {α : Type} {f : α → Nat} {l : List α} (h : ∀ a ∈ l, f a = 0) : (l.map f).sum = 0 := by
  rw [sum_congr (g := fun _ => 0) h]
  clear h
  induction l with
  | nil => rfl
  | cons a l ih => simpa using ih
/-- one summand alone -/
theorem sum_only {f : Nat → Nat} {m r : Nat} : ∀ {n : Nat}, m < n → (∀ i, i < n → i ≠ m → f i = 0) → f m = r → ((List.range n).map f).sum = r
  | 0, h, _, _ => absurd h (Nat.not_lt_zero _)
  | n + 1, h, hz, hm => by
    rw [List.range_succ, List.map_append, List.sum_append, List.map_cons, List.map_nil, List.sum_cons, List.sum_nil]
    by_cases e : m = n
    · subst e
      rw [hm, sum_zero fun i hi => hz i (by have := List.mem_range.mp hi; omega) (by have := List.mem_range.mp hi; omega)]
      omega
    · rw [sum_only (n := n) (by omega) (fun i hi hne => hz i (by omega) hne) hm, hz n (by omega) (fun z => e z.symm)]
      omega
theorem root_mem {F : List QT} (g : GF F) {t : QT} (h : t ∈ F) : rootQ t ∈ ptsQ t := by
  obtain ⟨p, ch, k, rfl, _⟩ := g.k t h
  simp [rootQ, ptsQ]
open Classical in
theorem count_builds : ∀ (n : Nat) (F : List QT) (S : Pts), GF F → S.length = n → S.Perm (ptsF F) → (permsP n S).countP (fun l => decide (builds F l)) = readN n F
  | 0, F, S, g, hn, hp => by
    have hS : S = [] := List.length_eq_zero_iff.mp hn
    subst hS
    have hF : F = [] := by
      cases F with
      | nil => rfl
      | cons t F =>
        have h1 := root_mem g (t := t) (List.mem_cons_self ..)
        have h2 : rootQ t ∈ ptsF (t :: F) := List.mem_flatMap.mpr ⟨t, List.mem_cons_self .., h1⟩
        have := hp.mem_iff.mpr h2
        simp at this
    subst hF
    have hb : builds [] [] := fun t ht => by simp at ht
    simp [permsP, readN, hb]
  | n + 1, F, S, g, hn, hp => by
    have nd : S.Nodup := hp.nodup_iff.mpr g.nd
    have hF : F ≠ [] := by
      intro z
      subst z
      have h0 : S.length = 0 := hp.length_eq
      omega
    have key : ∀ k, k < S.length → (permsP n (S.eraseIdx k)).countP ((fun l => decide (builds F l)) ∘ fun r => S.getD k (0, 0) :: r) = ((List.range F.length).map fun m => if rootQ (F.getD m .nil) = S.getD k (0, 0) then readN n (F.eraseIdx m ++ kidsQ (F.getD m .nil)) else 0).sum := by
      intro k hk
      have pk := pop_perm hk
      generalize S.getD k (0, 0) = p at pk
      have hpF : (p :: S.eraseIdx k).Perm (ptsF F) := pk.trans hp
      have hpm : p ∈ ptsF F := hpF.mem_iff.mp (List.mem_cons_self ..)
      obtain ⟨t, ht, hpt⟩ := List.mem_flatMap.mp hpm
      obtain ⟨m, hm⟩ := List.mem_iff_getElem?.mp ht
      obtain ⟨q, ch, ks, rfl, hks⟩ := g.k t ht
      have hml : m < F.length := (List.getElem?_eq_some_iff.mp hm).1
      have hgm : F.getD m .nil = .node q ch := by rw [List.getD_eq_getElem?_getD, hm]; rfl
      have hlen : (S.eraseIdx k).length = n := by rw [List.length_eraseIdx_of_lt hk]; omega
      have other : ∀ i, i < F.length → i ≠ m → (if rootQ (F.getD i .nil) = p then readN n (F.eraseIdx i ++ kidsQ (F.getD i .nil)) else 0) = 0 := fun i hi hne => by
        have hgi : F[i]? = some (F.getD i .nil) := by rw [List.getD_eq_getElem?_getD, List.getElem?_eq_getElem hi]; rfl
        rw [if_neg]
        intro e
        have h1 := root_mem g (List.mem_of_getElem? hgi)
        rw [e] at h1
        exact hne (dis_at g.nd hgi hm h1 hpt)
      have bc : ∀ r, r ∈ permsP n (S.eraseIdx k) → (builds F (p :: r) ↔ q = p ∧ builds (F.eraseIdx m ++ kidsQ (.node q ch)) r) := fun r hr =>
        build_cons g ((List.Perm.cons p (perms_perm n _ hlen r hr)).trans hpF) hm hpt
      by_cases e : q = p
      · subst e
        have hl := less_perm hm
        have hS2 : (S.eraseIdx k).Perm (ptsF (F.eraseIdx m ++ kidsQ (.node q ch))) := List.Perm.cons_inv (hpF.trans hl.symm)
        have ih := count_builds n _ _ (gf_less g hm) hlen hS2
        rw [sum_only hml other (r := readN n (F.eraseIdx m ++ kidsQ (.node q ch))) (by rw [hgm]; exact if_pos rfl), ← ih]
        refine List.countP_congr fun r hr => ?_
        have := bc r hr
        simp only [Function.comp_apply, decide_eq_true_eq]
        rw [this]
        exact ⟨fun h => h.2, fun h => ⟨rfl, h⟩⟩
      · have hz : (if rootQ (F.getD m .nil) = p then readN n (F.eraseIdx m ++ kidsQ (F.getD m .nil)) else 0) = 0 := by
          rw [hgm]
          exact if_neg e
        rw [sum_only hml other hz]
        rw [List.countP_eq_zero]
        intro r hr
        have := bc r hr
        simp only [Function.comp_apply, decide_eq_true_eq]
        rw [this]
        exact fun h => e h.1
    have roots : ∀ m, m < F.length → rootQ (F.getD m .nil) ∈ S := fun m hm => by
      have hgi : F[m]? = some (F.getD m .nil) := by rw [List.getD_eq_getElem?_getD, List.getElem?_eq_getElem hm]; rfl
      exact hp.mem_iff.mpr (List.mem_flatMap.mpr ⟨_, List.mem_of_getElem? hgi, root_mem g (List.mem_of_getElem? hgi)⟩)
    show ((List.range S.length).flatMap fun k => (permsP n (S.eraseIdx k)).map fun r => S.getD k (0, 0) :: r).countP _ = _
    rw [flat_count]
    rw [sum_congr (g := fun k => ((List.range F.length).map fun m => if rootQ (F.getD m .nil) = S.getD k (0, 0) then readN n (F.eraseIdx m ++ kidsQ (F.getD m .nil)) else 0).sum) fun k hk => by
      rw [List.countP_map]
      exact key k (List.mem_range.mp hk)]
    rw [range_getD (fun p => ((List.range F.length).map fun m => if rootQ (F.getD m .nil) = p then readN n (F.eraseIdx m ++ kidsQ (F.getD m .nil)) else 0).sum) (0, 0) S]
    rw [sum_swap]
    rw [sum_congr (g := fun m => readN n (F.eraseIdx m ++ kidsQ (F.getD m .nil))) fun m hm => by
      rw [sum_one nd, if_pos (roots m (List.mem_range.mp hm))]]
    show _ = max _ (if F = [] then 1 else 0)
    rw [if_neg hF, Nat.max_zero]
open Classical in
/-- so many orders give a tree as it can be read -/
theorem count_tree {ps σ : Pts} (nd : ps.Nodup) (hne : ps ≠ []) (hσ : σ.Perm ps) {k : Ks} (hk : InK (treeQ σ) k) : (permsP ps.length ps).countP (fun l => decide (treeQ l = treeQ σ)) = readN ps.length [treeQ σ] := by
  have hT := pts_tree σ
  have hpT : ps.Perm (ptsF [treeQ σ]) := by
    have : ptsF [treeQ σ] = ptsQ (treeQ σ) := by simp [ptsF]
    rw [this]
    exact (hT.trans hσ).symm
  have hn : σ ≠ [] := fun z => hne (by subst z; exact List.Perm.eq_nil hσ.symm)
  have g : GF [treeQ σ] := by
    refine ⟨fun t ht => ?_, hpT.nodup_iff.mp nd⟩
    rw [List.mem_singleton.mp ht]
    cases σ with
    | nil => exact absurd rfl hn
    | cons p r =>
      rw [treeQ_cons] at hk ⊢
      exact ⟨p, _, k, rfl, hk⟩
  rw [← count_builds ps.length [treeQ σ] ps g rfl hpT]
  refine List.countP_congr fun l hl => ?_
  have hlp := perms_perm _ _ rfl l hl
  have ef : (l.filter fun x => decide (x ∈ ptsQ (treeQ σ))) = l := List.filter_eq_self.mpr fun x hx => decide_eq_true (hT.mem_iff.mpr (hσ.mem_iff.mpr (hlp.mem_iff.mp hx)))
  simp only [decide_eq_true_eq]
  constructor
  · intro h t ht
    rw [List.mem_singleton.mp ht, ef, h]
  · intro h
    have := h (treeQ σ) (List.mem_singleton.mpr rfl)
    rwa [ef] at this
end PM

namespace PM
open PySem PySem.Spec PyProof.Rows L2 Q2
/-! ### some order is shallow -/
def figN : Nat → Nat
  | 0 => 0
  | 1 => 1
  | 2 => 2
  | 3 => 2
  | _ => 3
theorem fig_half : ∀ n, n < 5 → 1 + figN ((n + 1) / 2) ≤ figN (n + 1) := by decide
theorem fig_mono : ∀ a b, a ≤ b → figN a ≤ figN b := by
  intro a b h
  match a, b with
  | 0, _ => exact Nat.zero_le _
  | 1, 0 => omega
  | 1, 1 => decide
  | 1, 2 => decide
  | 1, 3 => decide
  | 1, n + 4 => show 1 ≤ 3; omega
  | 2, 0 => omega
  | 2, 1 => omega
  | 2, 2 => decide
  | 2, 3 => decide
  | 2, n + 4 => show 2 ≤ 3; omega
  | 3, 0 => omega
  | 3, 1 => omega
  | 3, 2 => omega
  | 3, 3 => decide
  | 3, n + 4 => show 2 ≤ 3; omega
  | m + 4, n + 4 => exact Nat.le_refl _
  | m + 4, 0 => omega
  | m + 4, 1 => omega
  | m + 4, 2 => omega
  | m + 4, 3 => omega
theorem ht_le {p : Int × Int} {ch : Fin 4 → QT} {n : Nat} (h : ∀ j, (ch j).ht ≤ n) : (QT.node p ch).ht ≤ 1 + n := by
  have := h 0
  have := h 1
  have := h 2
  have := h 3
  simp only [QT.ht]
  omega
theorem filter_le {α : Type} {P Q : α → Bool} (h : ∀ x, P x = true → Q x = true) : ∀ l : List α, (l.filter P).length ≤ (l.filter Q).length
  | [] => Nat.le_refl _
  | a :: l => by
    have ih := filter_le h l
    rw [List.filter_cons, List.filter_cons]
    by_cases e : P a = true
    · rw [if_pos e, if_pos (h a e)]
      simp only [List.length_cons]
      omega
    · rw [if_neg e]
      by_cases e2 : Q a = true
      · rw [if_pos e2]
        simp only [List.length_cons]
        omega
      · rw [if_neg e2]
        exact ih
theorem shallow : ∀ (n : Nat) (ps : Pts), ps.length ≤ n → n ≤ 5 → ps.Nodup → ∃ σ : Pts, σ.Perm ps ∧ (treeQ σ).ht ≤ figN ps.length
  | _, [], _, _, _ => ⟨[], List.Perm.refl _, Nat.le_refl _⟩
  | 0, _ :: _, h, _, _ => absurd h (by simp)
  | n + 1, p0 :: r0, h, hn, nd => by
    -- the middle by the x-keys
    generalize hps : p0 :: r0 = ps at h nd
    have hl : 0 < ps.length := by rw [← hps]; simp
    have pmS := List.mergeSort_perm ps (dle ptP)
    have pw := sort_pw nd
    generalize ps.mergeSort (dle ptP) = s at pmS pw
    have hsl : s.length = ps.length := pmS.length_eq
    have hmid : ps.length / 2 < s.length := by omega
    have es : s = s.take (ps.length / 2) ++ s[ps.length / 2] :: s.drop (ps.length / 2 + 1) := by rw [← List.drop_eq_getElem_cons hmid, List.take_append_drop]
    generalize hA : s.take (ps.length / 2) = A at es
    generalize hB : s.drop (ps.length / 2 + 1) = B at es
    generalize s[ps.length / 2] = p at es
    have lA : A.length = ps.length / 2 := by rw [← hA, List.length_take]; omega
    have lB : B.length = ps.length - (ps.length / 2 + 1) := by rw [← hB, List.length_drop]; omega
    rw [es] at pw pmS
    obtain ⟨pwA, pwB, pwAB⟩ := List.pairwise_append.mp pw
    obtain ⟨pwp, pwB⟩ := List.pairwise_cons.mp pwB
    have perm1 : (p :: (A ++ B)).Perm ps := List.perm_middle.symm.trans pmS
    have ndAB : (p :: (A ++ B)).Nodup := perm1.nodup_iff.mpr nd
    have hpart : ∀ j, ((A ++ B).filter fun x => decide (sideF p x = j)).length ≤ ps.length / 2 := by
      intro j
      rw [List.filter_append, List.length_append]
      cases hj : isHi j with
      | true =>
        have : (A.filter fun x => decide (sideF p x = j)) = [] := by
          refine List.filter_eq_nil_iff.mpr fun x hx => ?_
          have h1 := pwAB x hx p (List.mem_cons_self ..)
          simp only [decide_eq_true_eq]
          intro e
          have h2 := isHi_side p x
          rw [e, hj] at h2
          rw [ltK_anti h1] at h2
          cases h2
        rw [this]
        have := List.length_filter_le (fun x => decide (sideF p x = j)) B
        simp only [List.length_nil]
        omega
      | false =>
        have : (B.filter fun x => decide (sideF p x = j)) = [] := by
          refine List.filter_eq_nil_iff.mpr fun x hx => ?_
          have h1 := pwp x hx
          simp only [decide_eq_true_eq]
          intro e
          have h2 := isHi_side p x
          rw [e, hj, h1] at h2
          cases h2
        rw [this]
        have := List.length_filter_le (fun x => decide (sideF p x = j)) A
        simp only [List.length_nil]
        omega
    have part : ∀ j : Fin 4, ∃ σ : Pts, σ.Perm ((A ++ B).filter fun x => decide (sideF p x = j)) ∧ (treeQ σ).ht ≤ figN (ps.length / 2) := fun j => by
      have h1 := hpart j
      obtain ⟨σ, h2, h3⟩ := shallow n ((A ++ B).filter fun x => decide (sideF p x = j)) (by omega) (by omega) ((List.nodup_cons.mp ndAB).2.filter _)
      exact ⟨σ, h2, Nat.le_trans h3 (fig_mono _ _ h1)⟩
    have hf := Classical.axiomOfChoice part
    obtain ⟨f, hf⟩ := hf
    have hside : ∀ j, ∀ x ∈ f j, sideF p x = j := fun j x hx => by
      have := ((hf j).1.mem_iff.mp hx)
      simpa using (List.mem_filter.mp this).2
    refine ⟨p :: all4.flatMap f, ?_, ?_⟩
    · exact (List.Perm.cons p ((flat_perm (fun j => (hf j).1) all4).trans (perm4 (sideF p) (A ++ B)))).trans perm1
    · rw [treeQ_cons]
      refine Nat.le_trans (ht_le (n := figN (ps.length / 2)) fun j => ?_) ?_
      · rw [filter_part (s := sideF p) hside j]
        exact (hf j).2
      · have := fig_half (ps.length - 1) (by omega)
        rw [show ps.length - 1 + 1 = ps.length by omega] at this
        exact this
/-! ### rising lines -/
def lineP (n : Nat) : Pts := (List.range n).map fun k : Nat => ((k : Int), 5 * (k : Int))
theorem line_ok : ∀ n, n < 6 → minL ((permsP n (lineP n)).map fun l => (((treeQ l).ht : Nat) : Int)) = (figN n : Nat) := by
  have : ∀ n : Fin 6, minL ((permsP n.val (lineP n.val)).map fun l => (((treeQ l).ht : Nat) : Int)) = (figN n.val : Nat) := by decide +kernel
  exact fun n h => this ⟨n, h⟩
end PM

namespace PM
open PySem PySem.Spec PyProof.Rows L2 Q2
local macro_rules | `(tactic| walk_at "fn") => `(tactic| (first | refine w_fn1 ?_ | refine w_fn2 ?_ | refine w_fn3 ?_ | refine w_fn4 ?_ | refine w_fn5 ?_ | refine w_fn6 ?_); dsimp only [List.replicate])
local macro_rules | `(tactic| walk_at "kb") => `(tactic| with_reducible first | exact kb_int_int | exact kb_int_bool | exact kb_int_str | exact kb_int_list | exact kb_int_tuple | exact kb_bool_int | exact kb_bool_bool | exact kb_bool_str | exact kb_bool_list | exact kb_bool_tuple | exact kb_str_int | exact kb_str_bool | exact kb_str_str | exact kb_str_list | exact kb_str_tuple | exact kb_list_int | exact kb_list_bool | exact kb_list_str | exact kb_list_list | exact kb_list_tuple | exact kb_tuple_int | exact kb_tuple_bool | exact kb_tuple_str | exact kb_tuple_list | exact kb_tuple_tuple | exact kb_NoneType_int | exact kb_NoneType_bool | exact kb_NoneType_str | exact kb_NoneType_list | exact kb_NoneType_tuple)
local macro_rules | `(tactic| walk_at "go1") => `(tactic| first
  | ((with_reducible refine w_var (v := ?v) ?h ?_); case h => exact rfl)
  | with_reducible first
  | refine w_c ?_ | refine w_m2 ?_ | refine w_m1 ?_ | refine w_maC ?_ | refine w_maN ?_ | refine w_mL ?_ | refine w_call ?_
  | refine w_mtOf ?_ | refine w_mtNot ?_ | refine w_mtAnd ?_ | refine w_mtOr ?_ | refine w_meAnd ?_ | refine w_meOr ?_ | refine w_mNot ?_
  | refine ws_seq ?_ | (refine ws_set ?_) | refine ws_ret ?_ | refine ws_if ?_ | refine ws_expr ?_ | refine ws_nil ?_ | refine ws_asg ?_
  | refine wo_int ?_ | refine wo_add ?_ | refine wo_addI ?_ | refine wo_sub ?_ | refine wo_lt ?_ | refine wo_le ?_ | refine wo_gt ?_ | refine wo_ge ?_
  | refine wo_max2 ?_ | refine wo_min2 ?_ | refine wo_abs ?_ | refine wo_neg ?_ | refine wo_eqI ?_ | refine wo_neI ?_ | refine wo_intB ?_ | refine wo_ixT rfl ?_ | refine ws_brk ?_ | refine ws_cnt ?_ | refine w_if ?_ | refine ws_par ?_ | refine ws_par3 ?_ | (refine ⟨_, _, rfl, ?_⟩) | (refine ⟨_, _, _, rfl, ?_⟩) | refine w_isN ?_ | refine w_notN ?_ | refine ite_t ?_ | refine ite_f ?_ | refine ite_nt ?_ | refine ite_nf ?_ | refine w_chain ?_ | refine w_isiT ?_ | refine wg_sub ?_ | (refine ⟨_, rfl, ?_⟩) | refine wg_v ?_ | refine wg_c ?_ | refine wg_n ?_ | refine w_sl ?_ | refine w_optS ?_ | refine w_optN ?_ | refine wo_sl31 ?_)
local macro_rules | `(tactic| walk_at "go2") => `(tactic| first
  | walk_at "go1"
  | ((with_reducible refine wo_mod ?h ?_); case h => omega) | ((with_reducible refine wo_div ?h ?_); case h => omega) | ((with_reducible refine wo_mul_l ?h ?_); case h => omega) | ((with_reducible refine wo_mul_r ?h ?_); case h => omega)
  | ((with_reducible refine wo_shr ?h ?_); case h => omega) | ((with_reducible refine wo_shl ?h ?_); case h => omega) | ((with_reducible refine wo_pow ?h ?_); case h => omega)
  | ((with_reducible refine ite_d ?a ?b); (case b => exact fun h => absurd (by omega) h); intro _)
  | ((with_reducible refine ite_d ?a ?b); (case a => exact fun h => absurd h (by omega)); intro _)
  | ((with_reducible refine ite_d ?a ?b) <;> intro _)
  | ((with_reducible refine ⟨_, _, ?xs, ?j, rfl, rfl, ?h, ?e, ?_⟩); (case h => assumption); (case e => exact rfl))
  | ((with_reducible refine ite_nd ?a ?b); (case b => exact fun h => absurd h (by omega)); intro _)
  | ((with_reducible refine ite_nd ?a ?b); (case a => exact fun h => absurd (by omega) h); intro _)
  | ((with_reducible refine ite_nd ?a ?b) <;> intro _)
  | ((with_reducible refine wg_t ?h ?_); case h => exact rfl)
  | ((with_reducible refine wo_addL (xs := ?xs) (ys := ?ys) (lst_ref ?h1) (lst_ref ?h2) ?h3 ?_); (case h1 => first | assumption | exact get_app (by assumption)); (case h2 => first | assumption | exact get_app (by assumption)); (case h3 => (show _ ≤ 2 ^ 24; simp only [List.length_append, List.length_cons, List.length_nil, List.length_map]; omega)))
  | ((with_reducible refine wo_isi (k := ?k) (b := ?b) ?h1 ?h2 ?_); (case h1 => first | exact rfl | exact kind_ref (by assumption)); (case h2 => walk_at "kb"))
  | ((with_reducible refine wo_len (xs := ?xs) ?h ?_); (case h => first | exact rfl | exact seq_ref (by assumption)))
  | ((with_reducible refine wo_ixL (xs := ?xs) (x := ?x) ?h1 ?h2 ?_); (case h1 => exact lst_ref (by assumption)); (case h2 => exact rfl))
  | ((with_reducible refine wo_tup ?h ?_); case h => (simp only [List.length_cons, List.length_nil]; decide)) | ((with_reducible refine wo_lst ?h ?_); case h => (simp only [List.length_cons, List.length_nil]; decide)))
local macro_rules | `(tactic| walk_at "go") => `(tactic| (repeat' walk_at "go2") <;> try dsimp only [List.set_cons_zero, List.set_cons_succ])

section
variable {S S' : Sto}
theorem rows_lo (g : Lo S S') : ∀ {vs : List Va} {rows : List (List Va)}, rowsOf S vs = some rows → rowsOf S' vs = some rows
  | [], _, h => h
  | .ref n :: vs, rows, h => by
    unfold rowsOf at h ⊢
    cases e1 : S[n]? with
    | none => rw [e1] at h; simp at h
    | some o =>
      cases o with
      | lst xs =>
        cases e2 : rowsOf S vs with
        | none => rw [e1, e2] at h; simp at h
        | some l =>
          rw [e1, e2] at h
          rw [g.get e1, rows_lo g e2]
          exact h
      | _ => rw [e1] at h; simp at h
  | .non :: _, _, h => by cases h
  | .bl _ :: _, _, h => by cases h
  | .int _ :: _, _, h => by cases h
  | .str _ :: _, _, h => by cases h
  | .tup _ :: _, _, h => by cases h
  | .rol _ :: _, _, h => by cases h
  | .adr _ :: _, _, h => by cases h
  | .ty _ :: _, _, h => by cases h
  | .exc _ _ _ _ :: _, _, h => by cases h
theorem rows_cons {n : Nat} {vs : List Va} {xs : List Va} {rows : List (List Va)} (h1 : S[n]? = some (.lst xs)) (h2 : rowsOf S vs = some rows) : rowsOf S (.ref n :: vs) = some (xs :: rows) := by
  unfold rowsOf
  rw [h1, h2]
theorem rows_uncons {v : Va} {vs : List Va} {rows : List (List Va)} (h : rowsOf S (v :: vs) = some rows) : ∃ n xs l, v = .ref n ∧ S[n]? = some (.lst xs) ∧ rowsOf S vs = some l ∧ rows = xs :: l := by
  cases v with
  | ref n =>
    unfold rowsOf at h
    cases e1 : S[n]? with
    | none => rw [e1] at h; simp at h
    | some o =>
      cases o with
      | lst xs =>
        cases e2 : rowsOf S vs with
        | none => rw [e1, e2] at h; simp at h
        | some l =>
          rw [e1, e2] at h
          cases h
          exact ⟨n, xs, l, rfl, e1, rfl, rfl⟩
      | _ => rw [e1] at h; simp at h
  | _ => unfold rowsOf at h; cases h
theorem rows_app : ∀ {vs ws : List Va} {rows rows' : List (List Va)}, rowsOf S vs = some rows → rowsOf S ws = some rows' → rowsOf S (vs ++ ws) = some (rows ++ rows')
  | [], _, _, _, h, h' => by cases h; exact h'
  | v :: vs, ws, rows, rows', h, h' => by
    obtain ⟨n, xs, l, rfl, h1, h2, rfl⟩ := rows_uncons h
    exact rows_cons h1 (rows_app h2 h')
theorem rows_len : ∀ {vs : List Va} {rows : List (List Va)}, rowsOf S vs = some rows → vs.length = rows.length
  | [], _, h => by cases h; rfl
  | v :: vs, rows, h => by
    obtain ⟨n, xs, l, rfl, h1, h2, rfl⟩ := rows_uncons h
    simp [rows_len h2]
theorem rows_at : ∀ {vs : List Va} {rows : List (List Va)} {i : Nat} {x : Va}, rowsOf S vs = some rows → vs[i]? = some x → ∃ n xs, x = .ref n ∧ S[n]? = some (.lst xs) ∧ rows[i]? = some xs
  | v :: vs, rows, 0, x, h, e => by
    obtain ⟨n, xs, l, rfl, h1, h2, rfl⟩ := rows_uncons h
    cases e
    exact ⟨n, xs, rfl, h1, rfl⟩
  | v :: vs, rows, i + 1, x, h, e => by
    obtain ⟨n, xs, l, rfl, h1, h2, rfl⟩ := rows_uncons h
    exact rows_at (i := i) h2 (by simpa using e)
  | [], _, _, _, _, e => by simp at e
theorem rows_snoc {n : Nat} {vs : List Va} {xs : List Va} {rows : List (List Va)} (h : rowsOf S vs = some rows) (h1 : S[n]? = some (.lst xs)) : rowsOf S (vs ++ [.ref n]) = some (rows ++ [xs]) := rows_app h (rows_cons h1 rfl)
end
theorem intsOf_mapV : ∀ xs : List Int, intsOf (xs.map Va.int) = some xs
  | [] => rfl
  | x :: r => by
    show (intsOf (r.map Va.int)).map (x :: ·) = _
    rw [intsOf_mapV r]
    rfl
theorem wo_maxL {S : Sto} {Q : Va → Sto → Prop} {k : Nat} {ns : List Int} (h : S[k]? = some (.lst (ns.map Va.int))) (hn : ns ≠ []) (q : Q (.int (maxL ns)) S) : Wo (fMax [.ref k] S) Q := by
  have e : fMax [.ref k] S = some (.int (maxL ns), S) := by
    show (match (lstOf S (.ref k)).bind intsOf with
      | some (n :: ns) => some (Va.int (maxL (n :: ns)), S)
      | _ => none) = _
    rw [lst_ref h, Option.bind_some, intsOf_mapV]
    cases ns with
    | nil => exact absurd rfl hn
    | cons n ns => rfl
  rw [e]
  exact q
theorem wo_minL {S : Sto} {Q : Va → Sto → Prop} {k : Nat} {ns : List Int} (h : S[k]? = some (.lst (ns.map Va.int))) (hn : ns ≠ []) (q : Q (.int (minL ns)) S) : Wo (fMin [.ref k] S) Q := by
  have e : fMin [.ref k] S = some (.int (minL ns), S) := by
    show (match (lstOf S (.ref k)).bind intsOf with
      | some (n :: ns) => some (Va.int (minL (n :: ns)), S)
      | _ => none) = _
    rw [lst_ref h, Option.bind_some, intsOf_mapV]
    cases ns with
    | nil => exact absurd rfl hn
    | cons n ns => rfl
  rw [e]
  exact q
theorem eqL {S : Sto} {Q : Va → Sto → Prop} {i j : Nat} {l : Pts} (h1 : S[i]? = some (.lst (l.map ptV))) (h2 : S[j]? = some (.lst [])) (q : Q (.bl (decide (l = []))) S) : Wo (fEq (.ref i) (.ref j) S) Q :=
  wo_eqD (EqD.list ptE) (ptsR h1) (ptsR (l := []) h2) (by decide) (by decide) q
def permsK (n : Nat) (l : Pts) (k : Nat) : List Pts := (List.range k).flatMap fun k => (permsP n (l.eraseIdx k)).map fun r => l.getD k (0, 0) :: r
theorem permsK_succ (n : Nat) (l : Pts) (k : Nat) : permsK n l (k + 1) = permsK n l k ++ (permsP n (l.eraseIdx k)).map fun r => l.getD k (0, 0) :: r := by
  unfold permsK
  rw [List.range_succ, List.flatMap_append, List.flatMap_cons, List.flatMap_nil, List.append_nil]
theorem permsK_len {n : Nat} {l : Pts} (hn : n < 5) (hl : l.length = n + 1) : ∀ k, k ≤ l.length → (permsK n l k).length ≤ k * 1296
  | 0, _ => by simp [permsK]
  | k + 1, h => by
    have ih := permsK_len hn hl k (by omega)
    have h1 := perms_len n (l.eraseIdx k) (by omega) (by rw [List.length_eraseIdx_of_lt (by omega)]; omega)
    have h2 : 6 ^ n ≤ 1296 := Nat.le_trans (Nat.pow_le_pow_right (by decide) (show n ≤ 4 by omega)) (by decide)
    rw [permsK_succ, List.length_append, List.length_map, Nat.succ_mul]
    omega
theorem sp_orders : ∀ (n f : Nat) (l : Pts) (S : Sto) (i : Nat), l.length = n → n < f → n ≤ 5 → S[i]? = some (.lst (l.map ptV)) → Wp (m_law_orders f [.ref i] S) (fun v S' => ∃ j vs, v = .ref j ∧ S'[j]? = some (.lst vs) ∧ rowsOf S' vs = some ((permsP n l).map (·.map ptV)) ∧ S.length ≤ j ∧ Lo S S')
  | _, 0, _, _, _, _, h, _, _ => absurd h (Nat.not_lt_zero _)
  | 0, f + 1, l, S, i, hl, hf, h5, hi => by
    have hl0 : l = [] := List.length_eq_zero_iff.mp hl
    subst hl0
    walk_at "fn"
    unfold b_law_orders
    walk_at "go"
    refine eqL (get_app hi) get_last ?_
    rw [decide_eq_true rfl]
    walk_at "go"
    refine ⟨_, _, rfl, get_last, rows_cons (xs := []) (get_app get_last) rfl, by simp, ((Lo.app _ _).trans (Lo.app _ _)).trans (Lo.app _ _)⟩
  | n + 1, f + 1, l, S, i, hl, hf, h5, hi => by
    have hne : l ≠ [] := fun z => by rw [z] at hl; simp at hl
    walk_at "fn"
    unfold b_law_orders
    walk_at "go"
    refine eqL (get_app hi) get_last ?_
    rw [decide_eq_false hne]
    walk_at "go"
    refine ws_forE (.ref i) (l.map ptV) (fun k Γ S' => Lo S S' ∧ k ≤ l.length ∧ ∃ (j : Nat) (vs : List Va) (z2 z3 : Option Va), Γ = [some (.ref i), some (.ref j), z2, z3, none] ∧ S'[j]? = some (.lst vs) ∧ rowsOf S' vs = some ((permsK n l k).map (·.map ptV)) ∧ S.length ≤ j) ?_ (fun k Γ S' h => .inl ⟨i, rfl, h.1.get hi⟩) ?_ ?_
    · walk_at "go"
      exact ⟨rfl, (Lo.app _ _).trans (Lo.app _ _), Nat.zero_le _, _, [], none, none, rfl, get_last, rfl, by simp⟩
    · rintro k x Γ S1 hx ⟨l1, hk1, j, vs, z2, z3, rfl, hj, hr, hSj⟩
      obtain ⟨p, hp, rfl⟩ := map_at hx
      have hk : k < l.length := (List.getElem?_eq_some_iff.mp hp).1
      have hgp : l.getD k (0, 0) = p := by rw [List.getD_eq_getElem?_getD, hp]; rfl
      have hi1 := l1.get hi
      have nvs := rows_len hr
      rw [List.length_map] at nvs
      have kl := permsK_len (n := n) (l := l) (by omega) hl k hk1
      have hml : (l.map ptV).length = l.length := List.length_map ..
      walk_at "go"
      refine w_lcX ?_
      walk_at "go"
      refine sl_ref hi1 (by rw [cut_to, List.length_take]; omega) ?_
      rw [cut_to]
      walk_at "go"
      have ec : ((k : Int) + 1) = ((k + 1 : Nat) : Int) := by omega
      rw [ec]
      refine sl_ref (get_app hi1) (by rw [cut_from, List.length_drop]; omega) ?_
      rw [cut_from]
      refine wo_addL (lst_ref (get_app get_last)) (lst_ref get_last) (by rw [List.length_append, List.length_take, List.length_drop]; show _ ≤ 2 ^ 24; omega) ?_
      have ee : (l.map ptV).take k ++ (l.map ptV).drop (k + 1) = (l.eraseIdx k).map ptV := by rw [List.eraseIdx_eq_take_drop_succ, List.map_append, List.map_take, List.map_drop]
      rw [ee]
      have g2 : (S1 ++ [Ob.lst ((l.map ptV).take k)] ++ [Ob.lst ((l.map ptV).drop (k + 1))] ++ [Ob.lst ((l.eraseIdx k).map ptV)])[(S1 ++ [Ob.lst ((l.map ptV).take k)] ++ [Ob.lst ((l.map ptV).drop (k + 1))]).length]? = some (.lst ((l.eraseIdx k).map ptV)) := get_last
      have l2 : Lo S1 (S1 ++ [Ob.lst ((l.map ptV).take k)] ++ [Ob.lst ((l.map ptV).drop (k + 1))] ++ [Ob.lst ((l.eraseIdx k).map ptV)]) := ((Lo.app _ _).trans (Lo.app _ _)).trans (Lo.app _ _)
      generalize (S1 ++ [Ob.lst ((l.map ptV).take k)] ++ [Ob.lst ((l.map ptV).drop (k + 1))]).length = r2 at g2 ⊢
      generalize S1 ++ [Ob.lst ((l.map ptV).take k)] ++ [Ob.lst ((l.map ptV).drop (k + 1))] ++ [Ob.lst ((l.eraseIdx k).map ptV)] = S2 at g2 l2 ⊢
      have hel : (l.eraseIdx k).length = n := by rw [List.length_eraseIdx_of_lt hk]; omega
      walk_at "go"
      refine (sp_orders n f (l.eraseIdx k) S2 r2 hel (by omega) (by omega) g2).mono ?_
      rintro _ S3 ⟨j3, vs3, rfl, hj3, hr3, hS3, l3⟩
      have n3 := rows_len hr3
      rw [List.length_map] at n3
      have pl := perms_len n (l.eraseIdx k) (by omega) hel
      have h6 : 6 ^ n ≤ 1296 := Nat.le_trans (Nat.pow_le_pow_right (by decide) (show n ≤ 4 by omega)) (by decide)
      have l13 := l2.trans l3
      refine ⟨vs3, fun m acc S' => Lo S3 S' ∧ rowsOf S' acc = some ((((permsP n (l.eraseIdx k)).take m).map fun r => p :: r).map (·.map ptV)), by show _ < 2 ^ 24; omega, ⟨Lo.refl _, rfl⟩, fun m acc S' h => .inl ⟨j3, rfl, h.1.get hj3⟩, ?_, ?_⟩
      · rintro m x acc S4 hx4 ⟨l4, hacc⟩
        obtain ⟨s, xs, rfl, hs, hm⟩ := rows_at hr3 hx4
        rw [List.getElem?_map] at hm
        cases hq : (permsP n (l.eraseIdx k))[m]? with
        | none => rw [hq] at hm; cases hm
        | some sm =>
          rw [hq] at hm
          cases hm
          have hsl := (perms_perm n _ hel sm (List.mem_of_getElem? hq)).length_eq
          have hs4 := l4.get hs
          walk_at "go"
          refine w_yesE ?_
          walk_at "go"
          refine wo_addL (xs := [ptV p]) (lst_ref get_last) (lst_ref (get_app hs4)) (by rw [List.length_append, List.length_map]; show 1 + _ ≤ 2 ^ 24; omega) ?_
          refine ⟨l4.trans ((Lo.app _ _).trans (Lo.app _ _)), ?_⟩
          rw [take_at hq, List.map_append, List.map_append]
          exact rows_snoc (rows_lo ((Lo.app _ _).trans (Lo.app _ _)) hacc) get_last
      · rintro acc S4 ⟨l4, hacc⟩
        rw [n3, List.take_length] at hacc
        have na := rows_len hacc
        rw [List.length_map, List.length_map] at na
        refine wo_addL (lst_ref (get_app ((l13.trans l4).get hj))) (lst_ref get_last) (by rw [List.length_append]; show _ ≤ 2 ^ 24; omega) ?_
        refine ⟨((l1.trans l13).trans l4).trans ((Lo.app _ _).trans (Lo.app _ _)), hk, _, _, _, _, rfl, get_last, ?_, ?_⟩
        · rw [permsK_succ, hgp, List.map_append]
          exact rows_app (rows_lo (l13.trans (l4.trans ((Lo.app _ _).trans (Lo.app _ _)))) hr) (rows_lo ((Lo.app _ _).trans (Lo.app _ _)) hacc)
        · have := l1.1
          have := l13.1
          have := l4.1
          simp
          omega
    · rintro Γ S1 ⟨l1, _, j, vs, z2, z3, rfl, hj, hr, hSj⟩
      rw [List.length_map] at hr
      walk_at "go"
      exact ⟨j, vs, rfl, hj, hr, hSj, l1⟩
end PM

namespace PM
open PySem PySem.Spec PyProof.Rows L2 Q2
local macro_rules | `(tactic| walk_at "fn") => `(tactic| (first | refine w_fn1 ?_ | refine w_fn2 ?_ | refine w_fn3 ?_ | refine w_fn4 ?_ | refine w_fn5 ?_ | refine w_fn6 ?_); dsimp only [List.replicate])
local macro_rules | `(tactic| walk_at "kb") => `(tactic| with_reducible first | exact kb_int_int | exact kb_int_bool | exact kb_int_str | exact kb_int_list | exact kb_int_tuple | exact kb_bool_int | exact kb_bool_bool | exact kb_bool_str | exact kb_bool_list | exact kb_bool_tuple | exact kb_str_int | exact kb_str_bool | exact kb_str_str | exact kb_str_list | exact kb_str_tuple | exact kb_list_int | exact kb_list_bool | exact kb_list_str | exact kb_list_list | exact kb_list_tuple | exact kb_tuple_int | exact kb_tuple_bool | exact kb_tuple_str | exact kb_tuple_list | exact kb_tuple_tuple | exact kb_NoneType_int | exact kb_NoneType_bool | exact kb_NoneType_str | exact kb_NoneType_list | exact kb_NoneType_tuple)
local macro_rules | `(tactic| walk_at "go1") => `(tactic| first
  | ((with_reducible refine w_var (v := ?v) ?h ?_); case h => exact rfl)
  | with_reducible first
  | refine w_c ?_ | refine w_m2 ?_ | refine w_m1 ?_ | refine w_maC ?_ | refine w_maN ?_ | refine w_mL ?_ | refine w_call ?_
  | refine w_mtOf ?_ | refine w_mtNot ?_ | refine w_mtAnd ?_ | refine w_mtOr ?_ | refine w_meAnd ?_ | refine w_meOr ?_ | refine w_mNot ?_
  | refine ws_seq ?_ | (refine ws_set ?_) | refine ws_ret ?_ | refine ws_if ?_ | refine ws_expr ?_ | refine ws_nil ?_ | refine ws_asg ?_
  | refine wo_int ?_ | refine wo_add ?_ | refine wo_addI ?_ | refine wo_sub ?_ | refine wo_lt ?_ | refine wo_le ?_ | refine wo_gt ?_ | refine wo_ge ?_
  | refine wo_max2 ?_ | refine wo_min2 ?_ | refine wo_abs ?_ | refine wo_neg ?_ | refine wo_eqI ?_ | refine wo_neI ?_ | refine wo_intB ?_ | refine wo_ixT rfl ?_ | refine ws_brk ?_ | refine ws_cnt ?_ | refine w_if ?_ | refine ws_par ?_ | refine ws_par3 ?_ | (refine ⟨_, _, rfl, ?_⟩) | (refine ⟨_, _, _, rfl, ?_⟩) | refine w_isN ?_ | refine w_notN ?_ | refine ite_t ?_ | refine ite_f ?_ | refine ite_nt ?_ | refine ite_nf ?_ | refine w_chain ?_ | refine w_isiT ?_ | refine wg_sub ?_ | (refine ⟨_, rfl, ?_⟩) | refine wg_v ?_ | refine wg_c ?_ | refine wg_n ?_ | refine w_sl ?_ | refine w_optS ?_ | refine w_optN ?_ | refine wo_sl31 ?_)
local macro_rules | `(tactic| walk_at "go2") => `(tactic| first
  | walk_at "go1"
  | ((with_reducible refine wo_mod ?h ?_); case h => omega) | ((with_reducible refine wo_div ?h ?_); case h => omega) | ((with_reducible refine wo_mul_l ?h ?_); case h => omega) | ((with_reducible refine wo_mul_r ?h ?_); case h => omega)
  | ((with_reducible refine wo_shr ?h ?_); case h => omega) | ((with_reducible refine wo_shl ?h ?_); case h => omega) | ((with_reducible refine wo_pow ?h ?_); case h => omega)
  | ((with_reducible refine ite_d ?a ?b); (case b => exact fun h => absurd (by omega) h); intro _)
  | ((with_reducible refine ite_d ?a ?b); (case a => exact fun h => absurd h (by omega)); intro _)
  | ((with_reducible refine ite_d ?a ?b) <;> intro _)
  | ((with_reducible refine ⟨_, _, ?xs, ?j, rfl, rfl, ?h, ?e, ?_⟩); (case h => assumption); (case e => exact rfl))
  | ((with_reducible refine ite_nd ?a ?b); (case b => exact fun h => absurd h (by omega)); intro _)
  | ((with_reducible refine ite_nd ?a ?b); (case a => exact fun h => absurd (by omega) h); intro _)
  | ((with_reducible refine ite_nd ?a ?b) <;> intro _)
  | ((with_reducible refine wg_t ?h ?_); case h => exact rfl)
  | ((with_reducible refine wo_addL (xs := ?xs) (ys := ?ys) (lst_ref ?h1) (lst_ref ?h2) ?h3 ?_); (case h1 => first | assumption | exact get_app (by assumption)); (case h2 => first | assumption | exact get_app (by assumption)); (case h3 => (show _ ≤ 2 ^ 24; simp only [List.length_append, List.length_cons, List.length_nil, List.length_map]; omega)))
  | ((with_reducible refine wo_isi (k := ?k) (b := ?b) ?h1 ?h2 ?_); (case h1 => first | exact rfl | exact kind_ref (by assumption)); (case h2 => walk_at "kb"))
  | ((with_reducible refine wo_len (xs := ?xs) ?h ?_); (case h => first | exact rfl | exact seq_ref (by assumption)))
  | ((with_reducible refine wo_ixL (xs := ?xs) (x := ?x) ?h1 ?h2 ?_); (case h1 => exact lst_ref (by assumption)); (case h2 => exact rfl))
  | ((with_reducible refine wo_tup ?h ?_); case h => (simp only [List.length_cons, List.length_nil]; decide)) | ((with_reducible refine wo_lst ?h ?_); case h => (simp only [List.length_cons, List.length_nil]; decide)))
local macro_rules | `(tactic| walk_at "go") => `(tactic| (repeat' walk_at "go2") <;> try dsimp only [List.set_cons_zero, List.set_cons_succ])

theorem eqF {S : Sto} {Q : Va → Sto → Prop} {i j : Nat} {F : List QT} (h1 : S[i]? = some (.lst (F.map QT.va))) (hF : ∀ t ∈ F, t.ht ≤ 30) (h2 : S[j]? = some (.lst [])) (q : Q (.bl F.isEmpty) S) : Wo (fEq (.ref i) (.ref j) S) Q := by
  letI : DecidableEq (List QT) := fun _ _ => Classical.propDecidable _
  refine wo_eqD (m := 61) (n := 61) (a := F) (b := []) (EqD.list qE) (Rd.ref h1 (RdA.map fun t ht => qR t 60 (by have := hF t ht; omega))) (Rd.ref (vs := []) (ds := []) h2 .nil) (by decide) (by decide) ?_
  have e : @decide (F = []) (this F []) = F.isEmpty := by
    cases F with
    | nil => exact decide_eq_true rfl
    | cons t F => exact decide_eq_false (by simp)
  rw [e]
  exact q
theorem tsz_less {F : List QT} {m : Nat} {t : QT} (h : F[m]? = some t) (hn : nonnil t = true) : tsz (F.eraseIdx m ++ kidsQ t) + 1 = tsz F := by
  obtain ⟨hlt, e⟩ := List.getElem?_eq_some_iff.mp h
  have e2 : F = F.take m ++ t :: F.drop (m + 1) := by rw [← e, ← List.drop_eq_getElem_cons hlt, List.take_append_drop]
  have hk := kids_sz t hn
  rw [List.eraseIdx_eq_take_drop_succ]
  conv => rhs; rw [e2]
  rw [tsz_app, tsz_app, tsz_app]
  have : tsz (t :: F.drop (m + 1)) = t.size + tsz (F.drop (m + 1)) := by unfold tsz; rw [List.map_cons, List.sum_cons]
  rw [this]
  omega
theorem mem_tsz : ∀ {F : List QT} {t : QT}, t ∈ F → t.size ≤ tsz F
  | a :: F, t, h => by
    have e : tsz (a :: F) = a.size + tsz F := by unfold tsz; rw [List.map_cons, List.sum_cons]
    rw [e]
    rcases List.mem_cons.mp h with rfl | h
    · omega
    · have := mem_tsz h
      omega
theorem sp_kidsR {S : Sto} {Γ : En} {p : Int × Int} {ch : Fin 4 → QT} {Q : Va → Sto → Prop} {z0 z1 z2 z4 : Option Va} (hΓ : Γ = [z0, z1, z2, some (QT.node p ch).va, z4]) (q : Q (.ref S.length) (S ++ [.lst ((kidsQ (.node p ch)).map QT.va)])) :
    Wp (mLc (mWalk (m2 fIx (mV 3) (mC (.int 1)))) (gV 4) (mtOf (mNotN (mV 4))) (mV 4) [4] Γ S) Q := by
  subst hΓ
  refine w_lcW (.tup [(ch 0).va, (ch 1).va, (ch 2).va, (ch 3).va]) ((all4.map ch).map QT.va) (fun i acc S' => S' = S ∧ acc = (((all4.map ch).take i).filter nonnil).map QT.va) (by show 4 < 2 ^ 24; decide) ?_ (fun i acc S' h => .inr (.inl rfl)) ?_ ?_
  · walk_at "go"
    rw [node_va]
    walk_at "go"
    exact ⟨rfl, rfl, rfl⟩
  · rintro i x acc S' hx ⟨rfl, rfl⟩
    obtain ⟨t, ht, rfl⟩ := map_at hx
    walk_at "go"
    rw [non_va, take_at ht, List.filter_append, List.map_append]
    cases e : nonnil t with
    | false =>
      refine ite_f ?_
      simp [e]
    | true =>
      refine ite_t ?_
      walk_at "go"
      simp [e]
  · rintro acc S' ⟨rfl, rfl⟩
    exact q
def readK (n : Nat) (F : List QT) (k : Nat) : Nat := ((List.range k).map fun k => readN n (F.eraseIdx k ++ kidsQ (F.getD k .nil))).sum
theorem readK_succ (n : Nat) (F : List QT) (k : Nat) : readK n F (k + 1) = readK n F k + readN n (F.eraseIdx k ++ kidsQ (F.getD k .nil)) := by
  unfold readK
  rw [List.range_succ, List.map_append, List.sum_append, List.map_cons, List.map_nil, List.sum_cons, List.sum_nil, Nat.add_zero]
theorem sp_readings : ∀ (n f : Nat) (F : List QT) (S : Sto) (i : Nat), tsz F = n → n < f → n ≤ 5 → (∀ t ∈ F, nonnil t = true) → S[i]? = some (.lst (F.map QT.va)) → Wp (m_law_readings f [.ref i] S) (fun v S' => v = .int (readN n F : Nat) ∧ Lo S S')
  | _, 0, _, _, _, _, h, _, _, _ => absurd h (Nat.not_lt_zero _)
  | n, f + 1, F, S, i, hF, hf, h5, hn, hi => by
    have hFl := row_small hn
    have hht : ∀ t ∈ F, t.ht ≤ 30 := fun t ht => by
      have h1 := mem_tsz ht
      have h2 := ht_size t
      omega
    have hml : (F.map QT.va).length = F.length := List.length_map ..
    have fin : max (readK (n - 1) F F.length) (if F = [] then 1 else 0) = readN n F := by
      cases n with
      | zero =>
        have hF0 : F = [] := List.length_eq_zero_iff.mp (by omega)
        subst hF0
        rfl
      | succ n => rfl
    walk_at "fn"
    unfold b_law_readings
    walk_at "go"
    refine ws_forE (.ref i) (F.map QT.va) (fun k Γ S' => Lo S S' ∧ ∃ z2 z3, Γ = [some (.ref i), some (.int (readK (n - 1) F k : Nat)), z2, z3, none]) ?_ (fun k Γ S' h => .inl ⟨i, rfl, h.1.get hi⟩) ?_ ?_
    · walk_at "go"
      exact ⟨rfl, Lo.refl _, none, none, rfl⟩
    · rintro k x Γ S1 hx ⟨l1, z2, z3, rfl⟩
      obtain ⟨t, ht, rfl⟩ := map_at hx
      have hk : k < F.length := (List.getElem?_eq_some_iff.mp ht).1
      have htm := List.mem_of_getElem? ht
      have hgt : F.getD k .nil = t := by rw [List.getD_eq_getElem?_getD, ht]; rfl
      have hi1 := l1.get hi
      have hnt := hn t htm
      have hts := tsz_less ht hnt
      have hn1 : ∀ u ∈ F.eraseIdx k ++ kidsQ t, nonnil u = true := fun u hu => by
        rcases List.mem_append.mp hu with hu | hu
        · exact hn u (List.mem_of_mem_eraseIdx hu)
        · exact (kid_mem hu).1
      have hkl : (kidsQ t).length ≤ 4 := by
        cases t with
        | nil => simp [kidsQ]
        | node p ch => exact List.length_filter_le ..
      cases t with
      | nil => cases hnt
      | node p ch =>
        walk_at "go"
        refine sl_ref hi1 (by rw [cut_to, List.length_take]; omega) ?_
        rw [cut_to]
        walk_at "go"
        have ec : ((k : Int) + 1) = ((k + 1 : Nat) : Int) := by omega
        rw [ec]
        refine sl_ref (get_app hi1) (by rw [cut_from, List.length_drop]; omega) ?_
        rw [cut_from]
        refine wo_addL (lst_ref (get_app get_last)) (lst_ref get_last) (by rw [List.length_append, List.length_take, List.length_drop]; show _ ≤ 2 ^ 24; omega) ?_
        have ee : (F.map QT.va).take k ++ (F.map QT.va).drop (k + 1) = (F.eraseIdx k).map QT.va := by rw [List.eraseIdx_eq_take_drop_succ, List.map_append, List.map_take, List.map_drop]
        rw [ee]
        have g2 : (S1 ++ [Ob.lst ((F.map QT.va).take k)] ++ [Ob.lst ((F.map QT.va).drop (k + 1))] ++ [Ob.lst ((F.eraseIdx k).map QT.va)])[(S1 ++ [Ob.lst ((F.map QT.va).take k)] ++ [Ob.lst ((F.map QT.va).drop (k + 1))]).length]? = some (.lst ((F.eraseIdx k).map QT.va)) := get_last
        have l2 : Lo S1 (S1 ++ [Ob.lst ((F.map QT.va).take k)] ++ [Ob.lst ((F.map QT.va).drop (k + 1))] ++ [Ob.lst ((F.eraseIdx k).map QT.va)]) := ((Lo.app _ _).trans (Lo.app _ _)).trans (Lo.app _ _)
        generalize (S1 ++ [Ob.lst ((F.map QT.va).take k)] ++ [Ob.lst ((F.map QT.va).drop (k + 1))]).length = r2 at g2 ⊢
        generalize S1 ++ [Ob.lst ((F.map QT.va).take k)] ++ [Ob.lst ((F.map QT.va).drop (k + 1))] ++ [Ob.lst ((F.eraseIdx k).map QT.va)] = S2 at g2 l2 ⊢
        have hel : (F.eraseIdx k).length + 1 = F.length := by rw [List.length_eraseIdx_of_lt hk]; omega
        refine sp_kidsR rfl ?_
        refine wo_addL (lst_ref (get_app g2)) (lst_ref get_last) (by rw [List.length_append, List.length_map, List.length_map]; show _ ≤ 2 ^ 24; omega) ?_
        rw [← List.map_append]
        have g4 : (S2 ++ [Ob.lst ((kidsQ (.node p ch)).map QT.va)] ++ [Ob.lst ((F.eraseIdx k ++ kidsQ (.node p ch)).map QT.va)])[(S2 ++ [Ob.lst ((kidsQ (.node p ch)).map QT.va)]).length]? = some (.lst ((F.eraseIdx k ++ kidsQ (.node p ch)).map QT.va)) := get_last
        have l4 : Lo S2 (S2 ++ [Ob.lst ((kidsQ (.node p ch)).map QT.va)] ++ [Ob.lst ((F.eraseIdx k ++ kidsQ (.node p ch)).map QT.va)]) := (Lo.app _ _).trans (Lo.app _ _)
        generalize (S2 ++ [Ob.lst ((kidsQ (.node p ch)).map QT.va)]).length = r4 at g4 ⊢
        generalize S2 ++ [Ob.lst ((kidsQ (.node p ch)).map QT.va)] ++ [Ob.lst ((F.eraseIdx k ++ kidsQ (.node p ch)).map QT.va)] = S4 at g4 l4 ⊢
        walk_at "go"
        refine (sp_readings (n - 1) f (F.eraseIdx k ++ kidsQ (.node p ch)) S4 r4 (by omega) (by omega) (by omega) hn1 g4).mono ?_
        rintro _ S5 ⟨rfl, l5⟩
        walk_at "go"
        refine ⟨((l1.trans l2).trans l4).trans l5, some (.int (k : Nat)), some (QT.node p ch).va, ?_⟩
        rw [readK_succ, hgt]
        rfl
    · rintro Γ S1 ⟨l1, z2, z3, rfl⟩
      rw [List.length_map]
      walk_at "go"
      refine eqF (get_app (l1.get hi)) hht get_last ?_
      walk_at "go"
      refine ⟨?_, l1.trans (Lo.app _ _)⟩
      rw [← fin]
      congr 1
      cases F with
      | nil =>
        rw [if_pos (show ([] : List QT).isEmpty = true from rfl)]
        show max ((readK (n - 1) [] ([] : List QT).length : Nat) : Int) 1 = ((max (readK (n - 1) [] ([] : List QT).length) 1 : Nat) : Int)
        omega
      | cons t F =>
        rw [if_neg (by simp), if_neg (by simp)]
        omega
end PM

namespace PM
open PySem PySem.Spec PyProof.Rows L2 Q2
local macro_rules | `(tactic| walk_at "fn") => `(tactic| (first | refine w_fn1 ?_ | refine w_fn2 ?_ | refine w_fn3 ?_ | refine w_fn4 ?_ | refine w_fn5 ?_ | refine w_fn6 ?_); dsimp only [List.replicate])
local macro_rules | `(tactic| walk_at "kb") => `(tactic| with_reducible first | exact kb_int_int | exact kb_int_bool | exact kb_int_str | exact kb_int_list | exact kb_int_tuple | exact kb_bool_int | exact kb_bool_bool | exact kb_bool_str | exact kb_bool_list | exact kb_bool_tuple | exact kb_str_int | exact kb_str_bool | exact kb_str_str | exact kb_str_list | exact kb_str_tuple | exact kb_list_int | exact kb_list_bool | exact kb_list_str | exact kb_list_list | exact kb_list_tuple | exact kb_tuple_int | exact kb_tuple_bool | exact kb_tuple_str | exact kb_tuple_list | exact kb_tuple_tuple | exact kb_NoneType_int | exact kb_NoneType_bool | exact kb_NoneType_str | exact kb_NoneType_list | exact kb_NoneType_tuple)
local macro_rules | `(tactic| walk_at "go1") => `(tactic| first
  | ((with_reducible refine w_var (v := ?v) ?h ?_); case h => exact rfl)
  | with_reducible first
  | refine w_c ?_ | refine w_m2 ?_ | refine w_m1 ?_ | refine w_maC ?_ | refine w_maN ?_ | refine w_mL ?_ | refine w_call ?_
  | refine w_mtOf ?_ | refine w_mtNot ?_ | refine w_mtAnd ?_ | refine w_mtOr ?_ | refine w_meAnd ?_ | refine w_meOr ?_ | refine w_mNot ?_
  | refine ws_seq ?_ | (refine ws_set ?_) | refine ws_ret ?_ | refine ws_if ?_ | refine ws_expr ?_ | refine ws_nil ?_ | refine ws_asg ?_
  | refine wo_int ?_ | refine wo_add ?_ | refine wo_addI ?_ | refine wo_sub ?_ | refine wo_lt ?_ | refine wo_le ?_ | refine wo_gt ?_ | refine wo_ge ?_
  | refine wo_max2 ?_ | refine wo_min2 ?_ | refine wo_abs ?_ | refine wo_neg ?_ | refine wo_eqI ?_ | refine wo_neI ?_ | refine wo_intB ?_ | refine wo_ixT rfl ?_ | refine ws_brk ?_ | refine ws_cnt ?_ | refine w_if ?_ | refine ws_par ?_ | refine ws_par3 ?_ | (refine ⟨_, _, rfl, ?_⟩) | (refine ⟨_, _, _, rfl, ?_⟩) | refine w_isN ?_ | refine w_notN ?_ | refine ite_t ?_ | refine ite_f ?_ | refine ite_nt ?_ | refine ite_nf ?_ | refine w_chain ?_ | refine w_isiT ?_ | refine wg_sub ?_ | (refine ⟨_, rfl, ?_⟩) | refine wg_v ?_ | refine wg_c ?_ | refine wg_n ?_ | refine w_sl ?_ | refine w_optS ?_ | refine w_optN ?_ | refine wo_sl31 ?_)
local macro_rules | `(tactic| walk_at "go2") => `(tactic| first
  | walk_at "go1"
  | ((with_reducible refine wo_mod ?h ?_); case h => omega) | ((with_reducible refine wo_div ?h ?_); case h => omega) | ((with_reducible refine wo_mul_l ?h ?_); case h => omega) | ((with_reducible refine wo_mul_r ?h ?_); case h => omega)
  | ((with_reducible refine wo_shr ?h ?_); case h => omega) | ((with_reducible refine wo_shl ?h ?_); case h => omega) | ((with_reducible refine wo_pow ?h ?_); case h => omega)
  | ((with_reducible refine ite_d ?a ?b); (case b => exact fun h => absurd (by omega) h); intro _)
  | ((with_reducible refine ite_d ?a ?b); (case a => exact fun h => absurd h (by omega)); intro _)
  | ((with_reducible refine ite_d ?a ?b) <;> intro _)
  | ((with_reducible refine ⟨_, _, ?xs, ?j, rfl, rfl, ?h, ?e, ?_⟩); (case h => assumption); (case e => exact rfl))
  | ((with_reducible refine ite_nd ?a ?b); (case b => exact fun h => absurd h (by omega)); intro _)
  | ((with_reducible refine ite_nd ?a ?b); (case a => exact fun h => absurd (by omega) h); intro _)
  | ((with_reducible refine ite_nd ?a ?b) <;> intro _)
  | ((with_reducible refine wg_t ?h ?_); case h => exact rfl)
  | ((with_reducible refine wo_addL (xs := ?xs) (ys := ?ys) (lst_ref ?h1) (lst_ref ?h2) ?h3 ?_); (case h1 => first | assumption | exact get_app (by assumption)); (case h2 => first | assumption | exact get_app (by assumption)); (case h3 => (show _ ≤ 2 ^ 24; simp only [List.length_append, List.length_cons, List.length_nil, List.length_map]; omega)))
  | ((with_reducible refine wo_isi (k := ?k) (b := ?b) ?h1 ?h2 ?_); (case h1 => first | exact rfl | exact kind_ref (by assumption)); (case h2 => walk_at "kb"))
  | ((with_reducible refine wo_len (xs := ?xs) ?h ?_); (case h => first | exact rfl | exact seq_ref (by assumption)))
  | ((with_reducible refine wo_ixL (xs := ?xs) (x := ?x) ?h1 ?h2 ?_); (case h1 => exact lst_ref (by assumption)); (case h2 => exact rfl))
  | ((with_reducible refine wo_tup ?h ?_); case h => (simp only [List.length_cons, List.length_nil]; decide)) | ((with_reducible refine wo_lst ?h ?_); case h => (simp only [List.length_cons, List.length_nil]; decide)))
local macro_rules | `(tactic| walk_at "go") => `(tactic| (repeat' walk_at "go2") <;> try dsimp only [List.set_cons_zero, List.set_cons_succ])

theorem w_cnt {o : ME} {t : MA} {Γ : En} {S : Sto} {Q : Va → Sto → Prop} (h : Wp (o Γ S) fun ov S1 => ∃ n ys, ov = .ref n ∧ S1[n]? = some (.lst ys) ∧ Wp (t Γ S1) fun vs S2 => ∃ v ds d, vs = [v] ∧ datsOf S2 (.ref n) = some ds ∧ datOf S2 v = some d ∧ Q (.int ((ds.countP fun y => PyData.eqv y d : Nat) : Int)) S2) : Wp (mCnt o t Γ S) Q :=
  Wp.bind (h.mono fun ov S1 h => by
    obtain ⟨n, ys, rfl, e1, h⟩ := h
    simp only [e1]
    exact Wp.bind (h.mono fun vs S2 h => by
      obtain ⟨v, ds, d, rfl, e2, e3, q⟩ := h
      simp only [e2, e3]
      exact q))
theorem fig_at : ∀ n : Nat, n < 6 → L2.atI [Va.int 0, .int 1, .int 2, .int 2, .int 3, .int 3] (n : Int) = some (.int (figN n : Nat)) := by
  intro n h
  match n, h with
  | 0, _ => rfl
  | 1, _ => rfl
  | 2, _ => rfl
  | 3, _ => rfl
  | 4, _ => rfl
  | 5, _ => rfl
theorem ws_ifF {Γ : En} {S : Sto} {P : Po} {c : MT} {a b : MS} (N : Sto → Prop) (h : Wp (c Γ S) fun k S1 => k = false ∧ N S1) (hN : ∀ S1, N S1 → Ws (b Γ S1) P) : Ws (sIf c a b Γ S) P :=
  ws_if (h.mono fun k S1 h => by
    rw [h.1, if_neg (by decide)]
    exact hN S1 h.2)
theorem countP_dat {PP : List Pts} {T : QT} [∀ l, Decidable (treeQ l = T)] : ((PP.map fun r => qP (treeQ r)).countP fun y => PyData.eqv y (qP T)) = PP.countP fun l => decide (treeQ l = T) := by
  rw [List.countP_map]
  refine List.countP_congr fun l _ => ?_
  simp only [Function.comp_apply, decide_eq_true_eq]
  exact qE _ _
open Classical in
theorem law_ok (ns : List Int) (hns : ns.length ≤ 63) : ∃ S', m_law [.rol (ns.map Va.int)] [] = .ok (.bl true) S' := by
  suffices h : Wp (m_law [.rol (ns.map Va.int)] []) (fun v _ => v = .bl true) by
    obtain ⟨v, S', e, rfl⟩ := h.get
    exact ⟨S', e⟩
  walk_at "fn"
  unfold b_law
  walk_at "go"
  refine ws_forW (.ref 2) (((ns ++ [0]).take 2).map Va.int) (fun i Γ S' => S'[2]? = some (.lst (((ns ++ [0]).take 2).map Va.int)) ∧ ∃ z1 z2 z3 z4 z5 z6 z7 z8 z9 z10, Γ = [some (.rol (ns.map Va.int)), z1, z2, z3, z4, z5, z6, z7, z8, z9, z10]) ?_ (fun i Γ S' h => .inl ⟨2, rfl, h.1⟩) ?_ ?_
  · walk_at "go"
    refine wo_addL (xs := ns.map Va.int) (ys := [Va.int 0]) rfl rfl (by show _ ≤ 2 ^ 24; simp; omega) ?_
    walk_at "go"
    refine wo_slTo (xs := ns.map Va.int ++ [Va.int 0]) rfl (by decide) (by simp; omega) ?_
    refine ⟨rfl, ?_, none, none, none, none, none, none, none, none, none, none, rfl⟩
    have : ((ns ++ [0]).take 2).map Va.int = (ns.map Va.int ++ [Va.int 0]).take (2 : Int).toNat := by rw [List.map_take, List.map_append]; rfl
    rw [this]
    rfl
  · rintro i x Γ S0 hx ⟨h2, z1, z2, z3, z4, z5, z6, z7, z8, z9, z10, rfl⟩
    obtain ⟨cell, _, rfl⟩ := map_at hx
    walk_at "go"
    refine sp_source.mono ?_
    rintro _ S1 ⟨rfl, hsrc, g1⟩
    have h2' := g1.get h2
    have hn2 : 2 < S0.length := lt_get h2
    generalize S0.length = n at hsrc hn2 ⊢
    walk_at "go"
    refine (sp_spots hsrc (by omega)).mono ?_
    rintro _ S2 ⟨j, ps, rfl, hj, nd, hb, hpl, hjn, m2⟩
    have hpl : ps.length ≤ 5 := by omega
    have h22 := m2.get (by omega) h2'
    have src2 := m2.src
    have hnl := src2.lt
    clear m2 h2' h2 hsrc g1
    walk_at "go"
    refine w_lcX ?_
    walk_at "go"
    refine (sp_orders ps.length 7 ps S2 j rfl (by omega) hpl hj).mono ?_
    rintro _ S3 ⟨jo, vs, rfl, hjo, hro, _, l3⟩
    have pperm := perms_perm ps.length ps rfl
    have pall := perms_all ps.length ps rfl
    have plen := perms_len ps.length ps hpl rfl
    have h6 : 6 ^ ps.length ≤ 7776 := Nat.le_trans (Nat.pow_le_pow_right (by decide) hpl) (by decide)
    have hself := pall ps (List.Perm.refl _)
    have cnt := fun (σ : Pts) (hσ : σ ∈ permsP ps.length ps) (hne : ps ≠ []) => count_tree nd hne (pperm σ hσ) (tok_tree ((pperm σ hσ).nodup_iff.mpr nd) (fun q hq => hb q ((pperm σ hσ).mem_iff.mp hq)) (by rw [(pperm σ hσ).length_eq]; omega)).k
    have tok : ∀ σ ∈ permsP ps.length ps, TOk (treeQ σ) := fun σ hσ => tok_tree ((pperm σ hσ).nodup_iff.mpr nd) (fun q hq => hb q ((pperm σ hσ).mem_iff.mp hq)) (by rw [(pperm σ hσ).length_eq]; omega)
    have tsize : ∀ σ ∈ permsP ps.length ps, (treeQ σ).size = ps.length := fun σ hσ => by rw [← ptsQ_len, (pts_tree σ).length_eq, (pperm σ hσ).length_eq]
    have tht : ∀ σ ∈ permsP ps.length ps, (treeQ σ).ht ≤ 5 := fun σ hσ => by have h1 := ht_size (treeQ σ); rw [tsize σ hσ] at h1; omega
    have nvs := rows_len hro
    rw [List.length_map] at nvs
    generalize hP : permsP ps.length ps = PP at *
    refine ⟨vs, fun k acc S' => Lo S3 S' ∧ acc = (PP.take k).map fun r => (treeQ r).va, by show _ < 2 ^ 24; omega, ⟨Lo.refl _, rfl⟩, fun k acc S' h => .inl ⟨jo, rfl, h.1.get hjo⟩, ?_, ?_⟩
    · rintro k x acc S4 hx4 ⟨l4, rfl⟩
      obtain ⟨s, xs, rfl, hs, hm⟩ := rows_at hro hx4
      rw [List.getElem?_map] at hm
      cases hq : PP[k]? with
      | none => rw [hq] at hm; cases hm
      | some σ =>
        rw [hq] at hm
        cases hm
        have hσ := pperm σ (List.mem_of_getElem? hq)
        have hs4 := l4.get hs
        walk_at "go"
        refine w_yesE ?_
        walk_at "go"
        refine (sp_built (.ref hs4) (fun S' h => .ref (h.get hs4)) (hσ.nodup_iff.mpr nd) (fun q hq => hb q (hσ.mem_iff.mp hq)) (by rw [hσ.length_eq]; omega)).mono ?_
        rintro _ S5 ⟨rfl, l5⟩
        refine ⟨l4.trans l5, ?_⟩
        rw [take_at hq, List.map_append]
        rfl
    · rintro acc S4 ⟨l4, rfl⟩
      rw [nvs, List.take_length]
      have l24 : Lo S2 (S4 ++ [Ob.lst (PP.map fun r => (treeQ r).va)]) := (l3.trans l4).trans (Lo.app _ _)
      have hw : (S4 ++ [Ob.lst (PP.map fun r => (treeQ r).va)])[S4.length]? = some (.lst (PP.map fun r => (treeQ r).va)) := get_last
      have hwn : S4.length ≠ n := by have := (l3.trans l4).1; omega
      have hj5 := l24.get hj
      have h25 := l24.get h22
      have src5 : Src (S4 ++ [Ob.lst (PP.map fun r => (treeQ r).va)]) n := by obtain ⟨a, b, c, h⟩ := src2; exact ⟨a, b, c, l24.get h⟩
      generalize S4.length = w at hw hwn ⊢
      generalize S4 ++ [Ob.lst (PP.map fun r => (treeQ r).va)] = S5 at hw hj5 h25 src5 ⊢
      clear l24 l3 l4 hjo hro hj h22 src2
      walk_at "go"
      refine (sp_pick src5 hw hwn (by rw [List.length_map]; exact List.length_pos_of_mem hself) (by rw [List.length_map]; omega)).mono ?_
      rintro v S6 ⟨hv, m6⟩
      obtain ⟨σ, hσ, rfl⟩ := List.mem_map.mp hv
      have hw6 := m6.get hwn hw
      have hj6 := m6.get hjn hj5
      have h26 := m6.get (by omega) h25
      clear m6 hw hj5 h25 src5
      have hss := tsize σ hσ
      have hhs := tht σ hσ
      -- how often the tree comes
      refine ws_seq (ws_ifF (fun S' => Lo S6 S') ?_ ?_)
      · walk_at "go"
        refine wo_neD (a := ps) (b := []) (EqD.list ptE) (ptsR (get_app hj6)) (ptsR (l := []) get_last) (by decide) (by decide) ?_
        by_cases hne : ps = []
        · rw [decide_eq_false (fun z => z hne)]
          refine ⟨_, rfl, ?_⟩
          refine ite_f ?_
          exact ⟨rfl, Lo.app _ _⟩
        · rw [decide_eq_true hne]
          refine ⟨_, rfl, ?_⟩
          refine ite_t ?_
          have hw7 : (S6 ++ [Ob.lst []])[w]? = some (.lst (PP.map fun r => (treeQ r).va)) := get_app hw6
          have l7 : Lo S6 (S6 ++ [Ob.lst []]) := Lo.app _ _
          generalize S6 ++ [Ob.lst []] = S7 at hw7 l7 ⊢
          refine w_mtOf (w_m2 (w_cnt ?_))
          walk_at "go"
          refine ⟨w, _, rfl, hw7, ?_⟩
          walk_at "go"
          refine ⟨_, PP.map fun r => qP (treeQ r), qP (treeQ σ), rfl, Rd.dats (n := 61) (Rd.ref hw7 (RdA.map (f := fun r => (treeQ r).va) (g := fun r => qP (treeQ r)) fun r hr => qR (treeQ r) 60 (by have := tht r hr; omega))) (by decide), Rd.dat (n := 60) (qR (treeQ σ) 60 (by omega)) (by decide), ?_⟩
          rw [countP_dat, cnt σ hσ hne]
          walk_at "go"
          have hnn : nonnil (treeQ σ) = true := by
            have : 0 < ps.length := List.length_pos_iff.mpr hne
            cases e : treeQ σ with
            | nil => rw [e] at hss; simp [QT.size] at hss; omega
            | node _ _ => rfl
          have l8 : Lo S7 (S7 ++ [Ob.lst [(treeQ σ).va]]) := Lo.app _ _
          refine (sp_readings ps.length 7 [treeQ σ] _ S7.length (by simp [tsz, hss]) (by omega) hpl (by simpa using hnn) get_last).mono ?_
          rintro _ S8 ⟨rfl, l9⟩
          walk_at "go"
          exact ⟨decide_eq_false (by simp), (l7.trans l8).trans l9⟩
      · intro S7 l7
        have hw7 := l7.get hw6
        have hj7 := l7.get hj6
        have h27 := l7.get h26
        clear l7 hw6 hj6 h26
        walk_at "go"
        refine ws_forW (.ref w) (PP.map fun r => (treeQ r).va) (fun k Γ S' => Lo S7 S' ∧ ∃ z7, Γ = [some (.rol (ns.map Va.int)), some (.int cell), some (.ref n), some (.ref j), some (.ref w), z5, some (treeQ σ).va, z7, z8, z9, z10]) ?_ (fun k Γ S' h => .inl ⟨w, rfl, h.1.get hw7⟩) ?_ ?_
        · walk_at "go"
          exact ⟨rfl, Lo.refl _, z7, rfl⟩
        · rintro k x Γ S8 hx8 ⟨l8, y7, rfl⟩
          obtain ⟨τ, hτ, rfl⟩ := map_at hx8
          have hτm := List.mem_of_getElem? hτ
          have pτ := (pts_tree τ).trans (pperm τ hτm)
          walk_at "go"
          refine (sp_is_quarter (tok τ hτm)).mono ?_
          rintro _ S9 ⟨rfl, l9⟩
          walk_at "go"
          refine wo_notB ?_
          rw [decide_eq_true (rfl : true = true)]
          refine ⟨_, rfl, ite_nt ?_⟩
          walk_at "go"
          refine (sp_points_of (tok τ hτm)).mono ?_
          rintro _ S10 ⟨r10, rfl, h10, _, l10⟩
          have l710 := (l8.trans l9).trans l10
          walk_at "go"
          refine wo_sort (enc := ptV) (g := ptP) (n := 1) (l := ptsQ (treeQ τ)) (.ref h10) (fun p _ => ptR) (by decide) (sortablePts _) (by rw [pτ.length_eq]; show _ ≤ 2 ^ 24; omega) ?_
          rw [sort_eq pτ nd]
          walk_at "go"
          refine wo_sort (enc := ptV) (g := ptP) (n := 1) (l := ps) (.ref (get_app (l710.get hj7))) (fun p _ => ptR) (by decide) (sortablePts _) (by show _ ≤ 2 ^ 24; omega) ?_
          refine wo_neD (EqD.list ptE) (ptsR (get_app get_last)) (ptsR get_last) (by decide) (by decide) ?_
          rw [decide_eq_false (by simp)]
          walk_at "go"
          exact ⟨l710.trans ((Lo.app _ _).trans (Lo.app _ _)), _, rfl⟩
        · rintro Γ S8 ⟨l8, y7, rfl⟩
          have hw8 := l8.get hw7
          have hj8 := l8.get hj7
          have h28 := l8.get h27
          clear l8 hw7 hj7 h27
          have hpl6 : ps.length < 6 := by omega
          walk_at "go"
          have hmp : (ps.map ptV).length = ps.length := List.length_map ..
          refine wo_len (seq_ref (get_app hj8)) ?_
          rw [hmp]
          refine wo_ixL (lst_ref get_last) (fig_at _ hpl6) ?_
          have l9 : Lo S8 (S8 ++ [Ob.lst [.int 0, .int 1, .int 2, .int 2, .int 3, .int 3]]) := Lo.app _ _
          generalize S8 ++ [Ob.lst [.int 0, .int 1, .int 2, .int 2, .int 3, .int 3]] = S9 at l9 ⊢
          have hw9 := l9.get hw8
          have hj9 := l9.get hj8
          have h29 := l9.get h28
          clear l9 hw8 hj8 h28
          walk_at "go"
          have hPl : PP.length < 16777216 := by omega
          refine w_lcW (.ref w) (PP.map fun r => (treeQ r).va) (fun k acc S' => Lo S9 S' ∧ acc = ((PP.take k).map fun r => (((treeQ r).ht : Nat) : Int)).map Va.int) (by rw [List.length_map]; exact hPl) ?_ (fun k acc S' h => .inl ⟨w, rfl, h.1.get hw9⟩) ?_ ?_
          · walk_at "go"
            exact ⟨rfl, Lo.refl _, rfl⟩
          · rintro k x acc S10 hx10 ⟨l10, rfl⟩
            obtain ⟨τ, hτ, rfl⟩ := map_at hx10
            walk_at "go"
            refine w_yesE ?_
            walk_at "go"
            refine (sp_depth (tok τ (List.mem_of_getElem? hτ))).mono ?_
            rintro _ S11 ⟨rfl, l11⟩
            refine ⟨l10.trans l11, ?_⟩
            rw [take_at hτ, List.map_append, List.map_append]
            rfl
          · rintro acc S10 ⟨l10, rfl⟩
            rw [List.length_map, List.take_length]
            have hne1 : (PP.map fun r => (((treeQ r).ht : Nat) : Int)) ≠ [] := fun z => by
              have := List.map_eq_nil_iff.mp z
              rw [this] at hself
              simp at hself
            walk_at "go"
            refine wo_minL get_last hne1 ?_
            obtain ⟨τ, hτ, hth⟩ := shallow 5 ps hpl (Nat.le_refl _) nd
            have hmin : minL (PP.map fun r => (((treeQ r).ht : Nat) : Int)) ≤ (((treeQ τ).ht : Nat) : Int) := minL_le (List.mem_map.mpr ⟨τ, pall τ hτ, rfl⟩)
            have l11 : Lo S9 (S10 ++ [Ob.lst ((PP.map fun r => (((treeQ r).ht : Nat) : Int)).map Va.int)]) := l10.trans (Lo.app _ _)
            generalize S10 ++ [Ob.lst ((PP.map fun r => (((treeQ r).ht : Nat) : Int)).map Va.int)] = S11 at l11 ⊢
            have hj11 := l11.get hj9
            have h211 := l11.get h29
            clear l11 hj9 h29 hw9
            walk_at "go"
            refine w_lcR (ps.length : Int) (by omega) (fun k acc S' => S' = S11 ∧ acc = ((List.range k).map fun k : Nat => ((k : Int), 5 * (k : Int))).map ptV) ?_ ?_ ?_
            · walk_at "go"
              exact ⟨by rw [hmp], rfl, rfl⟩
            · rintro k acc S12 hk ⟨rfl, rfl⟩
              walk_at "go"
              refine w_yesE ?_
              walk_at "go"
              refine ⟨rfl, ?_⟩
              rw [List.range_succ, List.map_append, List.map_append]
              rfl
            · rintro acc S12 ⟨rfl, rfl⟩
              rw [Int.toNat_natCast]
              have el : (List.range ps.length).map (fun k : Nat => ((k : Int), 5 * (k : Int))) = lineP ps.length := rfl
              rw [el]
              have hll : (lineP ps.length).length = ps.length := by simp [lineP]
              have hnd : (lineP ps.length).Nodup := by
                unfold lineP
                refine List.pairwise_map.mpr (List.nodup_range.imp fun {a b} h e => h ?_)
                have := congrArg Prod.fst e
                simp only at this
                omega
              have hlb : ∀ p ∈ lineP ps.length, PtB p := fun p hp => by
                obtain ⟨k, hk, rfl⟩ := List.mem_map.mp hp
                have hk := List.mem_range.mp hk
                have hF : Far = 1000000000000000000000000000000 := rfl
                refine ⟨⟨?_, ?_⟩, ⟨?_, ?_⟩⟩ <;> rw [hF] <;> dsimp only <;> omega
              have g12 : (S12 ++ [Ob.lst ((lineP ps.length).map ptV)])[S12.length]? = some (.lst ((lineP ps.length).map ptV)) := get_last
              have h212 : (S12 ++ [Ob.lst ((lineP ps.length).map ptV)])[2]? = some (.lst (((ns ++ [0]).take 2).map Va.int)) := get_app h211
              generalize S12.length = r12 at g12 ⊢
              generalize S12 ++ [Ob.lst ((lineP ps.length).map ptV)] = S13 at g12 h212 ⊢
              clear h211 hj11
              walk_at "go"
              refine w_lcX ?_
              walk_at "go"
              refine (sp_orders ps.length 7 (lineP ps.length) S13 r12 hll (by omega) hpl g12).mono ?_
              rintro _ S14 ⟨jl, ws, rfl, hjl, hrl, _, l14⟩
              have qperm := perms_perm ps.length (lineP ps.length) hll
              have qlen := perms_len ps.length (lineP ps.length) hpl hll
              have qself := perms_all ps.length (lineP ps.length) hll _ (List.Perm.refl _)
              have hlo := line_ok ps.length hpl6
              have nws := rows_len hrl
              rw [List.length_map] at nws
              generalize permsP ps.length (lineP ps.length) = QQ at qperm qlen qself hlo hrl nws
              refine ⟨ws, fun k acc S' => Lo S14 S' ∧ acc = ((QQ.take k).map fun r => (((treeQ r).ht : Nat) : Int)).map Va.int, by show _ < 2 ^ 24; omega, ⟨Lo.refl _, rfl⟩, fun k acc S' h => .inl ⟨jl, rfl, h.1.get hjl⟩, ?_, ?_⟩
              · rintro k x acc S15 hx15 ⟨l15, rfl⟩
                obtain ⟨s, xs, rfl, hs, hm⟩ := rows_at hrl hx15
                rw [List.getElem?_map] at hm
                cases hq : QQ[k]? with
                | none => rw [hq] at hm; cases hm
                | some τ2 =>
                  rw [hq] at hm
                  cases hm
                  have hσ := qperm τ2 (List.mem_of_getElem? hq)
                  have hs15 := l15.get hs
                  have nd2 := hσ.nodup_iff.mpr hnd
                  have hb2 : ∀ p ∈ τ2, PtB p := fun q hq => hlb q (hσ.mem_iff.mp hq)
                  have hl2 : τ2.length = ps.length := by rw [hσ.length_eq, hll]
                  walk_at "go"
                  refine w_yesE ?_
                  walk_at "go"
                  refine (sp_built (.ref hs15) (fun S' h => .ref (h.get hs15)) nd2 hb2 (by omega)).mono ?_
                  rintro _ S16 ⟨rfl, l16⟩
                  walk_at "go"
                  refine (sp_depth (tok_tree nd2 hb2 (by omega))).mono ?_
                  rintro _ S17 ⟨rfl, l17⟩
                  refine ⟨(l15.trans l16).trans l17, ?_⟩
                  rw [take_at hq, List.map_append, List.map_append]
                  rfl
              · rintro acc S15 ⟨l15, rfl⟩
                rw [nws, List.take_length]
                have hne2 : (QQ.map fun r => (((treeQ r).ht : Nat) : Int)) ≠ [] := fun z => by
                  have := List.map_eq_nil_iff.mp z
                  rw [this] at qself
                  simp at qself
                walk_at "go"
                refine wo_minL get_last hne2 ?_
                rw [hlo]
                walk_at "go"
                exact ⟨get_app ((l14.trans l15).get h212), _, _, _, _, _, _, _, _, _, _, rfl⟩
  · rintro Γ S' ⟨_, z1, z2, z3, z4, z5, z6, z7, z8, z9, z10, rfl⟩
    walk_at "go"
end PM

namespace PM
open PySem PySem.Spec PyProof.Rows L2 Q2
theorem all_mk {l : PySem.W.OpenLaw} {w : World} {K : PySem.W.Frag} {h : Heap} {mg : Str → Option Value} {fa : Addr} (X : K.In h) (G : h.Ns mainGlobals mg) (hfa : mg "law" = some (.ref fa))
    {f_is_integer : Addr} {od_is_integer an_is_integer : Option Addr} {sl_is_integer : Array (Option Value)} {oc_is_integer kV_is_integer dc_is_integer pm_is_integer cd_is_integer ct_is_integer : Value}
    {f_is_coordinate : Addr} {od_is_coordinate an_is_coordinate : Option Addr} {sl_is_coordinate : Array (Option Value)} {oc_is_coordinate kV_is_coordinate dc_is_coordinate pm_is_coordinate cd_is_coordinate ct_is_coordinate : Value}
    {f_is_point : Addr} {od_is_point an_is_point : Option Addr} {sl_is_point : Array (Option Value)} {oc_is_point kV_is_point dc_is_point pm_is_point cd_is_point ct_is_point : Value}
    {f_check_points : Addr} {od_check_points an_check_points : Option Addr} {sl_check_points : Array (Option Value)} {oc_check_points kV_check_points dc_check_points pm_check_points cd_check_points ct_check_points : Value}
    {f_y_key : Addr} {od_y_key an_y_key : Option Addr} {sl_y_key : Array (Option Value)} {oc_y_key kV_y_key dc_y_key pm_y_key cd_y_key ct_y_key : Value}
    {f_part_of : Addr} {od_part_of an_part_of : Option Addr} {sl_part_of : Array (Option Value)} {oc_part_of kV_part_of dc_part_of pm_part_of cd_part_of ct_part_of : Value}
    {f_rows_by_steps : Addr} {od_rows_by_steps an_rows_by_steps : Option Addr} {sl_rows_by_steps : Array (Option Value)} {oc_rows_by_steps kV_rows_by_steps dc_rows_by_steps pm_rows_by_steps cd_rows_by_steps ct_rows_by_steps : Value}
    {f_masks_around : Addr} {od_masks_around an_masks_around : Option Addr} {sl_masks_around : Array (Option Value)} {oc_masks_around kV_masks_around dc_masks_around pm_masks_around cd_masks_around ct_masks_around : Value}
    {f_masks_on_axes : Addr} {od_masks_on_axes an_masks_on_axes : Option Addr} {sl_masks_on_axes : Array (Option Value)} {oc_masks_on_axes kV_masks_on_axes dc_masks_on_axes pm_masks_on_axes cd_masks_on_axes ct_masks_on_axes : Value}
    {f_rows_by_masks : Addr} {od_rows_by_masks an_rows_by_masks : Option Addr} {sl_rows_by_masks : Array (Option Value)} {oc_rows_by_masks kV_rows_by_masks dc_rows_by_masks pm_rows_by_masks cd_rows_by_masks ct_rows_by_masks : Value}
    {f_quarter_of_rows : Addr} {od_quarter_of_rows an_quarter_of_rows : Option Addr} {sl_quarter_of_rows : Array (Option Value)} {oc_quarter_of_rows kV_quarter_of_rows dc_quarter_of_rows pm_quarter_of_rows cd_quarter_of_rows ct_quarter_of_rows : Value}
    {f_grown : Addr} {od_grown an_grown : Option Addr} {sl_grown : Array (Option Value)} {oc_grown kV_grown dc_grown pm_grown cd_grown ct_grown : Value}
    {f_is_node : Addr} {od_is_node an_is_node : Option Addr} {sl_is_node : Array (Option Value)} {oc_is_node kV_is_node dc_is_node pm_is_node cd_is_node ct_is_node : Value}
    {f_narrowed : Addr} {od_narrowed an_narrowed : Option Addr} {sl_narrowed : Array (Option Value)} {oc_narrowed kV_narrowed dc_narrowed pm_narrowed cd_narrowed ct_narrowed : Value}
    {f_fault_of : Addr} {od_fault_of an_fault_of : Option Addr} {sl_fault_of : Array (Option Value)} {oc_fault_of kV_fault_of dc_fault_of pm_fault_of cd_fault_of ct_fault_of : Value}
    {f_check_quarter : Addr} {od_check_quarter an_check_quarter : Option Addr} {sl_check_quarter : Array (Option Value)} {oc_check_quarter kV_check_quarter dc_check_quarter pm_check_quarter cd_check_quarter ct_check_quarter : Value}
    {f_nodes_of : Addr} {od_nodes_of an_nodes_of : Option Addr} {sl_nodes_of : Array (Option Value)} {oc_nodes_of kV_nodes_of dc_nodes_of pm_nodes_of cd_nodes_of ct_nodes_of : Value}
    {f_reading : Addr} {od_reading an_reading : Option Addr} {sl_reading : Array (Option Value)} {oc_reading kV_reading dc_reading pm_reading cd_reading ct_reading : Value}
    {f_level_counts : Addr} {od_level_counts an_level_counts : Option Addr} {sl_level_counts : Array (Option Value)} {oc_level_counts kV_level_counts dc_level_counts pm_level_counts cd_level_counts ct_level_counts : Value}
    {f_built : Addr} {od_built an_built : Option Addr} {sl_built : Array (Option Value)} {oc_built kV_built dc_built pm_built cd_built ct_built : Value}
    {f_is_quarter : Addr} {od_is_quarter an_is_quarter : Option Addr} {sl_is_quarter : Array (Option Value)} {oc_is_quarter kV_is_quarter dc_is_quarter pm_is_quarter cd_is_quarter ct_is_quarter : Value}
    {f_points_of : Addr} {od_points_of an_points_of : Option Addr} {sl_points_of : Array (Option Value)} {oc_points_of kV_points_of dc_points_of pm_points_of cd_points_of ct_points_of : Value}
    {f_depth : Addr} {od_depth an_depth : Option Addr} {sl_depth : Array (Option Value)} {oc_depth kV_depth dc_depth pm_depth cd_depth ct_depth : Value}
    {f_law_mixed : Addr} {od_law_mixed an_law_mixed : Option Addr} {sl_law_mixed : Array (Option Value)} {oc_law_mixed kV_law_mixed dc_law_mixed pm_law_mixed cd_law_mixed ct_law_mixed : Value}
    {f_law_source : Addr} {od_law_source an_law_source : Option Addr} {sl_law_source : Array (Option Value)} {oc_law_source kV_law_source dc_law_source pm_law_source cd_law_source ct_law_source : Value}
    {f_law_take : Addr} {od_law_take an_law_take : Option Addr} {sl_law_take : Array (Option Value)} {oc_law_take kV_law_take dc_law_take pm_law_take cd_law_take ct_law_take : Value}
    {f_law_pick : Addr} {od_law_pick an_law_pick : Option Addr} {sl_law_pick : Array (Option Value)} {oc_law_pick kV_law_pick dc_law_pick pm_law_pick cd_law_pick ct_law_pick : Value}
    {f_law_spots : Addr} {od_law_spots an_law_spots : Option Addr} {sl_law_spots : Array (Option Value)} {oc_law_spots kV_law_spots dc_law_spots pm_law_spots cd_law_spots ct_law_spots : Value}
    {f_law_orders : Addr} {od_law_orders an_law_orders : Option Addr} {sl_law_orders : Array (Option Value)} {oc_law_orders kV_law_orders dc_law_orders pm_law_orders cd_law_orders ct_law_orders : Value}
    {f_law_readings : Addr} {od_law_readings an_law_readings : Option Addr} {sl_law_readings : Array (Option Value)} {oc_law_readings kV_law_readings dc_law_readings pm_law_readings cd_law_readings ct_law_readings : Value}
    {f_law : Addr} {od_law an_law : Option Addr} {sl_law : Array (Option Value)} {oc_law kV_law dc_law pm_law cd_law ct_law : Value}
    {tk_FARTHEST_COORDINATE : Tok}
    {tk_MOST_POINTS : Tok}
    {tk_MANY_POINTS : Tok}
    {tk_MOST_NODES : Tok}
    {a_InvalidPoints : Addr}
    {a_InvalidTree : Addr}
    {fI_InvalidPoints cda_InvalidPoints cc_InvalidPoints N_InvalidPoints : Addr} {nm_InvalidPoints q_InvalidPoints file_InvalidPoints : Str} {bs_InvalidPoints bm_InvalidPoints sub_InvalidPoints : List Value} {sn_InvalidPoints : List Str} {ab_InvalidPoints : Bool} {col_InvalidPoints : Option Bool} {dd_InvalidPoints od_InvalidPoints an_InvalidPoints cdd_InvalidPoints cld_InvalidPoints : Option Addr} {m0_InvalidPoints m1_InvalidPoints m2_InvalidPoints m3_InvalidPoints m5_InvalidPoints : Option Value} {oc_InvalidPoints kV_InvalidPoints doc_InvalidPoints pm_InvalidPoints ct_InvalidPoints ccl_InvalidPoints cl_InvalidPoints : Value} {osl_InvalidPoints ccs_InvalidPoints csl_InvalidPoints : Array (Option Value)} {vs_InvalidPoints : Array Value} {tf_InvalidPoints : Tok}
    {fI_InvalidTree cda_InvalidTree cc_InvalidTree N_InvalidTree : Addr} {nm_InvalidTree q_InvalidTree file_InvalidTree : Str} {bs_InvalidTree bm_InvalidTree sub_InvalidTree : List Value} {sn_InvalidTree : List Str} {ab_InvalidTree : Bool} {col_InvalidTree : Option Bool} {dd_InvalidTree od_InvalidTree an_InvalidTree cdd_InvalidTree cld_InvalidTree : Option Addr} {m0_InvalidTree m1_InvalidTree m2_InvalidTree m3_InvalidTree m5_InvalidTree : Option Value} {oc_InvalidTree kV_InvalidTree doc_InvalidTree pm_InvalidTree ct_InvalidTree ccl_InvalidTree cl_InvalidTree : Value} {osl_InvalidTree ccs_InvalidTree csl_InvalidTree : Array (Option Value)} {vs_InvalidTree : Array Value} {tf_InvalidTree : Tok}
    {t_aALL_KEYS_0_0 : Tok}
    {t_aALL_KEYS_0_1 : Tok}
    {aALL_KEYS_0 : Addr} {tod_aALL_KEYS_0 : Option Addr} {tsl_aALL_KEYS_0 : Array (Option Value)} {tn_aALL_KEYS_0 : Nat}
    {t_aALL_KEYS_1_0 : Tok}
    {t_aALL_KEYS_1_1 : Tok}
    {aALL_KEYS_1 : Addr} {tod_aALL_KEYS_1 : Option Addr} {tsl_aALL_KEYS_1 : Array (Option Value)} {tn_aALL_KEYS_1 : Nat}
    {t_aALL_KEYS_2_0 : Tok}
    {t_aALL_KEYS_2_1 : Tok}
    {aALL_KEYS_2 : Addr} {tod_aALL_KEYS_2 : Option Addr} {tsl_aALL_KEYS_2 : Array (Option Value)} {tn_aALL_KEYS_2 : Nat}
    {t_aALL_KEYS_3_0 : Tok}
    {t_aALL_KEYS_3_1 : Tok}
    {aALL_KEYS_3 : Addr} {tod_aALL_KEYS_3 : Option Addr} {tsl_aALL_KEYS_3 : Array (Option Value)} {tn_aALL_KEYS_3 : Nat}
    {aALL_KEYS : Addr} {tod_aALL_KEYS : Option Addr} {tsl_aALL_KEYS : Array (Option Value)} {tn_aALL_KEYS : Nat}
    {t_aLAST_PART_FIRST_0 : Tok}
    {t_aLAST_PART_FIRST_1 : Tok}
    {t_aLAST_PART_FIRST_2 : Tok}
    {t_aLAST_PART_FIRST_3 : Tok}
    {aLAST_PART_FIRST : Addr} {tod_aLAST_PART_FIRST : Option Addr} {tsl_aLAST_PART_FIRST : Array (Option Value)} {tn_aLAST_PART_FIRST : Nat}
    (a_is_integer : PySem.W.nsIn K mainGlobals "is_integer" = some (some (.ref f_is_integer))) (l_is_integer : K.lookup f_is_integer = some ⟨oc_is_integer, od_is_integer, .func (PySem.W.fnOf "is_integer" "is_integer" (defArgs s_is_integer) (defBody s_is_integer) (defScope s_is_integer) .none kV_is_integer dc_is_integer pm_is_integer an_is_integer cd_is_integer ct_is_integer), sl_is_integer⟩) (c_is_integer : PySem.W.codeIn K cd_is_integer "is_integer" = true) (k_is_integer : PySem.W.keepIn K (.ref f_is_integer) = true)
    (a_is_coordinate : PySem.W.nsIn K mainGlobals "is_coordinate" = some (some (.ref f_is_coordinate))) (l_is_coordinate : K.lookup f_is_coordinate = some ⟨oc_is_coordinate, od_is_coordinate, .func (PySem.W.fnOf "is_coordinate" "is_coordinate" (defArgs s_is_coordinate) (defBody s_is_coordinate) (defScope s_is_coordinate) .none kV_is_coordinate dc_is_coordinate pm_is_coordinate an_is_coordinate cd_is_coordinate ct_is_coordinate), sl_is_coordinate⟩) (c_is_coordinate : PySem.W.codeIn K cd_is_coordinate "is_coordinate" = true) (k_is_coordinate : PySem.W.keepIn K (.ref f_is_coordinate) = true)
    (a_is_point : PySem.W.nsIn K mainGlobals "is_point" = some (some (.ref f_is_point))) (l_is_point : K.lookup f_is_point = some ⟨oc_is_point, od_is_point, .func (PySem.W.fnOf "is_point" "is_point" (defArgs s_is_point) (defBody s_is_point) (defScope s_is_point) .none kV_is_point dc_is_point pm_is_point an_is_point cd_is_point ct_is_point), sl_is_point⟩) (c_is_point : PySem.W.codeIn K cd_is_point "is_point" = true) (k_is_point : PySem.W.keepIn K (.ref f_is_point) = true)
    (a_check_points : PySem.W.nsIn K mainGlobals "check_points" = some (some (.ref f_check_points))) (l_check_points : K.lookup f_check_points = some ⟨oc_check_points, od_check_points, .func (PySem.W.fnOf "check_points" "check_points" (defArgs s_check_points) (defBody s_check_points) (defScope s_check_points) .none kV_check_points dc_check_points pm_check_points an_check_points cd_check_points ct_check_points), sl_check_points⟩) (c_check_points : PySem.W.codeIn K cd_check_points "check_points" = true) (k_check_points : PySem.W.keepIn K (.ref f_check_points) = true)
    (a_y_key : PySem.W.nsIn K mainGlobals "y_key" = some (some (.ref f_y_key))) (l_y_key : K.lookup f_y_key = some ⟨oc_y_key, od_y_key, .func (PySem.W.fnOf "y_key" "y_key" (defArgs s_y_key) (defBody s_y_key) (defScope s_y_key) .none kV_y_key dc_y_key pm_y_key an_y_key cd_y_key ct_y_key), sl_y_key⟩) (c_y_key : PySem.W.codeIn K cd_y_key "y_key" = true) (k_y_key : PySem.W.keepIn K (.ref f_y_key) = true)
    (a_part_of : PySem.W.nsIn K mainGlobals "part_of" = some (some (.ref f_part_of))) (l_part_of : K.lookup f_part_of = some ⟨oc_part_of, od_part_of, .func (PySem.W.fnOf "part_of" "part_of" (defArgs s_part_of) (defBody s_part_of) (defScope s_part_of) .none kV_part_of dc_part_of pm_part_of an_part_of cd_part_of ct_part_of), sl_part_of⟩) (c_part_of : PySem.W.codeIn K cd_part_of "part_of" = true) (k_part_of : PySem.W.keepIn K (.ref f_part_of) = true)
    (a_rows_by_steps : PySem.W.nsIn K mainGlobals "rows_by_steps" = some (some (.ref f_rows_by_steps))) (l_rows_by_steps : K.lookup f_rows_by_steps = some ⟨oc_rows_by_steps, od_rows_by_steps, .func (PySem.W.fnOf "rows_by_steps" "rows_by_steps" (defArgs s_rows_by_steps) (defBody s_rows_by_steps) (defScope s_rows_by_steps) .none kV_rows_by_steps dc_rows_by_steps pm_rows_by_steps an_rows_by_steps cd_rows_by_steps ct_rows_by_steps), sl_rows_by_steps⟩) (c_rows_by_steps : PySem.W.codeIn K cd_rows_by_steps "rows_by_steps" = true) (k_rows_by_steps : PySem.W.keepIn K (.ref f_rows_by_steps) = true)
    (a_masks_around : PySem.W.nsIn K mainGlobals "masks_around" = some (some (.ref f_masks_around))) (l_masks_around : K.lookup f_masks_around = some ⟨oc_masks_around, od_masks_around, .func (PySem.W.fnOf "masks_around" "masks_around" (defArgs s_masks_around) (defBody s_masks_around) (defScope s_masks_around) .none kV_masks_around dc_masks_around pm_masks_around an_masks_around cd_masks_around ct_masks_around), sl_masks_around⟩) (c_masks_around : PySem.W.codeIn K cd_masks_around "masks_around" = true) (k_masks_around : PySem.W.keepIn K (.ref f_masks_around) = true)
    (a_masks_on_axes : PySem.W.nsIn K mainGlobals "masks_on_axes" = some (some (.ref f_masks_on_axes))) (l_masks_on_axes : K.lookup f_masks_on_axes = some ⟨oc_masks_on_axes, od_masks_on_axes, .func (PySem.W.fnOf "masks_on_axes" "masks_on_axes" (defArgs s_masks_on_axes) (defBody s_masks_on_axes) (defScope s_masks_on_axes) .none kV_masks_on_axes dc_masks_on_axes pm_masks_on_axes an_masks_on_axes cd_masks_on_axes ct_masks_on_axes), sl_masks_on_axes⟩) (c_masks_on_axes : PySem.W.codeIn K cd_masks_on_axes "masks_on_axes" = true) (k_masks_on_axes : PySem.W.keepIn K (.ref f_masks_on_axes) = true)
    (a_rows_by_masks : PySem.W.nsIn K mainGlobals "rows_by_masks" = some (some (.ref f_rows_by_masks))) (l_rows_by_masks : K.lookup f_rows_by_masks = some ⟨oc_rows_by_masks, od_rows_by_masks, .func (PySem.W.fnOf "rows_by_masks" "rows_by_masks" (defArgs s_rows_by_masks) (defBody s_rows_by_masks) (defScope s_rows_by_masks) .none kV_rows_by_masks dc_rows_by_masks pm_rows_by_masks an_rows_by_masks cd_rows_by_masks ct_rows_by_masks), sl_rows_by_masks⟩) (c_rows_by_masks : PySem.W.codeIn K cd_rows_by_masks "rows_by_masks" = true) (k_rows_by_masks : PySem.W.keepIn K (.ref f_rows_by_masks) = true)
    (a_quarter_of_rows : PySem.W.nsIn K mainGlobals "quarter_of_rows" = some (some (.ref f_quarter_of_rows))) (l_quarter_of_rows : K.lookup f_quarter_of_rows = some ⟨oc_quarter_of_rows, od_quarter_of_rows, .func (PySem.W.fnOf "quarter_of_rows" "quarter_of_rows" (defArgs s_quarter_of_rows) (defBody s_quarter_of_rows) (defScope s_quarter_of_rows) .none kV_quarter_of_rows dc_quarter_of_rows pm_quarter_of_rows an_quarter_of_rows cd_quarter_of_rows ct_quarter_of_rows), sl_quarter_of_rows⟩) (c_quarter_of_rows : PySem.W.codeIn K cd_quarter_of_rows "quarter_of_rows" = true) (k_quarter_of_rows : PySem.W.keepIn K (.ref f_quarter_of_rows) = true)
    (a_grown : PySem.W.nsIn K mainGlobals "grown" = some (some (.ref f_grown))) (l_grown : K.lookup f_grown = some ⟨oc_grown, od_grown, .func (PySem.W.fnOf "grown" "grown" (defArgs s_grown) (defBody s_grown) (defScope s_grown) .none kV_grown dc_grown pm_grown an_grown cd_grown ct_grown), sl_grown⟩) (c_grown : PySem.W.codeIn K cd_grown "grown" = true) (k_grown : PySem.W.keepIn K (.ref f_grown) = true)
    (a_is_node : PySem.W.nsIn K mainGlobals "is_node" = some (some (.ref f_is_node))) (l_is_node : K.lookup f_is_node = some ⟨oc_is_node, od_is_node, .func (PySem.W.fnOf "is_node" "is_node" (defArgs s_is_node) (defBody s_is_node) (defScope s_is_node) .none kV_is_node dc_is_node pm_is_node an_is_node cd_is_node ct_is_node), sl_is_node⟩) (c_is_node : PySem.W.codeIn K cd_is_node "is_node" = true) (k_is_node : PySem.W.keepIn K (.ref f_is_node) = true)
    (a_narrowed : PySem.W.nsIn K mainGlobals "narrowed" = some (some (.ref f_narrowed))) (l_narrowed : K.lookup f_narrowed = some ⟨oc_narrowed, od_narrowed, .func (PySem.W.fnOf "narrowed" "narrowed" (defArgs s_narrowed) (defBody s_narrowed) (defScope s_narrowed) .none kV_narrowed dc_narrowed pm_narrowed an_narrowed cd_narrowed ct_narrowed), sl_narrowed⟩) (c_narrowed : PySem.W.codeIn K cd_narrowed "narrowed" = true) (k_narrowed : PySem.W.keepIn K (.ref f_narrowed) = true)
    (a_fault_of : PySem.W.nsIn K mainGlobals "fault_of" = some (some (.ref f_fault_of))) (l_fault_of : K.lookup f_fault_of = some ⟨oc_fault_of, od_fault_of, .func (PySem.W.fnOf "fault_of" "fault_of" (defArgs s_fault_of) (defBody s_fault_of) (defScope s_fault_of) .none kV_fault_of dc_fault_of pm_fault_of an_fault_of cd_fault_of ct_fault_of), sl_fault_of⟩) (c_fault_of : PySem.W.codeIn K cd_fault_of "fault_of" = true) (k_fault_of : PySem.W.keepIn K (.ref f_fault_of) = true)
    (a_check_quarter : PySem.W.nsIn K mainGlobals "check_quarter" = some (some (.ref f_check_quarter))) (l_check_quarter : K.lookup f_check_quarter = some ⟨oc_check_quarter, od_check_quarter, .func (PySem.W.fnOf "check_quarter" "check_quarter" (defArgs s_check_quarter) (defBody s_check_quarter) (defScope s_check_quarter) .none kV_check_quarter dc_check_quarter pm_check_quarter an_check_quarter cd_check_quarter ct_check_quarter), sl_check_quarter⟩) (c_check_quarter : PySem.W.codeIn K cd_check_quarter "check_quarter" = true) (k_check_quarter : PySem.W.keepIn K (.ref f_check_quarter) = true)
    (a_nodes_of : PySem.W.nsIn K mainGlobals "nodes_of" = some (some (.ref f_nodes_of))) (l_nodes_of : K.lookup f_nodes_of = some ⟨oc_nodes_of, od_nodes_of, .func (PySem.W.fnOf "nodes_of" "nodes_of" (defArgs s_nodes_of) (defBody s_nodes_of) (defScope s_nodes_of) .none kV_nodes_of dc_nodes_of pm_nodes_of an_nodes_of cd_nodes_of ct_nodes_of), sl_nodes_of⟩) (c_nodes_of : PySem.W.codeIn K cd_nodes_of "nodes_of" = true) (k_nodes_of : PySem.W.keepIn K (.ref f_nodes_of) = true)
    (a_reading : PySem.W.nsIn K mainGlobals "reading" = some (some (.ref f_reading))) (l_reading : K.lookup f_reading = some ⟨oc_reading, od_reading, .func (PySem.W.fnOf "reading" "reading" (defArgs s_reading) (defBody s_reading) (defScope s_reading) .none kV_reading dc_reading pm_reading an_reading cd_reading ct_reading), sl_reading⟩) (c_reading : PySem.W.codeIn K cd_reading "reading" = true) (k_reading : PySem.W.keepIn K (.ref f_reading) = true)
    (a_level_counts : PySem.W.nsIn K mainGlobals "level_counts" = some (some (.ref f_level_counts))) (l_level_counts : K.lookup f_level_counts = some ⟨oc_level_counts, od_level_counts, .func (PySem.W.fnOf "level_counts" "level_counts" (defArgs s_level_counts) (defBody s_level_counts) (defScope s_level_counts) .none kV_level_counts dc_level_counts pm_level_counts an_level_counts cd_level_counts ct_level_counts), sl_level_counts⟩) (c_level_counts : PySem.W.codeIn K cd_level_counts "level_counts" = true) (k_level_counts : PySem.W.keepIn K (.ref f_level_counts) = true)
    (a_built : PySem.W.nsIn K mainGlobals "built" = some (some (.ref f_built))) (l_built : K.lookup f_built = some ⟨oc_built, od_built, .func (PySem.W.fnOf "built" "built" (defArgs s_built) (defBody s_built) (defScope s_built) .none kV_built dc_built pm_built an_built cd_built ct_built), sl_built⟩) (c_built : PySem.W.codeIn K cd_built "built" = true) (k_built : PySem.W.keepIn K (.ref f_built) = true)
    (a_is_quarter : PySem.W.nsIn K mainGlobals "is_quarter" = some (some (.ref f_is_quarter))) (l_is_quarter : K.lookup f_is_quarter = some ⟨oc_is_quarter, od_is_quarter, .func (PySem.W.fnOf "is_quarter" "is_quarter" (defArgs s_is_quarter) (defBody s_is_quarter) (defScope s_is_quarter) .none kV_is_quarter dc_is_quarter pm_is_quarter an_is_quarter cd_is_quarter ct_is_quarter), sl_is_quarter⟩) (c_is_quarter : PySem.W.codeIn K cd_is_quarter "is_quarter" = true) (k_is_quarter : PySem.W.keepIn K (.ref f_is_quarter) = true)
    (a_points_of : PySem.W.nsIn K mainGlobals "points_of" = some (some (.ref f_points_of))) (l_points_of : K.lookup f_points_of = some ⟨oc_points_of, od_points_of, .func (PySem.W.fnOf "points_of" "points_of" (defArgs s_points_of) (defBody s_points_of) (defScope s_points_of) .none kV_points_of dc_points_of pm_points_of an_points_of cd_points_of ct_points_of), sl_points_of⟩) (c_points_of : PySem.W.codeIn K cd_points_of "points_of" = true) (k_points_of : PySem.W.keepIn K (.ref f_points_of) = true)
    (a_depth : PySem.W.nsIn K mainGlobals "depth" = some (some (.ref f_depth))) (l_depth : K.lookup f_depth = some ⟨oc_depth, od_depth, .func (PySem.W.fnOf "depth" "depth" (defArgs s_depth) (defBody s_depth) (defScope s_depth) .none kV_depth dc_depth pm_depth an_depth cd_depth ct_depth), sl_depth⟩) (c_depth : PySem.W.codeIn K cd_depth "depth" = true) (k_depth : PySem.W.keepIn K (.ref f_depth) = true)
    (a_law_mixed : PySem.W.nsIn K mainGlobals "_law_mixed" = some (some (.ref f_law_mixed))) (l_law_mixed : K.lookup f_law_mixed = some ⟨oc_law_mixed, od_law_mixed, .func (PySem.W.fnOf "_law_mixed" "_law_mixed" (defArgs s_law_mixed) (defBody s_law_mixed) (defScope s_law_mixed) .none kV_law_mixed dc_law_mixed pm_law_mixed an_law_mixed cd_law_mixed ct_law_mixed), sl_law_mixed⟩) (c_law_mixed : PySem.W.codeIn K cd_law_mixed "_law_mixed" = true) (k_law_mixed : PySem.W.keepIn K (.ref f_law_mixed) = true)
    (a_law_source : PySem.W.nsIn K mainGlobals "_law_source" = some (some (.ref f_law_source))) (l_law_source : K.lookup f_law_source = some ⟨oc_law_source, od_law_source, .func (PySem.W.fnOf "_law_source" "_law_source" (defArgs s_law_source) (defBody s_law_source) (defScope s_law_source) .none kV_law_source dc_law_source pm_law_source an_law_source cd_law_source ct_law_source), sl_law_source⟩) (c_law_source : PySem.W.codeIn K cd_law_source "_law_source" = true) (k_law_source : PySem.W.keepIn K (.ref f_law_source) = true)
    (a_law_take : PySem.W.nsIn K mainGlobals "_law_take" = some (some (.ref f_law_take))) (l_law_take : K.lookup f_law_take = some ⟨oc_law_take, od_law_take, .func (PySem.W.fnOf "_law_take" "_law_take" (defArgs s_law_take) (defBody s_law_take) (defScope s_law_take) .none kV_law_take dc_law_take pm_law_take an_law_take cd_law_take ct_law_take), sl_law_take⟩) (c_law_take : PySem.W.codeIn K cd_law_take "_law_take" = true) (k_law_take : PySem.W.keepIn K (.ref f_law_take) = true)
    (a_law_pick : PySem.W.nsIn K mainGlobals "_law_pick" = some (some (.ref f_law_pick))) (l_law_pick : K.lookup f_law_pick = some ⟨oc_law_pick, od_law_pick, .func (PySem.W.fnOf "_law_pick" "_law_pick" (defArgs s_law_pick) (defBody s_law_pick) (defScope s_law_pick) .none kV_law_pick dc_law_pick pm_law_pick an_law_pick cd_law_pick ct_law_pick), sl_law_pick⟩) (c_law_pick : PySem.W.codeIn K cd_law_pick "_law_pick" = true) (k_law_pick : PySem.W.keepIn K (.ref f_law_pick) = true)
    (a_law_spots : PySem.W.nsIn K mainGlobals "_law_spots" = some (some (.ref f_law_spots))) (l_law_spots : K.lookup f_law_spots = some ⟨oc_law_spots, od_law_spots, .func (PySem.W.fnOf "_law_spots" "_law_spots" (defArgs s_law_spots) (defBody s_law_spots) (defScope s_law_spots) .none kV_law_spots dc_law_spots pm_law_spots an_law_spots cd_law_spots ct_law_spots), sl_law_spots⟩) (c_law_spots : PySem.W.codeIn K cd_law_spots "_law_spots" = true) (k_law_spots : PySem.W.keepIn K (.ref f_law_spots) = true)
    (a_law_orders : PySem.W.nsIn K mainGlobals "_law_orders" = some (some (.ref f_law_orders))) (l_law_orders : K.lookup f_law_orders = some ⟨oc_law_orders, od_law_orders, .func (PySem.W.fnOf "_law_orders" "_law_orders" (defArgs s_law_orders) (defBody s_law_orders) (defScope s_law_orders) .none kV_law_orders dc_law_orders pm_law_orders an_law_orders cd_law_orders ct_law_orders), sl_law_orders⟩) (c_law_orders : PySem.W.codeIn K cd_law_orders "_law_orders" = true) (k_law_orders : PySem.W.keepIn K (.ref f_law_orders) = true)
    (a_law_readings : PySem.W.nsIn K mainGlobals "_law_readings" = some (some (.ref f_law_readings))) (l_law_readings : K.lookup f_law_readings = some ⟨oc_law_readings, od_law_readings, .func (PySem.W.fnOf "_law_readings" "_law_readings" (defArgs s_law_readings) (defBody s_law_readings) (defScope s_law_readings) .none kV_law_readings dc_law_readings pm_law_readings an_law_readings cd_law_readings ct_law_readings), sl_law_readings⟩) (c_law_readings : PySem.W.codeIn K cd_law_readings "_law_readings" = true) (k_law_readings : PySem.W.keepIn K (.ref f_law_readings) = true)
    (a_law : PySem.W.nsIn K mainGlobals "law" = some (some (.ref f_law))) (l_law : K.lookup f_law = some ⟨oc_law, od_law, .func (PySem.W.fnOf "law" "law" (defArgs s_law) (defBody s_law) (defScope s_law) .none kV_law dc_law pm_law an_law cd_law ct_law), sl_law⟩) (c_law : PySem.W.codeIn K cd_law "law" = true) (k_law : PySem.W.keepIn K (.ref f_law) = true)
    (w_FARTHEST_COORDINATE : PySem.W.nsIn K mainGlobals "FARTHEST_COORDINATE" = some (some (.int 1000000000000000000000000000000 tk_FARTHEST_COORDINATE)))
    (w_MOST_POINTS : PySem.W.nsIn K mainGlobals "MOST_POINTS" = some (some (.int 500 tk_MOST_POINTS)))
    (w_MANY_POINTS : PySem.W.nsIn K mainGlobals "MANY_POINTS" = some (some (.int 32 tk_MANY_POINTS)))
    (w_MOST_NODES : PySem.W.nsIn K mainGlobals "MOST_NODES" = some (some (.int 500 tk_MOST_NODES)))
    (z_abs : PySem.W.nsIn K mainGlobals "abs" = some none)
    (z_bool : PySem.W.nsIn K mainGlobals "bool" = some none)
    (z_enumerate : PySem.W.nsIn K mainGlobals "enumerate" = some none)
    (z_int : PySem.W.nsIn K mainGlobals "int" = some none)
    (z_isinstance : PySem.W.nsIn K mainGlobals "isinstance" = some none)
    (z_len : PySem.W.nsIn K mainGlobals "len" = some none)
    (z_list : PySem.W.nsIn K mainGlobals "list" = some none)
    (z_max : PySem.W.nsIn K mainGlobals "max" = some none)
    (z_min : PySem.W.nsIn K mainGlobals "min" = some none)
    (z_range : PySem.W.nsIn K mainGlobals "range" = some none)
    (z_reversed : PySem.W.nsIn K mainGlobals "reversed" = some none)
    (z_set : PySem.W.nsIn K mainGlobals "set" = some none)
    (z_sorted : PySem.W.nsIn K mainGlobals "sorted" = some none)
    (z_tuple : PySem.W.nsIn K mainGlobals "tuple" = some none)
    (z_super : PySem.W.nsIn K mainGlobals "super" = some none) (z_opq : PySem.W.nsIn K cStatics "thirdparty.any" = some none)
    (a0_InvalidPoints : PySem.W.nsIn K mainGlobals "InvalidPoints" = some (some (.ref a_InvalidPoints)))
    (a0_InvalidTree : PySem.W.nsIn K mainGlobals "InvalidTree" = some (some (.ref a_InvalidTree)))
    (xL_InvalidPoints : K.lookup a_InvalidPoints = some (excClassObj nm_InvalidPoints q_InvalidPoints a_InvalidPoints N_InvalidPoints bs_InvalidPoints bm_InvalidPoints true sn_InvalidPoints sub_InvalidPoints ab_InvalidPoints col_InvalidPoints dd_InvalidPoints m0_InvalidPoints m1_InvalidPoints m2_InvalidPoints m3_InvalidPoints m5_InvalidPoints "ValueError.__new__"))
    (sa_InvalidPoints : PySem.W.findIn K (.ref a_InvalidPoints) "__setattr__" = some (some (.builtin "object.__setattr__")))
    (no_InvalidPoints : PySem.W.findIn K (.ref a_InvalidPoints) "index" = some none)
    (eC_InvalidPoints : PySem.W.subIn K (.ref a_InvalidPoints) (.type "BaseException") = some true)
    (tC_InvalidPoints : PySem.W.typeIn K (.ref a_InvalidPoints) = some (.type "type"))
    (kC_InvalidPoints : PySem.W.keepIn K (.ref a_InvalidPoints) = true)
    (mC_InvalidPoints : PySem.W.mroIn K a_InvalidPoints (.ref a_InvalidPoints) = some true)
    (uC_InvalidPoints : PySem.W.ks_superIn K a_InvalidPoints a_InvalidPoints "__init__" = some (some (.builtin "ValueError.__init__")))
    (vC_InvalidPoints : PySem.W.subIn K (.ref a_InvalidPoints) (.type "ValueError") = some true)
    (iC_InvalidPoints : PySem.W.findIn K (.ref a_InvalidPoints) "__init__" = some (some (.ref fI_InvalidPoints)))
    (tI_InvalidPoints : PySem.W.typeIn K (.ref fI_InvalidPoints) = some (.type "function"))
    (lI_InvalidPoints : K.lookup fI_InvalidPoints = some ⟨oc_InvalidPoints, od_InvalidPoints, .func (PySem.W.ksFn "__init__" "InvalidPoints.__init__" (defArgs c_InvalidPoints) (defBody c_InvalidPoints) (defScope c_InvalidPoints) .none kV_InvalidPoints doc_InvalidPoints pm_InvalidPoints an_InvalidPoints (.ref cda_InvalidPoints) ct_InvalidPoints cc_InvalidPoints), osl_InvalidPoints⟩)
    (cI_InvalidPoints : PySem.W.codeIn K (.ref cda_InvalidPoints) "InvalidPoints.__init__" = true)
    (lD_InvalidPoints : K.lookup cda_InvalidPoints = some ⟨ccl_InvalidPoints, cdd_InvalidPoints, .fields vs_InvalidPoints, ccs_InvalidPoints⟩)
    (lC_InvalidPoints : K.lookup cc_InvalidPoints = some ⟨cl_InvalidPoints, cld_InvalidPoints, .cell (some (.ref a_InvalidPoints)), csl_InvalidPoints⟩)
    (bM_InvalidPoints : PySem.HandSPX.refsVE bm_InvalidPoints = true)
    (vS_InvalidPoints : vs_InvalidPoints[2]? = some (.str file_InvalidPoints tf_InvalidPoints))
    (fL_InvalidPoints : ((l.prog.main.file : Str) == file_InvalidPoints) = true)
    (tP_InvalidPoints : (l.prog.main.scope.names.lookup ("super" : Str)).isSome = false)
    (xL_InvalidTree : K.lookup a_InvalidTree = some (excClassObj nm_InvalidTree q_InvalidTree a_InvalidTree N_InvalidTree bs_InvalidTree bm_InvalidTree true sn_InvalidTree sub_InvalidTree ab_InvalidTree col_InvalidTree dd_InvalidTree m0_InvalidTree m1_InvalidTree m2_InvalidTree m3_InvalidTree m5_InvalidTree "ValueError.__new__"))
    (sa_InvalidTree : PySem.W.findIn K (.ref a_InvalidTree) "__setattr__" = some (some (.builtin "object.__setattr__")))
    (no_InvalidTree : PySem.W.findIn K (.ref a_InvalidTree) "path" = some none)
    (eC_InvalidTree : PySem.W.subIn K (.ref a_InvalidTree) (.type "BaseException") = some true)
    (tC_InvalidTree : PySem.W.typeIn K (.ref a_InvalidTree) = some (.type "type"))
    (kC_InvalidTree : PySem.W.keepIn K (.ref a_InvalidTree) = true)
    (mC_InvalidTree : PySem.W.mroIn K a_InvalidTree (.ref a_InvalidTree) = some true)
    (uC_InvalidTree : PySem.W.ks_superIn K a_InvalidTree a_InvalidTree "__init__" = some (some (.builtin "ValueError.__init__")))
    (vC_InvalidTree : PySem.W.subIn K (.ref a_InvalidTree) (.type "ValueError") = some true)
    (iC_InvalidTree : PySem.W.findIn K (.ref a_InvalidTree) "__init__" = some (some (.ref fI_InvalidTree)))
    (tI_InvalidTree : PySem.W.typeIn K (.ref fI_InvalidTree) = some (.type "function"))
    (lI_InvalidTree : K.lookup fI_InvalidTree = some ⟨oc_InvalidTree, od_InvalidTree, .func (PySem.W.ksFn "__init__" "InvalidTree.__init__" (defArgs c_InvalidTree) (defBody c_InvalidTree) (defScope c_InvalidTree) .none kV_InvalidTree doc_InvalidTree pm_InvalidTree an_InvalidTree (.ref cda_InvalidTree) ct_InvalidTree cc_InvalidTree), osl_InvalidTree⟩)
    (cI_InvalidTree : PySem.W.codeIn K (.ref cda_InvalidTree) "InvalidTree.__init__" = true)
    (lD_InvalidTree : K.lookup cda_InvalidTree = some ⟨ccl_InvalidTree, cdd_InvalidTree, .fields vs_InvalidTree, ccs_InvalidTree⟩)
    (lC_InvalidTree : K.lookup cc_InvalidTree = some ⟨cl_InvalidTree, cld_InvalidTree, .cell (some (.ref a_InvalidTree)), csl_InvalidTree⟩)
    (bM_InvalidTree : PySem.HandSPX.refsVE bm_InvalidTree = true)
    (vS_InvalidTree : vs_InvalidTree[2]? = some (.str file_InvalidTree tf_InvalidTree))
    (fL_InvalidTree : ((l.prog.main.file : Str) == file_InvalidTree) = true)
    (tP_InvalidTree : (l.prog.main.scope.names.lookup ("super" : Str)).isSome = false)
    (w_ALL_KEYS : PySem.W.nsIn K mainGlobals "ALL_KEYS" = some (some (.ref aALL_KEYS)))
    (u_aALL_KEYS : K.lookup aALL_KEYS = some ⟨.type "tuple", tod_aALL_KEYS, .seq #[.ref aALL_KEYS_0, .ref aALL_KEYS_1, .ref aALL_KEYS_2, .ref aALL_KEYS_3] tn_aALL_KEYS, tsl_aALL_KEYS⟩)
    (u_aALL_KEYS_0 : K.lookup aALL_KEYS_0 = some ⟨.type "tuple", tod_aALL_KEYS_0, .seq #[.int (-10000000000000000000000000000000) t_aALL_KEYS_0_0, .int 0 t_aALL_KEYS_0_1] tn_aALL_KEYS_0, tsl_aALL_KEYS_0⟩)
    (u_aALL_KEYS_1 : K.lookup aALL_KEYS_1 = some ⟨.type "tuple", tod_aALL_KEYS_1, .seq #[.int (-10000000000000000000000000000000) t_aALL_KEYS_1_0, .int 0 t_aALL_KEYS_1_1] tn_aALL_KEYS_1, tsl_aALL_KEYS_1⟩)
    (u_aALL_KEYS_2 : K.lookup aALL_KEYS_2 = some ⟨.type "tuple", tod_aALL_KEYS_2, .seq #[.int 10000000000000000000000000000000 t_aALL_KEYS_2_0, .int 0 t_aALL_KEYS_2_1] tn_aALL_KEYS_2, tsl_aALL_KEYS_2⟩)
    (u_aALL_KEYS_3 : K.lookup aALL_KEYS_3 = some ⟨.type "tuple", tod_aALL_KEYS_3, .seq #[.int 10000000000000000000000000000000 t_aALL_KEYS_3_0, .int 0 t_aALL_KEYS_3_1] tn_aALL_KEYS_3, tsl_aALL_KEYS_3⟩)
    (w_LAST_PART_FIRST : PySem.W.nsIn K mainGlobals "LAST_PART_FIRST" = some (some (.ref aLAST_PART_FIRST)))
    (u_aLAST_PART_FIRST : K.lookup aLAST_PART_FIRST = some ⟨.type "tuple", tod_aLAST_PART_FIRST, .seq #[.int 3 t_aLAST_PART_FIRST_0, .int 2 t_aLAST_PART_FIRST_1, .int 1 t_aLAST_PART_FIRST_2, .int 0 t_aLAST_PART_FIRST_3] tn_aLAST_PART_FIRST, tsl_aLAST_PART_FIRST⟩) :
    ∃ fd : FuncData, (∀ (s : Shared) (v : Value), BindsTo s fd ⟨[v], []⟩ [("_law_script", v)]) ∧ ∀ base : Heap, K.In base → base.Ns mainGlobals mg → FnOk l.prog w K mg base (L2.CX l.prog w) 9 fa fd ["_law_script"] (spTop ⟨K, l.prog, w⟩ m_law) := by
  have e := hfa.symm.trans (PySem.W.mg_of X G a_law)
  cases e
  have F_is_integer := fun_mk (st := s_is_integer) l_is_integer c_is_integer k_is_integer
  have b_is_integer := F_is_integer.binds (ps := ["value"]) fun _ _ _ _ _ _ us hl => match us, hl with | [_], _ => rfl
  have F_is_coordinate := fun_mk (st := s_is_coordinate) l_is_coordinate c_is_coordinate k_is_coordinate
  have b_is_coordinate := F_is_coordinate.binds (ps := ["value"]) fun _ _ _ _ _ _ us hl => match us, hl with | [_], _ => rfl
  have F_is_point := fun_mk (st := s_is_point) l_is_point c_is_point k_is_point
  have b_is_point := F_is_point.binds (ps := ["value"]) fun _ _ _ _ _ _ us hl => match us, hl with | [_], _ => rfl
  have F_check_points := fun_mk (st := s_check_points) l_check_points c_check_points k_check_points
  have b_check_points := F_check_points.binds (ps := ["value"]) fun _ _ _ _ _ _ us hl => match us, hl with | [_], _ => rfl
  have F_y_key := fun_mk (st := s_y_key) l_y_key c_y_key k_y_key
  have b_y_key := F_y_key.binds (ps := ["point"]) fun _ _ _ _ _ _ us hl => match us, hl with | [_], _ => rfl
  have F_part_of := fun_mk (st := s_part_of) l_part_of c_part_of k_part_of
  have b_part_of := F_part_of.binds (ps := ["root", "point"]) fun _ _ _ _ _ _ us hl => match us, hl with | [_, _], _ => rfl
  have F_rows_by_steps := fun_mk (st := s_rows_by_steps) l_rows_by_steps c_rows_by_steps k_rows_by_steps
  have b_rows_by_steps := F_rows_by_steps.binds (ps := ["points"]) fun _ _ _ _ _ _ us hl => match us, hl with | [_], _ => rfl
  have F_masks_around := fun_mk (st := s_masks_around) l_masks_around c_masks_around k_masks_around
  have b_masks_around := F_masks_around.binds (ps := ["numbers"]) fun _ _ _ _ _ _ us hl => match us, hl with | [_], _ => rfl
  have F_masks_on_axes := fun_mk (st := s_masks_on_axes) l_masks_on_axes c_masks_on_axes k_masks_on_axes
  have b_masks_on_axes := F_masks_on_axes.binds (ps := ["points"]) fun _ _ _ _ _ _ us hl => match us, hl with | [_], _ => rfl
  have F_rows_by_masks := fun_mk (st := s_rows_by_masks) l_rows_by_masks c_rows_by_masks k_rows_by_masks
  have b_rows_by_masks := F_rows_by_masks.binds (ps := ["points"]) fun _ _ _ _ _ _ us hl => match us, hl with | [_], _ => rfl
  have F_quarter_of_rows := fun_mk (st := s_quarter_of_rows) l_quarter_of_rows c_quarter_of_rows k_quarter_of_rows
  have b_quarter_of_rows := F_quarter_of_rows.binds (ps := ["points", "rows", "many"]) fun _ _ _ _ _ _ us hl => match us, hl with | [_, _, _], _ => rfl
  have F_grown := fun_mk (st := s_grown) l_grown c_grown k_grown
  have b_grown := F_grown.binds (ps := ["points"]) fun _ _ _ _ _ _ us hl => match us, hl with | [_], _ => rfl
  have F_is_node := fun_mk (st := s_is_node) l_is_node c_is_node k_is_node
  have b_is_node := F_is_node.binds (ps := ["value"]) fun _ _ _ _ _ _ us hl => match us, hl with | [_], _ => rfl
  have F_narrowed := fun_mk (st := s_narrowed) l_narrowed c_narrowed k_narrowed
  have b_narrowed := F_narrowed.binds (ps := ["ends", "split", "part"]) fun _ _ _ _ _ _ us hl => match us, hl with | [_, _, _], _ => rfl
  have F_fault_of := fun_mk (st := s_fault_of) l_fault_of c_fault_of k_fault_of
  have b_fault_of := F_fault_of.binds (ps := ["value"]) fun _ _ _ _ _ _ us hl => match us, hl with | [_], _ => rfl
  have F_check_quarter := fun_mk (st := s_check_quarter) l_check_quarter c_check_quarter k_check_quarter
  have b_check_quarter := F_check_quarter.binds (ps := ["value"]) fun _ _ _ _ _ _ us hl => match us, hl with | [_], _ => rfl
  have F_nodes_of := fun_mk (st := s_nodes_of) l_nodes_of c_nodes_of k_nodes_of
  have b_nodes_of := F_nodes_of.binds (ps := ["tree"]) fun _ _ _ _ _ _ us hl => match us, hl with | [_], _ => rfl
  have F_reading := fun_mk (st := s_reading) l_reading c_reading k_reading
  have b_reading := F_reading.binds (ps := ["tree"]) fun _ _ _ _ _ _ us hl => match us, hl with | [_], _ => rfl
  have F_level_counts := fun_mk (st := s_level_counts) l_level_counts c_level_counts k_level_counts
  have b_level_counts := F_level_counts.binds (ps := ["tree"]) fun _ _ _ _ _ _ us hl => match us, hl with | [_], _ => rfl
  have F_built := fun_mk (st := s_built) l_built c_built k_built
  have b_built := F_built.binds (ps := ["points"]) fun _ _ _ _ _ _ us hl => match us, hl with | [_], _ => rfl
  have F_is_quarter := fun_mk (st := s_is_quarter) l_is_quarter c_is_quarter k_is_quarter
  have b_is_quarter := F_is_quarter.binds (ps := ["value"]) fun _ _ _ _ _ _ us hl => match us, hl with | [_], _ => rfl
  have F_points_of := fun_mk (st := s_points_of) l_points_of c_points_of k_points_of
  have b_points_of := F_points_of.binds (ps := ["tree"]) fun _ _ _ _ _ _ us hl => match us, hl with | [_], _ => rfl
  have F_depth := fun_mk (st := s_depth) l_depth c_depth k_depth
  have b_depth := F_depth.binds (ps := ["tree"]) fun _ _ _ _ _ _ us hl => match us, hl with | [_], _ => rfl
  have F_law_mixed := fun_mk (st := s_law_mixed) l_law_mixed c_law_mixed k_law_mixed
  have b_law_mixed := F_law_mixed.binds (ps := ["_law_cell", "_law_draw"]) fun _ _ _ _ _ _ us hl => match us, hl with | [_, _], _ => rfl
  have F_law_source := fun_mk (st := s_law_source) l_law_source c_law_source k_law_source
  have b_law_source := F_law_source.binds (ps := ["_law_cell"]) fun _ _ _ _ _ _ us hl => match us, hl with | [_], _ => rfl
  have F_law_take := fun_mk (st := s_law_take) l_law_take c_law_take k_law_take
  have b_law_take := F_law_take.binds (ps := ["_law_source_here", "_law_bound"]) fun _ _ _ _ _ _ us hl => match us, hl with | [_, _], _ => rfl
  have F_law_pick := fun_mk (st := s_law_pick) l_law_pick c_law_pick k_law_pick
  have b_law_pick := F_law_pick.binds (ps := ["_law_source_here", "_law_some"]) fun _ _ _ _ _ _ us hl => match us, hl with | [_, _], _ => rfl
  have F_law_spots := fun_mk (st := s_law_spots) l_law_spots c_law_spots k_law_spots
  have b_law_spots := F_law_spots.binds (ps := ["_law_source_here", "_law_most"]) fun _ _ _ _ _ _ us hl => match us, hl with | [_, _], _ => rfl
  have F_law_orders := fun_mk (st := s_law_orders) l_law_orders c_law_orders k_law_orders
  have b_law_orders := F_law_orders.binds (ps := ["_law_spots_here"]) fun _ _ _ _ _ _ us hl => match us, hl with | [_], _ => rfl
  have F_law_readings := fun_mk (st := s_law_readings) l_law_readings c_law_readings k_law_readings
  have b_law_readings := F_law_readings.binds (ps := ["_law_woods"]) fun _ _ _ _ _ _ us hl => match us, hl with | [_], _ => rfl
  have F_law := fun_mk (st := s_law) l_law c_law k_law
  have b_law := F_law.binds (ps := ["_law_script"]) fun _ _ _ _ _ _ us hl => match us, hl with | [_], _ => rfl
  refine ⟨PySem.W.fnOf "law" "law" (defArgs s_law) (defBody s_law) (defScope s_law) .none kV_law dc_law pm_law an_law cd_law ct_law, fun s v => .of_eq rfl, fun base _ _ => ?_⟩
  exact fn_imp (d_law (⟨_, _, F_is_integer, b_is_integer, PySem.W.mg_of X G a_is_integer, _, _, F_is_coordinate, b_is_coordinate, PySem.W.mg_of X G a_is_coordinate, _, _, F_is_point, b_is_point, PySem.W.mg_of X G a_is_point, _, _, F_check_points, b_check_points, PySem.W.mg_of X G a_check_points, _, _, F_y_key, b_y_key, PySem.W.mg_of X G a_y_key, _, _, F_part_of, b_part_of, PySem.W.mg_of X G a_part_of, _, _, F_rows_by_steps, b_rows_by_steps, PySem.W.mg_of X G a_rows_by_steps, _, _, F_masks_around, b_masks_around, PySem.W.mg_of X G a_masks_around, _, _, F_masks_on_axes, b_masks_on_axes, PySem.W.mg_of X G a_masks_on_axes, _, _, F_rows_by_masks, b_rows_by_masks, PySem.W.mg_of X G a_rows_by_masks, _, _, F_quarter_of_rows, b_quarter_of_rows, PySem.W.mg_of X G a_quarter_of_rows, _, _, F_grown, b_grown, PySem.W.mg_of X G a_grown, _, _, F_is_node, b_is_node, PySem.W.mg_of X G a_is_node, _, _, F_narrowed, b_narrowed, PySem.W.mg_of X G a_narrowed, _, _, F_fault_of, b_fault_of, PySem.W.mg_of X G a_fault_of, _, _, F_check_quarter, b_check_quarter, PySem.W.mg_of X G a_check_quarter, _, _, F_nodes_of, b_nodes_of, PySem.W.mg_of X G a_nodes_of, _, _, F_reading, b_reading, PySem.W.mg_of X G a_reading, _, _, F_level_counts, b_level_counts, PySem.W.mg_of X G a_level_counts, _, _, F_built, b_built, PySem.W.mg_of X G a_built, _, _, F_is_quarter, b_is_quarter, PySem.W.mg_of X G a_is_quarter, _, _, F_points_of, b_points_of, PySem.W.mg_of X G a_points_of, _, _, F_depth, b_depth, PySem.W.mg_of X G a_depth, _, _, F_law_mixed, b_law_mixed, PySem.W.mg_of X G a_law_mixed, _, _, F_law_source, b_law_source, PySem.W.mg_of X G a_law_source, _, _, F_law_take, b_law_take, PySem.W.mg_of X G a_law_take, _, _, F_law_pick, b_law_pick, PySem.W.mg_of X G a_law_pick, _, _, F_law_spots, b_law_spots, PySem.W.mg_of X G a_law_spots, _, _, F_law_orders, b_law_orders, PySem.W.mg_of X G a_law_orders, _, _, F_law_readings, b_law_readings, PySem.W.mg_of X G a_law_readings, _, _, F_law, b_law, PySem.W.mg_of X G a_law, tk_FARTHEST_COORDINATE, PySem.W.mg_of X G w_FARTHEST_COORDINATE, tk_MOST_POINTS, PySem.W.mg_of X G w_MOST_POINTS, tk_MANY_POINTS, PySem.W.mg_of X G w_MANY_POINTS, tk_MOST_NODES, PySem.W.mg_of X G w_MOST_NODES, aALL_KEYS, PySem.W.mg_of X G w_ALL_KEYS, (tupW (K := ⟨K, l.prog, w⟩) (xs := [(.tup [(.int (-10000000000000000000000000000000)), (.int 0)]), (.tup [(.int (-10000000000000000000000000000000)), (.int 0)]), (.tup [(.int 10000000000000000000000000000000), (.int 0)]), (.tup [(.int 10000000000000000000000000000000), (.int 0)])]) (ws := [.ref aALL_KEYS_0, .ref aALL_KEYS_1, .ref aALL_KEYS_2, .ref aALL_KEYS_3]) u_aALL_KEYS (Nat.le_of_ble_eq_true rfl) (.cons rfl (.cons rfl (.cons rfl (.cons rfl .nil)))) (fun ρ H => (Rvs.cons ((tupW (K := ⟨K, l.prog, w⟩) (xs := [(.int (-10000000000000000000000000000000)), (.int 0)]) (ws := [.int (-10000000000000000000000000000000), .int 0]) u_aALL_KEYS_0 (Nat.le_of_ble_eq_true rfl) (.cons ⟨_, rfl⟩ (.cons ⟨_, rfl⟩ .nil)) (fun ρ H => (Rvs.cons rfl (Rvs.cons rfl rfl)))) ρ H) (Rvs.cons ((tupW (K := ⟨K, l.prog, w⟩) (xs := [(.int (-10000000000000000000000000000000)), (.int 0)]) (ws := [.int (-10000000000000000000000000000000), .int 0]) u_aALL_KEYS_1 (Nat.le_of_ble_eq_true rfl) (.cons ⟨_, rfl⟩ (.cons ⟨_, rfl⟩ .nil)) (fun ρ H => (Rvs.cons rfl (Rvs.cons rfl rfl)))) ρ H) (Rvs.cons ((tupW (K := ⟨K, l.prog, w⟩) (xs := [(.int 10000000000000000000000000000000), (.int 0)]) (ws := [.int 10000000000000000000000000000000, .int 0]) u_aALL_KEYS_2 (Nat.le_of_ble_eq_true rfl) (.cons ⟨_, rfl⟩ (.cons ⟨_, rfl⟩ .nil)) (fun ρ H => (Rvs.cons rfl (Rvs.cons rfl rfl)))) ρ H) (Rvs.cons ((tupW (K := ⟨K, l.prog, w⟩) (xs := [(.int 10000000000000000000000000000000), (.int 0)]) (ws := [.int 10000000000000000000000000000000, .int 0]) u_aALL_KEYS_3 (Nat.le_of_ble_eq_true rfl) (.cons ⟨_, rfl⟩ (.cons ⟨_, rfl⟩ .nil)) (fun ρ H => (Rvs.cons rfl (Rvs.cons rfl rfl)))) ρ H) rfl)))))), aLAST_PART_FIRST, PySem.W.mg_of X G w_LAST_PART_FIRST, (tupW (K := ⟨K, l.prog, w⟩) (xs := [(.int 3), (.int 2), (.int 1), (.int 0)]) (ws := [.int 3, .int 2, .int 1, .int 0]) u_aLAST_PART_FIRST (Nat.le_of_ble_eq_true rfl) (.cons ⟨_, rfl⟩ (.cons ⟨_, rfl⟩ (.cons ⟨_, rfl⟩ (.cons ⟨_, rfl⟩ .nil)))) (fun ρ H => (Rvs.cons rfl (Rvs.cons rfl (Rvs.cons rfl (Rvs.cons rfl rfl)))))), _, sup_mk X G x_InvalidPoints a0_InvalidPoints z_super xL_InvalidPoints sa_InvalidPoints no_InvalidPoints eC_InvalidPoints tC_InvalidPoints kC_InvalidPoints mC_InvalidPoints uC_InvalidPoints vC_InvalidPoints z_opq iC_InvalidPoints tI_InvalidPoints lI_InvalidPoints cI_InvalidPoints lD_InvalidPoints lC_InvalidPoints bM_InvalidPoints vS_InvalidPoints fL_InvalidPoints tP_InvalidPoints, _, sup_mk X G x_InvalidTree a0_InvalidTree z_super xL_InvalidTree sa_InvalidTree no_InvalidTree eC_InvalidTree tC_InvalidTree kC_InvalidTree mC_InvalidTree uC_InvalidTree vC_InvalidTree z_opq iC_InvalidTree tI_InvalidTree lI_InvalidTree cI_InvalidTree lD_InvalidTree lC_InvalidTree bM_InvalidTree vS_InvalidTree fL_InvalidTree tP_InvalidTree, PySem.W.mg_none_of X G z_abs, PySem.W.mg_none_of X G z_bool, PySem.W.mg_none_of X G z_enumerate, PySem.W.mg_none_of X G z_int, PySem.W.mg_none_of X G z_isinstance, PySem.W.mg_none_of X G z_len, PySem.W.mg_none_of X G z_list, PySem.W.mg_none_of X G z_max, PySem.W.mg_none_of X G z_min, PySem.W.mg_none_of X G z_range, PySem.W.mg_none_of X G z_reversed, PySem.W.mg_none_of X G z_set, PySem.W.mg_none_of X G z_sorted, PySem.W.mg_none_of X G z_tuple⟩ : Top l.prog w K mg base)).ok spTop_up
end PM
open PySem PySem.W PyProof.Rows
set_option maxHeartbeats 0 in
theorem PySem.Challenge.cw_planesplits_k15_whole_depths_of_all_orde_holds : PySem.Challenge.rw_planesplits_k15_whole_depths_of_all_orde.Holds := by
  w_on; o_law; k_head; (case hw => w_witness2)
  k_fill
  refine L2.walk_of (l := PySem.Challenge.rw_planesplits_k15_whole_depths_of_all_orde) (n := 63) (k := 9) (x := "_law_script") (CX := fun w => L2.CX (PySem.Challenge.rw_planesplits_k15_whole_depths_of_all_orde).prog w) (sp := fun w => PM.spTop ⟨_, (PySem.Challenge.rw_planesplits_k15_whole_depths_of_all_orde).prog, w⟩ PM.m_law) rfl (by decide) rfl ⟨rfl, by decide, by decide⟩ (fun w h Y => PySem.W.km_in_of Y) ?F (fun _ _ a ns hl o hS => PM.top_ok PM.law_ok hl o hS) (fun _ _ _ _ _ h => by obtain ⟨_, _, _, _, _, _, _, _, _, _, _, _, z⟩ := h; exact z)
  case F =>
    intro w mg fa h KX G hmg
    refine' PM.all_mk KX G hmg ?a_is_integer ?l_is_integer ?c_is_integer ?k_is_integer ?a_is_coordinate ?l_is_coordinate ?c_is_coordinate ?k_is_coordinate ?a_is_point ?l_is_point ?c_is_point ?k_is_point ?a_check_points ?l_check_points ?c_check_points ?k_check_points ?a_y_key ?l_y_key ?c_y_key ?k_y_key ?a_part_of ?l_part_of ?c_part_of ?k_part_of ?a_rows_by_steps ?l_rows_by_steps ?c_rows_by_steps ?k_rows_by_steps ?a_masks_around ?l_masks_around ?c_masks_around ?k_masks_around ?a_masks_on_axes ?l_masks_on_axes ?c_masks_on_axes ?k_masks_on_axes ?a_rows_by_masks ?l_rows_by_masks ?c_rows_by_masks ?k_rows_by_masks ?a_quarter_of_rows ?l_quarter_of_rows ?c_quarter_of_rows ?k_quarter_of_rows ?a_grown ?l_grown ?c_grown ?k_grown ?a_is_node ?l_is_node ?c_is_node ?k_is_node ?a_narrowed ?l_narrowed ?c_narrowed ?k_narrowed ?a_fault_of ?l_fault_of ?c_fault_of ?k_fault_of ?a_check_quarter ?l_check_quarter ?c_check_quarter ?k_check_quarter ?a_nodes_of ?l_nodes_of ?c_nodes_of ?k_nodes_of ?a_reading ?l_reading ?c_reading ?k_reading ?a_level_counts ?l_level_counts ?c_level_counts ?k_level_counts ?a_built ?l_built ?c_built ?k_built ?a_is_quarter ?l_is_quarter ?c_is_quarter ?k_is_quarter ?a_points_of ?l_points_of ?c_points_of ?k_points_of ?a_depth ?l_depth ?c_depth ?k_depth ?a_law_mixed ?l_law_mixed ?c_law_mixed ?k_law_mixed ?a_law_source ?l_law_source ?c_law_source ?k_law_source ?a_law_take ?l_law_take ?c_law_take ?k_law_take ?a_law_pick ?l_law_pick ?c_law_pick ?k_law_pick ?a_law_spots ?l_law_spots ?c_law_spots ?k_law_spots ?a_law_orders ?l_law_orders ?c_law_orders ?k_law_orders ?a_law_readings ?l_law_readings ?c_law_readings ?k_law_readings ?a_law ?l_law ?c_law ?k_law ?w_FARTHEST_COORDINATE ?w_MOST_POINTS ?w_MANY_POINTS ?w_MOST_NODES ?z_abs ?z_bool ?z_enumerate ?z_int ?z_isinstance ?z_len ?z_list ?z_max ?z_min ?z_range ?z_reversed ?z_set ?z_sorted ?z_tuple ?z_super ?z_opq ?a0_InvalidPoints ?a0_InvalidTree ?xL_InvalidPoints ?sa_InvalidPoints ?no_InvalidPoints ?eC_InvalidPoints ?tC_InvalidPoints ?kC_InvalidPoints ?mC_InvalidPoints ?uC_InvalidPoints ?vC_InvalidPoints ?iC_InvalidPoints ?tI_InvalidPoints ?lI_InvalidPoints ?cI_InvalidPoints ?lD_InvalidPoints ?lC_InvalidPoints ?bM_InvalidPoints ?vS_InvalidPoints ?fL_InvalidPoints ?tP_InvalidPoints ?xL_InvalidTree ?sa_InvalidTree ?no_InvalidTree ?eC_InvalidTree ?tC_InvalidTree ?kC_InvalidTree ?mC_InvalidTree ?uC_InvalidTree ?vC_InvalidTree ?iC_InvalidTree ?tI_InvalidTree ?lI_InvalidTree ?cI_InvalidTree ?lD_InvalidTree ?lC_InvalidTree ?bM_InvalidTree ?vS_InvalidTree ?fL_InvalidTree ?tP_InvalidTree ?w_ALL_KEYS ?u_aALL_KEYS ?u_aALL_KEYS_0 ?u_aALL_KEYS_1 ?u_aALL_KEYS_2 ?u_aALL_KEYS_3 ?w_LAST_PART_FIRST ?u_aLAST_PART_FIRST
    (case a_is_integer => k_is)
    (case l_is_integer => k_is)
    (case c_is_integer => k_is)
    (case k_is_integer => k_is)
    (case a_is_coordinate => k_is)
    (case l_is_coordinate => k_is)
    (case c_is_coordinate => k_is)
    (case k_is_coordinate => k_is)
    (case a_is_point => k_is)
    (case l_is_point => k_is)
    (case c_is_point => k_is)
    (case k_is_point => k_is)
    (case a_check_points => k_is)
    (case l_check_points => k_is)
    (case c_check_points => k_is)
    (case k_check_points => k_is)
    (case a_y_key => k_is)
    (case l_y_key => k_is)
    (case c_y_key => k_is)
    (case k_y_key => k_is)
    (case a_part_of => k_is)
    (case l_part_of => k_is)
    (case c_part_of => k_is)
    (case k_part_of => k_is)
    (case a_rows_by_steps => k_is)
    (case l_rows_by_steps => k_is)
    (case c_rows_by_steps => k_is)
    (case k_rows_by_steps => k_is)
    (case a_masks_around => k_is)
    (case l_masks_around => k_is)
    (case c_masks_around => k_is)
    (case k_masks_around => k_is)
    (case a_masks_on_axes => k_is)
    (case l_masks_on_axes => k_is)
    (case c_masks_on_axes => k_is)
    (case k_masks_on_axes => k_is)
    (case a_rows_by_masks => k_is)
    (case l_rows_by_masks => k_is)
    (case c_rows_by_masks => k_is)
    (case k_rows_by_masks => k_is)
    (case a_quarter_of_rows => k_is)
    (case l_quarter_of_rows => k_is)
    (case c_quarter_of_rows => k_is)
    (case k_quarter_of_rows => k_is)
    (case a_grown => k_is)
    (case l_grown => k_is)
    (case c_grown => k_is)
    (case k_grown => k_is)
    (case a_is_node => k_is)
    (case l_is_node => k_is)
    (case c_is_node => k_is)
    (case k_is_node => k_is)
    (case a_narrowed => k_is)
    (case l_narrowed => k_is)
    (case c_narrowed => k_is)
    (case k_narrowed => k_is)
    (case a_fault_of => k_is)
    (case l_fault_of => k_is)
    (case c_fault_of => k_is)
    (case k_fault_of => k_is)
    (case a_check_quarter => k_is)
    (case l_check_quarter => k_is)
    (case c_check_quarter => k_is)
    (case k_check_quarter => k_is)
    (case a_nodes_of => k_is)
    (case l_nodes_of => k_is)
    (case c_nodes_of => k_is)
    (case k_nodes_of => k_is)
    (case a_reading => k_is)
    (case l_reading => k_is)
    (case c_reading => k_is)
    (case k_reading => k_is)
    (case a_level_counts => k_is)
    (case l_level_counts => k_is)
    (case c_level_counts => k_is)
    (case k_level_counts => k_is)
    (case a_built => k_is)
    (case l_built => k_is)
    (case c_built => k_is)
    (case k_built => k_is)
    (case a_is_quarter => k_is)
    (case l_is_quarter => k_is)
    (case c_is_quarter => k_is)
    (case k_is_quarter => k_is)
    (case a_points_of => k_is)
    (case l_points_of => k_is)
    (case c_points_of => k_is)
    (case k_points_of => k_is)
    (case a_depth => k_is)
    (case l_depth => k_is)
    (case c_depth => k_is)
    (case k_depth => k_is)
    (case a_law_mixed => k_is)
    (case l_law_mixed => k_is)
    (case c_law_mixed => k_is)
    (case k_law_mixed => k_is)
    (case a_law_source => k_is)
    (case l_law_source => k_is)
    (case c_law_source => k_is)
    (case k_law_source => k_is)
    (case a_law_take => k_is)
    (case l_law_take => k_is)
    (case c_law_take => k_is)
    (case k_law_take => k_is)
    (case a_law_pick => k_is)
    (case l_law_pick => k_is)
    (case c_law_pick => k_is)
    (case k_law_pick => k_is)
    (case a_law_spots => k_is)
    (case l_law_spots => k_is)
    (case c_law_spots => k_is)
    (case k_law_spots => k_is)
    (case a_law_orders => k_is)
    (case l_law_orders => k_is)
    (case c_law_orders => k_is)
    (case k_law_orders => k_is)
    (case a_law_readings => k_is)
    (case l_law_readings => k_is)
    (case c_law_readings => k_is)
    (case k_law_readings => k_is)
    (case a_law => k_is)
    (case l_law => k_is)
    (case c_law => k_is)
    (case k_law => k_is)
    (case w_FARTHEST_COORDINATE => k_is)
    (case w_MOST_POINTS => k_is)
    (case w_MANY_POINTS => k_is)
    (case w_MOST_NODES => k_is)
    (case z_abs => k_is)
    (case z_bool => k_is)
    (case z_enumerate => k_is)
    (case z_int => k_is)
    (case z_isinstance => k_is)
    (case z_len => k_is)
    (case z_list => k_is)
    (case z_max => k_is)
    (case z_min => k_is)
    (case z_range => k_is)
    (case z_reversed => k_is)
    (case z_set => k_is)
    (case z_sorted => k_is)
    (case z_tuple => k_is)
    (case z_super => k_is)
    (case z_opq => k_is)
    (case a0_InvalidPoints => k_is)
    (case a0_InvalidTree => k_is)
    (case xL_InvalidPoints => k_is)
    (case sa_InvalidPoints => k_is)
    (case no_InvalidPoints => k_is)
    (case eC_InvalidPoints => k_is)
    (case tC_InvalidPoints => k_is)
    (case kC_InvalidPoints => k_is)
    (case mC_InvalidPoints => k_is)
    (case uC_InvalidPoints => ks_is)
    (case vC_InvalidPoints => k_is)
    (case iC_InvalidPoints => k_is)
    (case tI_InvalidPoints => k_is)
    (case lI_InvalidPoints => k_is)
    (case cI_InvalidPoints => k_is)
    (case lD_InvalidPoints => k_is)
    (case lC_InvalidPoints => k_is)
    (case bM_InvalidPoints => decide +kernel)
    (case vS_InvalidPoints => rfl)
    (case fL_InvalidPoints => decide +kernel)
    (case tP_InvalidPoints => decide +kernel)
    (case xL_InvalidTree => k_is)
    (case sa_InvalidTree => k_is)
    (case no_InvalidTree => k_is)
    (case eC_InvalidTree => k_is)
    (case tC_InvalidTree => k_is)
    (case kC_InvalidTree => k_is)
    (case mC_InvalidTree => k_is)
    (case uC_InvalidTree => ks_is)
    (case vC_InvalidTree => k_is)
    (case iC_InvalidTree => k_is)
    (case tI_InvalidTree => k_is)
    (case lI_InvalidTree => k_is)
    (case cI_InvalidTree => k_is)
    (case lD_InvalidTree => k_is)
    (case lC_InvalidTree => k_is)
    (case bM_InvalidTree => decide +kernel)
    (case vS_InvalidTree => rfl)
    (case fL_InvalidTree => decide +kernel)
    (case tP_InvalidTree => decide +kernel)
    (case w_ALL_KEYS => k_is)
    (case u_aALL_KEYS => k_is)
    (case u_aALL_KEYS_0 => k_is)
    (case u_aALL_KEYS_1 => k_is)
    (case u_aALL_KEYS_2 => k_is)
    (case u_aALL_KEYS_3 => k_is)
    (case w_LAST_PART_FIRST => k_is)
    (case u_aLAST_PART_FIRST => k_is)
