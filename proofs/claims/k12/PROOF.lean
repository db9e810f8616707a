import PyProof.Rows.All
import Wide.All
import OpenK.AllK
import Wide.FinOn
import HandS.ForMost
import HandS.Wide
import HandS.Deep
import HandS.IsInst
import HandS.Walk
import HandS.TupSets
import KE.SortKeyHeap
import HandS.SortKw
import KE.GoesEnum
import KE.GoesMore
import HandS.TupLe
import HandS.RaiseMore
import HandS.RevRange
import HandS.NoneIn
import HandS.Steps
import HandS.TupAny
import PySem.Challenge.RW_planesplits_k12_whole_trees_and_their_re
set_option Elab.async false
set_option linter.all false
set_option maxRecDepth 100000
set_option maxHeartbeats 4000000
namespace Q2
open PySem PySem.Spec PyProof.Rows L2
/-! ### rules that the layer lacks -/
section
variable {X : Cx}
/-- x ** n of great ints -/
def CPowW (i j : Int) : Prop := 0 ≤ j ∧ (Builtin.Int.intBits i : Int) * j ≤ 2 ^ 27
theorem op_powW : OpR X (binaryOp .Pow) (rI CPowW fun i j => .int (i ^ j.toNat)) := opI fun _ _ _ _ _ _ _ hc q => pow_int hc.1 hc.2 q
theorem powW2 {i : Int} (h : i.natAbs < 2 ^ 1000) : CPowW i 2 := by
  have h1 := PySem.Flt.log2_lt_of (by decide : 0 < 1000) h
  have h2 : Builtin.Int.intBits i ≤ i.natAbs.log2 + 1 := by
    unfold Builtin.Int.intBits
    split <;> omega
  refine ⟨by decide, ?_⟩
  have h3 : ((2 : Int) ^ 27) = 134217728 := by decide
  rw [h3]
  omega
/-- list + list, either of which may be read only -/
def rCatL (K : PySem.W.Frag) : R2 := fun x y H Q => ∃ l b xs zs, x = .ref l ∧ y = .ref b ∧ SqL K H l xs ∧ SqL K H b zs ∧ xs.length + zs.length ≤ sizeLine ∧ ∀ p, H p = none → Q (.ref p) (upd H p (.lst (xs ++ zs)))
theorem op_catL : OpR X (binaryOp .Add) (rCatL X.K) := by
  intro pins s σ H x y v u Q I rx ry h
  obtain ⟨l, b, xs, zs, rfl, rfl, hH, hB, hz, q⟩ := h
  cases rx
  cases ry
  obtain ⟨its, r, ⟨⟨cls, dd, data, sl⟩, n, ho, hc, hdn, hdt⟩, hl⟩ := I.list hH
  obtain ⟨its2, r2, ⟨⟨cls2, dd2, data2, sl2⟩, n2, ho2, hc2, hdn2, hdt2⟩, hl2⟩ := I.list hB
  simp only at hc hdt hc2 hdt2
  subst hc hdt hc2 hdt2
  have e1 := r.length
  have e2 := r2.length
  refine concat_meets ⟨_, ho, rfl⟩ ⟨_, ho2, rfl⟩ noFill_list_add seq_list_add PySem.F.slot_list_add PySem.F.entry_list_add (PySem.F.args_list_add_2 _ _) (list_addW l b its.toArray its2.toArray n n2 dd dd2 sl sl2 (by simp only [List.size_toArray]; omega)) ⟨ho, ho2, ?_⟩
  have ea : its.toArray ++ its2.toArray = (its ++ its2).toArray := by simp
  rw [ea]
  exact ⟨.ref _, _, I.lnew (t' := s.toks) (r.append r2) (by rw [List.length_append]; omega), rfl, q _ I.fresh⟩
/-- repr of a bool -/
def bStr (b : Bool) : Str := if b then "True" else "False"
theorem call_repr_bool : CallR X (.builtin "repr") (fun xs H Q => ∃ b, xs = [.bl b] ∧ Q (.str (bStr b)) H) := by
  intro pins s σ H xs us Q I r h
  obtain ⟨b, rfl, q⟩ := h
  cases r with
  | cons r1 r2 =>
    cases r2
    cases r1
    exact PySem.P.repr_of_bool ⟨.str _, H, I.tok _, ⟨_, rfl⟩, q⟩
section
variable {CX : CXT} {k : Nat} {f : Addr} {fd : FuncData} {ps ks : List Str} {sp : Sp} {E : XK} {x : Str} {p pos : Pos} {kws : List Keyword} {tk : TA} {g : List Value → List Value → List Value} {gV : List V → List V → List V}
/-- f(k = v, ..) -/
theorem pe_callK0 (F : FnOk X.prog X.w X.K X.mg X.base CX k f fd ps sp) (hr : Room k X.A) (hg : Gl X x) (hm : X.mg x = some (.ref f)) (hk : PySem.W.keepIn X.K (.ref f) = true) (hb : KBinds X.K fd ps ks g gV) (hx : Passes CX X E)
    (hkw : PK X kws tk) (hall : (backToKw pos (keywordEach kws X.env)).all (·.1.isSome) = true := by rfl) (hks : (backToKw pos (keywordEach kws X.env)).filterMap (·.1) = ks := by rfl)
    (hdb : (x == ("__debug__" : Str)) = false := by decide)
    (hpl : ((backTo pos (starEach [] X.env)).any (·.1) || (backToKw pos (keywordEach kws X.env)).any (·.1.isNone)) = false := by rfl) :
    PE X (.Call (.Name x p) [] kws pos) (tCallK sp gV E tNil tk) := by
  refine ⟨fun pins s σ H Q I h => ?_⟩
  refine wpAny_Call_Name_kw (ld_glob I hg hm ?_ hdb)
  refine PySem.W.callWith_KW0 (h₀ := X.base) I.ok.mod.kin hk hall ?_ hpl
  refine thn (hkw.run pos pins s σ H _ I h) fun ws s2 ⟨zs, H2, I2, rz, q2⟩ => ⟨I2.kIn, ?_⟩
  rw [hks]
  exact run_fnk F hr hb hx I2 .nil rz q2
end
end
/-! ### heaps -/
/-- all that was tracked stands, but what is at s -/
def Ex (s : Addr) (H H' : Hp) : Prop := ∀ b o, H b = some o → b ≠ s → H' b = some o
theorem Ex.refl (s : Addr) (H : Hp) : Ex s H H := fun _ _ h _ => h
theorem Ex.trans {s : Addr} {H H1 H2 : Hp} (a : Ex s H H1) (b : Ex s H1 H2) : Ex s H H2 := fun c o h n => b c o (a c o h n) n
theorem Ex.same {s : Addr} {H H' : Hp} (e : Same H H') : Ex s H H' := fun b o h _ => e b o h
theorem Ex.put {s : Addr} {H : Hp} {o : HO} : Ex s H (upd H s o) := fun b o' h n => by rw [upd_ne n]; exact h
theorem same_new {H : Hp} {p : Addr} {o : HO} (h : H p = none) : Same H (upd H p o) := fun b x e => by
  rw [upd_ne (ne_of_none e h)]
  exact e
/-- the source: a list of three ints, the first not negative -/
def Src (H : Hp) (s : Addr) : Prop := ∃ a b c : Int, 0 ≤ a ∧ H s = some (.lst [.int a, .int b, .int c])
theorem Src.same {H H' : Hp} {s : Addr} (e : Same H H') (h : Src H s) : Src H' s := by
  obtain ⟨a, b, c, h0, h⟩ := h
  exact ⟨a, b, c, h0, e _ _ h⟩
theorem Src.ne {H : Hp} {s p : Addr} (h : Src H s) (hp : H p = none) : p ≠ s := by
  obtain ⟨a, b, c, h0, h⟩ := h
  exact (ne_of_none h hp).symm
/-- points that stand in the heap -/
abbrev Pts := List (Addr × Int × Int)
def PtAt (H : Hp) (B : Int) (q : Addr × Int × Int) : Prop := H q.1 = some (.tup [.int q.2.1, .int q.2.2]) ∧ (-B ≤ q.2.1 ∧ q.2.1 ≤ B) ∧ (-B ≤ q.2.2 ∧ q.2.2 ≤ B)
def Spots (H : Hp) (B : Int) (a : Addr) (ps : Pts) : Prop := H a = some (.lst (ps.map fun q => V.ref q.1)) ∧ ps.length ≤ 40 ∧ ∀ q ∈ ps, PtAt H B q
theorem PtAt.same {H H' : Hp} {B : Int} {q : Addr × Int × Int} (e : Same H H') (h : PtAt H B q) : PtAt H' B q := ⟨e _ _ h.1, h.2⟩
theorem PtAt.ex {H H' : Hp} {B : Int} {s : Addr} {q : Addr × Int × Int} (hs : Src H s) (e : Ex s H H') (h : PtAt H B q) : PtAt H' B q := by
  obtain ⟨a, b, c, h0, hs⟩ := hs
  exact ⟨e _ _ h.1 (ne_of h.1 hs (by intro z; cases z)), h.2⟩
theorem Spots.same {H H' : Hp} {B : Int} {a : Addr} {ps : Pts} (e : Same H H') (h : Spots H B a ps) : Spots H' B a ps := ⟨e _ _ h.1, h.2.1, fun q hq => (h.2.2 q hq).same e⟩
theorem Spots.ex {H H' : Hp} {B : Int} {s a : Addr} {ps : Pts} (hs : Src H s) (n : a ≠ s) (e : Ex s H H') (h : Spots H B a ps) : Spots H' B a ps := ⟨e _ _ h.1 n, h.2.1, fun q hq => (h.2.2 q hq).ex hs e⟩
theorem small40 {n : Nat} (h : n ≤ 1000) : n ≤ sizeLine := Nat.le_of_lt (small1000 h)
/-! ### a tuple's equality as data -/
def ptD (z : Int × Int) : PyData := .tuple [.int z.1, .int z.2]
theorem ptD_lay (z : Int × Int) : (ptD z).canLay0 = true := by simp [ptD, PyData.canLay0, PyData.canLayAll0]
theorem ptD_depth (z : Int × Int) : (ptD z).depth = 1 := by simp [ptD, PyData.depth, PyData.depthAll]
theorem ptDs_lay : ∀ zs : List (Int × Int), PyData.canLayAll0 (zs.map ptD) = true
  | [] => by simp [PyData.canLayAll0]
  | z :: zs => by simp [PyData.canLayAll0, ptD_lay z, ptDs_lay zs]
theorem ptDs_depth : ∀ zs : List (Int × Int), PyData.depthAll (zs.map ptD) ≤ 2
  | [] => by simp [PyData.depthAll]
  | z :: zs => by
    have h1 := ptDs_depth zs
    have h2 := ptD_depth z
    simp only [List.map_cons, PyData.depthAll]
    omega
theorem ptD_shaped (z : Int × Int) : SeqAt.shaped (ptD z) = true := by
  have h := ptD_depth z
  show ((ptD z).canLay0 && decide ((ptD z).depth ≤ 64)) = true
  rw [Bool.and_eq_true]
  exact ⟨ptD_lay z, decide_eq_true (by omega)⟩
theorem ptDs_shaped (zs : List (Int × Int)) : SeqAt.shaped (.list (zs.map ptD)) = true := by
  have h1 := ptDs_depth zs
  have h2 : PyData.depth (.list (zs.map ptD)) ≤ 64 := by
    simp only [PyData.depth]
    omega
  show (PyData.canLay0 (.list (zs.map ptD)) && decide (PyData.depth (.list (zs.map ptD)) ≤ 64)) = true
  rw [Bool.and_eq_true]
  exact ⟨by simp only [PyData.canLay0]; exact ptDs_lay zs, decide_eq_true h2⟩
theorem ptD_eqv (z w : Int × Int) : PyData.eqv (ptD z) (ptD w) = decide (z = w) := by
  obtain ⟨a, b⟩ := z
  obtain ⟨a', b'⟩ := w
  have e : PyData.eqv (ptD (a, b)) (ptD (a', b')) = ((a == a') && ((b == b') && true)) := by simp only [ptD, PyData.eqv, PyData.eqvAll]
  rw [e]
  by_cases h : a = a'
  · by_cases h2 : b = b'
    · subst h h2
      simp
    · simp [h, h2]
  · simp [h]
theorem dp_pt {K : PySem.W.Frag} {H : Hp} {B : Int} {q : Addr × Int × Int} (h : PtAt H B q) : Dp K H (.ref q.1) (ptD q.2) := .tup (SqT.of h.1) (.cons (.int _) (.cons (.int _) .nil))
theorem dp_pts {K : PySem.W.Frag} {H : Hp} {B : Int} : ∀ {ps : Pts}, (∀ q ∈ ps, PtAt H B q) → DpAll K H (ps.map fun q => V.ref q.1) ((ps.map (·.2)).map ptD)
  | [], _ => .nil
  | q :: ps, h => .cons (dp_pt (h q (List.mem_cons_self ..))) (dp_pts fun z hz => h z (List.mem_cons_of_mem _ hz))
theorem dp_spots {K : PySem.W.Frag} {H : Hp} {B : Int} {a : Addr} {ps : Pts} (h : Spots H B a ps) : Dp K H (.ref a) (.list ((ps.map (·.2)).map ptD)) := .lst (SqL.of h.1) (dp_pts h.2.2)
theorem any_pt (zs : List (Int × Int)) (w : Int × Int) : ((zs.map ptD).any fun z => PyData.eqv z (ptD w)) = decide (w ∈ zs) := by
  induction zs with
  | nil => simp
  | cons z zs ih =>
    rw [List.map_cons, List.any_cons, ih, ptD_eqv]
    by_cases h : z = w
    · subst h
      simp
    · have h' : ¬ w = z := fun e => h e.symm
      simp [h, h']
end Q2

namespace Q2
open PySem PySem.Spec PyProof.Rows L2
def top (i : Nat) : Stmt := PySem.Challenge.pw_planesplits_k12_whole_trees_and_their_re.main.body.getD i (.Pass ⟨0, 0, 0, 0⟩)
abbrev s_is_integer : Stmt := top 7
abbrev s_is_coordinate : Stmt := top 8
abbrev s_is_point : Stmt := top 9
abbrev s_check_points : Stmt := top 10
abbrev s_y_key : Stmt := top 13
abbrev s_part_of : Stmt := top 14
abbrev s_rows_by_steps : Stmt := top 17
abbrev s_masks_around : Stmt := top 18
abbrev s_masks_on_axes : Stmt := top 19
abbrev s_rows_by_masks : Stmt := top 20
abbrev s_quarter_of_rows : Stmt := top 21
abbrev s_grown : Stmt := top 22
abbrev s_is_node : Stmt := top 26
abbrev s_narrowed : Stmt := top 27
abbrev s_fault_of : Stmt := top 28
abbrev s_check_quarter : Stmt := top 29
abbrev s_nodes_of : Stmt := top 30
abbrev s_reading : Stmt := top 31
abbrev s_level_counts : Stmt := top 32
abbrev s_built : Stmt := top 33
abbrev s_points_of : Stmt := top 34
abbrev s_levels : Stmt := top 35
abbrev s_depth : Stmt := top 36
abbrev s_law_mixed : Stmt := top 38
abbrev s_law_source : Stmt := top 39
abbrev s_law_take : Stmt := top 40
abbrev s_law_pick : Stmt := top 41
abbrev s_law_spots : Stmt := top 42
abbrev s_law_end : Stmt := top 43
abbrev s_law_box : Stmt := top 44
abbrev s_law_holds : Stmt := top 45
abbrev s_law_shuffled : Stmt := top 46
abbrev s_law_mirrored : Stmt := top 47
abbrev s_law_parts_right : Stmt := top 48
abbrev s_law : Stmt := top 49
end Q2


namespace Q2
open PySem PySem.Spec PyProof.Rows L2
/-! ### the built-ins that stand as they were -/
structure Bt (mg : Str → Option Value) : Prop where
  int : mg "int" = none
  abs : mg "abs" = none
  len : mg "len" = none
  range : mg "range" = none
  isi : mg "isinstance" = none
  bool : mg "bool" = none
  tuple : mg "tuple" = none
  all : mg "all" = none
  repr : mg "repr" = none
abbrev Lo : Int := 1000000000000000000000000000000
abbrev FnP (K : PySem.W.Frag) (x : Str) (st : Stmt) (f : Addr) (fd : FuncData) : Prop := Fun K x x st f fd
theorem mod_rng {m : Int} (x : Int) (h : 0 < m) (hm : m ≤ 2147483647) : 0 ≤ x % m ∧ x % m ≤ 2147483646 := by
  have h1 := Int.emod_nonneg x (by omega : m ≠ 0)
  have h2 := Int.emod_lt_of_pos x h
  omega
theorem cmul_l {i j : Int} (h : 0 ≤ i ∧ i ≤ 4294967296) : CMul i j := .inl ⟨by omega, by omega⟩
theorem cdiv_w {i j : Int} (h : 0 < j) (h2 : j ≤ 10000000000000000000000000000000000000000) : CDivW i j := wide_div (b := 200) h (by omega) (by decide) (by decide)
section
variable {P : Program} {w : World} {K : PySem.W.Frag} {mg : Str → Option Value} {base : Heap}
/-! ### _law_mixed -/
theorem scMixed : FnScope ["_law_cell", "_law_draw", "_law_figure"] ["_law_cell", "_law_draw"] (defScope s_law_mixed) := ⟨rfl, rfl, rfl, by decide +kernel, rfl, by decide +kernel, by decide +kernel⟩
def spMixed : Sp := fun vs H Q _ => ∃ a b : Int, vs = [.int a, .int b] ∧ ∀ d : Int, 0 ≤ d → Q (.int d) H
theorem ok_mixed {f : Addr} {fd : FuncData} (F : FnP K "_law_mixed" s_law_mixed f fd) (B : Bt mg) : FnOk P w K mg base CX0 1 f fd ["_law_cell", "_law_draw"] spMixed := by
  refine F.ok scMixed (fun vs H Q E h => ?_) (fun cdv A outer s H vs Q E hr h => ?_)
  · obtain ⟨a, b, rfl, _⟩ := h
    rfl
  · obtain ⟨a, b, rfl, q⟩ := h
    refine ⟨_, pss_cons (ps_set (i := 2) scMixed.nd rfl (.inl rfl) (pe_op op_mod (pe_callTy call_int1 (by rfl) B.int (by decide +kernel) (pa_cons (pe_op op_mul (pe_op op_add (pe_op op_mod (pe_callTy call_int1 (by rfl) B.int (by decide +kernel) (pa_cons (pv 0) pa_nil)) pe_int) pe_int) (pe_op op_add (pe_op op_mul (pv 1) pe_int) pe_int)) pa_nil)) pe_int))
      (pss_cons (ps_set (i := 2) scMixed.nd rfl (.inl rfl) (pe_op op_mod (pe_callTy call_int1 (by rfl) B.int (by decide +kernel) (pa_cons (pe_op op_mul (pe_op op_add (pv 2) (pe_op op_mul (pe_op op_mod (pe_callTy call_int1 (by rfl) B.int (by decide +kernel) (pa_cons (pe_op op_fdivW (pv 0) pe_int) pa_nil)) pe_int) (pe_op op_add (pv 1) pe_int))) pe_int) pa_nil)) pe_int))
      (pss_cons (ps_set (i := 2) scMixed.nd rfl (.inl rfl) (pe_op op_mod (pe_callTy call_int1 (by rfl) B.int (by decide +kernel) (pa_cons (pe_op op_mul (pv 2) (pe_op op_add (pe_op op_add (pe_op op_fdiv (pv 2) pe_int) pe_int) (pv 1))) pa_nil)) pe_int))
      (pss_one (ps_ret (pe_op op_mod (pe_callTy call_int1 (by rfl) B.int (by decide +kernel) (pa_cons (pe_op op_mul (pv 2) (pe_op op_add (pe_op op_fdiv (pv 2) pe_int) pe_int)) pa_nil)) pe_int))))), ?_⟩
    -- the first figure
    have m0 := mod_rng (m := 2147483646) a (by decide) (by decide)
    refine ⟨_, rfl, .inl ⟨_, rfl, _, _, rfl, rfl, (by decide : (0 : Int) < 2147483646), _, _, rfl, rfl, _, rfl, _, _, rfl, rfl, .inr ⟨by decide, by decide⟩, _, _, rfl, rfl, _, _, rfl, rfl, cmul_l (by omega), .inl ⟨_, rfl, _, _, rfl, rfl, (by decide : (0 : Int) < 2147483647), ?_⟩⟩⟩
    have m1 := mod_rng (m := 2147483647) ((a % 2147483646 + 1) * (b * 7919 + 104729)) (by decide) (by decide)
    generalize ((a % 2147483646 + 1) * (b * 7919 + 104729)) % 2147483647 = g1 at m1 ⊢
    -- the second
    have m2 := mod_rng (m := 1000003) (a / 2147483646) (by decide) (by decide)
    refine ⟨_, rfl, _, rfl, _, _, rfl, rfl, cdiv_w (by decide) (by decide), .inl ⟨_, rfl, _, _, rfl, rfl, (by decide : (0 : Int) < 1000003), _, rfl, _, _, rfl, rfl, _, _, rfl, rfl, cmul_l (by omega), _, _, rfl, rfl, _, _, rfl, rfl, .inr ⟨by decide, by decide⟩, .inl ⟨_, rfl, _, _, rfl, rfl, (by decide : (0 : Int) < 2147483629), ?_⟩⟩⟩
    have m3 := mod_rng (m := 2147483629) ((g1 + a / 2147483646 % 1000003 * (b + 31)) * 48271) (by decide) (by decide)
    generalize ((g1 + a / 2147483646 % 1000003 * (b + 31)) * 48271) % 2147483629 = g2 at m3 ⊢
    -- the third
    refine ⟨_, rfl, _, rfl, _, _, rfl, rfl, ⟨by decide, by decide⟩, _, _, rfl, rfl, _, rfl, _, _, rfl, rfl, _, _, rfl, rfl, cmul_l (by omega), .inl ⟨_, rfl, _, _, rfl, rfl, (by decide : (0 : Int) < 2147483587), ?_⟩⟩
    have m4 := mod_rng (m := 2147483587) (g2 * (g2 / 1013 + 69621 + b)) (by decide) (by decide)
    generalize (g2 * (g2 / 1013 + 69621 + b)) % 2147483587 = g3 at m4 ⊢
    refine ⟨_, rfl, _, rfl, _, _, rfl, rfl, ⟨by decide, by decide⟩, _, _, rfl, rfl, _, _, rfl, rfl, cmul_l (by omega), .inl ⟨_, rfl, _, _, rfl, rfl, (by decide : (0 : Int) < 2147483563), ?_⟩⟩
    exact q _ (Int.emod_nonneg _ (by decide))
/-! ### _law_source -/
theorem scSource : FnScope ["_law_cell"] ["_law_cell"] (defScope s_law_source) := ⟨rfl, rfl, rfl, by decide +kernel, rfl, by decide +kernel, by decide +kernel⟩
def spSource : Sp := fun vs H Q _ => ∃ n : Int, vs = [.int n] ∧ ∀ s H', Same H H' → H s = none → Src H' s → Q (.ref s) H'
theorem ok_source {f : Addr} {fd : FuncData} (F : FnP K "_law_source" s_law_source f fd) (B : Bt mg) : FnOk P w K mg base CX0 1 f fd ["_law_cell"] spSource := by
  refine F.ok scSource (fun vs H Q E h => ?_) (fun cdv A outer s H vs Q E hr h => ?_)
  · obtain ⟨a, rfl, _⟩ := h
    rfl
  · obtain ⟨a, rfl, q⟩ := h
    refine ⟨_, pss_cons (ps_if (pt_cmpR op_ge (pe_callB call_abs (by rfl) B.abs (by decide +kernel) (pa_cons (pv 0) pa_nil)) (pe_op op_pow pe_int pe_int) (nomark _))
        (pss_one (ps_ret (pe_lst (pa_cons (pe_callB call_abs (by rfl) B.abs (by decide +kernel) (pa_cons (pv 0) pa_nil)) (pa_cons (pe_callB call_abs (by rfl) B.abs (by decide +kernel) (pa_cons (pv 0) pa_nil)) (pa_cons pe_int pa_nil)))))) pss_nil)
      (pss_one (ps_ret (pe_lst (pa_cons pe_int (pa_cons (pe_callB call_abs (by rfl) B.abs (by decide +kernel) (pa_cons (pv 0) pa_nil)) (pa_cons pe_int pa_nil)))))), ?_⟩
    have h0 : (0 : Int) ≤ (if a < 0 then -a else a) := by split <;> omega
    refine ⟨_, rfl, _, rfl, _, _, rfl, rfl, ⟨by decide, by decide, by decide⟩, _, _, rfl, rfl, _, rfl, ite2 (fun _ => ?_) (fun _ => ?_)⟩
    · refine ⟨_, rfl, _, rfl, _, rfl, _, rfl, (by show 3 ≤ sizeLine; decide), fun l hl => ?_⟩
      exact q l _ (same_new hl) hl ⟨_, _, _, h0, upd_same⟩
    · refine ⟨_, rfl, _, rfl, (by show 3 ≤ sizeLine; decide), fun l hl => ?_⟩
      exact q l _ (same_new hl) hl ⟨_, _, _, Int.le_refl _, upd_same⟩
/-! ### _law_take -/
theorem scTake : FnScope ["_law_source_here", "_law_bound", "_law_drawn"] ["_law_source_here", "_law_bound"] (defScope s_law_take) := ⟨rfl, rfl, rfl, by decide +kernel, rfl, by decide +kernel, by decide +kernel⟩
def spTake : Sp := fun vs H Q _ => ∃ (s : Addr) (n : Int), vs = [.ref s, .int n] ∧ Src H s ∧ 0 < n ∧ n ≤ 10000000000000000000000000000000000000000 ∧ ∀ (d : Int) H', 0 ≤ d → d < n → Src H' s → Ex s H H' → Q (.int d) H'
theorem ok_take {f fM : Addr} {fd fdM : FuncData} (F : FnP K "_law_take" s_law_take f fd) (B : Bt mg) (FM : FnP K "_law_mixed" s_law_mixed fM fdM) (bM : Binds K fdM ["_law_cell", "_law_draw"] []) (gM : mg "_law_mixed" = some (.ref fM)) : FnOk P w K mg base CX0 2 f fd ["_law_source_here", "_law_bound"] spTake := by
  have GM : FnOk P w K mg base CX0 1 fM fdM ["_law_cell", "_law_draw"] spMixed := ok_mixed FM B
  refine F.ok scTake (fun vs H Q E h => ?_) (fun cdv A outer s H vs Q E hr h => ?_)
  · obtain ⟨a, b, rfl, _⟩ := h
    rfl
  · obtain ⟨p, n, rfl, ⟨a, b, c, h0, hS⟩, n0, n1, q⟩ := h
    refine ⟨_, pss_cons (ps_if (pt_cmpR op_gt (pe_ix ix_list (pv 0) pe_int (fun _ _ => rfl)) pe_int (nomark _))
        (pss_cons (ps_set (i := 2) scTake.nd rfl (.inl rfl) (pe_op op_mod (pe_callTy call_int1 (by rfl) B.int (by decide +kernel) (pa_cons (pe_ix ix_list (pv 0) pe_int (fun _ _ => rfl)) pa_nil)) (pv 1)))
        (pss_cons (ps_asg (pe_op op_fdivW (pe_ix ix_list (pv 0) pe_int (fun _ _ => rfl)) (pv 1)) (pg_sub (pv 0) pe_int set_list))
        (pss_one (ps_ret (pv 2))))) pss_nil)
      (pss_cons (ps_asg (pe_op op_add (pe_ix ix_list (pv 0) pe_int (fun _ _ => rfl)) pe_int) (pg_sub (pv 0) pe_int set_list))
      (pss_one (ps_ret (pe_op op_mod (pe_callTy call_int1 (by rfl) B.int (by decide +kernel) (pa_cons (pe_call GM hr (by rfl) gM FM.kp bM .nil pass0 (pa_cons (pe_ix ix_list (pv 0) pe_int (fun _ _ => rfl)) (pa_cons (pe_ix ix_list (pv 0) pe_int (fun _ _ => rfl)) pa_nil))) pa_nil)) (pv 1))))), ?_⟩
    refine ⟨_, rfl, p, _, 0, .int a, rfl, rfl, SqL.of hS, atI_nat (j := 0) rfl, _, _, rfl, rfl, _, rfl, ite2 (fun e => ?_) (fun e => ?_)⟩
    · have ea : 0 < a := of_decide_eq_true e
      refine ⟨_, rfl, p, _, 0, .int a, rfl, rfl, SqL.of hS, atI_nat (j := 0) rfl, .inl ⟨_, rfl, _, rfl, _, _, rfl, rfl, n0, ?_⟩⟩
      refine ⟨_, rfl, p, _, 0, .int a, rfl, rfl, SqL.of hS, atI_nat (j := 0) rfl, _, rfl, _, _, rfl, rfl, cdiv_w n0 n1, _, rfl, p, _, 0, 0, rfl, rfl, hS, rfl, ?_⟩
      exact ⟨_, rfl, q _ _ (Int.emod_nonneg _ (by omega)) (Int.emod_lt_of_pos _ n0) ⟨_, b, c, Int.ediv_nonneg h0 (by omega), upd_same⟩ Ex.put⟩
    · refine ⟨_, rfl, p, _, 2, .int c, rfl, rfl, SqL.of hS, atI_nat (j := 2) rfl, _, _, rfl, rfl, _, rfl, p, _, 2, 2, rfl, rfl, hS, rfl, ?_⟩
      refine ⟨_, rfl, p, _, 1, .int b, rfl, rfl, SqL.of upd_same, atI_nat (j := 1) rfl, _, rfl, p, _, 2, .int (c + 1), rfl, rfl, SqL.of upd_same, atI_nat (j := 2) rfl, b, c + 1, rfl, fun d hd => ?_⟩
      refine .inl ⟨_, rfl, _, rfl, _, _, rfl, rfl, n0, ?_⟩
      exact q _ _ (Int.emod_nonneg _ (by omega)) (Int.emod_lt_of_pos _ n0) ⟨a, b, c + 1, h0, upd_same⟩ Ex.put
/-! ### _law_pick -/
theorem scPick : FnScope ["_law_source_here", "_law_some"] ["_law_source_here", "_law_some"] (defScope s_law_pick) := ⟨rfl, rfl, rfl, by decide +kernel, rfl, by decide +kernel, by decide +kernel⟩
def spPick : Sp := fun vs H Q _ => ∃ (s l : Addr) (xs : List V), vs = [.ref s, .ref l] ∧ Src H s ∧ l ≠ s ∧ H l = some (.lst xs) ∧ xs ≠ [] ∧ xs.length ≤ 1000 ∧ ∀ v H', v ∈ xs → Src H' s → Ex s H H' → Q v H'
theorem ok_pick {f fT fM : Addr} {fd fdT fdM : FuncData} (F : FnP K "_law_pick" s_law_pick f fd) (B : Bt mg) (GT : FnOk P w K mg base CX0 2 fT fdT ["_law_source_here", "_law_bound"] spTake) (kT : PySem.W.keepIn K (.ref fT) = true) (bT : Binds K fdT ["_law_source_here", "_law_bound"] []) (gT : mg "_law_take" = some (.ref fT)) : FnOk P w K mg base CX0 3 f fd ["_law_source_here", "_law_some"] spPick := by
  refine F.ok scPick (fun vs H Q E h => ?_) (fun cdv A outer s H vs Q E hr h => ?_)
  · obtain ⟨a, b, xs, rfl, _⟩ := h
    rfl
  · obtain ⟨p, l, xs, rfl, hS, hne, hl, hx, hlen, q⟩ := h
    refine ⟨_, pss_one (ps_ret (pe_ix ix_list (pv 1) (pe_call GT hr (by rfl) gT kT bT .nil pass0 (pa_cons (pv 0) (pa_cons (pe_callB call_len_seq (by rfl) B.len PySem.boot_len (pa_cons (pv 1) pa_nil)) pa_nil))) (fun _ _ => rfl))), ?_⟩
    have hpos : 0 < xs.length := List.length_pos_iff.mpr hx
    refine ⟨_, rfl, _, rfl, _, rfl, l, xs, rfl, .inl (SqL.of hl), p, (xs.length : Int), rfl, hS, (by omega), (by omega), fun d H' d0 d1 hS' e => ?_⟩
    have hl' : H' l = some (.lst xs) := e _ _ hl hne
    have hd : d.toNat < xs.length := by omega
    refine ⟨l, xs, d, xs[d.toNat], rfl, rfl, SqL.of hl', at_of (j := d.toNat) (by omega) (List.getElem?_eq_getElem hd), ?_⟩
    exact q _ _ (List.getElem_mem hd) hS' e
end
end Q2

namespace Q2
open PySem PySem.Spec PyProof.Rows L2
theorem Ex.free {s p : Addr} {H H' : Hp} (hs : Src H' s) (e : Ex s H H') (h : H' p = none) : H p = none := by
  cases q : H p with
  | none => rfl
  | some o =>
    have n : p ≠ s := hs.ne h
    rw [e _ _ q n] at h
    cases h
theorem hu65 {A : Around} {k : Nat} (hr : Room k A) : A.units + 65 < cLine := by have := hr.un; omega
theorem hu64 {A : Around} {k : Nat} (hr : Room k A) : A.units + 64 < cLine := by have := hr.un; omega
section
variable {P : Program} {w : World} {K : PySem.W.Frag} {mg : Str → Option Value} {base : Heap}
/-! ### _law_spots -/
theorem scSpots : FnScope ["_law_source_here", "_law_most", "_law_many", "_law_wide", "_law_found", "_law_turn", "_law_spot"] ["_law_source_here", "_law_most"] (defScope s_law_spots) := ⟨rfl, rfl, rfl, by decide +kernel, rfl, by decide +kernel, by decide +kernel⟩
def spSpots : Sp := fun vs H Q _ => ∃ (s : Addr) (n : Int), vs = [.ref s, .int n] ∧ Src H s ∧ 0 ≤ n ∧ n ≤ 40 ∧ ∀ (a : Addr) (ps : Pts) H', Src H' s → Ex s H H' → H a = none → Spots H' Lo a ps → (ps.map (·.2)).Nodup → (ps.length : Int) ≤ n → Q (.ref a) H'
theorem wide_of {v : V} (h : v ∈ [V.int 3, V.int 6, V.int 20, V.int ((10 : Int) ^ (9 : Int).toNat), V.int ((10 : Int) ^ (30 : Int).toNat)]) : ∃ z : Int, v = .int z ∧ 0 < z ∧ z ≤ Lo := by
  simp only [List.mem_cons, List.not_mem_nil, or_false] at h
  rcases h with rfl | rfl | rfl | rfl | rfl
  · exact ⟨_, rfl, by decide, by decide⟩
  · exact ⟨_, rfl, by decide, by decide⟩
  · exact ⟨_, rfl, by decide, by decide⟩
  · exact ⟨_, rfl, by decide, by decide⟩
  · exact ⟨_, rfl, by decide, by decide⟩
theorem ok_spots {f fT fP : Addr} {fd fdT fdP : FuncData} (F : FnP K "_law_spots" s_law_spots f fd) (B : Bt mg) (GT : FnOk P w K mg base CX0 2 fT fdT ["_law_source_here", "_law_bound"] spTake) (kT : PySem.W.keepIn K (.ref fT) = true) (bT : Binds K fdT ["_law_source_here", "_law_bound"] []) (gT : mg "_law_take" = some (.ref fT))
    (GP : FnOk P w K mg base CX0 3 fP fdP ["_law_source_here", "_law_some"] spPick) (kP : PySem.W.keepIn K (.ref fP) = true) (bP : Binds K fdP ["_law_source_here", "_law_some"] []) (gP : mg "_law_pick" = some (.ref fP)) : FnOk P w K mg base CX0 4 f fd ["_law_source_here", "_law_most"] spSpots := by
  refine F.ok scSpots (fun vs H Q E h => ?_) (fun cdv A outer s H vs Q E hr h => ?_)
  · obtain ⟨a, b, rfl, _⟩ := h
    rfl
  · obtain ⟨p, n, rfl, hS, n0, n1, q⟩ := h
    refine ⟨_, pss_cons (ps_par (i := 2) (j := 3) rfl scSpots.nd rfl rfl (by decide) rfl rfl
        (pa_cons (pe_call GT (hr.mono (by decide)) (by rfl) gT kT bT .nil pass0 (pa_cons (pv 0) (pa_cons (pe_op op_add (pv 1) pe_int) pa_nil)))
        (pa_cons (pe_call GP hr (by rfl) gP kP bP .nil pass0 (pa_cons (pv 0) (pa_cons (pe_lst (pa_cons pe_int (pa_cons pe_int (pa_cons pe_int (pa_cons (pe_op op_pow pe_int pe_int) (pa_cons (pe_op op_pow pe_int pe_int) pa_nil)))))) pa_nil))) pa_nil)) rfl)
      (pss_cons (ps_set (i := 4) scSpots.nd rfl (.inl rfl) (pe_lst pa_nil))
      (pss_cons (ps_for PassesOwn.never rfl (pi_range1 (by rfl) B.range (pa_cons (pv 2) pa_nil)) (pg_name (i := 5) scSpots.nd rfl (.inl rfl))
        (pss_cons (ps_set (i := 6) scSpots.nd rfl (.inl rfl) (pe_tup
            (pa_cons (pe_op op_sub (pe_call GT (hr.mono (by decide)) (by rfl) gT kT bT .nil pass0 (pa_cons (pv 0) (pa_cons (pe_op op_add (pe_op op_mul pe_int (pv 3)) pe_int) pa_nil))) (pv 3))
            (pa_cons (pe_op op_sub (pe_call GT (hr.mono (by decide)) (by rfl) gT kT bT .nil pass0 (pa_cons (pv 0) (pa_cons (pe_op op_add (pe_op op_mul pe_int (pv 3)) pe_int) pa_nil))) (pv 3)) pa_nil))))
        (pss_one (ps_set (i := 4) scSpots.nd rfl (.inl rfl) (pe_op op_cat (pv 4) (pe_op op_rep (pe_lst (pa_cons (pv 6) pa_nil)) (pe_callTy call_int1 (by rfl) B.int (by decide +kernel) (pa_cons (pe_cmpR (op_notInD (hu65 hr)) (pv 6) (pv 4) (by rfl)) pa_nil))))))))
      (pss_one (ps_ret (pv 4))))), ?_⟩
    -- many, wide
    refine ⟨_, rfl, _, rfl, _, _, rfl, rfl, p, n + 1, rfl, hS, by omega, by omega, fun many H1 m0 m1 hS1 e1 => ?_⟩
    refine ⟨_, rfl, _, _, rfl, rfl, ⟨by decide, by decide, by decide⟩, _, _, rfl, rfl, ⟨by decide, by decide, by decide⟩, (by show 5 ≤ sizeLine; decide), fun l hl => ?_⟩
    refine ⟨p, l, _, rfl, hS1.same (same_new hl), hS1.ne hl, upd_same, List.cons_ne_nil _ _, (by show 5 ≤ 1000; decide), fun v H2 hv hS2 e2 => ?_⟩
    obtain ⟨z, rfl, z0, z1⟩ := wide_of hv
    have e12 : Ex p H H2 := (e1.trans (Ex.same (same_new hl))).trans e2
    refine ⟨_, _, rfl, Nat.zero_le _, fun a ha => ?_⟩
    have fa : H a = none := e12.free hS2 ha
    refine ⟨_, rfl, many, rfl, by omega, by omega, for_range (n := many.toNat) (fun i σ H3 => ∃ (b : Addr) (ps : Pts) (y5 y6 : Option V), σ = [some (.ref p), some (.int n), some (.int many), some (.int z), some (.ref b), y5, y6] ∧ Src H3 p ∧ Ex p H H3 ∧ H b = none ∧ Spots H3 Lo b ps ∧ (ps.map (·.2)).Nodup ∧ ps.length ≤ i) ?_ ?_ ?_⟩
    · exact ⟨a, [], none, none, rfl, hS2.same (same_new ha), e12.trans (Ex.same (same_new ha)), fa, ⟨upd_same, Nat.zero_le _, fun q hq => (List.not_mem_nil hq).elim⟩, List.nodup_nil, Nat.le_refl _⟩
    · rintro i σ H3 hi ⟨b, ps, y5, y6, rfl, hS3, e3, fb, hP, hnd, hl3⟩
      have hz : (2 : Int) * z + 1 ≤ 10000000000000000000000000000000000000000 := by
        have z1' : z ≤ 1000000000000000000000000000000 := z1
        omega
      refine ⟨_, rfl, _, rfl, _, _, rfl, rfl, .inl ⟨by decide, by decide⟩, _, _, rfl, rfl, p, _, rfl, hS3, by omega, hz, fun x H4 x0 x1 hS4 e4 => ?_⟩
      refine ⟨_, rfl, _, _, rfl, rfl, _, rfl, _, rfl, _, _, rfl, rfl, .inl ⟨by decide, by decide⟩, _, _, rfl, rfl, p, _, rfl, hS4, by omega, hz, fun y H5 y0 y1 hS5 e5 => ?_⟩
      refine ⟨_, rfl, _, _, rfl, rfl, (by show 2 ≤ sizeLine; decide), fun t ht => ?_⟩
      have hbp : b ≠ p := fun e => by
        obtain ⟨_, _, _, _, h⟩ := hS
        rw [e, h] at fb
        cases fb
      have hP5 : Spots H5 Lo b ps := hP.ex hS3 hbp (e4.trans e5)
      have hP6 := hP5.same (same_new (o := .tup [.int (x - z), .int (y - z)]) ht)
      have hq : PtAt (upd H5 t (.tup [.int (x - z), .int (y - z)])) Lo (t, x - z, y - z) := ⟨upd_same, ⟨by have z1' : z ≤ 1000000000000000000000000000000 := z1; show -1000000000000000000000000000000 ≤ x - z ∧ x - z ≤ 1000000000000000000000000000000; omega, by have z1' : z ≤ 1000000000000000000000000000000 := z1; show -1000000000000000000000000000000 ≤ y - z ∧ y - z ≤ 1000000000000000000000000000000; omega⟩⟩
      refine ⟨_, rfl, _, rfl, (by show 1 ≤ sizeLine; decide), fun l6 hl6 => ?_⟩
      have s6 : Same (upd H5 t (.tup [.int (x - z), .int (y - z)])) (upd (upd H5 t (.tup [.int (x - z), .int (y - z)])) l6 (.lst [.ref t])) := same_new hl6
      refine ⟨_, rfl, _, rfl, ptD (x - z, y - z), _, dp_pt (hq.same s6), dp_spots (hP6.same s6), ptD_shaped _, ptDs_shaped _, ?_⟩
      rw [any_pt]
      refine .inr ⟨_, rfl, l6, _, [.ref t], rfl, rfl, upd_same, ?_, ?_, ?_, fun l7 hl7 => ?_⟩
      · split <;> decide
      · split <;> decide
      · have : (if (!decide ((x - z, y - z) ∈ ps.map (·.2))) = true then (1 : Int) else 0).toNat ≤ 1 := by split <;> decide
        exact Nat.le_trans (Nat.mul_le_mul_left 1 this) (by decide)
      · have s7 : Same (upd (upd H5 t (.tup [.int (x - z), .int (y - z)])) l6 (.lst [.ref t])) (upd (upd (upd H5 t (.tup [.int (x - z), .int (y - z)])) l6 (.lst [.ref t])) l7 (.lst (List.replicate (if (!decide ((x - z, y - z) ∈ ps.map (·.2))) = true then (1 : Int) else 0).toNat [V.ref t]).flatten)) := same_new hl7
        have hP7 := (hP6.same s6).same s7
        refine ⟨b, l7, _, _, rfl, rfl, hP7.1, upd_same, ?_, fun l8 hl8 => ?_⟩
        · have h1 := hP.2.1
          have h2 : ((List.replicate (if (!decide ((x - z, y - z) ∈ ps.map (·.2))) = true then (1 : Int) else 0).toNat [V.ref t]).flatten).length ≤ 1 := by
            split <;> simp
          rw [List.length_map]
          exact small40 (by omega)
        · have s8 := same_new (o := .lst ((ps.map fun q => V.ref q.1) ++ (List.replicate (if (!decide ((x - z, y - z) ∈ ps.map (·.2))) = true then (1 : Int) else 0).toNat [V.ref t]).flatten)) hl8
          have hS8 : Src _ p := (((hS5.same (same_new (o := .tup [.int (x - z), .int (y - z)]) ht)).same s6).same s7).same s8
          have e8 : Ex p H _ := ((((e3.trans (e4.trans e5)).trans (Ex.same (same_new (o := .tup [.int (x - z), .int (y - z)]) ht))).trans (Ex.same s6)).trans (Ex.same s7)).trans (Ex.same s8)
          have f8 : H l8 = none := Ex.free ((((hS5.same (same_new (o := .tup [.int (x - z), .int (y - z)]) ht)).same s6).same s7)) ((((e3.trans (e4.trans e5)).trans (Ex.same (same_new (o := .tup [.int (x - z), .int (y - z)]) ht))).trans (Ex.same s6)).trans (Ex.same s7)) hl8
          have hq8 := ((hq.same s6).same s7).same s8
          have hP8 := hP7.same s8
          by_cases hin : (x - z, y - z) ∈ ps.map (·.2)
          · refine ⟨l8, ps, _, _, rfl, hS8, e8, f8, ⟨?_, hP8.2⟩, hnd, by omega⟩
            rw [upd_same, decide_eq_true hin]
            simp
          · refine ⟨l8, ps ++ [(t, x - z, y - z)], _, _, rfl, hS8, e8, f8, ⟨?_, ?_, ?_⟩, ?_, ?_⟩
            · rw [upd_same, decide_eq_false hin]
              simp
            · rw [List.length_append, List.length_singleton]
              have : many ≤ 40 := by omega
              omega
            · intro r hr'
              rcases List.mem_append.mp hr' with h | h
              · exact hP8.2.2 r h
              · rw [List.mem_singleton.mp h]
                exact hq8
            · rw [List.map_append]
              exact nd_snoc hnd hin
            · rw [List.length_append, List.length_singleton]
              omega
    · rintro σ H3 ⟨b, ps, y5, y6, rfl, hS3, e3, fb, hP, hnd, hl3⟩
      exact ⟨_, rfl, q b ps H3 hS3 e3 fb hP hnd (by omega)⟩
end
end Q2

namespace Q2
open PySem PySem.Spec PyProof.Rows L2
def XY (H : Hp) (t : Addr) (x y : Int) : Prop := H t = some (.tup [.int x, .int y])
def absI (i : Int) : Int := if i < 0 then -i else i
theorem abs_le {i m : Int} (h : -m ≤ i ∧ i ≤ m) : decide (absI i ≤ m) = true := decide_eq_true (by unfold absI; split <;> omega)
section
variable {P : Program} {w : World} {K : PySem.W.Frag} {mg : Str → Option Value} {base : Heap}
/-! ### is_integer, is_coordinate -/
theorem scIsInt : FnScope ["value"] ["value"] (defScope s_is_integer) := ⟨rfl, rfl, rfl, by decide +kernel, rfl, by decide +kernel, by decide +kernel⟩
def spIsInt : Sp := fun vs H Q _ => ∃ i : Int, vs = [.int i] ∧ Q (.bl true) H
theorem ok_isInt {f : Addr} {fd : FuncData} (F : FnP K "is_integer" s_is_integer f fd) (B : Bt mg) : FnOk P w K mg base CX0 1 f fd ["value"] spIsInt := by
  refine F.ok scIsInt (fun vs H Q E h => ?_) (fun cdv A outer s H vs Q E hr h => ?_)
  · obtain ⟨a, rfl, _⟩ := h
    rfl
  · obtain ⟨i, rfl, q⟩ := h
    refine ⟨_, pss_one (ps_ret (pe_and (pe_callB call_isi (by rfl) B.isi (by decide +kernel) (pa_cons (pv 0) (pa_cons (pe_bltn (v := .ty "int") (by rfl) B.int (by decide +kernel) rfl) pa_nil)))
      (pe_one (pe_not (pe_callB call_isi (by rfl) B.isi (by decide +kernel) (pa_cons (pv 0) (pa_cons (pe_bltn (v := .ty "bool") (by rfl) B.bool (by decide +kernel) rfl) pa_nil))))))), ?_⟩
    refine ⟨_, rfl, _, _, _, _, true, rfl, .ty "int", .base (.int i), kit_ty (by decide +kernel), _, rfl, iteT ?_⟩
    exact ⟨_, rfl, _, _, _, _, false, rfl, .ty "bool", .base (.int i), kit_ty (by decide +kernel), _, rfl, q⟩
theorem scCoord : FnScope ["value"] ["value"] (defScope s_is_coordinate) := ⟨rfl, rfl, rfl, by decide +kernel, rfl, by decide +kernel, by decide +kernel⟩
def spCoord : Sp := fun vs H Q _ => ∃ i : Int, vs = [.int i] ∧ Q (.bl (decide (-Lo ≤ i ∧ i ≤ Lo))) H
theorem ok_coord {f fI : Addr} {fd fdI : FuncData} {tc : Tok} (F : FnP K "is_coordinate" s_is_coordinate f fd) (B : Bt mg) (FI : FnP K "is_integer" s_is_integer fI fdI) (bI : Binds K fdI ["value"] []) (gI : mg "is_integer" = some (.ref fI))
    (gC : mg "FARTHEST_COORDINATE" = some (.int Lo tc)) : FnOk P w K mg base CX0 2 f fd ["value"] spCoord := by
  have GI : FnOk P w K mg base CX0 1 fI fdI ["value"] spIsInt := ok_isInt FI B
  refine F.ok scCoord (fun vs H Q E h => ?_) (fun cdv A outer s H vs Q E hr h => ?_)
  · obtain ⟨a, rfl, _⟩ := h
    rfl
  · obtain ⟨i, rfl, q⟩ := h
    refine ⟨_, pss_one (ps_ret (pe_and (pe_call GI hr (by rfl) gI FI.kp bI .nil pass0 (pa_cons (pv 0) pa_nil)) (pe_one (pe_chain op_le op_le (pe_un un_neg (pe_glob (v := .int Lo) (by rfl) gC ⟨_, rfl⟩)) (pv 0) (pe_glob (v := .int Lo) (by rfl) gC ⟨_, rfl⟩))))), ?_⟩
    refine ⟨_, rfl, i, rfl, _, rfl, iteT ?_⟩
    refine ⟨_, rfl, _, rfl, _, _, rfl, rfl, _, rfl, ?_⟩
    by_cases h1 : -Lo ≤ i
    · rw [decide_eq_true h1]
      refine iteT ⟨_, _, rfl, rfl, ?_⟩
      have e : decide (-Lo ≤ i ∧ i ≤ Lo) = decide (i ≤ Lo) := decide_eq_decide.mpr ⟨fun h => h.2, fun h => ⟨h1, h⟩⟩
      rw [e] at q
      exact q
    · rw [decide_eq_false h1]
      have e : decide (-Lo ≤ i ∧ i ≤ Lo) = false := decide_eq_false fun h => h1 h.1
      rw [e] at q
      exact iteF q
/-! ### is_point, check_point -/
theorem scIsPt : FnScope ["value"] ["value"] (defScope s_is_point) := ⟨rfl, rfl, rfl, by decide +kernel, rfl, by decide +kernel, by decide +kernel⟩
def PtIn (H : Hp) (t : Addr) (x y : Int) : Prop := XY H t x y ∧ (-Lo ≤ x ∧ x ≤ Lo) ∧ (-Lo ≤ y ∧ y ≤ Lo)
theorem PtIn.same {H H' : Hp} {t : Addr} {x y : Int} (e : Same H H') (h : PtIn H t x y) : PtIn H' t x y := ⟨e _ _ h.1, h.2⟩
def spIsPt : Sp := fun vs H Q _ => ∃ (t : Addr) (x y : Int), vs = [.ref t] ∧ PtIn H t x y ∧ ∀ H', Same H H' → Q (.bl true) H'
theorem all_true (n : Nat) : (List.replicate n true).all id = true := by
  induction n with
  | zero => rfl
  | succ n ih => rw [List.replicate_succ, List.all_cons, ih]; rfl
/-- a point that is read: tracked, or written -/
def PtR (K : PySem.W.Frag) (H : Hp) (a : Addr) (p : Int × Int) : Prop := SqT K H a [.int p.1, .int p.2]
def PtB (p : Int × Int) : Prop := (-Lo ≤ p.1 ∧ p.1 ≤ Lo) ∧ (-Lo ≤ p.2 ∧ p.2 ≤ Lo)
theorem ty_tup {K : PySem.W.Frag} {H : Hp} {a : Addr} {xs : List V} (h : SqT K H a xs) : TyX K H (.ref a) (.type "tuple") := by
  rcases h with (h | ⟨o, h⟩) | ⟨o, its, n, h1, h2, _⟩
  · exact .base (.tup h)
  · exact .fTuple h
  · exact .kTuple h1 h2
def spIsPtR (K : PySem.W.Frag) : Sp := fun vs H Q _ => ∃ (t : Addr) (p : Int × Int), vs = [.ref t] ∧ PtR K H t p ∧ PtB p ∧ Q (.bl true) H
theorem ok_isPtR {f fU : Addr} {fd fdU : FuncData} (F : FnP K "is_point" s_is_point f fd) (B : Bt mg) (GU : FnOk P w K mg base CX0 2 fU fdU ["value"] spCoord) (kU : PySem.W.keepIn K (.ref fU) = true) (bU : Binds K fdU ["value"] []) (gU : mg "is_coordinate" = some (.ref fU)) : FnOk P w K mg base CX0 3 f fd ["value"] (spIsPtR K) := by
  refine F.ok scIsPt (fun vs H Q E h => ?_) (fun cdv A outer s H vs Q E hr h => ?_)
  · obtain ⟨a, b, rfl, _⟩ := h
    rfl
  · obtain ⟨t, ⟨x, y⟩, rfl, hT, ⟨hx, hy⟩, q⟩ := h
    refine ⟨_, pss_cons (ps_if (PW.pt (pw_or (pt_not (pt_val (pe_callB call_isi (by rfl) B.isi (by decide +kernel) (pa_cons (pv 0) (pa_cons (pe_bltn (v := .ty "tuple") (by rfl) B.tuple (by decide +kernel) rfl) pa_nil))))) (pw_or1 (pt_cmpR op_ne (pe_callB call_len_seq (by rfl) B.len PySem.boot_len (pa_cons (pv 0) pa_nil)) pe_int (nomark _))))) (pss_one (ps_ret pe_bl)) pss_nil)
      (pss_one (ps_ret (pe_and (pe_call GU hr (by rfl) gU kU bU .nil pass0 (pa_cons (pe_ix ix_tup (pv 0) pe_int (fun _ _ => rfl)) pa_nil)) (pe_one (pe_call GU hr (by rfl) gU kU bU .nil pass0 (pa_cons (pe_ix ix_tup (pv 0) pe_int (fun _ _ => rfl)) pa_nil)))))), ?_⟩
    refine ⟨_, rfl, _, _, _, _, true, rfl, .ty "tuple", ty_tup hT, kit_ty (by decide +kernel), _, rfl, iteF ?_⟩
    refine ⟨_, rfl, t, _, rfl, .inr (hT), rfl, _, rfl, iteF ?_⟩
    refine ⟨_, rfl, t, _, 0, .int x, rfl, rfl, hT, atI_nat (j := 0) rfl, x, rfl, ?_⟩
    rw [decide_eq_true hx]
    refine ⟨_, rfl, iteT ?_⟩
    refine ⟨_, rfl, t, _, 1, .int y, rfl, rfl, hT, atI_nat (j := 1) rfl, y, rfl, ?_⟩
    rw [decide_eq_true hy]
    exact q
theorem ok_isPt {f fU : Addr} {fd fdU : FuncData} (F : FnP K "is_point" s_is_point f fd) (B : Bt mg) (GU : FnOk P w K mg base CX0 2 fU fdU ["value"] spCoord) (kU : PySem.W.keepIn K (.ref fU) = true) (bU : Binds K fdU ["value"] []) (gU : mg "is_coordinate" = some (.ref fU)) : FnOk P w K mg base CX0 3 f fd ["value"] spIsPt :=
  (ok_isPtR F B GU kU bU gU).imp fun vs H Q E ⟨t, x, y, e, h, q⟩ => ⟨t, (x, y), e, SqT.of h.1, h.2, q H (fun _ _ h => h)⟩
end
end Q2

namespace Q2
open PySem PySem.Spec PyProof.Rows L2
/-! ### two keywords, the other way round -/
def sw {α : Type} : List α → List α → List α
  | [], [a, b] => [b, a]
  | _, _ => []
theorem sw_rel {vs zs : List V} {us ws : List Value} (h1 : Vals vs us) (h2 : Vals zs ws) : Vals (sw vs zs) (sw us ws) := by
  cases h1 with
  | nil =>
    cases h2 with
    | nil => exact .nil
    | cons a r =>
      cases r with
      | nil => exact .nil
      | cons b r2 =>
        cases r2 with
        | nil => exact .cons b (.cons a .nil)
        | cons c r3 => exact .nil
  | cons a r => exact .nil
theorem sw_two {us ws : List Value} (h : (sw us ws).length = 2) : ∃ a b, us = [] ∧ ws = [a, b] := by
  unfold sw at h
  split at h
  · exact ⟨_, _, rfl, rfl⟩
  · cases h
section
variable {P : Program} {w : World} {K : PySem.W.Frag} {mg : Str → Option Value} {base : Heap}
theorem kb_of {x : Str} {st : Stmt} {f : Addr} {fd : FuncData} {ps ks : List Str} (F : FnP K x st f fd) (hp : ps.length = 2)
    (h : ∀ (kV doc pm : Value) (an : Option Addr) (cdv ct a b : Value), bindArgs (PySem.W.fnOf x x (defArgs st) (defBody st) (defScope st) .none kV doc pm an cdv ct) ⟨[], ks.zip [a, b]⟩ = pure (ps.zip [b, a])) : KBinds K fd ps ks sw sw := by
  obtain ⟨oc, od, kV, doc, pm, an, cdv, ct, osl, rfl, lk, hcd⟩ := F.ex
  refine ⟨fun s us ws _ hl => ?_, sw_rel⟩
  rw [hp] at hl
  obtain ⟨a, b, rfl, rfl⟩ := sw_two hl
  exact .of_eq (h _ _ _ _ _ _ _ _)
end
end Q2

namespace Q2
open PySem PySem.Spec PyProof.Rows L2
section
variable {P : Program} {w : World} {A : Around} {E : Value → Shared → Prop} {s : Shared} {a : Addr} {L : List (Addr × List Int)} {es : Array (Int × Value)} {ep : Nat} {t : SetTable}
/-- the search of a key that is no member comes to the first empty slot, whatever its hash meets on the way -/
theorem free_from (R : SetTR P w s.heap a L es ep t) {x : Addr} {k : List Int} (kx : IsT P w s.heap k x) (un : A.units < cLine) (out : k ∉ L.map (·.2)) {K : Nat} (lessK : K < 10 * SetTable.turns t.mask)
    (gapK : way t.mask (thash P w k) K ∉ t.place.toList) (fullK : ∀ c, c < K → way t.mask (thash P w k) c ∈ t.place.toList) {Q : SetFound → Shared → Prop} (win : Q (.free (way t.mask (thash P w k) K) false) s) :
    ∀ (f c : Nat) (stand : Option SetTable.Probe), stand.getD (t.probeStart (thash P w k)) = nth t.mask (runAt t.mask (SetTable.bits (thash P w k) % (t.mask + 1)) (SetTable.bits (thash P w k))) c → c ≤ K → K - c < f →
      wpAny (model P w) A (setSearchFrom a (.ref x) (thash P w k) false f stand) Q E s
  | 0, c, stand, _, _, less => absurd less (Nat.not_lt_zero _)
  | f + 1, c, stand, here, cK, less => by
    obtain ⟨ob, hob, exact_, dat⟩ := R.ob
    rw [setSearchFrom_succ]
    refine wpAny_bind ((wpAny_setState_of hob dat R.fits) ?_)
    dsimp only
    refine (wp_if_neg R.gw) ?_
    try refine (wpAny_bind (wpAny_pure ?_))
    -- the probe, c steps on
    generalize base0 : runAt t.mask (SetTable.bits (thash P w k) % (t.mask + 1)) (SetTable.bits (thash P w k)) = p0 at here
    have noDummy : ∀ (n : Nat) (p : SetTable.Probe), p.dummy = none → (nth t.mask p n).dummy = none := fun n => by
      induction n with
      | zero => exact fun p h => h
      | succ n ih => exact fun p h => ih (adv t.mask p) (by unfold adv; split <;> exact h)
    have d0 : p0.dummy = none := by rw [← base0]; rfl
    have go_on : ∀ q, nth t.mask (nth t.mask p0 c) q = nth t.mask p0 (c + q) := fun q => (nth_add t.mask c p0 q).symm
    have at_ : ∀ q, (nth t.mask p0 q).j = way t.mask (thash P w k) q := fun q => by rw [← base0]
    have at2 : ∀ q, (nth t.mask (nth t.mask p0 c) q).j = way t.mask (thash P w k) (c + q) := fun q => by rw [go_on, at_]
    have found := go_spec t R.tab.ris R.tab.dm (fun i => (es[i]?.map (·.1)).getD 0) (thash P w k) (10 * SetTable.turns t.mask) (K - c) (nth t.mask p0 c) (noDummy c p0 d0) (Nat.lt_of_le_of_lt (Nat.sub_le K c) lessK)
      (fun q hq => by rw [at2]; exact fullK (c + q) (Nat.add_lt_of_lt_sub' hq)) (by rw [at2, Nat.add_sub_cancel' cK]; exact gapK)
    rcases found with ⟨q, i, hq, slot, _, _, ans⟩ | ⟨_, ans⟩
    · have ans2 : t.probe (fun i => (es[i]?.map (·.1)).getD 0) (thash P w k) (stand.getD (t.probeStart (thash P w k))) = some (.candidate (way t.mask (thash P w k) (c + q)) i (nth t.mask p0 (c + (q + 1)))) := by
        rw [here, ← at2, ← go_on]
        exact ans
      rw [ans2]
      dsimp only
      rw [at2] at slot
      have small : i < L.length := by
        have y1 : i < t.place.toList.length := (List.getElem?_eq_some_iff.mp slot).1
        have y2 := R.tab.sz
        rw [List.length_map] at y2
        rw [Array.length_toList] at y1
        omega
      obtain ⟨p, hp⟩ : ∃ p, L[i]? = some p := ⟨L[i], List.getElem?_eq_getElem small⟩
      have pin : p ∈ L := List.mem_of_getElem? hp
      have other : p.2 ≠ k := fun e => out (List.mem_map.mpr ⟨p, pin, e⟩)
      have behind : wpAny (model P w) A (searchRest a (.ref x) (thash P w k) false f es t (way t.mask (thash P w k) (c + q)) i (nth t.mask p0 (c + (q + 1)))) Q E s := by
        unfold searchRest
        rw [R.entry hp]
        dsimp only
        refine wpAny_bind (wpAny_holding ((wpAny_eqBool_tuple un (R.tup p pin) kx) ?_))
        refine wpAny_bind ((wpAny_setState_of hob dat R.fits) ?_)
        dsimp only
        refine (wp_if_neg (by simp)) ?_
        try refine (wpAny_bind (wpAny_pure ?_))
        rw [sameMem]
        dsimp only
        have live := slot_live R.tab.ris slot
        simp only [if_true, live, R.entry hp]
        refine wpAny_bind (wpAny_isSame_ref_self (wpAny_bind (wpAny_pure ?_)))
        simp only [if_true]
        refine (wp_if_neg (by simp [other])) ?_
        refine free_from R kx un out lessK gapK fullK win f (c + (q + 1)) (some (nth t.mask p0 (c + (q + 1)))) ?_ (by omega) (by omega)
        rw [base0]
        rfl
      by_cases led : t.led = true
      · refine (wp_if_neg (by simp [led])) ?_
        try refine (wpAny_bind (wpAny_pure ?_))
        exact behind
      · refine (wp_if_pos (by simp [led])) ?_
        refine wpAny_bind ((seen_tup kx fun y hy => ?_) ?_)
        · obtain ⟨e, he, ee⟩ := List.mem_map.mp hy
          have e1 : e ∈ es ∧ e.1 = thash P w k := by simpa using he
          have e2 : e ∈ es.toList := by simpa using e1.1
          rw [R.rows] at e2
          obtain ⟨p2, m2, rfl⟩ := List.mem_map.mp e2
          exact ⟨p2.2, p2.1, ee.symm, R.tup p2 m2⟩
        · refine (wp_if_neg (by decide)) ?_
          try refine (wpAny_bind (wpAny_pure ?_))
          exact behind
    · have ans2 : t.probe (fun i => (es[i]?.map (·.1)).getD 0) (thash P w k) (stand.getD (t.probeStart (thash P w k))) = some (.empty (way t.mask (thash P w k) K) none) := by
        have e2 : way t.mask (thash P w k) K = (nth t.mask (nth t.mask p0 c) (K - c)).j := by rw [at2, Nat.add_sub_cancel' cK]
        rw [here, e2]
        exact ans
      rw [ans2]
      dsimp only
      exact wpAny_pure win
/-- the key is not there -/
theorem find_out (R : SetTR P w s.heap a L es ep t) {x : Addr} {k : List Int} (kx : IsT P w s.heap k x) (un : A.units < cLine) (out : k ∉ L.map (·.2)) {Q : Option Nat → Shared → Prop} (win : Q none s) :
    wpAny (model P w) A (setFind a (.ref x) (thash P w k)) Q E s := by
  obtain ⟨ob, hob, exact_, dat⟩ := R.ob
  have room_ := R.room
  obtain ⟨K, lessK, gapK, fullK⟩ := R.tab.first (by rw [List.length_map]; omega) (thash P w k)
  have few : K < 100000 := by
    have : 10 * SetTable.turns t.mask ≤ 1420 := by
      unfold SetTable.turns
      rcases R.tab.mok with e | e | e <;> omega
    omega
  unfold setFind
  rw [show (100000 : Nat) = 99999 + 1 from rfl]
  unfold setFindIn
  refine wpAny_bind ((wpAny_setState_of hob dat R.fits) ?_)
  dsimp only
  refine (wp_if_neg (by simp [byScan, Value.scannable])) ?_
  try refine (wpAny_bind (wpAny_pure ?_))
  unfold setSearch
  refine wpAny_bind (free_from R kx un out lessK gapK fullK ?_ 100000 0 none rfl (Nat.zero_le _) (by omega))
  dsimp only
  exact wpAny_pure win
end
section
variable {X : Cx}
theorem cr_set0T : CallR X (.type "set") (fun xs H Q => xs = [] ∧ ∀ p, H p = none → Q (.ref p) (upd H p (SetTO X.prog X.w p []))) := by
  intro pins s σ H xs us Q I r h
  obtain ⟨rfl, q⟩ := h
  cases r
  refine setR_new fun _ => ?_
  exact ⟨.ref _, upd H s.heap.objs.size (SetTO X.prog X.w s.heap.objs.size []), I.laid (t' := s.toks) (fun b u e => Heap.get?_push_of_some _ e) (Nat.le_refl _) (setTO_new (setTR_fresh (Heap.get?_push_size _ rfl)).t0), rfl, q _ (I.hok.fresh (Nat.le_refl _))⟩
theorem setT_full {pins : List (Addr × Obj)} {σ : L2.St} {H : Hp} {s : Shared} {a : Addr} {L : List (Addr × List Int)} (I : Inv X pins σ H s) (h : H a = some (SetTO X.prog X.w a L)) (ht : ∀ p ∈ L, SqT X.K H p.1 (p.2.map V.int)) : ∃ es ep t, SetTR X.prog X.w s.heap a L es ep t := by
  have o := I.hok a _ h
  have z : SetT0 X.prog X.w s.heap a L := o.1
  exact z.full fun p hp => I.isT (ht p hp)
/-- t in found, which it is not -/
def rOutT (K : PySem.W.Frag) (P : Program) (w : World) : R2 := fun x y H Q => ∃ (b a : Addr) (k : List Int) (L : List (Addr × List Int)), x = .ref b ∧ y = .ref a ∧ SqT K H b (k.map V.int) ∧ H a = some (SetTO P w a L) ∧ (∀ p ∈ L, SqT K H p.1 (p.2.map V.int)) ∧ k ∉ L.map (·.2) ∧ Q (.bl false) H
theorem op_outT (un : X.A.units + 64 < cLine) : OpR X (compareOp .In) (rOutT X.K X.prog X.w) := by
  intro pins s σ H x y v u Q I rx ry h
  obtain ⟨b, a, k, L, rfl, rfl, hk, ha, hL, out, q⟩ := h
  cases rx
  cases ry
  obtain ⟨es, ep, t, R⟩ := setT_full I ha hL
  obtain ⟨ob, hob, ex, dat⟩ := R.ob
  have ty : s.TypeIs (.ref a) "set" := ⟨ob, hob, ex.1⟩
  show wpAny _ _ (do return Value.bool (← contains (.ref a) (.ref b))) _ _ s
  refine (wpAny_bind ?_)
  unfold contains
  try with_reducible refine (wpAny_holding ?_)
  refine wpAny_bind ((wpAny_specialOf ty PySem.F.slot_set_contains.lookup) ?_)
  show wpAny _ _ (if (some (Value.builtin "set.__contains__") == some Value.none) = true then _ else _) _ _ s
  rw [if_neg (show ¬ _ by rw [beq_builtin_none]; exact Bool.false_ne_true)]
  refine wpAny_bind ((wpAny_callSpecialUnlessNone?_slot (name := Str.ofString "__contains__") ty PySem.F.slot_set_contains)
    (wpAny_call_entry PySem.F.slot_set_contains ty entry_set_contains (ha := PySem.F.args_set_contains_2 _ _) ?_))
  unfold Builtin.«frozenset.__contains__» Builtin.Frozenset.oneOther
  simp only [List.isEmpty_nil, bind_assoc]
  unfold Builtin.Frozenset.addrOf Builtin.Frozenset.withSetAsKey setContains
  refine (wpAny_bind (wpAny_pure ?_))
  try dsimp only
  refine (wpAny_bind (wpAny_pure ?_))
  try dsimp only
  refine (wpAny_bind (wpAny_tryCatch ?_))
  refine (wpAny_holding ?_)
  have kx := I.isT hk
  refine wpAny_bind ((wpAny_pyHash_tuple (by show X.A.units + 1 < cLine; omega) kx) ?_)
  refine wpAny_bind (find_out (s := { s with toks := s.toks + (k.length + 1) }) R kx (by show X.A.units + 1 < cLine; omega) out ?_)
  refine (wpAny_pure ?_)
  show wpAny _ _ (ret (Value.bool false)) _ _ _
  exact wpAny_pure ⟨_, rfl, wpAny_truthy_bool (wpAny_pure ⟨.bl false, H, I.tok _, rfl, q⟩)⟩
/-- found.add(t), a new member -/
def rAddT (K : PySem.W.Frag) (P : Program) (w : World) : V → List V → Hp → VK → Prop := fun x xs H Q => ∃ (a b : Addr) (k : List Int) (L : List (Addr × List Int)), x = V.ref a ∧ xs = [V.ref b] ∧ H a = some (SetTO P w a L) ∧ SqT K H b (k.map V.int) ∧ (∀ p ∈ L, SqT K H p.1 (p.2.map V.int)) ∧ k ∉ L.map (·.2) ∧ L.length + 1 < 64 ∧
  ∀ L', L'.Perm ((b, k) :: L) → Q .non (upd H a (SetTO P w a L'))
theorem mt_addT (un : X.A.units + 64 < cLine) : MtR X "set.add" (rAddT X.K X.prog X.w) := by
  intro pins s σ H x xs v us Q I rx rxs h
  obtain ⟨a, b, k, L, rfl, rfl, ha, hk, hL, out, few, q⟩ := h
  cases rx
  cases rxs with
  | cons ry rt =>
    cases rt
    cases ry
    obtain ⟨es, ep, t, R⟩ := setT_full I ha hL
    obtain ⟨ob, hob, ex, dat⟩ := R.ob
    have ty : s.TypeIs (.ref a) "set" := ⟨ob, hob, ex.1⟩
    have kx := I.isT hk
    refine wpAny_call_entry PySem.F.slot_set_add ty PySem.F.entry_set_add (ha := PySem.F.args_set_add_2 _ _) ?_
    unfold Builtin.«set.add» Builtin.Frozenset.oneOther
    simp only [List.isEmpty_nil, bind_assoc]
    unfold Builtin.Frozenset.addrOf setAdd
    refine (wpAny_bind (wpAny_pure ?_))
    try dsimp only
    refine (wpAny_bind (wpAny_pure ?_))
    try dsimp only
    refine (wpAny_bind ?_)
    refine (wpAny_holding ?_)
    refine wpAny_bind ((wpAny_pyHash_tuple (by show X.A.units + 1 < cLine; omega) kx) ?_)
    refine add_at (s := { s with toks := s.toks + (k.length + 1) }) R kx (by show X.A.units + 1 < cLine; omega) few fun bb h' L' es' ep' t' sb R' _ pm => ?_
    show wpAny _ _ (ret Value.none) _ _ _
    have he : ∃ u, h'.get? a = some u := by
      obtain ⟨o, ho, _⟩ := R'.ob
      exact ⟨o, ho⟩
    refine wpAny_pure ⟨_, rfl, .non, upd H a (SetTO X.prog X.w a L'), ?_, rfl, q L' (pm out)⟩
    exact I.write (e := a) (t' := s.toks + (k.length + 1)) (by rw [ha]; trivial) (.inl rfl) (fun c u hc hu => (sb.2 c hc).trans hu) he (setTO_new R'.t0)
def tAddT (K : PySem.W.Frag) (P : Program) (w : World) (to : TE) (t : TA) : TE := fun σ H Q => to σ H fun x H1 => (∃ a L, x = V.ref a ∧ H1 a = some (SetTO P w a L) ∧ ∀ p ∈ L, SqT K H1 p.1 (p.2.map V.int)) ∧ t σ H1 fun xs H2 => rAddT K P w x xs H2 Q
variable {o e : Expr} {es : List Expr} {to : TE} {t : TA} {apos cpos : Pos}
theorem pe_addT (un : X.A.units + 64 < cLine) (ho : PE X o to) (ha : PA X (e :: es) t)
    (hbase : attributeBase o "add" X.env (eval o X.env) = eval o X.env := by rfl)
    (hfew : ((backTo cpos (starEach (e :: es) X.env)).all (fun x => !x.1) && (backToKw cpos (keywordEach [] X.env)).all (fun x => x.1.isSome) && decide ((e :: es).length + ([] : List Keyword).length + (if ([] : List Keyword).isEmpty then 0 else 1) < 30)) = true := by rfl)
    (hline : (apos.endLine == cpos.line) = true := by rfl) (hstar : starEach (e :: es) X.env = (false, eval e X.env) :: starEach es X.env := by rfl) (hplain : (backTo cpos (starEach es X.env)).any (·.1) = false := by rfl) :
    PE X (.Call (.Attribute o "add" apos) (e :: es) [] cpos) (tAddT X.K X.prog X.w to t) := by
  refine ⟨fun pins s σ H Q I h => ?_⟩
  refine (wpAny_Call_method_late hbase hfew hline rfl) (thn (ho.run pins s σ H _ I h) fun v s1 ⟨x, H1, I1, r1, ty, q1⟩ => ?_)
  obtain ⟨a, L, rfl, hL, hp⟩ := ty
  obtain ⟨tes, ep, tt, R⟩ := setT_full I1 hL hp
  obtain ⟨ob, hob, ex, dat⟩ := R.ob
  cases r1
  refine ⟨"set", "set.add", PySem.F.plainAttrs_set, PySem.F.slot_set_add, PySem.F.type_set_add, ⟨ob, hob, ex.1⟩, ?_, ?_⟩
  · intro a1 e1
    cases e1
    exact ⟨ob, hob, ex.2.1⟩
  · have run := ha.run cpos pins s1 σ H1 _ I1 q1
    rw [hstar] at run ⊢
    refine Calls.callWith_builtin (by show (false || (backTo cpos (starEach es X.env)).any (·.1)) = false; rw [hplain]; rfl) (Calls.evalArgs_plain ?_)
    exact thn run fun us s2 ⟨vs, H2, I2, r2, q2⟩ => mt_addT un pins s2 σ H2 (.ref a) vs (.ref a) us Q I2 rfl r2 q2
end
end Q2

namespace Q2
open PySem PySem.W PySem.Spec PySem.Calls PyProof.Rows
section
variable {prog : Program} {w : World} {A : Around} {E : Value → Shared → Prop} {s : Shared} {vs : List Value}
theorem collect_tupl {t : Addr} {Q : List Value → Shared → Prop} (tup : IsTup s.heap t vs.toArray) (small : vs.length ≤ sizeLine)
    (win : Q vs { s with heap := (s.heap.push (seqObj "list" #[] 0)).update s.heap.objs.size (Obj.mapSeq (· ++ vs.toArray)) }) : wpAny (model prog w) A (collect (.ref t)) Q E s := by
  obtain ⟨o, here, cls, n, dat⟩ := id tup
  unfold collect
  refine wpAny_bind (wpAny_runValue (codeAny_builtin (entry_proto_collect') ?_))
  show wpAny _ _ (do again (.builtin "list.__iadd__" ⟨[← newList [], .ref t], []⟩)) _ _ s
  refine wpAny_bind (wpAny_newList (wpAny_pure ⟨(Code.quiet_builtin _ (by decide +kernel)), codeAny_builtin (entry_list_iadd') ?_⟩))
  show wpAny _ _ (Builtin.List.listExtendWith (.ref s.heap.objs.size) (.ref t) (.ref s.heap.objs.size)) _ _ { s with heap := s.heap.push (seqObj "list" #[] 0) }
  unfold Builtin.List.listExtendWith
  have there : (s.heap.push (seqObj "list" #[] 0)).get? t = some o := Heap.get?_push_of_some _ here
  refine wpAny_bind ((wpAny_typeOf (T := "tuple") (show ({ s with heap := s.heap.push (seqObj "list" #[] 0) } : Shared).TypeIs (.ref t) "tuple" from ⟨o, there, cls⟩)) ?_)
  have same2 : (Value.type "tuple" == Value.type "tuple") = true := by rfl
  rw [if_pos (show _ by rw [same2]; simp)]
  refine wpAny_bind ((listItems_at there dat) ?_)
  refine wpAny_bind ((listItems_at (xs := #[]) (n := 0) (Heap.get?_push_size _ rfl) rfl) ?_)
  rw [if_neg (show ¬ _ by simp)]
  refine wpAny_bind (listUpdate_at (xs := #[]) (n := 0) (Heap.get?_push_size _ rfl) rfl ?_ (Nat.zero_le _) (show (#[] ++ vs.toArray).size ≤ sizeLine + 1 by simp only [Array.size_append, List.size_toArray, List.length_nil]; omega))
  refine (wpAny_pure ?_)
  show wpAny (model prog w) A (do
      let ob ← load s.heap.objs.size
      match ob.data with
      | .seq xs _ => pure xs.toList
      | _ => unsupported "internal:collect") Q E { s with heap := (s.heap.push (seqObj "list" #[] 0)).update s.heap.objs.size (Obj.mapSeq (· ++ vs.toArray)) }
  refine wpAny_bind ((wpAny_load (get?_update_seq (Heap.get?_push_size _ rfl) _)) ?_)
  show wpAny _ _ (pure ((#[] : Array Value) ++ vs.toArray).toList) Q E _
  have e : ((#[] : Array Value) ++ vs.toArray).toList = vs := by simp
  rw [e]
  exact wpAny_pure win
/-- sorted(x, ..) of a list or a tuple, by what list.sort does to a new list of its items -/
theorem sorted_seq {l : Addr} {kw : List (Str × Value)} {Q : Value → Shared → Prop} (seq : s.heap.IsList l vs.toArray ∨ IsTup s.heap l vs.toArray) (small : vs.length ≤ sizeLine) (args1 : argsOk "sorted" ⟨[.ref l], kw⟩) (args2 : ∀ x, argsOk "list.sort" ⟨[.ref x], kw⟩)
    (sorts : ∀ E' : Value → Shared → Prop, wpAny (model prog w) A.in1.in1 (Builtin.«list.sort» ⟨[.ref (s.heap.objs.size + 1)], kw⟩) (fun f s' => f = .done (.ret .none) ∧ Q (.ref (s.heap.objs.size + 1)) s') E' { s with heap := copyHeap s.heap vs }) :
    wpAny (model prog w) A (call (.builtin "sorted") [.ref l] kw) Q E s := by
  rcases seq with h | h
  · exact sorted_of_sort h small args1 args2 sorts
  · refine call_function_entry_kw (kind_sorted) plain_sorted entry_sorted args1 ?_
    unfold Builtin.«sorted»
    refine wpAny_bind (m := checkCount "sorted" 1 1 _) ((wpAny_pure ?_))
    refine wpAny_bind (collect_tupl h small ?_)
    refine wpAny_bind ((wpAny_newList ?_ small))
    have big : ((s.heap.push (seqObj "list" #[] 0)).update s.heap.objs.size (Obj.mapSeq (· ++ vs.toArray))).objs.size = s.heap.objs.size + 1 := (Heap.size_update ..).trans (size_push' ..)
    show wpAny _ _ _ _ _ { s with heap := copyHeap s.heap vs }
    rw [big]
    refine wpAny_bind (wpAny_holding ((wpAny_call_entry_kw slot_list_sort ⟨_, copyHeap_at s.heap vs, rfl⟩ entry_list_sort ?here (args2 _))))
    case here =>
      refine wpAny_mono (sorts _) (fun f s' hf => ?_) fun _ _ e => e
      exact ⟨_, hf.1, wpAny_pure ⟨_, rfl, hf.2⟩⟩
variable {β : Type} {bs : List β} {enc : β → PyData} {R : Value → β → Prop}
theorem sorted_plain {l : Addr} {Q : Value → Shared → Prop} (seq : s.heap.IsList l vs.toArray ∨ IsTup s.heap l vs.toArray) (e : EachIs R vs bs) (er : EachIs (fun v b => ∃ as, Reads s.heap v (enc b) as) vs bs) (al : AllAlike (bs.map enc)) (so : Sortable (bs.map enc)) (small : bs.length ≤ sizeLine)
    (un : ∀ b, b ∈ bs → A.units + 2 + (enc b).depth < cLine) (win : ∀ out, out.length = bs.length → EachIs R out (bs.mergeSort (dataLe false enc)) → Q (.ref (s.heap.objs.size + 1)) { s with heap := sortedAll s.heap vs (List.toArray out) }) :
    wpAny (model prog w) A (call (.builtin "sorted") [.ref l]) Q E s := by
  have er2 : EachIs (fun v b => ∃ as, Reads (sortingHeap (copyHeap s.heap vs) (s.heap.objs.size + 1) vs) v (enc b) as) vs bs := er.mono fun _ _ ⟨as, r⟩ => ⟨as, PyProof.Rows.Reads.keeps (fun _ _ => sorting_copy_old) r⟩
  have lenv : vs.length ≤ sizeLine := by rw [e.length]; exact small
  refine sorted_seq seq lenv (args_sorted1 _) (fun _ => args_list_sort _) fun E' => ?_
  refine list_sort_vals (s := { s with heap := copyHeap s.heap vs }) (copyHeap_at s.heap vs) (SortsAt.data (s := { s with heap := sortingHeap (copyHeap s.heap vs) (s.heap.objs.size + 1) vs }) (each_map (R := fun v d => ∃ as, Reads (sortingHeap (copyHeap s.heap vs) (s.heap.objs.size + 1) vs) v d as) enc er2) al so (bound_map un)) lenv ⟨rfl, ?_⟩
  exact win _ (by rw [sortVals_length false rfl]; exact e.length) (sortVals_data false e er2 al)
theorem sorted_keyed {l : Addr} {f : Value} {kw : List (Str × Value)} {Q : Value → Shared → Prop} (k : β → PyData) (seq : s.heap.IsList l vs.toArray ∨ IsTup s.heap l vs.toArray) (e : EachIs R vs bs) (al : AllAlike (bs.map k)) (so : Sortable (bs.map k)) (small : bs.length ≤ sizeLine)
    (un : ∀ x, x ∈ bs → A.units + 2 + (k x).depth < cLine) (args1 : argsOk "sorted" ⟨[.ref l], kw⟩) (args2 : ∀ x, argsOk "list.sort" ⟨[.ref x], kw⟩) (tree : ∀ x, Builtin.«list.sort» ⟨[.ref x], kw⟩ = ksk_tree x f false)
    (turn : ∀ (v : Value) (x : β), R v x → x ∈ bs → ∀ (h : Heap) (tk : Nat), (∀ b o, s.heap.get? b = some o → h.get? b = some o) →
      wpAny (model prog w) A.in1.in1 (call f [v]) (KeyPure (k x) { s with heap := h, toks := tk }) (fun _ _ => False) { s with heap := h, toks := tk })
    (win : ∀ out c h' tk, (∀ b o, s.heap.get? b = some o → h'.get? b = some o) → s.heap.get? (s.heap.objs.size + 1) = none → h'.get? (s.heap.objs.size + 1) = some (seqObj "list" (List.toArray out) c) → out.length = bs.length → EachIs R out (bs.mergeSort (dataLe false k)) →
      Q (.ref (s.heap.objs.size + 1)) { s with heap := h', toks := tk }) : wpAny (model prog w) A (call (.builtin "sorted") [.ref l] kw) Q E s := by
  have fresh : s.heap.get? (s.heap.objs.size + 1) = none := Heap.get?_none_of_le (Nat.le_succ _)
  have over : ∀ {g : Heap}, KeepsBut (s.heap.objs.size + 1) (copyHeap s.heap vs) g → ∀ b o, s.heap.get? b = some o → g.get? b = some o := fun {g} kp b o q => kp b o (Nat.ne_of_lt (Nat.lt_succ_of_lt (Heap.lt_size q))) (copyHeap_old q)
  have lens : (bs.map k).length = vs.length := by rw [List.length_map]; exact e.length.symm
  have lenv : vs.length ≤ sizeLine := by rw [e.length]; exact small
  refine sorted_seq seq lenv args1 args2 fun E' => ?_
  rw [tree]
  refine keyH_tree (kz := bs.map k) (s := { s with heap := copyHeap s.heap vs }) (copyHeap_at s.heap vs) lens lenv al so (bound_map (A := A.in1.in1) un) (keyH_turns (s := { s with heap := copyHeap s.heap vs }) e fun v x hR hx h tk kp => turn v x hR hx h tk (over kp)) fun h' tk out c kp hD ko => ⟨rfl, ?_⟩
  exact win out c h' tk (over kp) fresh hD ((ko.length lens).trans e.length) (keyedOut_each k ko e)
end
end Q2

namespace Q2
open PySem PySem.Spec PyProof.Rows L2
section
variable {prog : Program} {w : World} {A : Around} {E : Value → Shared → Prop} {s : Shared}
theorem raw_item {env : Env} {m : Str → Option Value} {t : Addr} {u0 u1 v : Value} {k : Nat} {x : Str} {p1 p2 p3 : Pos} {j1 : Nat} {Q : Value → Shared → Prop} (kind : env.scope.kind = .function) (loc : env.kindOf x = some .local) (ns : s.heap.Ns env.locals m) (mx : m x = some (.ref t))
    (tup : IsTup s.heap t #[u0, u1]) (hk : k < 2) (hv : #[u0, u1][k]? = some v) (hd : (x == ("__debug__" : Str)) = false) (win : Q v { s with toks := s.toks + 1 }) :
    wpAny (model prog w) A (eval (.Subscript (.Name x p1) (.Constant (.int (k : Int)) j1 p2) p3) env) Q E s := by
  refine Subscript_ (wpAny_Name (wpAny_loadName_local kind loc ns mx ?_) hd)
  refine wpAny_Constant_int ?_
  exact subscriptTail_builtinR (s := { s with toks := s.toks + 1 }) (x := v) (IsTup.typeIs (s := { s with toks := s.toks + 1 }) tup) PyProof.Rows.slot_tuple_getitem.lookup
    (PyProof.Rows.getItem_tuple (s := { s with toks := s.toks + 1 }) (j := k) (Q := fun r s' => r = v ∧ Q r s') tup (by omega) (by omega) (seqIndex_of (by omega) (by show (k : Int) < ((2 : Nat) : Int); omega)) hv ⟨rfl, win⟩) rfl
/-- return (p[1], p[0]) -/
theorem raw_swap {env : Env} {m : Str → Option Value} {t : Addr} {u0 u1 : Value} {x : Str} {p1 p2 p3 p4 p5 p6 p7 p8 : Pos} {j1 j2 k7 : Nat} {Q : Flow → Shared → Prop} (kind : env.scope.kind = .function) (loc : env.kindOf x = some .local) (ns : s.heap.Ns env.locals m) (mx : m x = some (.ref t))
    (tup : IsTup s.heap t #[u0, u1]) (hd : (x == ("__debug__" : Str)) = false) (win : Q (.ret (.ref s.heap.objs.size)) { s with heap := s.heap.push { cls := .type "tuple", data := .seq #[u1, u0] }, toks := s.toks + 1 + 1 }) :
    wpAny (model prog w) A (execs [.Return (some (.Tuple [.Subscript (.Name x p1) (.Constant (.int 1) j1 p2) p3, .Subscript (.Name x p4) (.Constant (.int 0) j2 p5) p6] k7 p7)) p8] env) Q E s := by
  refine wpAny_execs_cons (wpAny_Return_some (wpAny_Tuple_spliced ?_))
  show wpAny _ _ (spliced [(false, eval (.Subscript (.Name x p1) (.Constant (.int 1) j1 p2) p3) env), (false, eval (.Subscript (.Name x p4) (.Constant (.int 0) j2 p5) p6) env)]) _ _ _
  refine Calls.spliced_cons (raw_item (k := 1) kind loc ns mx tup (by decide) rfl hd ?_)
  refine Calls.spliced_cons (raw_item (s := { s with toks := s.toks + 1 }) (k := 0) kind loc ns mx tup (by decide) rfl hd ?_)
  refine Calls.spliced_nil ⟨by show 2 ≤ sizeLine; decide, ?_⟩
  exact win
end
/-- how a def that swaps the two places of its argument is written -/
def Swaps (st : Stmt) : Prop := ∃ (x : Str) (p1 p2 p3 p4 p5 p6 p7 p8 : Pos) (j1 j2 k7 : Nat), FnScope [x] [x] (defScope st) ∧ (defScope st).names.lookup x = some .local ∧ (x == ("__debug__" : Str)) = false ∧
  defBody st = [.Return (some (.Tuple [.Subscript (.Name x p1) (.Constant (.int 1) j1 p2) p3, .Subscript (.Name x p4) (.Constant (.int 0) j2 p5) p6] k7 p7)) p8] ∧
  ∀ (kV doc pm : Value) (an : Option Addr) (cdv ct u : Value) (nm q : Str), bindArgs (PySem.W.fnOf nm q (defArgs st) (defBody st) (defScope st) .none kV doc pm an cdv ct) ⟨[u], []⟩ = pure [(x, u)]
/-- the call, on the bare heap -/
theorem swap_call {P : Program} {w : World} {K : PySem.W.Frag} {mg : Str → Option Value} {base : Heap} {A : Around} {outer : List Env} {s : Shared} {H : Hp} {nm : Str} {st : Stmt} {f : Addr} {fd : FuncData} (F : Fun K nm nm st f fd) (S : Swaps st) (e0 : Env0 P w K mg base A outer s H) (room : A.depth < recursionLimit)
    {t : Addr} {x y : Int} {tx ty : Tok} (tup : IsTup s.heap t #[.int x tx, .int y ty]) : wpAny (model P w) A (call (.ref f) [.ref t]) (PySem.W.KeyPure (.tuple [.int y, .int x]) s) (fun _ _ => False) s := by
  obtain ⟨oc, od, kV, doc, pm, an, cdv, ct, osl, rfl, lk, hcd⟩ := F.ex
  obtain ⟨nx, p1, p2, p3, p4, p5, p6, p7, p8, j1, j2, k7, sc, loc, hd, body, bind⟩ := S
  have KX : K.In s.heap := e0.mod.kin.keeps fun b o e => (e0.bs b o e).1
  have lim : s.heap.NoLimit := e0.mod.nolimit.keeps fun b o e => (e0.bs b o e).1
  refine wpAny_call (codeAny_call_function room (KX _ _ lk) rfl sc.co sc.gen rfl (PySem.W.codeRec_of KX hcd) (wpAny_of_eq (bind _ _ _ _ _ _ _ _ _) ?_))
  refine wpAny_newFunctionEnv_cells sc.kind (fun z hz => by rw [List.mem_singleton.mp hz]; exact .inl loc) fun env he s1 inc => ?_
  subst he
  refine ⟨lim.keeps inc.toInCall.keep, codeAny_func ?_⟩
  obtain ⟨h1, tk, rfl, keep⟩ := inc.done
  show wpAny _ _ (execs (defBody st) _) _ _ _
  rw [body]
  have tup1 : IsTup h1 t #[.int x tx, .int y ty] := by
    obtain ⟨o, ho, r⟩ := tup
    exact ⟨o, keep _ _ ho, r⟩
  refine raw_swap (x := nx) (t := t) (m := _) sc.kind loc inc.toInCall.ns ?_ tup1 hd ?_
  · show bindL _ [(nx, Value.ref t)] (fun _ => none) nx = some (.ref t)
    have kl : (newEnv (defScope st) s.heap.objs.size mainGlobals (cellsFrom (s.heap.objs.size + 1) (defScope st).names []) (nm ++ ".<locals>.") (some f) cdv none builtinsNs).kindOf nx = some .local := loc
    simp [bindL, kl]
  · refine ⟨_, _, rfl, fun b o hb => Heap.get?_push_of_some _ (keep b o hb), ?_⟩
    exact .tuple (Heap.get?_push_size _ rfl) rfl rfl (.cons (as := []) (.int y ty) (.cons (as := []) (.int x tx) .nil))
end Q2

namespace Q2
open PySem PySem.Spec PyProof.Rows L2
/-! ### sorted of points -/
abbrev keyX (q : Addr × Int × Int) : PyData := .tuple [.int q.2.1, .int q.2.2]
abbrev keyY (q : Addr × Int × Int) : PyData := .tuple [.int q.2.2, .int q.2.1]
abbrev sortX (qs : Pts) : Pts := qs.mergeSort (PySem.W.dataLe false keyX)
abbrev sortY (qs : Pts) : Pts := qs.mergeSort (PySem.W.dataLe false keyY)
abbrev refsOf (qs : Pts) : List V := qs.map fun q => V.ref q.1
def Tups (H : Hp) (qs : Pts) : Prop := ∀ q ∈ qs, H q.1 = some (.tup [.int q.2.1, .int q.2.2])
theorem each_refs : ∀ {qs : Pts} {us : List Value}, Vals (refsOf qs) us → PySem.W.EachIs (fun v (q : Addr × Int × Int) => v = Value.ref q.1) us qs
  | [], _, .nil => .nil
  | q :: qs, _, .cons r t => .cons (show _ = Value.ref q.1 from r) (each_refs t)
theorem vals_refs : ∀ {qs : Pts} {us : List Value}, PySem.W.EachIs (fun v (q : Addr × Int × Int) => v = Value.ref q.1) us qs → Vals (refsOf qs) us
  | _, _, .nil => .nil
  | _, _, .cons h t => .cons (show RelV (V.ref _) _ from h) (vals_refs t)
theorem each_of {R : Value → (Addr × Int × Int) → Prop} : ∀ {qs : Pts} {us : List Value}, PySem.W.EachIs (fun v (q : Addr × Int × Int) => v = Value.ref q.1) us qs → (∀ q ∈ qs, R (.ref q.1) q) → PySem.W.EachIs R us qs
  | _, _, .nil, _ => .nil
  | _, _, .cons h t, k => .cons (by rw [h]; exact k _ (List.mem_cons_self ..)) (each_of t fun q hq => k q (List.mem_cons_of_mem _ hq))
theorem alike_pts (f g : (Addr × Int × Int) → Int) (qs : Pts) : PySem.W.AllAlike (qs.map fun q => .tuple [.int (f q), .int (g q)]) := by
  intro d hd d' hd'
  obtain ⟨q, _, rfl⟩ := List.mem_map.mp hd
  obtain ⟨r, _, rfl⟩ := List.mem_map.mp hd'
  simp [PySem.W.alike, PySem.W.alikeAll]
theorem sortable_pts (f g : (Addr × Int × Int) → Int) (qs : Pts) : PySem.W.Sortable (qs.map fun q => .tuple [.int (f q), .int (g q)]) := .inl fun d hd => by
  obtain ⟨q, _, rfl⟩ := List.mem_map.mp hd
  exact ⟨_, _, rfl⟩
theorem depth_pt (a b : Int) : (PyData.tuple [.int a, .int b]).depth = 1 := ptD_depth (a, b)
section
variable {X : Cx}
theorem raw_pt {pins : List (Addr × Obj)} {σ : L2.St} {H : Hp} {s : Shared} (I : Inv X pins σ H s) {t : Addr} {x y : Int} (h : H t = some (.tup [.int x, .int y])) : ∃ tx ty, IsTup s.heap t #[.int x tx, .int y ty] := by
  obtain ⟨its, r, tup, _⟩ := I.tuple (SqT.of h)
  cases r with
  | cons r1 rr =>
    cases rr with
    | cons r2 rn =>
      cases rn
      obtain ⟨tx, rfl⟩ := r1
      obtain ⟨ty, rfl⟩ := r2
      exact ⟨tx, ty, tup⟩
theorem raw_seq {pins : List (Addr × Obj)} {σ : L2.St} {H : Hp} {s : Shared} (I : Inv X pins σ H s) {a : Addr} {xs : List V} (h : SqL X.K H a xs ∨ SqT X.K H a xs) : ∃ its : List Value, Vals xs its ∧ (s.heap.IsList a its.toArray ∨ IsTup s.heap a its.toArray) ∧ xs.length ≤ sizeLine := by
  rcases h with h | h
  · obtain ⟨its, r, p, z⟩ := I.list h
    exact ⟨its, r, .inl p.isList, z⟩
  · obtain ⟨its, r, p, z⟩ := I.tuple h
    exact ⟨its, r, .inr p, z⟩
/-- sorted(points) -/
def rSortP (K : PySem.W.Frag) : List V → Hp → VK → Prop := fun vs H Q => ∃ (a : Addr) (qs : Pts), vs = [V.ref a] ∧ (SqL K H a (refsOf qs) ∨ SqT K H a (refsOf qs)) ∧ Tups H qs ∧ ∀ p, H p = none → Q (.ref p) (upd H p (.lst (refsOf (sortX qs))))
theorem cr_sortP (un : X.A.units + 64 < cLine) : CallR X (.builtin "sorted") (rSortP X.K) := by
  intro pins s σ H vs us Q I r h
  obtain ⟨a, qs, rfl, hs, ht, q⟩ := h
  obtain rfl := Vals.ref1 r
  obtain ⟨its, rv, seq, hz⟩ := raw_seq I hs
  rw [List.length_map] at hz
  refine sorted_plain (bs := qs) (enc := keyX) seq (each_refs rv) (each_of (each_refs rv) fun p hp => ?_) (alike_pts _ _ qs) (sortable_pts _ _ qs) hz (fun p hp => ?_) fun out hl e => ?_
  · obtain ⟨tx, ty, o, ho, hc, n, hd⟩ := raw_pt I (ht p hp)
    exact ⟨[], .tuple ho hc hd (.cons (as := []) (.int _ tx) (.cons (as := []) (.int _ ty) .nil))⟩
  · have := depth_pt p.2.1 p.2.2
    show X.A.units + 2 + (PyData.tuple [.int p.2.1, .int p.2.2]).depth < cLine
    omega
  · obtain ⟨ep, he⟩ := PyProof.Rows.sortedAll_at s.heap its (List.toArray out)
    refine ⟨.ref _, upd H (s.heap.objs.size + 1) (.lst (refsOf (sortX qs))), I.laid (t' := s.toks) (fun _ _ => PyProof.Rows.sortedAll_old) (Nat.le_succ _) ⟨?_, out, ep, vals_refs e, he⟩, rfl, q _ (I.hok.fresh (Nat.le_succ _))⟩
    rw [List.length_map, List.length_mergeSort]
    exact hz
/-- sorted(points, key=f), f swaps the two places -/
def rSortK (K : PySem.W.Frag) (f : Addr) : List V → List V → Hp → VK → Prop := fun vs zs H Q => ∃ (a : Addr) (qs : Pts), vs = [V.ref a] ∧ zs = [.ref f] ∧ (SqL K H a (refsOf qs) ∨ SqT K H a (refsOf qs)) ∧ Tups H qs ∧ ∀ p, H p = none → Q (.ref p) (upd H p (.lst (refsOf (sortY qs))))
theorem cr_sortK {nm : Str} {st : Stmt} {f : Addr} {fd : FuncData} (F : Fun X.K nm nm st f fd) (S : Swaps st) (un : X.A.units + 64 < cLine) (room : X.A.depth < recursionLimit) : CallRK X (.builtin "sorted") [Str.ofString "key"] (rSortK X.K f) := by
  intro pins s σ H vs zs us ws Q I r rz h
  obtain ⟨a, qs, rfl, rfl, hs, ht, q⟩ := h
  obtain rfl := Vals.ref1 r
  obtain rfl := Vals.ref1 rz
  obtain ⟨its, rv, seq, hz⟩ := raw_seq I hs
  rw [List.length_map] at hz
  refine sorted_keyed (bs := qs) (f := .ref f) (kw := [(Str.ofString "key", .ref f)]) keyY seq (each_refs rv) (alike_pts _ _ qs) (sortable_pts _ _ qs) hz (fun p hp => ?_) (PyProof.Rows.ksk_s1 _ _) (fun _ => PyProof.Rows.ksk_l1 _ _) (fun x => PyProof.Rows.ksk_t1 f x) (fun v p hv hp h tk keep => ?_) fun out c h' tk keep fresh hD hl e => ?_
  · have := depth_pt p.2.2 p.2.1
    show X.A.units + 2 + (PyData.tuple [.int p.2.2, .int p.2.1]).depth < cLine
    omega
  · rw [hv]
    obtain ⟨tx, ty, o, ho, hr⟩ := raw_pt I (ht p hp)
    have I2 : Inv X pins σ H { s with heap := h, toks := tk } := I.kept keep
    exact swap_call F S I2.env0.in1.in1 room ⟨o, keep _ _ ho, hr⟩
  · refine ⟨.ref _, upd H (s.heap.objs.size + 1) (.lst (refsOf (sortY qs))), I.laid (t' := tk) keep (Nat.le_succ _) ⟨?_, out, c, vals_refs e, hD⟩, rfl, q _ (I.hok.fresh (Nat.le_succ _))⟩
    rw [List.length_map, List.length_mergeSort]
    exact hz
end
/-! ### the order -/
theorem dataLe_two (f g : (Addr × Int × Int) → Int) (q r : Addr × Int × Int) : PySem.W.dataLe false (fun q => .tuple [.int (f q), .int (g q)]) q r = !decide (f r < f q ∨ (f r = f q ∧ g r < g q)) := by
  show (!PyProof.Rows.lexLt PyProof.Rows.itemOrd (PySem.W.keyToks (.tuple [.int (f r), .int (g r)])) (PySem.W.keyToks (.tuple [.int (f q), .int (g q)]))) = _
  congr 1
  simp only [PySem.W.keyToks, PySem.W.keyToksAll, List.cons_append, List.nil_append, PyProof.Rows.lexLt, PyProof.Rows.itemLt]
  by_cases h1 : f r < f q
  · simp [h1]
  · by_cases h2 : f r = f q
    · simp [h2]
    · have h3 : f q < f r := by omega
      simp [h1, h2, h3]
end Q2

namespace Q2
open PySem PySem.W PySem.Spec PySem.Calls PyProof.Rows
/-! ### enumerate(t) of a tuple, one argument -/
theorem meets_enum1 {v : Value} {o : Obj} {B0 : Heap → Prop} (B : Begins v o B0) :
    Meets (Builtin.«enumerate.__new__» ⟨[.type "enumerate", v], []⟩) (fun _ R s => B0 s.heap ∧ R (.ok (.ret (.ref (s.heap.push o).objs.size))) { s with heap := (s.heap.push o).push { cls := .type "enumerate", data := .fields #[.none, .bool false, .ref s.heap.objs.size, rawInt 0, .none, .none] } }) :=
  .of_wp fun prog w A R s both => by
    obtain ⟨hp, g, d, tk, os⟩ := s
    obtain ⟨b0, fin⟩ := both
    have sub1 := sub_enumerate
    have begin1 : ∀ {A' : Around} {E : Value → Shared → Prop} {Q : Value → Shared → Prop}, Q (.ref hp.objs.size) ⟨hp.push o, g, d, tk, os⟩ → wpAny (model prog w) A' (pyIter v) Q E ⟨hp, g, d, tk, os⟩ := fun q => B.iter prog w _ _ ⟨hp, g, d, tk, os⟩ _ b0 q
    wp_walk using begin1
    refine wpAny_stack_any fun st => (wpAny_pure ?_)
    split
    · rename_i c _ _ _ _ _
      cases (c == Value.type "enumerate") <;> (wp_walk using begin1; exact ⟨_, rfl, fin⟩)
    · wp_walk using begin1
      exact ⟨_, rfl, fin⟩
section
variable {prog : Program} {w : World} {A : Around} {E : Value → Shared → Prop} {s : Shared}
theorem enum_tup {t : Addr} {items : Array Value} {Q : Value → Shared → Prop} (ht : s.heap.IsTuple t items)
    (win : ∀ h', IsEnum h' (s.heap.objs.size + 1) s.heap.objs.size 0 .none → h'.IsTupleIter s.heap.objs.size t 0 → (∀ b o, s.heap.get? b = some o → h'.get? b = some o) → Q (.ref (s.heap.objs.size + 1)) { s with heap := h' }) :
    wpAny (model prog w) A (call (.type "enumerate") [.ref t]) Q E s := by
  refine callType_new F.called_enumerate (by decide) (F.typeCall_enumerate_1 _) (F.newCall_enumerate_1 _) (fun obj => F.args_object_init_2 obj _) F.entry_enumerate_new (meets_enum1 (begins_tuple t items)) ⟨ht, ?_⟩
  have z1 : (s.heap.push { cls := .type "tuple_iterator", data := .fields #[.ref t, .int 0 0] }).objs.size = s.heap.objs.size + 1 := Heap.size_push ..
  show _ ∧ _
  rw [z1]
  have en : IsEnum ((s.heap.push { cls := .type "tuple_iterator", data := .fields #[.ref t, .int 0 0] }).push { cls := .type "enumerate", data := .fields #[.none, .bool false, .ref s.heap.objs.size, rawInt 0, .none, .none] }) (s.heap.objs.size + 1) s.heap.objs.size 0 .none := by
    have z2 := Heap.get?_push_size (s.heap.push { cls := .type "tuple_iterator", data := .fields #[.ref t, .int 0 0] }) (o := { cls := .type "enumerate", data := .fields #[.none, .bool false, .ref s.heap.objs.size, rawInt 0, .none, .none] }) rfl
    rw [z1] at z2
    exact z2
  exact ⟨⟨_, en, rfl⟩, win _ en ⟨_, Heap.get?_push_of_some _ (Heap.get?_push_size _ rfl), rfl, rfl⟩ fun b o x => Heap.get?_push_of_some _ (Heap.get?_push_of_some _ x)⟩
end
end Q2
namespace Q2
open PySem PySem.Spec PyProof.Rows L2
/-- the tuple at a, each item in a new pair -/
def ItET (K : PySem.W.Frag) (a : Addr) : It :=
  ⟨fun i H => ∃ (xs : List V) (x : V), SqT K H a xs ∧ xs[i]? = some x, fun i H v H' => ∃ T x, v = .ref T ∧ H T = none ∧ H' = upd H T (.tup [.int (i : Nat), x]) ∧ ∀ xs, SqT K H a xs → xs[i]? = some x, fun i H => ∃ xs : List V, SqT K H a xs ∧ xs.length ≤ i⟩
theorem draws_end {prog : Program} {w : World} {A : Around} (calm : A.handled = none) (it t : Addr) (items : Array Value) (i : Nat) (over : items[i]? = none) :
    PySem.Draws prog w A it [it, t] 0 (fun _ _ => False) (fun _ h => h.IsTupleIter it t i ∧ h.IsTuple t items) where
  live := fun _ _ st => let ⟨o, ho, _⟩ := st.1; ⟨o, ho⟩
  frame := fun _ _ _ st hk => ⟨st.1.at fun o e => hk it (by simp) o e, st.2.at fun o e => hk t (by simp) o e⟩
  item := fun j s Q E hj => absurd hj (Nat.not_lt_zero j)
  done := fun s Q E st hE => wpAny_nextOf_tuple_end calm st.1 st.2 over hE
theorem turn_enumT {P : Program} {w : World} {K : PySem.W.Frag} {elts : List Expr} {kk : Nat} {tpos : Pos} (a e it : Addr) :
    Turn P w K (.Tuple elts kk tpos) (ItET K a) [e, it] e (fun i h => (∃ old, IsEnum h e it ((i : Nat) : Int) old) ∧ h.IsTupleIter it a i ∧ e ≠ it) where
  mem := by simp
  obj := fun i h st b hb => by
    obtain ⟨⟨old, en⟩, ⟨o, ho, hc, hd⟩, _⟩ := st
    rcases (show b = e ∨ b = it by simpa using hb) with z | z
    · rw [z]
      exact ⟨_, en, fun v q => nomatch q⟩
    · rw [z]
      exact ⟨o, ho, fun v q => by rw [hd] at q; cases q⟩
  keep := fun i h h' st k => let ⟨⟨old, en⟩, hi, hne⟩ := st; ⟨⟨old, k e (by simp) _ en⟩, hi.at fun o q => k it (by simp) o q, hne⟩
  item := by
    intro X hP hw hK hc i pins s σ H E I hf st hg
    subst hP hw hK
    obtain ⟨⟨old, en⟩, hit, hne⟩ := st
    obtain ⟨xs, x, hq, hx⟩ := hg
    obtain ⟨its, rv, tup, _⟩ := I.tuple hq
    obtain ⟨u, hu, ru⟩ := rv.get hx
    have lts : i < its.toArray.size := by
      have := (List.getElem?_eq_some_iff.mp hu).1
      simpa using this
    have le : e < s.heap.objs.size := Heap.lt_size en
    have li : it < s.heap.objs.size := by obtain ⟨_, q, _⟩ := hit; exact Heap.lt_size q
    have ati : a ≠ it := fun z => by
      obtain ⟨o1, h1, c1, _⟩ := hit
      obtain ⟨o2, h2, c2, _⟩ := tup
      rw [z, h1] at h2
      cases h2
      rw [c1] at c2
      exact absurd c2 (by decide)
    have ate : a ≠ e := fun z => by
      obtain ⟨o2, h2, c2, _⟩ := tup
      rw [z, show s.heap.get? e = _ from en] at h2
      cases h2
      injection c2 with c3
      exact absurd c3 (by decide)
    refine PySem.wpAny_pyNext_enum_itemD (PySem.Draws.tuple (A := X.A.in1) (show X.A.in1.handled = none from I.ok.hd hc) it a ati its.toArray) en ⟨hit, tup⟩ lts hne (by simp; exact ⟨hne, fun z => ate z.symm⟩) fun y h' tk hy ho st' hT hsz hk => ?_
    have ey : y = u := by
      have h0 : its.toArray[i]? = some y := hy
      have h1 : its.toArray[i]? = some u := by simpa using hu
      rw [h0] at h1
      exact Option.some.inj h1
    subst ey
    refine ⟨_, rfl, wpAny_letOwnedTupleGo_enum (s := { s with heap := h', toks := tk + 1 }) ho fun h'' he' sb => ?_⟩
    have hT2 : h''.get? s.heap.objs.size = some { cls := .type "tuple", data := .seq #[.int i tk, y] } := (sb.2 _ (Nat.ne_of_gt le)).trans hT
    have new : ObjOk X.prog X.w (upd H s.heap.objs.size (.tup [.int (i : Nat), x])) h'' s.heap.objs.size (.tup [.int (i : Nat), x]) := ⟨by show 2 ≤ sizeLine; decide, [.int i tk, y], .cons ⟨_, rfl⟩ (.cons ru .nil), ⟨_, hT2, rfl, _, rfl⟩⟩
    have I1 : Inv X pins σ (upd H s.heap.objs.size (.tup [.int (i : Nat), x])) { s with heap := h'', toks := tk + 1 } :=
      I.turnedNew (ch := [e, it]) (fun b ob hb q => (sb.2 b (fun z => hb (by simp [z]))).trans (hk b ob (fun z => hb (by simp [z])) (fun z => hb (by simp [z])) q)) hf (Nat.le_refl _) new
    refine ⟨.ref s.heap.objs.size, _, I1, rfl, ⟨_, x, rfl, I.hok.fresh (Nat.le_refl _), rfl, fun ys hy2 => by rw [I.tuple_inj hy2 hq]; exact hx⟩, ⟨⟨y, ?_⟩, st'.1.at fun o q => (sb.2 it (Ne.symm hne)).trans q, hne⟩, fun b hb => ?_⟩
    · rw [show ((i + 1 : Nat) : Int) = (i : Int) + 1 by omega]
      exact he'
    · have hb' : b < s.heap.objs.size := by
        rcases (show b = e ∨ b = it by simpa using hb) with z | z
        · rw [z]; exact le
        · rw [z]; exact li
      rw [upd_ne (Nat.ne_of_lt hb')]
      exact (hf b hb).1
  done := by
    intro X hP hw hK hc i pins s σ H E I hf st hg
    subst hP hw hK
    obtain ⟨⟨old, en⟩, hit, hne⟩ := st
    obtain ⟨xs, hq, hx⟩ := hg
    obtain ⟨its, rv, tup, _⟩ := I.tuple hq
    obtain ⟨f0, f1, f2, f3, f4, f5⟩ := hf it (by simp)
    have hl := rv.length
    exact PySem.wpAny_pyNext_enum_endD (n := 0) (draws_end (A := X.A.in1) (show X.A.in1.handled = none from I.ok.hd hc) it a its.toArray i (by simp; omega)) en ⟨hit, tup⟩ fun h' eb => ⟨rfl, I.turned (t' := s.toks) (fun b o hb q => eb b o hb q) f0 f1 f3 f4 f5⟩
  self := fun A i s Q E st h => let ⟨⟨_, en⟩, _⟩ := st; wpAny_pyIter_enum en h
/-- enumerate of a list or a tuple -/
def EnumOf (K : PySem.W.Frag) (H : Hp) (a : Addr) (xs : List V) (J : It) : Prop := (SqL K H a xs ∧ J = Ite K a) ∨ (SqT K H a xs ∧ J = ItET K a)
def iEnumA (K : PySem.W.Frag) (ta : TA) : TI := fun σ H R => ta σ H fun vs H1 => ∃ a xs J, vs = [.ref a] ∧ EnumOf K H1 a xs J ∧ R J H1
theorem pi_enumA {X : Cx} {e : Expr} {ta : TA} {p pos tpos : Pos} {elts : List Expr} {kk : Nat} (hg : Gl X "enumerate") (hm : X.mg "enumerate" = none) (ha : PA X [e] ta) (hs : starEach [e] X.env = [(false, eval e X.env)] := by rfl) :
    PI X (.Tuple elts kk tpos) (.Call (.Name "enumerate" p) [e] [] pos) (iEnumA X.K ta) := by
  refine ⟨fun pins s σ H R I h => ?_⟩
  refine Call_ (ld_blt I hg hm boot_enumerate (PyProof.Rows.callWith_type1 (thn (ha.run pos pins s σ H _ I h) fun us s1 ⟨vs, H1, I1, r1, q1⟩ => ?_) hs rfl))
  obtain ⟨a, xs, J, rfl, hq, q⟩ := q1
  obtain rfl := Vals.ref1 r1
  have fp : ∀ b ∈ [s1.heap.objs.size + 1, s1.heap.objs.size], FpOk X pins H1 b := fun b hb => by
    have hle : s1.heap.objs.size ≤ b := by
      rcases (show b = s1.heap.objs.size + 1 ∨ b = s1.heap.objs.size by simpa using hb) with z | z
      · rw [z]; exact Nat.le_add_right _ _
      · rw [z]; exact Nat.le_refl _
    exact I1.fpOk hle (I1.hok.fresh hle)
  rcases hq with ⟨hq, rfl⟩ | ⟨hq, rfl⟩
  · obtain ⟨its, rv, p', hz⟩ := I1.list hq
    refine call_enumerate_list p'.isList fun h' he hit hsz hk => wpAny_pyIter_enum he ?_
    have I2 : Inv X pins σ H1 { s1 with heap := h' } := I1.kept (t' := s1.toks) hk
    exact ⟨s1.heap.objs.size + 1, [s1.heap.objs.size + 1, s1.heap.objs.size], _, _, H1, rfl, I2, turn_enum a (s1.heap.objs.size + 1) s1.heap.objs.size, ⟨⟨.none, he⟩, hit, Nat.succ_ne_self _⟩, fp, q⟩
  · obtain ⟨its, rv, p', hz⟩ := I1.tuple hq
    refine enum_tup p' fun h' he hit hk => wpAny_pyIter_enum he ?_
    have I2 : Inv X pins σ H1 { s1 with heap := h' } := I1.kept (t' := s1.toks) hk
    exact ⟨s1.heap.objs.size + 1, [s1.heap.objs.size + 1, s1.heap.objs.size], _, _, H1, rfl, I2, turn_enumT a (s1.heap.objs.size + 1) s1.heap.objs.size, ⟨⟨.none, he⟩, hit, Nat.succ_ne_self _⟩, fp, q⟩
theorem walk_enumT {K : PySem.W.Frag} {a : Addr} {xs : List V} : Walk (ItET K a) xs.length (fun H => SqT K H a xs) (YPair (fun i => some (.int (i : Nat))) (fun i => xs[i]?)) where
  goes := fun i H hi hq => ⟨xs, xs[i], hq, List.getElem?_eq_getElem hi⟩
  stops := fun H hq => ⟨xs, hq, Nat.le_refl _⟩
  yields := fun i H v H' hi hq y => by
    obtain ⟨T, x, h1, h2, h3, h4⟩ := y
    exact ⟨T, _, x, h1, h2, h3, rfl, h4 xs hq⟩
end Q2

namespace Q2
open PySem PySem.Spec PyProof.Rows L2
/-- a pair greater than another one -/
def gtP (x y x' y' : Int) : Bool := decide (x' < x ∨ (x = x' ∧ y' < y))
def rGtP : R2 := fun v u H Q => ∃ (a b : Addr) (x y x' y' : Int), v = .ref a ∧ u = .ref b ∧ XY H a x y ∧ XY H b x' y' ∧ Q (.bl (gtP x y x' y')) H
section
variable {X : Cx}
theorem op_gtP (hu : X.A.units < cLine) : OpR X (compareOp .Gt) rGtP := by
  intro pins s σ H vv uu v u Q I rx ry h
  obtain ⟨a, b, x, y, x', y', rfl, rfl, ha, hb, q⟩ := h
  cases rx
  cases ry
  obtain ⟨tx, ty, p1⟩ := raw_pt I ha
  obtain ⟨tx', ty', p2⟩ := raw_pt I hb
  have R := Ob.RcOp.tuples_gt (A := X.A) (s := s) (e := fun j => match j with | 0 => x == x' | _ => y == y') (r := fun j => match j with | 0 => decide (x' < x) | _ => decide (y' < y)) p1 p2 hu (fun j h1 h2 => by
    match j, h1 with
    | 0, _ => exact SeqAt.EqAt.int_int _ _ _ _
    | 1, _ => exact SeqAt.EqAt.int_int _ _ _ _) (fun j h1 h2 _ => by
    match j, h1 with
    | 0, _ => exact Ob.RcOp.gt_int _ _ _ _
    | 1, _ => exact Ob.RcOp.gt_int _ _ _ _)
  have e : Ob.lexAt (fun j => match j with | 0 => x == x' | _ => y == y') (fun j => match j with | 0 => decide (x' < x) | _ => decide (y' < y)) (decide ((#[Value.int x tx, Value.int y ty] : Array Value).size > (#[Value.int x' tx', Value.int y' ty'] : Array Value).size)) 0 (min (#[Value.int x tx, Value.int y ty] : Array Value).size (#[Value.int x' tx', Value.int y' ty'] : Array Value).size) = gtP x y x' y' := by
    show (if (x == x') = true then (if (y == y') = true then decide (2 > 2) else decide (y' < y)) else decide (x' < x)) = gtP x y x' y'
    unfold gtP
    by_cases h1 : x = x'
    · subst h1
      by_cases h2 : y = y'
      · subst h2
        simp
      · simp [h2]
    · simp [h1]
  rw [e] at R
  exact R X.prog X.w X.xe (EP X pins σ Q) ⟨.bl _, H, I, rfl, q⟩
theorem call_repr_non : CallR X (.builtin "repr") (fun xs H Q => xs = [.non] ∧ Q (.str (Str.ofString "None")) H) := by
  intro pins s σ H xs us Q I r h
  obtain ⟨rfl, q⟩ := h
  cases r with
  | cons r1 r2 =>
    cases r2
    cases r1
    exact PySem.P.repr_of_none ⟨.str _, H, I.tok _, ⟨_, rfl⟩, q⟩
/-- repr of an int or None -/
def reprO : Option Int → Str
  | none => Str.ofString "None"
  | some i => toString i
def oV : Option Int → V
  | none => .non
  | some i => .int i
theorem call_reprO : CallR X (.builtin "repr") (fun xs H Q => ∃ o : Option Int, xs = [oV o] ∧ (∀ i, o = some i → i.natAbs.log2 < 1920) ∧ Q (.str (reprO o)) H) := by
  intro pins s σ H xs us Q I r h
  obtain ⟨o, rfl, ho, q⟩ := h
  cases o with
  | none => exact call_repr_non pins s σ H _ us Q I r ⟨rfl, q⟩
  | some i => exact SkE.call_repr_int pins s σ H _ us Q I r ⟨i, rfl, ho i rfl, q⟩
/-- two values that are None or ints -/
def rEqO : R2 := fun x y H Q => ∃ (a b : Option Int), x = oV a ∧ y = oV b ∧ Q (.bl (decide (a = b))) H
end
end Q2

namespace Q2
open PySem PySem.Spec PyProof.Rows L2
/-- the other built-ins -/
structure B1 (mg : Str → Option Value) : Prop where
  list : mg "list" = none
  set : mg "set" = none
  enum : mg "enumerate" = none
  sorted : mg "sorted" = none
def partM (x y x' y' : Int) : Option Int := if (x, y) = (x', y') then none else some ((if gtP x' y' x y = true then 1 else 0) + (if gtP y' x' y x = true then 2 else 0))
theorem room_dep {A : Around} {k : Nat} (hr : Room k A) : A.depth < recursionLimit := by have := hr.dp; omega
theorem room_un {A : Around} {k : Nat} (hr : Room k A) : A.units < cLine := by have := hr.un; omega
section
variable {P : Program} {w : World} {K : PySem.W.Frag} {mg : Str → Option Value} {base : Heap}
/-! ### y_key -/
theorem scYKey : FnScope ["point"] ["point"] (defScope s_y_key) := ⟨rfl, rfl, rfl, by decide +kernel, rfl, by decide +kernel, by decide +kernel⟩
def spYKeyR (K : PySem.W.Frag) : Sp := fun vs H Q _ => ∃ (t : Addr) (p : Int × Int), vs = [.ref t] ∧ PtR K H t p ∧ ∀ a, H a = none → Q (.ref a) (upd H a (.tup [.int p.2, .int p.1]))
def spYKey : Sp := fun vs H Q _ => ∃ (t : Addr) (x y : Int), vs = [.ref t] ∧ XY H t x y ∧ ∀ p, H p = none → Q (.ref p) (upd H p (.tup [.int y, .int x]))
theorem ok_yKeyR {f : Addr} {fd : FuncData} (F : FnP K "y_key" s_y_key f fd) : FnOk P w K mg base CX0 1 f fd ["point"] (spYKeyR K) := by
  refine F.ok scYKey (fun vs H Q E h => ?_) (fun cdv A outer s H vs Q E hr h => ?_)
  · obtain ⟨a, b, rfl, _⟩ := h
    rfl
  · obtain ⟨t, ⟨x, y⟩, rfl, hT, q⟩ := h
    refine ⟨_, pss_one (ps_ret (pe_tup (pa_cons (pe_ix ix_tup (pv 0) pe_int (fun _ _ => rfl)) (pa_cons (pe_ix ix_tup (pv 0) pe_int (fun _ _ => rfl)) pa_nil)))), ?_⟩
    refine ⟨_, rfl, t, _, 1, .int y, rfl, rfl, hT, atI_nat (j := 1) rfl, _, rfl, t, _, 0, .int x, rfl, rfl, hT, atI_nat (j := 0) rfl, (by show 2 ≤ sizeLine; decide), fun p hp => ?_⟩
    exact q p hp
theorem ok_yKey {f : Addr} {fd : FuncData} (F : FnP K "y_key" s_y_key f fd) : FnOk P w K mg base CX0 1 f fd ["point"] spYKey :=
  (ok_yKeyR F).imp fun vs H Q E ⟨t, x, y, e, h, q⟩ => ⟨t, (x, y), e, SqT.of h, q⟩
theorem partM_eq (x y x' y' : Int) : partM x y x' y' = if x < x' then some (if y ≤ y' then 3 else 1) else if x' < x then some (if y < y' then 2 else 0) else if y' = y then none else some (if y < y' then 3 else 0) := by
  unfold partM gtP
  simp only [decide_eq_true_eq, Prod.mk.injEq]
  by_cases h1 : x < x'
  · rw [if_neg (by omega), if_pos (by omega), if_pos h1]
    by_cases h2 : y ≤ y'
    · rw [if_pos (by omega), if_pos h2]; rfl
    · rw [if_neg (by omega), if_neg h2]; rfl
  · rw [if_neg h1]
    by_cases h3 : x' < x
    · rw [if_neg (by omega), if_neg (by omega), if_pos h3]
      by_cases h2 : y < y'
      · rw [if_pos (by omega), if_pos h2]; rfl
      · rw [if_neg (by omega), if_neg h2]; rfl
    · rw [if_neg h3]
      by_cases h4 : y' = y
      · rw [if_pos (by omega), if_pos h4]
      · rw [if_neg (by omega), if_neg h4]
        by_cases h2 : y < y'
        · rw [if_pos (by omega), if_pos (by omega), if_pos h2]; rfl
        · rw [if_neg (by omega), if_neg (by omega), if_neg h2]; rfl
/-! ### part_of, quarter -/
theorem scPart : FnScope ["root", "point", "x", "y"] ["root", "point"] (defScope s_part_of) := ⟨rfl, rfl, rfl, by decide +kernel, rfl, by decide +kernel, by decide +kernel⟩
def spPart : Sp := fun vs H Q _ => ∃ (t u : Addr) (x y x' y' : Int), vs = [.ref t, .ref u] ∧ PtIn H t x y ∧ PtIn H u x' y' ∧ ∀ H', Same H H' → Q (oV (partM x y x' y')) H'
theorem dp_in {H : Hp} {t : Addr} {x y : Int} (h : PtIn H t x y) : Dp K H (.ref t) (ptD (x, y)) := dp_pt (B := Lo) (q := (t, x, y)) h
def spPartR (K : PySem.W.Frag) : Sp := fun vs H Q _ => ∃ (t u : Addr) (p p' : Int × Int), vs = [.ref t, .ref u] ∧ PtR K H t p ∧ PtR K H u p' ∧ Q (oV (partM p.1 p.2 p'.1 p'.2)) H
theorem ok_partR {f : Addr} {fd : FuncData} (F : FnP K "part_of" s_part_of f fd) : FnOk P w K mg base CX0 2 f fd ["root", "point"] (spPartR K) := by
  refine F.ok scPart (fun vs H Q E h => ?_) (fun cdv A outer s H vs Q E hr h => ?_)
  · obtain ⟨a, b, _, _, rfl, _⟩ := h
    rfl
  · obtain ⟨t, u, ⟨x, y⟩, ⟨x', y'⟩, rfl, hT, hU, q⟩ := h
    refine ⟨_, pss_cons (ps_asg (pv 0) (pg_tup rfl (pgs_cons (pg_name (i := 2) scPart.nd rfl (.inl rfl)) (pgs_cons (pg_name (i := 3) scPart.nd rfl (.inl rfl)) pgs_nil))))
      (pss_cons (ps_if (pt_cmpR op_gt (pe_ix ix_tup (pv 1) pe_int (fun _ _ => rfl)) (pv 2) (nomark _)) (pss_one (ps_ret (pe_ifExp (pt_cmpR op_ge (pe_ix ix_tup (pv 1) pe_int (fun _ _ => rfl)) (pv 3) (nomark _)) pe_int pe_int))) pss_nil)
      (pss_cons (ps_if (pt_cmpR op_lt (pe_ix ix_tup (pv 1) pe_int (fun _ _ => rfl)) (pv 2) (nomark _)) (pss_one (ps_ret (pe_ifExp (pt_cmpR op_gt (pe_ix ix_tup (pv 1) pe_int (fun _ _ => rfl)) (pv 3) (nomark _)) pe_int pe_int))) pss_nil)
      (pss_cons (ps_if (pt_cmpR op_eq (pe_ix ix_tup (pv 1) pe_int (fun _ _ => rfl)) (pv 3) (nomark _)) (pss_one (ps_ret pe_non)) pss_nil)
      (pss_one (ps_ret (pe_ifExp (pt_cmpR op_gt (pe_ix ix_tup (pv 1) pe_int (fun _ _ => rfl)) (pv 3) (nomark _)) pe_int pe_int)))))), ?_⟩
    have q0 : Q (oV (partM x y x' y')) H := q
    rw [partM_eq] at q0
    have a0 : ∀ {R : V → Hp → Prop}, R (.int x') H → R (.int x') H := fun h => h
    refine ⟨_, rfl, t, _, rfl, hT, rfl, _, _, rfl, _, _, rfl, rfl, ?_⟩
    refine ⟨_, rfl, u, _, 0, .int x', rfl, rfl, hU, atI_nat (j := 0) rfl, _, rfl, _, _, rfl, rfl, _, rfl, ite2 (fun d => ?_) (fun d => ?_)⟩
    · rw [if_pos (of_decide_eq_true d)] at q0
      refine ⟨_, rfl, u, _, 1, .int y', rfl, rfl, hU, atI_nat (j := 1) rfl, _, rfl, _, _, rfl, rfl, _, rfl, ite2 (fun d2 => ?_) (fun d2 => ?_)⟩
      · rw [if_pos (of_decide_eq_true d2)] at q0
        exact q0
      · rw [if_neg (of_decide_eq_false (Bool.eq_false_iff.mpr d2))] at q0
        exact q0
    · rw [if_neg (of_decide_eq_false (Bool.eq_false_iff.mpr d))] at q0
      refine ⟨_, rfl, u, _, 0, .int x', rfl, rfl, hU, atI_nat (j := 0) rfl, _, rfl, _, _, rfl, rfl, _, rfl, ite2 (fun d3 => ?_) (fun d3 => ?_)⟩
      · rw [if_pos (of_decide_eq_true d3)] at q0
        refine ⟨_, rfl, u, _, 1, .int y', rfl, rfl, hU, atI_nat (j := 1) rfl, _, rfl, _, _, rfl, rfl, _, rfl, ite2 (fun d2 => ?_) (fun d2 => ?_)⟩
        · rw [if_pos (of_decide_eq_true d2)] at q0
          exact q0
        · rw [if_neg (of_decide_eq_false (Bool.eq_false_iff.mpr d2))] at q0
          exact q0
      · rw [if_neg (of_decide_eq_false (Bool.eq_false_iff.mpr d3))] at q0
        refine ⟨_, rfl, u, _, 1, .int y', rfl, rfl, hU, atI_nat (j := 1) rfl, _, rfl, rfl, _, rfl, ?_⟩
        rw [dec_int]
        refine ite2 (fun d4 => ?_) (fun d4 => ?_)
        · rw [if_pos (of_decide_eq_true d4)] at q0
          exact q0
        · rw [if_neg (of_decide_eq_false (Bool.eq_false_iff.mpr d4))] at q0
          refine ⟨_, rfl, u, _, 1, .int y', rfl, rfl, hU, atI_nat (j := 1) rfl, _, rfl, _, _, rfl, rfl, _, rfl, ite2 (fun d2 => ?_) (fun d2 => ?_)⟩
          · rw [if_pos (of_decide_eq_true d2)] at q0
            exact q0
          · rw [if_neg (of_decide_eq_false (Bool.eq_false_iff.mpr d2))] at q0
            exact q0
theorem ok_part {f : Addr} {fd : FuncData} (F : FnP K "part_of" s_part_of f fd) : FnOk P w K mg base CX0 2 f fd ["root", "point"] spPart :=
  (ok_partR F).imp fun vs H Q E ⟨t, u, x, y, x', y', e, h, h', q⟩ => ⟨t, u, (x, y), (x', y'), e, SqT.of h.1, SqT.of h'.1, q H (fun _ _ h => h)⟩
end
end Q2

namespace Q2
open PySem PySem.Spec PyProof.Rows L2
/-- a list or a tuple of points -/
def SeqP (H : Hp) (a : Addr) (qs : Pts) : Prop := H a = some (.lst (refsOf qs)) ∨ H a = some (.tup (refsOf qs))
theorem SeqP.same {H H' : Hp} {a : Addr} {qs : Pts} (e : Same H H') (h : SeqP H a qs) : SeqP H' a qs := h.imp (e _ _) (e _ _)
theorem SeqP.sq {K : PySem.W.Frag} {H : Hp} {a : Addr} {qs : Pts} (h : SeqP H a qs) : SqL K H a (refsOf qs) ∨ SqT K H a (refsOf qs) := h.imp SqL.of SqT.of
def AllP (H : Hp) (qs : Pts) : Prop := ∀ q ∈ qs, PtAt H Lo q
theorem AllP.same {H H' : Hp} {qs : Pts} (e : Same H H') (h : AllP H qs) : AllP H' qs := fun q hq => (h q hq).same e
theorem same_free {H H' : Hp} {p : Addr} (e : Same H H') (h : H' p = none) : H p = none := by
  cases q : H p with
  | none => rfl
  | some o =>
    rw [e _ _ q] at h
    cases h
theorem same_ex {S : Addr} {H H' : Hp} (hS : H S = none) (e : Ex S H H') : Same H H' := fun b o hb => e b o hb (ne_of_none hb hS)
theorem refs_at {qs : Pts} {i : Nat} {v : V} (h : (refsOf qs)[i]? = some v) : ∃ q, qs[i]? = some q ∧ v = .ref q.1 := by
  rw [List.getElem?_map] at h
  cases z : qs[i]? with
  | none => rw [z] at h; cases h
  | some q =>
    rw [z] at h
    exact ⟨q, rfl, (Option.some.inj h).symm⟩
/-- a point as a key -/
abbrev kOf (q : Addr × Int × Int) : Addr × List Int := (q.1, [q.2.1, q.2.2])
theorem out_of {qs : Pts} {i : Nat} {q : Addr × Int × Int} {L : List (Addr × List Int)} (hq : qs[i]? = some q) (nd : (qs.map (·.2)).Nodup) (pm : L.Perm ((qs.take i).map kOf)) : [q.2.1, q.2.2] ∉ L.map (·.2) := by
  intro h
  obtain ⟨p, hp, e⟩ := List.mem_map.mp h
  obtain ⟨r, hr, rfl⟩ := List.mem_map.mp (pm.mem_iff.mp hp)
  obtain ⟨hi, rfl⟩ := List.getElem?_eq_some_iff.mp hq
  have e2 : r.2 = qs[i].2 := by
    have e' : [r.2.1, r.2.2] = [qs[i].2.1, qs[i].2.2] := e
    injection e' with e1 e3
    injection e3 with e4 _
    exact Prod.ext e1 e4
  obtain ⟨j, hj, rfl⟩ := List.mem_iff_getElem.mp hr
  have hj2 : j < i := by
    rw [List.length_take] at hj
    omega
  rw [List.getElem_take] at e2
  have h3 := List.pairwise_iff_getElem.mp nd j i (by rw [List.length_map]; omega) (by rw [List.length_map]; exact hi) hj2
  apply h3
  rw [List.getElem_map, List.getElem_map]
  exact e2
theorem take_next {qs : Pts} {i : Nat} {q : Addr × Int × Int} {L L' : List (Addr × List Int)} (hq : qs[i]? = some q) (pm : L.Perm ((qs.take i).map kOf)) (pm' : L'.Perm (kOf q :: L)) : L'.Perm ((qs.take (i + 1)).map kOf) := by
  obtain ⟨hi, rfl⟩ := List.getElem?_eq_some_iff.mp hq
  rw [List.take_succ_eq_append_getElem hi, List.map_append]
  exact pm'.trans ((List.Perm.cons _ pm).trans (List.perm_append_singleton (kOf qs[i]) ((qs.take i).map kOf)).symm)
theorem enum_of {K : PySem.W.Frag} {H : Hp} {a : Addr} {qs : Pts} (h : SeqP H a qs) : ∃ J, EnumOf K H a (refsOf qs) J ∧ Walk J (refsOf qs).length (fun H' => H' a = H a) (YPair (fun i => some (.int (i : Nat))) (fun i => (refsOf qs)[i]?)) := by
  rcases h with h | h
  · exact ⟨_, .inl ⟨SqL.of h, rfl⟩, walk_enum.mono (fun H' e => SqL.of (e.trans h)) fun i H x H' _ _ y => y⟩
  · exact ⟨_, .inr ⟨SqT.of h, rfl⟩, walk_enumT.mono (fun H' e => SqT.of (e.trans h)) fun i H x H' _ _ y => y⟩
section
variable {P : Program} {w : World} {K : PySem.W.Frag} {mg : Str → Option Value} {base : Heap}
theorem seq_ty {H : Hp} {a : Addr} {qs : Pts} (h : SeqP H a qs) : ∃ t, TyX K H (.ref a) t ∧ PySem.W.kitAny K t [.type "list", .type "tuple"] = some true := by
  rcases h with h | h
  · exact ⟨.type "list", .base (.lst h), kitAny_cons (b := true) (kit_ty (by decide +kernel)) (fun z => nomatch z) (fun _ => rfl)⟩
  · exact ⟨.type "tuple", .base (.tup h), kitAny_cons (b := false) (kit_ty (by decide +kernel)) (fun _ => kitAny_cons (b := true) (kit_ty (by decide +kernel)) (fun z => nomatch z) (fun _ => rfl)) (fun z => nomatch z)⟩
theorem scChkPs : FnScope ["value", "seen", "index", "entry"] ["value"] (defScope s_check_points) := ⟨rfl, rfl, rfl, by decide +kernel, rfl, by decide +kernel, by decide +kernel⟩
def spChkPs : Sp := fun vs H Q _ => ∃ (a : Addr) (qs : Pts), vs = [.ref a] ∧ SeqP H a qs ∧ AllP H qs ∧ (qs.map (·.2)).Nodup ∧ qs.length ≤ 40 ∧ ∀ H', Same H H' → Q .non H'
theorem ok_chkPs {f fI : Addr} {fd fdI : FuncData} {tm : Tok} (F : FnP K "check_points" s_check_points f fd) (B : Bt mg) (C : B1 mg) (GI : FnOk P w K mg base CX0 3 fI fdI ["value"] spIsPt) (kI : PySem.W.keepIn K (.ref fI) = true) (bI : Binds K fdI ["value"] []) (gI : mg "is_point" = some (.ref fI))
    (gM : mg "MOST_POINTS" = some (.int 500 tm)) : FnOk P w K mg base CX0 4 f fd ["value"] spChkPs := by
  refine F.ok scChkPs (fun vs H Q E h => ?_) (fun cdv A outer s H vs Q E hr h => ?_)
  · obtain ⟨_, _, rfl, _⟩ := h
    rfl
  · obtain ⟨a, qs, rfl, hs, hp, nd, few, q⟩ := h
    refine ⟨_, pss_cons (ps_if (PW.pt (pw_or (pt_not (pt_val (pe_callB call_isiT (by rfl) B.isi (by decide +kernel) (pa_cons (pv 0) (pa_cons (pe_tup (pa_cons (pe_bltn (v := .ty "list") (by rfl) C.list (by decide +kernel) rfl) (pa_cons (pe_bltn (v := .ty "tuple") (by rfl) B.tuple (by decide +kernel) rfl) pa_nil))) pa_nil)))))
        (pw_or1 (pt_cmpR op_gt (pe_callB call_len_seq (by rfl) B.len PySem.boot_len (pa_cons (pv 0) pa_nil)) (pe_glob (v := .int 500) (by rfl) gM ⟨_, rfl⟩) (nomark _))))) pss_never pss_nil)
      (pss_cons (ps_set (i := 1) scChkPs.nd rfl (.inl rfl) (pe_callTy0 cr_set0T (by rfl) C.set (by decide +kernel)))
      (pss_one (ps_for PassesOwn.never rfl (pi_enumA (by rfl) C.enum (pa_cons (pv 0) pa_nil)) (pg_tup rfl (pgs_cons (pg_name (i := 2) scChkPs.nd rfl (.inl rfl)) (pgs_cons (pg_name (i := 3) scChkPs.nd rfl (.inl rfl)) pgs_nil)))
        (pss_cons (ps_if (PW.pt (pw_or (pt_not (pt_val (pe_call GI hr (by rfl) gI kI bI .nil pass0 (pa_cons (pv 3) pa_nil)))) (pw_or1 (pt_cmpR (op_outT (hu64 hr)) (pv 3) (pv 1) (by with_unfolding_all rfl))))) pss_never pss_nil)
        (pss_one (ps_expr (pe_addT (hu64 hr) (pv 1) (pa_cons (pv 3) pa_nil)))))))), ?_⟩
    refine ⟨_, rfl, (by show 2 ≤ sizeLine; decide), fun tp ntp => ?_⟩
    have s1 : Same H (upd H tp (.tup [.ty "list", .ty "tuple"])) := same_new ntp
    obtain ⟨t, ty, kt⟩ := seq_ty (K := K) (hs.same s1)
    refine ⟨_, tp, _, t, _, true, rfl, upd_same, .cons (.ty "list") (.cons (.ty "tuple") .nil), ty, kt, _, rfl, iteF ?_⟩
    refine ⟨_, rfl, a, _, rfl, (hs.same s1).sq, _, _, rfl, rfl, _, rfl, ?_⟩
    have hlen : (refsOf qs).length = qs.length := List.length_map ..
    rw [hlen, decide_eq_false (show ¬ ((500 : Int) < (qs.length : Nat)) by omega)]
    refine iteF ?_
    refine ⟨rfl, fun S nS => ?_⟩
    have s2 : Same (upd H tp (.tup [.ty "list", .ty "tuple"])) (upd (upd H tp (.tup [.ty "list", .ty "tuple"])) S (SetTO P w S [])) := same_new nS
    have s12 := s1.trans s2
    have hSn : H S = none := same_free s1 nS
    obtain ⟨J, eJ, wk⟩ := enum_of (K := K) (hs.same s12)
    refine ⟨_, rfl, a, _, J, rfl, eJ, for_it wk (fun i σ H3 => ∃ (y2 y3 : Option V) (L : List (Addr × List Int)), σ = [some (.ref a), some (.ref S), y2, y3] ∧ Same H H3 ∧ H3 S = some (SetTO P w S L) ∧ L.Perm ((qs.take i).map kOf)) ?_ ?_ ?_ ?_⟩
    · exact ⟨none, none, [], rfl, s12, upd_same, .nil⟩
    · rintro i σ H3 _ ⟨y2, y3, L, rfl, e3, _, _⟩
      rcases hs with hs | hs
      · rw [e3 _ _ hs, s12 _ _ hs]
      · rw [e3 _ _ hs, s12 _ _ hs]
    · rintro i v σ H3 H4 hi ⟨y2, y3, L, rfl, e3, hS3, pm⟩ ⟨T, vi, ve, rfl, nT, rfl, hvi, hve⟩
      obtain ⟨q0, hq0, rfl⟩ := refs_at hve
      have s4 : Same H3 (upd H3 T (.tup [vi, .ref q0.1])) := same_new nT
      have e4 := e3.trans s4
      have hP : PtIn (upd H3 T (.tup [vi, .ref q0.1])) q0.1 q0.2.1 q0.2.2 := (hp q0 (List.mem_of_getElem? hq0)).same e4
      refine ⟨T, _, rfl, SqT.of upd_same, rfl, _, _, rfl, _, _, rfl, rfl, ?_⟩
      refine ⟨_, rfl, q0.1, q0.2.1, q0.2.2, rfl, hP, fun H5 e5 => ⟨_, rfl, iteF ?_⟩⟩
      have e45 := e4.trans e5
      have hS5 : H5 S = some (SetTO P w S L) := e5 _ _ (s4 _ _ hS3)
      have hk : SqT K H5 q0.1 (([q0.2.1, q0.2.2] : List Int).map V.int) := SqT.of (hP.same e5).1
      have hL : ∀ p ∈ L, SqT K H5 p.1 (p.2.map V.int) := fun p hpL => by
        obtain ⟨r, hr2, rfl⟩ := List.mem_map.mp (pm.mem_iff.mp hpL)
        exact SqT.of ((hp r (List.mem_of_mem_take hr2)).same e45).1
      have out := out_of hq0 nd pm
      refine ⟨_, rfl, _, rfl, q0.1, S, _, L, rfl, rfl, hk, hS5, hL, out, _, rfl, iteF ?_⟩
      have hlL : L.length ≤ 40 := by
        rw [pm.length_eq, List.length_map, List.length_take]
        omega
      refine ⟨_, rfl, ⟨S, L, rfl, hS5, hL⟩, _, rfl, S, q0.1, _, L, rfl, rfl, hS5, hk, hL, out, (by omega), fun L' pm' => ?_⟩
      refine ⟨_, _, L', rfl, same_ex hSn ?_, upd_same, take_next hq0 pm pm'⟩
      intro b o hb hne
      rw [upd_ne hne]
      exact e45 b o hb
    · rintro σ H3 ⟨y2, y3, L, rfl, e3, _, _⟩
      exact q H3 e3
end
end Q2

namespace Q2
/-! ### trees of numbers, and the rows that tell them -/
inductive IT where
  | nil : IT
  | node (k : Nat) (ch : Fin 4 → IT) : IT
namespace IT
def rt (m : Nat) : IT → Nat
  | nil => m
  | node k _ => k
def Mem (m : Nat) : IT → Prop
  | nil => False
  | node k ch => m = k ∨ ∃ j, Mem m (ch j)
/-- all below a node have greater numbers, and no number stands twice -/
def Asc : IT → Prop
  | nil => True
  | node k ch => (∀ j m, Mem m (ch j) → k < m) ∧ (∀ i j m, Mem m (ch i) → Mem m (ch j) → i = j) ∧ ∀ j, Asc (ch j)
def Rep (rows : List (List Nat)) (m : Nat) : IT → Prop
  | nil => True
  | node k ch => rows[k]? = some [(ch 0).rt m, (ch 1).rt m, (ch 2).rt m, (ch 3).rt m] ∧ ∀ j, Rep rows m (ch j)
def ins (f : Nat → Nat → Fin 4) (n : Nat) : IT → IT
  | nil => node n fun _ => nil
  | node k ch => node k fun j => if j = f k n then ins f n (ch j) else ch j
def isNil : IT → Bool
  | nil => true
  | node _ _ => false
/-- where a number is hung: at which one, as which part -/
def tgt (f : Nat → Nat → Fin 4) (n : Nat) : IT → Nat × Fin 4
  | nil => (0, 0)
  | node k ch => if (ch (f k n)).isNil = true then (k, f k n) else tgt f n (ch (f k n))
theorem mem_ins {f : Nat → Nat → Fin 4} {n m : Nat} : ∀ {t : IT}, Mem m (ins f n t) ↔ m = n ∨ Mem m t
  | nil => by simp [ins, Mem]
  | node k ch => by
    simp only [ins, Mem]
    constructor
    · rintro (h | ⟨j, h⟩)
      · exact .inr (.inl h)
      · by_cases e : j = f k n
        · rw [if_pos e] at h
          rcases mem_ins.mp h with h | h
          · exact .inl h
          · exact .inr (.inr ⟨j, h⟩)
        · rw [if_neg e] at h
          exact .inr (.inr ⟨j, h⟩)
    · rintro (h | h | ⟨j, h⟩)
      · exact .inr ⟨f k n, by rw [if_pos rfl]; exact mem_ins.mpr (.inl h)⟩
      · exact .inl h
      · refine .inr ⟨j, ?_⟩
        by_cases e : j = f k n
        · rw [if_pos e]
          exact mem_ins.mpr (.inr h)
        · rw [if_neg e]
          exact h
theorem asc_ins {f : Nat → Nat → Fin 4} {n : Nat} : ∀ {t : IT}, Asc t → (∀ m, Mem m t → m < n) → Asc (ins f n t)
  | nil, _, _ => ⟨fun _ _ h => h.elim, fun _ _ _ h => h.elim, fun _ => trivial⟩
  | node k ch, ⟨h1, h2, h3⟩, hn => by
    have lt : ∀ {j m}, Mem m (ch j) → m < n := fun h => hn _ (.inr ⟨_, h⟩)
    have kn : k < n := hn k (.inl rfl)
    have key : ∀ {j m}, Mem m (if j = f k n then ins f n (ch j) else ch j) → (m = n ∧ j = f k n) ∨ Mem m (ch j) := fun {j m} h => by
      by_cases e : j = f k n
      · rw [if_pos e] at h
        rcases mem_ins.mp h with h | h
        · exact .inl ⟨h, e⟩
        · exact .inr h
      · rw [if_neg e] at h
        exact .inr h
    refine ⟨fun j m h => ?_, fun i j m hi hj => ?_, fun j => ?_⟩
    · rcases key h with ⟨rfl, _⟩ | h
      · exact kn
      · exact h1 j m h
    · rcases key hi with ⟨e, ei⟩ | hi
      · rcases key hj with ⟨_, ej⟩ | hj
        · rw [ei, ej]
        · have := lt hj
          omega
      · rcases key hj with ⟨e, _⟩ | hj
        · have := lt hi
          omega
        · exact h2 i j m hi hj
    · by_cases e : j = f k n
      · show Asc (if j = f k n then ins f n (ch j) else ch j)
        rw [if_pos e]
        exact asc_ins (h3 j) fun m h => lt h
      · show Asc (if j = f k n then ins f n (ch j) else ch j)
        rw [if_neg e]
        exact h3 j
theorem rt_mem {m : Nat} : ∀ {t : IT}, t.isNil = false → Mem (t.rt m) t
  | nil, h => by cases h
  | node k ch, _ => .inl rfl
theorem rt_nil {m : Nat} : ∀ {t : IT}, t.isNil = true → t.rt m = m
  | nil, _ => rfl
  | node k ch, h => by cases h
theorem rt_ins {f : Nat → Nat → Fin 4} {n m : Nat} : ∀ {t : IT}, (ins f n t).rt m = if t.isNil = true then n else t.rt m
  | nil => rfl
  | node k ch => rfl
theorem tgt_mem {f : Nat → Nat → Fin 4} {n : Nat} : ∀ {t : IT}, t.isNil = false → Mem (tgt f n t).1 t
  | nil, h => by cases h
  | node k ch, _ => by
    unfold tgt
    split
    · exact .inl rfl
    · rename_i h
      exact .inr ⟨f k n, tgt_mem (by simpa using h)⟩
/-- the rows with a number more, hung at a part -/
structure Hung (rows rows' : List (List Nat)) (kp : Nat × Fin 4) (n m : Nat) : Prop where
  old : ∀ k r, rows[k]? = some r → rows'[k]? = some (if k = kp.1 then r.set kp.2 n else r)
  new : rows'[n]? = some [m, m, m, m]
theorem rep_other {rows rows' : List (List Nat)} {m : Nat} {kp : Nat × Fin 4} {n : Nat} (H : Hung rows rows' kp n m) : ∀ {t : IT}, ¬ Mem kp.1 t → Rep rows m t → Rep rows' m t
  | nil, _, _ => trivial
  | node k ch, hm, ⟨h1, h2⟩ => by
    refine ⟨?_, fun j => rep_other H (fun h => hm (.inr ⟨j, h⟩)) (h2 j)⟩
    rw [H.old k _ h1, if_neg (fun e => hm (.inl e.symm))]
theorem isNil_eq {t : IT} (h : t.isNil = true) : t = nil := by
  cases t with
  | nil => rfl
  | node _ _ => cases h
theorem rep_hang {f : Nat → Nat → Fin 4} {rows rows' : List (List Nat)} {m n : Nat} : ∀ {t : IT}, Hung rows rows' (tgt f n t) n m → t.isNil = false → Asc t → Rep rows m t → Rep rows' m (ins f n t)
  | nil, _, h, _, _ => by cases h
  | node k ch, H, _, ⟨h1, h2, h3⟩, ⟨r1, r2⟩ => by
    have kn : ∀ j, ¬ Mem k (ch j) := fun j h => by have := h1 j k h; omega
    unfold tgt at H
    have key : ∀ j, (if j = f k n then ins f n (ch j) else ch j).rt m = if j = f k n then (if (ch (f k n)).isNil = true then n else (ch j).rt m) else (ch j).rt m := fun j => by
      by_cases q : j = f k n
      · rw [if_pos q, if_pos q, rt_ins, q]
      · rw [if_neg q, if_neg q]
    by_cases e : (ch (f k n)).isNil = true
    · rw [if_pos e] at H
      refine ⟨?_, fun j => ?_⟩
      · rw [H.old k _ r1, if_pos rfl, key, key, key, key, if_pos e, if_pos e, if_pos e, if_pos e]
        show some (List.set [(ch 0).rt m, (ch 1).rt m, (ch 2).rt m, (ch 3).rt m] (f k n) n) = _
        generalize f k n = p
        match p with
        | 0 => rfl
        | 1 => rfl
        | 2 => rfl
        | 3 => rfl
      · show Rep _ m (if j = f k n then ins f n (ch j) else ch j)
        by_cases q : j = f k n
        · rw [if_pos q, q, isNil_eq e]
          exact ⟨H.new, fun _ => trivial⟩
        · rw [if_neg q]
          exact rep_other H (kn j) (r2 j)
    · rw [if_neg e] at H
      have e' : (ch (f k n)).isNil = false := by simpa using e
      have tm := tgt_mem (f := f) (n := n) e'
      refine ⟨?_, fun j => ?_⟩
      · rw [H.old k _ r1, if_neg (fun h => kn (f k n) (Eq.mpr (congrArg (fun z => Mem z (ch (f k n))) h) tm)), key, key, key, key, if_neg e, if_neg e, if_neg e, if_neg e]
        simp only [ite_self]
      · show Rep _ m (if j = f k n then ins f n (ch j) else ch j)
        by_cases q : j = f k n
        · rw [if_pos q, q]
          exact rep_hang H e' (h3 _) (r2 _)
        · rw [if_neg q]
          exact rep_other H (fun h => q (h2 _ _ _ h tm)) (r2 j)
/-! ### the tree that comes of dividing at the first one -/
def grow (f : Nat → Nat → Fin 4) : Nat → List Nat → IT
  | 0, _ => nil
  | _ + 1, [] => nil
  | n + 1, k :: r => node k fun j => grow f n (r.filter fun m => decide (f k m = j))
theorem grow_snoc {f : Nat → Nat → Fin 4} {a : Nat} : ∀ (n : Nat) (l : List Nat), l.length + 1 ≤ n → grow f n (l ++ [a]) = ins f a (grow f n l)
  | 0, l, h => by omega
  | n + 1, [], h => by
    show node a (fun j => grow f n _) = node a fun _ => nil
    congr 1
    funext j
    cases n <;> rfl
  | n + 1, k :: r, h => by
    show node k _ = node k _
    congr 1
    funext j
    show grow f n ((r ++ [a]).filter _) = if j = f k a then ins f a (grow f n (r.filter _)) else grow f n (r.filter _)
    rw [List.filter_append]
    have hl : (r.filter fun m => decide (f k m = j)).length ≤ r.length := List.length_filter_le ..
    have h' : r.length + 1 + 1 ≤ n + 1 := h
    by_cases q : j = f k a
    · have e : [a].filter (fun m => decide (f k m = j)) = [a] := by simp [q]
      rw [if_pos q, e, grow_snoc n _ (by omega)]
    · have e : [a].filter (fun m => decide (f k m = j)) = [] := by simp [show ¬ f k a = j from fun h => q h.symm]
      rw [if_neg q, e, List.append_nil]
theorem grow_fuel {f : Nat → Nat → Fin 4} : ∀ (n n' : Nat) (l : List Nat), l.length ≤ n → l.length ≤ n' → grow f n l = grow f n' l
  | 0, 0, _, _, _ => rfl
  | 0, n' + 1, [], _, _ => rfl
  | n + 1, 0, [], _, _ => rfl
  | n + 1, n' + 1, [], _, _ => rfl
  | 0, _, k :: r, h, _ => by simp at h
  | _, 0, k :: r, _, h => by simp at h
  | n + 1, n' + 1, k :: r, h, h' => by
    show node k _ = node k _
    congr 1
    funext j
    have hl : (r.filter fun m => decide (f k m = j)).length ≤ r.length := List.length_filter_le ..
    simp only [List.length_cons] at h h'
    exact grow_fuel n n' _ (by omega) (by omega)
theorem mem_grow {f : Nat → Nat → Fin 4} {m : Nat} : ∀ (n : Nat) (l : List Nat), Mem m (grow f n l) → m ∈ l
  | 0, _, h => h.elim
  | _ + 1, [], h => h.elim
  | n + 1, k :: r, h => by
    rcases h with h | ⟨j, h⟩
    · rw [h]
      exact List.mem_cons_self ..
    · exact List.mem_cons_of_mem _ (List.mem_filter.mp (mem_grow n _ h)).1
end IT
/-! ### trees of points -/
inductive QT where
  | nil : QT
  | node (p : Int × Int) (ch : Fin 4 → QT) : QT
namespace QT
def growQ (f : Int × Int → Int × Int → Fin 4) : Nat → List (Int × Int) → QT
  | 0, _ => nil
  | _ + 1, [] => nil
  | n + 1, k :: r => node k fun j => growQ f n (r.filter fun m => decide (f k m = j))
def ofI (p : Nat → Int × Int) : IT → QT
  | .nil => nil
  | .node k ch => node (p k) fun j => ofI p (ch j)
theorem ofI_grow {f : Int × Int → Int × Int → Fin 4} {p : Nat → Int × Int} : ∀ (n : Nat) (l : List Nat), ofI p (IT.grow (fun a b => f (p a) (p b)) n l) = growQ f n (l.map p)
  | 0, _ => rfl
  | _ + 1, [] => rfl
  | n + 1, k :: r => by
    show node (p k) _ = node (p k) _
    congr 1
    funext j
    rw [List.filter_map]
    exact ofI_grow n _
end QT
end Q2

namespace Q2
open PySem PySem.Spec PyProof.Rows L2
/-! ### trees as data -/
def sideF (p q : Int × Int) : Fin 4 := ⟨(if gtP q.1 q.2 p.1 p.2 = true then 1 else 0) + (if gtP q.2 q.1 p.2 p.1 = true then 2 else 0), by split <;> split <;> decide⟩
theorem partM_side {p q : Int × Int} (h : p ≠ q) : partM p.1 p.2 q.1 q.2 = some ((sideF p q).val : Int) := by
  unfold partM sideF
  rw [if_neg (fun e => h e)]
  dsimp only
  by_cases h1 : gtP q.1 q.2 p.1 p.2 = true
  · by_cases h2 : gtP q.2 q.1 p.2 p.1 = true
    · simp only [if_pos h1, if_pos h2]; rfl
    · simp only [if_pos h1, if_neg h2]; rfl
  · by_cases h2 : gtP q.2 q.1 p.2 p.1 = true
    · simp only [if_neg h1, if_pos h2]; rfl
    · simp only [if_neg h1, if_neg h2]; rfl
def qD : QT → PyData
  | .nil => .none
  | .node p ch => .tuple [ptD p, .tuple [qD (ch 0), qD (ch 1), qD (ch 2), qD (ch 3)]]
namespace QT
def ht : QT → Nat
  | nil => 0
  | node _ ch => 1 + max (max (ht (ch 0)) (ht (ch 1))) (max (ht (ch 2)) (ht (ch 3)))
def size : QT → Nat
  | nil => 0
  | node _ ch => 1 + (size (ch 0) + size (ch 1) + size (ch 2) + size (ch 3))
theorem grow_ht {f : Int × Int → Int × Int → Fin 4} : ∀ (n : Nat) (l : List (Int × Int)), (growQ f n l).ht ≤ l.length
  | 0, _ => Nat.zero_le _
  | _ + 1, [] => Nat.le_refl _
  | n + 1, k :: r => by
    have h : ∀ j : Fin 4, (growQ f n (r.filter fun m => decide (f k m = j))).ht ≤ r.length := fun j => Nat.le_trans (grow_ht n _) (List.length_filter_le ..)
    simp only [growQ, ht, List.length_cons]
    have h0 := h 0
    have h1 := h 1
    have h2 := h 2
    have h3 := h 3
    omega
end QT
theorem qD_lay : ∀ t : QT, (qD t).canLay0 = true
  | .nil => by simp [qD, PyData.canLay0]
  | .node p ch => by simp [qD, PyData.canLay0, PyData.canLayAll0, ptD_lay, qD_lay (ch 0), qD_lay (ch 1), qD_lay (ch 2), qD_lay (ch 3)]
theorem qD_depth : ∀ t : QT, (qD t).depth ≤ 2 * t.ht
  | .nil => by simp [qD, PyData.depth]
  | .node p ch => by
    have h0 := qD_depth (ch 0)
    have h1 := qD_depth (ch 1)
    have h2 := qD_depth (ch 2)
    have h3 := qD_depth (ch 3)
    have hp := ptD_depth p
    simp only [qD, PyData.depth, PyData.depthAll, QT.ht]
    omega
theorem qD_shaped {t : QT} (h : t.ht ≤ 32) : SeqAt.shaped (qD t) = true := by
  have h2 := qD_depth t
  show ((qD t).canLay0 && decide ((qD t).depth ≤ 64)) = true
  rw [Bool.and_eq_true]
  exact ⟨qD_lay t, decide_eq_true (by omega)⟩
theorem ptD_refl (p : Int × Int) : PyData.eqv (ptD p) (ptD p) = true := by rw [ptD_eqv]; exact decide_eq_true rfl
theorem qD_refl : ∀ t : QT, PyData.eqv (qD t) (qD t) = true
  | .nil => by simp [qD, PyData.eqv]
  | .node p ch => by simp [qD, PyData.eqv, PyData.eqvAll, ptD_refl p, qD_refl (ch 0), qD_refl (ch 1), qD_refl (ch 2), qD_refl (ch 3)]
/-! ### data stay where what was tracked stays -/
theorem Rd.same {H H' : Hp} {a : Addr} {o : HO} (e : Same H H') (h : Rd H a o) : Rd H' a o := by
  rcases h with h | ⟨ob, h⟩
  · exact .inl (e _ _ h)
  · exact .inr ⟨ob, e _ _ h⟩
theorem SqT.same {K : PySem.W.Frag} {H H' : Hp} {a : Addr} {xs : List V} (e : Same H H') (h : SqT K H a xs) : SqT K H' a xs := h.imp (Rd.same e) id
theorem SqL.same {K : PySem.W.Frag} {H H' : Hp} {a : Addr} {xs : List V} (e : Same H H') (h : SqL K H a xs) : SqL K H' a xs := h.imp (Rd.same e) id
mutual
theorem Dp.same {K : PySem.W.Frag} {H H' : Hp} (e : Same H H') : ∀ {v : V} {d : PyData}, Dp K H v d → Dp K H' v d
  | _, _, .non => .non
  | _, _, .bl b => .bl b
  | _, _, .int i => .int i
  | _, _, .str x => .str x
  | _, _, .lst h a => .lst (SqL.same e h) (DpAll.same e a)
  | _, _, .tup h a => .tup (SqT.same e h) (DpAll.same e a)
theorem DpAll.same {K : PySem.W.Frag} {H H' : Hp} (e : Same H H') : ∀ {vs : List V} {ds : List PyData}, DpAll K H vs ds → DpAll K H' vs ds
  | _, _, .nil => .nil
  | _, _, .cons h a => .cons (Dp.same e h) (DpAll.same e a)
end
theorem dp_ptR {K : PySem.W.Frag} {H : Hp} {v : V} {p : Int × Int} (h : Dp K H v (ptD p)) : ∃ a, v = .ref a ∧ PtR K H a p := by
  obtain ⟨x, y⟩ := p
  unfold ptD at h
  cases h with
  | tup hs ha =>
    rename_i a xs
    cases ha with
    | cons h1 h2 =>
      cases h2 with
      | cons h3 h4 =>
        cases h4
        cases h1
        cases h3
        exact ⟨a, rfl, hs⟩
/-- a node, taken apart -/
theorem dp_node {K : PySem.W.Frag} {H : Hp} {v : V} {p : Int × Int} {ch : Fin 4 → QT} (h : Dp K H v (qD (.node p ch))) :
    ∃ (a b c : Addr) (v0 v1 v2 v3 : V), v = .ref a ∧ SqT K H a [.ref b, .ref c] ∧ PtR K H b p ∧ SqT K H c [v0, v1, v2, v3] ∧ Dp K H v0 (qD (ch 0)) ∧ Dp K H v1 (qD (ch 1)) ∧ Dp K H v2 (qD (ch 2)) ∧ Dp K H v3 (qD (ch 3)) := by
  unfold qD at h
  cases h with
  | tup hs ha =>
    rename_i a xs
    cases ha with
    | cons h1 h2 =>
      cases h2 with
      | cons h3 h4 =>
        cases h4
        obtain ⟨b, rfl, hb⟩ := dp_ptR h1
        cases h3 with
        | tup hc hcs =>
          rename_i c ys
          cases hcs with
          | cons d0 r =>
            cases r with
            | cons d1 r =>
              cases r with
              | cons d2 r =>
                cases r with
                | cons d3 r =>
                  cases r
                  exact ⟨a, b, c, _, _, _, _, rfl, hs, hb, hc, d0, d1, d2, d3⟩
theorem dp_mk {K : PySem.W.Frag} {H : Hp} {a b c : Addr} {v0 v1 v2 v3 : V} {p : Int × Int} {ch : Fin 4 → QT} (hs : SqT K H a [.ref b, .ref c]) (hb : PtR K H b p) (hc : SqT K H c [v0, v1, v2, v3])
    (h0 : Dp K H v0 (qD (ch 0))) (h1 : Dp K H v1 (qD (ch 1))) (h2 : Dp K H v2 (qD (ch 2))) (h3 : Dp K H v3 (qD (ch 3))) : Dp K H (.ref a) (qD (.node p ch)) := by
  unfold qD
  exact .tup hs (.cons (.tup hb (.cons (.int _) (.cons (.int _) .nil))) (.cons (.tup hc (.cons h0 (.cons h1 (.cons h2 (.cons h3 .nil))))) .nil))
theorem dp_nil {K : PySem.W.Frag} {H : Hp} {v : V} (h : Dp K H v (qD .nil)) : v = .non := by
  unfold qD at h
  cases h
  rfl
theorem dp_nonil {K : PySem.W.Frag} {H : Hp} {v : V} {p : Int × Int} {ch : Fin 4 → QT} (h : Dp K H v (qD (.node p ch))) : v ≠ .non := by
  obtain ⟨a, _, _, _, _, _, _, rfl, _⟩ := dp_node h
  intro z
  cases z
end Q2

namespace Q2
open PySem PySem.Spec PyProof.Rows L2
/-! ### rows that grow, step by step -/
def fI (qs : Pts) (a b : Nat) : Fin 4 := sideF ((qs.map (·.2)).getD a (0, 0)) ((qs.map (·.2)).getD b (0, 0))
abbrev ITg (qs : Pts) (i : Nat) : IT := IT.grow (fI qs) i (List.range i)
theorem itg_succ (qs : Pts) (i : Nat) : ITg qs (i + 1) = IT.ins (fI qs) i (ITg qs i) := by
  unfold ITg
  rw [List.range_succ, IT.grow_snoc (i + 1) _ (by rw [List.length_range]; omega), IT.grow_fuel (i + 1) i _ (by rw [List.length_range]; omega) (by rw [List.length_range]; omega)]
theorem itg_mem {qs : Pts} {i k : Nat} (h : IT.Mem k (ITg qs i)) : k < i := List.mem_range.mp (IT.mem_grow i _ h)
theorem itg_asc (qs : Pts) : ∀ i, IT.Asc (ITg qs i)
  | 0 => trivial
  | i + 1 => by
    rw [itg_succ]
    exact IT.asc_ins (itg_asc qs i) fun m h => itg_mem h
theorem itg_rt (qs : Pts) (m : Nat) : ∀ i, 0 < i → (ITg qs i).isNil = false ∧ (ITg qs i).rt m = 0
  | 0, h => absurd h (Nat.lt_irrefl _)
  | 1, _ => ⟨rfl, rfl⟩
  | i + 2, _ => by
    obtain ⟨h1, h2⟩ := itg_rt qs m (i + 1) (Nat.succ_pos _)
    rw [itg_succ, IT.rt_ins, h1, if_neg (by decide), h2]
    refine ⟨?_, rfl⟩
    cases e : ITg qs (i + 1) with
    | nil => rw [e] at h1; cases h1
    | node _ _ => rfl
abbrev iV (k : Nat) : V := .int (k : Int)
/-- rows in the heap: the list at R of the lists at rs, none of which stood before -/
structure RowsAt (H0 H : Hp) (R : Addr) (rs : List Addr) (M : List (List Nat)) : Prop where
  lst : H R = some (.lst (rs.map V.ref))
  len : rs.length = M.length
  row : ∀ (i : Nat) (r : Addr) (row : List Nat), rs[i]? = some r → M[i]? = some row → H r = some (.lst (row.map iV))
  nd : rs.Nodup
  ne : R ∉ rs
  fr : H0 R = none
  frs : ∀ r ∈ rs, H0 r = none
/-- each row has four numbers, none of which is greater than many -/
def Rows4 (M : List (List Nat)) (m : Nat) : Prop := ∀ row ∈ M, row.length = 4 ∧ ∀ k ∈ row, k ≤ m
theorem RowsAt.same {H0 H H' : Hp} {R : Addr} {rs : List Addr} {M : List (List Nat)} (e : Same H H') (h : RowsAt H0 H R rs M) : RowsAt H0 H' R rs M :=
  ⟨e _ _ h.lst, h.len, fun i r row h1 h2 => e _ _ (h.row i r row h1 h2), h.nd, h.ne, h.fr, h.frs⟩
theorem RowsAt.get {H0 H : Hp} {R : Addr} {rs : List Addr} {M : List (List Nat)} (h : RowsAt H0 H R rs M) {i : Nat} (hi : i < M.length) : ∃ r row, rs[i]? = some r ∧ M[i]? = some row ∧ H r = some (.lst (row.map iV)) := by
  have hi' : i < rs.length := by rw [h.len]; exact hi
  exact ⟨rs[i], M[i], List.getElem?_eq_getElem hi', List.getElem?_eq_getElem hi, h.row i _ _ (List.getElem?_eq_getElem hi') (List.getElem?_eq_getElem hi)⟩
/-- a row changed -/
theorem RowsAt.set {H0 H : Hp} {R : Addr} {rs : List Addr} {M : List (List Nat)} (h : RowsAt H0 H R rs M) {k : Nat} {r : Addr} {row' : List Nat} (hr : rs[k]? = some r) : RowsAt H0 (upd H r (.lst (row'.map iV))) R rs (M.set k row') := by
  obtain ⟨hk, hrk⟩ := List.getElem?_eq_some_iff.mp hr
  have rin : r ∈ rs := List.mem_of_getElem? hr
  refine ⟨?_, by rw [List.length_set]; exact h.len, fun i r2 row2 h1 h2 => ?_, h.nd, h.ne, h.fr, h.frs⟩
  · rw [upd_ne (fun z => h.ne (by rw [z]; exact rin))]
    exact h.lst
  · by_cases e : i = k
    · subst e
      rw [h1] at hr
      cases hr
      rw [List.getElem?_set_self (by rw [← h.len]; exact hk)] at h2
      cases h2
      exact upd_same
    · rw [List.getElem?_set_ne (fun z => e z.symm)] at h2
      rw [upd_ne]
      · exact h.row i r2 row2 h1 h2
      · intro z
        obtain ⟨hi, hri⟩ := List.getElem?_eq_some_iff.mp h1
        have := List.pairwise_iff_getElem.mp h.nd
        rcases Nat.lt_or_gt_of_ne e with lt | gt
        · exact this i k hi hk lt (by rw [hri, hrk, z])
        · exact this k i hk hi gt (by rw [hri, hrk, z])
/-- a row more -/
theorem RowsAt.snoc {H0 H : Hp} {R l : Addr} {rs : List Addr} {M : List (List Nat)} {row : List Nat} (h : RowsAt H0 H R rs M) (hl : H l = none) (s : ∀ b o, H0 b = some o → H b = some o) : RowsAt H0 (upd (upd H l (.lst (row.map iV))) R (.lst (rs.map V.ref ++ [V.ref l]))) R (rs ++ [l]) (M ++ [row]) := by
  have lR : l ≠ R := fun z => by rw [z, h.lst] at hl; cases hl
  have lrs : l ∉ rs := fun z => by
    obtain ⟨i, hi⟩ := List.getElem?_of_mem z
    obtain ⟨hi2, _⟩ := List.getElem?_eq_some_iff.mp hi
    have := h.row i l _ hi (List.getElem?_eq_getElem (by rw [← h.len]; exact hi2))
    rw [hl] at this
    cases this
  have l0 : H0 l = none := by
    cases q : H0 l with
    | none => rfl
    | some o => rw [s _ _ q] at hl; cases hl
  refine ⟨by rw [upd_same]; simp, by simp [h.len], fun i r2 row2 h1 h2 => ?_, ?_, ?_, h.fr, ?_⟩
  · have hr2 : r2 ∈ rs ++ [l] := List.mem_of_getElem? h1
    have r2R : r2 ≠ R := fun z => by
      rw [z] at hr2
      rcases List.mem_append.mp hr2 with q | q
      · exact h.ne q
      · exact lR (List.mem_singleton.mp q).symm
    rw [upd_ne r2R]
    by_cases e : i < rs.length
    · rw [List.getElem?_append_left e] at h1
      rw [List.getElem?_append_left (by rw [← h.len]; exact e)] at h2
      rw [upd_ne (fun z => lrs (by rw [← z]; exact List.mem_of_getElem? h1))]
      exact h.row i r2 row2 h1 h2
    · rw [List.getElem?_append_right (by omega)] at h1
      rw [List.getElem?_append_right (by rw [← h.len]; omega)] at h2
      rw [← h.len] at h2
      generalize i - rs.length = j at h1 h2
      match j with
      | 0 =>
        cases h1
        cases h2
        exact upd_same
      | j + 1 => simp at h1
  · exact nd_snoc h.nd lrs
  · intro z
    rcases List.mem_append.mp z with q | q
    · exact h.ne q
    · exact lR (List.mem_singleton.mp q).symm
  · intro r hr
    rcases List.mem_append.mp hr with q | q
    · exact h.frs r q
    · rw [List.mem_singleton.mp q]
      exact l0
/-- the model of a turn -/
theorem hung_of {M : List (List Nat)} {n i k : Nat} {p : Fin 4} {row : List Nat} (hM : M.length = i) (hk : k < i) (hr : M[k]? = some row) : IT.Hung M (M.set k (row.set p i) ++ [[n, n, n, n]]) (k, p) i n := by
  refine ⟨fun k' r h => ?_, ?_⟩
  · obtain ⟨hk', _⟩ := List.getElem?_eq_some_iff.mp h
    rw [List.getElem?_append_left (by rw [List.length_set]; exact hk')]
    by_cases e : k' = k
    · subst e
      rw [if_pos rfl, List.getElem?_set_self hk']
      rw [h] at hr
      cases hr
      rfl
    · rw [if_neg e, List.getElem?_set_ne (fun z => e z.symm)]
      exact h
  · rw [List.getElem?_append_right (by rw [List.length_set]; omega), List.length_set, hM, Nat.sub_self]
    rfl
theorem rows4_set {M : List (List Nat)} {n k i : Nat} {p : Fin 4} {row : List Nat} (h : Rows4 M n) (hr : M[k]? = some row) (hi : i ≤ n) : Rows4 (M.set k (row.set p i) ++ [[n, n, n, n]]) n := by
  intro r hr2
  rcases List.mem_append.mp hr2 with q | q
  · rcases List.mem_or_eq_of_mem_set q with q | rfl
    · exact h r q
    · obtain ⟨l, b⟩ := h row (List.mem_of_getElem? hr)
      refine ⟨by rw [List.length_set]; exact l, fun x hx => ?_⟩
      rcases List.mem_or_eq_of_mem_set hx with q | rfl
      · exact b x q
      · exact hi
  · rw [List.mem_singleton.mp q]
    refine ⟨rfl, fun x hx => ?_⟩
    simp at hx
    omega
/-- points of a list or a tuple, read by place -/
abbrev rIxS2 (K : PySem.W.Frag) : R2 := fun x y H Q => rIxL K x y H Q ∨ rIxT K x y H Q
theorem ix_seq2 {X : Cx} : IxR X (rIxS2 X.K) := IxR.or ix_list ix_tup
theorem ix_pts {K : PySem.W.Frag} {H : Hp} {a : Addr} {qs : Pts} {i : Nat} {q : Addr × Int × Int} {Q : VK} (h : SeqP H a qs) (hi : qs[i]? = some q) (k : Q (.ref q.1) H) : rIxS2 K (.ref a) (iV i) H Q := by
  have e : (refsOf qs)[i]? = some (V.ref q.1) := by rw [List.getElem?_map, hi]; rfl
  rcases h with h | h
  · exact .inl ⟨a, _, _, _, rfl, rfl, SqL.of h, atI_nat e, k⟩
  · exact .inr ⟨a, _, _, _, rfl, rfl, SqT.of h, atI_nat e, k⟩
theorem fI_side {qs : Pts} {k i : Nat} {q r : Addr × Int × Int} (hk : qs[k]? = some q) (hi : qs[i]? = some r) : fI qs k i = sideF q.2 r.2 := by
  unfold fI
  rw [List.getD_eq_getElem?_getD, List.getD_eq_getElem?_getD, List.getElem?_map, List.getElem?_map, hk, hi]
  rfl
end Q2

namespace Q2
open PySem PySem.Spec PyProof.Rows L2
theorem pts_ne {qs : Pts} {i k : Nat} {q r : Addr × Int × Int} (nd : (qs.map (·.2)).Nodup) (hk : qs[k]? = some q) (hi : qs[i]? = some r) (lt : k < i) : q.2 ≠ r.2 := by
  obtain ⟨hk', rfl⟩ := List.getElem?_eq_some_iff.mp hk
  obtain ⟨hi', rfl⟩ := List.getElem?_eq_some_iff.mp hi
  have h3 := List.pairwise_iff_getElem.mp nd k i (by rw [List.length_map]; omega) (by rw [List.length_map]; exact hi') lt
  rw [List.getElem_map, List.getElem_map] at h3
  exact h3
theorem four_at {row : List Nat} (h : row.length = 4) (p : Fin 4) : ∃ k, row[p.val]? = some k ∧ k ∈ row := by
  have : p.val < row.length := by have := p.isLt; omega
  exact ⟨row[p.val], List.getElem?_eq_getElem this, List.getElem_mem this⟩
section
variable {P : Program} {w : World} {K : PySem.W.Frag} {mg : Str → Option Value} {base : Heap}
/-! ### rows_by_steps -/
theorem scRows : FnScope ["points", "many", "rows", "number", "point", "at", "row", "part"] ["points"] (defScope s_rows_by_steps) := ⟨rfl, rfl, rfl, by decide +kernel, rfl, by decide +kernel, by decide +kernel⟩
def spRows : Sp := fun vs H Q _ => ∃ (a : Addr) (qs : Pts), vs = [.ref a] ∧ SeqP H a qs ∧ AllP H qs ∧ (qs.map (·.2)).Nodup ∧ qs.length ≤ 1000 ∧
  ∀ H' R rs M, Same H H' → RowsAt H H' R rs M → M.length = qs.length → Rows4 M qs.length → IT.Rep M qs.length (ITg qs qs.length) → Q (.ref R) H'
/-- what stands in the slots, and in the heap, while points are put in -/
structure StepI (H0 : Hp) (a R : Addr) (qs : Pts) (i : Nat) (H : Hp) (rs : List Addr) (M : List (List Nat)) : Prop where
  same : Same H0 H
  rows : RowsAt H0 H R rs M
  len : M.length = i
  four : Rows4 M qs.length
  rep : IT.Rep M qs.length (ITg qs i)
def itSz : IT → Nat
  | .nil => 0
  | .node _ ch => 1 + (itSz (ch 0) + itSz (ch 1) + itSz (ch 2) + itSz (ch 3))
theorem itSz_lt (k : Nat) (ch : Fin 4 → IT) (p : Fin 4) : itSz (ch p) < itSz (.node k ch) := by
  show itSz (ch p) < 1 + (itSz (ch 0) + itSz (ch 1) + itSz (ch 2) + itSz (ch 3))
  match p with
  | 0 => omega
  | 1 => omega
  | 2 => omega
  | 3 => omega
theorem four_map {α β : Type} (g : α → β) (f : Fin 4 → α) (p : Fin 4) : ([f 0, f 1, f 2, f 3].map g)[p.val]? = some (g (f p)) := by
  match p with
  | 0 => rfl
  | 1 => rfl
  | 2 => rfl
  | 3 => rfl
theorem ixN_lt {n j : Nat} (h : j < n) : ixN n (j : Int) = some j := by
  unfold ixN
  rw [if_pos (by omega), if_pos (by omega)]
  rfl
/-- on the way down -/
def WayI (H0 : Hp) (a R : Addr) (qs : Pts) (i : Nat) (q0 : Addr) (rs : List Addr) (M : List (List Nat)) (m : Nat) (σ : L2.St) (H5 : Hp) : Prop :=
  ∃ (t : IT) (y6 y7 : Option V), σ = [some (.ref a), some (iV qs.length), some (.ref R), some (.int (i : Nat)), some (.ref q0), some (iV (t.rt qs.length)), y6, y7] ∧ StepI H0 a R qs i H5 rs M ∧ itSz t = m ∧
    (0 < i → IT.Rep M qs.length t ∧ (∀ k, IT.Mem k t → k < i) ∧ (t.isNil = false → IT.tgt (fI qs) i t = IT.tgt (fI qs) i (ITg qs i)) ∧
      (t.isNil = true → ∃ r, rs[(IT.tgt (fI qs) i (ITg qs i)).1]? = some r ∧ y6 = some (.ref r) ∧ y7 = some (iV (IT.tgt (fI qs) i (ITg qs i)).2.val)))
theorem ok_rows {f fP : Addr} {fd fdP : FuncData} (F : FnP K "rows_by_steps" s_rows_by_steps f fd) (B : Bt mg) (C : B1 mg) (GP : FnOk P w K mg base CX0 2 fP fdP ["root", "point"] spPart) (kP : PySem.W.keepIn K (.ref fP) = true) (bP : Binds K fdP ["root", "point"] []) (gP : mg "part_of" = some (.ref fP)) : FnOk P w K mg base CX0 3 f fd ["points"] spRows := by
  refine F.ok scRows (fun vs H Q E h => ?_) (fun cdv A outer s H vs Q E hr h => ?_)
  · obtain ⟨_, _, rfl, _⟩ := h
    rfl
  · obtain ⟨a, qs, rfl, hs, hp, nd, few, q⟩ := h
    refine ⟨_, pss_cons (ps_set (i := 1) scRows.nd rfl (.inl rfl) (pe_callB call_len_seq (by rfl) B.len PySem.boot_len (pa_cons (pv 0) pa_nil)))
      (pss_cons (ps_set (i := 2) scRows.nd rfl (.inl rfl) (pe_lst pa_nil))
      (pss_cons (ps_for PassesOwn.never rfl (pi_enumA (by rfl) C.enum (pa_cons (pv 0) pa_nil)) (pg_tup rfl (pgs_cons (pg_name (i := 3) scRows.nd rfl (.inl rfl)) (pgs_cons (pg_name (i := 4) scRows.nd rfl (.inl rfl)) pgs_nil)))
        (pss_cons (ps_set (i := 5) scRows.nd rfl (.inl rfl) pe_int)
        (pss_cons (ps_while PassesOwn.never (pt_cmpR op_lt (pv 5) (pv 3) (nomark _))
          (pss_cons (ps_set (i := 6) scRows.nd rfl (.inl rfl) (pe_ix ix_list (pv 2) (pv 5) (fun _ _ => rfl)))
          (pss_cons (ps_set (i := 7) scRows.nd rfl (.inl rfl) (pe_call GP hr (by rfl) gP kP bP .nil pass0 (pa_cons (pe_ix ix_seq2 (pv 0) (pv 5) (fun _ _ => rfl)) (pa_cons (pv 4) pa_nil))))
          (pss_one (ps_set (i := 5) scRows.nd rfl (.inl rfl) (pe_ix ix_list (pv 6) (pv 7) (fun _ _ => rfl)))))))
        (pss_cons (ps_if (pt_cmpR op_gt (pv 3) pe_int (nomark _)) (pss_one (ps_asg (pv 3) (pg_sub (pv 6) (pv 7) set_list))) pss_nil)
        (pss_one (ps_expr (pe_bm PySem.F.plainAttrs_list PySem.F.slot_list_append PySem.F.type_list_append mt_append (pv 2) (pa_cons (pe_lst (pa_cons (pv 1) (pa_cons (pv 1) (pa_cons (pv 1) (pa_cons (pv 1) pa_nil))))) pa_nil))))))))
      (pss_one (ps_ret (pv 2))))), ?_⟩
    have hlen : (refsOf qs).length = qs.length := List.length_map ..
    refine ⟨_, rfl, a, _, rfl, hs.sq, ?_⟩
    rw [hlen]
    refine ⟨(by decide), fun R nR => ?_⟩
    have s1 : Same H (upd H R (.lst [])) := same_new nR
    obtain ⟨J, eJ, wk⟩ := enum_of (K := K) (hs.same s1)
    refine ⟨_, rfl, a, _, J, rfl, eJ, for_it wk (fun i σ H3 => ∃ (y3 y4 y5 y6 y7 : Option V) (rs : List Addr) (M : List (List Nat)), σ = [some (.ref a), some (iV qs.length), some (.ref R), y3, y4, y5, y6, y7] ∧ StepI H a R qs i H3 rs M) ?_ ?_ ?_ ?_⟩
    · refine ⟨none, none, none, none, none, [], [], rfl, s1, ⟨upd_same, rfl, fun i r row h => by simp at h, List.nodup_nil, by simp, nR, fun r h => by simp at h⟩, rfl, fun r h => by simp at h, trivial⟩
    · rintro i σ H3 _ ⟨_, _, _, _, _, rs, M, rfl, I⟩
      rcases hs with hs | hs
      · rw [I.same _ _ hs, s1 _ _ hs]
      · rw [I.same _ _ hs, s1 _ _ hs]
    · rintro i v σ H3 H4 hi ⟨y3, y4, y5, y6, y7, rs, M, rfl, I⟩ ⟨T, vi, ve, rfl, nT, rfl, hvi, hve⟩
      obtain ⟨q0, hq0, rfl⟩ := refs_at hve
      cases hvi
      rw [hlen] at hi
      have s4 : Same H3 (upd H3 T (.tup [.int (i : Nat), .ref q0.1])) := same_new nT
      have I4 : StepI H a R qs i (upd H3 T (.tup [.int (i : Nat), .ref q0.1])) rs M := ⟨I.same.trans s4, I.rows.same s4, I.len, I.four, I.rep⟩
      refine ⟨T, _, rfl, SqT.of upd_same, rfl, _, _, rfl, _, _, rfl, rfl, ?_⟩
      generalize upd H3 T (.tup [.int (i : Nat), .ref q0.1]) = H4 at I4 ⊢
      clear I s4 nT
      -- the way down
      obtain ⟨t0, e0, c0⟩ : ∃ t : IT, t.rt qs.length = 0 ∧ (0 < i → t = ITg qs i) := if h : 0 < i then ⟨_, (itg_rt qs _ i h).2, fun _ => rfl⟩ else ⟨.node 0 fun _ => .nil, rfl, fun h' => absurd h' h⟩
      have sq5 : ∀ H5, StepI H a R qs i H5 rs M → SeqP H5 a qs := fun H5 I5 => hs.same I5.same
      refine ⟨WayI H a R qs i q0.1 rs M, ⟨itSz t0, t0, y6, y7, ?_, I4, rfl, fun h => ⟨?_, ?_, ?_, ?_⟩⟩, ?_⟩
      · rw [e0]
        rfl
      · rw [c0 h]
        exact I4.rep
      · rw [c0 h]
        exact fun k hk => itg_mem hk
      · rw [c0 h]
        exact fun _ => rfl
      · rw [c0 h, (itg_rt qs qs.length i h).1]
        exact fun z => nomatch z
      · rintro m σ H5 ⟨t, z6, z7, rfl, I5, hm, c1⟩
        refine ⟨_, rfl, _, rfl, _, _, rfl, rfl, _, rfl, ite2 (fun d => ?_) (fun d => ?_)⟩
        · -- a turn
          have lt : t.rt qs.length < i := by have := of_decide_eq_true d; omega
          have i0 : 0 < i := by omega
          obtain ⟨c2, c3, c4, c5⟩ := c1 i0
          cases t with
          | nil => exact absurd lt (by show ¬ qs.length < i; omega)
          | node k ch =>
            have hk : k < i := lt
            obtain ⟨rk, r2⟩ := c2
            obtain ⟨r, row, hr1, hr2, hr3⟩ := I5.rows.get (i := k) (by rw [I5.len]; exact hk)
            rw [rk] at hr2
            cases hr2
            have hqk : qs[k]? = some qs[k] := List.getElem?_eq_getElem (by omega)
            have e1 : (rs.map V.ref)[k]? = some (V.ref r) := by rw [List.getElem?_map, hr1]; rfl
            refine ⟨fun σ' H' => ∃ m', m' < m ∧ WayI H a R qs i q0.1 rs M m' σ' H', fun _ _ h => h, ?_⟩
            refine ⟨_, rfl, _, rfl, R, _, _, _, rfl, rfl, SqL.of I5.rows.lst, atI_nat (j := k) e1, ?_⟩
            refine ⟨_, rfl, _, rfl, ix_pts (sq5 H5 I5) hqk ⟨_, rfl, qs[k].1, q0.1, qs[k].2.1, qs[k].2.2, q0.2.1, q0.2.2, rfl, (hp _ (List.mem_of_getElem? hqk)).same I5.same, (hp _ (List.mem_of_getElem? hq0)).same I5.same, fun H6 e6 => ?_⟩⟩
            rw [partM_side (pts_ne nd hqk hq0 hk), ← fI_side hqk hq0]
            have I6 : StepI H a R qs i H6 rs M := ⟨I5.same.trans e6, I5.rows.same e6, I5.len, I5.four, I5.rep⟩
            refine ⟨_, rfl, _, rfl, r, _, _, _, rfl, rfl, SqL.of (e6 _ _ hr3), atI_nat (j := (fI qs k i).val) (four_map iV (fun j => (ch j).rt qs.length) (fI qs k i)), ?_⟩
            refine ⟨_, (by rw [← hm]; exact itSz_lt k ch (fI qs k i)), ch (fI qs k i), some (.ref r), some (iV (fI qs k i).val), rfl, I6, rfl, fun _ => ⟨r2 _, fun k' h' => c3 k' (.inr ⟨_, h'⟩), fun nn => ?_, fun nn => ?_⟩⟩
            · rw [← c4 rfl]
              show _ = IT.tgt (fI qs) i (.node k ch)
              unfold IT.tgt
              rw [nn, if_neg (by decide)]
              cases z : ch (fI qs k i) with
              | nil => rw [z] at nn; cases nn
              | node k2 ch2 => rw [IT.tgt]
            · have e2 : IT.tgt (fI qs) i (ITg qs i) = (k, fI qs k i) := by
                rw [← c4 rfl]
                show IT.tgt (fI qs) i (.node k ch) = _
                unfold IT.tgt
                rw [nn, if_pos rfl]
              rw [e2]
              exact ⟨r, hr1, rfl, rfl⟩
        · -- the end of the way
          have ge : i ≤ t.rt qs.length := by
            have := of_decide_eq_false (Bool.eq_false_iff.mpr d)
            omega
          have fin : ∀ (H6 : Hp) (y5 y6 y7 : Option V) (M' : List (List Nat)), Same H H6 → RowsAt H H6 R rs M' → M'.length = i → Rows4 (M' ++ [[qs.length, qs.length, qs.length, qs.length]]) qs.length →
              IT.Rep (M' ++ [[qs.length, qs.length, qs.length, qs.length]]) qs.length (ITg qs (i + 1)) → ∀ l, H6 l = none →
              ∃ (y3 y4 y5' y6' y7' : Option V) (rs' : List Addr) (M'' : List (List Nat)), [some (V.ref a), some (iV qs.length), some (.ref R), some (.int (i : Nat)), some (.ref q0.1), y5, y6, y7] = [some (.ref a), some (iV qs.length), some (.ref R), y3, y4, y5', y6', y7'] ∧
                StepI H a R qs (i + 1) (upd (upd H6 l (.lst ([qs.length, qs.length, qs.length, qs.length].map iV))) R (.lst (rs.map V.ref ++ [V.ref l]))) rs' M'' := by
            intro H6 y5 y6 y7 M' e6 hR hl h4 hrep l nl
            have ln : H l = none := same_free e6 nl
            refine ⟨_, _, _, _, _, rs ++ [l], M' ++ [[qs.length, qs.length, qs.length, qs.length]], rfl, ?_, hR.snoc nl e6, by simp [hl], h4, hrep⟩
            intro b o hb
            rw [upd_ne (ne_of_none hb nR), upd_ne (ne_of_none hb ln)]
            exact e6 b o hb
          have szM : ∀ M' : List (List Nat), M'.length = i → i < sizeLine := fun _ _ => small1000 (by omega)
          by_cases i0 : 0 < i
          · obtain ⟨c2, c3, c4, c5⟩ := c1 i0
            have hnil : t.isNil = true := by
              cases t with
              | nil => rfl
              | node k ch => exact absurd (c3 k (.inl rfl)) (by have : i ≤ k := ge; omega)
            obtain ⟨r, hr1, rfl, rfl⟩ := c5 hnil
            have tm := IT.tgt_mem (f := fI qs) (n := i) (itg_rt qs qs.length i i0).1
            generalize hkp : IT.tgt (fI qs) i (ITg qs i) = kp at hr1 tm
            obtain ⟨k, p⟩ := kp
            have hk : k < i := itg_mem tm
            obtain ⟨r', row, hr1', hr2, hr3⟩ := I5.rows.get (i := k) (by rw [I5.len]; exact hk)
            rw [hr1] at hr1'
            cases hr1'
            obtain ⟨l4, b4⟩ := I5.four row (List.mem_of_getElem? hr2)
            have pl : p.val < (row.map iV).length := by rw [List.length_map, l4]; exact p.isLt
            refine ⟨_, rfl, _, _, rfl, rfl, _, rfl, ?_⟩
            rw [decide_eq_true (show (0 : Int) < (i : Nat) by omega)]
            refine iteT ?_
            refine ⟨_, rfl, _, rfl, _, rfl, r, _, _, p.val, rfl, rfl, hr3, ixN_lt pl, ?_⟩
            have em : (row.map iV).set p.val (.int (i : Nat)) = (row.set p.val i).map iV := by rw [List.map_set]
            rw [em]
            have h0r : H r = none := I5.rows.frs r (List.mem_of_getElem? hr1)
            have R6 : RowsAt H (upd H5 r (.lst ((row.set p.val i).map iV))) R rs (M.set k (row.set p.val i)) := I5.rows.set hr1
            have e6 : Same H (upd H5 r (.lst ((row.set p.val i).map iV))) := fun b o hb => by
              rw [upd_ne (ne_of_none hb h0r)]
              exact I5.same b o hb
            have hl6 : (M.set k (row.set p.val i)).length = i := by rw [List.length_set]; exact I5.len
            have hr4 := rows4_set (p := p) I5.four hr2 (show i ≤ qs.length by omega)
            have hrep : IT.Rep (M.set k (row.set p.val i) ++ [[qs.length, qs.length, qs.length, qs.length]]) qs.length (ITg qs (i + 1)) := by
              rw [itg_succ]
              refine IT.rep_hang ?_ (itg_rt qs qs.length i i0).1 (itg_asc qs i) I5.rep
              rw [hkp]
              exact hung_of I5.len hk hr2
            generalize upd H5 r (.lst ((row.set p.val i).map iV)) = H6 at R6 e6 ⊢
            generalize M.set k (row.set p.val i) = M6 at R6 hl6 hr4 hrep
            refine ⟨_, rfl, .inl ⟨rfl, _, SqL.of R6.lst⟩, _, rfl, _, rfl, _, rfl, _, rfl, (by show 4 ≤ sizeLine; decide), fun l nl => ⟨R, _, _, rfl, rfl, (by rw [upd_ne (ne_of_none R6.lst nl)]; exact R6.lst), (by rw [List.length_map, R6.len]; exact (hl6 ▸ szM M6 hl6)), ?_⟩⟩
            exact fin H6 _ _ _ M6 e6 R6 hl6 hr4 hrep l nl
          · have i0' : i = 0 := by omega
            subst i0'
            refine ⟨_, rfl, _, _, rfl, rfl, _, rfl, iteF ?_⟩
            have hM : M = [] := List.length_eq_zero_iff.mp I5.len
            refine ⟨_, rfl, .inl ⟨rfl, _, SqL.of I5.rows.lst⟩, _, rfl, _, rfl, _, rfl, _, rfl, (by show 4 ≤ sizeLine; decide), fun l nl => ⟨R, _, _, rfl, rfl, (by rw [upd_ne (ne_of_none I5.rows.lst nl)]; exact I5.rows.lst), (by rw [List.length_map, I5.rows.len]; exact (I5.len ▸ szM M I5.len)), ?_⟩⟩
            refine fin H5 _ _ _ M I5.same I5.rows I5.len ?_ ?_ l nl
            · subst hM
              intro row hrow
              rw [List.mem_singleton.mp hrow]
              refine ⟨rfl, fun x hx => ?_⟩
              simp at hx
              omega
            · subst hM
              exact ⟨rfl, fun _ => trivial⟩
    · rintro σ H3 ⟨y3, y4, y5, y6, y7, rs, M, rfl, I⟩
      rw [hlen] at I
      exact ⟨_, rfl, q H3 R rs M I.same I.rows I.len I.four I.rep⟩
end
end Q2

namespace Q2
open PySem PySem.Spec PyProof.Rows L2
def tNeverE : TE := fun _ _ _ => False
theorem pe_never {X : Cx} {e : Expr} : PE X e tNeverE := ⟨fun _ _ _ _ _ _ h => h.elim⟩
/-! ### trees of rows -/
def Sub (s : IT) : IT → Prop
  | .nil => s = .nil
  | .node k ch => s = .node k ch ∨ ∃ j, Sub s (ch j)
theorem sub_refl : ∀ t : IT, Sub t t
  | .nil => rfl
  | .node _ _ => .inl rfl
theorem sub_rep {s : IT} {M : List (List Nat)} {m : Nat} : ∀ {t : IT}, Sub s t → IT.Rep M m t → IT.Rep M m s
  | .nil, h, _ => by rw [h]; trivial
  | .node k ch, h, r => by
    rcases h with h | ⟨j, h⟩
    · rw [h]; exact r
    · exact sub_rep h (r.2 j)
theorem sub_asc {s : IT} : ∀ {t : IT}, Sub s t → IT.Asc t → IT.Asc s
  | .nil, h, _ => by rw [h]; trivial
  | .node k ch, h, r => by
    rcases h with h | ⟨j, h⟩
    · rw [h]; exact r
    · exact sub_asc h (r.2.2 j)
theorem sub_mem {s : IT} {x : Nat} : ∀ {t : IT}, Sub s t → IT.Mem x s → IT.Mem x t
  | .nil, h, m => by rw [h] at m; exact m
  | .node k ch, h, m => by
    rcases h with h | ⟨j, h⟩
    · rw [h] at m; exact m
    · exact .inr ⟨j, sub_mem h m⟩
theorem sub_child {k : Nat} {ch : Fin 4 → IT} {p : Fin 4} : ∀ {t : IT}, Sub (.node k ch) t → Sub (ch p) t
  | .nil, h => by cases h
  | .node k' ch', h => by
    rcases h with h | ⟨j, h⟩
    · cases h
      exact .inr ⟨p, sub_refl _⟩
    · exact .inr ⟨j, sub_child h⟩
def pI (qs : Pts) (k : Nat) : Int × Int := (qs.map (·.2)).getD k (0, 0)
def treeQ (qs : List (Int × Int)) : QT := QT.growQ sideF qs.length qs
theorem ofI_itg (qs : Pts) : QT.ofI (pI qs) (ITg qs qs.length) = treeQ (qs.map (·.2)) := by
  have h := QT.ofI_grow (f := sideF) (p := pI qs) qs.length (List.range qs.length)
  have e : (List.range qs.length).map (pI qs) = qs.map (·.2) := by
    apply List.ext_getElem
    · simp
    · intro i h1 h2
      simp only [List.getElem_map, List.getElem_range]
      unfold pI
      rw [List.getD_eq_getElem?_getD, List.getElem?_eq_getElem h2, Option.getD_some, List.getElem_map]
  rw [e] at h
  unfold treeQ
  rw [List.length_map]
  exact h
/-- the list of the trees from a number on -/
structure TreesAt (K : PySem.W.Frag) (H0 H : Hp) (L : Addr) (TR : List V) (qs : Pts) (T : IT) (j : Nat) : Prop where
  lst : H L = some (.lst TR)
  len : TR.length = qs.length + 1
  fr : H0 L = none
  got : ∀ t : IT, Sub t T → (t.isNil = false → j ≤ t.rt qs.length) → ∃ v, TR[t.rt qs.length]? = some v ∧ Dp K H v (qD (QT.ofI (pI qs) t))
theorem sub_bound {qs : Pts} {t T : IT} (s : Sub t T) (h : ∀ k, IT.Mem k T → k < qs.length) : t.rt qs.length ≤ qs.length := by
  cases t with
  | nil => exact Nat.le_refl _
  | node k ch => exact Nat.le_of_lt (h k (sub_mem s (.inl rfl)))
/-- what were tuples are tuples still -/
def SameT (H H' : Hp) : Prop := ∀ a xs, Rd H a (.tup xs) → Rd H' a (.tup xs)
theorem SameT.of {H H' : Hp} (e : Same H H') : SameT H H' := fun _ _ h => Rd.same e h
theorem SameT.trans {H H' H2 : Hp} (a : SameT H H') (b : SameT H' H2) : SameT H H2 := fun x xs h => b x xs (a x xs h)
theorem SameT.put {H : Hp} {L : Addr} {xs : List V} {o : HO} (h : H L = some (.lst xs)) : SameT H (upd H L o) := fun a ys r => by
  rcases r with r | ⟨ob, r⟩
  · exact .inl (by rw [upd_ne (ne_of r h (by intro z; cases z))]; exact r)
  · exact .inr ⟨ob, by rw [upd_ne (ne_of r h (by intro z; cases z))]; exact r⟩
theorem SqT.sameT {K : PySem.W.Frag} {H H' : Hp} {a : Addr} {xs : List V} (e : SameT H H') (h : SqT K H a xs) : SqT K H' a xs := h.imp (e a xs) id
theorem dpQ_sameT {K : PySem.W.Frag} {H H' : Hp} (e : SameT H H') : ∀ {t : QT} {v : V}, Dp K H v (qD t) → Dp K H' v (qD t)
  | .nil, v, h => by
    rw [dp_nil h]
    unfold qD
    exact .non
  | .node p ch, v, h => by
    obtain ⟨a, b, c, v0, v1, v2, v3, rfl, hs, hb, hc, h0, h1, h2, h3⟩ := dp_node h
    exact dp_mk (SqT.sameT e hs) (SqT.sameT e hb) (SqT.sameT e hc) (dpQ_sameT e h0) (dpQ_sameT e h1) (dpQ_sameT e h2) (dpQ_sameT e h3)
theorem RowsAt.other {H0 H : Hp} {R L : Addr} {rs : List Addr} {M : List (List Nat)} {o : HO} (h : RowsAt H0 H R rs M) (h1 : L ≠ R) (h2 : L ∉ rs) : RowsAt H0 (upd H L o) R rs M :=
  ⟨by rw [upd_ne h1.symm]; exact h.lst, h.len, fun i r row hr hm => by rw [upd_ne (fun z => h2 (by rw [← z]; exact List.mem_of_getElem? hr))]; exact h.row i r row hr hm, h.nd, h.ne, h.fr, h.frs⟩
theorem four_of {α : Type} {row : List α} (h : row.length = 4) : ∃ a b c d, row = [a, b, c, d] := by
  match row, h with
  | [a, b, c, d], _ => exact ⟨a, b, c, d, rfl⟩
section
variable {P : Program} {w : World} {K : PySem.W.Frag} {mg : Str → Option Value} {base : Heap}
/-! ### quarter_of_rows, grown -/
theorem scQoR : FnScope ["points", "rows", "many", "trees", "number", "part0", "part1", "part2", "part3"] ["points", "rows", "many"] (defScope s_quarter_of_rows) := ⟨rfl, rfl, rfl, by decide +kernel, rfl, by decide +kernel, by decide +kernel⟩
def spQoR (K : PySem.W.Frag) : Sp := fun vs H1 Q _ => ∃ (H : Hp) (a R : Addr) (qs : Pts) (rs : List Addr) (M : List (List Nat)), vs = [.ref a, .ref R, iV qs.length] ∧ Same H H1 ∧ SeqP H a qs ∧ AllP H qs ∧ qs.length < 32 ∧ RowsAt H H1 R rs M ∧ M.length = qs.length ∧ Rows4 M qs.length ∧ IT.Rep M qs.length (ITg qs qs.length) ∧
  ∀ H' v, Same H H' → Dp K H' v (qD (treeQ (qs.map (·.2)))) → Q v H'
theorem ok_qor {f : Addr} {fd : FuncData} (F : FnP K "quarter_of_rows" s_quarter_of_rows f fd) (B : Bt mg) (Rv : mg "reversed" = none) : FnOk P w K mg base CX0 1 f fd ["points", "rows", "many"] (spQoR K) := by
  refine F.ok scQoR (fun vs H1 Q E h => ?_) (fun cdv A outer s H1 vs Q E hr h => ?_)
  · obtain ⟨_, _, _, _, _, _, rfl, _⟩ := h
    rfl
  · obtain ⟨H, a, R, qs, rs, M, rfl, e1, hs, hp, few, hR, hM, h4, hrep, q⟩ := h
    refine ⟨_, pss_cons (ps_set (i := 3) scQoR.nd rfl (.inl rfl) (pe_op op_rep (pe_lst (pa_cons pe_non pa_nil)) (pe_op op_add (pe_callB call_len_seq (by rfl) B.len PySem.boot_len (pa_cons (pv 0) pa_nil)) pe_int)))
      (pss_cons (ps_for PassesOwn.never rfl (pi_revR (by rfl) Rv (prg_1 (by rfl) B.range (pv 2))) (pg_name (i := 4) scQoR.nd rfl (.inl rfl))
        (pss_cons (ps_asg (pe_ix ix_list (pv 1) (pv 4) (fun _ _ => rfl)) (pg_unl rfl (pgs_cons (pg_name (i := 5) scQoR.nd rfl (.inl rfl)) (pgs_cons (pg_name (i := 6) scQoR.nd rfl (.inl rfl)) (pgs_cons (pg_name (i := 7) scQoR.nd rfl (.inl rfl)) (pgs_cons (pg_name (i := 8) scQoR.nd rfl (.inl rfl)) pgs_nil))))))
        (pss_one (ps_asg (pe_tup (pa_cons (pe_ix ix_seq2 (pv 0) (pv 4) (fun _ _ => rfl)) (pa_cons (pe_tup (pa_cons (pe_ix ix_list (pv 3) (pv 5) (fun _ _ => rfl)) (pa_cons (pe_ix ix_list (pv 3) (pv 6) (fun _ _ => rfl)) (pa_cons (pe_ix ix_list (pv 3) (pv 7) (fun _ _ => rfl)) (pa_cons (pe_ix ix_list (pv 3) (pv 8) (fun _ _ => rfl)) pa_nil))))) pa_nil))) (pg_sub (pv 3) (pv 4) set_list)))))
      (pss_one (ps_ret (pe_ix ix_list (pv 3) pe_int (fun _ _ => rfl))))), ?_⟩
    have hlen : (refsOf qs).length = qs.length := List.length_map ..
    have e1s : SeqP H1 a qs := hs.same e1
    refine ⟨(by decide), fun l1 nl1 => ?_⟩
    have s2 : Same H1 (upd H1 l1 (.lst [.non])) := same_new nl1
    refine ⟨_, rfl, a, _, rfl, (e1s.same s2).sq, _, _, rfl, rfl, l1, _, _, rfl, rfl, upd_same, (by rw [hlen]; omega), (by rw [hlen]; omega), (by rw [hlen]; exact small1000 (by simp; omega)), fun L nL => ?_⟩
    have eL : (List.replicate (((refsOf qs).length : Int) + 1).toNat [V.non]).flatten = List.replicate (qs.length + 1) V.non := by
      rw [hlen, show ((qs.length : Nat) : Int) + 1 = ((qs.length + 1 : Nat) : Int) from rfl, Int.toNat_natCast, List.flatten_replicate_singleton]
    rw [eL]
    have s3 : Same (upd H1 l1 (.lst [.non])) (upd (upd H1 l1 (.lst [.non])) L (.lst (List.replicate (qs.length + 1) V.non))) := same_new nL
    have s23 := s2.trans s3
    have e3 := e1.trans s23
    have hR3 := hR.same s23
    have hL3 : (upd (upd H1 l1 (.lst [.non])) L (.lst (List.replicate (qs.length + 1) V.non))) L = some (.lst (List.replicate (qs.length + 1) V.non)) := upd_same
    have LR : L ≠ R := (ne_of_none (s2 _ _ hR.lst) nL).symm
    have Lrs : L ∉ rs := fun z => by
      obtain ⟨i, hi⟩ := List.getElem?_of_mem z
      obtain ⟨hi2, _⟩ := List.getElem?_eq_some_iff.mp hi
      have := s2 _ _ (hR.row i L _ hi (List.getElem?_eq_getElem (by rw [← hR.len]; exact hi2)))
      rw [nL] at this
      cases this
    have L0 : H L = none := same_free e1 (same_free s2 nL)
    generalize upd (upd H1 l1 (.lst [.non])) L (.lst (List.replicate (qs.length + 1) V.non)) = H3 at s23 e3 hR3 hL3 ⊢
    have hasc := itg_asc qs qs.length
    have hmem : ∀ k, IT.Mem k (ITg qs qs.length) → k < qs.length := fun k h => itg_mem h
    refine ⟨_, rfl, _, rfl, (by omega), (by omega), (by omega), (by omega), ?_⟩
    have en : (((qs.length : Nat) : Int) - 0).toNat = qs.length := by omega
    rw [en]
    refine for_it walk_rangeC (fun i σ H4 => ∃ (y3 y4 y5 y6 y7 : Option V) (TR : List V), σ = [some (.ref a), some (.ref R), some (iV qs.length), some (.ref L), y3, y4, y5, y6, y7] ∧ Same H H4 ∧ RowsAt H H4 R rs M ∧ TreesAt K H H4 L TR qs (ITg qs qs.length) (qs.length - i)) ?_ (fun _ _ _ _ _ => trivial) ?_ ?_
    · refine ⟨none, none, none, none, none, _, rfl, e3, hR3, hL3, by rw [List.length_replicate], L0, fun t st ht => ?_⟩
      have : t.isNil = true := by
        cases t with
        | nil => rfl
        | node k ch =>
          have h1 := ht rfl
          have h2 := hmem k (sub_mem st (.inl rfl))
          have h3 : qs.length - 0 ≤ k := h1
          omega
      rw [IT.isNil_eq this]
      exact ⟨.non, by rw [List.getElem?_replicate]; exact if_pos (by show qs.length < qs.length + 1; omega), by unfold QT.ofI qD; exact .non⟩
    · rintro i v σ H5 H4 hi ⟨y3, y4, y5, y6, y7, TR, rfl, e4, hR4, tr⟩ ⟨rfl, hv⟩
      obtain ⟨j, hj⟩ : ∃ j, qs.length = i + 1 + j := ⟨qs.length - (i + 1), by omega⟩
      have ev : v = iV j := by
        rw [hv]
        have z : (0 + (qs.length : Int) - 1 + (i : Int) * (-1) : Int) = (j : Int) := by omega
        exact congrArg V.int z
      subst ev
      have jl : j < qs.length := by omega
      obtain ⟨r, row, hr1, hr2, hr3⟩ := hR4.get (i := j) (by rw [hM]; exact jl)
      obtain ⟨l4, b4⟩ := h4 row (List.mem_of_getElem? hr2)
      obtain ⟨k0, k1, k2, k3, rfl⟩ := four_of l4
      have er : (rs.map V.ref)[j]? = some (V.ref r) := by rw [List.getElem?_map, hr1]; rfl
      have lt : ∀ {k}, k ∈ [k0, k1, k2, k3] → k < TR.length := fun h => by have := b4 _ h; rw [tr.len]; omega
      have g0 : TR[k0]? = some (TR[k0]'(lt (by simp))) := List.getElem?_eq_getElem _
      have g1 : TR[k1]? = some (TR[k1]'(lt (by simp))) := List.getElem?_eq_getElem _
      have g2 : TR[k2]? = some (TR[k2]'(lt (by simp))) := List.getElem?_eq_getElem _
      have g3 : TR[k3]? = some (TR[k3]'(lt (by simp))) := List.getElem?_eq_getElem _
      generalize TR[k0]'(lt (by simp)) = v0 at g0
      generalize TR[k1]'(lt (by simp)) = v1 at g1
      generalize TR[k2]'(lt (by simp)) = v2 at g2
      generalize TR[k3]'(lt (by simp)) = v3 at g3
      have hqj : qs[j]? = some qs[j] := List.getElem?_eq_getElem jl
      have hqin : qs[j] ∈ qs := List.getElem_mem jl
      generalize qs[j] = qj at hqj hqin
      refine ⟨_, rfl, _, rfl, R, _, _, _, rfl, rfl, SqL.of hR4.lst, atI_nat (j := j) er, r, _, rfl, SqL.of hr3, rfl, _, _, rfl, _, _, rfl, _, _, rfl, _, _, rfl, rfl, ?_⟩
      refine ⟨_, rfl, _, rfl, ix_pts (hs.same e4) hqj ?_⟩
      refine ⟨_, rfl, _, rfl, L, _, _, v0, rfl, rfl, SqL.of tr.lst, atI_nat g0, _, rfl, _, rfl, L, _, _, v1, rfl, rfl, SqL.of tr.lst, atI_nat g1, _, rfl, _, rfl, L, _, _, v2, rfl, rfl, SqL.of tr.lst, atI_nat g2, _, rfl, _, rfl, L, _, _, v3, rfl, rfl, SqL.of tr.lst, atI_nat g3, (by show 4 ≤ sizeLine; decide), fun c nc => ?_⟩
      refine ⟨(by show 2 ≤ sizeLine; decide), fun d ndd => ?_⟩
      have s5 : Same H4 (upd H4 c (.tup [v0, v1, v2, v3])) := same_new nc
      have s6 : Same (upd H4 c (.tup [v0, v1, v2, v3])) (upd (upd H4 c (.tup [v0, v1, v2, v3])) d (.tup [.ref qj.1, .ref c])) := same_new ndd
      have s56 := s5.trans s6
      have hL6 := s56 _ _ tr.lst
      have hc6 : (upd (upd H4 c (.tup [v0, v1, v2, v3])) d (.tup [.ref qj.1, .ref c])) c = some (.tup [v0, v1, v2, v3]) := s6 _ _ upd_same
      have hd6 : (upd (upd H4 c (.tup [v0, v1, v2, v3])) d (.tup [.ref qj.1, .ref c])) d = some (.tup [.ref qj.1, .ref c]) := upd_same
      have hR6 := hR4.same s56
      have e6 := e4.trans s56
      refine ⟨_, rfl, _, rfl, L, _, _, j, rfl, rfl, hL6, ixN_lt (by rw [tr.len]; omega), ?_⟩
      clear s5 s6 nc ndd
      generalize upd (upd H4 c (.tup [v0, v1, v2, v3])) d (.tup [.ref qj.1, .ref c]) = H6 at s56 hL6 hc6 hd6 hR6 e6 ⊢
      have st7 : SameT H4 (upd H6 L (.lst (TR.set j (.ref d)))) := (SameT.of s56).trans (SameT.put hL6)
      have e7 : Same H (upd H6 L (.lst (TR.set j (.ref d)))) := fun b o hb => by
        rw [upd_ne (ne_of_none hb L0)]
        exact e6 b o hb
      have hc7 : SqT K (upd H6 L (.lst (TR.set j (.ref d)))) c [v0, v1, v2, v3] := SqT.of (by rw [upd_ne (ne_of hc6 hL6 (by intro z; cases z))]; exact hc6)
      have hd7 : SqT K (upd H6 L (.lst (TR.set j (.ref d)))) d [.ref qj.1, .ref c] := SqT.of (by rw [upd_ne (ne_of hd6 hL6 (by intro z; cases z))]; exact hd6)
      have hq7 : PtR K (upd H6 L (.lst (TR.set j (.ref d)))) qj.1 qj.2 := SqT.of ((hp qj hqin).same e7).1
      refine ⟨_, _, _, _, _, TR.set j (.ref d), rfl, e7, hR6.other LR Lrs, upd_same, by rw [List.length_set]; exact tr.len, L0, fun t st nn => ?_⟩
      have old : t.rt qs.length ≠ j → (t.isNil = false → qs.length - i ≤ t.rt qs.length) → ∃ v, (TR.set j (.ref d))[t.rt qs.length]? = some v ∧ Dp K (upd H6 L (.lst (TR.set j (.ref d)))) v (qD (QT.ofI (pI qs) t)) := fun ne hh => by
        obtain ⟨v, h1, h2⟩ := tr.got t st hh
        exact ⟨v, by rw [List.getElem?_set_ne (fun z => ne z.symm)]; exact h1, dpQ_sameT st7 h2⟩
      cases t with
      | nil => exact old (by show qs.length ≠ j; omega) (fun z => nomatch z)
      | node k ch =>
        have hk : qs.length - (i + 1) ≤ k := nn rfl
        by_cases e : k = j
        · subst e
          have hrep' := (sub_rep st hrep).1
          rw [hr2] at hrep'
          have hrow := Option.some.inj hrep'
          have as := (sub_asc st hasc).1
          have child : ∀ p : Fin 4, ∃ v, TR[(ch p).rt qs.length]? = some v ∧ Dp K (upd H6 L (.lst (TR.set k (.ref d)))) v (qD (QT.ofI (pI qs) (ch p))) := fun p => by
            obtain ⟨v, h1, h2⟩ := tr.got (ch p) (sub_child st) fun z => by
              have := as p _ (IT.rt_mem (m := qs.length) z)
              omega
            exact ⟨v, h1, dpQ_sameT st7 h2⟩
          injection hrow with q0 hrow
          injection hrow with q1 hrow
          injection hrow with q2 hrow
          injection hrow with q3 hrow
          have c0 := child 0
          have c1 := child 1
          have c2 := child 2
          have c3 := child 3
          rw [← q0, g0] at c0
          rw [← q1, g1] at c1
          rw [← q2, g2] at c2
          rw [← q3, g3] at c3
          obtain ⟨_, z0, d0⟩ := c0
          obtain ⟨_, z1, d1⟩ := c1
          obtain ⟨_, z2, d2⟩ := c2
          obtain ⟨_, z3, d3⟩ := c3
          cases z0
          cases z1
          cases z2
          cases z3
          refine ⟨.ref d, List.getElem?_set_self (by rw [tr.len]; omega), ?_⟩
          have ep : pI qs k = qj.2 := by
            unfold pI
            rw [List.getD_eq_getElem?_getD, List.getElem?_map, hqj]
            rfl
          show Dp K _ _ (qD (.node (pI qs k) fun j => QT.ofI (pI qs) (ch j)))
          rw [ep]
          exact dp_mk hd7 hq7 hc7 d0 d1 d2 d3
        · exact old e (fun _ => by show qs.length - i ≤ k; omega)
    · rintro σ H4 ⟨y3, y4, y5, y6, y7, TR, rfl, e4, hR4, tr⟩
      have root : (ITg qs qs.length).rt qs.length = 0 := by
        rcases Nat.eq_zero_or_pos qs.length with z | z
        · rw [z]
          rfl
        · exact (itg_rt qs _ _ z).2
      obtain ⟨v, h1, h2⟩ := tr.got _ (sub_refl _) fun _ => by omega
      rw [root] at h1
      rw [ofI_itg] at h2
      exact ⟨_, rfl, L, _, 0, v, rfl, rfl, SqL.of tr.lst, atI_nat (j := 0) h1, q H4 v e4 h2⟩
theorem scGrown : FnScope ["points", "rows"] ["points"] (defScope s_grown) := ⟨rfl, rfl, rfl, by decide +kernel, rfl, by decide +kernel, by decide +kernel⟩
def spGrown (K : PySem.W.Frag) : Sp := fun vs H Q _ => ∃ (a : Addr) (qs : Pts), vs = [.ref a] ∧ SeqP H a qs ∧ AllP H qs ∧ (qs.map (·.2)).Nodup ∧ qs.length < 32 ∧
  ∀ H' v, Same H H' → Dp K H' v (qD (treeQ (qs.map (·.2)))) → Q v H'
theorem ok_grown {f fR fQ : Addr} {fd fdR fdQ : FuncData} {tm : Tok} (F : FnP K "grown" s_grown f fd) (B : Bt mg) (GR : FnOk P w K mg base CX0 3 fR fdR ["points"] spRows) (kR : PySem.W.keepIn K (.ref fR) = true) (bR : Binds K fdR ["points"] []) (gR : mg "rows_by_steps" = some (.ref fR))
    (GQ : FnOk P w K mg base CX0 1 fQ fdQ ["points", "rows", "many"] (spQoR K)) (kQ : PySem.W.keepIn K (.ref fQ) = true) (bQ : Binds K fdQ ["points", "rows", "many"] []) (gQ : mg "quarter_of_rows" = some (.ref fQ))
    (gM : mg "MANY_POINTS" = some (.int 32 tm)) : FnOk P w K mg base CX0 4 f fd ["points"] (spGrown K) := by
  refine F.ok scGrown (fun vs H Q E h => ?_) (fun cdv A outer s H vs Q E hr h => ?_)
  · obtain ⟨_, _, rfl, _⟩ := h
    rfl
  · obtain ⟨a, qs, rfl, hs, hp, nd, few, q⟩ := h
    refine ⟨_, pss_cons (ps_set (i := 1) scGrown.nd rfl (.inl rfl) (pe_ifExp (pt_cmpR op_lt (pe_callB call_len_seq (by rfl) B.len PySem.boot_len (pa_cons (pv 0) pa_nil)) (pe_glob (v := .int 32) (by rfl) gM ⟨_, rfl⟩) (nomark _)) (pe_call GR hr (by rfl) gR kR bR .nil pass0 (pa_cons (pv 0) pa_nil)) pe_never))
      (pss_one (ps_ret (pe_call GQ (hr.mono (by decide)) (by rfl) gQ kQ bQ .nil pass0 (pa_cons (pv 0) (pa_cons (pv 1) (pa_cons (pe_callB call_len_seq (by rfl) B.len PySem.boot_len (pa_cons (pv 0) pa_nil)) pa_nil)))))), ?_⟩
    have hlen : (refsOf qs).length = qs.length := List.length_map ..
    refine ⟨_, rfl, a, _, rfl, hs.sq, _, _, rfl, rfl, _, rfl, ?_⟩
    rw [hlen, decide_eq_true (show ((qs.length : Nat) : Int) < 32 by omega)]
    refine iteT ⟨_, rfl, a, qs, rfl, hs, hp, nd, by omega, fun H1 R rs M e1 hR hM h4 hrep => ?_⟩
    refine ⟨_, rfl, _, rfl, _, rfl, a, _, rfl, (hs.same e1).sq, H, a, R, qs, rs, M, (by rw [hlen]; rfl), e1, hs, hp, few, hR, hM, h4, hrep, q⟩
end
end Q2

namespace Q2
open PySem PySem.Spec PyProof.Rows L2
/-! ### keys of a tree -/
def ltK (a b : Int × Int) : Bool := decide (a.1 < b.1 ∨ (a.1 = b.1 ∧ a.2 < b.2))
def yk (p : Int × Int) : Int × Int := (p.2, p.1)
def isHi (j : Fin 4) : Bool := decide (j.val % 2 = 1)
def isUp (j : Fin 4) : Bool := decide (2 ≤ j.val)
theorem ltK_gt (p q : Int × Int) : gtP q.1 q.2 p.1 p.2 = ltK p q := by
  unfold gtP ltK
  exact decide_eq_decide.mpr (by omega)
theorem isHi_side (p q : Int × Int) : isHi (sideF p q) = ltK p q := by
  show decide (((if gtP q.1 q.2 p.1 p.2 = true then 1 else 0) + (if gtP q.2 q.1 p.2 p.1 = true then 2 else 0) : Nat) % 2 = 1) = ltK p q
  rw [ltK_gt]
  cases ltK p q <;> cases gtP q.2 q.1 p.2 p.1 <;> rfl
theorem isUp_side (p q : Int × Int) : isUp (sideF p q) = ltK (yk p) (yk q) := by
  show decide (2 ≤ ((if gtP q.1 q.2 p.1 p.2 = true then 1 else 0) + (if gtP q.2 q.1 p.2 p.1 = true then 2 else 0) : Nat)) = ltK (yk p) (yk q)
  rw [show gtP q.2 q.1 p.2 p.1 = ltK (yk p) (yk q) from ltK_gt (yk p) (yk q)]
  cases gtP q.1 q.2 p.1 p.2 <;> cases ltK (yk p) (yk q) <;> rfl
theorem ltK_flip {p q : Int × Int} (h : q ≠ p) (h2 : ltK p q = false) : ltK q p = true := by
  unfold ltK at *
  have := of_decide_eq_false h2
  apply decide_eq_true
  have h3 : q.1 ≠ p.1 ∨ q.2 ≠ p.2 := by
    by_cases e : q.1 = p.1
    · exact .inr fun e2 => h (Prod.ext e e2)
    · exact .inl e
  omega
theorem yk_ne {p q : Int × Int} (h : q ≠ p) : yk q ≠ yk p := fun e => h (by
  have h1 : q.2 = p.2 := congrArg Prod.fst e
  have h2 : q.1 = p.1 := congrArg Prod.snd e
  exact Prod.ext h2 h1)
structure Ks where
  x : Int × Int
  y : Int × Int
  x2 : Int × Int
  y2 : Int × Int
def Ks.has (k : Ks) (p : Int × Int) : Prop := ltK k.x p = true ∧ ltK p k.x2 = true ∧ ltK k.y (yk p) = true ∧ ltK (yk p) k.y2 = true
def Ks.nar (k : Ks) (p : Int × Int) (j : Fin 4) : Ks := ⟨if isHi j = true then p else k.x, if isUp j = true then yk p else k.y, if isHi j = true then k.x2 else p, if isUp j = true then k.y2 else yk p⟩
def InK : QT → Ks → Prop
  | .nil, _ => True
  | .node p ch, k => k.has p ∧ ∀ j, InK (ch j) (k.nar p j)
theorem has_nar {k : Ks} {p q : Int × Int} (hq : k.has q) (ne : q ≠ p) : (k.nar p (sideF p q)).has q := by
  obtain ⟨h1, h2, h3, h4⟩ := hq
  unfold Ks.nar Ks.has
  rw [isHi_side, isUp_side]
  dsimp only
  cases e : ltK p q with
  | true =>
    cases e2 : ltK (yk p) (yk q) with
    | true => exact ⟨e, h2, e2, h4⟩
    | false => exact ⟨e, h2, h3, ltK_flip (yk_ne ne) e2⟩
  | false =>
    cases e2 : ltK (yk p) (yk q) with
    | true => exact ⟨h1, ltK_flip ne e, e2, h4⟩
    | false => exact ⟨h1, ltK_flip ne e, h3, ltK_flip (yk_ne ne) e2⟩
theorem inK_grow : ∀ (n : Nat) (l : List (Int × Int)) (k : Ks), l.Nodup → (∀ q ∈ l, k.has q) → InK (QT.growQ sideF n l) k
  | 0, _, _, _, _ => trivial
  | _ + 1, [], _, _, _ => trivial
  | n + 1, p :: r, k, nd, h => by
    have nd2 := List.nodup_cons.mp nd
    refine ⟨h p (List.mem_cons_self ..), fun j => inK_grow n _ _ (nd2.2.filter _) fun q hq => ?_⟩
    obtain ⟨hm, hs⟩ := List.mem_filter.mp hq
    have e : sideF p q = j := of_decide_eq_true hs
    rw [← e]
    exact has_nar (h q (List.mem_cons_of_mem _ hm)) fun z => nd2.1 (by rw [← z]; exact hm)
def BdQ : QT → Prop
  | .nil => True
  | .node p ch => PtB p ∧ ∀ j, BdQ (ch j)
theorem bd_grow {f : Int × Int → Int × Int → Fin 4} : ∀ (n : Nat) (l : List (Int × Int)), (∀ q ∈ l, PtB q) → BdQ (QT.growQ f n l)
  | 0, _, _ => trivial
  | _ + 1, [], _ => trivial
  | n + 1, p :: r, h => ⟨h p (List.mem_cons_self ..), fun j => bd_grow n _ fun q hq => h q (List.mem_cons_of_mem _ (List.mem_filter.mp hq).1)⟩
theorem four_filter {α : Type} (g : α → Fin 4) : ∀ r : List α, (r.filter fun m => decide (g m = 0)).length + (r.filter fun m => decide (g m = 1)).length + (r.filter fun m => decide (g m = 2)).length + (r.filter fun m => decide (g m = 3)).length = r.length
  | [] => rfl
  | a :: r => by
    have ih := four_filter g r
    simp only [List.filter_cons, List.length_cons]
    have h : g a = 0 ∨ g a = 1 ∨ g a = 2 ∨ g a = 3 := by
      generalize g a = p
      match p with
      | 0 => exact .inl rfl
      | 1 => exact .inr (.inl rfl)
      | 2 => exact .inr (.inr (.inl rfl))
      | 3 => exact .inr (.inr (.inr rfl))
    rcases h with h | h | h | h
    all_goals
      rw [h]
      simp
      omega
theorem size_grow {f : Int × Int → Int × Int → Fin 4} : ∀ (n : Nat) (l : List (Int × Int)), (QT.growQ f n l).size ≤ l.length
  | 0, _ => Nat.zero_le _
  | _ + 1, [] => Nat.le_refl _
  | n + 1, p :: r => by
    have h := four_filter (f p) r
    have h0 := size_grow (f := f) n (r.filter fun m => decide (f p m = 0))
    have h1 := size_grow (f := f) n (r.filter fun m => decide (f p m = 1))
    have h2 := size_grow (f := f) n (r.filter fun m => decide (f p m = 2))
    have h3 := size_grow (f := f) n (r.filter fun m => decide (f p m = 3))
    simp only [QT.growQ, QT.size, List.length_cons]
    omega
/-! ### tuples of two, compared -/
def rLtK (K : PySem.W.Frag) : R2 := fun x y H Q => ∃ (a b : Addr) (p q : Int × Int), x = .ref a ∧ y = .ref b ∧ PtR K H a p ∧ PtR K H b q ∧ Q (.bl (ltK p q)) H
section
variable {X : Cx}
theorem raw_ptR {pins : List (Addr × Obj)} {σ : L2.St} {H : Hp} {s : Shared} {a : Addr} {p : Int × Int} (I : Inv X pins σ H s) (h : PtR X.K H a p) : ∃ tx ty, s.heap.IsTuple a #[.int p.1 tx, .int p.2 ty] := by
  obtain ⟨its, r1, p1, _⟩ := I.tuple h
  cases r1 with
  | cons rx rr =>
    cases rr with
    | cons ry rn =>
      cases rn
      obtain ⟨tx, rfl⟩ := rx
      obtain ⟨ty, rfl⟩ := ry
      exact ⟨tx, ty, p1⟩
theorem op_ltK (hu : X.A.units < cLine) : OpR X (compareOp .Lt) (rLtK X.K) := by
  intro pins s σ H vv uu v u Q I rx ry h
  obtain ⟨a, b, ⟨x, y⟩, ⟨x', y'⟩, rfl, rfl, ha, hb, q⟩ := h
  cases rx
  cases ry
  obtain ⟨tx, ty, p1⟩ := raw_ptR I ha
  obtain ⟨tx', ty', p2⟩ := raw_ptR I hb
  have R := Ob.RcOp.tuples_lt (A := X.A) (s := s) (e := fun j => match j with | 0 => x == x' | _ => y == y') (r := fun j => match j with | 0 => decide (x < x') | _ => decide (y < y')) p1 p2 hu (fun j h1 h2 => by
    match j, h1 with
    | 0, _ => exact SeqAt.EqAt.int_int _ _ _ _
    | 1, _ => exact SeqAt.EqAt.int_int _ _ _ _) (fun j h1 h2 _ => by
    match j, h1 with
    | 0, _ => exact Ob.RcOp.lt_int _ _ _ _
    | 1, _ => exact Ob.RcOp.lt_int _ _ _ _)
  have e : Ob.lexAt (fun j => match j with | 0 => x == x' | _ => y == y') (fun j => match j with | 0 => decide (x < x') | _ => decide (y < y')) (decide ((#[Value.int x tx, Value.int y ty] : Array Value).size < (#[Value.int x' tx', Value.int y' ty'] : Array Value).size)) 0 (min (#[Value.int x tx, Value.int y ty] : Array Value).size (#[Value.int x' tx', Value.int y' ty'] : Array Value).size) = ltK (x, y) (x', y') := by
    show (if (x == x') = true then (if (y == y') = true then decide (2 < 2) else decide (y < y')) else decide (x < x')) = ltK (x, y) (x', y')
    unfold ltK
    by_cases h1 : x = x'
    · subst h1
      by_cases h2 : y = y'
      · subst h2
        simp
      · simp [h2]
    · simp [h1]
  rw [e] at R
  exact R X.prog X.w X.xe (EP X pins σ Q) ⟨.bl _, H, I, rfl, q⟩
end
section
variable {P : Program} {w : World} {K : PySem.W.Frag} {mg : Str → Option Value} {base : Heap}
/-! ### is_node -/
theorem scIsNode : FnScope ["value"] ["value"] (defScope s_is_node) := ⟨rfl, rfl, rfl, by decide +kernel, rfl, by decide +kernel, by decide +kernel⟩
def spIsNode (K : PySem.W.Frag) : Sp := fun vs H Q _ => ∃ (v : V) (p : Int × Int) (ch : Fin 4 → QT), vs = [v] ∧ Dp K H v (qD (.node p ch)) ∧ PtB p ∧ Q (.bl true) H
theorem ok_isNode {f fI : Addr} {fd fdI : FuncData} (F : FnP K "is_node" s_is_node f fd) (B : Bt mg) (GI : FnOk P w K mg base CX0 3 fI fdI ["value"] (spIsPtR K)) (kI : PySem.W.keepIn K (.ref fI) = true) (bI : Binds K fdI ["value"] []) (gI : mg "is_point" = some (.ref fI)) : FnOk P w K mg base CX0 4 f fd ["value"] (spIsNode K) := by
  refine F.ok scIsNode (fun vs H Q E h => ?_) (fun cdv A outer s H vs Q E hr h => ?_)
  · obtain ⟨a, _, _, rfl, _⟩ := h
    rfl
  · obtain ⟨v, p, ch, rfl, hd, hb, q⟩ := h
    obtain ⟨a, b, c, v0, v1, v2, v3, rfl, hs, hp, hc, _, _, _, _⟩ := dp_node hd
    refine ⟨_, pss_cons (ps_if (PW.pt (pw_or (pt_not (pt_val (pe_callB call_isi (by rfl) B.isi (by decide +kernel) (pa_cons (pv 0) (pa_cons (pe_bltn (v := .ty "tuple") (by rfl) B.tuple (by decide +kernel) rfl) pa_nil))))) (pw_or1 (pt_cmpR op_ne (pe_callB call_len_seq (by rfl) B.len PySem.boot_len (pa_cons (pv 0) pa_nil)) pe_int (nomark _))))) (pss_one (ps_ret pe_bl)) pss_nil)
      (pss_one (ps_ret (pe_and (pe_call GI hr (by rfl) gI kI bI .nil pass0 (pa_cons (pe_ix ix_tup (pv 0) pe_int (fun _ _ => rfl)) pa_nil)) (pe_and (pe_callB call_isi (by rfl) B.isi (by decide +kernel) (pa_cons (pe_ix ix_tup (pv 0) pe_int (fun _ _ => rfl)) (pa_cons (pe_bltn (v := .ty "tuple") (by rfl) B.tuple (by decide +kernel) rfl) pa_nil))) (pe_one (pe_cmpR op_eq (pe_callB call_len_seq (by rfl) B.len PySem.boot_len (pa_cons (pe_ix ix_tup (pv 0) pe_int (fun _ _ => rfl)) pa_nil)) pe_int (nomark _))))))), ?_⟩
    refine ⟨_, rfl, _, _, _, _, true, rfl, .ty "tuple", ty_tup hs, kit_ty (by decide +kernel), _, rfl, iteF ?_⟩
    refine ⟨_, rfl, a, _, rfl, .inr hs, rfl, _, rfl, iteF ?_⟩
    refine ⟨_, rfl, a, _, 0, .ref b, rfl, rfl, hs, atI_nat (j := 0) rfl, b, p, rfl, hp, hb, _, rfl, iteT ?_⟩
    refine ⟨_, rfl, a, _, 1, .ref c, rfl, rfl, hs, atI_nat (j := 1) rfl, _, _, _, _, true, rfl, .ty "tuple", ty_tup hc, kit_ty (by decide +kernel), _, rfl, iteT ?_⟩
    exact ⟨_, rfl, a, _, 1, .ref c, rfl, rfl, hs, atI_nat (j := 1) rfl, c, _, rfl, .inr hc, rfl, q⟩
/-! ### narrowed -/
theorem scNar : FnScope ["ends", "split", "part", "x", "y", "x2", "y2"] ["ends", "split", "part"] (defScope s_narrowed) := ⟨rfl, rfl, rfl, by decide +kernel, rfl, by decide +kernel, by decide +kernel⟩
def narV (j : Fin 4) (e0 e1 e2 e3 s0 s1 : V) : List V := [if isHi j = true then s0 else e0, if isUp j = true then s1 else e1, if isHi j = true then e2 else s0, if isUp j = true then e3 else s1]
def spNar (K : PySem.W.Frag) : Sp := fun vs H Q _ => ∃ (e s : Addr) (j : Fin 4) (e0 e1 e2 e3 s0 s1 : V), vs = [.ref e, .ref s, iV j.val] ∧ SqT K H e [e0, e1, e2, e3] ∧ SqT K H s [s0, s1] ∧
  ∀ H' p, Same H H' → H p = none → H' p = some (.tup (narV j e0 e1 e2 e3 s0 s1)) → Q (.ref p) H'
theorem ok_nar {f : Addr} {fd : FuncData} (F : FnP K "narrowed" s_narrowed f fd) : FnOk P w K mg base CX0 1 f fd ["ends", "split", "part"] (spNar K) := by
  refine F.ok scNar (fun vs H Q E h => ?_) (fun cdv A outer s H vs Q E hr h => ?_)
  · obtain ⟨_, _, _, _, _, _, _, _, _, rfl, _⟩ := h
    rfl
  · obtain ⟨e, sp, j, e0, e1, e2, e3, s0, s1, rfl, he, hs, q⟩ := h
    refine ⟨_, pss_cons (ps_asg (pv 0) (pg_tup rfl (pgs_cons (pg_name (i := 3) scNar.nd rfl (.inl rfl)) (pgs_cons (pg_name (i := 4) scNar.nd rfl (.inl rfl)) (pgs_cons (pg_name (i := 5) scNar.nd rfl (.inl rfl)) (pgs_cons (pg_name (i := 6) scNar.nd rfl (.inl rfl)) pgs_nil))))))
      (pss_cons (ps_if (pt_cmpR op_in_seq (pv 2) (pe_tup (pa_cons pe_int (pa_cons pe_int pa_nil))) (by rfl)) (pss_one (ps_set (i := 3) scNar.nd rfl (.inl rfl) (pe_ix ix_tup (pv 1) pe_int (fun _ _ => rfl)))) (pss_one (ps_set (i := 5) scNar.nd rfl (.inl rfl) (pe_ix ix_tup (pv 1) pe_int (fun _ _ => rfl)))))
      (pss_cons (ps_if (pt_cmpR op_in_seq (pv 2) (pe_tup (pa_cons pe_int (pa_cons pe_int pa_nil))) (by rfl)) (pss_one (ps_set (i := 4) scNar.nd rfl (.inl rfl) (pe_ix ix_tup (pv 1) pe_int (fun _ _ => rfl)))) (pss_one (ps_set (i := 6) scNar.nd rfl (.inl rfl) (pe_ix ix_tup (pv 1) pe_int (fun _ _ => rfl)))))
      (pss_one (ps_ret (pe_tup (pa_cons (pv 3) (pa_cons (pv 4) (pa_cons (pv 5) (pa_cons (pv 6) pa_nil))))))))), ?_⟩
    refine ⟨_, rfl, e, _, rfl, he, rfl, _, _, rfl, _, _, rfl, _, _, rfl, _, _, rfl, rfl, ?_⟩
    refine ⟨_, rfl, (by show 2 ≤ sizeLine; decide), fun t1 n1 => ?_⟩
    have s1' : Same H (upd H t1 (.tup [.int 1, .int 3])) := same_new n1
    refine ⟨t1, _, rfl, .inr (SqT.of upd_same), rfl, rfl, ?_⟩
    have hs1 := SqT.same s1' hs
    generalize upd H t1 (.tup [.int 1, .int 3]) = H1 at s1' hs1 ⊢
    have fin : ∀ t2, H1 t2 = none → Same H (upd H1 t2 (.tup [.int 2, .int 3])) ∧ SqT K (upd H1 t2 (.tup [.int 2, .int 3])) sp [s0, s1] := fun t2 n2 => ⟨s1'.trans (same_new n2), SqT.same (same_new n2) hs1⟩
    have last : ∀ t2 p, H1 t2 = none → (upd H1 t2 (.tup [.int 2, .int 3])) p = none → ∀ vs, vs = narV j e0 e1 e2 e3 s0 s1 → Q (.ref p) (upd (upd H1 t2 (.tup [.int 2, .int 3])) p (.tup vs)) := fun t2 p n2 np vs e => by
      subst e
      exact q _ p ((fin t2 n2).1.trans (same_new np)) (same_free (fin t2 n2).1 np) upd_same
    match j with
    | 0 =>
      refine ⟨_, rfl, iteF ?_⟩
      refine ⟨_, rfl, sp, _, 0, s0, rfl, rfl, hs1, atI_nat (j := 0) rfl, ?_⟩
      refine ⟨_, rfl, (by show 2 ≤ sizeLine; decide), fun t2 n2 => ⟨t2, _, rfl, .inr (SqT.of upd_same), rfl, rfl, _, rfl, iteF ?_⟩⟩
      refine ⟨_, rfl, sp, _, 1, s1, rfl, rfl, (fin t2 n2).2, atI_nat (j := 1) rfl, ?_⟩
      exact ⟨_, rfl, _, rfl, _, rfl, _, rfl, (by show 4 ≤ sizeLine; decide), fun p np => last t2 p n2 np _ rfl⟩
    | 1 =>
      refine ⟨_, rfl, iteT ?_⟩
      refine ⟨_, rfl, sp, _, 0, s0, rfl, rfl, hs1, atI_nat (j := 0) rfl, ?_⟩
      refine ⟨_, rfl, (by show 2 ≤ sizeLine; decide), fun t2 n2 => ⟨t2, _, rfl, .inr (SqT.of upd_same), rfl, rfl, _, rfl, iteF ?_⟩⟩
      refine ⟨_, rfl, sp, _, 1, s1, rfl, rfl, (fin t2 n2).2, atI_nat (j := 1) rfl, ?_⟩
      exact ⟨_, rfl, _, rfl, _, rfl, _, rfl, (by show 4 ≤ sizeLine; decide), fun p np => last t2 p n2 np _ rfl⟩
    | 2 =>
      refine ⟨_, rfl, iteF ?_⟩
      refine ⟨_, rfl, sp, _, 0, s0, rfl, rfl, hs1, atI_nat (j := 0) rfl, ?_⟩
      refine ⟨_, rfl, (by show 2 ≤ sizeLine; decide), fun t2 n2 => ⟨t2, _, rfl, .inr (SqT.of upd_same), rfl, rfl, _, rfl, iteT ?_⟩⟩
      refine ⟨_, rfl, sp, _, 1, s1, rfl, rfl, (fin t2 n2).2, atI_nat (j := 1) rfl, ?_⟩
      exact ⟨_, rfl, _, rfl, _, rfl, _, rfl, (by show 4 ≤ sizeLine; decide), fun p np => last t2 p n2 np _ rfl⟩
    | 3 =>
      refine ⟨_, rfl, iteT ?_⟩
      refine ⟨_, rfl, sp, _, 0, s0, rfl, rfl, hs1, atI_nat (j := 0) rfl, ?_⟩
      refine ⟨_, rfl, (by show 2 ≤ sizeLine; decide), fun t2 n2 => ⟨t2, _, rfl, .inr (SqT.of upd_same), rfl, rfl, _, rfl, iteT ?_⟩⟩
      refine ⟨_, rfl, sp, _, 1, s1, rfl, rfl, (fin t2 n2).2, atI_nat (j := 1) rfl, ?_⟩
      exact ⟨_, rfl, _, rfl, _, rfl, _, rfl, (by show 4 ≤ sizeLine; decide), fun p np => last t2 p n2 np _ rfl⟩
end
end Q2

namespace Q2
open PySem PySem.Spec PyProof.Rows L2
/-! ### fault_of -/
abbrev KsV (x y x2 y2 : Addr) : List V := [.ref x, .ref y, .ref x2, .ref y2]
/-- keys in the heap -/
def KsAt (K : PySem.W.Frag) (H : Hp) (x y x2 y2 : Addr) (k : Ks) : Prop := PtR K H x k.x ∧ PtR K H y k.y ∧ PtR K H x2 k.x2 ∧ PtR K H y2 k.y2
/-- what lies on the pile -/
def Ent (K : PySem.W.Frag) (D : Nat) (H : Hp) (e : Addr) (t : QT) : Prop :=
  ∃ (v : V) (pa ka x y x2 y2 : Addr) (ps : List V) (k : Ks), SqT K H e [v, .ref pa, .ref ka] ∧ Dp K H v (qD t) ∧ SqT K H pa ps ∧ ps.length + t.ht ≤ D ∧ SqT K H ka (KsV x y x2 y2) ∧ KsAt K H x y x2 y2 k ∧ InK t k ∧ BdQ t
theorem KsAt.sameT {K : PySem.W.Frag} {H H' : Hp} {x y x2 y2 : Addr} {k : Ks} (e : SameT H H') (h : KsAt K H x y x2 y2 k) : KsAt K H' x y x2 y2 k := ⟨SqT.sameT e h.1, SqT.sameT e h.2.1, SqT.sameT e h.2.2.1, SqT.sameT e h.2.2.2⟩
theorem Ent.sameT {K : PySem.W.Frag} {D : Nat} {H H' : Hp} {e : Addr} {t : QT} (s : SameT H H') (h : Ent K D H e t) : Ent K D H' e t := by
  obtain ⟨v, pa, ka, x, y, x2, y2, ps, k, h1, h2, h3, h4, h5, h6, h7, h8⟩ := h
  exact ⟨v, pa, ka, x, y, x2, y2, ps, k, SqT.sameT s h1, dpQ_sameT s h2, SqT.sameT s h3, h4, SqT.sameT s h5, h6.sameT s, h7, h8⟩
abbrev Pile := List (Addr × QT)
def qsum (es : Pile) : Nat := (es.map fun e => e.2.size).sum
def wsum (es : Pile) : Nat := (es.map fun e => 5 * e.2.size + 1).sum
abbrev refsE (es : Pile) : List V := es.map fun e => V.ref e.1
def nonnil : QT → Bool
  | .nil => false
  | .node _ _ => true
def chs (ch : Fin 4 → QT) : List QT := [ch 3, ch 2, ch 1, ch 0]
theorem sums_nonnil : ∀ l : List QT, ((l.filter nonnil).map QT.size).sum = (l.map QT.size).sum
  | [] => rfl
  | .nil :: l => by
    rw [List.filter_cons_of_neg (by decide), sums_nonnil l, List.map_cons, List.sum_cons]
    show _ = 0 + _
    omega
  | .node p ch :: l => by
    rw [List.filter_cons_of_pos (by rfl), List.map_cons, List.sum_cons, List.map_cons, List.sum_cons, sums_nonnil l]
theorem qsum_snd (es : Pile) : qsum es = ((es.map (·.2)).map QT.size).sum := by
  unfold qsum
  rw [List.map_map]
  rfl
theorem wsum_snd : ∀ es : Pile, wsum es = 5 * qsum es + es.length
  | [] => rfl
  | e :: es => by
    have ih := wsum_snd es
    unfold wsum qsum at *
    simp only [List.map_cons, List.sum_cons, List.length_cons]
    omega
theorem qsum_snoc (es : Pile) (e : Addr × QT) : qsum (es ++ [e]) = qsum es + e.2.size := by
  unfold qsum
  simp
theorem qsum_app (es fs : Pile) : qsum (es ++ fs) = qsum es + qsum fs := by
  unfold qsum
  simp
theorem chs_sum (ch : Fin 4 → QT) : ((chs ch).map QT.size).sum = (ch 0).size + (ch 1).size + (ch 2).size + (ch 3).size := by
  unfold chs
  simp only [List.map_cons, List.map_nil, List.sum_cons, List.sum_nil]
  omega
theorem ht_size : ∀ t : QT, t.ht ≤ t.size
  | .nil => Nat.le_refl _
  | .node p ch => by
    have h0 := ht_size (ch 0)
    have h1 := ht_size (ch 1)
    have h2 := ht_size (ch 2)
    have h3 := ht_size (ch 3)
    simp only [QT.ht, QT.size]
    omega
theorem ht_child (p : Int × Int) (ch : Fin 4 → QT) (j : Fin 4) : (ch j).ht + 1 ≤ (QT.node p ch).ht := by
  simp only [QT.ht]
  match j with
  | 0 => omega
  | 1 => omega
  | 2 => omega
  | 3 => omega
def K31 : Ks := ⟨(-10000000000000000000000000000000, 0), (-10000000000000000000000000000000, 0), (10000000000000000000000000000000, 0), (10000000000000000000000000000000, 0)⟩
theorem k31_has {p : Int × Int} (h : PtB p) : K31.has p := by
  obtain ⟨⟨h1, h2⟩, h3, h4⟩ := h
  have hL : Lo = 1000000000000000000000000000000 := rfl
  refine ⟨decide_eq_true (.inl ?_), decide_eq_true (.inl ?_), decide_eq_true (.inl ?_), decide_eq_true (.inl ?_)⟩
  · show (-10000000000000000000000000000000 : Int) < p.1; omega
  · show p.1 < (10000000000000000000000000000000 : Int); omega
  · show (-10000000000000000000000000000000 : Int) < p.2; omega
  · show p.2 < (10000000000000000000000000000000 : Int); omega
theorem nar_at {K : PySem.W.Frag} {H : Hp} {x y x2 y2 b c : Addr} {k : Ks} {p : Int × Int} (h : KsAt K H x y x2 y2 k) (hb : PtR K H b p) (hc : PtR K H c (yk p)) (j : Fin 4) :
    ∃ x' y' x2' y2', narV j (.ref x) (.ref y) (.ref x2) (.ref y2) (.ref b) (.ref c) = KsV x' y' x2' y2' ∧ KsAt K H x' y' x2' y2' (k.nar p j) := by
  obtain ⟨h1, h2, h3, h4⟩ := h
  unfold narV KsAt Ks.nar
  dsimp only
  cases isHi j <;> cases isUp j
  · exact ⟨x, y, b, c, rfl, h1, h2, hb, hc⟩
  · exact ⟨x, c, b, y2, rfl, h1, hc, hb, h4⟩
  · exact ⟨b, y, x2, c, rfl, hb, h2, h3, hc⟩
  · exact ⟨b, c, x2, y2, rfl, hb, hc, h3, h4⟩
theorem part_turn (ch : Fin 4 → QT) : ∀ i, i < 4 → ∃ j : Fin 4, ([.int 3, .int 2, .int 1, .int 0] : List V)[i]? = some (iV j.val) ∧ (chs ch).take (i + 1) = (chs ch).take i ++ [ch j]
  | 0, _ => ⟨3, rfl, rfl⟩
  | 1, _ => ⟨2, rfl, rfl⟩
  | 2, _ => ⟨1, rfl, rfl⟩
  | 3, _ => ⟨0, rfl, rfl⟩
  | n + 4, h => by omega
theorem part_val {K : PySem.W.Frag} {H : Hp} {v0 v1 v2 v3 : V} {ch : Fin 4 → QT} (h0 : Dp K H v0 (qD (ch 0))) (h1 : Dp K H v1 (qD (ch 1))) (h2 : Dp K H v2 (qD (ch 2))) (h3 : Dp K H v3 (qD (ch 3))) (j : Fin 4) :
    ∃ v, ([v0, v1, v2, v3] : List V)[j.val]? = some v ∧ Dp K H v (qD (ch j)) := by
  match j with
  | 0 => exact ⟨v0, rfl, h0⟩
  | 1 => exact ⟨v1, rfl, h1⟩
  | 2 => exact ⟨v2, rfl, h2⟩
  | 3 => exact ⟨v3, rfl, h3⟩
/-- a tuple and a tuple, whichever of them is empty -/
def rCatS (K : PySem.W.Frag) : R2 := fun x y H Q => ∃ a b xs ys, x = .ref a ∧ y = .ref b ∧ SqT K H a xs ∧ SqT K H b ys ∧ xs.length + ys.length ≤ sizeLine ∧ ∀ H' p, Same H H' → SqT K H' p (xs ++ ys) → Q (.ref p) H'
theorem op_catS {X : Cx} : OpR X (binaryOp .Add) (rCatS X.K) := by
  intro pins s σ H x y v u Q I rx ry h
  obtain ⟨a, b, xs, ys, rfl, rfl, ha, hb, hz, q⟩ := h
  refine op_catA pins s σ H _ _ v u Q I rx ry ⟨a, b, xs, ys, rfl, rfl, ha, hb, hz, fun e => ?_, fun _ e => ?_, fun _ _ p np => ?_⟩
  · subst e
    exact q H b (fun _ _ h => h) hb
  · subst e
    exact q H a (fun _ _ h => h) (by rw [List.append_nil]; exact ha)
  · exact q _ p (same_new np) (SqT.of upd_same)
section
variable {P : Program} {w : World} {K : PySem.W.Frag} {mg : Str → Option Value} {base : Heap}
theorem scFault : FnScope ["value", "many", "pile", "thing", "path", "keys", "point", "parts", "split", "x", "y", "x2", "y2", "part"] ["value"] (defScope s_fault_of) := ⟨rfl, rfl, rfl, by decide +kernel, rfl, by decide +kernel, by decide +kernel⟩
def spFault (K : PySem.W.Frag) : Sp := fun vs H Q _ => ∃ (v : V) (t : QT), vs = [v] ∧ Dp K H v (qD t) ∧ InK t K31 ∧ BdQ t ∧ t.size ≤ 500 ∧ ∀ H', Same H H' → Q .non H'
def PileI (K : PySem.W.Frag) (H0 : Hp) (Pa : Addr) (N : Nat) (v0 : V) (m : Nat) (σ : L2.St) (H : Hp) : Prop :=
  ∃ (es : Pile) (mn : Nat) (s3 s4 s5 s6 s7 s8 s9 s10 s11 s12 s13 : Option V), σ = [some v0, some (iV mn), some (.ref Pa), s3, s4, s5, s6, s7, s8, s9, s10, s11, s12, s13] ∧ Same H0 H ∧ H Pa = some (.lst (refsE es)) ∧
    (∀ e ∈ es, Ent K 500 H e.1 e.2) ∧ mn + qsum es = N ∧ es.length ≤ 4 * mn + 1 ∧ wsum es = m
structure FaultC (K : PySem.W.Frag) (mg : Str → Option Value) (aK aL b0 b1 b2 b3 : Addr) (tm : Tok) : Prop where
  gK : mg "ALL_KEYS" = some (.ref aK)
  kK : ∀ H, SqT K H aK (KsV b0 b1 b2 b3)
  kb : ∀ H, KsAt K H b0 b1 b2 b3 K31
  gL : mg "LAST_PART_FIRST" = some (.ref aL)
  kL : ∀ H, SqT K H aL [.int 3, .int 2, .int 1, .int 0]
  gN : mg "MOST_NODES" = some (.int 500 tm)
theorem ok_fault {f fN fY fA : Addr} {fd fdN fdY fdA : FuncData} {aK aL b0 b1 b2 b3 : Addr} {tm : Tok} (F : FnP K "fault_of" s_fault_of f fd) (C : FaultC K mg aK aL b0 b1 b2 b3 tm)
    (GN : FnOk P w K mg base CX0 4 fN fdN ["value"] (spIsNode K)) (kN : PySem.W.keepIn K (.ref fN) = true) (bN : Binds K fdN ["value"] []) (gN : mg "is_node" = some (.ref fN))
    (GY : FnOk P w K mg base CX0 1 fY fdY ["point"] (spYKeyR K)) (kY : PySem.W.keepIn K (.ref fY) = true) (bY : Binds K fdY ["point"] []) (gY : mg "y_key" = some (.ref fY))
    (GA : FnOk P w K mg base CX0 1 fA fdA ["ends", "split", "part"] (spNar K)) (kA : PySem.W.keepIn K (.ref fA) = true) (bA : Binds K fdA ["ends", "split", "part"] []) (gA : mg "narrowed" = some (.ref fA)) :
    FnOk P w K mg base CX0 5 f fd ["value"] (spFault K) := by
  refine F.ok scFault (fun vs H Q E h => ?_) (fun cdv A outer s H vs Q E hr h => ?_)
  · obtain ⟨_, _, rfl, _⟩ := h
    rfl
  · obtain ⟨v0, t0, rfl, hd0, hk0, hb0, hn0, q⟩ := h
    have hu := room_un hr
    refine ⟨_, pss_cons (ps_set (i := 1) scFault.nd rfl (.inl rfl) (pe_int))
        (pss_cons (ps_set (i := 2) scFault.nd rfl (.inl rfl) (pe_lst (pa_cons (pe_tup (pa_cons (pv 0) (pa_cons (pe_tup pa_nil) (pa_cons (pe_glob (v := .ref aK) (by rfl) C.gK rfl) pa_nil)))) pa_nil)))
        (pss_cons (ps_while PassesOwn.never (pt_truth (pv 2) (fun _ => rfl)) (pss_cons (ps_asg (pe_bm0 PySem.F.plainAttrs_list PySem.F.slot_list_pop PySem.F.type_list_pop mt_pop (pv 2)) (pg_tup rfl (pgs_cons (pg_name (i := 3) scFault.nd rfl (.inl rfl)) (pgs_cons (pg_name (i := 4) scFault.nd rfl (.inl rfl)) (pgs_cons (pg_name (i := 5) scFault.nd rfl (.inl rfl)) pgs_nil)))))
        (pss_cons (ps_if (pt_cmp (pc_isN (pv 3))) (pss_one ps_continue) pss_nil)
        (pss_cons (ps_aug (i := 1) scFault.nd rfl (.inl rfl) pe_int iop_add)
        (pss_cons (ps_if (PW.pt (pw_or (pt_cmpR op_gt (pv 1) (pe_glob (v := .int 500) (by rfl) C.gN ⟨_, rfl⟩) (nomark _)) (pw_or1 (pt_not (pt_val (pe_call GN (hr) (by rfl) gN kN bN .nil pass0 (pa_cons (pv 3) pa_nil))))))) (pss_never) pss_nil)
        (pss_cons (ps_asg (pv 3) (pg_tup rfl (pgs_cons (pg_name (i := 6) scFault.nd rfl (.inl rfl)) (pgs_cons (pg_name (i := 7) scFault.nd rfl (.inl rfl)) pgs_nil))))
        (pss_cons (ps_set (i := 8) scFault.nd rfl (.inl rfl) (pe_tup (pa_cons (pv 6) (pa_cons (pe_call GY (hr.mono (by decide)) (by rfl) gY kY bY .nil pass0 (pa_cons (pv 6) pa_nil)) pa_nil))))
        (pss_cons (ps_asg (pv 5) (pg_tup rfl (pgs_cons (pg_name (i := 9) scFault.nd rfl (.inl rfl)) (pgs_cons (pg_name (i := 10) scFault.nd rfl (.inl rfl)) (pgs_cons (pg_name (i := 11) scFault.nd rfl (.inl rfl)) (pgs_cons (pg_name (i := 12) scFault.nd rfl (.inl rfl)) pgs_nil))))))
        (pss_cons (ps_if (PW.pt (pw_or (pt_not (pt_chain (op_ltK hu) (op_ltK hu) (pv 9) (pv 6) (pv 11))) (pw_or1 (pt_not (pt_chain (op_ltK hu) (op_ltK hu) (pv 10) (pe_ix ix_tup (pv 8) (pe_int) (fun _ _ => rfl)) (pv 12)))))) (pss_never) pss_nil)
        (pss_one (ps_for PassesOwn.never rfl (pi_tup (pe_glob (v := .ref aL) (by rfl) C.gL rfl)) (pg_name (i := 13) scFault.nd rfl (.inl rfl)) (pss_one (ps_if (pt_cmp (pc_notN (pe_ix ix_tup (pv 7) (pv 13) (fun _ _ => rfl)))) (pss_one (ps_expr (pe_bm PySem.F.plainAttrs_list PySem.F.slot_list_append PySem.F.type_list_append mt_append (pv 2) (pa_cons (pe_tup (pa_cons (pe_ix ix_tup (pv 7) (pv 13) (fun _ _ => rfl)) (pa_cons (pe_op op_catS (pv 4) (pe_tup (pa_cons (pv 13) pa_nil))) (pa_cons (pe_call GA (hr.mono (by decide)) (by rfl) gA kA bA .nil pass0 (pa_cons (pv 5) (pa_cons (pv 8) (pa_cons (pv 13) pa_nil)))) pa_nil)))) pa_nil)))) pss_nil)))))))))))))
        (pss_one (ps_ret pe_non)))), ?_⟩
    refine ⟨_, rfl, (by show 0 ≤ sizeLine; decide), fun pt npt => ⟨(by show 3 ≤ sizeLine; decide), fun e0 ne0 => ⟨(by show 1 ≤ sizeLine; decide), fun Pa nPa => ?_⟩⟩⟩
    have s1 : Same H (upd H pt (.tup [])) := same_new npt
    have s2 : Same (upd H pt (.tup [])) (upd (upd H pt (.tup [])) e0 (.tup [v0, .ref pt, .ref aK])) := same_new ne0
    have s3 : Same (upd (upd H pt (.tup [])) e0 (.tup [v0, .ref pt, .ref aK])) (upd (upd (upd H pt (.tup [])) e0 (.tup [v0, .ref pt, .ref aK])) Pa (.lst [.ref e0])) := same_new nPa
    have s23 := s2.trans s3
    have s123 := s1.trans s23
    have P0 : H Pa = none := same_free (s1.trans s2) nPa
    have hpt := s23 _ _ (upd_same (H := H) (a := pt) (o := .tup []))
    have he0 := s3 _ _ (upd_same (H := upd H pt (.tup [])) (a := e0) (o := .tup [v0, .ref pt, .ref aK]))
    have hPa0 : (upd (upd (upd H pt (.tup [])) e0 (.tup [v0, .ref pt, .ref aK])) Pa (.lst [.ref e0])) Pa = some (.lst [.ref e0]) := upd_same
    generalize upd (upd (upd H pt (.tup [])) e0 (.tup [v0, .ref pt, .ref aK])) Pa (.lst [.ref e0]) = H3 at s123 hpt he0 hPa0 ⊢
    clear s1 s2 s3 s23 nPa ne0 npt
    have hh0 := ht_size t0
    refine ⟨PileI K H Pa t0.size v0, ⟨_, [(e0, t0)], 0, none, none, none, none, none, none, none, none, none, none, none, rfl, s123, hPa0, ?_, ?_, ?_, rfl⟩, ?_⟩
    · intro e he
      rw [List.mem_singleton.mp he]
      exact ⟨v0, pt, aK, b0, b1, b2, b3, [], K31, SqT.of he0, Dp.same s123 hd0, SqT.of hpt, by simp; omega, C.kK _, C.kb _, hk0, hb0⟩
    · unfold qsum
      simp
    · simp
    · rintro m σ H4 ⟨es, mn, z3, z4, z5, z6, z7, z8, z9, z10, z11, z12, z13, rfl, e4, hP, hE, hN, hL, hm⟩
      refine ⟨_, rfl, _, .inl ⟨_, SqL.of hP, rfl⟩, ?_⟩
      rcases List.eq_nil_or_concat es with rfl | ⟨es', e, rfl⟩
      · exact iteF (q H4 e4)
      · rw [List.concat_eq_append] at hP hE hN hL hm
        rw [List.concat_eq_append]
        have emp : (!(refsE (es' ++ [e])).isEmpty) = true := by simp
        rw [emp]
        refine iteT ⟨fun σ' H' => ∃ m', m' < m ∧ PileI K H Pa t0.size v0 m' σ' H', fun _ _ h => h, ?_⟩
        have hlast : (refsE (es' ++ [e]))[(refsE (es' ++ [e])).length - 1]? = some (.ref e.1) := by simp
        have hdrop : (refsE (es' ++ [e])).dropLast = refsE es' := by simp
        refine ⟨_, rfl, .inl ⟨rfl, _, SqL.of hP⟩, Pa, _, .ref e.1, rfl, rfl, hP, hlast, ?_⟩
        rw [hdrop]
        have st5 : SameT H4 (upd H4 Pa (.lst (refsE es'))) := SameT.put hP
        have e5 : Same H (upd H4 Pa (.lst (refsE es'))) := fun b o hb => by
          rw [upd_ne (ne_of_none hb P0)]
          exact e4 b o hb
        have hP5 : (upd H4 Pa (.lst (refsE es'))) Pa = some (.lst (refsE es')) := upd_same
        have hE5 : ∀ x ∈ es' ++ [e], Ent K 500 (upd H4 Pa (.lst (refsE es'))) x.1 x.2 := fun x hx => (hE x hx).sameT st5
        generalize upd H4 Pa (.lst (refsE es')) = H5 at e5 hP5 hE5 ⊢
        have hE' : ∀ x ∈ es', Ent K 500 H5 x.1 x.2 := fun x hx => hE5 x (List.mem_append.mpr (.inl hx))
        obtain ⟨v, pa, ka, x, y, x2, y2, ps, k, h1, h2, h3, h4, h5, h6, h7, h8⟩ := hE5 e (List.mem_append.mpr (.inr (List.mem_singleton.mpr rfl)))
        have hlen1 : (es' ++ [e]).length = es'.length + 1 := by simp
        have hq1 := qsum_snoc es' e
        have hw1 := wsum_snd (es' ++ [e])
        have hw2 := wsum_snd es'
        rw [hlen1] at hL hw1
        refine ⟨e.1, _, rfl, h1, rfl, _, _, rfl, _, _, rfl, _, _, rfl, rfl, ?_⟩
        obtain ⟨ea, et⟩ := e
        cases et with
        | nil =>
          have hv := dp_nil h2
          subst hv
          refine ⟨_, rfl, _, rfl, iteT ?_⟩
          refine ⟨wsum es', ?_, es', mn, _, _, _, _, _, _, _, _, _, _, _, rfl, e5, hP5, hE', ?_, by omega, rfl⟩
          · have : qsum (es' ++ [(ea, .nil)]) = qsum es' + 0 := hq1
            omega
          · have : qsum (es' ++ [(ea, .nil)]) = qsum es' + 0 := hq1
            omega
        | node p ch =>
          have hv := dp_nonil h2
          have hsz : (QT.node p ch).size = 1 + ((ch 0).size + (ch 1).size + (ch 2).size + (ch 3).size) := rfl
          have hq2 : qsum (es' ++ [(ea, .node p ch)]) = qsum es' + (QT.node p ch).size := hq1
          refine ⟨_, rfl, _, rfl, ?_⟩
          rw [decide_eq_false hv]
          refine iteF ?_
          refine ⟨_, rfl, _, _, rfl, rfl, ?_⟩
          have en : iV mn = iV mn := rfl
          refine ⟨_, rfl, _, _, rfl, rfl, _, rfl, ?_⟩
          rw [decide_eq_false (show ¬ ((500 : Int) < (mn : Int) + 1) by omega)]
          refine iteF ?_
          refine ⟨_, rfl, v, p, ch, rfl, h2, h8.1, _, rfl, iteF ?_⟩
          obtain ⟨a, b, c, v0', v1, v2, v3, rfl, hs, hp, hc, d0, d1, d2, d3⟩ := dp_node h2
          refine ⟨_, rfl, a, _, rfl, hs, rfl, _, _, rfl, _, _, rfl, rfl, ?_⟩
          refine ⟨_, rfl, _, rfl, b, p, rfl, hp, fun ya nya => ⟨(by show 2 ≤ sizeLine; decide), fun sa nsa => ?_⟩⟩
          have s6 : Same H5 (upd H5 ya (.tup [.int p.2, .int p.1])) := same_new nya
          have s7 : Same (upd H5 ya (.tup [.int p.2, .int p.1])) (upd (upd H5 ya (.tup [.int p.2, .int p.1])) sa (.tup [.ref b, .ref ya])) := same_new nsa
          have s67 := s6.trans s7
          have hya : PtR K (upd (upd H5 ya (.tup [.int p.2, .int p.1])) sa (.tup [.ref b, .ref ya])) ya (yk p) := SqT.of (s7 _ _ upd_same)
          have hsa : SqT K (upd (upd H5 ya (.tup [.int p.2, .int p.1])) sa (.tup [.ref b, .ref ya])) sa [.ref b, .ref ya] := SqT.of upd_same
          clear s6 s7
          generalize upd (upd H5 ya (.tup [.int p.2, .int p.1])) sa (.tup [.ref b, .ref ya]) = H6 at s67 hya hsa ⊢
          have st6 := SameT.of s67
          have e6 := e5.trans s67
          have hP6 := s67 _ _ hP5
          have hE6 : ∀ x ∈ es', Ent K 500 H6 x.1 x.2 := fun x hx => (hE' x hx).sameT st6
          have k6 := SqT.sameT st6 h5
          have ks6 := h6.sameT st6
          have c6 := SqT.sameT st6 hc
          have p6 : PtR K H6 b p := SqT.sameT st6 hp
          have pa6 := SqT.sameT st6 h3
          have dd0 := dpQ_sameT st6 d0
          have dd1 := dpQ_sameT st6 d1
          have dd2 := dpQ_sameT st6 d2
          have dd3 := dpQ_sameT st6 d3
          obtain ⟨⟨hk1, hk2, hk3, hk4⟩, hkc⟩ := h7
          refine ⟨_, rfl, ka, _, rfl, k6, rfl, _, _, rfl, _, _, rfl, _, _, rfl, _, _, rfl, rfl, ?_⟩
          refine ⟨_, rfl, _, rfl, x, b, k.x, p, rfl, rfl, ks6.1, p6, _, rfl, ?_⟩
          rw [hk1]
          refine iteT ⟨_, rfl, b, x2, p, k.x2, rfl, rfl, p6, ks6.2.2.1, _, rfl, ?_⟩
          rw [hk2]
          refine iteF ?_
          refine ⟨_, rfl, _, rfl, sa, _, 1, .ref ya, rfl, rfl, hsa, atI_nat (j := 1) rfl, y, ya, k.y, yk p, rfl, rfl, ks6.2.1, hya, _, rfl, ?_⟩
          rw [hk3]
          refine iteT ⟨_, rfl, ya, y2, yk p, k.y2, rfl, rfl, hya, ks6.2.2.2, _, rfl, ?_⟩
          rw [hk4]
          refine iteF ?_
          -- the parts
          refine ⟨aL, rfl, ⟨_, C.kL _⟩, for_it (walk_tup (xs := [.int 3, .int 2, .int 1, .int 0])) (fun i σ H7 => ∃ (fs : Pile) (z13 : Option V), σ = [some v0, some (.int ((mn : Int) + 1)), some (.ref Pa), some (.ref a), some (.ref pa), some (.ref ka), some (.ref b), some (.ref c), some (.ref sa), some (.ref x), some (.ref y), some (.ref x2), some (.ref y2), z13] ∧
            Same H H7 ∧ SameT H6 H7 ∧ H7 Pa = some (.lst (refsE (es' ++ fs))) ∧ (∀ e ∈ es' ++ fs, Ent K 500 H7 e.1 e.2) ∧ fs.map (·.2) = ((chs ch).take i).filter nonnil) ?_ (fun _ _ _ _ _ => C.kL _) ?_ ?_⟩
          · exact ⟨[], _, rfl, e6, fun _ _ h => h, by rw [List.append_nil]; exact hP6, by rw [List.append_nil]; exact hE6, rfl⟩
          · rintro i vv σ H8 H7 hi ⟨fs, z13, rfl, e7, st7, hP7, hE7, hf⟩ ⟨rfl, hv2⟩
            obtain ⟨j, hj1, hj2⟩ := part_turn ch i hi
            rw [hj1] at hv2
            cases hv2
            obtain ⟨pw, hpw, dpw⟩ := part_val (dpQ_sameT st7 dd0) (dpQ_sameT st7 dd1) (dpQ_sameT st7 dd2) (dpQ_sameT st7 dd3) j
            have c7 := SqT.sameT st7 c6
            have hlf : fs.length ≤ 4 := by
              have h1 : (((chs ch).take i).filter nonnil).length ≤ ((chs ch).take i).length := List.length_filter_le ..
              have h2 : ((chs ch).take i).length ≤ 4 := by
                rw [List.length_take]
                exact Nat.min_le_right _ _
              rw [← hf, List.length_map] at h1
              omega
            refine ⟨_, rfl, _, rfl, c, _, _, pw, rfl, rfl, c7, atI_nat (j := j.val) hpw, _, rfl, ?_⟩
            cases hcj : ch j with
            | nil =>
              rw [hcj] at dpw
              have := dp_nil dpw
              subst this
              refine iteF ⟨fs, _, rfl, e7, st7, hP7, hE7, ?_⟩
              rw [hj2, List.filter_append, hcj, hf]
              show _ = _ ++ []
              rw [List.append_nil]
            | node p' ch' =>
              have nn : (!decide (pw = V.non)) = true := by
                rw [hcj] at dpw
                rw [decide_eq_false (dp_nonil dpw)]
                rfl
              rw [nn]
              have hh := ht_child p ch j
              have hpl : ps.length + 1 ≤ sizeLine := Nat.le_of_lt (small1000 (by omega))
              refine iteT ⟨_, rfl, .inl ⟨rfl, _, SqL.of hP7⟩, _, rfl, _, rfl, c, _, _, pw, rfl, rfl, c7, atI_nat (j := j.val) hpw, _, rfl, _, rfl, (by show 1 ≤ sizeLine; decide), fun t1 n1 => ?_⟩
              have s8 : Same H7 (upd H7 t1 (.tup [iV j.val])) := same_new n1
              refine ⟨pa, t1, ps, [iV j.val], rfl, rfl, SqT.same s8 (SqT.sameT st7 pa6), SqT.of upd_same, hpl, fun H9 pp s9 hpp => ?_⟩
              have s89 := s8.trans s9
              have k9 := SqT.sameT (st7.trans (SameT.of s89)) k6
              have sa9 := SqT.sameT (st7.trans (SameT.of s89)) hsa
              refine ⟨_, rfl, _, rfl, _, rfl, ka, sa, j, _, _, _, _, _, _, rfl, k9, sa9, fun H10 na s10 nna hna => ⟨(by show 3 ≤ sizeLine; decide), fun te nte => ?_⟩⟩
              have s810 := s89.trans s10
              have s11 : Same H10 (upd H10 te (.tup [pw, .ref pp, .ref na])) := same_new nte
              have s811 := s810.trans s11
              have hP11 := s811 _ _ hP7
              refine ⟨Pa, _, _, rfl, rfl, hP11, (by rw [List.length_map, List.length_append, sizeLine_eq]; omega), ?_⟩
              have hte : (upd H10 te (.tup [pw, .ref pp, .ref na])) te = some (.tup [pw, .ref pp, .ref na]) := upd_same
              have hna11 := s11 _ _ hna
              have hpp11 := SqT.same (s10.trans s11) hpp
              clear s8 s9 s89 s10 s810 s11 nte nna hna hpp n1 k9 sa9
              generalize upd H10 te (.tup [pw, .ref pp, .ref na]) = H11 at s811 hP11 hte hna11 hpp11 ⊢
              have st12 : SameT H11 (upd H11 Pa (.lst (refsE (es' ++ fs) ++ [.ref te]))) := SameT.put hP11
              have st712 := (SameT.of s811).trans st12
              have st612 := st7.trans st712
              refine ⟨fs ++ [(te, ch j)], _, rfl, fun b o hb => ?_, st612, ?_, fun z hz => ?_, ?_⟩
              · rw [upd_ne (ne_of_none hb P0)]
                exact s811 _ _ (e7 b o hb)
              · rw [upd_same]
                simp
              · rw [← List.append_assoc] at hz
                rcases List.mem_append.mp hz with hz | hz
                · exact (hE7 z hz).sameT st712
                · rw [List.mem_singleton.mp hz]
                  obtain ⟨x', y', x2', y2', hnar, hks⟩ := nar_at (ks6.sameT st612) (SqT.sameT st612 p6) (SqT.sameT st612 hya) j
                  rw [hnar] at hna11
                  exact ⟨pw, pp, na, x', y', x2', y2', ps ++ [iV j.val], k.nar p j, SqT.sameT st12 (SqT.of hte), dpQ_sameT st712 dpw, SqT.sameT st12 hpp11, (by
                    have h4' : ps.length + (QT.node p ch).ht ≤ 500 := h4
                    show (ps ++ [iV j.val]).length + (ch j).ht ≤ 500
                    rw [List.length_append, List.length_singleton]
                    omega), SqT.sameT st12 (SqT.of hna11), hks, hkc j, h8.2 j⟩
              · rw [hj2, List.map_append, List.filter_append, hf, hcj]
                rfl
          · rintro σ H7 ⟨fs, z13, rfl, e7, _, hP7, hE7, hf⟩
            have hf4 : fs.map (·.2) = (chs ch).filter nonnil := hf
            have hqf : qsum fs = (ch 0).size + (ch 1).size + (ch 2).size + (ch 3).size := by rw [qsum_snd, hf4, sums_nonnil, chs_sum]
            have hlf : fs.length ≤ 4 := by
              have h1 := List.length_filter_le nonnil (chs ch)
              rw [← hf4, List.length_map] at h1
              exact h1
            have hqa := qsum_app es' fs
            have hwa := wsum_snd (es' ++ fs)
            have hla : (es' ++ fs).length = es'.length + fs.length := by simp
            refine ⟨wsum (es' ++ fs), by omega, es' ++ fs, mn + 1, _, _, _, _, _, _, _, _, _, _, _, rfl, e7, hP7, hE7, by omega, by omega, rfl⟩
end
end Q2

namespace Q2
open PySem PySem.Spec PyProof.Rows L2
/-! ### tuples that are written -/
theorem tup4R {K : PySem.W.Frag} {a b0 b1 b2 b3 : Addr} {od : Option Addr} {n : Nat} {sl : Array (Option Value)} (h : K.lookup a = some ⟨.type "tuple", od, .seq #[.ref b0, .ref b1, .ref b2, .ref b3] n, sl⟩) (H : Hp) : SqT K H a [.ref b0, .ref b1, .ref b2, .ref b3] :=
  .inr ⟨_, _, _, h, rfl, rfl, by show 4 ≤ sizeLine; decide, .cons rfl (.cons rfl (.cons rfl (.cons rfl .nil)))⟩
theorem tup4I {K : PySem.W.Frag} {a : Addr} {i0 i1 i2 i3 : Int} {t0 t1 t2 t3 : Tok} {od : Option Addr} {n : Nat} {sl : Array (Option Value)} (h : K.lookup a = some ⟨.type "tuple", od, .seq #[.int i0 t0, .int i1 t1, .int i2 t2, .int i3 t3] n, sl⟩) (H : Hp) : SqT K H a [.int i0, .int i1, .int i2, .int i3] :=
  .inr ⟨_, _, _, h, rfl, rfl, by show 4 ≤ sizeLine; decide, .cons ⟨_, rfl⟩ (.cons ⟨_, rfl⟩ (.cons ⟨_, rfl⟩ (.cons ⟨_, rfl⟩ .nil)))⟩
theorem tup2I {K : PySem.W.Frag} {a : Addr} {i0 i1 : Int} {t0 t1 : Tok} {od : Option Addr} {n : Nat} {sl : Array (Option Value)} (h : K.lookup a = some ⟨.type "tuple", od, .seq #[.int i0 t0, .int i1 t1] n, sl⟩) (H : Hp) : PtR K H a (i0, i1) :=
  .inr ⟨_, _, _, h, rfl, rfl, by show 2 ≤ sizeLine; decide, .cons ⟨_, rfl⟩ (.cons ⟨_, rfl⟩ .nil)⟩
theorem tup4N {K : PySem.W.Frag} {a : Addr} {od : Option Addr} {n : Nat} {sl : Array (Option Value)} (h : K.lookup a = some ⟨.type "tuple", od, .seq #[.none, .none, .none, .none] n, sl⟩) (H : Hp) : SqT K H a [.non, .non, .non, .non] :=
  .inr ⟨_, _, _, h, rfl, rfl, by show 4 ≤ sizeLine; decide, .cons rfl (.cons rfl (.cons rfl (.cons rfl .nil)))⟩
end Q2

namespace Q2
open PySem PySem.Spec PyProof.Rows L2
section
variable {P : Program} {w : World} {K : PySem.W.Frag} {mg : Str → Option Value} {base : Heap}
theorem scBuilt : FnScope ["points"] ["points"] (defScope s_built) := ⟨rfl, rfl, rfl, by decide +kernel, rfl, by decide +kernel, by decide +kernel⟩
theorem ok_built {f fC fG : Addr} {fd fdC fdG : FuncData} (F : FnP K "built" s_built f fd) (GC : FnOk P w K mg base CX0 4 fC fdC ["value"] spChkPs) (kC : PySem.W.keepIn K (.ref fC) = true) (bC : Binds K fdC ["value"] []) (gC : mg "check_points" = some (.ref fC))
    (GG : FnOk P w K mg base CX0 4 fG fdG ["points"] (spGrown K)) (kG : PySem.W.keepIn K (.ref fG) = true) (bG : Binds K fdG ["points"] []) (gG : mg "grown" = some (.ref fG)) : FnOk P w K mg base CX0 5 f fd ["points"] (spGrown K) := by
  refine F.ok scBuilt (fun vs H Q E h => ?_) (fun cdv A outer s H vs Q E hr h => ?_)
  · obtain ⟨_, _, rfl, _⟩ := h
    rfl
  · obtain ⟨a, qs, rfl, hs, hp, nd, few, q⟩ := h
    refine ⟨_, pss_cons (ps_expr (pe_call GC hr (by rfl) gC kC bC .nil pass0 (pa_cons (pv 0) pa_nil))) (pss_one (ps_ret (pe_call GG hr (by rfl) gG kG bG .nil pass0 (pa_cons (pv 0) pa_nil)))), ?_⟩
    exact ⟨_, rfl, a, qs, rfl, hs, hp, nd, by omega, fun H1 e1 => ⟨_, rfl, a, qs, rfl, hs.same e1, hp.same e1, nd, few, fun H' v e2 d => q H' v (e1.trans e2) d⟩⟩
end
end Q2

namespace Q2
open PySem PySem.Spec PyProof.Rows L2
/-! ### points that are read -/
def PtInR (K : PySem.W.Frag) (H : Hp) (t : Addr) (x y : Int) : Prop := PtR K H t (x, y) ∧ (-Lo ≤ x ∧ x ≤ Lo) ∧ (-Lo ≤ y ∧ y ≤ Lo)
theorem PtInR.same {K : PySem.W.Frag} {H H' : Hp} {t : Addr} {x y : Int} (e : Same H H') (h : PtInR K H t x y) : PtInR K H' t x y := ⟨SqT.same e h.1, h.2⟩
def AllR (K : PySem.W.Frag) (H : Hp) (qs : Pts) : Prop := ∀ q ∈ qs, PtInR K H q.1 q.2.1 q.2.2
theorem AllR.same {K : PySem.W.Frag} {H H' : Hp} {qs : Pts} (e : Same H H') (h : AllR K H qs) : AllR K H' qs := fun q hq => (h q hq).same e
theorem AllR.of {K : PySem.W.Frag} {H : Hp} {qs : Pts} (h : AllP H qs) : AllR K H qs := fun q hq => ⟨SqT.of (h q hq).1, (h q hq).2⟩
def spIsPtQ (K : PySem.W.Frag) : Sp := fun vs H Q _ => ∃ (t : Addr) (x y : Int), vs = [.ref t] ∧ PtInR K H t x y ∧ ∀ H', Same H H' → Q (.bl true) H'
def spPartQ (K : PySem.W.Frag) : Sp := fun vs H Q _ => ∃ (t u : Addr) (x y x' y' : Int), vs = [.ref t, .ref u] ∧ PtInR K H t x y ∧ PtInR K H u x' y' ∧ ∀ H', Same H H' → Q (oV (partM x y x' y')) H'
section
variable {P : Program} {w : World} {K : PySem.W.Frag} {mg : Str → Option Value} {base : Heap}
theorem isPtQ {f : Addr} {fd : FuncData} {n : Nat} (G : FnOk P w K mg base CX0 n f fd ["value"] (spIsPtR K)) : FnOk P w K mg base CX0 n f fd ["value"] (spIsPtQ K) :=
  G.imp fun vs H Q E ⟨t, x, y, e, h, q⟩ => ⟨t, (x, y), e, h.1, h.2, q H (fun _ _ h => h)⟩
theorem partQ {f : Addr} {fd : FuncData} {n : Nat} (G : FnOk P w K mg base CX0 n f fd ["root", "point"] (spPartR K)) : FnOk P w K mg base CX0 n f fd ["root", "point"] (spPartQ K) :=
  G.imp fun vs H Q E ⟨t, u, x, y, x', y', e, h, h', q⟩ => ⟨t, u, (x, y), (x', y'), e, h.1, h'.1, q H (fun _ _ h => h)⟩
def spChkPsR (K : PySem.W.Frag) : Sp := fun vs H Q _ => ∃ (a : Addr) (qs : Pts), vs = [.ref a] ∧ SeqP H a qs ∧ AllR K H qs ∧ (qs.map (·.2)).Nodup ∧ qs.length ≤ 40 ∧ ∀ H', Same H H' → Q .non H'
theorem ok_chkPsR {f fI : Addr} {fd fdI : FuncData} {tm : Tok} (F : FnP K "check_points" s_check_points f fd) (B : Bt mg) (C : B1 mg) (GI : FnOk P w K mg base CX0 3 fI fdI ["value"] (spIsPtQ K)) (kI : PySem.W.keepIn K (.ref fI) = true) (bI : Binds K fdI ["value"] []) (gI : mg "is_point" = some (.ref fI))
    (gM : mg "MOST_POINTS" = some (.int 500 tm)) : FnOk P w K mg base CX0 4 f fd ["value"] (spChkPsR K) := by
  refine F.ok scChkPs (fun vs H Q E h => ?_) (fun cdv A outer s H vs Q E hr h => ?_)
  · obtain ⟨_, _, rfl, _⟩ := h
    rfl
  · obtain ⟨a, qs, rfl, hs, hp, nd, few, q⟩ := h
    refine ⟨_, pss_cons (ps_if (PW.pt (pw_or (pt_not (pt_val (pe_callB call_isiT (by rfl) B.isi (by decide +kernel) (pa_cons (pv 0) (pa_cons (pe_tup (pa_cons (pe_bltn (v := .ty "list") (by rfl) C.list (by decide +kernel) rfl) (pa_cons (pe_bltn (v := .ty "tuple") (by rfl) B.tuple (by decide +kernel) rfl) pa_nil))) pa_nil)))))
        (pw_or1 (pt_cmpR op_gt (pe_callB call_len_seq (by rfl) B.len PySem.boot_len (pa_cons (pv 0) pa_nil)) (pe_glob (v := .int 500) (by rfl) gM ⟨_, rfl⟩) (nomark _))))) pss_never pss_nil)
      (pss_cons (ps_set (i := 1) scChkPs.nd rfl (.inl rfl) (pe_callTy0 cr_set0T (by rfl) C.set (by decide +kernel)))
      (pss_one (ps_for PassesOwn.never rfl (pi_enumA (by rfl) C.enum (pa_cons (pv 0) pa_nil)) (pg_tup rfl (pgs_cons (pg_name (i := 2) scChkPs.nd rfl (.inl rfl)) (pgs_cons (pg_name (i := 3) scChkPs.nd rfl (.inl rfl)) pgs_nil)))
        (pss_cons (ps_if (PW.pt (pw_or (pt_not (pt_val (pe_call GI hr (by rfl) gI kI bI .nil pass0 (pa_cons (pv 3) pa_nil)))) (pw_or1 (pt_cmpR (op_outT (hu64 hr)) (pv 3) (pv 1) (by with_unfolding_all rfl))))) pss_never pss_nil)
        (pss_one (ps_expr (pe_addT (hu64 hr) (pv 1) (pa_cons (pv 3) pa_nil)))))))), ?_⟩
    refine ⟨_, rfl, (by show 2 ≤ sizeLine; decide), fun tp ntp => ?_⟩
    have s1 : Same H (upd H tp (.tup [.ty "list", .ty "tuple"])) := same_new ntp
    obtain ⟨t, ty, kt⟩ := seq_ty (K := K) (hs.same s1)
    refine ⟨_, tp, _, t, _, true, rfl, upd_same, .cons (.ty "list") (.cons (.ty "tuple") .nil), ty, kt, _, rfl, iteF ?_⟩
    refine ⟨_, rfl, a, _, rfl, (hs.same s1).sq, _, _, rfl, rfl, _, rfl, ?_⟩
    have hlen : (refsOf qs).length = qs.length := List.length_map ..
    rw [hlen, decide_eq_false (show ¬ ((500 : Int) < (qs.length : Nat)) by omega)]
    refine iteF ?_
    refine ⟨rfl, fun S nS => ?_⟩
    have s2 : Same (upd H tp (.tup [.ty "list", .ty "tuple"])) (upd (upd H tp (.tup [.ty "list", .ty "tuple"])) S (SetTO P w S [])) := same_new nS
    have s12 := s1.trans s2
    have hSn : H S = none := same_free s1 nS
    obtain ⟨J, eJ, wk⟩ := enum_of (K := K) (hs.same s12)
    refine ⟨_, rfl, a, _, J, rfl, eJ, for_it wk (fun i σ H3 => ∃ (y2 y3 : Option V) (L : List (Addr × List Int)), σ = [some (.ref a), some (.ref S), y2, y3] ∧ Same H H3 ∧ H3 S = some (SetTO P w S L) ∧ L.Perm ((qs.take i).map kOf)) ?_ ?_ ?_ ?_⟩
    · exact ⟨none, none, [], rfl, s12, upd_same, .nil⟩
    · rintro i σ H3 _ ⟨y2, y3, L, rfl, e3, _, _⟩
      rcases hs with hs | hs
      · rw [e3 _ _ hs, s12 _ _ hs]
      · rw [e3 _ _ hs, s12 _ _ hs]
    · rintro i v σ H3 H4 hi ⟨y2, y3, L, rfl, e3, hS3, pm⟩ ⟨T, vi, ve, rfl, nT, rfl, hvi, hve⟩
      obtain ⟨q0, hq0, rfl⟩ := refs_at hve
      have s4 : Same H3 (upd H3 T (.tup [vi, .ref q0.1])) := same_new nT
      have e4 := e3.trans s4
      have hP : PtInR K (upd H3 T (.tup [vi, .ref q0.1])) q0.1 q0.2.1 q0.2.2 := (hp q0 (List.mem_of_getElem? hq0)).same e4
      refine ⟨T, _, rfl, SqT.of upd_same, rfl, _, _, rfl, _, _, rfl, rfl, ?_⟩
      refine ⟨_, rfl, q0.1, q0.2.1, q0.2.2, rfl, hP, fun H5 e5 => ⟨_, rfl, iteF ?_⟩⟩
      have e45 := e4.trans e5
      have hS5 : H5 S = some (SetTO P w S L) := e5 _ _ (s4 _ _ hS3)
      have hk : SqT K H5 q0.1 (([q0.2.1, q0.2.2] : List Int).map V.int) := (hP.same e5).1
      have hL : ∀ p ∈ L, SqT K H5 p.1 (p.2.map V.int) := fun p hpL => by
        obtain ⟨r, hr2, rfl⟩ := List.mem_map.mp (pm.mem_iff.mp hpL)
        exact ((hp r (List.mem_of_mem_take hr2)).same e45).1
      have out := out_of hq0 nd pm
      refine ⟨_, rfl, _, rfl, q0.1, S, _, L, rfl, rfl, hk, hS5, hL, out, _, rfl, iteF ?_⟩
      have hlL : L.length ≤ 40 := by
        rw [pm.length_eq, List.length_map, List.length_take]
        omega
      refine ⟨_, rfl, ⟨S, L, rfl, hS5, hL⟩, _, rfl, S, q0.1, _, L, rfl, rfl, hS5, hk, hL, out, (by omega), fun L' pm' => ?_⟩
      refine ⟨_, _, L', rfl, same_ex hSn ?_, upd_same, take_next hq0 pm pm'⟩
      intro b o hb hne
      rw [upd_ne hne]
      exact e45 b o hb
    · rintro σ H3 ⟨y2, y3, L, rfl, e3, _, _⟩
      exact q H3 e3
def spRowsR (K : PySem.W.Frag) : Sp := fun vs H Q _ => ∃ (a : Addr) (qs : Pts), vs = [.ref a] ∧ SeqP H a qs ∧ AllR K H qs ∧ (qs.map (·.2)).Nodup ∧ qs.length ≤ 1000 ∧
  ∀ H' R rs M, Same H H' → RowsAt H H' R rs M → M.length = qs.length → Rows4 M qs.length → IT.Rep M qs.length (ITg qs qs.length) → Q (.ref R) H'
/-- what stands in the slots, and in the heap, while points are put in -/
theorem ok_rowsR {f fP : Addr} {fd fdP : FuncData} (F : FnP K "rows_by_steps" s_rows_by_steps f fd) (B : Bt mg) (C : B1 mg) (GP : FnOk P w K mg base CX0 2 fP fdP ["root", "point"] (spPartQ K)) (kP : PySem.W.keepIn K (.ref fP) = true) (bP : Binds K fdP ["root", "point"] []) (gP : mg "part_of" = some (.ref fP)) : FnOk P w K mg base CX0 3 f fd ["points"] (spRowsR K) := by
  refine F.ok scRows (fun vs H Q E h => ?_) (fun cdv A outer s H vs Q E hr h => ?_)
  · obtain ⟨_, _, rfl, _⟩ := h
    rfl
  · obtain ⟨a, qs, rfl, hs, hp, nd, few, q⟩ := h
    refine ⟨_, pss_cons (ps_set (i := 1) scRows.nd rfl (.inl rfl) (pe_callB call_len_seq (by rfl) B.len PySem.boot_len (pa_cons (pv 0) pa_nil)))
      (pss_cons (ps_set (i := 2) scRows.nd rfl (.inl rfl) (pe_lst pa_nil))
      (pss_cons (ps_for PassesOwn.never rfl (pi_enumA (by rfl) C.enum (pa_cons (pv 0) pa_nil)) (pg_tup rfl (pgs_cons (pg_name (i := 3) scRows.nd rfl (.inl rfl)) (pgs_cons (pg_name (i := 4) scRows.nd rfl (.inl rfl)) pgs_nil)))
        (pss_cons (ps_set (i := 5) scRows.nd rfl (.inl rfl) pe_int)
        (pss_cons (ps_while PassesOwn.never (pt_cmpR op_lt (pv 5) (pv 3) (nomark _))
          (pss_cons (ps_set (i := 6) scRows.nd rfl (.inl rfl) (pe_ix ix_list (pv 2) (pv 5) (fun _ _ => rfl)))
          (pss_cons (ps_set (i := 7) scRows.nd rfl (.inl rfl) (pe_call GP hr (by rfl) gP kP bP .nil pass0 (pa_cons (pe_ix ix_seq2 (pv 0) (pv 5) (fun _ _ => rfl)) (pa_cons (pv 4) pa_nil))))
          (pss_one (ps_set (i := 5) scRows.nd rfl (.inl rfl) (pe_ix ix_list (pv 6) (pv 7) (fun _ _ => rfl)))))))
        (pss_cons (ps_if (pt_cmpR op_gt (pv 3) pe_int (nomark _)) (pss_one (ps_asg (pv 3) (pg_sub (pv 6) (pv 7) set_list))) pss_nil)
        (pss_one (ps_expr (pe_bm PySem.F.plainAttrs_list PySem.F.slot_list_append PySem.F.type_list_append mt_append (pv 2) (pa_cons (pe_lst (pa_cons (pv 1) (pa_cons (pv 1) (pa_cons (pv 1) (pa_cons (pv 1) pa_nil))))) pa_nil))))))))
      (pss_one (ps_ret (pv 2))))), ?_⟩
    have hlen : (refsOf qs).length = qs.length := List.length_map ..
    refine ⟨_, rfl, a, _, rfl, hs.sq, ?_⟩
    rw [hlen]
    refine ⟨(by decide), fun R nR => ?_⟩
    have s1 : Same H (upd H R (.lst [])) := same_new nR
    obtain ⟨J, eJ, wk⟩ := enum_of (K := K) (hs.same s1)
    refine ⟨_, rfl, a, _, J, rfl, eJ, for_it wk (fun i σ H3 => ∃ (y3 y4 y5 y6 y7 : Option V) (rs : List Addr) (M : List (List Nat)), σ = [some (.ref a), some (iV qs.length), some (.ref R), y3, y4, y5, y6, y7] ∧ StepI H a R qs i H3 rs M) ?_ ?_ ?_ ?_⟩
    · refine ⟨none, none, none, none, none, [], [], rfl, s1, ⟨upd_same, rfl, fun i r row h => by simp at h, List.nodup_nil, by simp, nR, fun r h => by simp at h⟩, rfl, fun r h => by simp at h, trivial⟩
    · rintro i σ H3 _ ⟨_, _, _, _, _, rs, M, rfl, I⟩
      rcases hs with hs | hs
      · rw [I.same _ _ hs, s1 _ _ hs]
      · rw [I.same _ _ hs, s1 _ _ hs]
    · rintro i v σ H3 H4 hi ⟨y3, y4, y5, y6, y7, rs, M, rfl, I⟩ ⟨T, vi, ve, rfl, nT, rfl, hvi, hve⟩
      obtain ⟨q0, hq0, rfl⟩ := refs_at hve
      cases hvi
      rw [hlen] at hi
      have s4 : Same H3 (upd H3 T (.tup [.int (i : Nat), .ref q0.1])) := same_new nT
      have I4 : StepI H a R qs i (upd H3 T (.tup [.int (i : Nat), .ref q0.1])) rs M := ⟨I.same.trans s4, I.rows.same s4, I.len, I.four, I.rep⟩
      refine ⟨T, _, rfl, SqT.of upd_same, rfl, _, _, rfl, _, _, rfl, rfl, ?_⟩
      generalize upd H3 T (.tup [.int (i : Nat), .ref q0.1]) = H4 at I4 ⊢
      clear I s4 nT
      -- the way down
      obtain ⟨t0, e0, c0⟩ : ∃ t : IT, t.rt qs.length = 0 ∧ (0 < i → t = ITg qs i) := if h : 0 < i then ⟨_, (itg_rt qs _ i h).2, fun _ => rfl⟩ else ⟨.node 0 fun _ => .nil, rfl, fun h' => absurd h' h⟩
      have sq5 : ∀ H5, StepI H a R qs i H5 rs M → SeqP H5 a qs := fun H5 I5 => hs.same I5.same
      refine ⟨WayI H a R qs i q0.1 rs M, ⟨itSz t0, t0, y6, y7, ?_, I4, rfl, fun h => ⟨?_, ?_, ?_, ?_⟩⟩, ?_⟩
      · rw [e0]
        rfl
      · rw [c0 h]
        exact I4.rep
      · rw [c0 h]
        exact fun k hk => itg_mem hk
      · rw [c0 h]
        exact fun _ => rfl
      · rw [c0 h, (itg_rt qs qs.length i h).1]
        exact fun z => nomatch z
      · rintro m σ H5 ⟨t, z6, z7, rfl, I5, hm, c1⟩
        refine ⟨_, rfl, _, rfl, _, _, rfl, rfl, _, rfl, ite2 (fun d => ?_) (fun d => ?_)⟩
        · -- a turn
          have lt : t.rt qs.length < i := by have := of_decide_eq_true d; omega
          have i0 : 0 < i := by omega
          obtain ⟨c2, c3, c4, c5⟩ := c1 i0
          cases t with
          | nil => exact absurd lt (by show ¬ qs.length < i; omega)
          | node k ch =>
            have hk : k < i := lt
            obtain ⟨rk, r2⟩ := c2
            obtain ⟨r, row, hr1, hr2, hr3⟩ := I5.rows.get (i := k) (by rw [I5.len]; exact hk)
            rw [rk] at hr2
            cases hr2
            have hqk : qs[k]? = some qs[k] := List.getElem?_eq_getElem (by omega)
            have e1 : (rs.map V.ref)[k]? = some (V.ref r) := by rw [List.getElem?_map, hr1]; rfl
            refine ⟨fun σ' H' => ∃ m', m' < m ∧ WayI H a R qs i q0.1 rs M m' σ' H', fun _ _ h => h, ?_⟩
            refine ⟨_, rfl, _, rfl, R, _, _, _, rfl, rfl, SqL.of I5.rows.lst, atI_nat (j := k) e1, ?_⟩
            refine ⟨_, rfl, _, rfl, ix_pts (sq5 H5 I5) hqk ⟨_, rfl, qs[k].1, q0.1, qs[k].2.1, qs[k].2.2, q0.2.1, q0.2.2, rfl, (hp _ (List.mem_of_getElem? hqk)).same I5.same, (hp _ (List.mem_of_getElem? hq0)).same I5.same, fun H6 e6 => ?_⟩⟩
            rw [partM_side (pts_ne nd hqk hq0 hk), ← fI_side hqk hq0]
            have I6 : StepI H a R qs i H6 rs M := ⟨I5.same.trans e6, I5.rows.same e6, I5.len, I5.four, I5.rep⟩
            refine ⟨_, rfl, _, rfl, r, _, _, _, rfl, rfl, SqL.of (e6 _ _ hr3), atI_nat (j := (fI qs k i).val) (four_map iV (fun j => (ch j).rt qs.length) (fI qs k i)), ?_⟩
            refine ⟨_, (by rw [← hm]; exact itSz_lt k ch (fI qs k i)), ch (fI qs k i), some (.ref r), some (iV (fI qs k i).val), rfl, I6, rfl, fun _ => ⟨r2 _, fun k' h' => c3 k' (.inr ⟨_, h'⟩), fun nn => ?_, fun nn => ?_⟩⟩
            · rw [← c4 rfl]
              show _ = IT.tgt (fI qs) i (.node k ch)
              unfold IT.tgt
              rw [nn, if_neg (by decide)]
              cases z : ch (fI qs k i) with
              | nil => rw [z] at nn; cases nn
              | node k2 ch2 => rw [IT.tgt]
            · have e2 : IT.tgt (fI qs) i (ITg qs i) = (k, fI qs k i) := by
                rw [← c4 rfl]
                show IT.tgt (fI qs) i (.node k ch) = _
                unfold IT.tgt
                rw [nn, if_pos rfl]
              rw [e2]
              exact ⟨r, hr1, rfl, rfl⟩
        · -- the end of the way
          have ge : i ≤ t.rt qs.length := by
            have := of_decide_eq_false (Bool.eq_false_iff.mpr d)
            omega
          have fin : ∀ (H6 : Hp) (y5 y6 y7 : Option V) (M' : List (List Nat)), Same H H6 → RowsAt H H6 R rs M' → M'.length = i → Rows4 (M' ++ [[qs.length, qs.length, qs.length, qs.length]]) qs.length →
              IT.Rep (M' ++ [[qs.length, qs.length, qs.length, qs.length]]) qs.length (ITg qs (i + 1)) → ∀ l, H6 l = none →
              ∃ (y3 y4 y5' y6' y7' : Option V) (rs' : List Addr) (M'' : List (List Nat)), [some (V.ref a), some (iV qs.length), some (.ref R), some (.int (i : Nat)), some (.ref q0.1), y5, y6, y7] = [some (.ref a), some (iV qs.length), some (.ref R), y3, y4, y5', y6', y7'] ∧
                StepI H a R qs (i + 1) (upd (upd H6 l (.lst ([qs.length, qs.length, qs.length, qs.length].map iV))) R (.lst (rs.map V.ref ++ [V.ref l]))) rs' M'' := by
            intro H6 y5 y6 y7 M' e6 hR hl h4 hrep l nl
            have ln : H l = none := same_free e6 nl
            refine ⟨_, _, _, _, _, rs ++ [l], M' ++ [[qs.length, qs.length, qs.length, qs.length]], rfl, ?_, hR.snoc nl e6, by simp [hl], h4, hrep⟩
            intro b o hb
            rw [upd_ne (ne_of_none hb nR), upd_ne (ne_of_none hb ln)]
            exact e6 b o hb
          have szM : ∀ M' : List (List Nat), M'.length = i → i < sizeLine := fun _ _ => small1000 (by omega)
          by_cases i0 : 0 < i
          · obtain ⟨c2, c3, c4, c5⟩ := c1 i0
            have hnil : t.isNil = true := by
              cases t with
              | nil => rfl
              | node k ch => exact absurd (c3 k (.inl rfl)) (by have : i ≤ k := ge; omega)
            obtain ⟨r, hr1, rfl, rfl⟩ := c5 hnil
            have tm := IT.tgt_mem (f := fI qs) (n := i) (itg_rt qs qs.length i i0).1
            generalize hkp : IT.tgt (fI qs) i (ITg qs i) = kp at hr1 tm
            obtain ⟨k, p⟩ := kp
            have hk : k < i := itg_mem tm
            obtain ⟨r', row, hr1', hr2, hr3⟩ := I5.rows.get (i := k) (by rw [I5.len]; exact hk)
            rw [hr1] at hr1'
            cases hr1'
            obtain ⟨l4, b4⟩ := I5.four row (List.mem_of_getElem? hr2)
            have pl : p.val < (row.map iV).length := by rw [List.length_map, l4]; exact p.isLt
            refine ⟨_, rfl, _, _, rfl, rfl, _, rfl, ?_⟩
            rw [decide_eq_true (show (0 : Int) < (i : Nat) by omega)]
            refine iteT ?_
            refine ⟨_, rfl, _, rfl, _, rfl, r, _, _, p.val, rfl, rfl, hr3, ixN_lt pl, ?_⟩
            have em : (row.map iV).set p.val (.int (i : Nat)) = (row.set p.val i).map iV := by rw [List.map_set]
            rw [em]
            have h0r : H r = none := I5.rows.frs r (List.mem_of_getElem? hr1)
            have R6 : RowsAt H (upd H5 r (.lst ((row.set p.val i).map iV))) R rs (M.set k (row.set p.val i)) := I5.rows.set hr1
            have e6 : Same H (upd H5 r (.lst ((row.set p.val i).map iV))) := fun b o hb => by
              rw [upd_ne (ne_of_none hb h0r)]
              exact I5.same b o hb
            have hl6 : (M.set k (row.set p.val i)).length = i := by rw [List.length_set]; exact I5.len
            have hr4 := rows4_set (p := p) I5.four hr2 (show i ≤ qs.length by omega)
            have hrep : IT.Rep (M.set k (row.set p.val i) ++ [[qs.length, qs.length, qs.length, qs.length]]) qs.length (ITg qs (i + 1)) := by
              rw [itg_succ]
              refine IT.rep_hang ?_ (itg_rt qs qs.length i i0).1 (itg_asc qs i) I5.rep
              rw [hkp]
              exact hung_of I5.len hk hr2
            generalize upd H5 r (.lst ((row.set p.val i).map iV)) = H6 at R6 e6 ⊢
            generalize M.set k (row.set p.val i) = M6 at R6 hl6 hr4 hrep
            refine ⟨_, rfl, .inl ⟨rfl, _, SqL.of R6.lst⟩, _, rfl, _, rfl, _, rfl, _, rfl, (by show 4 ≤ sizeLine; decide), fun l nl => ⟨R, _, _, rfl, rfl, (by rw [upd_ne (ne_of_none R6.lst nl)]; exact R6.lst), (by rw [List.length_map, R6.len]; exact (hl6 ▸ szM M6 hl6)), ?_⟩⟩
            exact fin H6 _ _ _ M6 e6 R6 hl6 hr4 hrep l nl
          · have i0' : i = 0 := by omega
            subst i0'
            refine ⟨_, rfl, _, _, rfl, rfl, _, rfl, iteF ?_⟩
            have hM : M = [] := List.length_eq_zero_iff.mp I5.len
            refine ⟨_, rfl, .inl ⟨rfl, _, SqL.of I5.rows.lst⟩, _, rfl, _, rfl, _, rfl, _, rfl, (by show 4 ≤ sizeLine; decide), fun l nl => ⟨R, _, _, rfl, rfl, (by rw [upd_ne (ne_of_none I5.rows.lst nl)]; exact I5.rows.lst), (by rw [List.length_map, I5.rows.len]; exact (I5.len ▸ szM M I5.len)), ?_⟩⟩
            refine fin H5 _ _ _ M I5.same I5.rows I5.len ?_ ?_ l nl
            · subst hM
              intro row hrow
              rw [List.mem_singleton.mp hrow]
              refine ⟨rfl, fun x hx => ?_⟩
              simp at hx
              omega
            · subst hM
              exact ⟨rfl, fun _ => trivial⟩
    · rintro σ H3 ⟨y3, y4, y5, y6, y7, rs, M, rfl, I⟩
      rw [hlen] at I
      exact ⟨_, rfl, q H3 R rs M I.same I.rows I.len I.four I.rep⟩
def spQoRR (K : PySem.W.Frag) : Sp := fun vs H1 Q _ => ∃ (H : Hp) (a R : Addr) (qs : Pts) (rs : List Addr) (M : List (List Nat)), vs = [.ref a, .ref R, iV qs.length] ∧ Same H H1 ∧ SeqP H a qs ∧ AllR K H qs ∧ qs.length < 32 ∧ RowsAt H H1 R rs M ∧ M.length = qs.length ∧ Rows4 M qs.length ∧ IT.Rep M qs.length (ITg qs qs.length) ∧
  ∀ H' v, Same H H' → Dp K H' v (qD (treeQ (qs.map (·.2)))) → Q v H'
theorem ok_qorR {f : Addr} {fd : FuncData} (F : FnP K "quarter_of_rows" s_quarter_of_rows f fd) (B : Bt mg) (Rv : mg "reversed" = none) : FnOk P w K mg base CX0 1 f fd ["points", "rows", "many"] (spQoRR K) := by
  refine F.ok scQoR (fun vs H1 Q E h => ?_) (fun cdv A outer s H1 vs Q E hr h => ?_)
  · obtain ⟨_, _, _, _, _, _, rfl, _⟩ := h
    rfl
  · obtain ⟨H, a, R, qs, rs, M, rfl, e1, hs, hp, few, hR, hM, h4, hrep, q⟩ := h
    refine ⟨_, pss_cons (ps_set (i := 3) scQoR.nd rfl (.inl rfl) (pe_op op_rep (pe_lst (pa_cons pe_non pa_nil)) (pe_op op_add (pe_callB call_len_seq (by rfl) B.len PySem.boot_len (pa_cons (pv 0) pa_nil)) pe_int)))
      (pss_cons (ps_for PassesOwn.never rfl (pi_revR (by rfl) Rv (prg_1 (by rfl) B.range (pv 2))) (pg_name (i := 4) scQoR.nd rfl (.inl rfl))
        (pss_cons (ps_asg (pe_ix ix_list (pv 1) (pv 4) (fun _ _ => rfl)) (pg_unl rfl (pgs_cons (pg_name (i := 5) scQoR.nd rfl (.inl rfl)) (pgs_cons (pg_name (i := 6) scQoR.nd rfl (.inl rfl)) (pgs_cons (pg_name (i := 7) scQoR.nd rfl (.inl rfl)) (pgs_cons (pg_name (i := 8) scQoR.nd rfl (.inl rfl)) pgs_nil))))))
        (pss_one (ps_asg (pe_tup (pa_cons (pe_ix ix_seq2 (pv 0) (pv 4) (fun _ _ => rfl)) (pa_cons (pe_tup (pa_cons (pe_ix ix_list (pv 3) (pv 5) (fun _ _ => rfl)) (pa_cons (pe_ix ix_list (pv 3) (pv 6) (fun _ _ => rfl)) (pa_cons (pe_ix ix_list (pv 3) (pv 7) (fun _ _ => rfl)) (pa_cons (pe_ix ix_list (pv 3) (pv 8) (fun _ _ => rfl)) pa_nil))))) pa_nil))) (pg_sub (pv 3) (pv 4) set_list)))))
      (pss_one (ps_ret (pe_ix ix_list (pv 3) pe_int (fun _ _ => rfl))))), ?_⟩
    have hlen : (refsOf qs).length = qs.length := List.length_map ..
    have e1s : SeqP H1 a qs := hs.same e1
    refine ⟨(by decide), fun l1 nl1 => ?_⟩
    have s2 : Same H1 (upd H1 l1 (.lst [.non])) := same_new nl1
    refine ⟨_, rfl, a, _, rfl, (e1s.same s2).sq, _, _, rfl, rfl, l1, _, _, rfl, rfl, upd_same, (by rw [hlen]; omega), (by rw [hlen]; omega), (by rw [hlen]; exact small1000 (by simp; omega)), fun L nL => ?_⟩
    have eL : (List.replicate (((refsOf qs).length : Int) + 1).toNat [V.non]).flatten = List.replicate (qs.length + 1) V.non := by
      rw [hlen, show ((qs.length : Nat) : Int) + 1 = ((qs.length + 1 : Nat) : Int) from rfl, Int.toNat_natCast, List.flatten_replicate_singleton]
    rw [eL]
    have s3 : Same (upd H1 l1 (.lst [.non])) (upd (upd H1 l1 (.lst [.non])) L (.lst (List.replicate (qs.length + 1) V.non))) := same_new nL
    have s23 := s2.trans s3
    have e3 := e1.trans s23
    have hR3 := hR.same s23
    have hL3 : (upd (upd H1 l1 (.lst [.non])) L (.lst (List.replicate (qs.length + 1) V.non))) L = some (.lst (List.replicate (qs.length + 1) V.non)) := upd_same
    have LR : L ≠ R := (ne_of_none (s2 _ _ hR.lst) nL).symm
    have Lrs : L ∉ rs := fun z => by
      obtain ⟨i, hi⟩ := List.getElem?_of_mem z
      obtain ⟨hi2, _⟩ := List.getElem?_eq_some_iff.mp hi
      have := s2 _ _ (hR.row i L _ hi (List.getElem?_eq_getElem (by rw [← hR.len]; exact hi2)))
      rw [nL] at this
      cases this
    have L0 : H L = none := same_free e1 (same_free s2 nL)
    generalize upd (upd H1 l1 (.lst [.non])) L (.lst (List.replicate (qs.length + 1) V.non)) = H3 at s23 e3 hR3 hL3 ⊢
    have hasc := itg_asc qs qs.length
    have hmem : ∀ k, IT.Mem k (ITg qs qs.length) → k < qs.length := fun k h => itg_mem h
    refine ⟨_, rfl, _, rfl, (by omega), (by omega), (by omega), (by omega), ?_⟩
    have en : (((qs.length : Nat) : Int) - 0).toNat = qs.length := by omega
    rw [en]
    refine for_it walk_rangeC (fun i σ H4 => ∃ (y3 y4 y5 y6 y7 : Option V) (TR : List V), σ = [some (.ref a), some (.ref R), some (iV qs.length), some (.ref L), y3, y4, y5, y6, y7] ∧ Same H H4 ∧ RowsAt H H4 R rs M ∧ TreesAt K H H4 L TR qs (ITg qs qs.length) (qs.length - i)) ?_ (fun _ _ _ _ _ => trivial) ?_ ?_
    · refine ⟨none, none, none, none, none, _, rfl, e3, hR3, hL3, by rw [List.length_replicate], L0, fun t st ht => ?_⟩
      have : t.isNil = true := by
        cases t with
        | nil => rfl
        | node k ch =>
          have h1 := ht rfl
          have h2 := hmem k (sub_mem st (.inl rfl))
          have h3 : qs.length - 0 ≤ k := h1
          omega
      rw [IT.isNil_eq this]
      exact ⟨.non, by rw [List.getElem?_replicate]; exact if_pos (by show qs.length < qs.length + 1; omega), by unfold QT.ofI qD; exact .non⟩
    · rintro i v σ H5 H4 hi ⟨y3, y4, y5, y6, y7, TR, rfl, e4, hR4, tr⟩ ⟨rfl, hv⟩
      obtain ⟨j, hj⟩ : ∃ j, qs.length = i + 1 + j := ⟨qs.length - (i + 1), by omega⟩
      have ev : v = iV j := by
        rw [hv]
        have z : (0 + (qs.length : Int) - 1 + (i : Int) * (-1) : Int) = (j : Int) := by omega
        exact congrArg V.int z
      subst ev
      have jl : j < qs.length := by omega
      obtain ⟨r, row, hr1, hr2, hr3⟩ := hR4.get (i := j) (by rw [hM]; exact jl)
      obtain ⟨l4, b4⟩ := h4 row (List.mem_of_getElem? hr2)
      obtain ⟨k0, k1, k2, k3, rfl⟩ := four_of l4
      have er : (rs.map V.ref)[j]? = some (V.ref r) := by rw [List.getElem?_map, hr1]; rfl
      have lt : ∀ {k}, k ∈ [k0, k1, k2, k3] → k < TR.length := fun h => by have := b4 _ h; rw [tr.len]; omega
      have g0 : TR[k0]? = some (TR[k0]'(lt (by simp))) := List.getElem?_eq_getElem _
      have g1 : TR[k1]? = some (TR[k1]'(lt (by simp))) := List.getElem?_eq_getElem _
      have g2 : TR[k2]? = some (TR[k2]'(lt (by simp))) := List.getElem?_eq_getElem _
      have g3 : TR[k3]? = some (TR[k3]'(lt (by simp))) := List.getElem?_eq_getElem _
      generalize TR[k0]'(lt (by simp)) = v0 at g0
      generalize TR[k1]'(lt (by simp)) = v1 at g1
      generalize TR[k2]'(lt (by simp)) = v2 at g2
      generalize TR[k3]'(lt (by simp)) = v3 at g3
      have hqj : qs[j]? = some qs[j] := List.getElem?_eq_getElem jl
      have hqin : qs[j] ∈ qs := List.getElem_mem jl
      generalize qs[j] = qj at hqj hqin
      refine ⟨_, rfl, _, rfl, R, _, _, _, rfl, rfl, SqL.of hR4.lst, atI_nat (j := j) er, r, _, rfl, SqL.of hr3, rfl, _, _, rfl, _, _, rfl, _, _, rfl, _, _, rfl, rfl, ?_⟩
      refine ⟨_, rfl, _, rfl, ix_pts (hs.same e4) hqj ?_⟩
      refine ⟨_, rfl, _, rfl, L, _, _, v0, rfl, rfl, SqL.of tr.lst, atI_nat g0, _, rfl, _, rfl, L, _, _, v1, rfl, rfl, SqL.of tr.lst, atI_nat g1, _, rfl, _, rfl, L, _, _, v2, rfl, rfl, SqL.of tr.lst, atI_nat g2, _, rfl, _, rfl, L, _, _, v3, rfl, rfl, SqL.of tr.lst, atI_nat g3, (by show 4 ≤ sizeLine; decide), fun c nc => ?_⟩
      refine ⟨(by show 2 ≤ sizeLine; decide), fun d ndd => ?_⟩
      have s5 : Same H4 (upd H4 c (.tup [v0, v1, v2, v3])) := same_new nc
      have s6 : Same (upd H4 c (.tup [v0, v1, v2, v3])) (upd (upd H4 c (.tup [v0, v1, v2, v3])) d (.tup [.ref qj.1, .ref c])) := same_new ndd
      have s56 := s5.trans s6
      have hL6 := s56 _ _ tr.lst
      have hc6 : (upd (upd H4 c (.tup [v0, v1, v2, v3])) d (.tup [.ref qj.1, .ref c])) c = some (.tup [v0, v1, v2, v3]) := s6 _ _ upd_same
      have hd6 : (upd (upd H4 c (.tup [v0, v1, v2, v3])) d (.tup [.ref qj.1, .ref c])) d = some (.tup [.ref qj.1, .ref c]) := upd_same
      have hR6 := hR4.same s56
      have e6 := e4.trans s56
      refine ⟨_, rfl, _, rfl, L, _, _, j, rfl, rfl, hL6, ixN_lt (by rw [tr.len]; omega), ?_⟩
      clear s5 s6 nc ndd
      generalize upd (upd H4 c (.tup [v0, v1, v2, v3])) d (.tup [.ref qj.1, .ref c]) = H6 at s56 hL6 hc6 hd6 hR6 e6 ⊢
      have st7 : SameT H4 (upd H6 L (.lst (TR.set j (.ref d)))) := (SameT.of s56).trans (SameT.put hL6)
      have e7 : Same H (upd H6 L (.lst (TR.set j (.ref d)))) := fun b o hb => by
        rw [upd_ne (ne_of_none hb L0)]
        exact e6 b o hb
      have hc7 : SqT K (upd H6 L (.lst (TR.set j (.ref d)))) c [v0, v1, v2, v3] := SqT.of (by rw [upd_ne (ne_of hc6 hL6 (by intro z; cases z))]; exact hc6)
      have hd7 : SqT K (upd H6 L (.lst (TR.set j (.ref d)))) d [.ref qj.1, .ref c] := SqT.of (by rw [upd_ne (ne_of hd6 hL6 (by intro z; cases z))]; exact hd6)
      have hq7 : PtR K (upd H6 L (.lst (TR.set j (.ref d)))) qj.1 qj.2 := ((hp qj hqin).same e7).1
      refine ⟨_, _, _, _, _, TR.set j (.ref d), rfl, e7, hR6.other LR Lrs, upd_same, by rw [List.length_set]; exact tr.len, L0, fun t st nn => ?_⟩
      have old : t.rt qs.length ≠ j → (t.isNil = false → qs.length - i ≤ t.rt qs.length) → ∃ v, (TR.set j (.ref d))[t.rt qs.length]? = some v ∧ Dp K (upd H6 L (.lst (TR.set j (.ref d)))) v (qD (QT.ofI (pI qs) t)) := fun ne hh => by
        obtain ⟨v, h1, h2⟩ := tr.got t st hh
        exact ⟨v, by rw [List.getElem?_set_ne (fun z => ne z.symm)]; exact h1, dpQ_sameT st7 h2⟩
      cases t with
      | nil => exact old (by show qs.length ≠ j; omega) (fun z => nomatch z)
      | node k ch =>
        have hk : qs.length - (i + 1) ≤ k := nn rfl
        by_cases e : k = j
        · subst e
          have hrep' := (sub_rep st hrep).1
          rw [hr2] at hrep'
          have hrow := Option.some.inj hrep'
          have as := (sub_asc st hasc).1
          have child : ∀ p : Fin 4, ∃ v, TR[(ch p).rt qs.length]? = some v ∧ Dp K (upd H6 L (.lst (TR.set k (.ref d)))) v (qD (QT.ofI (pI qs) (ch p))) := fun p => by
            obtain ⟨v, h1, h2⟩ := tr.got (ch p) (sub_child st) fun z => by
              have := as p _ (IT.rt_mem (m := qs.length) z)
              omega
            exact ⟨v, h1, dpQ_sameT st7 h2⟩
          injection hrow with q0 hrow
          injection hrow with q1 hrow
          injection hrow with q2 hrow
          injection hrow with q3 hrow
          have c0 := child 0
          have c1 := child 1
          have c2 := child 2
          have c3 := child 3
          rw [← q0, g0] at c0
          rw [← q1, g1] at c1
          rw [← q2, g2] at c2
          rw [← q3, g3] at c3
          obtain ⟨_, z0, d0⟩ := c0
          obtain ⟨_, z1, d1⟩ := c1
          obtain ⟨_, z2, d2⟩ := c2
          obtain ⟨_, z3, d3⟩ := c3
          cases z0
          cases z1
          cases z2
          cases z3
          refine ⟨.ref d, List.getElem?_set_self (by rw [tr.len]; omega), ?_⟩
          have ep : pI qs k = qj.2 := by
            unfold pI
            rw [List.getD_eq_getElem?_getD, List.getElem?_map, hqj]
            rfl
          show Dp K _ _ (qD (.node (pI qs k) fun j => QT.ofI (pI qs) (ch j)))
          rw [ep]
          exact dp_mk hd7 hq7 hc7 d0 d1 d2 d3
        · exact old e (fun _ => by show qs.length - i ≤ k; omega)
    · rintro σ H4 ⟨y3, y4, y5, y6, y7, TR, rfl, e4, hR4, tr⟩
      have root : (ITg qs qs.length).rt qs.length = 0 := by
        rcases Nat.eq_zero_or_pos qs.length with z | z
        · rw [z]
          rfl
        · exact (itg_rt qs _ _ z).2
      obtain ⟨v, h1, h2⟩ := tr.got _ (sub_refl _) fun _ => by omega
      rw [root] at h1
      rw [ofI_itg] at h2
      exact ⟨_, rfl, L, _, 0, v, rfl, rfl, SqL.of tr.lst, atI_nat (j := 0) h1, q H4 v e4 h2⟩
def spGrownR (K : PySem.W.Frag) : Sp := fun vs H Q _ => ∃ (a : Addr) (qs : Pts), vs = [.ref a] ∧ SeqP H a qs ∧ AllR K H qs ∧ (qs.map (·.2)).Nodup ∧ qs.length < 32 ∧
  ∀ H' v, Same H H' → Dp K H' v (qD (treeQ (qs.map (·.2)))) → Q v H'
theorem ok_grownR {f fR fQ : Addr} {fd fdR fdQ : FuncData} {tm : Tok} (F : FnP K "grown" s_grown f fd) (B : Bt mg) (GR : FnOk P w K mg base CX0 3 fR fdR ["points"] (spRowsR K)) (kR : PySem.W.keepIn K (.ref fR) = true) (bR : Binds K fdR ["points"] []) (gR : mg "rows_by_steps" = some (.ref fR))
    (GQ : FnOk P w K mg base CX0 1 fQ fdQ ["points", "rows", "many"] (spQoRR K)) (kQ : PySem.W.keepIn K (.ref fQ) = true) (bQ : Binds K fdQ ["points", "rows", "many"] []) (gQ : mg "quarter_of_rows" = some (.ref fQ))
    (gM : mg "MANY_POINTS" = some (.int 32 tm)) : FnOk P w K mg base CX0 4 f fd ["points"] (spGrownR K) := by
  refine F.ok scGrown (fun vs H Q E h => ?_) (fun cdv A outer s H vs Q E hr h => ?_)
  · obtain ⟨_, _, rfl, _⟩ := h
    rfl
  · obtain ⟨a, qs, rfl, hs, hp, nd, few, q⟩ := h
    refine ⟨_, pss_cons (ps_set (i := 1) scGrown.nd rfl (.inl rfl) (pe_ifExp (pt_cmpR op_lt (pe_callB call_len_seq (by rfl) B.len PySem.boot_len (pa_cons (pv 0) pa_nil)) (pe_glob (v := .int 32) (by rfl) gM ⟨_, rfl⟩) (nomark _)) (pe_call GR hr (by rfl) gR kR bR .nil pass0 (pa_cons (pv 0) pa_nil)) pe_never))
      (pss_one (ps_ret (pe_call GQ (hr.mono (by decide)) (by rfl) gQ kQ bQ .nil pass0 (pa_cons (pv 0) (pa_cons (pv 1) (pa_cons (pe_callB call_len_seq (by rfl) B.len PySem.boot_len (pa_cons (pv 0) pa_nil)) pa_nil)))))), ?_⟩
    have hlen : (refsOf qs).length = qs.length := List.length_map ..
    refine ⟨_, rfl, a, _, rfl, hs.sq, _, _, rfl, rfl, _, rfl, ?_⟩
    rw [hlen, decide_eq_true (show ((qs.length : Nat) : Int) < 32 by omega)]
    refine iteT ⟨_, rfl, a, qs, rfl, hs, hp, nd, by omega, fun H1 R rs M e1 hR hM h4 hrep => ?_⟩
    refine ⟨_, rfl, _, rfl, _, rfl, a, _, rfl, (hs.same e1).sq, H, a, R, qs, rs, M, (by rw [hlen]; rfl), e1, hs, hp, few, hR, hM, h4, hrep, q⟩
theorem ok_builtR {f fC fG : Addr} {fd fdC fdG : FuncData} (F : FnP K "built" s_built f fd) (GC : FnOk P w K mg base CX0 4 fC fdC ["value"] (spChkPsR K)) (kC : PySem.W.keepIn K (.ref fC) = true) (bC : Binds K fdC ["value"] []) (gC : mg "check_points" = some (.ref fC))
    (GG : FnOk P w K mg base CX0 4 fG fdG ["points"] (spGrownR K)) (kG : PySem.W.keepIn K (.ref fG) = true) (bG : Binds K fdG ["points"] []) (gG : mg "grown" = some (.ref fG)) : FnOk P w K mg base CX0 5 f fd ["points"] (spGrownR K) := by
  refine F.ok scBuilt (fun vs H Q E h => ?_) (fun cdv A outer s H vs Q E hr h => ?_)
  · obtain ⟨_, _, rfl, _⟩ := h
    rfl
  · obtain ⟨a, qs, rfl, hs, hp, nd, few, q⟩ := h
    refine ⟨_, pss_cons (ps_expr (pe_call GC hr (by rfl) gC kC bC .nil pass0 (pa_cons (pv 0) pa_nil))) (pss_one (ps_ret (pe_call GG hr (by rfl) gG kG bG .nil pass0 (pa_cons (pv 0) pa_nil)))), ?_⟩
    exact ⟨_, rfl, a, qs, rfl, hs, hp, nd, by omega, fun H1 e1 => ⟨_, rfl, a, qs, rfl, hs.same e1, hp.same e1, nd, few, fun H' v e2 d => q H' v (e1.trans e2) d⟩⟩
end
end Q2

namespace Q2
open PySem PySem.Spec PyProof.Rows L2
theorem ix_tupL {X : Cx} {K : PySem.W.Frag} (hK : X.K = K) : IxR X (rIxT K) := by
  subst hK
  exact ix_tup
theorem pe_imp {X : Cx} {e : Expr} {t t' : TE} (h : PE X e t) (hi : ∀ σ H Q, t' σ H Q → t σ H Q) : PE X e t' := ⟨fun pins s σ H Q I hw => h.run pins s σ H Q I (hi _ _ _ hw)⟩
theorem ps_imp {X : Cx} {st : Stmt} {t t' : TS} (h : PS X st t) (hi : ∀ D σ H, t' D σ H → t D σ H) : PS X st t' := ⟨fun pins s σ H D I hw => h.run pins s σ H D I (hi _ _ _ hw)⟩
/-- [] if x is None else [x], x in slot i -/
def tNoneL (i : Nat) : TE := fun σ H Q => ∃ v, σ[i]? = some (some v) ∧ ∀ p, H p = none → Q (.ref p) (upd H p (.lst (if v = .non then [] else [v])))
theorem noneL_ok (σ : L2.St) (H : Hp) (Q : VK) (h : tNoneL 0 σ H Q) : tIf (tTest (tIsN (tVar 0))) (tLst tNil) (tLst (tCons (tVar 0) tNil)) σ H Q := by
  obtain ⟨v, hv, h⟩ := h
  refine ⟨v, hv, _, rfl, ?_⟩
  by_cases e : v = .non
  · rw [decide_eq_true e]
    refine iteT ⟨(by show 0 ≤ sizeLine; decide), fun p np => ?_⟩
    have := h p np
    rw [if_pos e] at this
    exact this
  · rw [decide_eq_false e]
    refine iteF ⟨v, hv, (by show 1 ≤ sizeLine; decide), fun p np => ?_⟩
    have := h p np
    rw [if_neg e] at this
    exact this
def TOk (t : QT) : Prop := InK t K31 ∧ BdQ t ∧ t.size ≤ 500
theorem filter_sum {α : Type} (g : α → Bool) (h : α → Nat) : ∀ l : List α, ((l.filter g).map h).sum ≤ (l.map h).sum
  | [] => Nat.le_refl _
  | a :: l => by
    have ih := filter_sum g h l
    rw [List.filter_cons]
    split
    · simp only [List.map_cons, List.sum_cons]
      omega
    · simp only [List.map_cons, List.sum_cons]
      omega
/-- points in a list, read -/
def PsAt (K : PySem.W.Frag) (H : Hp) (l : Addr) (qs : Pts) : Prop := H l = some (.lst (refsOf qs)) ∧ ∀ q ∈ qs, PtR K H q.1 q.2
abbrev VPile := List (V × QT)
def vsum (es : VPile) : Nat := (es.map fun e => 5 * e.2.size + 1).sum
def qsz (es : VPile) : Nat := (es.map fun e => e.2.size).sum
theorem vsum_eq : ∀ es : VPile, vsum es = 5 * qsz es + es.length
  | [] => rfl
  | e :: es => by
    have ih := vsum_eq es
    unfold vsum qsz at *
    simp only [List.map_cons, List.sum_cons, List.length_cons]
    omega
theorem qsz_app (es fs : VPile) : qsz (es ++ fs) = qsz es + qsz fs := by
  unfold qsz
  simp
theorem qsz_snd (es : VPile) : qsz es = ((es.map (·.2)).map QT.size).sum := by
  unfold qsz
  rw [List.map_map]
  rfl
theorem PsAt.keep {K : PySem.W.Frag} {H H' : Hp} {l : Addr} {qs : Pts} (h : PsAt K H l qs) (s : SameT H H') (e : H' l = H l) : PsAt K H' l qs := ⟨by rw [e]; exact h.1, fun q hq => SqT.sameT s (h.2 q hq)⟩
theorem mem_cut {xs : List V} {lo hi : Option Int} {v : V} (h : v ∈ cutV xs lo hi) : v ∈ xs := List.mem_of_mem_drop (List.mem_of_mem_take h)
theorem cells_int {ns : List Int} {lo hi : Option Int} {i : Nat} {v : V} (h : (cutV (ns.map V.int ++ [V.int 0]) lo hi)[i]? = some v) : ∃ n : Int, v = .int n := by
  have h1 := mem_cut (List.mem_of_getElem? h)
  rcases List.mem_append.mp h1 with h2 | h2
  · obtain ⟨n, _, rfl⟩ := List.mem_map.mp h2
    exact ⟨n, rfl⟩
  · exact ⟨0, List.mem_singleton.mp h2⟩
theorem tree_ok {H : Hp} {qs : Pts} (hp : AllP H qs) (nd : (qs.map (·.2)).Nodup) (few : qs.length ≤ 31) : TOk (treeQ (qs.map (·.2))) ∧ (treeQ (qs.map (·.2))).ht ≤ qs.length ∧ (treeQ (qs.map (·.2))).size ≤ qs.length := by
  have hb : ∀ q ∈ qs.map (·.2), PtB q := fun q hq => by
    obtain ⟨r, hr, rfl⟩ := List.mem_map.mp hq
    exact (hp r hr).2
  have hl : (qs.map (·.2)).length = qs.length := List.length_map ..
  have hs := size_grow (f := sideF) (qs.map (·.2)).length (qs.map (·.2))
  have hh := QT.grow_ht (f := sideF) (qs.map (·.2)).length (qs.map (·.2))
  unfold treeQ
  exact ⟨⟨inK_grow _ _ _ nd fun q hq => k31_has (hb q hq), bd_grow _ _ hb, by omega⟩, by omega, by omega⟩
theorem sameT_ex {s : Addr} {H H' : Hp} (hs : Src H s) (e : Ex s H H') : SameT H H' := fun a xs h => by
  obtain ⟨x, y, z, _, hs⟩ := hs
  rcases h with h | ⟨o, h⟩
  · exact .inl (e _ _ h (ne_of h hs (by intro z; cases z)))
  · exact .inr ⟨o, e _ _ h (ne_of h hs (by intro z; cases z))⟩
theorem ptsD_refl (zs : List (Int × Int)) : PyData.eqv (.list (zs.map ptD)) (.list (zs.map ptD)) = true := by
  have h : ∀ zs : List (Int × Int), PyData.eqvAll (zs.map ptD) (zs.map ptD) = true := fun zs => by
    induction zs with
    | nil => simp [PyData.eqvAll]
    | cons z zs ih => simp [PyData.eqvAll, ptD_refl z, ih]
  simp only [PyData.eqv]
  exact h zs
theorem two_refl (xs ys : List (Int × Int)) : PyData.eqv (.tuple [.list (xs.map ptD), .list (ys.map ptD)]) (.tuple [.list (xs.map ptD), .list (ys.map ptD)]) = true := by
  have h1 := ptsD_refl xs
  have h2 := ptsD_refl ys
  rw [PyData.eqv, PyData.eqvAll, PyData.eqvAll, PyData.eqvAll, h1, h2]
  rfl
theorem two_shaped (xs ys : List (Int × Int)) : SeqAt.shaped (.tuple [.list (xs.map ptD), .list (ys.map ptD)]) = true := by
  have h1 := ptDs_lay xs
  have h2 := ptDs_lay ys
  have d1 := ptDs_depth xs
  have d2 := ptDs_depth ys
  show ((PyData.tuple [.list (xs.map ptD), .list (ys.map ptD)]).canLay0 && decide ((PyData.tuple [.list (xs.map ptD), .list (ys.map ptD)]).depth ≤ 64)) = true
  rw [Bool.and_eq_true]
  refine ⟨?_, decide_eq_true ?_⟩
  · simp only [PyData.canLay0, PyData.canLayAll0, h1, h2]
    rfl
  · simp only [PyData.depth, PyData.depthAll]
    omega
theorem dp_ps {K : PySem.W.Frag} {H : Hp} {l : Addr} {qs : Pts} (h : PsAt K H l qs) : Dp K H (.ref l) (.list ((qs.map (·.2)).map ptD)) := by
  refine .lst (SqL.of h.1) ?_
  have h2 := h.2
  clear h
  induction qs with
  | nil => exact .nil
  | cons q qs ih => exact .cons (.tup (h2 q (List.mem_cons_self ..)) (.cons (.int _) (.cons (.int _) .nil))) (ih fun x hx => h2 x (List.mem_cons_of_mem _ hx))
theorem dp_two {K : PySem.W.Frag} {H : Hp} {r f1 f2 : Addr} {fq vq : Pts} {xs ys : List (Int × Int)} (hr : SqT K H r [.ref f1, .ref f2]) (h1 : PsAt K H f1 fq) (h2 : PsAt K H f2 vq) (e1 : fq.map (·.2) = xs) (e2 : vq.map (·.2) = ys) : Dp K H (.ref r) (.tuple [.list (xs.map ptD), .list (ys.map ptD)]) := by
  subst e1 e2
  exact .tup hr (.cons (dp_ps h1) (.cons (dp_ps h2) .nil))
theorem PsAt.same {K : PySem.W.Frag} {H H' : Hp} {l : Addr} {qs : Pts} (h : PsAt K H l qs) (e : Same H H') : PsAt K H' l qs := ⟨e _ _ h.1, fun q hq => SqT.same e (h.2 q hq)⟩
end Q2

namespace Q2
open PySem PySem.Spec PyProof.Rows L2
/-! ### t[::-1] of four, and a list extended by a tuple -/
section
variable {prog : Program} {w : World} {A : Around} {E : Value → Shared → Prop} {s : Shared}
theorem sliceApplied_rev4 {sl : Addr} {tk : Tok} {Q : Int × Int × Nat → Shared → Prop} (hs : s.heap.IsSliceOf sl .none .none (.int (-1) tk)) (h : Q (3, -1, 4) s) :
    wpAny (model prog w) A (Builtin.Slice.sliceApplied (.ref sl) (pure ((4 : Nat) : Int))) Q E s := by
  obtain ⟨os, hos, hcs, hds⟩ := id hs
  unfold Builtin.Slice.sliceApplied Builtin.Slice.sliceFields
  refine wpAny_bind (wpAny_bind (wpAny_field hos hds (x := .none) rfl (wpAny_bind (wpAny_field hos hds (x := .none) rfl (wpAny_bind (wpAny_field hos hds (x := .int (-1) tk) rfl (wpAny_pure ?_)))))))
  refine wpAny_bind (slicePart_int ?_)
  show wpAny _ _ (if ((-1 : Int) == 0) = true then _ else _) _ _ s
  rw [if_neg (by decide)]
  refine wpAny_bind (slicePart_none (wpAny_bind (slicePart_none (wpAny_bind (wpAny_pure ?_)))))
  show wpAny _ _ (match Builtin.Slice.sliceAdjust none none (-1) ((4 : Nat) : Int) with | (lo, hi) => pure (lo, (-1 : Int), Builtin.Slice.slicePlaces lo hi (-1))) _ _ s
  rw [show Builtin.Slice.sliceAdjust none none (-1) ((4 : Nat) : Int) = (3, -1) by decide]
  show wpAny _ _ (pure ((3 : Int), (-1 : Int), Builtin.Slice.slicePlaces 3 (-1) (-1))) _ _ s
  rw [show Builtin.Slice.slicePlaces 3 (-1) (-1) = 4 by decide]
  exact wpAny_pure h
theorem getItem_tuple_rev4 {t sl : Addr} {u v x y : Value} {tk : Tok} {Q : Value → Shared → Prop} (ht : IsTup s.heap t #[u, v, x, y]) (hs : s.heap.IsSliceOf sl .none .none (.int (-1) tk))
    (h : Q (.ref s.heap.objs.size) { s with heap := s.heap.push { cls := .type "tuple", data := .seq #[y, x, v, u] } }) : wpAny (model prog w) A (getItem (.ref t) (.ref sl)) Q E s := by
  have hdrop : sizeOk (.seq #[y, x, v, u]) := by
    show 4 ≤ sizeLine
    decide
  obtain ⟨os, hos, hcs, hds⟩ := id hs
  have hTs : s.TypeIs (.ref sl) "slice" := ⟨os, hos, hcs⟩
  unfold getItem
  try with_reducible refine wpAny_holding ?_
  first | refine wpAny_bind (wpAny_pure ?_) | skip
  refine wpAny_bind (wpAny_sequenceKey ht.typeIs (by decide) ?_)
  refine wpAny_bind (wpAny_callSpecial?_slot (name := Str.ofString "__getitem__") ht.typeIs PyProof.Rows.slot_tuple_getitem
    (wpAny_call_entry PyProof.Rows.slot_tuple_getitem ht.typeIs entry_tuple_getitem ?_ (args_tuple_getitem _ _)))
  show wpAny _ _ (Builtin.Tuple.tupleItemsOf (.ref t) >>= _) _ _ s
  refine wpAny_bind (tupleItemsOf_ ht ?_)
  refine wpAny_bind (wpAny_typeOf hTs ?_)
  rw [if_pos (by decide)]
  refine wpAny_bind (sliceApplied_rev4 hs ?_)
  show wpAny _ _ (if ((3 : Int) == 0 && (-1 : Int) == 1 && (4 : Nat) == 4) = true then _ else _) _ _ s
  rw [if_neg (by decide)]
  have pick : ((List.range 4).filterMap fun (k : Nat) => (#[u, v, x, y] : Array Value)[((3 : Int) + (k : Int) * (-1)).toNat]?).toArray = #[y, x, v, u] := rfl
  rw [pick]
  first
    | exact wpAny_bind (m := Builtin.Tuple.tupleExact _) (wpAny_newObj_type (wpAny_pure ⟨_, rfl, wpAny_pure h⟩) hdrop)
    | exact wpAny_bind (m := Builtin.Tuple.tupleExact _) (wpAny_newObj_type (wpAny_bind (wpAny_pure (wpAny_pure ⟨_, rfl, wpAny_pure h⟩))) hdrop)
    | exact wpAny_bind (wpAny_bind (m := Builtin.Tuple.tupleExact _) (wpAny_newObj_type (wpAny_pure (wpAny_pure ⟨_, rfl, wpAny_pure h⟩)) hdrop))
    | exact wpAny_bind (wpAny_bind (m := Builtin.Tuple.tupleExact _) (wpAny_newObj_type (wpAny_pure ⟨_, rfl, wpAny_pure h⟩) hdrop))
end
section
variable {X : Cx}
def tRev4 (K : PySem.W.Frag) (te : TE) : TE := fun σ H Q => te σ H fun x H1 => ∃ a v0 v1 v2 v3, x = .ref a ∧ SqT K H1 a [v0, v1, v2, v3] ∧ ∀ r, H1 r = none → Q (.ref r) (upd H1 r (.tup [v3, v2, v1, v0]))
theorem pe_rev4 {e : Expr} {te : TE} {k : Nat} {p1 p2 p3 pos : Pos} (he : PE X e te) : PE X (.Subscript e (.Slice none none (some (.UnaryOp .USub (.Constant (.int 1) k p1) p2)) p3) pos) (tRev4 X.K te) := by
  refine ⟨fun pins s σ H Q I h => ?_⟩
  refine Subscript_ (thn (he.run pins s σ H _ I h) fun v s1 ⟨x, H1, I1, r1, q1⟩ => ?_)
  obtain ⟨a, x0, x1, x2, x3, ex, hx, q⟩ := q1
  subst ex
  cases r1
  have hst : PO X (some (.UnaryOp .USub (.Constant (.int 1) k p1) p2)) (tPart (tUn (rU fun i => .int (-i)) (tC (.int 1)))) := po_some (pe_un un_neg pe_int)
  refine wpAny_Slice (thn (po_none.run pins s1 σ H1 (fun o H2 => o = none ∧ H2 = H1) I1 ⟨rfl, rfl⟩) fun vl s2 ⟨l, H2, I2, pl, el, e2⟩ => ?_)
  subst el e2
  refine thn (po_none.run pins s2 σ H2 (fun o H3 => o = none ∧ H3 = H2) I2 ⟨rfl, rfl⟩) fun vu s3 ⟨u, H3, I3, pu, eu, e3⟩ => ?_
  subst eu e3
  refine thn (hst.run pins s3 σ H3 (fun o H4 => o = some (-1) ∧ H4 = H3) I3 ⟨1, rfl, -1, rfl, rfl, rfl⟩) fun vs s4 ⟨o, H4, I4, ps, eo, e4⟩ => ?_
  subst eo e4
  have I5 : Inv X pins σ H4 { s4 with heap := s4.heap.push { cls := .type "slice", data := .fields #[vl, vu, vs] } } := I4.kept (t' := s4.toks) fun b ob q => Heap.get?_push_of_some _ q
  obtain ⟨its, r, ht, hz⟩ := I5.tuple hx
  cases pl
  cases pu
  cases ps
  cases r with
  | cons r1 rr =>
    rename_i u1 us
    cases rr with
    | cons r2 rr =>
      rename_i u2 us
      cases rr with
      | cons r3 rr =>
        rename_i u3 us
        cases rr with
        | cons r4 rr =>
          rename_i u4 us
          cases rr
          show wpAny (model X.prog X.w) X.A (subscriptTail e (.Slice none none (some (.UnaryOp .USub (.Constant (.int 1) k p1) p2)) p3) (.ref a) (.ref s4.heap.objs.size)) (EP X pins σ Q) X.xe { s4 with heap := s4.heap.push { cls := .type "slice", data := .fields #[.none, .none, _] } }
          refine tail_any (ops := [.ref a, .ref s4.heap.objs.size]) ht.typeIs (PyProof.Rows.slot_tuple_getitem.lookup) ?_ (by with_unfolding_all rfl)
          refine getItem_tuple_rev4 (u := u1) (v := u2) (x := u3) (y := u4) ht (Heap.IsSliceOf.new _ .none .none _) ?_
          refine ⟨.ref _, _, I5.laid (t' := s4.toks) (o := .tup [x3, x2, x1, x0]) (fun b ob q => Heap.get?_push_of_some _ q) (Nat.le_refl _) ?_, rfl, q _ (I5.hok.fresh (Nat.le_refl _))⟩
          exact ⟨by show 4 ≤ sizeLine; decide, [u4, u3, u2, u1], .cons r4 (.cons r3 (.cons r2 (.cons r1 .nil))), IsTup.new _ _⟩
theorem list_extend_tupleAt (l : Addr) (items : Array Value) (n : Nat) (b : Addr) (items2 : Array Value) (n2 : Nat) (dd2 : Option Addr) (sl2 : Array (Option Value)) (hs0 : ¬(!items.isEmpty && Builtin.List.listTooLong (items.size + items2.size)) = true) (hs1 : items.size ≤ sizeLine) (hs2 : items.size + items2.size ≤ sizeLine + 1) :
    Meets (Builtin.«list.extend» ⟨[.ref l, .ref b], []⟩) (fun _ R s => s.heap.get? l = some { cls := .type "list", dict := none, data := .seq items n, slots := #[] } ∧ s.heap.get? b = some { cls := .type "tuple", dict := dd2, data := .seq items2 n2, slots := sl2 } ∧ R (.ok (.ret Value.none)) { s with heap := s.heap.update l (Obj.mapSeq fun x => x ++ items2), toks := s.toks }) :=
  .of_wp fun prog w A R s h => by
    obtain ⟨hp, g, d, tk, os⟩ := s
    obtain ⟨hl, hb, h⟩ := h
    have f1 := AutoSeq1.idx_int
    have f2 := AutoSeq1.sub_tuple_tuple
    have f3 := AutoSeq1.sub_list_list
    have f4 := AutoSeq1.sub_tuple_list
    have f5 := AutoSeq1.sub_list_tuple
    have hz' : (items ++ items2).size ≤ sizeLine + 1 := by rw [Array.size_append]; exact hs2
    wp_walk using (wpAny_updateSeq hl rfl (hz := hs1) (_hz' := hz')), AutoSeq1.wpAny_loadPart' hl, AutoSeq1.wpAny_loadPart' hb
    exact ⟨_, rfl, h⟩
def rExtendT (K : PySem.W.Frag) : V → List V → Hp → VK → Prop := fun x vs H Q => ∃ l b xs zs, x = .ref l ∧ vs = [.ref b] ∧ H l = some (.lst xs) ∧ SqT K H b zs ∧ xs.length + zs.length ≤ sizeLine ∧ Q .non (upd H l (.lst (xs ++ zs)))
theorem mt_extendT : MtM X "list.extend" (rExtendT X.K) := by
  intro pins s σ H x vs v us Q I rx rv h
  obtain ⟨l, b, xs, zs, rfl, rfl, hH, hB, hz, q⟩ := h
  cases rx
  obtain ⟨u, rfl, ru⟩ := rv.one
  cases ru
  obtain ⟨z, its, n, r, hl, e⟩ := I.lstM hH
  obtain ⟨its2, r2, p2, hz2⟩ := I.tuple hB
  obtain ⟨⟨cls2, dd2, data2, sl2⟩, ho2, hc2, n2, hd2⟩ := id p2
  simp only at hc2 hd2
  subst hc2 hd2
  have h1 := r.length
  have h2 := r2.length
  have hsz : its.toArray.size + its2.toArray.size ≤ sizeLine := by rw [List.size_toArray, List.size_toArray]; omega
  have hlong : ¬ (!its.toArray.isEmpty && Builtin.List.listTooLong (its.toArray.size + its2.toArray.size)) = true := by
    rw [notLongL hsz, Bool.and_false]
    exact Bool.false_ne_true
  refine call_meets F.slot_list_extend ⟨_, e, rfl⟩ F.entry_list_extend (F.args_list_extend_2 _ _)
    (list_extend_tupleAt l its.toArray n b its2.toArray n2 dd2 sl2 hlong (by rw [List.size_toArray]; omega) (by omega)) ⟨e, ho2, ?_⟩
  refine ⟨.non, _, I.lset (its' := its ++ its2) hH e (by simp) (r.append r2) ?_, rfl, q⟩
  rw [List.length_append]
  omega
end
end Q2

namespace Q2
open PySem PySem.Spec PyProof.Rows L2
/-! ### points in reading order -/
def ptsQ : QT → List (Int × Int)
  | .nil => []
  | .node p ch => p :: (ptsQ (ch 0) ++ (ptsQ (ch 1) ++ (ptsQ (ch 2) ++ ptsQ (ch 3))))
theorem ptsQ_len : ∀ T : QT, (ptsQ T).length = T.size
  | .nil => rfl
  | .node p ch => by
    have h0 := ptsQ_len (ch 0)
    have h1 := ptsQ_len (ch 1)
    have h2 := ptsQ_len (ch 2)
    have h3 := ptsQ_len (ch 3)
    simp only [ptsQ, QT.size, List.length_cons, List.length_append]
    omega
theorem ltK_le {a b : Int × Int} (h : ltK a b = true) : a.1 ≤ b.1 := by
  have := of_decide_eq_true h
  omega
theorem ltK_trans {a b c : Int × Int} (h : ltK a b = true) (h2 : ltK b c = true) : ltK a c = true := by
  have h1 := of_decide_eq_true h
  have h3 := of_decide_eq_true h2
  exact decide_eq_true (by omega)
theorem nar_has {k : Ks} {p q : Int × Int} {j : Fin 4} (hp : k.has p) (h : (k.nar p j).has q) : k.has q := by
  obtain ⟨a, b, c, d⟩ := hp
  unfold Ks.has Ks.nar at h
  obtain ⟨e, f, g, i⟩ := h
  refine ⟨?_, ?_, ?_, ?_⟩
  · cases z : isHi j with
    | true => rw [z] at e; exact ltK_trans a e
    | false => rw [z] at e; exact e
  · cases z : isHi j with
    | true => rw [z] at f; exact f
    | false => rw [z] at f; exact ltK_trans f b
  · cases z : isUp j with
    | true => rw [z] at g; exact ltK_trans c g
    | false => rw [z] at g; exact g
  · cases z : isUp j with
    | true => rw [z] at i; exact i
    | false => rw [z] at i; exact ltK_trans i d
theorem all_has : ∀ {T : QT} {k : Ks}, InK T k → ∀ q ∈ ptsQ T, k.has q
  | .nil, _, _, q, h => by simp [ptsQ] at h
  | .node p ch, k, hk, q, h => by
    obtain ⟨hp, hc⟩ := hk
    simp only [ptsQ, List.mem_cons, List.mem_append] at h
    rcases h with rfl | h | h | h | h
    · exact hp
    · exact nar_has hp (all_has (hc 0) q h)
    · exact nar_has hp (all_has (hc 1) q h)
    · exact nar_has hp (all_has (hc 2) q h)
    · exact nar_has hp (all_has (hc 3) q h)
/-- a node, its point's address, its point -/
abbrev NRec := Addr × Addr × Int × Int
def NodeAt (K : PySem.W.Frag) (H : Hp) (n : NRec) : Prop := ∃ c, SqT K H n.1 [.ref n.2.1, .ref c] ∧ PtR K H n.2.1 n.2.2
theorem NodeAt.sameT {K : PySem.W.Frag} {H H' : Hp} {n : NRec} (e : SameT H H') (h : NodeAt K H n) : NodeAt K H' n := by
  obtain ⟨c, h1, h2⟩ := h
  exact ⟨c, SqT.sameT e h1, SqT.sameT e h2⟩
abbrev refsN (ns : List NRec) : List V := ns.map fun n => V.ref n.1
section
variable {P : Program} {w : World} {K : PySem.W.Frag} {mg : Str → Option Value} {base : Heap}
theorem scNodes : FnScope ["tree", "nodes", "pile", "node"] ["tree"] (defScope s_nodes_of) := ⟨rfl, rfl, rfl, by decide +kernel, rfl, by decide +kernel, by decide +kernel⟩
def spNodes (K : PySem.W.Frag) : Sp := fun vs H Q _ => ∃ (v : V) (T : QT), vs = [v] ∧ Dp K H v (qD T) ∧ T.size ≤ 500 ∧ ∀ H' l ns, Same H H' → H l = none → H' l = some (.lst (refsN ns)) → (∀ n ∈ ns, NodeAt K H' n) → ns.map (·.2.2) = ptsQ T → Q (.ref l) H'
structure NodI (K : PySem.W.Frag) (H0 H : Hp) (Nd Pl : Addr) (T : QT) (es : VPile) (ns : List NRec) : Prop where
  same : Same H0 H
  pile : H Pl = some (.lst (es.map (·.1)))
  ents : ∀ e ∈ es, Dp K H e.1 (qD e.2)
  nds : H Nd = some (.lst (refsN ns))
  nat : ∀ n ∈ ns, NodeAt K H n
  all : ns.map (·.2.2) ++ es.reverse.flatMap (fun e => ptsQ e.2) = ptsQ T
  cnt : ns.length + qsz es ≤ T.size
  len : es.length ≤ 4 * ns.length + 1
theorem ok_nodes {f : Addr} {fd : FuncData} (F : FnP K "nodes_of" s_nodes_of f fd) : FnOk P w K mg base CX0 1 f fd ["tree"] (spNodes K) := by
  refine F.ok scNodes (fun vs H Q E h => ?_) (fun cdv A outer s H vs Q E hr h => ?_)
  · obtain ⟨_, _, rfl, _⟩ := h
    rfl
  · obtain ⟨v, T, rfl, hd, hsz, q⟩ := h
    refine ⟨_, pss_cons (ps_set (i := 1) scNodes.nd rfl (.inl rfl) (pe_lst pa_nil))
        (pss_cons (ps_set (i := 2) scNodes.nd rfl (.inl rfl) (pe_lst (pa_cons (pv 0) pa_nil)))
        (pss_cons (ps_while PassesOwn.never (pt_truth (pv 2) (fun _ => rfl)) (pss_cons (ps_asg (pe_bm0 PySem.F.plainAttrs_list PySem.F.slot_list_pop PySem.F.type_list_pop mt_pop (pv 2)) (pg_name (i := 3) scNodes.nd rfl (.inl rfl)))
        (pss_one (ps_if (pt_cmp (pc_notN (pv 3))) (pss_cons (ps_expr (pe_bm PySem.F.plainAttrs_list PySem.F.slot_list_append PySem.F.type_list_append mt_append (pv 1) (pa_cons (pv 3) pa_nil)))
        (pss_one (ps_expr (pe_bm PySem.F.plainAttrs_list PySem.F.slot_list_extend PySem.F.type_list_extend mt_extendT (pv 2) (pa_cons (pe_rev4 (pe_ix ix_tup (pv 3) (pe_int) (fun _ _ => rfl))) pa_nil))))) pss_nil))))
        (pss_one (ps_ret (pv 1))))), ?_⟩
    refine ⟨(by show 0 ≤ sizeLine; decide), fun Nd nN => ⟨_, rfl, (by show 1 ≤ sizeLine; decide), fun Pl nPl => ?_⟩⟩
    have s1 : Same H (upd H Nd (.lst [])) := same_new nN
    have s2 : Same (upd H Nd (.lst [])) (upd (upd H Nd (.lst [])) Pl (.lst [v])) := same_new nPl
    have e2 := s1.trans s2
    have hN2 := s2 _ _ (upd_same (H := H) (a := Nd) (o := .lst []))
    have hP2 : (upd (upd H Nd (.lst [])) Pl (.lst [v])) Pl = some (.lst [v]) := upd_same
    have NP : Nd ≠ Pl := ne_of_none upd_same nPl
    have P00 : H Pl = none := same_free s1 nPl
    generalize upd (upd H Nd (.lst [])) Pl (.lst [v]) = H2 at s2 e2 hN2 hP2 ⊢
    refine ⟨fun m σ H' => ∃ (es : VPile) (ns : List NRec) (z3 : Option V), σ = [some v, some (.ref Nd), some (.ref Pl), z3] ∧ NodI K H H' Nd Pl T es ns ∧ vsum es = m, ⟨_, [(v, T)], [], none, rfl, ?_, rfl⟩, ?_⟩
    · exact ⟨e2, hP2, fun e he => by rw [List.mem_singleton.mp he]; exact Dp.same e2 hd, hN2, fun n hn => by simp at hn, by simp, by simp [qsz], by simp⟩
    · rintro m σ H6 ⟨es, ns, z3, rfl, I, hm⟩
      refine ⟨_, rfl, _, .inl ⟨_, SqL.of I.pile, rfl⟩, ?_⟩
      rcases List.eq_nil_or_concat es with rfl | ⟨es', e, rfl⟩
      · refine iteF ⟨_, rfl, ?_⟩
        have ha := I.all
        simp only [List.reverse_nil, List.flatMap_nil, List.append_nil] at ha
        exact q _ Nd ns I.same nN I.nds I.nat ha
      · rw [List.concat_eq_append] at I hm
        rw [List.concat_eq_append]
        have emp : (!((es' ++ [e]).map (·.1)).isEmpty) = true := by simp
        rw [emp]
        refine iteT ⟨fun σ' H' => ∃ m', m' < m ∧ ∃ (es : VPile) (ns : List NRec) (z3 : Option V), σ' = [some v, some (.ref Nd), some (.ref Pl), z3] ∧ NodI K H H' Nd Pl T es ns ∧ vsum es = m', fun _ _ h => h, ?_⟩
        have hlast : ((es' ++ [e]).map (·.1))[((es' ++ [e]).map (·.1)).length - 1]? = some e.1 := by simp
        have hdrop : ((es' ++ [e]).map (·.1)).dropLast = es'.map (·.1) := by simp
        refine ⟨_, rfl, .inl ⟨rfl, _, SqL.of I.pile⟩, Pl, _, e.1, rfl, rfl, I.pile, hlast, ?_⟩
        rw [hdrop]
        have st7 : SameT H6 (upd H6 Pl (.lst (es'.map (·.1)))) := SameT.put I.pile
        have e7 : Same H (upd H6 Pl (.lst (es'.map (·.1)))) := fun x o hx => by
          rw [upd_ne (ne_of_none hx P00)]
          exact I.same x o hx
        have hP7 : (upd H6 Pl (.lst (es'.map (·.1)))) Pl = some (.lst (es'.map (·.1))) := upd_same
        have hN7 : (upd H6 Pl (.lst (es'.map (·.1)))) Nd = some (.lst (refsN ns)) := by rw [upd_ne NP]; exact I.nds
        have hE7 : ∀ x ∈ es' ++ [e], Dp K (upd H6 Pl (.lst (es'.map (·.1)))) x.1 (qD x.2) := fun x hx => dpQ_sameT st7 (I.ents x hx)
        have hA7 : ∀ n ∈ ns, NodeAt K (upd H6 Pl (.lst (es'.map (·.1)))) n := fun n hn => (I.nat n hn).sameT st7
        generalize upd H6 Pl (.lst (es'.map (·.1))) = H7 at e7 hP7 hN7 hE7 hA7 ⊢
        have hde := hE7 e (List.mem_append.mpr (.inr (List.mem_singleton.mpr rfl)))
        have hE' : ∀ x ∈ es', Dp K H7 x.1 (qD x.2) := fun x hx => hE7 x (List.mem_append.mpr (.inl hx))
        have hall := I.all
        have hcnt := I.cnt
        have hlen := I.len
        rw [qsz_app] at hcnt
        rw [List.length_append, List.length_singleton] at hlen
        have hv1 := vsum_eq (es' ++ [e])
        rw [qsz_app, List.length_append, List.length_singleton] at hv1
        have hv0 := vsum_eq es'
        clear I
        obtain ⟨ve, te⟩ := e
        refine ⟨_, rfl, _, rfl, ?_⟩
        cases te with
        | nil =>
          have hv := dp_nil hde
          have hv' : ve = .non := hv
          subst hv'
          have hq0 : qsz [((V.non : V), QT.nil)] = 0 := rfl
          refine iteF ⟨vsum es', by omega, es', ns, _, rfl, ⟨e7, hP7, hE', hN7, hA7, ?_, by omega, by omega⟩, rfl⟩
          rw [← hall, List.reverse_append, List.flatMap_append]
          rfl
        | node p ch =>
          have hqe : qsz [(ve, QT.node p ch)] = (QT.node p ch).size := by simp [qsz]
          rw [hqe] at hcnt hv1
          have nn : (!decide (ve = V.non)) = true := by
            rw [decide_eq_false (dp_nonil hde)]
            rfl
          obtain ⟨a, pb, c, v0, v1, v2, v3, hva, hs, hp, hc, d0, d1, d2, d3⟩ := dp_node hde
          have hva' : ve = .ref a := hva
          subst hva'
          rw [nn]
          have hnl : ns.length ≤ 500 := by omega
          refine iteT ⟨_, rfl, .inl ⟨rfl, _, SqL.of hN7⟩, _, rfl, Nd, _, _, rfl, rfl, hN7, (by rw [List.length_map]; exact small1000 (by omega)), ?_⟩
          have st8 : SameT H7 (upd H7 Nd (.lst (refsN ns ++ [.ref a]))) := SameT.put hN7
          have e8 : Same H (upd H7 Nd (.lst (refsN ns ++ [.ref a]))) := fun x o hx => by
            rw [upd_ne (ne_of_none hx nN)]
            exact e7 x o hx
          have hN8 : (upd H7 Nd (.lst (refsN ns ++ [.ref a]))) Nd = some (.lst (refsN (ns ++ [(a, pb, p)]))) := by rw [upd_same]; simp [refsN]
          have hP8 : (upd H7 Nd (.lst (refsN ns ++ [.ref a]))) Pl = some (.lst (es'.map (·.1))) := by rw [upd_ne NP.symm]; exact hP7
          have hA8 : ∀ n ∈ ns ++ [(a, pb, p)], NodeAt K (upd H7 Nd (.lst (refsN ns ++ [.ref a]))) n := fun n hn => by
            rcases List.mem_append.mp hn with hn | hn
            · exact (hA7 n hn).sameT st8
            · rw [List.mem_singleton.mp hn]
              exact ⟨c, SqT.sameT st8 hs, SqT.sameT st8 hp⟩
          have hs8 := SqT.sameT st8 hs
          have hc8 := SqT.sameT st8 hc
          generalize upd H7 Nd (.lst (refsN ns ++ [.ref a])) = H8 at st8 e8 hN8 hP8 hA8 hs8 hc8 ⊢
          refine ⟨_, rfl, .inl ⟨rfl, _, SqL.of hP8⟩, _, rfl, a, _, 1, .ref c, rfl, rfl, hs8, atI_nat (j := 1) rfl, c, v0, v1, v2, v3, rfl, hc8, fun r nr => ?_⟩
          have s9 : Same H8 (upd H8 r (.tup [v3, v2, v1, v0])) := same_new nr
          have hP9 := s9 _ _ hP8
          have hr9 : (upd H8 r (.tup [v3, v2, v1, v0])) r = some (.tup [v3, v2, v1, v0]) := upd_same
          have hN9 := s9 _ _ hN8
          generalize upd H8 r (.tup [v3, v2, v1, v0]) = H9 at s9 hP9 hr9 hN9 ⊢
          refine ⟨Pl, r, _, _, rfl, rfl, hP9, SqT.of hr9, (by rw [List.length_map]; show es'.length + 4 ≤ sizeLine; rw [sizeLine_eq]; omega), ?_⟩
          have st10 : SameT H9 (upd H9 Pl (.lst (es'.map (·.1) ++ [v3, v2, v1, v0]))) := SameT.put hP9
          have st810 := (SameT.of s9).trans st10
          have st710 := st8.trans st810
          have hsz' : (QT.node p ch).size = 1 + ((ch 0).size + (ch 1).size + (ch 2).size + (ch 3).size) := rfl
          have hq4 : qsz [(v3, ch 3), (v2, ch 2), (v1, ch 1), (v0, ch 0)] = (ch 0).size + (ch 1).size + (ch 2).size + (ch 3).size := by
            simp only [qsz, List.map_cons, List.map_nil, List.sum_cons, List.sum_nil]
            omega
          have hv2 := vsum_eq (es' ++ [(v3, ch 3), (v2, ch 2), (v1, ch 1), (v0, ch 0)])
          rw [qsz_app, List.length_append, hq4] at hv2
          simp only [List.length_cons, List.length_nil] at hv2
          refine ⟨vsum (es' ++ [(v3, ch 3), (v2, ch 2), (v1, ch 1), (v0, ch 0)]), by omega, _, ns ++ [(a, pb, p)], _, rfl, ⟨fun x o hx => ?_, ?_, fun x hx => ?_, ?_, fun n hn => (hA8 n hn).sameT st810, ?_, ?_, ?_⟩, rfl⟩
          · rw [upd_ne (ne_of_none hx P00)]
            exact s9 _ _ (e8 x o hx)
          · rw [upd_same, List.map_append]
            rfl
          · rcases List.mem_append.mp hx with hx | hx
            · exact dpQ_sameT st710 (hE' x hx)
            · simp only [List.mem_cons, List.not_mem_nil, or_false] at hx
              rcases hx with rfl | rfl | rfl | rfl
              · exact dpQ_sameT st710 d3
              · exact dpQ_sameT st710 d2
              · exact dpQ_sameT st710 d1
              · exact dpQ_sameT st710 d0
          · rw [upd_ne NP]
            exact hN9
          · rw [← hall]
            simp [ptsQ]
          · rw [List.length_append, List.length_singleton, qsz_app, hq4]
            omega
          · rw [List.length_append, List.length_append]
            simp only [List.length_cons, List.length_nil]
            omega
theorem scReading : FnScope ["tree", "node"] ["tree"] (defScope s_reading) := ⟨rfl, rfl, rfl, by decide +kernel, rfl, by decide +kernel, by decide +kernel⟩
def spReading (K : PySem.W.Frag) : Sp := fun vs H Q _ => ∃ (v : V) (T : QT), vs = [v] ∧ Dp K H v (qD T) ∧ T.size ≤ 500 ∧ ∀ H' l qs, Same H H' → H l = none → PsAt K H' l qs → qs.map (·.2) = ptsQ T → Q (.ref l) H'
theorem ok_reading {f fN : Addr} {fd fdN : FuncData} (F : FnP K "reading" s_reading f fd) (GN : FnOk P w K mg base CX0 1 fN fdN ["tree"] (spNodes K)) (kN : PySem.W.keepIn K (.ref fN) = true) (bN : Binds K fdN ["tree"] []) (gN : mg "nodes_of" = some (.ref fN)) : FnOk P w K mg base CX0 2 f fd ["tree"] (spReading K) := by
  refine F.ok scReading (fun vs H Q E h => ?_) (fun cdv A outer s H vs Q E hr h => ?_)
  · obtain ⟨_, _, rfl, _⟩ := h
    rfl
  · obtain ⟨v, T, rfl, hd, hsz, q⟩ := h
    refine ⟨_, pss_one (ps_ret (pe_lc (own := [("node", 1)]) (g := gName 1) (tt := tYes) rfl scReading.nd (pi_list (pe_call GN hr (by rfl) gN kN bN .nil pass0 (pa_cons (pv 0) pa_nil))) (blkOk_by (N := ["tree", "node"]) (sc := defScope s_reading) (by decide +kernel)) (fun _ _ _ _ _ => pg_name (i := 1) scReading.nd rfl (Or.inl rfl)) (fun _ _ _ _ _ => pts_nil) (fun _ _ _ _ _ => pe_ix (ix_tupL (K := K) rfl) (pv 1) (pe_int) (fun _ _ => rfl)))), ?_⟩
    refine ⟨_, rfl, v, T, rfl, hd, hsz, fun H1 l ns e1 nl hl hat hall => ?_⟩
    have hnl : ns.length ≤ 500 := by
      have h1 := congrArg List.length hall
      rw [List.length_map, ptsQ_len] at h1
      omega
    refine ⟨l, rfl, ⟨_, SqL.of hl⟩, fun D nD => lc_it (walk_list (xs := refsN ns)) (fun i H3 => Same H1 H3 ∧ H3 D = some (.lst (refsOf ((ns.take i).map (·.2))))) ⟨same_new nD, upd_same⟩ (fun i H3 _ h => SqL.of (h.1 _ _ hl)) ?_ ?_⟩
    · rintro i vv H4 H3 hi ⟨e3, hD⟩ ⟨rfl, hvv⟩
      rw [List.length_map] at hi
      have hn : ns[i]? = some ns[i] := List.getElem?_eq_getElem hi
      have etk : ns.take (i + 1) = ns.take i ++ [ns[i]] := List.take_succ_eq_append_getElem hi
      generalize ns[i] = n at hn etk
      rw [List.getElem?_map, hn] at hvv
      cases hvv
      obtain ⟨c, hs, hp⟩ := hat n (List.mem_of_getElem? hn)
      refine ⟨rfl, _, rfl, n.1, _, 0, .ref n.2.1, rfl, rfl, SqT.same e3 hs, atI_nat (j := 0) rfl, _, hD, ?_, fun x o hx => ?_, ?_⟩
      · rw [List.length_map, List.length_map, List.length_take]
        exact small1000 (by omega)
      · rw [upd_ne (ne_of_none hx nD)]
        exact e3 x o hx
      · rw [upd_same, etk]
        simp
    · rintro H3 ⟨e3, hD⟩
      rw [List.length_map, List.take_length] at hD
      refine q H3 D _ (e1.trans e3) (same_free e1 nD) ⟨hD, fun x hx => ?_⟩ (by rw [List.map_map]; exact hall)
      obtain ⟨n, hn, rfl⟩ := List.mem_map.mp hx
      obtain ⟨c, hs, hp⟩ := hat n hn
      exact SqT.same e3 hp
end
end Q2

namespace Q2
open PySem PySem.Spec PyProof.Rows L2
/-! ### parts are apart -/
theorem part_ext : ∀ a b : Fin 4, isHi a = isHi b → isUp a = isUp b → a = b := by decide
theorem ltK_anti {a b : Int × Int} (h : ltK a b = true) : ltK b a = false := by
  have := of_decide_eq_true h
  exact decide_eq_false (by omega)
theorem side_nar {k : Ks} {p q : Int × Int} {j : Fin 4} (h : (k.nar p j).has q) : sideF p q = j := by
  obtain ⟨a, b, c, d⟩ := h
  unfold Ks.nar at a b c d
  refine part_ext _ _ ?_ ?_
  · rw [isHi_side]
    cases z : isHi j with
    | true => rw [z] at a; exact a
    | false =>
      rw [z] at b
      exact ltK_anti b
  · rw [isUp_side]
    cases z : isUp j with
    | true => rw [z] at c; exact c
    | false =>
      rw [z] at d
      exact ltK_anti d
theorem nar_ne {k : Ks} {p q : Int × Int} {j : Fin 4} (h : (k.nar p j).has q) : p ≠ q := by
  rintro rfl
  obtain ⟨a, b, _, _⟩ := h
  unfold Ks.nar at a b
  have irr : ltK p p = false := decide_eq_false (by omega)
  cases z : isHi j with
  | true =>
    rw [z] at a
    rw [show ltK p p = true from a] at irr
    cases irr
  | false =>
    rw [z] at b
    rw [show ltK p p = true from b] at irr
    cases irr
abbrev all4 : List (Fin 4) := [0, 1, 2, 3]
theorem mem4 (j : Fin 4) : j ∈ all4 := by
  match j with
  | 0 => simp
  | 1 => simp
  | 2 => simp
  | 3 => simp
theorem pts_node (p : Int × Int) (ch : Fin 4 → QT) : ptsQ (.node p ch) = p :: all4.flatMap fun j => ptsQ (ch j) := by
  rw [ptsQ]
  simp only [List.flatMap_cons, List.flatMap_nil, List.append_nil]
theorem pts_mem {p : Int × Int} {ch : Fin 4 → QT} {x : Int × Int} (h : x ∈ ptsQ (.node p ch)) : x = p ∨ ∃ j, x ∈ ptsQ (ch j) := by
  rw [pts_node] at h
  rcases List.mem_cons.mp h with h | h
  · exact .inl h
  · obtain ⟨j, _, hx⟩ := List.mem_flatMap.mp h
    exact .inr ⟨j, hx⟩
theorem pts_child {p : Int × Int} {ch : Fin 4 → QT} {x : Int × Int} {j : Fin 4} (h : x ∈ ptsQ (ch j)) : x ∈ ptsQ (.node p ch) := by
  rw [pts_node]
  exact List.mem_cons_of_mem _ (List.mem_flatMap.mpr ⟨j, mem4 j, h⟩)
theorem kid_side {p : Int × Int} {ch : Fin 4 → QT} {k : Ks} (hk : InK (.node p ch) k) {j : Fin 4} {x : Int × Int} (h : x ∈ ptsQ (ch j)) : sideF p x = j ∧ p ≠ x := by
  have := all_has (hk.2 j) x h
  exact ⟨side_nar this, nar_ne this⟩
/-! ### the points of the tree are the points -/
theorem perm4 {α : Type} (g : α → Fin 4) : ∀ r : List α, (all4.flatMap fun j => r.filter fun m => decide (g m = j)).Perm r
  | [] => by simp
  | a :: r => by
    have ih := perm4 g r
    simp only [List.flatMap_cons, List.flatMap_nil, List.append_nil] at ih ⊢
    have h : ∀ j : Fin 4, (a :: r).filter (fun m => decide (g m = j)) = if g a = j then a :: r.filter (fun m => decide (g m = j)) else r.filter (fun m => decide (g m = j)) := fun j => by
      rw [List.filter_cons]
      by_cases e : g a = j
      · simp [e]
      · simp [e]
    rw [h 0, h 1, h 2, h 3]
    match e : g a with
    | 0 => exact List.Perm.cons a ih
    | 1 =>
      refine List.Perm.trans ?_ (List.Perm.cons a ih)
      exact List.perm_middle
    | 2 =>
      refine List.Perm.trans ?_ (List.Perm.cons a ih)
      refine (List.Perm.append_left _ List.perm_middle).trans ?_
      exact List.perm_middle
    | 3 =>
      refine List.Perm.trans ?_ (List.Perm.cons a ih)
      refine (List.Perm.append_left _ ((List.Perm.append_left _ List.perm_middle).trans List.perm_middle)).trans ?_
      exact List.perm_middle
theorem flat_perm {f g : Fin 4 → List (Int × Int)} (h : ∀ j, (f j).Perm (g j)) : ∀ l : List (Fin 4), (l.flatMap f).Perm (l.flatMap g)
  | [] => .nil
  | j :: l => by
    rw [List.flatMap_cons, List.flatMap_cons]
    exact (h j).append (flat_perm h l)
theorem pts_grow : ∀ (n : Nat) (l : List (Int × Int)), l.length ≤ n → (ptsQ (QT.growQ sideF n l)).Perm l
  | 0, [], _ => .nil
  | 0, _ :: _, h => absurd h (by simp)
  | _ + 1, [], _ => .nil
  | n + 1, p :: r, h => by
    show (ptsQ (.node p fun j => QT.growQ sideF n (r.filter fun m => decide (sideF p m = j)))).Perm _
    rw [pts_node]
    refine List.Perm.cons p (List.Perm.trans (flat_perm (fun j => pts_grow n _ ?_) all4) (perm4 (sideF p) r))
    have hl : (r.filter fun m => decide (sideF p m = j)).length ≤ r.length := List.length_filter_le ..
    simp only [List.length_cons] at h
    omega
theorem pts_tree (l : List (Int × Int)) : (ptsQ (treeQ l)).Perm l := pts_grow _ _ (Nat.le_refl _)
/-! ### sorted lists of the same points -/
def ltV (a b : Int × Int) : Bool := ltK a b
theorem sorted_uniq : ∀ (a b : List (Int × Int)), a.Perm b → a.Pairwise (fun x y => ltK x y = true) → b.Pairwise (fun x y => ltK x y = true) → a = b
  | [], b, h, _, _ => (List.nil_perm.mp h).symm
  | x :: xs, [], h, _, _ => absurd h.length_eq (by simp)
  | x :: xs, y :: ys, h, ha, hb => by
    have e : x = y := by
      rcases List.mem_cons.mp (h.mem_iff.mp (List.mem_cons_self ..)) with e | hx
      · exact e
      · rcases List.mem_cons.mp (h.mem_iff.mpr (List.mem_cons_self ..)) with e | hy
        · exact e.symm
        · have h1 := (List.pairwise_cons.mp ha).1 y hy
          have h2 := (List.pairwise_cons.mp hb).1 x hx
          rw [ltK_anti h1] at h2
          cases h2
    subst e
    rw [sorted_uniq xs ys (List.Perm.cons_inv h) (List.pairwise_cons.mp ha).2 (List.pairwise_cons.mp hb).2]
theorem le_sortX (p q : Addr × Int × Int) : PySem.W.dataLe false keyX p q = !ltK q.2 p.2 := dataLe_two (fun q => q.2.1) (fun q => q.2.2) p q
theorem sortX_pw {qs : Pts} (nd : (qs.map (·.2)).Nodup) : ((sortX qs).map (·.2)).Pairwise (fun x y => ltK x y = true) := by
  have pm := List.mergeSort_perm qs (PySem.W.dataLe false keyX)
  have h1 : (qs.mergeSort (PySem.W.dataLe false keyX)).Pairwise (fun p q => PySem.W.dataLe false keyX p q = true) := by
    refine List.pairwise_mergeSort (fun a b c h h' => ?_) (fun a b => ?_) qs
    · rw [le_sortX] at *
      simp only [Bool.not_eq_true'] at *
      cases e : ltK c.2 a.2 with
      | false => rfl
      | true =>
        have e' := of_decide_eq_true e
        have h1 := of_decide_eq_false h
        have h2 := of_decide_eq_false h'
        omega
    · rw [le_sortX, le_sortX]
      cases e : ltK b.2 a.2 with
      | false => rfl
      | true =>
        rw [ltK_anti e]
        rfl
  have h2 : (qs.mergeSort (PySem.W.dataLe false keyX)).Pairwise (fun p q => p.2 ≠ q.2) := by
    have : ((qs.mergeSort (PySem.W.dataLe false keyX)).map (·.2)).Nodup := (pm.map (·.2)).nodup_iff.mpr nd
    exact List.pairwise_map.mp this
  refine List.pairwise_map.mpr ?_
  refine (h1.and h2).imp fun {a b} ⟨u, v⟩ => ?_
  rw [le_sortX] at u
  simp only [Bool.not_eq_true'] at u
  exact ltK_flip v u
theorem sortX_eq {qs rs : Pts} (h : (qs.map (·.2)).Perm (rs.map (·.2))) (nd : (rs.map (·.2)).Nodup) : (sortX qs).map (·.2) = (sortX rs).map (·.2) := by
  have nd' : (qs.map (·.2)).Nodup := h.nodup_iff.mpr nd
  refine sorted_uniq _ _ ?_ (sortX_pw nd') (sortX_pw nd)
  exact ((List.mergeSort_perm qs _).map (·.2)).trans (h.trans ((List.mergeSort_perm rs _).map (·.2)).symm)
theorem sortX_mem {qs : Pts} {q : Addr × Int × Int} (h : q ∈ sortX qs) : q ∈ qs := (List.mergeSort_perm qs _).mem_iff.mp h
section
variable {X : Cx}
/-- sorted(points), points read -/
def rSortR (K : PySem.W.Frag) : List V → Hp → VK → Prop := fun vs H Q => ∃ (a : Addr) (qs : Pts), vs = [V.ref a] ∧ (SqL K H a (refsOf qs) ∨ SqT K H a (refsOf qs)) ∧ (∀ q ∈ qs, PtR K H q.1 q.2) ∧ ∀ p, H p = none → Q (.ref p) (upd H p (.lst (refsOf (sortX qs))))
theorem cr_sortR (un : X.A.units + 64 < cLine) : CallR X (.builtin "sorted") (rSortR X.K) := by
  intro pins s σ H vs us Q I r h
  obtain ⟨a, qs, rfl, hs, ht, q⟩ := h
  obtain rfl := Vals.ref1 r
  obtain ⟨its, rv, seq, hz⟩ := raw_seq I hs
  rw [List.length_map] at hz
  refine sorted_plain (bs := qs) (enc := keyX) seq (each_refs rv) (each_of (each_refs rv) fun p hp => ?_) (alike_pts _ _ qs) (sortable_pts _ _ qs) hz (fun p hp => ?_) fun out hl e => ?_
  · obtain ⟨tx, ty, o, ho, hc, n, hd⟩ := raw_ptR I (ht p hp)
    exact ⟨[], .tuple ho hc hd (.cons (as := []) (.int _ tx) (.cons (as := []) (.int _ ty) .nil))⟩
  · have := depth_pt p.2.1 p.2.2
    show X.A.units + 2 + (PyData.tuple [.int p.2.1, .int p.2.2]).depth < cLine
    omega
  · obtain ⟨ep, he⟩ := PyProof.Rows.sortedAll_at s.heap its (List.toArray out)
    refine ⟨.ref _, upd H (s.heap.objs.size + 1) (.lst (refsOf (sortX qs))), I.laid (t' := s.toks) (fun _ _ => PyProof.Rows.sortedAll_old) (Nat.le_succ _) ⟨?_, out, ep, vals_refs e, he⟩, rfl, q _ (I.hok.fresh (Nat.le_succ _))⟩
    rw [List.length_map, List.length_mergeSort]
    exact hz
end
end Q2

namespace Q2
open PySem PySem.Spec PyProof.Rows L2
theorem growQ_fuel {f : Int × Int → Int × Int → Fin 4} : ∀ (n n' : Nat) (l : List (Int × Int)), l.length ≤ n → l.length ≤ n' → QT.growQ f n l = QT.growQ f n' l
  | 0, 0, _, _, _ => rfl
  | 0, n' + 1, [], _, _ => rfl
  | n + 1, 0, [], _, _ => rfl
  | n + 1, n' + 1, [], _, _ => rfl
  | 0, _, k :: r, h, _ => by simp at h
  | _, 0, k :: r, _, h => by simp at h
  | n + 1, n' + 1, k :: r, h, h' => by
    show QT.node k _ = QT.node k _
    congr 1
    funext j
    have hl : (r.filter fun m => decide (f k m = j)).length ≤ r.length := List.length_filter_le ..
    simp only [List.length_cons] at h h'
    exact growQ_fuel n n' _ (by omega) (by omega)
theorem treeQ_cons (p : Int × Int) (r : List (Int × Int)) : treeQ (p :: r) = .node p fun j => treeQ (r.filter fun m => decide (sideF p m = j)) := by
  unfold treeQ
  show QT.node p _ = _
  congr 1
  funext j
  have hl : (r.filter fun m => decide (sideF p m = j)).length ≤ r.length := List.length_filter_le ..
  exact growQ_fuel _ _ _ hl (Nat.le_refl _)
/-- the parts of a list that is put together part by part -/
theorem filter_part {g : Fin 4 → List (Int × Int)} {s : Int × Int → Fin 4} (h : ∀ j, ∀ x ∈ g j, s x = j) (j : Fin 4) : (all4.flatMap g).filter (fun m => decide (s m = j)) = g j := by
  have e : ∀ i, (g i).filter (fun m => decide (s m = j)) = if i = j then g j else [] := fun i => by
    by_cases c : i = j
    · subst c
      rw [if_pos rfl]
      exact List.filter_eq_self.mpr fun x hx => decide_eq_true (h i x hx)
    · rw [if_neg c]
      exact List.filter_eq_nil_iff.mpr fun x hx => by rw [h i x hx]; simp [c]
  simp only [List.flatMap_cons, List.flatMap_nil, List.append_nil, List.filter_append, e]
  match j with
  | 0 => simp
  | 1 => simp
  | 2 => simp
  | 3 => simp
/-- a tree is built of its points in reading order -/
theorem tree_pts : ∀ {T : QT} {k : Ks}, InK T k → treeQ (ptsQ T) = T
  | .nil, _, _ => rfl
  | .node p ch, k, hk => by
    rw [pts_node, treeQ_cons]
    congr 1
    funext j
    rw [filter_part (s := sideF p) (fun i x hx => (kid_side hk hx).1) j]
    exact tree_pts (hk.2 j)
/-- a part's points, in the order of the list -/
theorem list_part {p : Int × Int} {r : List (Int × Int)} {k : Ks} (nd : (p :: r).Nodup) (hk : InK (treeQ (p :: r)) k) (j : Fin 4) : (p :: r).filter (fun x => decide (x ∈ ptsQ (treeQ (r.filter fun m => decide (sideF p m = j))))) = r.filter fun m => decide (sideF p m = j) := by
  rw [treeQ_cons] at hk
  have pj := pts_tree (r.filter fun m => decide (sideF p m = j))
  have hp : p ∉ ptsQ (treeQ (r.filter fun m => decide (sideF p m = j))) := fun h => (kid_side (j := j) hk h).2 rfl
  rw [List.filter_cons, if_neg (by rw [decide_eq_false hp]; decide)]
  refine List.filter_congr fun x hx => ?_
  rw [Bool.eq_iff_iff, decide_eq_true_eq, decide_eq_true_eq, pj.mem_iff, List.mem_filter, decide_eq_true_eq]
  exact ⟨fun h => h.2, fun h => ⟨hx, h⟩⟩
/-- a tree with its points changed and its parts in another order -/
def mapT (g : Int × Int → Int × Int) (π : Fin 4 → Fin 4) : QT → QT
  | .nil => .nil
  | .node p ch => .node (g p) fun i => mapT g π (ch (π i))
theorem tree_map {g : Int × Int → Int × Int} {π : Fin 4 → Fin 4} (inv : ∀ j, π (π j) = j) (hg : ∀ p q : Int × Int, p ≠ q → sideF (g p) (g q) = π (sideF p q)) : ∀ (n : Nat) (l : List (Int × Int)), l.length ≤ n → l.Nodup → treeQ (l.map g) = mapT g π (treeQ l)
  | _, [], _, _ => rfl
  | 0, _ :: _, h, _ => absurd h (by simp)
  | n + 1, p :: r, h, nd => by
    rw [List.map_cons, treeQ_cons, treeQ_cons]
    show QT.node _ _ = QT.node _ _
    congr 1
    funext i
    have hr := List.nodup_cons.mp nd
    have e : (r.map g).filter (fun m => decide (sideF (g p) m = i)) = (r.filter fun m => decide (sideF p m = π i)).map g := by
      rw [List.filter_map]
      congr 1
      refine List.filter_congr fun x hx => ?_
      have hne : p ≠ x := fun z => hr.1 (z ▸ hx)
      show decide (sideF (g p) (g x) = i) = decide (sideF p x = π i)
      rw [hg p x hne, Bool.eq_iff_iff, decide_eq_true_eq, decide_eq_true_eq]
      exact ⟨fun h => by rw [← h, inv], fun h => by rw [h, inv]⟩
    rw [e]
    have hl : (r.filter fun m => decide (sideF p m = π i)).length ≤ r.length := List.length_filter_le ..
    simp only [List.length_cons] at h
    exact tree_map inv hg n _ (by omega) (hr.2.filter _)
/-! ### the three changes -/
def gN (p : Int × Int) : Int × Int := (-p.1, -p.2)
def gM (p : Int × Int) : Int × Int := (p.1 + 7, p.2 - 9)
def pS : Fin 4 → Fin 4
  | 0 => 0
  | 1 => 2
  | 2 => 1
  | 3 => 3
def pN : Fin 4 → Fin 4
  | 0 => 3
  | 1 => 2
  | 2 => 1
  | 3 => 0
theorem pS_inv : ∀ j, pS (pS j) = j := by decide
theorem pN_inv : ∀ j, pN (pN j) = j := by decide
theorem pS_bits : ∀ j, isHi (pS j) = isUp j ∧ isUp (pS j) = isHi j := by decide
theorem pN_bits : ∀ j, isHi (pN j) = !isHi j ∧ isUp (pN j) = !isUp j := by decide
theorem side_swap (p q : Int × Int) : sideF (yk p) (yk q) = pS (sideF p q) := by
  refine part_ext _ _ ?_ ?_
  · rw [isHi_side, (pS_bits _).1, isUp_side]
  · rw [isUp_side, (pS_bits _).2, isHi_side]
    rfl
theorem ltK_neg {p q : Int × Int} (h : p ≠ q) : ltK (gN p) (gN q) = !ltK p q := by
  have e : ltK (gN p) (gN q) = ltK q p := by
    unfold ltK gN
    rw [Bool.eq_iff_iff, decide_eq_true_eq, decide_eq_true_eq]
    show (-p.1 < -q.1 ∨ -p.1 = -q.1 ∧ -p.2 < -q.2) ↔ _
    omega
  rw [e]
  cases c : ltK p q with
  | true => exact ltK_anti c
  | false => exact ltK_flip h.symm c
theorem side_neg {p q : Int × Int} (h : p ≠ q) : sideF (gN p) (gN q) = pN (sideF p q) := by
  refine part_ext _ _ ?_ ?_
  · rw [isHi_side, (pN_bits _).1, isHi_side, ltK_neg h]
  · rw [isUp_side, (pN_bits _).2, isUp_side]
    have h2 : yk p ≠ yk q := fun e => h (by
      unfold yk at e
      injection e with e1 e2
      exact Prod.ext e2 e1)
    have := ltK_neg h2
    exact this
theorem ltK_move (p q : Int × Int) : ltK (gM p) (gM q) = ltK p q := by
  unfold ltK gM
  rw [Bool.eq_iff_iff, decide_eq_true_eq, decide_eq_true_eq]
  show (p.1 + 7 < q.1 + 7 ∨ p.1 + 7 = q.1 + 7 ∧ p.2 - 9 < q.2 - 9) ↔ _
  omega
theorem side_move (p q : Int × Int) : sideF (gM p) (gM q) = sideF p q := by
  refine part_ext _ _ ?_ ?_
  · rw [isHi_side, isHi_side, ltK_move]
  · rw [isUp_side, isUp_side]
    unfold ltK yk gM
    rw [Bool.eq_iff_iff, decide_eq_true_eq, decide_eq_true_eq]
    show (p.2 - 9 < q.2 - 9 ∨ p.2 - 9 = q.2 - 9 ∧ p.1 + 7 < q.1 + 7) ↔ _
    omega
def gOf : Fin 3 → Int × Int → Int × Int
  | 0 => yk
  | 1 => gN
  | 2 => gM
def pOf : Fin 3 → Fin 4 → Fin 4
  | 0 => pS
  | 1 => pN
  | 2 => id
theorem tree_change (c : Fin 3) {l : List (Int × Int)} (nd : l.Nodup) : treeQ (l.map (gOf c)) = mapT (gOf c) (pOf c) (treeQ l) := by
  match c with
  | 0 => exact tree_map pS_inv (fun p q _ => side_swap p q) l.length l (Nat.le_refl _) nd
  | 1 => exact tree_map pN_inv (fun p q h => side_neg h) l.length l (Nat.le_refl _) nd
  | 2 => exact tree_map (fun _ => rfl) (fun p q _ => side_move p q) l.length l (Nat.le_refl _) nd
theorem g_inj (c : Fin 3) {p q : Int × Int} (h : gOf c p = gOf c q) : p = q := by
  match c with
  | 0 =>
    have h' : (p.2, p.1) = (q.2, q.1) := h
    injection h' with h1 h2
    exact Prod.ext h2 h1
  | 1 =>
    have h' : (-p.1, -p.2) = (-q.1, -q.2) := h
    injection h' with h1 h2
    exact Prod.ext (by omega) (by omega)
  | 2 =>
    have h' : (p.1 + 7, p.2 - 9) = (q.1 + 7, q.2 - 9) := h
    injection h' with h1 h2
    exact Prod.ext (by omega) (by omega)
theorem nd_change (c : Fin 3) {l : List (Int × Int)} (nd : l.Nodup) : (l.map (gOf c)).Nodup := List.pairwise_map.mpr (nd.imp fun h e => h (g_inj c e))
end Q2

namespace Q2
open PySem PySem.Spec PyProof.Rows L2
section
variable {P : Program} {w : World} {K : PySem.W.Frag} {mg : Str → Option Value} {base : Heap}
theorem scChkQ : FnScope ["value", "path"] ["value"] (defScope s_check_quarter) := ⟨rfl, rfl, rfl, by decide +kernel, rfl, by decide +kernel, by decide +kernel⟩
def spChkQ (K : PySem.W.Frag) : Sp := fun vs H Q _ => ∃ (v : V) (t : QT), vs = [v] ∧ Dp K H v (qD t) ∧ TOk t ∧ ∀ H', Same H H' → Q .non H'
theorem ok_chkQ {f fF : Addr} {fd fdF : FuncData} (F : FnP K "check_quarter" s_check_quarter f fd) (GF : FnOk P w K mg base CX0 5 fF fdF ["value"] (spFault K)) (kF : PySem.W.keepIn K (.ref fF) = true) (bF : Binds K fdF ["value"] []) (gF : mg "fault_of" = some (.ref fF)) : FnOk P w K mg base CX0 6 f fd ["value"] (spChkQ K) := by
  refine F.ok scChkQ (fun vs H Q E h => ?_) (fun cdv A outer s H vs Q E hr h => ?_)
  · obtain ⟨_, _, rfl, _⟩ := h
    rfl
  · obtain ⟨v, t, rfl, h1, h2, q⟩ := h
    refine ⟨_, pss_cons (ps_set (i := 1) scChkQ.nd rfl (.inl rfl) (pe_call GF (hr) (by rfl) gF kF bF .nil pass0 (pa_cons (pv 0) pa_nil)))
        (pss_one (ps_if (pt_cmp (pc_notN (pv 1))) (pss_never) pss_nil)), ?_⟩
    exact ⟨_, rfl, v, t, rfl, h1, h2.1, h2.2.1, h2.2.2, fun H' e => ⟨_, rfl, _, rfl, iteF (q H' e)⟩⟩
end
end Q2

namespace Q2
open PySem PySem.Spec PyProof.Rows L2
/-! ### comprehensions of two clauses, by walks -/
section
variable {J J1 : It} {n n1 : Nat} {G G1 : Hp → Prop} {Y Y1 : Nat → Hp → V → Hp → Prop}
theorem in_it (w : Walk J1 n1 G1 Y1) {g1 : TG} {tt1 : TT} {te : TE} {vs1 : List Nat} {σ2 : L2.St} {H4 : Hp} {D : Addr} {Nx : Hp → Prop} (P1 : Nat → Hp → Prop) (h0 : P1 0 H4) (hG : ∀ j H, j ≤ n1 → P1 j H → G1 H)
    (hs : ∀ j x H H', j < n1 → P1 j H → Y1 j H x H' → g1 x (wipe σ2 vs1) H' fun σ3 H5 => wipe σ3 vs1 = wipe σ2 vs1 ∧ tt1 σ3 H5 fun b H6 =>
      if b = true then te σ3 H6 fun y H7 => ∃ acc, H7 D = some (.lst acc) ∧ acc.length < sizeLine ∧ P1 (j + 1) (upd H7 D (.lst (acc ++ [y]))) else P1 (j + 1) H6) (hd : ∀ H, P1 n1 H → Nx H) :
    ∃ W1 : Nat → Nat → Hp → Prop, (∃ m, W1 0 m H4) ∧ ∀ j k H, W1 j k H →
      (J1.stop j H ∧ Nx H) ∨ (J1.go j H ∧ ∃ Nx1 : Hp → Prop, (∀ H', Nx1 H' → ∃ k', k' < k ∧ W1 (j + 1) k' H') ∧ ∀ x H', J1.yld j H x H' → g1 x (wipe σ2 vs1) H' fun σ3 H5 => wipe σ3 vs1 = wipe σ2 vs1 ∧ tt1 σ3 H5 fun b H6 =>
        if b = true then te σ3 H6 fun y H7 => ∃ acc, H7 D = some (.lst acc) ∧ acc.length < sizeLine ∧ Nx1 (upd H7 D (.lst (acc ++ [y]))) else Nx1 H6) := by
  refine ⟨fun i m H => m = n1 - i ∧ i ≤ n1 ∧ P1 i H, ⟨n1, by simp, Nat.zero_le _, h0⟩, ?_⟩
  rintro i m H ⟨rfl, hi, p⟩
  have q := hG i H hi p
  by_cases hlt : i < n1
  · refine .inr ⟨w.goes i H hlt q, P1 (i + 1), fun H' p' => ⟨n1 - (i + 1), by omega, rfl, hlt, p'⟩, fun x H' y => hs i x H H' hlt p (w.yields i H x H' hlt q y)⟩
  · have e : i = n1 := by omega
    subst e
    exact .inl ⟨w.stops H q, hd H p⟩
theorem lc2_it (w : Walk J n G Y) {g : TG} {tt : TT} {wi1 : TI} {g1 : TG} {tt1 : TT} {te : TE} {vs vs1 : List Nat} {σ : L2.St} {H1 : Hp} {D : Addr} {Qd : Hp → Prop} (Pv : Nat → Hp → Prop) (h0 : Pv 0 (upd H1 D (.lst []))) (hG : ∀ i H, i ≤ n → Pv i H → G H)
    (hs : ∀ i x H H', i < n → Pv i H → Y i H x H' → g x (wipe σ vs) H' fun σ2 H2 => wipe σ2 vs = wipe σ vs ∧ tt σ2 H2 fun b H3 =>
      if b = true then wi1 σ2 H3 fun J1 H4 => ∃ W1 : Nat → Nat → Hp → Prop, (∃ m, W1 0 m H4) ∧ ∀ j k H, W1 j k H →
        (J1.stop j H ∧ Pv (i + 1) H) ∨ (J1.go j H ∧ ∃ Nx1 : Hp → Prop, (∀ H', Nx1 H' → ∃ k', k' < k ∧ W1 (j + 1) k' H') ∧ ∀ x H', J1.yld j H x H' → g1 x (wipe σ2 vs1) H' fun σ3 H5 => wipe σ3 vs1 = wipe σ2 vs1 ∧ tt1 σ3 H5 fun b H6 =>
          if b = true then te σ3 H6 fun y H7 => ∃ acc, H7 D = some (.lst acc) ∧ acc.length < sizeLine ∧ Nx1 (upd H7 D (.lst (acc ++ [y]))) else Nx1 H6)
      else Pv (i + 1) H3) (hd : ∀ H, Pv n H → Qd H) :
    ∃ W : Nat → Nat → Hp → Prop, (∃ m, W 0 m (upd H1 D (.lst []))) ∧ ∀ i m H, W i m H →
      (J.stop i H ∧ Qd H) ∨ (J.go i H ∧ ∃ Nx : Hp → Prop, (∀ H', Nx H' → ∃ m', m' < m ∧ W (i + 1) m' H') ∧ ∀ x H', J.yld i H x H' → g x (wipe σ vs) H' fun σ2 H2 => wipe σ2 vs = wipe σ vs ∧ tt σ2 H2 fun b H3 =>
        if b = true then wi1 σ2 H3 fun J1 H4 => ∃ W1 : Nat → Nat → Hp → Prop, (∃ m, W1 0 m H4) ∧ ∀ j k H, W1 j k H →
          (J1.stop j H ∧ Nx H) ∨ (J1.go j H ∧ ∃ Nx1 : Hp → Prop, (∀ H', Nx1 H' → ∃ k', k' < k ∧ W1 (j + 1) k' H') ∧ ∀ x H', J1.yld j H x H' → g1 x (wipe σ2 vs1) H' fun σ3 H5 => wipe σ3 vs1 = wipe σ2 vs1 ∧ tt1 σ3 H5 fun b H6 =>
            if b = true then te σ3 H6 fun y H7 => ∃ acc, H7 D = some (.lst acc) ∧ acc.length < sizeLine ∧ Nx1 (upd H7 D (.lst (acc ++ [y]))) else Nx1 H6)
        else Nx H3) := by
  refine ⟨fun i m H => m = n - i ∧ i ≤ n ∧ Pv i H, ⟨n, by simp, Nat.zero_le _, h0⟩, ?_⟩
  rintro i m H ⟨rfl, hi, p⟩
  have q := hG i H hi p
  by_cases hlt : i < n
  · refine .inr ⟨w.goes i H hlt q, Pv (i + 1), fun H' p' => ⟨n - (i + 1), by omega, rfl, hlt, p'⟩, fun x H' y => hs i x H H' hlt p (w.yields i H x H' hlt q y)⟩
  · have e : i = n := by omega
    subst e
    exact .inl ⟨w.stops H q, hd H p⟩
end
theorem pi_tupK {X : Cx} {K : PySem.W.Frag} (hK : X.K = K) {tg l : Expr} {tl : TE} (hl : PE X l tl) : PI X tg l (iTup K tl) := by
  subst hK
  exact pi_tup hl
/-! ### levels -/
def kidsQ : QT → List QT
  | .nil => []
  | .node _ ch => [ch 0, ch 1, ch 2, ch 3].filter nonnil
def lvls : Nat → List QT → List Nat
  | 0, _ => []
  | _ + 1, [] => []
  | n + 1, r :: rs => (r :: rs).length :: lvls n ((r :: rs).flatMap kidsQ)
def levelsQ (T : QT) : List Nat := lvls T.ht ([T].filter nonnil)
def tsz (row : List QT) : Nat := (row.map QT.size).sum
theorem tsz_app (a b : List QT) : tsz (a ++ b) = tsz a + tsz b := by
  unfold tsz
  simp
theorem kids_sz : ∀ T : QT, nonnil T = true → tsz (kidsQ T) + 1 = T.size
  | .nil, h => by cases h
  | .node p ch, _ => by
    have h := sums_nonnil [ch 0, ch 1, ch 2, ch 3]
    unfold tsz kidsQ
    rw [h]
    simp only [List.map_cons, List.map_nil, List.sum_cons, List.sum_nil, QT.size]
    omega
theorem kids_row : ∀ row : List QT, (∀ t ∈ row, nonnil t = true) → tsz (row.flatMap kidsQ) + row.length = tsz row
  | [], _ => rfl
  | t :: row, h => by
    have h1 := kids_sz t (h t (List.mem_cons_self ..))
    have h2 := kids_row row fun x hx => h x (List.mem_cons_of_mem _ hx)
    rw [List.flatMap_cons, tsz_app, List.length_cons]
    unfold tsz at *
    rw [List.map_cons, List.sum_cons]
    omega
theorem kid_mem {t x : QT} (h : x ∈ kidsQ t) : nonnil x = true ∧ x.ht + 1 ≤ t.ht := by
  cases t with
  | nil => simp [kidsQ] at h
  | node p ch =>
    obtain ⟨h1, h2⟩ := List.mem_filter.mp h
    refine ⟨h2, ?_⟩
    simp only [List.mem_cons, List.not_mem_nil, or_false] at h1
    rcases h1 with rfl | rfl | rfl | rfl
    · exact ht_child p ch 0
    · exact ht_child p ch 1
    · exact ht_child p ch 2
    · exact ht_child p ch 3
theorem kid_turn (ch : Fin 4 → QT) : ∀ i, i < 4 → ∃ j : Fin 4, j.val = i ∧ ([ch 0, ch 1, ch 2, ch 3] : List QT).take (i + 1) = ([ch 0, ch 1, ch 2, ch 3] : List QT).take i ++ [ch j]
  | 0, _ => ⟨0, rfl, rfl⟩
  | 1, _ => ⟨1, rfl, rfl⟩
  | 2, _ => ⟨2, rfl, rfl⟩
  | 3, _ => ⟨3, rfl, rfl⟩
  | _ + 4, h => absurd h (by omega)
section
variable {P : Program} {w : World} {K : PySem.W.Frag} {mg : Str → Option Value} {base : Heap}
abbrev NLC : List Str := ["tree", "counts", "row", "node", "part"]
theorem scLC : FnScope NLC ["tree"] (defScope s_level_counts) := ⟨rfl, rfl, rfl, by decide +kernel, rfl, by decide +kernel, by decide +kernel⟩
def spLC (K : PySem.W.Frag) : Sp := fun vs H Q _ => ∃ (v : V) (T : QT), vs = [v] ∧ Dp K H v (qD T) ∧ T.size ≤ 500 ∧ ∀ H' l, Same H H' → H l = none → H' l = some (.lst ((levelsQ T).map iV)) → Q (.ref l) H'
structure LvI (K : PySem.W.Frag) (H0 H : Hp) (cl rl : Addr) (T : QT) (n : Nat) (cs : List Nat) (es : VPile) : Prop where
  same : Same H0 H
  cnt : H cl = some (.lst (cs.map iV))
  row : H rl = some (.lst (es.map (·.1)))
  ne : cl ≠ rl
  ents : ∀ e ∈ es, Dp K H e.1 (qD e.2) ∧ nonnil e.2 = true ∧ e.2.ht ≤ n
  all : cs ++ lvls n (es.map (·.2)) = levelsQ T
  siz : tsz (es.map (·.2)) ≤ 500
  len : cs.length + n ≤ T.ht
theorem row_len {es : VPile} (h : ∀ e ∈ es, nonnil e.2 = true) : es.length ≤ tsz (es.map (·.2)) := by
  have := kids_row (es.map (·.2)) fun t ht => by
    obtain ⟨e, he, rfl⟩ := List.mem_map.mp ht
    exact h e he
  rw [List.length_map] at this
  omega
theorem ok_LC {f : Addr} {fd : FuncData} (F : FnP K "level_counts" s_level_counts f fd) (B : Bt mg) : FnOk P w K mg base CX0 1 f fd ["tree"] (spLC K) := by
  refine F.ok scLC (fun vs H Q E h => ?_) (fun cdv A outer s H vs Q E hr h => ?_)
  · obtain ⟨_, _, rfl, _⟩ := h
    rfl
  · obtain ⟨v, T, rfl, hd, hsz, q⟩ := h
    refine ⟨_, pss_cons (ps_set (i := 1) scLC.nd rfl (.inl rfl) (pe_lst pa_nil))
        (pss_cons (ps_set (i := 2) scLC.nd rfl (.inl rfl) (pe_imp (t' := tNoneL 0) (pe_ifExp (pt_cmp (pc_isN (pv 0))) (pe_lst pa_nil) (pe_lst (pa_cons (pv 0) pa_nil))) noneL_ok))
        (pss_cons (ps_while PassesOwn.never (pt_truth (pv 2) (fun _ => rfl)) (pss_cons (ps_expr (pe_bm PySem.F.plainAttrs_list PySem.F.slot_list_append PySem.F.type_list_append mt_append (pv 1) (pa_cons (pe_callB call_len_seq (by rfl) B.len PySem.boot_len (pa_cons (pv 2) pa_nil)) pa_nil)))
        (pss_one (ps_setLc2 (i := 2) (own := [("node", 3), ("part", 4)]) (vs1 := [4]) (g := gName 3) (g1 := gName 4) (tt := tYes) rfl scLC.nd rfl rfl (sw_true rfl rfl rfl (by decide +kernel)) (pi_list (pv 2)) (blkOk_by (N := NLC) (sc := defScope s_level_counts) (by decide +kernel)) (by decide)
          (fun _ _ _ _ _ => pg_name (i := 3) scLC.nd rfl (Or.inl rfl)) (fun _ _ _ _ _ => pts_nil) (fun _ _ _ _ _ => pi_tupK (K := K) rfl (pe_ix (ix_tupL (K := K) rfl) (pv 3) (pe_int) (fun _ _ => rfl))) (fun _ _ _ _ _ => pg_name (i := 4) scLC.nd rfl (Or.inl rfl)) (fun _ _ _ _ _ => pts_one (pt_cmp (pc_notN (pv 4)))) (fun _ _ _ _ _ => pv 4)))))
        (pss_one (ps_ret (pv 1))))), ?_⟩
    refine ⟨(by show 0 ≤ sizeLine; decide), fun cl ncl => ?_⟩
    have s1 : Same H (upd H cl (.lst [])) := same_new ncl
    have hc1 : (upd H cl (.lst [])) cl = some (.lst []) := upd_same
    generalize upd H cl (.lst []) = H1 at s1 hc1 ⊢
    refine ⟨v, rfl, fun rl nrl => ?_⟩
    have s2 : Same H1 (upd H1 rl (.lst (if v = .non then [] else [v]))) := same_new nrl
    have hr2 : (upd H1 rl (.lst (if v = .non then [] else [v]))) rl = some (.lst (if v = .non then [] else [v])) := upd_same
    have CR : cl ≠ rl := ne_of_none hc1 nrl
    generalize upd H1 rl (.lst (if v = .non then [] else [v])) = H2 at s2 hr2 ⊢
    have e2 := s1.trans s2
    have hhs := ht_size T
    obtain ⟨es0, hes, hent, hmap⟩ : ∃ es0 : VPile, (if v = .non then [] else [v]) = es0.map (·.1) ∧ (∀ e ∈ es0, Dp K H2 e.1 (qD e.2) ∧ nonnil e.2 = true ∧ e.2.ht ≤ T.ht) ∧ es0.map (·.2) = [T].filter nonnil := by
      cases T with
      | nil => exact ⟨[], by rw [if_pos (dp_nil hd)]; rfl, fun e h => by simp at h, rfl⟩
      | node p ch => exact ⟨[(v, .node p ch)], by rw [if_neg (dp_nonil hd)]; rfl, fun e h => by rw [List.mem_singleton.mp h]; exact ⟨Dp.same e2 hd, rfl, Nat.le_refl _⟩, rfl⟩
    rw [hes] at hr2
    have hsz0 : tsz (es0.map (·.2)) ≤ 500 := by
      rw [hmap]
      cases T with
      | nil => exact Nat.zero_le _
      | node p ch =>
        rw [show [QT.node p ch].filter nonnil = [QT.node p ch] from rfl]
        simpa [tsz] using hsz
    refine ⟨fun m σ H' => ∃ (rl : Addr) (n : Nat) (cs : List Nat) (es : VPile), σ = [some v, some (.ref cl), some (.ref rl), none, none] ∧ LvI K H H' cl rl T n cs es ∧ n = m, ⟨_, rl, T.ht, [], es0, rfl, ⟨e2, s2 _ _ hc1, hr2, CR, hent, by rw [hmap]; rfl, hsz0, by simp⟩, rfl⟩, ?_⟩
    clear hes hmap hent hr2 hsz0 nrl CR
    rintro m σ H6 ⟨rl, n, cs, es, rfl, I, rfl⟩
    refine ⟨_, rfl, _, .inl ⟨_, SqL.of I.row, rfl⟩, ?_⟩
    cases es with
    | nil =>
      refine iteF ⟨_, rfl, q H6 cl I.same ncl ?_⟩
      have ha := I.all
      have : lvls n (([] : VPile).map (·.2)) = [] := by cases n <;> rfl
      rw [this, List.append_nil] at ha
      rw [← ha]
      exact I.cnt
    | cons e es =>
      refine iteT ⟨fun σ' H' => ∃ m', m' < n ∧ ∃ (rl : Addr) (n : Nat) (cs : List Nat) (es : VPile), σ' = [some v, some (.ref cl), some (.ref rl), none, none] ∧ LvI K H H' cl rl T n cs es ∧ n = m', fun _ _ h => h, ?_⟩
      have hnn : ∀ x ∈ e :: es, nonnil x.2 = true := fun x hx => (I.ents x hx).2.1
      have hrl := row_len hnn
      have hsiz := I.siz
      have hlen := I.len
      have hall := I.all
      generalize hE : e :: es = E at I hnn hrl hsiz hall ⊢
      have hcnt := I.cnt
      have hrow := I.row
      have hne := I.ne
      refine ⟨_, rfl, .inl ⟨rfl, _, SqL.of hcnt⟩, _, rfl, rl, _, rfl, .inl (SqL.of hrow), cl, _, _, rfl, rfl, hcnt, (by rw [List.length_map]; exact small1000 (by omega)), ?_⟩
      have st7 : SameT H6 (upd H6 cl (.lst (cs.map iV ++ [.int ((E.map (·.1)).length : Nat)]))) := SameT.put hcnt
      have e7 : Same H (upd H6 cl (.lst (cs.map iV ++ [.int ((E.map (·.1)).length : Nat)]))) := fun x o hx => by
        rw [upd_ne (ne_of_none hx ncl)]
        exact I.same x o hx
      have hc7 : (upd H6 cl (.lst (cs.map iV ++ [.int ((E.map (·.1)).length : Nat)]))) cl = some (.lst ((cs ++ [E.length]).map iV)) := by rw [upd_same, List.length_map, List.map_append]; rfl
      have hr7 : (upd H6 cl (.lst (cs.map iV ++ [.int ((E.map (·.1)).length : Nat)]))) rl = some (.lst (E.map (·.1))) := by rw [upd_ne hne.symm]; exact hrow
      have hE7 : ∀ x ∈ E, Dp K (upd H6 cl (.lst (cs.map iV ++ [.int ((E.map (·.1)).length : Nat)]))) x.1 (qD x.2) ∧ nonnil x.2 = true ∧ x.2.ht ≤ n := fun x hx => ⟨dpQ_sameT st7 (I.ents x hx).1, (I.ents x hx).2⟩
      generalize upd H6 cl (.lst (cs.map iV ++ [.int ((E.map (·.1)).length : Nat)])) = H7 at e7 hc7 hr7 hE7 ⊢
      clear I hcnt hrow st7
      refine ⟨_, rfl, rl, rfl, ⟨_, SqL.of hr7⟩, fun D nD => ?_⟩
      refine lc2_it (walk_list (xs := E.map (·.1))) (fun i H8 => ∃ ns : VPile, Same H7 H8 ∧ H8 D = some (.lst (ns.map (·.1))) ∧ ns.map (·.2) = ((E.map (·.2)).take i).flatMap kidsQ ∧ ∀ x ∈ ns, Dp K H7 x.1 (qD x.2)) ?_ (fun i H8 _ ⟨_, h, _⟩ => SqL.of (h _ _ hr7)) ?_ ?_
      · exact ⟨[], same_new nD, upd_same, rfl, fun x hx => by simp at hx⟩
      · rintro i vv H9 H8 hi ⟨ns, e8, hD, hns, hdn⟩ ⟨rfl, hvv⟩
        rw [List.length_map] at hi
        have hx : E[i]? = some E[i] := List.getElem?_eq_getElem hi
        have etk : (E.map (·.2)).take (i + 1) = (E.map (·.2)).take i ++ [E[i].2] := by rw [List.take_succ_eq_append_getElem (by rw [List.length_map]; exact hi), List.getElem_map]
        generalize E[i] = x at hx etk
        rw [List.getElem?_map, hx] at hvv
        cases hvv
        have hxm := List.mem_of_getElem? hx
        obtain ⟨hdx, hnx, htx⟩ := hE7 x hxm
        obtain ⟨xv, xt⟩ := x
        have hnsl : ns.length ≤ 4 * 500 := by
          have h1 := congrArg List.length hns
          rw [List.length_map, List.length_flatMap] at h1
          have h2 : ∀ l : List QT, (l.map fun t => (kidsQ t).length).sum ≤ 4 * l.length := fun l => by
            induction l with
            | nil => exact Nat.le_refl _
            | cons t l ih =>
              have : (kidsQ t).length ≤ 4 := by
                cases t with
                | nil => exact Nat.zero_le _
                | node p ch => exact List.length_filter_le _ ([ch 0, ch 1, ch 2, ch 3] : List QT)
              rw [List.map_cons, List.sum_cons, List.length_cons]
              omega
          have h3 := h2 ((E.map (·.2)).take i)
          rw [List.length_take, List.length_map] at h3
          omega
        cases xt with
        | nil => cases hnx
        | node p ch =>
          obtain ⟨a, pb, c, v0, v1, v2, v3, hva, hs, hp, hc, d0, d1, d2, d3⟩ := dp_node hdx
          have hva' : xv = .ref a := hva
          subst hva'
          refine ⟨rfl, _, rfl, a, _, 1, .ref c, rfl, rfl, SqT.same e8 hs, atI_nat (j := 1) rfl, c, rfl, ⟨_, SqT.same e8 hc⟩, ?_⟩
          refine in_it (walk_tup (xs := [v0, v1, v2, v3])) (fun k H10 => ∃ ms : VPile, Same H7 H10 ∧ H10 D = some (.lst ((ns ++ ms).map (·.1))) ∧ ms.map (·.2) = (([ch 0, ch 1, ch 2, ch 3] : List QT).take k).filter nonnil ∧ ms.length ≤ k ∧ ∀ x ∈ ms, Dp K H7 x.1 (qD x.2)) ?_ (fun k H10 _ ⟨_, h, _⟩ => SqT.same h hc) ?_ ?_
          · exact ⟨[], e8, by rw [List.append_nil]; exact hD, rfl, Nat.zero_le _, fun x hx => by simp at hx⟩
          · rintro k pw H11 H10 hk ⟨ms, e10, hD10, hms, hml, hdm⟩ ⟨rfl, hpw⟩
            obtain ⟨j, rfl, hj2⟩ := kid_turn ch k hk
            obtain ⟨pw', hpw', dpw⟩ := part_val d0 d1 d2 d3 j
            rw [hpw'] at hpw
            cases hpw
            refine ⟨rfl, _, rfl, _, rfl, ?_⟩
            have hk4 := j.isLt
            cases hcj : ch j with
            | nil =>
              rw [hcj] at dpw
              have := dp_nil dpw
              subst this
              refine iteF ⟨ms, e10, hD10, ?_, by omega, hdm⟩
              rw [hj2, List.filter_append, hcj, hms]
              show _ = _ ++ []
              rw [List.append_nil]
            | node p' ch' =>
              have nn : (!decide (pw = V.non)) = true := by
                rw [hcj] at dpw
                rw [decide_eq_false (dp_nonil dpw)]
                rfl
              rw [nn]
              refine iteT ⟨_, rfl, _, hD10, (by rw [List.length_map, List.length_append, sizeLine_eq]; omega), ms ++ [(pw, ch j)], fun x o hx => ?_, ?_, ?_, by rw [List.length_append, List.length_singleton]; omega, fun x hx => ?_⟩
              · rw [upd_ne (ne_of_none hx nD)]
                exact e10 x o hx
              · rw [upd_same]
                simp
              · rw [hj2, List.map_append, List.filter_append, hms, hcj]
                rfl
              · rcases List.mem_append.mp hx with hx | hx
                · exact hdm x hx
                · rw [List.mem_singleton.mp hx]
                  exact dpw
          · rintro H10 ⟨ms, e10, hD10, hms, _, hdm⟩
            refine ⟨ns ++ ms, e10, hD10, ?_, fun x hx => ?_⟩
            · rw [etk, List.map_append, List.flatMap_append, hns, hms]
              simp [kidsQ]
            · rcases List.mem_append.mp hx with hx | hx
              · exact hdn x hx
              · exact hdm x hx
      · rintro H8 ⟨ns, e8, hD, hns, hdn⟩
        have hEl : (E.map (·.1)).length = (E.map (·.2)).length := by rw [List.length_map, List.length_map]
        rw [hEl, List.take_length] at hns
        have hpos : 1 ≤ n := by
          have hm : e ∈ E := by rw [← hE]; exact List.mem_cons_self ..
          obtain ⟨_, h1, h2⟩ := hE7 e hm
          cases ht : e.2 with
          | nil => rw [ht] at h1; cases h1
          | node p ch =>
            rw [ht] at h2
            simp only [QT.ht] at h2
            omega
        obtain ⟨n', rfl⟩ : ∃ n', n = n' + 1 := ⟨n - 1, by omega⟩
        have hkr := kids_row (E.map (·.2)) fun t ht => by
          obtain ⟨x, hx, rfl⟩ := List.mem_map.mp ht
          exact hnn x hx
        refine ⟨n', Nat.lt_succ_self _, D, n', cs ++ [E.length], ns, rfl, ⟨e7.trans e8, e8 _ _ hc7, hD, ne_of_none hc7 nD, fun x hx => ?_, ?_, ?_, ?_⟩, rfl⟩
        · have hx2 : x.2 ∈ ns.map (·.2) := List.mem_map.mpr ⟨x, hx, rfl⟩
          rw [hns] at hx2
          obtain ⟨t, ht, hk⟩ := List.mem_flatMap.mp hx2
          obtain ⟨y, hy, rfl⟩ := List.mem_map.mp ht
          have h1 := kid_mem hk
          have h2 := (hE7 y hy).2.2
          exact ⟨Dp.same e8 (hdn x hx), h1.1, by omega⟩
        · rw [hns, List.append_assoc, ← hall, ← hE, ← List.length_map (as := e :: es) (f := fun x : V × QT => x.2)]
          rfl
        · rw [hns]
          omega
        · rw [List.length_append, List.length_singleton]
          omega
end
end Q2

namespace Q2
open PySem PySem.Spec PyProof.Rows L2
theorem seqAt_nat {n d : Nat} (h : d < n) : seqIndex? (d : Int) n = some d := by
  unfold seqIndex?
  have h1 : ¬ ((d : Int) < 0) := by omega
  simp [h1, h]
theorem erase_map {α β : Type} (f : α → β) (l : List α) (k : Nat) : (l.map f).eraseIdx k = (l.eraseIdx k).map f := by
  induction l generalizing k with
  | nil => rfl
  | cons a l ih =>
    cases k with
    | zero => rfl
    | succ k => simp [ih]
theorem perm_erase {α : Type} : ∀ (l : List α) (k : Nat) (x : α), l[k]? = some x → l.Perm (x :: l.eraseIdx k)
  | [], _, _, h => by simp at h
  | a :: l, 0, x, h => by
    cases h
    exact .refl _
  | a :: l, k + 1, x, h => by
    have ih := perm_erase l k x (by simpa using h)
    exact (List.Perm.cons a ih).trans (List.Perm.swap x a _)
section
variable {P : Program} {w : World} {K : PySem.W.Frag} {mg : Str → Option Value} {base : Heap}
theorem scShuf : FnScope ["_law_source_here", "_law_some", "_law_left", "_law_found", "_law_turn"] ["_law_source_here", "_law_some"] (defScope s_law_shuffled) := ⟨rfl, rfl, rfl, by decide +kernel, rfl, by decide +kernel, by decide +kernel⟩
def spShuf : Sp := fun vs H Q _ => ∃ (s a : Addr) (ps : Pts), vs = [.ref s, .ref a] ∧ Src H s ∧ a ≠ s ∧ H a = some (.lst (refsOf ps)) ∧ ps.length ≤ 40 ∧ ∀ (l : Addr) (qs : Pts) H', Src H' s → Ex s H H' → H l = none → H' l = some (.lst (refsOf qs)) → qs.Perm ps → Q (.ref l) H'
theorem ok_shuf {f fT : Addr} {fd fdT : FuncData} (F : FnP K "_law_shuffled" s_law_shuffled f fd) (B : Bt mg) (C : B1 mg) (GT : FnOk P w K mg base CX0 2 fT fdT ["_law_source_here", "_law_bound"] spTake) (kT : PySem.W.keepIn K (.ref fT) = true) (bT : Binds K fdT ["_law_source_here", "_law_bound"] []) (gT : mg "_law_take" = some (.ref fT)) : FnOk P w K mg base CX0 3 f fd ["_law_source_here", "_law_some"] spShuf := by
  refine F.ok scShuf (fun vs H Q E h => ?_) (fun cdv A outer s H vs Q E hr h => ?_)
  · obtain ⟨_, _, _, rfl, _⟩ := h
    rfl
  · obtain ⟨so, a, ps, rfl, hS, hne, hA, hn, q⟩ := h
    refine ⟨_, pss_cons (ps_par (i := 2) (j := 3) rfl scShuf.nd rfl rfl (by decide) rfl rfl (pa_cons (pe_callTy call_list_of (by rfl) C.list (by decide +kernel) (pa_cons (pv 1) pa_nil)) (pa_cons (pe_lst pa_nil) pa_nil)) rfl)
      (pss_cons (ps_for PassesOwn.never rfl (pi_range1 (by rfl) B.range (pa_cons (pe_callB call_len_seq (by rfl) B.len PySem.boot_len (pa_cons (pv 1) pa_nil)) pa_nil)) (pg_name (i := 4) scShuf.nd rfl (.inl rfl))
        (pss_one (ps_expr (pe_bm PySem.F.plainAttrs_list PySem.F.slot_list_append PySem.F.type_list_append mt_append (pv 3) (pa_cons (pe_bm PySem.F.plainAttrs_list PySem.F.slot_list_pop PySem.F.type_list_pop mt_popAt (pv 2) (pa_cons (pe_call GT hr (by rfl) gT kT bT .nil pass0 (pa_cons (pv 0) (pa_cons (pe_callB call_len_seq (by rfl) B.len PySem.boot_len (pa_cons (pv 2) pa_nil)) pa_nil))) pa_nil)) pa_nil)))))
      (pss_one (ps_ret (pv 3)))), ?_⟩
    refine ⟨_, rfl, a, _, rfl, .inl (SqL.of hA), fun L nL => ⟨(by show 0 ≤ sizeLine; decide), fun Fd nFd => ?_⟩⟩
    have s1 : Same H (upd H L (.lst (refsOf ps))) := same_new nL
    have s2 : Same (upd H L (.lst (refsOf ps))) (upd (upd H L (.lst (refsOf ps))) Fd (.lst [])) := same_new nFd
    have hL2 := s2 _ _ (upd_same (H := H) (a := L) (o := .lst (refsOf ps)))
    have hF2 : (upd (upd H L (.lst (refsOf ps))) Fd (.lst [])) Fd = some (.lst []) := upd_same
    have LF : L ≠ Fd := ne_of_none upd_same nFd
    have F00 : H Fd = none := same_free s1 nFd
    have e2 := s1.trans s2
    generalize upd (upd H L (.lst (refsOf ps))) Fd (.lst []) = H2 at s2 hL2 hF2 e2 ⊢
    have Ls : L ≠ so := hS.ne nL
    have Fs : Fd ≠ so := hS.ne F00
    refine ⟨_, _, rfl, _, rfl, a, _, rfl, .inl (SqL.of (e2 _ _ hA)), ?_⟩
    rw [show (refsOf ps).length = ps.length from List.length_map ..]
    refine ⟨_, rfl, by omega, by omega, for_it walk_range (fun i σ H3 => ∃ (rs fs : Pts) (y4 : Option V), σ = [some (.ref so), some (.ref a), some (.ref L), some (.ref Fd), y4] ∧ Src H3 so ∧ Ex so H H3 ∧ H3 L = some (.lst (refsOf rs)) ∧ H3 Fd = some (.lst (refsOf fs)) ∧ (rs ++ fs).Perm ps ∧ rs.length + i = ps.length) ?_ (fun _ _ _ _ _ => trivial) ?_ ?_⟩
    · exact ⟨ps, [], none, rfl, hS.same e2, Ex.same e2, hL2, hF2, by rw [List.append_nil], rfl⟩
    · rintro i v σ H4 H3 hi ⟨rs, fs, y4, rfl, hS3, e3, hL3, hF3, pm, hlen⟩ ⟨rfl, hv⟩
      have hi' : i < ps.length := by
        have : (((ps.length : Nat) : Int)).toNat = ps.length := by omega
        omega
      have hrl : 0 < rs.length := by omega
      refine ⟨_, rfl, .inl ⟨rfl, _, SqL.of hF3⟩, _, rfl, .inl ⟨rfl, _, SqL.of hL3⟩, _, rfl, _, rfl, L, _, rfl, .inl (SqL.of hL3), ?_⟩
      rw [show (refsOf rs).length = rs.length from List.length_map ..]
      refine ⟨so, (rs.length : Nat), rfl, hS3, by omega, by omega, fun d H4 d0 d1 hS4 e4 => ?_⟩
      obtain ⟨d, rfl⟩ : ∃ k : Nat, d = (k : Int) := ⟨d.toNat, by omega⟩
      have hd : d < rs.length := by omega
      have hL4 := e4 _ _ hL3 Ls
      have hF4 := e4 _ _ hF3 Fs
      have hx : rs[d]? = some rs[d] := List.getElem?_eq_getElem hd
      generalize rs[d] = x at hx
      refine ⟨L, _, _, d, .ref x.1, rfl, rfl, hL4, by omega, by omega, (by rw [List.length_map]; exact seqAt_nat hd), (by rw [List.getElem?_map, hx]; rfl), ?_⟩
      rw [erase_map]
      have hF5 : (upd H4 L (.lst (refsOf (rs.eraseIdx d)))) Fd = some (.lst (refsOf fs)) := by rw [upd_ne LF.symm]; exact hF4
      have hfl : fs.length ≤ 40 := by
        have := pm.length_eq
        rw [List.length_append] at this
        omega
      refine ⟨Fd, _, _, rfl, rfl, hF5, (by rw [List.length_map]; exact small1000 (by omega)), ?_⟩
      refine ⟨rs.eraseIdx d, fs ++ [x], _, rfl, ?_, ?_, ?_, ?_, ?_, ?_⟩
      · obtain ⟨x1, y1, z1, h0, hs⟩ := hS4
        refine ⟨x1, y1, z1, h0, ?_⟩
        rw [upd_ne Fs.symm, upd_ne Ls.symm]
        exact hs
      · exact fun z o hz hzn => by
          rw [upd_ne (ne_of_none hz F00), upd_ne (ne_of_none hz nL)]
          exact e4 _ _ (e3 z o hz hzn) hzn
      · rw [upd_ne LF, upd_same]
      · rw [upd_same]
        simp
      · refine List.Perm.trans ?_ pm
        refine List.Perm.trans ?_ ((perm_erase rs d x hx).symm.append_right fs)
        rw [← List.append_assoc]
        exact List.perm_append_singleton x (rs.eraseIdx d ++ fs)
      · have h2 : (rs.eraseIdx d).length + 1 = rs.length := by
          have := (perm_erase rs d x hx).length_eq
          rw [List.length_cons] at this
          omega
        omega
    · rintro σ H3 ⟨rs, fs, y4, rfl, hS3, e3, hL3, hF3, pm, hlen⟩
      have h0 : (((ps.length : Nat) : Int)).toNat = ps.length := by omega
      rw [h0] at hlen
      have : rs = [] := List.length_eq_zero_iff.mp (by omega)
      subst this
      exact ⟨_, rfl, q Fd fs H3 hS3 e3 F00 hF3 (by simpa using pm)⟩
end
end Q2

namespace Q2
open PySem PySem.Spec PyProof.Rows L2
section
variable {prog : Program} {w : World} {A : Around} {E : Value → Shared → Prop} {s : Shared}
theorem sliceApplied_rev2 {sl : Addr} {tk : Tok} {Q : Int × Int × Nat → Shared → Prop} (hs : s.heap.IsSliceOf sl .none .none (.int (-1) tk)) (h : Q (1, -1, 2) s) :
    wpAny (model prog w) A (Builtin.Slice.sliceApplied (.ref sl) (pure ((2 : Nat) : Int))) Q E s := by
  obtain ⟨os, hos, hcs, hds⟩ := id hs
  unfold Builtin.Slice.sliceApplied Builtin.Slice.sliceFields
  refine wpAny_bind (wpAny_bind (wpAny_field hos hds (x := .none) rfl (wpAny_bind (wpAny_field hos hds (x := .none) rfl (wpAny_bind (wpAny_field hos hds (x := .int (-1) tk) rfl (wpAny_pure ?_)))))))
  refine wpAny_bind (slicePart_int ?_)
  show wpAny _ _ (if ((-1 : Int) == 0) = true then _ else _) _ _ s
  rw [if_neg (by decide)]
  refine wpAny_bind (slicePart_none (wpAny_bind (slicePart_none (wpAny_bind (wpAny_pure ?_)))))
  show wpAny _ _ (match Builtin.Slice.sliceAdjust none none (-1) ((2 : Nat) : Int) with | (lo, hi) => pure (lo, (-1 : Int), Builtin.Slice.slicePlaces lo hi (-1))) _ _ s
  rw [show Builtin.Slice.sliceAdjust none none (-1) ((2 : Nat) : Int) = (1, -1) by decide]
  show wpAny _ _ (pure ((1 : Int), (-1 : Int), Builtin.Slice.slicePlaces 1 (-1) (-1))) _ _ s
  rw [show Builtin.Slice.slicePlaces 1 (-1) (-1) = 2 by decide]
  exact wpAny_pure h
theorem getItem_tuple_rev2 {t sl : Addr} {u v : Value} {tk : Tok} {Q : Value → Shared → Prop} (ht : IsTup s.heap t #[u, v]) (hs : s.heap.IsSliceOf sl .none .none (.int (-1) tk))
    (h : Q (.ref s.heap.objs.size) { s with heap := s.heap.push { cls := .type "tuple", data := .seq #[v, u] } }) : wpAny (model prog w) A (getItem (.ref t) (.ref sl)) Q E s := by
  have hdrop : sizeOk (.seq #[v, u]) := by
    show 2 ≤ sizeLine
    decide
  obtain ⟨os, hos, hcs, hds⟩ := id hs
  have hTs : s.TypeIs (.ref sl) "slice" := ⟨os, hos, hcs⟩
  unfold getItem
  try with_reducible refine wpAny_holding ?_
  first | refine wpAny_bind (wpAny_pure ?_) | skip
  refine wpAny_bind (wpAny_sequenceKey ht.typeIs (by decide) ?_)
  refine wpAny_bind (wpAny_callSpecial?_slot (name := Str.ofString "__getitem__") ht.typeIs PyProof.Rows.slot_tuple_getitem
    (wpAny_call_entry PyProof.Rows.slot_tuple_getitem ht.typeIs entry_tuple_getitem ?_ (args_tuple_getitem _ _)))
  show wpAny _ _ (Builtin.Tuple.tupleItemsOf (.ref t) >>= _) _ _ s
  refine wpAny_bind (tupleItemsOf_ ht ?_)
  refine wpAny_bind (wpAny_typeOf hTs ?_)
  rw [if_pos (by decide)]
  refine wpAny_bind (sliceApplied_rev2 hs ?_)
  show wpAny _ _ (if ((1 : Int) == 0 && (-1 : Int) == 1 && (2 : Nat) == 2) = true then _ else _) _ _ s
  rw [if_neg (by decide)]
  have pick : ((List.range 2).filterMap fun (k : Nat) => (#[u, v] : Array Value)[((1 : Int) + (k : Int) * (-1)).toNat]?).toArray = #[v, u] := rfl
  rw [pick]
  first
    | exact wpAny_bind (m := Builtin.Tuple.tupleExact _) (wpAny_newObj_type (wpAny_pure ⟨_, rfl, wpAny_pure h⟩) hdrop)
    | exact wpAny_bind (m := Builtin.Tuple.tupleExact _) (wpAny_newObj_type (wpAny_bind (wpAny_pure (wpAny_pure ⟨_, rfl, wpAny_pure h⟩))) hdrop)
    | exact wpAny_bind (wpAny_bind (m := Builtin.Tuple.tupleExact _) (wpAny_newObj_type (wpAny_pure (wpAny_pure ⟨_, rfl, wpAny_pure h⟩)) hdrop))
    | exact wpAny_bind (wpAny_bind (m := Builtin.Tuple.tupleExact _) (wpAny_newObj_type (wpAny_pure ⟨_, rfl, wpAny_pure h⟩) hdrop))
end
section
variable {X : Cx}
/-- t[::-1] of a pair -/
def tRevT (K : PySem.W.Frag) (te : TE) : TE := fun σ H Q => te σ H fun x H1 => ∃ a p q, x = .ref a ∧ SqT K H1 a [p, q] ∧ ∀ r, H1 r = none → Q (.ref r) (upd H1 r (.tup [q, p]))
theorem pe_revT {e : Expr} {te : TE} {k : Nat} {p1 p2 p3 pos : Pos} (he : PE X e te) : PE X (.Subscript e (.Slice none none (some (.UnaryOp .USub (.Constant (.int 1) k p1) p2)) p3) pos) (tRevT X.K te) := by
  refine ⟨fun pins s σ H Q I h => ?_⟩
  refine Subscript_ (thn (he.run pins s σ H _ I h) fun v s1 ⟨x, H1, I1, r1, q1⟩ => ?_)
  obtain ⟨a, xp, xq, ex, hx, q⟩ := q1
  subst ex
  cases r1
  have hst : PO X (some (.UnaryOp .USub (.Constant (.int 1) k p1) p2)) (tPart (tUn (rU fun i => .int (-i)) (tC (.int 1)))) := po_some (pe_un un_neg pe_int)
  refine wpAny_Slice (thn (po_none.run pins s1 σ H1 (fun o H2 => o = none ∧ H2 = H1) I1 ⟨rfl, rfl⟩) fun vl s2 ⟨l, H2, I2, pl, el, e2⟩ => ?_)
  subst el e2
  refine thn (po_none.run pins s2 σ H2 (fun o H3 => o = none ∧ H3 = H2) I2 ⟨rfl, rfl⟩) fun vu s3 ⟨u, H3, I3, pu, eu, e3⟩ => ?_
  subst eu e3
  refine thn (hst.run pins s3 σ H3 (fun o H4 => o = some (-1) ∧ H4 = H3) I3 ⟨1, rfl, -1, rfl, rfl, rfl⟩) fun vs s4 ⟨o, H4, I4, ps, eo, e4⟩ => ?_
  subst eo e4
  have I5 : Inv X pins σ H4 { s4 with heap := s4.heap.push { cls := .type "slice", data := .fields #[vl, vu, vs] } } := I4.kept (t' := s4.toks) fun b ob q => Heap.get?_push_of_some _ q
  obtain ⟨its, r, ht, hz⟩ := I5.tuple hx
  cases pl
  cases pu
  cases ps

  cases r with
  | cons r1 rr =>
    rename_i u1 us
    cases rr with
    | cons r2 rr2 =>
      rename_i u2 us2
      cases rr2
      show wpAny (model X.prog X.w) X.A (subscriptTail e (.Slice none none (some (.UnaryOp .USub (.Constant (.int 1) k p1) p2)) p3) (.ref a) (.ref s4.heap.objs.size)) (EP X pins σ Q) X.xe { s4 with heap := s4.heap.push { cls := .type "slice", data := .fields #[.none, .none, .int (-1) _] } }
      refine tail_any (ops := [.ref a, .ref s4.heap.objs.size]) ht.typeIs (PyProof.Rows.slot_tuple_getitem.lookup) ?_ (by with_unfolding_all rfl)
      refine getItem_tuple_rev2 (u := u1) (v := u2) ht (Heap.IsSliceOf.new _ .none .none _) ?_
      refine ⟨.ref _, _, I5.laid (t' := s4.toks) (o := .tup [xq, xp]) (fun b ob q => Heap.get?_push_of_some _ q) (Nat.le_refl _) ?_, rfl, q _ (I5.hok.fresh (Nat.le_refl _))⟩
      exact ⟨by show 2 ≤ sizeLine; decide, [u2, u1], .cons r2 (.cons r1 .nil), IsTup.new _ _⟩
end
end Q2

namespace Q2
open PySem PySem.Spec PyProof.Rows L2
abbrev NMi : List Str := ["_law_wood", "_law_change", "_law_row", "_law_spot", "_law_point", "_law_k"]
theorem scMi : FnScope NMi ["_law_wood", "_law_change", "_law_row"] (defScope s_law_mirrored) := ⟨rfl, rfl, rfl, by decide +kernel, rfl, by decide +kernel, by decide +kernel⟩
def rowV (c : Fin 3) : List V := all4.map fun i => iV (pOf c i).val
theorem rowV_at (c : Fin 3) {i : Nat} (h : i < 4) : ∃ k : Fin 4, k.val = i ∧ (rowV c)[i]? = some (iV (pOf c k).val) := by
  match i, h with
  | 0, _ => exact ⟨0, rfl, rfl⟩
  | 1, _ => exact ⟨1, rfl, rfl⟩
  | 2, _ => exact ⟨2, rfl, rfl⟩
  | 3, _ => exact ⟨3, rfl, rfl⟩
section
variable {P : Program} {w : World} {K : PySem.W.Frag} {mg : Str → Option Value} {base : Heap}
def spMir (K : PySem.W.Frag) (n : Nat) : Sp := fun vs H Q _ => ∃ (v : V) (c : Fin 3) (rl : Addr) (T : QT), vs = [v, iV c.val, .ref rl] ∧ Dp K H v (qD T) ∧ T.ht ≤ n ∧ H rl = some (.lst (rowV c)) ∧ ∀ H' v', Same H H' → Dp K H' v' (qD (mapT (gOf c) (pOf c) T)) → Q v' H'
theorem ok_mir {f : Addr} {fd : FuncData} (F : FnP K "_law_mirrored" s_law_mirrored f fd) (B : Bt mg)
    (kI : PySem.W.keepIn K (.ref f) = true) (bI : Binds K fd ["_law_wood", "_law_change", "_law_row"] []) (gI : mg "_law_mirrored" = some (.ref f)) : ∀ n, FnOk P w K mg base CX0 (n + 1) f fd ["_law_wood", "_law_change", "_law_row"] (spMir K n)
  | 0 => by
    refine F.ok scMi (fun vs H Q E h => ?_) (fun cdv A outer s H vs Q E hr h => ?_)
    · obtain ⟨_, _, _, _, rfl, _⟩ := h
      rfl
    · obtain ⟨v, c, rl, T, rfl, hd, hh, hrow, q⟩ := h
      refine ⟨_, pss_cons (ps_if (pt_cmp (pc_isN (pv 0))) (pss_one (ps_ret pe_non)) pss_nil) pss_never, ?_⟩
      cases T with
      | nil =>
        have hv := dp_nil hd
        subst hv
        exact ⟨_, rfl, _, rfl, iteT (q H .non (fun _ _ h => h) hd)⟩
      | node p ch =>
        have : 1 ≤ (QT.node p ch).ht := by simp only [QT.ht]; omega
        omega
  | n + 1 => by
    have GI : FnOk P w K mg base CX0 (n + 1) f fd ["_law_wood", "_law_change", "_law_row"] (spMir K n) := ok_mir F B kI bI gI n
    refine F.ok scMi (fun vs H Q E h => ?_) (fun cdv A outer s H vs Q E hr h => ?_)
    · obtain ⟨_, _, _, _, rfl, _⟩ := h
      rfl
    · obtain ⟨v, c, rl, T, rfl, hd, hh, hrow, q⟩ := h
      refine ⟨_, pss_cons (ps_if (pt_cmp (pc_isN (pv 0))) (pss_one (ps_ret pe_non)) pss_nil)
        (pss_cons (ps_set (i := 3) scMi.nd rfl (.inl rfl) (pe_ix ix_tup (pv 0) (pe_int) (fun _ _ => rfl)))
        (pss_cons (ps_set (i := 4) scMi.nd rfl (.inl rfl) (pe_ix ix_list (pe_lst (pa_cons (pe_revT (pv 3)) (pa_cons (pe_tup (pa_cons (pe_un un_neg (pe_ix ix_tup (pv 3) pe_int (fun _ _ => rfl))) (pa_cons (pe_un un_neg (pe_ix ix_tup (pv 3) pe_int (fun _ _ => rfl))) pa_nil))) (pa_cons (pe_tup (pa_cons (pe_op op_add (pe_ix ix_tup (pv 3) pe_int (fun _ _ => rfl)) pe_int) (pa_cons (pe_op op_sub (pe_ix ix_tup (pv 3) pe_int (fun _ _ => rfl)) pe_int) pa_nil))) pa_nil)))) (pv 1) (fun _ _ => rfl)))
        (pss_one (ps_ret (pe_tup (pa_cons (pv 4) (pa_cons (pe_callTy call_tuple_of (by rfl) B.tuple (by decide +kernel) (pa_cons (pe_lc (own := [("_law_k", 5)]) (g := gName 5) (tt := tYes) rfl scMi.nd (pi_list (pv 2)) (blkOk_by (N := NMi) (sc := defScope s_law_mirrored) (by decide +kernel)) (fun _ _ _ _ _ => pg_name (i := 5) scMi.nd rfl (Or.inl rfl)) (fun _ _ _ _ _ => pts_nil) (fun _ _ _ _ _ => pe_call GI hr (by rfl) gI kI bI .nil pass0 (pa_cons (pe_ix (ix_tupL (K := K) rfl) (pe_ix (ix_tupL (K := K) rfl) (pv 0) (pe_int) (fun _ _ => rfl)) (pv 5) (fun _ _ => rfl)) (pa_cons (pv 1) (pa_cons (pv 2) pa_nil))))) pa_nil)) pa_nil))))))), ?_⟩
      cases T with
      | nil =>
        have hv := dp_nil hd
        subst hv
        exact ⟨_, rfl, _, rfl, iteT (q H .non (fun _ _ h => h) hd)⟩
      | node p ch =>
        obtain ⟨a, pb, cc, v0, v1, v2, v3, rfl, hs, hp, hc, d0, d1, d2, d3⟩ := dp_node hd
        refine ⟨_, rfl, _, rfl, iteF ?_⟩
        refine ⟨_, rfl, a, _, 0, .ref pb, rfl, rfl, hs, atI_nat (j := 0) rfl, ?_⟩
        refine ⟨_, rfl, pb, _, _, rfl, hp, fun t1 n1 => ?_⟩
        have s1 : Same H (upd H t1 (.tup [.int p.2, .int p.1])) := same_new n1
        have h1 : (upd H t1 (.tup [.int p.2, .int p.1])) t1 = some (.tup [.int p.2, .int p.1]) := upd_same
        generalize upd H t1 (.tup [.int p.2, .int p.1]) = H1 at s1 h1 ⊢
        have hp1 : SqT K H1 pb [.int p.1, .int p.2] := SqT.same s1 hp
        refine ⟨_, rfl, pb, _, 0, .int p.1, rfl, rfl, hp1, atI_nat (j := 0) rfl, _, rfl, _, rfl, pb, _, 1, .int p.2, rfl, rfl, hp1, atI_nat (j := 1) rfl, _, rfl, (by show 2 ≤ sizeLine; decide), fun t2 n2 => ?_⟩
        have s2 : Same H1 (upd H1 t2 (.tup [.int (-p.1), .int (-p.2)])) := same_new n2
        have h2 : (upd H1 t2 (.tup [.int (-p.1), .int (-p.2)])) t2 = some (.tup [.int (-p.1), .int (-p.2)]) := upd_same
        generalize upd H1 t2 (.tup [.int (-p.1), .int (-p.2)]) = H2 at s2 h2 ⊢
        have hp2 : SqT K H2 pb [.int p.1, .int p.2] := SqT.same s2 hp1
        refine ⟨_, rfl, pb, _, 0, .int p.1, rfl, rfl, hp2, atI_nat (j := 0) rfl, _, _, rfl, rfl, _, rfl, pb, _, 1, .int p.2, rfl, rfl, hp2, atI_nat (j := 1) rfl, _, _, rfl, rfl, (by show 2 ≤ sizeLine; decide), fun t3 n3 => ⟨(by show 3 ≤ sizeLine; decide), fun tl ntl => ?_⟩⟩
        have s3 : Same H2 (upd H2 t3 (.tup [.int (p.1 + 7), .int (p.2 - 9)])) := same_new n3
        have h3 : (upd H2 t3 (.tup [.int (p.1 + 7), .int (p.2 - 9)])) t3 = some (.tup [.int (p.1 + 7), .int (p.2 - 9)]) := upd_same
        generalize upd H2 t3 (.tup [.int (p.1 + 7), .int (p.2 - 9)]) = H3 at s3 h3 ntl ⊢
        have s4 : Same H3 (upd H3 tl (.lst [.ref t1, .ref t2, .ref t3])) := same_new ntl
        have h4 : (upd H3 tl (.lst [.ref t1, .ref t2, .ref t3])) tl = some (.lst [.ref t1, .ref t2, .ref t3]) := upd_same
        generalize upd H3 tl (.lst [.ref t1, .ref t2, .ref t3]) = H4 at s4 h4 ⊢
        have e24 := s3.trans s4
        have e04 := s1.trans (s2.trans e24)
        obtain ⟨tc, htc, hpc⟩ : ∃ tc, ([.ref t1, .ref t2, .ref t3] : List V)[c.val]? = some (.ref tc) ∧ PtR K H4 tc (gOf c p) := by
          match c with
          | 0 => exact ⟨t1, rfl, SqT.of ((s2.trans e24) _ _ h1)⟩
          | 1 => exact ⟨t2, rfl, SqT.of (e24 _ _ h2)⟩
          | 2 => exact ⟨t3, rfl, SqT.of (s4 _ _ h3)⟩
        refine ⟨_, rfl, tl, _, _, .ref tc, rfl, rfl, SqL.of h4, atI_nat (j := c.val) htc, ?_⟩
        have hrow4 := e04 _ _ hrow
        have hs4 := SqT.same e04 hs
        have hc4 := SqT.same e04 hc
        have dd0 := Dp.same e04 d0
        have dd1 := Dp.same e04 d1
        have dd2 := Dp.same e04 d2
        have dd3 := Dp.same e04 d3
        clear s1 s2 s3 s4 h1 h2 h3 h4 hp1 hp2 e24 d0 d1 d2 d3 hs hc hp n1 n2 n3 ntl
        refine ⟨_, rfl, _, rfl, rl, rfl, ⟨_, SqL.of hrow4⟩, fun D nD => lc_it (walk_list (xs := rowV c)) (fun i H5 => ∃ ws : List V, Same H4 H5 ∧ H5 D = some (.lst ws) ∧ ws.length = i ∧ ∀ k : Fin 4, k.val < i → ∃ x, ws[k.val]? = some x ∧ Dp K H5 x (qD (mapT (gOf c) (pOf c) (ch (pOf c k))))) ?_ (fun i H5 _ ⟨_, h, _⟩ => SqL.of (h _ _ hrow4)) ?_ ?_⟩
        · exact ⟨[], same_new nD, upd_same, rfl, fun k h => absurd h (Nat.not_lt_zero _)⟩
        · rintro i vv H6 H5 hi ⟨ws, e5, hD, hl, hws⟩ ⟨rfl, hvv⟩
          have i4 : i < 4 := hi
          obtain ⟨k, rfl, hk⟩ := rowV_at c i4
          rw [hk] at hvv
          cases hvv
          obtain ⟨pw, hpw, dpw⟩ := part_val (Dp.same e5 dd0) (Dp.same e5 dd1) (Dp.same e5 dd2) (Dp.same e5 dd3) (pOf c k)
          have hch := ht_child p ch (pOf c k)
          refine ⟨rfl, _, rfl, a, _, 1, .ref cc, rfl, rfl, SqT.same e5 hs4, atI_nat (j := 1) rfl, _, rfl, cc, _, _, pw, rfl, rfl, SqT.same e5 hc4, atI_nat (j := (pOf c k).val) hpw, _, rfl, _, rfl, pw, c, rl, ch (pOf c k), rfl, dpw, by omega, e5 _ _ hrow4, fun H6 v6 e6 d6 => ?_⟩
          have hD6 := e6 _ _ hD
          have st : SameT H6 (upd H6 D (.lst (ws ++ [v6]))) := SameT.put hD6
          refine ⟨_, hD6, (by exact small1000 (by omega)), ws ++ [v6], fun b o hb => ?_, upd_same, by rw [List.length_append, hl]; rfl, fun m hm => ?_⟩
          · rw [upd_ne (ne_of_none hb nD)]
            exact e6 _ _ (e5 b o hb)
          · by_cases z : m.val < k.val
            · obtain ⟨x, hx, dx⟩ := hws m z
              exact ⟨x, by rw [List.getElem?_append_left (by omega)]; exact hx, dpQ_sameT ((SameT.of e6).trans st) dx⟩
            · have : m = k := Fin.ext (by omega)
              subst this
              exact ⟨v6, by rw [List.getElem?_append_right (by omega), hl, Nat.sub_self]; rfl, dpQ_sameT st d6⟩
        · rintro H5 ⟨ws, e5, hD, hl, hws⟩
          have hl4 : ws.length = 4 := hl
          obtain ⟨w0, hw0, x0⟩ := hws 0 (by show 0 < 4; decide)
          obtain ⟨w1, hw1, x1⟩ := hws 1 (by show 1 < 4; decide)
          obtain ⟨w2, hw2, x2⟩ := hws 2 (by show 2 < 4; decide)
          obtain ⟨w3, hw3, x3⟩ := hws 3 (by show 3 < 4; decide)
          obtain ⟨u0, u1, u2, u3, rfl⟩ := four_of hl4
          cases hw0
          cases hw1
          cases hw2
          cases hw3
          refine ⟨D, _, rfl, .inl ⟨SqL.of hD, fun t nt => ⟨(by show 2 ≤ sizeLine; decide), fun r nr => ?_⟩⟩⟩
          have s6 : Same H5 (upd H5 t (.tup [w0, w1, w2, w3])) := same_new nt
          have ht6 : (upd H5 t (.tup [w0, w1, w2, w3])) t = some (.tup [w0, w1, w2, w3]) := upd_same
          generalize upd H5 t (.tup [w0, w1, w2, w3]) = H6 at s6 ht6 nr ⊢
          have s7 : Same H6 (upd H6 r (.tup [.ref tc, .ref t])) := same_new nr
          have e57 := s6.trans s7
          refine q _ _ (e04.trans (e5.trans e57)) ?_
          exact dp_mk (SqT.of upd_same) (SqT.same (e5.trans e57) hpc) (SqT.of (s7 _ _ ht6)) (Dp.same e57 x0) (Dp.same e57 x1) (Dp.same e57 x2) (Dp.same e57 x3)
end
end Q2

namespace Q2
open PySem PySem.Spec PyProof.Rows L2
section
variable {P : Program} {w : World} {K : PySem.W.Frag} {mg : Str → Option Value} {base : Heap}
theorem scPof : FnScope ["tree"] ["tree"] (defScope s_points_of) := ⟨rfl, rfl, rfl, by decide +kernel, rfl, by decide +kernel, by decide +kernel⟩
def spPof (K : PySem.W.Frag) : Sp := fun vs H Q _ => ∃ (v : V) (T : QT), vs = [v] ∧ Dp K H v (qD T) ∧ TOk T ∧ ∀ H' l qs, Same H H' → H l = none → PsAt K H' l qs → qs.map (·.2) = ptsQ T → Q (.ref l) H'
theorem ok_pof {f fQ fR : Addr} {fd fdQ fdR : FuncData} (F : FnP K "points_of" s_points_of f fd) (GQ : FnOk P w K mg base CX0 6 fQ fdQ ["value"] (spChkQ K)) (kQ : PySem.W.keepIn K (.ref fQ) = true) (bQ : Binds K fdQ ["value"] []) (gQ : mg "check_quarter" = some (.ref fQ))
    (GR : FnOk P w K mg base CX0 2 fR fdR ["tree"] (spReading K)) (kR : PySem.W.keepIn K (.ref fR) = true) (bR : Binds K fdR ["tree"] []) (gR : mg "reading" = some (.ref fR)) : FnOk P w K mg base CX0 7 f fd ["tree"] (spPof K) := by
  refine F.ok scPof (fun vs H Q E h => ?_) (fun cdv A outer s H vs Q E hr h => ?_)
  · obtain ⟨_, _, rfl, _⟩ := h
    rfl
  · obtain ⟨v, T, rfl, hd, ht, q⟩ := h
    refine ⟨_, pss_cons (ps_expr (pe_call GQ hr (by rfl) gQ kQ bQ .nil pass0 (pa_cons (pv 0) pa_nil))) (pss_one (ps_ret (pe_call GR (hr.mono (by decide)) (by rfl) gR kR bR .nil pass0 (pa_cons (pv 0) pa_nil)))), ?_⟩
    exact ⟨_, rfl, v, T, rfl, hd, ht, fun H1 e1 => ⟨_, rfl, v, T, rfl, Dp.same e1 hd, ht.2.2, fun H' l qs e2 nl hl ha => q H' l qs (e1.trans e2) (same_free e1 nl) hl ha⟩⟩
end
end Q2

namespace Q2
open PySem PySem.Spec PyProof.Rows L2
theorem op_inDK {X : Cx} {K : PySem.W.Frag} (hK : X.K = K) (hu : X.A.units + 65 < cLine) : OpR X (compareOp .In) (rInD K) := by
  subst hK
  exact op_inD hu
theorem pi_listK {X : Cx} {K : PySem.W.Frag} (hK : X.K = K) {tg l : Expr} {tl : TE} (hl : PE X l tl) : PI X tg l (iList K tl) := by
  subst hK
  exact pi_list hl
theorem eqv_nil (zs : List (Int × Int)) : PyData.eqv (.list (zs.map ptD)) (.list []) = zs.isEmpty := by
  cases zs with
  | nil => simp [PyData.eqv, PyData.eqvAll]
  | cons z zs => simp [PyData.eqv, PyData.eqvAll]
theorem dp_ptsL {K : PySem.W.Frag} {H : Hp} {a : Addr} {qs : Pts} (h : H a = some (.lst (refsOf qs))) (hp : AllP H qs) : Dp K H (.ref a) (.list ((qs.map (·.2)).map ptD)) := .lst (SqL.of h) (dp_pts hp)
abbrev NPr : List Str := ["_law_wood", "_law_spots_here", "_law_some", "_law_spot", "_law_one"]
theorem scPr : FnScope NPr ["_law_wood", "_law_spots_here"] (defScope s_law_parts_right) := ⟨rfl, rfl, rfl, by decide +kernel, rfl, by decide +kernel, by decide +kernel⟩
def scPr1 : Scope := match (defBody s_law_parts_right).getD 3 (.Pass ⟨0, 0, 0, 0⟩) with
  | .Return (some (.Call _ (.ListComp _ _ sc _ :: _) _ _)) _ => { sc with names := sc.names.map fun y => if (y.2 == .free) = true then (y.1, .cell) else y }
  | _ => defScope s_law_parts_right
section
variable {P : Program} {w : World} {K : PySem.W.Frag} {mg : Str → Option Value} {base : Heap}
def spPr (K : PySem.W.Frag) (n : Nat) : Sp := fun vs H Q _ => ∃ (v : V) (a : Addr) (qs : Pts), vs = [v, .ref a] ∧ Dp K H v (qD (treeQ (qs.map (·.2)))) ∧ H a = some (.lst (refsOf qs)) ∧ AllP H qs ∧ (qs.map (·.2)).Nodup ∧ qs.length ≤ 31 ∧ qs.length ≤ n ∧ ∀ H', Same H H' → Q (.bl true) H'
theorem ok_pr {f fP fB : Addr} {fd fdP fdB : FuncData} (F : FnP K "_law_parts_right" s_law_parts_right f fd) (Bm : Bt mg)
    (GPf : FnOk P w K mg base CX0 7 fP fdP ["tree"] (spPof K)) (kPf : PySem.W.keepIn K (.ref fP) = true) (bPf : Binds K fdP ["tree"] []) (gPf : mg "points_of" = some (.ref fP))
    (GB : FnOk P w K mg base CX0 5 fB fdB ["points"] (spGrown K)) (kB : PySem.W.keepIn K (.ref fB) = true) (bB : Binds K fdB ["points"] []) (gB : mg "built" = some (.ref fB))
    (kI : PySem.W.keepIn K (.ref f) = true) (bI : Binds K fd ["_law_wood", "_law_spots_here"] []) (gI : mg "_law_parts_right" = some (.ref f)) : ∀ n, FnOk P w K mg base CX0 (n + 8) f fd ["_law_wood", "_law_spots_here"] (spPr K n)
  | 0 => by
    refine F.ok scPr (fun vs H Q E h => ?_) (fun cdv A outer s H vs Q E hr h => ?_)
    · obtain ⟨_, _, _, rfl, _⟩ := h
      rfl
    · obtain ⟨v, a, qs, rfl, hd, hA, hP, nd, few, hn, q⟩ := h
      refine ⟨_, pss_cons (ps_if (pt_cmp (pc_isN (pv 0))) (pss_one (ps_ret (pe_cmpR (op_eqD (hu64 hr)) (pv 1) (pe_lst pa_nil) (nomark _)))) pss_nil) pss_never, ?_⟩
      have : qs = [] := List.length_eq_zero_iff.mp (by omega)
      subst this
      have hv := dp_nil hd
      subst hv
      refine ⟨_, rfl, _, rfl, iteT ⟨_, rfl, (by show 0 ≤ sizeLine; decide), fun l0 n0 => ?_⟩⟩
      have s0 : Same H (upd H l0 (.lst [])) := same_new n0
      refine ⟨_, .list [], dp_ptsL (qs := []) (s0 _ _ hA) (hP.same s0), .lst (SqL.of upd_same) .nil, ptDs_shaped _, ptDs_shaped [], ?_⟩
      rw [eqv_nil]
      exact q _ s0
  | n + 1 => by
    have GI : FnOk P w K mg base CX0 (n + 8) f fd ["_law_wood", "_law_spots_here"] (spPr K n) := ok_pr F Bm GPf kPf bPf gPf GB kB bB gB kI bI gI n
    refine F.ok scPr (fun vs H Q E h => ?_) (fun cdv A outer s H vs Q E hr h => ?_)
    · obtain ⟨_, _, _, rfl, _⟩ := h
      rfl
    · obtain ⟨v, a, qs, rfl, hd, hA, hP, nd, few, hn, q⟩ := h
      refine ⟨_, pss_cons (ps_if (pt_cmp (pc_isN (pv 0))) (pss_one (ps_ret (pe_cmpR (op_eqD (hu64 hr)) (pv 1) (pe_lst pa_nil) (nomark _)))) pss_nil)
        (pss_cons (ps_set (i := 2) scPr.nd rfl (.inr rfl) (pe_call GPf (hr.mono (by omega)) (by rfl) gPf kPf bPf .nil pass0 (pa_cons (pv 0) pa_nil)))
        (pss_cons (ps_if (pt_cmpR (op_neD (hu64 hr)) (pv 0) (pe_call GB (hr.mono (by omega)) (by rfl) gB kB bB .nil pass0 (pa_cons (pe_lc (own := [("_law_spot", 3)]) (g := gName 3) rfl scPr.nd (pi_list (pv 1)) (blkOk_by (N := NPr) (sc := defScope s_law_parts_right) (by decide +kernel)) (fun _ _ _ _ _ => pg_name (i := 3) scPr.nd rfl (Or.inl rfl)) (fun _ _ _ _ _ => pts_one (pt_cmpR (op_inDK (K := K) rfl (hu65 hr)) (pv 3) (pv 2) (by with_unfolding_all rfl))) (fun _ _ _ _ _ => pv 3)) pa_nil)) (by with_unfolding_all rfl)) (pss_one (ps_ret pe_bl)) pss_nil)
        (pss_one (ps_ret (pe_callB (cr_all rfl) (by rfl) Bm.all (by decide +kernel) (pa_cons (pe_lc (own := [("_law_one", 4)]) (g := gName 4) (tt := tYes) rfl scPr.nd (pi_tup (pe_ix ix_tup (pv 0) (pe_int) (fun _ _ => rfl))) (blkOk_by (N := NPr) (sc := defScope s_law_parts_right) (by decide +kernel)) (fun _ _ _ _ _ => pg_name (i := 4) scPr.nd rfl (Or.inr rfl)) (fun _ _ _ _ _ => pts_nil)
          (fun _ _ _ _ _ => pe_call GI hr (by rfl) gI kI bI .nil pass0 (pa_cons (pv 4) (pa_cons (pe_lc (own := [("_law_spot", 3)]) (g := gName 3) rfl scPr.nd (pi_listK (K := K) rfl (pv 1)) (blkOk_by (N := NPr) (sc := scPr1) (by decide +kernel)) (fun _ _ _ _ _ => pg_name (i := 3) scPr.nd rfl (Or.inl rfl)) (fun _ _ _ _ _ => pts_one (pt_cmpR (op_inDK (K := K) rfl (hu65 hr)) (pv 3) (pe_call GPf (hr.mono (by omega)) (by rfl) gPf kPf bPf .nil pass0 (pa_cons (pv 4) pa_nil)) (by with_unfolding_all rfl))) (fun _ _ _ _ _ => pv 3)) pa_nil)))) pa_nil)))))), ?_⟩
      cases qs with
      | nil =>
        have hv := dp_nil hd
        subst hv
        refine ⟨_, rfl, _, rfl, iteT ⟨_, rfl, (by show 0 ≤ sizeLine; decide), fun l0 n0 => ?_⟩⟩
        have s0 : Same H (upd H l0 (.lst [])) := same_new n0
        refine ⟨_, .list [], dp_ptsL (qs := []) (s0 _ _ hA) (hP.same s0), .lst (SqL.of upd_same) .nil, ptDs_shaped _, ptDs_shaped [], ?_⟩
        rw [eqv_nil]
        exact q _ s0
      | cons q0 r =>
        obtain ⟨tk, tht, tsz⟩ := tree_ok hP nd few
        have hL : ∀ {j : Fin 4}, ((r.map (·.2)).filter fun m => decide (sideF q0.2 m = j)).length ≤ r.length := fun {j} => by
          have := List.length_filter_le (fun m => decide (sideF q0.2 m = j)) (r.map (·.2))
          rw [List.length_map] at this
          exact this
        have hpart : ∀ j, (((q0 :: r).filter fun q => decide (q.2 ∈ ptsQ (treeQ ((r.map (·.2)).filter fun m => decide (sideF q0.2 m = j))))).map (·.2)) = (r.map (·.2)).filter fun m => decide (sideF q0.2 m = j) := fun j => by
          have h1 := list_part (p := q0.2) (r := r.map fun x : Addr × Int × Int => x.2) nd tk.1 j
          refine Eq.trans ?_ h1
          rw [show (q0.2 :: r.map fun x : Addr × Int × Int => x.2) = (q0 :: r).map fun x : Addr × Int × Int => x.2 from rfl, List.filter_map (l := q0 :: r)]
          rfl
        have hTe : treeQ ((q0 :: r).map (·.2)) = .node q0.2 fun j => treeQ ((r.map (·.2)).filter fun m => decide (sideF q0.2 m = j)) := treeQ_cons _ _
        have hqsT : ∀ x ∈ q0 :: r, x.2 ∈ ptsQ (treeQ ((q0 :: r).map (·.2))) := fun x hx => (pts_tree _).mem_iff.mpr (List.mem_map.mpr ⟨x, hx, rfl⟩)
        have hrn : r.length ≤ n := by
          simp only [List.length_cons] at hn
          omega
        have hr30 : r.length ≤ 30 := by
          simp only [List.length_cons] at few
          omega
        have hsh : SeqAt.shaped (qD (treeQ ((q0 :: r).map (·.2)))) = true := qD_shaped (by omega)
        have hd0 := hd
        rw [hTe] at hd
        obtain ⟨va, pb, c, v0, v1, v2, v3, rfl, hs, hp, hc, d0, d1, d2, d3⟩ := dp_node hd
        clear hd
        generalize hQ : q0 :: r = qs at *
        generalize hTq : treeQ (qs.map (·.2)) = T at *
        generalize hch : (fun j => treeQ ((r.map (·.2)).filter fun m => decide (sideF q0.2 m = j))) = ch at *
        have hchj : ∀ j, treeQ ((r.map (·.2)).filter fun m => decide (sideF q0.2 m = j)) = ch j := fun j => by rw [← hch]
        have d0 : Dp K H v0 (qD (ch 0)) := by rw [← hchj 0]; exact d0
        have d1 : Dp K H v1 (qD (ch 1)) := by rw [← hchj 1]; exact d1
        have d2 : Dp K H v2 (qD (ch 2)) := by rw [← hchj 2]; exact d2
        have d3 : Dp K H v3 (qD (ch 3)) := by rw [← hchj 3]; exact d3
        refine ⟨_, rfl, _, rfl, iteF ?_⟩
        refine ⟨_, rfl, _, T, rfl, hd0, tk, fun H1 sl sq e1 nsl hsl hsq => ?_⟩
        have hA1 := e1 _ _ hA
        have hP1 := hP.same e1
        refine ⟨_, rfl, _, rfl, a, rfl, ⟨_, SqL.of hA1⟩, fun D nD => lc_it (walk_list (xs := refsOf qs)) (fun k H2 => Same H1 H2 ∧ H2 D = some (.lst (refsOf (qs.take k)))) ⟨same_new nD, upd_same⟩ (fun k H2 _ h => SqL.of (h.1 _ _ hA1)) ?_ ?_⟩
        · rintro k vk H3 H2 hk ⟨e2, hD⟩ ⟨rfl, hvk⟩
          obtain ⟨x, hx, rfl⟩ := refs_at hvk
          obtain ⟨hkl, hkr⟩ := List.getElem?_eq_some_iff.mp hx
          have etk : qs.take (k + 1) = qs.take k ++ [x] := by rw [List.take_succ_eq_append_getElem hkl, hkr]
          have hxm := List.mem_of_getElem? hx
          refine ⟨rfl, ?_⟩
          refine ⟨_, rfl, _, rfl, ptD x.2, (ptsQ T).map ptD, dp_pt ((hP1 x hxm).same e2), by rw [← hsq]; exact dp_ps (hsl.same e2), ptD_shaped _, ptDs_shaped _, _, rfl, ?_⟩
          rw [any_pt, decide_eq_true (hqsT x hxm)]
          refine iteT ⟨_, rfl, _, hD, ?_, fun b o hb => ?_, ?_⟩
          · rw [List.length_map, List.length_take]
            exact small1000 (by omega)
          · rw [upd_ne (ne_of_none hb nD)]
            exact e2 b o hb
          · rw [upd_same, etk]
            simp
        · rintro H2 ⟨e2, hD⟩
          have hrl : (refsOf qs).length = qs.length := List.length_map ..
          rw [hrl, List.take_length] at hD
          have e12 := e1.trans e2
          refine ⟨D, qs, rfl, .inl hD, hP.same e12, nd, by omega, fun H3 v3' e3 d3' => ?_⟩
          rw [hTq] at d3'
          have e13 := e12.trans e3
          refine ⟨qD T, qD T, Dp.same e13 hd0, d3', hsh, hsh, _, rfl, ?_⟩
          rw [qD_refl]
          refine iteF ?_
          have hA3 := e13 _ _ hA
          have hP3 := hP.same e13
          refine ⟨_, rfl, va, _, 1, .ref c, rfl, rfl, SqT.same e13 hs, atI_nat (j := 1) rfl, c, rfl, ⟨_, SqT.same e13 hc⟩, fun E nE => lc_it (walk_tup (xs := [v0, v1, v2, v3])) (fun i H4 => Same H3 H4 ∧ H4 E = some (.lst ((List.replicate i true).map V.bl))) ⟨same_new nE, upd_same⟩ (fun i H4 _ h => SqT.same (e13.trans h.1) hc) ?_ ?_⟩
          · rintro i pw H5 H4 hi ⟨e4, hE⟩ ⟨rfl, hpw⟩
            have i4 : i < 4 := hi
            obtain ⟨j, rfl⟩ : ∃ j : Fin 4, j.val = i := ⟨⟨i, i4⟩, rfl⟩
            have e14 := e13.trans e4
            obtain ⟨pw', hpw', dpw⟩ := part_val (Dp.same e14 d0) (Dp.same e14 d1) (Dp.same e14 d2) (Dp.same e14 d3) j
            rw [hpw'] at hpw
            cases hpw
            have hpj := hpart j
            rw [hchj] at hpj
            have hA4 := e4 _ _ hA3
            have hP4 := hP3.same e4
            have hlj : ((r.map (·.2)).filter fun m => decide (sideF q0.2 m = j)).length ≤ r.length := hL
            have hlen : (qs.filter fun q => decide (q.2 ∈ ptsQ (ch j))).length ≤ r.length := by
              have h1 := congrArg List.length hpj
              rw [List.length_map] at h1
              omega
            have ndj : ((qs.filter fun q => decide (q.2 ∈ ptsQ (ch j))).map (·.2)).Nodup := nd.sublist (List.Sublist.map _ List.filter_sublist)
            have hTj : treeQ ((qs.filter fun q => decide (q.2 ∈ ptsQ (ch j))).map (·.2)) = ch j := by rw [hpj, hchj]
            have tkj : TOk (ch j) := by
              have := (tree_ok (H := H4) (qs := qs.filter fun q => decide (q.2 ∈ ptsQ (ch j))) (fun x hx => hP4 x (List.mem_filter.mp hx).1) ndj (by omega)).1
              rw [hTj] at this
              exact this
            refine ⟨rfl, _, rfl, _, rfl, a, rfl, ⟨_, SqL.of hA4⟩, fun D2 nD2 => lc_it (walk_list (xs := refsOf qs)) (fun k H5 => Same H4 H5 ∧ H5 D2 = some (.lst (refsOf ((qs.take k).filter fun q => decide (q.2 ∈ ptsQ (ch j)))))) ⟨same_new nD2, upd_same⟩ (fun k H5 _ h => SqL.of (h.1 _ _ hA4)) ?_ ?_⟩
            · rintro k vk H6 H5 hk ⟨e5, hD2⟩ ⟨rfl, hvk⟩
              obtain ⟨x, hx, rfl⟩ := refs_at hvk
              obtain ⟨hkl, hkr⟩ := List.getElem?_eq_some_iff.mp hx
              have etk : qs.take (k + 1) = qs.take k ++ [x] := by rw [List.take_succ_eq_append_getElem hkl, hkr]
              have hxm := List.mem_of_getElem? hx
              refine ⟨rfl, ?_⟩
              refine ⟨_, rfl, _, rfl, pw, ch j, rfl, Dp.same e5 dpw, tkj, fun H7 l7 q7 e7 n7 h7 m7 => ?_⟩
              refine ⟨ptD x.2, (ptsQ (ch j)).map ptD, dp_pt ((hP4 x hxm).same (e5.trans e7)), by rw [← m7]; exact dp_ps h7, ptD_shaped _, ptDs_shaped _, _, rfl, ?_⟩
              rw [any_pt]
              have hD7 := e7 _ _ hD2
              by_cases cx : x.2 ∈ ptsQ (ch j)
              · rw [decide_eq_true cx]
                refine iteT ⟨_, rfl, _, hD7, ?_, fun b o hb => ?_, ?_⟩
                · rw [List.length_map]
                  have h1 : ((qs.take k).filter fun q => decide (q.2 ∈ ptsQ (ch j))).length ≤ (qs.take k).length := List.length_filter_le ..
                  rw [List.length_take] at h1
                  exact small1000 (by omega)
                · rw [upd_ne (ne_of_none hb nD2)]
                  exact e7 _ _ (e5 b o hb)
                · rw [upd_same, etk, List.filter_append, show [x].filter (fun q => decide (q.2 ∈ ptsQ (ch j))) = [x] by simp [cx]]
                  simp
              · rw [decide_eq_false cx]
                refine iteF ⟨e5.trans e7, ?_⟩
                rw [hD7, etk, List.filter_append, show [x].filter (fun q => decide (q.2 ∈ ptsQ (ch j))) = [] by simp [cx], List.append_nil]
            · rintro H5 ⟨e5, hD2⟩
              rw [hrl, List.take_length] at hD2
              refine ⟨pw, D2, _, rfl, by rw [hTj]; exact Dp.same e5 dpw, hD2, fun x hx => (hP4 x (List.mem_filter.mp hx).1).same e5, ndj, by omega, by omega, fun H6 e6 => ?_⟩
              have e46 := e5.trans e6
              refine ⟨_, e46 _ _ hE, ?_, fun b o hb => ?_, ?_⟩
              · rw [List.length_map, List.length_replicate]
                exact small1000 (by omega)
              · rw [upd_ne (ne_of_none hb nE)]
                exact e46 _ _ (e4 b o hb)
              · rw [upd_same, List.replicate_succ', List.map_append]
                rfl
          · rintro H4 ⟨e4, hE⟩
            refine ⟨E, _, rfl, SqL.of hE, ?_⟩
            rw [all_true]
            exact q _ (e13.trans e4)
end
end Q2

namespace Q2
open PySem PySem.Spec PyProof.Rows L2
abbrev IP := Int × Int
abbrev vals (qs : Pts) : List IP := qs.map (·.2)
theorem same_app {H H' : Hp} {D : Addr} {o : HO} (e : Same H H') (hD : H D = none) : Same H (upd H' D o) := fun b o' hb => by
  rw [upd_ne (ne_of_none hb hD)]
  exact e b o' hb
theorem cut_to {xs : List V} {n : Nat} (h : n ≤ xs.length) : cutV xs none (some (n : Int)) = xs.take n := by
  unfold cutV
  rw [HT.sIx_none, HT.sIx_nat, Nat.min_eq_left h, Nat.sub_zero, List.drop_zero]
theorem op_notInDK {X : Cx} {K : PySem.W.Frag} (hK : X.K = K) (hu : X.A.units + 65 < cLine) : OpR X (compareOp .NotIn) (rNotInD K) := by
  subst hK
  exact op_notInD hu
theorem sl_listK {X : Cx} {K : PySem.W.Frag} (hK : X.K = K) : SlR X (rSlL K) := by
  subst hK
  exact sl_list
theorem PtAt.mono {H : Hp} {B B' : Int} {q : Addr × Int × Int} (hb : B ≤ B') (h : PtAt H B q) : PtAt H B' q := ⟨h.1, ⟨by have := h.2.1.1; omega, by have := h.2.1.2; omega⟩, ⟨by have := h.2.2.1; omega, by have := h.2.2.2; omega⟩⟩
def InB (B : Int) (z : IP) : Prop := (-B ≤ z.1 ∧ z.1 ≤ B) ∧ (-B ≤ z.2 ∧ z.2 ≤ B)
abbrev tupV (z : IP) : HO := .tup [.int z.1, .int z.2]
def MapSt (H0 H : Hp) (D : Addr) (B : Int) (g : IP → IP) (zs : List IP) (i : Nat) : Prop := ∃ qs : Pts, H D = some (.lst (refsOf qs)) ∧ vals qs = (zs.take i).map g ∧ qs.length ≤ i ∧ (∀ q ∈ qs, PtAt H B q) ∧ Same H0 H
theorem map_start {H0 : Hp} {D : Addr} {B : Int} {g : IP → IP} {zs : List IP} (hD : H0 D = none) : MapSt H0 (upd H0 D (.lst [])) D B g zs 0 := ⟨[], upd_same, rfl, Nat.le_refl _, fun q hq => (List.not_mem_nil hq).elim, same_new hD⟩
theorem take_map {g : IP → IP} {zs : List IP} {i : Nat} {z : IP} (h : zs[i]? = some z) : (zs.take (i + 1)).map g = (zs.take i).map g ++ [g z] := by
  obtain ⟨hi, rfl⟩ := List.getElem?_eq_some_iff.mp h
  rw [List.take_succ_eq_append_getElem hi, List.map_append]
  rfl
/-- one more, that stands already -/
theorem map_put {H0 H H' : Hp} {D t : Addr} {B : Int} {g : IP → IP} {zs : List IP} {i : Nat} {z : IP} (hD : H0 D = none) (m : MapSt H0 H D B g zs i) (hz : zs[i]? = some z) (e : Same H H') (ht : PtAt H' B (t, g z)) (htD : t ≠ D) (hi : i ≤ 1000) :
    ∃ acc, H' D = some (.lst acc) ∧ acc.length < sizeLine ∧ MapSt H0 (upd H' D (.lst (acc ++ [.ref t]))) D B g zs (i + 1) := by
  obtain ⟨qs, h1, h2, h3, h4, h5⟩ := m
  have k : ∀ q : Addr × Int × Int, PtAt H' B q → PtAt (upd H' D (.lst (refsOf qs ++ [.ref t]))) B q := fun q hq => ⟨by
    have := hq.1
    by_cases e2 : q.1 = D
    · rw [e2, e _ _ h1] at this
      cases this
    · rw [upd_ne e2]
      exact this, hq.2⟩
  refine ⟨_, e _ _ h1, by rw [List.length_map]; exact small1000 (by omega), qs ++ [(t, g z)], ?_, ?_, ?_, ?_, ?_⟩
  · rw [upd_same]
    simp [refsOf]
  · rw [take_map hz, ← h2]
    simp [vals]
  · rw [List.length_append, List.length_singleton]
    omega
  · intro q hq
    rcases List.mem_append.mp hq with hq | hq
    · exact k q ((h4 q hq).same e)
    · rw [List.mem_singleton.mp hq]
      exact k _ ht
  · intro b o hb
    rw [upd_ne (ne_of_none hb hD)]
    exact e _ _ (h5 _ _ hb)
/-- one more, just made -/
theorem map_new {H0 H H' : Hp} {D t : Addr} {B : Int} {g : IP → IP} {zs : List IP} {i : Nat} {z : IP} (hD : H0 D = none) (m : MapSt H0 H D B g zs i) (hz : zs[i]? = some z) (e : Same H H') (ht : H' t = none) (hb : InB B (g z)) (hi : i ≤ 1000) :
    ∃ acc, (upd H' t (tupV (g z))) D = some (.lst acc) ∧ acc.length < sizeLine ∧ MapSt H0 (upd (upd H' t (tupV (g z))) D (.lst (acc ++ [.ref t]))) D B g zs (i + 1) := by
  have hD' : ∃ o, H' D = some o := by
    obtain ⟨qs, h1, _⟩ := m
    exact ⟨_, e _ _ h1⟩
  obtain ⟨o, ho⟩ := hD'
  exact map_put hD m hz (e.trans (same_new ht)) ⟨upd_same, hb⟩ (ne_of_none ho ht).symm hi
theorem map_same {H0 H H' : Hp} {D : Addr} {B : Int} {g : IP → IP} {zs : List IP} {i : Nat} (m : MapSt H0 H D B g zs i) (e : Same H H') : MapSt H0 H' D B g zs i := by
  obtain ⟨qs, h1, h2, h3, h4, h5⟩ := m
  exact ⟨qs, e _ _ h1, h2, h3, fun q hq => (h4 q hq).same e, h5.trans e⟩
theorem map_end {H0 H : Hp} {D : Addr} {B : Int} {g : IP → IP} {zs : List IP} (m : MapSt H0 H D B g zs zs.length) : ∃ qs : Pts, H D = some (.lst (refsOf qs)) ∧ vals qs = zs.map g ∧ (∀ q ∈ qs, PtAt H B q) ∧ Same H0 H := by
  obtain ⟨qs, h1, h2, _, h4, h5⟩ := m
  rw [List.take_length] at h2
  exact ⟨qs, h1, h2, h4, h5⟩
/-- a list of points that stands -/
structure PL (H : Hp) (a : Addr) (B : Int) (qs : Pts) : Prop where
  l : H a = some (.lst (refsOf qs))
  p : ∀ q ∈ qs, PtAt H B q
theorem PL.same {H H' : Hp} {a : Addr} {B : Int} {qs : Pts} (h : PL H a B qs) (e : Same H H') : PL H' a B qs := ⟨e _ _ h.l, fun q hq => (h.p q hq).same e⟩
theorem PL.at {H : Hp} {a : Addr} {B : Int} {qs : Pts} (h : PL H a B qs) {i : Nat} {v : V} (hv : (refsOf qs)[i]? = some v) : ∃ q, qs[i]? = some q ∧ v = .ref q.1 ∧ PtAt H B q := by
  obtain ⟨q, hq, rfl⟩ := refs_at hv
  exact ⟨q, hq, rfl, h.p q (List.mem_of_getElem? hq)⟩
theorem PL.mono {H : Hp} {a : Addr} {B B' : Int} {qs : Pts} (hb : B ≤ B') (h : PL H a B qs) : PL H a B' qs := ⟨h.l, fun q hq => (h.p q hq).mono hb⟩
theorem vals_at {qs : Pts} {i : Nat} {q : Addr × Int × Int} (h : qs[i]? = some q) : (vals qs)[i]? = some q.2 := by
  rw [List.getElem?_map, h]
  rfl
theorem vals_len (qs : Pts) : (vals qs).length = qs.length := List.length_map ..
theorem at_vals {qs rs : Pts} {g : IP → IP} (h : vals rs = (vals qs).map g) {i : Nat} {q : Addr × Int × Int} (hq : qs[i]? = some q) : ∃ t, rs[i]? = some (t, g q.2) := by
  have h1 : (vals rs)[i]? = some (g q.2) := by
    rw [h, List.getElem?_map, vals_at hq]
    rfl
  rw [List.getElem?_map] at h1
  cases z : rs[i]? with
  | none => rw [z] at h1; cases h1
  | some r =>
    rw [z] at h1
    exact ⟨r.1, by rw [← Option.some.inj h1]⟩
/-- the first ones of equal points -/
def FstSt (H0 H : Hp) (D : Addr) (ps : Pts) (i : Nat) : Prop := ∃ qs : Pts, H D = some (.lst (refsOf qs)) ∧ (vals qs).Nodup ∧ (∀ q ∈ qs, q ∈ ps.take i) ∧ qs.length ≤ i ∧ Same H0 H
theorem fst_start {H0 : Hp} {D : Addr} {ps : Pts} (hD : H0 D = none) : FstSt H0 (upd H0 D (.lst [])) D ps 0 := ⟨[], upd_same, List.nodup_nil, fun q hq => (List.not_mem_nil hq).elim, Nat.le_refl _, same_new hD⟩
theorem fst_skip {H0 H H' : Hp} {D : Addr} {ps : Pts} {i : Nat} (m : FstSt H0 H D ps i) (e : Same H H') : FstSt H0 H' D ps (i + 1) := by
  obtain ⟨qs, h1, h2, h3, h4, h5⟩ := m
  refine ⟨qs, e _ _ h1, h2, fun q hq => ?_, by omega, h5.trans e⟩
  have := h3 q hq
  rw [List.take_add_one]
  exact List.mem_append_left _ this
theorem fst_put {H0 H H' : Hp} {D : Addr} {ps : Pts} {i : Nat} {q : Addr × Int × Int} (hD : H0 D = none) (m : FstSt H0 H D ps i) (hq : ps[i]? = some q) (e : Same H H') (out : q.2 ∉ vals (ps.take i)) (hi : i ≤ 1000) :
    ∃ acc, H' D = some (.lst acc) ∧ acc.length < sizeLine ∧ FstSt H0 (upd H' D (.lst (acc ++ [.ref q.1]))) D ps (i + 1) := by
  obtain ⟨qs, h1, h2, h3, h4, h5⟩ := m
  refine ⟨_, e _ _ h1, by rw [List.length_map]; exact small1000 (by omega), qs ++ [q], ?_, ?_, ?_, ?_, ?_⟩
  · rw [upd_same]
    simp [refsOf]
  · show (List.map _ (qs ++ [q])).Nodup
    rw [List.map_append]
    refine nd_snoc h2 fun hm => out ?_
    obtain ⟨r, hr, e2⟩ := List.mem_map.mp hm
    exact List.mem_map.mpr ⟨r, h3 r hr, e2⟩
  · intro r hr
    obtain ⟨hi2, rfl⟩ := List.getElem?_eq_some_iff.mp hq
    rw [List.take_succ_eq_append_getElem hi2]
    rcases List.mem_append.mp hr with hr | hr
    · exact List.mem_append_left _ (h3 r hr)
    · exact List.mem_append_right _ hr
  · rw [List.length_append, List.length_singleton]
    omega
  · intro b o hb
    rw [upd_ne (ne_of_none hb hD)]
    exact e _ _ (h5 _ _ hb)
end Q2

namespace Q2
open PySem PySem.Spec PyProof.Rows L2
section
variable {P : Program} {w : World} {K : PySem.W.Frag} {mg : Str → Option Value} {base : Heap}
theorem scLvl : FnScope ["tree"] ["tree"] (defScope s_levels) := ⟨rfl, rfl, rfl, by decide +kernel, rfl, by decide +kernel, by decide +kernel⟩
def spLvl (K : PySem.W.Frag) : Sp := fun vs H Q _ => ∃ (v : V) (T : QT), vs = [v] ∧ Dp K H v (qD T) ∧ TOk T ∧ ∀ H' l, Same H H' → H l = none → H' l = some (.lst ((levelsQ T).map iV)) → Q (.ref l) H'
theorem ok_lvl {f fQ fL : Addr} {fd fdQ fdL : FuncData} (F : FnP K "levels" s_levels f fd) (GQ : FnOk P w K mg base CX0 6 fQ fdQ ["value"] (spChkQ K)) (kQ : PySem.W.keepIn K (.ref fQ) = true) (bQ : Binds K fdQ ["value"] []) (gQ : mg "check_quarter" = some (.ref fQ))
    (GL : FnOk P w K mg base CX0 1 fL fdL ["tree"] (spLC K)) (kL : PySem.W.keepIn K (.ref fL) = true) (bL : Binds K fdL ["tree"] []) (gL : mg "level_counts" = some (.ref fL)) : FnOk P w K mg base CX0 7 f fd ["tree"] (spLvl K) := by
  refine F.ok scLvl (fun vs H Q E h => ?_) (fun cdv A outer s H vs Q E hr h => ?_)
  · obtain ⟨_, _, rfl, _⟩ := h
    rfl
  · obtain ⟨v, T, rfl, hd, ht, q⟩ := h
    refine ⟨_, pss_cons (ps_expr (pe_call GQ hr (by rfl) gQ kQ bQ .nil pass0 (pa_cons (pv 0) pa_nil))) (pss_one (ps_ret (pe_call GL (hr.mono (by decide)) (by rfl) gL kL bL .nil pass0 (pa_cons (pv 0) pa_nil)))), ?_⟩
    exact ⟨_, rfl, v, T, rfl, hd, ht, fun H1 e1 => ⟨_, rfl, v, T, rfl, Dp.same e1 hd, ht.2.2, fun H' l e2 nl hl => q H' l (e1.trans e2) (same_free e1 nl) hl⟩⟩
end
end Q2

namespace Q2
open PySem PySem.Spec PyProof.Rows L2
section
variable {P : Program} {w : World} {K : PySem.W.Frag} {mg : Str → Option Value} {base : Heap}
theorem scDep : FnScope ["tree"] ["tree"] (defScope s_depth) := ⟨rfl, rfl, rfl, by decide +kernel, rfl, by decide +kernel, by decide +kernel⟩
def spDep (K : PySem.W.Frag) : Sp := fun vs H Q _ => ∃ (v : V) (T : QT), vs = [v] ∧ Dp K H v (qD T) ∧ TOk T ∧ ∀ H', Same H H' → Q (iV (levelsQ T).length) H'
theorem ok_dep {f fQ fL : Addr} {fd fdQ fdL : FuncData} (F : FnP K "depth" s_depth f fd) (B : Bt mg) (GQ : FnOk P w K mg base CX0 6 fQ fdQ ["value"] (spChkQ K)) (kQ : PySem.W.keepIn K (.ref fQ) = true) (bQ : Binds K fdQ ["value"] []) (gQ : mg "check_quarter" = some (.ref fQ))
    (GL : FnOk P w K mg base CX0 1 fL fdL ["tree"] (spLC K)) (kL : PySem.W.keepIn K (.ref fL) = true) (bL : Binds K fdL ["tree"] []) (gL : mg "level_counts" = some (.ref fL)) : FnOk P w K mg base CX0 7 f fd ["tree"] (spDep K) := by
  refine F.ok scDep (fun vs H Q E h => ?_) (fun cdv A outer s H vs Q E hr h => ?_)
  · obtain ⟨_, _, rfl, _⟩ := h
    rfl
  · obtain ⟨v, T, rfl, hd, ht, q⟩ := h
    refine ⟨_, pss_cons (ps_expr (pe_call GQ hr (by rfl) gQ kQ bQ .nil pass0 (pa_cons (pv 0) pa_nil))) (pss_one (ps_ret (pe_callB call_len_seq (by rfl) B.len PySem.boot_len (pa_cons (pe_call GL (hr.mono (by decide)) (by rfl) gL kL bL .nil pass0 (pa_cons (pv 0) pa_nil)) pa_nil)))), ?_⟩
    refine ⟨_, rfl, v, T, rfl, hd, ht, fun H1 e1 => ⟨_, rfl, v, T, rfl, Dp.same e1 hd, ht.2.2, fun H' l e2 nl hl => ?_⟩⟩
    refine ⟨l, _, rfl, .inl (SqL.of hl), ?_⟩
    rw [List.length_map]
    exact q H' (e1.trans e2)
end
end Q2

namespace Q2
open PySem PySem.Spec PyProof.Rows L2
def spLaw (K : PySem.W.Frag) : Sp := fun vs H Q _ => ∃ (a : Addr) (ns : List Int), vs = [.ref a] ∧ SqL K H a (ns.map V.int) ∧ ns.length ≤ 63 ∧ ∀ H', Q (.bl true) H'
/-- what stands between two turns -/
structure TurnI (K : PySem.W.Frag) (H : Hp) (s a c : Addr) (ps : Pts) (cells : List V) (v : V) (T : QT) : Prop where
  src : Src H s
  spots : Spots H Lo a ps
  cl : H c = some (.lst cells)
  tree : Dp K H v (qD T)
theorem TurnI.same {K : PySem.W.Frag} {H H' : Hp} {s a c : Addr} {ps : Pts} {cells : List V} {v : V} {T : QT} (h : TurnI K H s a c ps cells v T) (e : Same H H') : TurnI K H' s a c ps cells v T := ⟨h.src.same e, h.spots.same e, e _ _ h.cl, Dp.same e h.tree⟩
theorem TurnI.ex {K : PySem.W.Frag} {H H' : Hp} {s a c : Addr} {ps : Pts} {cells : List V} {v : V} {T : QT} (h : TurnI K H s a c ps cells v T) (hs : Src H' s) (ha : a ≠ s) (hc : c ≠ s) (e : Ex s H H') : TurnI K H' s a c ps cells v T := ⟨hs, h.spots.ex h.src ha e, e _ _ h.cl hc, dpQ_sameT (sameT_ex h.src e) h.tree⟩
theorem src_ne {H H5 : Hp} {s a : Addr} (hS : Src H s) (na : H a = none) : a ≠ s := by
  obtain ⟨x, y, z, _, hs⟩ := hS
  intro z
  rw [z] at na
  rw [na] at hs
  cases hs
end Q2

namespace Q2
open PySem PySem.Spec PyProof.Rows L2
abbrev Hb : Int := 500000000000000000000000000000
theorem lvls_sum : ∀ (n : Nat) (row : List QT), (∀ t ∈ row, nonnil t = true) → (∀ t ∈ row, t.ht ≤ n) → (lvls n row).sum = tsz row
  | 0, [], _, _ => rfl
  | 0, t :: row, hn, hh => by
    have h1 := hn t (List.mem_cons_self ..)
    have h2 := hh t (List.mem_cons_self ..)
    cases t with
    | nil => cases h1
    | node p ch =>
      simp only [QT.ht] at h2
      omega
  | n + 1, [], _, _ => rfl
  | n + 1, r :: rs, hn, hh => by
    have hk := kids_row (r :: rs) hn
    have ih := lvls_sum n ((r :: rs).flatMap kidsQ) (fun t ht => by
      obtain ⟨x, _, hx⟩ := List.mem_flatMap.mp ht
      exact (kid_mem hx).1) (fun t ht => by
      obtain ⟨x, hm, hx⟩ := List.mem_flatMap.mp ht
      have h1 := (kid_mem hx).2
      have h2 := hh x hm
      omega)
    show ((r :: rs).length :: lvls n ((r :: rs).flatMap kidsQ)).sum = _
    rw [List.sum_cons, ih]
    omega
theorem lvls_len : ∀ (n : Nat) (row : List QT), (lvls n row).length ≤ n
  | 0, _ => Nat.le_refl _
  | n + 1, [] => Nat.zero_le _
  | n + 1, r :: rs => by
    have ih := lvls_len n ((r :: rs).flatMap kidsQ)
    show (_ :: lvls n ((r :: rs).flatMap kidsQ)).length ≤ n + 1
    rw [List.length_cons]
    omega
theorem levels_sum (T : QT) : (levelsQ T).sum = T.size := by
  unfold levelsQ
  rw [lvls_sum _ _ (fun t ht => (List.mem_filter.mp ht).2) (fun t ht => by
    have := (List.mem_filter.mp ht).1
    rw [List.mem_singleton.mp this]
    exact Nat.le_refl _)]
  have h := sums_nonnil [T]
  unfold tsz
  rw [h]
  simp
theorem sum_cast : ∀ l : List Nat, (l.map fun n : Nat => (n : Int)).sum = ((l.sum : Nat) : Int)
  | [] => rfl
  | n :: l => by
    rw [List.map_cons, List.sum_cons, List.sum_cons, sum_cast l]
    omega
theorem half_in {z : IP} (h : (-Lo ≤ z.1 ∧ z.1 ≤ Lo) ∧ (-Lo ≤ z.2 ∧ z.2 ≤ Lo)) : InB Hb (z.1 / 2, z.2 / 2) := by
  have h1 : -1000000000000000000000000000000 ≤ z.1 ∧ z.1 ≤ 1000000000000000000000000000000 := h.1
  have h2 : -1000000000000000000000000000000 ≤ z.2 ∧ z.2 ≤ 1000000000000000000000000000000 := h.2
  show (-500000000000000000000000000000 ≤ z.1 / 2 ∧ z.1 / 2 ≤ 500000000000000000000000000000) ∧ (-500000000000000000000000000000 ≤ z.2 / 2 ∧ z.2 / 2 ≤ 500000000000000000000000000000)
  omega
theorem change_in (c : Fin 3) {z : IP} (h : InB Hb z) : InB Lo (gOf c z) := by
  have h1 : -500000000000000000000000000000 ≤ z.1 ∧ z.1 ≤ 500000000000000000000000000000 := h.1
  have h2 : -500000000000000000000000000000 ≤ z.2 ∧ z.2 ≤ 500000000000000000000000000000 := h.2
  match c with
  | 0 =>
    show (-1000000000000000000000000000000 ≤ z.2 ∧ z.2 ≤ 1000000000000000000000000000000) ∧ (-1000000000000000000000000000000 ≤ z.1 ∧ z.1 ≤ 1000000000000000000000000000000)
    omega
  | 1 =>
    show (-1000000000000000000000000000000 ≤ -z.1 ∧ -z.1 ≤ 1000000000000000000000000000000) ∧ (-1000000000000000000000000000000 ≤ -z.2 ∧ -z.2 ≤ 1000000000000000000000000000000)
    omega
  | 2 =>
    show (-1000000000000000000000000000000 ≤ z.1 + 7 ∧ z.1 + 7 ≤ 1000000000000000000000000000000) ∧ (-1000000000000000000000000000000 ≤ z.2 - 9 ∧ z.2 - 9 ≤ 1000000000000000000000000000000)
    omega
section
variable {P : Program} {w : World} {K : PySem.W.Frag} {mg : Str → Option Value} {base : Heap}
abbrev NLaw : List Str := ["_law_script", "_law_cell", "_law_source_here", "_law_spots_here", "_law_wood", "_law_second", "_law_x", "_law_y", "_law_k", "_law_spot"]
theorem scLaw : FnScope NLaw ["_law_script"] (defScope s_law) := ⟨rfl, rfl, rfl, by decide +kernel, rfl, by decide +kernel, by decide +kernel⟩
theorem ok_law {f fS fP fSh fB fPf fLv fDp fPr fM : Addr} {fd fdS fdP fdSh fdB fdPf fdLv fdDp fdPr fdM : FuncData} (F : FnP K "law" s_law f fd) (Bm : Bt mg) (C : B1 mg) (Sm0 : mg "sum" = none)
    (GS : FnOk P w K mg base CX0 1 fS fdS ["_law_cell"] (spSource)) (kS : PySem.W.keepIn K (.ref fS) = true) (bS : Binds K fdS ["_law_cell"] []) (gS : mg "_law_source" = some (.ref fS))
    (GP : FnOk P w K mg base CX0 4 fP fdP ["_law_source_here", "_law_most"] (spSpots)) (kP : PySem.W.keepIn K (.ref fP) = true) (bP : Binds K fdP ["_law_source_here", "_law_most"] []) (gP : mg "_law_spots" = some (.ref fP))
    (GSh : FnOk P w K mg base CX0 3 fSh fdSh ["_law_source_here", "_law_some"] (spShuf)) (kSh : PySem.W.keepIn K (.ref fSh) = true) (bSh : Binds K fdSh ["_law_source_here", "_law_some"] []) (gSh : mg "_law_shuffled" = some (.ref fSh))
    (GB : FnOk P w K mg base CX0 5 fB fdB ["points"] (spGrownR K)) (kB : PySem.W.keepIn K (.ref fB) = true) (bB : Binds K fdB ["points"] []) (gB : mg "built" = some (.ref fB))
    (GPf : FnOk P w K mg base CX0 7 fPf fdPf ["tree"] (spPof K)) (kPf : PySem.W.keepIn K (.ref fPf) = true) (bPf : Binds K fdPf ["tree"] []) (gPf : mg "points_of" = some (.ref fPf))
    (GLv : FnOk P w K mg base CX0 7 fLv fdLv ["tree"] (spLvl K)) (kLv : PySem.W.keepIn K (.ref fLv) = true) (bLv : Binds K fdLv ["tree"] []) (gLv : mg "levels" = some (.ref fLv))
    (GDp : FnOk P w K mg base CX0 7 fDp fdDp ["tree"] (spDep K)) (kDp : PySem.W.keepIn K (.ref fDp) = true) (bDp : Binds K fdDp ["tree"] []) (gDp : mg "depth" = some (.ref fDp))
    (GPr : FnOk P w K mg base CX0 28 fPr fdPr ["_law_wood", "_law_spots_here"] (spPr K 20)) (kPr : PySem.W.keepIn K (.ref fPr) = true) (bPr : Binds K fdPr ["_law_wood", "_law_spots_here"] []) (gPr : mg "_law_parts_right" = some (.ref fPr))
    (GM : FnOk P w K mg base CX0 21 fM fdM ["_law_wood", "_law_change", "_law_row"] (spMir K 20)) (kM : PySem.W.keepIn K (.ref fM) = true) (bM : Binds K fdM ["_law_wood", "_law_change", "_law_row"] []) (gM : mg "_law_mirrored" = some (.ref fM)) :
    FnOk P w K mg base CX0 29 f fd ["_law_script"] (spLaw K) := by
  refine F.ok scLaw (fun vs H Q E h => ?_) (fun cdv A outer s H vs Q E hr h => ?_)
  · obtain ⟨_, _, rfl, _⟩ := h
    rfl
  · obtain ⟨a0, ns, rfl, hS0, hlen, q⟩ := h
    refine ⟨_, pss_cons (ps_for PassesOwn.never rfl (pi_list (pe_slice sl_list (pe_op op_catL (pv 0) (pe_lst (pa_cons pe_int pa_nil))) po_none (po_some pe_int))) (pg_name (i := 1) scLaw.nd rfl (.inl rfl)) (pss_cons (ps_set (i := 2) scLaw.nd rfl (.inl rfl) (pe_call GS (hr.mono (by decide)) (by rfl) gS kS bS .nil pass0 (pa_cons (pv 1) pa_nil)))
        (pss_cons (ps_set (i := 3) scLaw.nd rfl (.inr rfl) (pe_lc (own := [("_law_x", 6), ("_law_y", 7)]) (g := gTup K 2 (gCons (gName 6) (gCons (gName 7) gNil))) (tt := tYes)  rfl scLaw.nd (pi_list (pe_call GP (hr.mono (by decide)) (by rfl) gP kP bP .nil pass0 (pa_cons (pv 2) (pa_cons pe_int pa_nil)))) (blkOk_by (N := NLaw) (sc := defScope s_law) (by decide +kernel)) (fun _ _ _ _ _ => pg_tup rfl (pgs_cons (pg_name (i := 6) scLaw.nd rfl (Or.inl rfl) (.inr rfl)) (pgs_cons (pg_name (i := 7) scLaw.nd rfl (Or.inl rfl) (.inr rfl)) pgs_nil))) (fun _ _ _ _ _ => pts_nil) (fun _ _ _ _ _ => pe_tup (pa_cons (pe_op op_fdivW (pv 6) pe_int) (pa_cons (pe_op op_fdivW (pv 7) pe_int) pa_nil)))))
        (pss_cons (ps_set (i := 3) scLaw.nd rfl (.inr rfl) (pe_lc (own := [("_law_k", 8), ("_law_spot", 9)]) (g := gTup K 2 (gCons (gName 8) (gCons (gName 9) gNil)))   rfl scLaw.nd (pi_enumA (by rfl) C.enum (pa_cons (pv 3) pa_nil)) (blkOk_by (N := NLaw) (sc := defScope s_law) (by decide +kernel)) (fun _ _ _ _ _ => pg_tup rfl (pgs_cons (pg_name (i := 8) scLaw.nd rfl (Or.inl rfl) (.inr rfl)) (pgs_cons (pg_name (i := 9) scLaw.nd rfl (Or.inl rfl) (.inr rfl)) pgs_nil))) (fun _ _ _ _ _ => pts_one (pt_cmpR (op_notInDK (K := K) rfl (hu65 hr)) (pv 9) (pe_slice (sl_listK (K := K) rfl) (pv 3) po_none (po_some (pv 8))) (by with_unfolding_all rfl))) (fun _ _ _ _ _ => pv 9)))
        (pss_cons (ps_par (i := 4) (j := 5) rfl scLaw.nd rfl rfl (by decide) rfl rfl (pa_cons (pe_call GB (hr.mono (by decide)) (by rfl) gB kB bB .nil pass0 (pa_cons (pv 3) pa_nil)) (pa_cons (pe_call GB (hr.mono (by decide)) (by rfl) gB kB bB .nil pass0 (pa_cons (pe_call GSh (hr.mono (by decide)) (by rfl) gSh kSh bSh .nil pass0 (pa_cons (pv 2) (pa_cons (pv 3) pa_nil))) pa_nil)) pa_nil)) rfl)
        (pss_cons (ps_if (PW.pt (pw_or (pt_cmpR (op_neD (hu64 hr)) (pe_call GB (hr.mono (by decide)) (by rfl) gB kB bB .nil pass0 (pa_cons (pe_call GPf (hr.mono (by decide)) (by rfl) gPf kPf bPf .nil pass0 (pa_cons (pv 4) pa_nil)) pa_nil)) (pv 4) (nomark _)) (pw_or1 (pt_cmpR (op_neD (hu64 hr)) (pe_callB (cr_sortR (hu64 hr)) (by rfl) C.sorted (by decide +kernel) (pa_cons (pe_call GPf (hr.mono (by decide)) (by rfl) gPf kPf bPf .nil pass0 (pa_cons (pv 5) pa_nil)) pa_nil)) (pe_callB (cr_sortR (hu64 hr)) (by rfl) C.sorted (by decide +kernel) (pa_cons (pv 3) pa_nil)) (nomark _))))) (pss_one (ps_ret pe_bl)) pss_nil)
        (pss_cons (ps_if (PW.pt (pw_or (pt_not (pt_val (pe_call GPr (hr.mono (by decide)) (by rfl) gPr kPr bPr .nil pass0 (pa_cons (pv 4) (pa_cons (pv 3) pa_nil))))) (pw_or (pt_cmpR (op_ne) (pe_callB (cr_sum rfl) (by rfl) Sm0 (by decide +kernel) (pa_cons (pe_call GLv (hr.mono (by decide)) (by rfl) gLv kLv bLv .nil pass0 (pa_cons (pv 5) pa_nil)) pa_nil)) (pe_callB call_len_seq (by rfl) Bm.len PySem.boot_len (pa_cons (pv 3) pa_nil)) (nomark _)) (pw_or1 (pt_cmpR (op_gt) (pe_call GDp (hr.mono (by decide)) (by rfl) gDp kDp bDp .nil pass0 (pa_cons (pv 4) pa_nil)) (pe_callB call_len_seq (by rfl) Bm.len PySem.boot_len (pa_cons (pv 3) pa_nil)) (nomark _)))))) (pss_one (ps_ret pe_bl)) pss_nil)
        (pss_cons (ps_if (pt_cmpR (op_neD (hu64 hr)) (pe_call GB (hr.mono (by decide)) (by rfl) gB kB bB .nil pass0 (pa_cons (pe_lc (own := [("_law_spot", 9)]) (g := gName 9) (tt := tYes) (te := tRevT K (tVar 9)) rfl scLaw.nd (pi_list (pv 3)) (blkOk_by (N := NLaw) (sc := defScope s_law) (by decide +kernel)) (fun _ _ _ _ _ => pg_name (i := 9) scLaw.nd rfl (Or.inl rfl)) (fun _ _ _ _ _ => pts_nil) (fun _ _ _ _ _ => pe_revT (pv 9))) pa_nil)) (pe_call GM (hr.mono (by decide)) (by rfl) gM kM bM .nil pass0 (pa_cons (pv 4) (pa_cons pe_int (pa_cons (pe_lst (pa_cons pe_int (pa_cons pe_int (pa_cons pe_int (pa_cons pe_int pa_nil))))) pa_nil)))) (by with_unfolding_all rfl)) (pss_one (ps_ret pe_bl)) pss_nil)
        (pss_cons (ps_if (pt_cmpR (op_neD (hu64 hr)) (pe_call GB (hr.mono (by decide)) (by rfl) gB kB bB .nil pass0 (pa_cons (pe_lc (own := [("_law_x", 6), ("_law_y", 7)]) (g := gTup K 2 (gCons (gName 6) (gCons (gName 7) gNil))) (tt := tYes)  rfl scLaw.nd (pi_list (pv 3)) (blkOk_by (N := NLaw) (sc := defScope s_law) (by decide +kernel)) (fun _ _ _ _ _ => pg_tup rfl (pgs_cons (pg_name (i := 6) scLaw.nd rfl (Or.inl rfl) (.inr rfl)) (pgs_cons (pg_name (i := 7) scLaw.nd rfl (Or.inl rfl) (.inr rfl)) pgs_nil))) (fun _ _ _ _ _ => pts_nil) (fun _ _ _ _ _ => pe_tup (pa_cons (pe_un un_neg (pv 6)) (pa_cons (pe_un un_neg (pv 7)) pa_nil)))) pa_nil)) (pe_call GM (hr.mono (by decide)) (by rfl) gM kM bM .nil pass0 (pa_cons (pv 4) (pa_cons pe_int (pa_cons (pe_lst (pa_cons pe_int (pa_cons pe_int (pa_cons pe_int (pa_cons pe_int pa_nil))))) pa_nil)))) (by with_unfolding_all rfl)) (pss_one (ps_ret pe_bl)) pss_nil)
        (pss_one (ps_if (pt_cmpR (op_neD (hu64 hr)) (pe_call GB (hr.mono (by decide)) (by rfl) gB kB bB .nil pass0 (pa_cons (pe_lc (own := [("_law_x", 6), ("_law_y", 7)]) (g := gTup K 2 (gCons (gName 6) (gCons (gName 7) gNil))) (tt := tYes)  rfl scLaw.nd (pi_list (pv 3)) (blkOk_by (N := NLaw) (sc := defScope s_law) (by decide +kernel)) (fun _ _ _ _ _ => pg_tup rfl (pgs_cons (pg_name (i := 6) scLaw.nd rfl (Or.inl rfl) (.inr rfl)) (pgs_cons (pg_name (i := 7) scLaw.nd rfl (Or.inl rfl) (.inr rfl)) pgs_nil))) (fun _ _ _ _ _ => pts_nil) (fun _ _ _ _ _ => pe_tup (pa_cons (pe_op op_add (pv 6) pe_int) (pa_cons (pe_op op_sub (pv 7) pe_int) pa_nil)))) pa_nil)) (pe_call GM (hr.mono (by decide)) (by rfl) gM kM bM .nil pass0 (pa_cons (pv 4) (pa_cons pe_int (pa_cons (pe_lst (pa_cons pe_int (pa_cons pe_int (pa_cons pe_int (pa_cons pe_int pa_nil))))) pa_nil)))) (by with_unfolding_all rfl)) (pss_one (ps_ret pe_bl)) pss_nil)))))))))))
        (pss_one (ps_ret pe_bl)), ?_⟩
    refine ⟨_, rfl, (by show 1 ≤ sizeLine; decide), fun l0 n0 => ?_⟩
    refine ⟨a0, l0, _, _, rfl, rfl, (same_new n0).seq hS0, SqL.of upd_same, ?_, fun l1 n1 => ?_⟩
    · rw [List.length_map]
      exact small40 (by show ns.length + 1 ≤ 1000; omega)
    refine ⟨4, rfl, l1, _, rfl, SqL.of upd_same, fun c nc => ?_⟩
    refine ⟨c, rfl, ⟨_, SqL.of upd_same⟩, for_list (xs := cutV (ns.map V.int ++ [V.int 0]) none (some 4)) (fun i σ H3 => ∃ y1 y2 y3 y4 y5 y6 y7 y8 y9 : Option V, σ = [some (.ref a0), y1, y2, y3, y4, y5, y6, y7, y8, y9] ∧ H3 c = some (.lst (cutV (ns.map V.int ++ [V.int 0]) none (some 4)))) ?_ ?_ ?_ ?_⟩
    · exact ⟨none, none, none, none, none, none, none, none, none, rfl, upd_same⟩
    · rintro i σ H3 hi ⟨_, _, _, _, _, _, _, _, _, rfl, h⟩
      exact SqL.of h
    · rintro i v σ H3 hv ⟨y1, y2, y3, y4, y5, y6, y7, y8, y9, rfl, hC⟩
      obtain ⟨n, rfl⟩ := cells_int hv
      generalize cutV (ns.map V.int ++ [V.int 0]) none (some 4) = cells at hC hv ⊢
      refine ⟨_, rfl, n, rfl, fun s H4 e4 ns4 hS4 => ?_⟩
      have hcs : c ≠ s := fun e => by
        rw [e] at hC
        rw [ns4] at hC
        cases hC
      refine ⟨_, rfl, s, 20, rfl, hS4, by decide, by decide, fun a1 ps H5 hS5 e5 na1 hP5 nd0 hl5 => ?_⟩
      have few : ps.length ≤ 20 := by omega
      have pl5 : PL H5 a1 Lo ps := ⟨hP5.1, hP5.2.2⟩
      have hC5 : H5 c = some (.lst cells) := e5 _ _ (e4 _ _ hC) hcs
      have hrl : (refsOf ps).length = ps.length := List.length_map ..
      -- the halves
      refine ⟨a1, rfl, ⟨_, SqL.of pl5.l⟩, fun D9 nD9 => lc_it (walk_list (xs := refsOf ps)) (fun i H9 => MapSt H5 H9 D9 Hb (fun z => (z.1 / 2, z.2 / 2)) (vals ps) i) (map_start nD9) (fun i H9 _ h9 => SqL.of (h9.choose_spec.2.2.2.2 _ _ pl5.l)) ?_ ?_⟩
      · rintro i v H10 H9 hi h9 ⟨rfl, hv9⟩
        have e9 : Same H5 H9 := h9.choose_spec.2.2.2.2
        obtain ⟨q0, hq0, rfl, hp0⟩ := (pl5.same e9).at hv9
        refine ⟨q0.1, _, rfl, SqT.of hp0.1, rfl, _, _, rfl, _, _, rfl, rfl, rfl, ?_⟩
        refine ⟨_, rfl, _, _, rfl, rfl, cdiv_w (by decide) (by decide), _, rfl, _, _, rfl, rfl, cdiv_w (by decide) (by decide), (by show 2 ≤ sizeLine; decide), fun t2 nt2 => ?_⟩
        exact map_new nD9 h9 (vals_at hq0) (fun _ _ h => h) nt2 (half_in hp0.2) (by rw [hrl] at hi; omega)
      intro H9 h9
      rw [hrl, ← vals_len ps] at h9
      obtain ⟨ps1, hl9, hv1, hp1, e59⟩ := map_end h9
      have pl9 : PL H9 D9 Hb ps1 := ⟨hl9, hp1⟩
      have hC9 := e59 _ _ hC5
      have hS9 := hS5.same e59
      have hlen1 : ps1.length = ps.length := by
        have := congrArg List.length hv1
        simpa [vals] using this
      -- the first ones
      have hrl1 : (refsOf ps1).length = ps1.length := List.length_map ..
      obtain ⟨J, eJ, wk⟩ := enum_of (K := K) (show SeqP H9 D9 ps1 from .inl pl9.l)
      refine ⟨_, rfl, D9, _, J, rfl, eJ, fun D10 nD10 => lc_it wk (fun i H10 => FstSt H9 H10 D10 ps1 i) (fst_start nD10) (fun i H10 _ h10 => by rw [h10.choose_spec.2.2.2.2 _ _ pl9.l, pl9.l]) ?_ ?_⟩
      · rintro i v H10 H11 hi h10 ⟨Tt, vi, ve, rfl, nT, rfl, hvi, hve⟩
        cases hvi
        have e9 : Same H9 H10 := h10.choose_spec.2.2.2.2
        obtain ⟨q0, hq0, rfl, hp0⟩ := (pl9.same e9).at hve
        have hi2 : i < ps1.length := (List.getElem?_eq_some_iff.mp hq0).1
        have s11 : Same H10 (upd H10 Tt (.tup [.int (i : Nat), .ref q0.1])) := same_new nT
        have h11 : (upd H10 Tt (.tup [.int (i : Nat), .ref q0.1])) Tt = some (.tup [.int (i : Nat), .ref q0.1]) := upd_same
        generalize upd H10 Tt (.tup [.int (i : Nat), .ref q0.1]) = H11 at s11 h11 ⊢
        have pl11 := pl9.same (e9.trans s11)
        refine ⟨Tt, _, rfl, SqT.of h11, rfl, _, _, rfl, _, _, rfl, rfl, rfl, ?_⟩
        refine ⟨_, rfl, _, rfl, _, rfl, _, rfl, D9, _, rfl, SqL.of pl11.l, fun p np => ?_⟩
        rw [cut_to (by omega)]
        have s12 : Same H11 (upd H11 p (.lst ((refsOf ps1).take i))) := same_new np
        have h12 : (upd H11 p (.lst ((refsOf ps1).take i))) p = some (.lst (refsOf (ps1.take i))) := by
          rw [upd_same]
          simp only [refsOf, List.map_take]
        generalize upd H11 p (.lst ((refsOf ps1).take i)) = H12 at s12 h12 ⊢
        have pl12 := pl11.same s12
        refine ⟨ptD q0.2, (vals (ps1.take i)).map ptD, dp_pt (pl12.p q0 (List.mem_of_getElem? hq0)), .lst (SqL.of h12) (dp_pts fun q hq => pl12.p q (List.mem_of_mem_take hq)), ptD_shaped _, ptDs_shaped _, _, rfl, ?_⟩
        rw [any_pt]
        have e1012 := s11.trans s12
        by_cases hin : q0.2 ∈ vals (ps1.take i)
        · rw [decide_eq_true hin]
          exact iteF (fst_skip h10 e1012)
        · rw [decide_eq_false hin]
          exact iteT ⟨_, rfl, fst_put nD10 h10 hq0 e1012 hin (by omega)⟩
      intro H10 h10
      obtain ⟨qs, hl10, nd, hsub, hlq, e910⟩ := h10
      rw [hrl1, List.take_length] at hsub
      rw [hrl1] at hlq
      have plB : PL H10 D10 Hb qs := ⟨hl10, fun q hq => (pl9.p q (hsub q hq)).same e910⟩
      have pl10 : PL H10 D10 Lo qs := plB.mono (by decide)
      have hC10 := e910 _ _ hC9
      have hS10 := hS9.same e910
      have fewq : qs.length ≤ 20 := by omega
      have hDs : D10 ≠ s := hS9.ne nD10
      clear hl10 hsub h9 pl9 pl5 hC9 hC5 hS9 hS5 e59 e910 hP5 e5 hl9 hp1
      -- the trees
      obtain ⟨tk, tht, tsz⟩ := tree_ok (H := H10) pl10.p nd (by omega : qs.length ≤ 31)
      have tht : (treeQ (vals qs)).ht ≤ qs.length := tht
      have tlen := ptsQ_len (treeQ (vals qs))
      have tperm := pts_tree (vals qs)
      refine ⟨_, rfl, D10, qs, rfl, .inl pl10.l, .of pl10.p, nd, by omega, fun H11 v11 e11 d11 => ?_⟩
      have hS11 := hS10.same e11
      have plB11 := plB.same e11
      have pl11 := pl10.same e11
      refine ⟨_, rfl, _, rfl, s, D10, qs, rfl, hS11, hDs, pl11.l, by omega, fun l2 qs2 H12 hS12 e12 nl2 hl2 pm2 => ?_⟩
      have sT12 := sameT_ex hS11 e12
      have plB12 : PL H12 D10 Hb qs := ⟨e12 _ _ plB11.l hDs, fun q hq => (plB11.p q hq).ex hS11 e12⟩
      have pl12 : PL H12 D10 Lo qs := plB12.mono (by decide)
      have d12 := dpQ_sameT sT12 d11
      have hC12 : H12 c = some (.lst cells) := e12 _ _ (e11 _ _ hC10) hcs
      have nd2 : (vals qs2).Nodup := (pm2.map (·.2)).nodup_iff.mpr nd
      have p2 : AllP H12 qs2 := fun x hx => pl12.p x (pm2.mem_iff.mp hx)
      have few2 : qs2.length = qs.length := pm2.length_eq
      refine ⟨l2, qs2, rfl, .inl hl2, .of p2, nd2, by omega, fun H13 v13 e13 d13 => ?_⟩
      obtain ⟨tk2, tht2, tsz2⟩ := tree_ok p2 nd2 (by omega : qs2.length ≤ 31)
      have t2perm := pts_tree (vals qs2)
      have t2len := ptsQ_len (treeQ (vals qs2))
      have plB13 := plB12.same e13
      have pl13 := pl12.same e13
      have dw := Dp.same e13 d12
      have hC13 := e13 _ _ hC12
      have hS13 := hS12.same e13
      have sh : SeqAt.shaped (qD (treeQ (vals qs))) = true := qD_shaped (by omega)
      have tl20 : (treeQ (vals qs)).size = qs.length := by
        have := tperm.length_eq
        rw [List.length_map] at this
        omega
      have t2l20 : (treeQ (vals qs2)).size = qs.length := by
        have := t2perm.length_eq
        rw [List.length_map] at this
        omega
      clear d11 d12 sT12 e11 e12 e13 hS10 hS11 hS12 plB plB11 plB12 pl10 pl11 hC10 hC12
      refine ⟨_, _, rfl, ?_⟩
      -- built of its own points
      refine ⟨_, rfl, v11, treeQ (vals qs), rfl, dw, tk, fun H14 pl pq e14 npl hpl hpq => ?_⟩
      have hbd : ∀ x ∈ ptsQ (treeQ (vals qs)), PtB x := fun x hx => by
        obtain ⟨y, hy, rfl⟩ := List.mem_map.mp (tperm.mem_iff.mp hx)
        exact (pl13.p y hy).2
      have hpql : pq.length = qs.length := by
        have h1 := congrArg List.length hpq
        rw [List.length_map] at h1
        omega
      have apq : AllR K H14 pq := fun x hx => ⟨hpl.2 x hx, hbd x.2 (by rw [← hpq]; exact List.mem_map.mpr ⟨x, hx, rfl⟩)⟩
      have ndpq : (pq.map (·.2)).Nodup := by
        rw [hpq]
        exact tperm.nodup_iff.mpr nd
      refine ⟨pl, pq, rfl, .inl hpl.1, apq, ndpq, by omega, fun H15 v15 e15 d15 => ?_⟩
      rw [hpq, tree_pts tk.1] at d15
      have e1315 := e14.trans e15
      refine ⟨_, rfl, _, _, d15, Dp.same e1315 dw, sh, sh, _, rfl, ?_⟩
      rw [qD_refl]
      refine iteF ?_
      -- sorted
      refine ⟨_, rfl, v13, treeQ (vals qs2), rfl, Dp.same e1315 d13, tk2, fun H16 pl2 pq2 e16 npl2 hpl2 hpq2 => ?_⟩
      refine ⟨pl2, pq2, rfl, .inl (SqL.of hpl2.1), hpl2.2, fun s1 ns1 => ?_⟩
      have s17 : Same H16 (upd H16 s1 (.lst (refsOf (sortX pq2)))) := same_new ns1
      have h17 : PsAt K (upd H16 s1 (.lst (refsOf (sortX pq2)))) s1 (sortX pq2) := ⟨upd_same, fun x hx => SqT.same s17 (hpl2.2 x (sortX_mem hx))⟩
      generalize upd H16 s1 (.lst (refsOf (sortX pq2))) = H17 at s17 h17 ⊢
      have e1317 := e1315.trans (e16.trans s17)
      have pl17 := pl13.same e1317
      refine ⟨_, rfl, D10, qs, rfl, .inl (SqL.of pl17.l), fun x hx => SqT.of (pl17.p x hx).1, fun s2 ns2 => ?_⟩
      have s18 : Same H17 (upd H17 s2 (.lst (refsOf (sortX qs)))) := same_new ns2
      have h18 : PsAt K (upd H17 s2 (.lst (refsOf (sortX qs)))) s2 (sortX qs) := ⟨upd_same, fun x hx => SqT.of ((pl17.p x (sortX_mem hx)).same s18).1⟩
      generalize upd H17 s2 (.lst (refsOf (sortX qs))) = H18 at s18 h18 ⊢
      have eqs : (sortX pq2).map (·.2) = (sortX qs).map (·.2) := sortX_eq (by rw [hpq2]; exact t2perm.trans (pm2.map (·.2))) nd
      refine ⟨_, _, dp_ps (h17.same s18), dp_ps h18, ptDs_shaped _, ptDs_shaped _, _, rfl, ?_⟩
      rw [eqs, ptsD_refl]
      refine iteF ?_
      have e1318 := e1317.trans s18
      have plB18 := plB13.same e1318
      have pl18 := pl13.same e1318
      have dw18 := Dp.same e1318 dw
      have ds18 := Dp.same e1318 d13
      have hC18 := e1318 _ _ hC13
      have hS18 := hS13.same e1318
      clear hpl hpl2 h17 h18 apq d15 dw d13 pl13 plB13 pl17 hC13 hS13 e14 e15 e16 s17 s18 e1315 e1317 e1318 npl npl2 ns1 ns2
      -- the parts
      refine ⟨_, rfl, _, rfl, v11, D10, qs, rfl, dw18, pl18.l, pl18.p, nd, by omega, fewq, fun H19 e19 => ⟨_, rfl, iteF ?_⟩⟩
      refine ⟨_, rfl, v13, treeQ (vals qs2), rfl, Dp.same e19 ds18, tk2, fun H20 ll e20 nll hll => ?_⟩
      have hllI : H20 ll = some (.lst (((levelsQ (treeQ (vals qs2))).map fun n : Nat => (n : Int)).map V.int)) := by rw [hll, List.map_map]; rfl
      refine ⟨ll, _, rfl, SqL.of hllI, ?_⟩
      rw [sum_cast, levels_sum, t2l20]
      have e1820 := e19.trans e20
      refine ⟨_, rfl, D10, _, rfl, .inl (SqL.of (e1820 _ _ pl18.l)), rfl, _, rfl, ?_⟩
      rw [show (refsOf qs).length = qs.length from List.length_map .., decide_eq_true (show V.int ((qs.length : Nat) : Int) = V.int ((qs.length : Nat) : Int) from rfl)]
      refine iteF ?_
      refine ⟨_, rfl, v11, treeQ (vals qs), rfl, Dp.same e1820 dw18, tk, fun H21 e21 => ?_⟩
      have e1821 := e1820.trans e21
      refine ⟨_, rfl, D10, _, rfl, .inl (SqL.of (e1821 _ _ pl18.l)), _, _, rfl, rfl, _, rfl, ?_⟩
      have hdep : (levelsQ (treeQ (vals qs))).length ≤ qs.length := by
        have := lvls_len (treeQ (vals qs)).ht ([treeQ (vals qs)].filter nonnil)
        have h2 : (levelsQ (treeQ (vals qs))).length ≤ (treeQ (vals qs)).ht := this
        omega
      rw [show (refsOf qs).length = qs.length from List.length_map .., decide_eq_false (show ¬ (((qs.length : Nat) : Int) < (((levelsQ (treeQ (vals qs))).length : Nat) : Int)) by omega)]
      refine iteF ?_
      have plB21 := plB18.same e1821
      have dw21 := Dp.same e1821 dw18
      have hC21 := e1821 _ _ hC18
      have hS21 := hS18.same e1821
      clear plB18 pl18 dw18 ds18 hC18 hS18 e19 e20 e21 e1820 e1821 hll hllI nll
      have hrq : (refsOf qs).length = qs.length := List.length_map ..
      -- what stands behind each change
      have turn : ∀ (cc : Fin 3) (H0 H22 : Hp) (Dc : Addr) (qc : Pts), Same H0 H22 → Dp K H0 v11 (qD (treeQ (vals qs))) → H22 Dc = some (.lst (refsOf qc)) → vals qc = (vals qs).map (gOf cc) → (∀ q ∈ qc, PtAt H22 Lo q) →
          qc.length = qs.length ∧ (vals qc).Nodup ∧ treeQ (vals qc) = mapT (gOf cc) (pOf cc) (treeQ (vals qs)) := fun cc H0 H22 Dc qc _ _ _ hv _ => by
        refine ⟨?_, ?_, ?_⟩
        · have := congrArg List.length hv
          simpa [vals] using this
        · rw [hv]
          exact nd_change cc nd
        · rw [hv, tree_change cc nd]
      -- exchanged
      refine ⟨_, rfl, D10, rfl, ⟨_, SqL.of plB21.l⟩, fun Dc nDc => lc_it (walk_list (xs := refsOf qs)) (fun i H9 => MapSt H21 H9 Dc Lo (gOf 0) (vals qs) i) (map_start nDc) (fun i H9 _ h9 => SqL.of (h9.choose_spec.2.2.2.2 _ _ plB21.l)) ?_ ?_⟩
      · rintro i v H10 H9 hi h9 ⟨rfl, hv9⟩
        have e9 : Same H21 H9 := h9.choose_spec.2.2.2.2
        obtain ⟨q0, hq0, rfl, hp0⟩ := (plB21.same e9).at hv9
        refine ⟨rfl, _, rfl, q0.1, _, _, rfl, SqT.of hp0.1, fun t2 nt2 => ?_⟩
        exact map_new nDc h9 (vals_at hq0) (fun _ _ h => h) nt2 (change_in 0 hp0.2) (by rw [hrq] at hi; omega)
      intro H22 h22
      rw [hrq, ← vals_len qs] at h22
      obtain ⟨qc, hlc, hvc, hpc, e2122⟩ := map_end h22
      obtain ⟨lc, ndc, tc⟩ := turn 0 H21 H22 Dc qc e2122 dw21 hlc hvc hpc
      refine ⟨Dc, qc, rfl, .inl hlc, .of hpc, ndc, by omega, fun H23 v23 e23 d23 => ?_⟩
      rw [tc] at d23
      refine ⟨_, rfl, (by show 4 ≤ sizeLine; decide), fun rw0 nrw0 => ?_⟩
      have s24 : Same H23 (upd H23 rw0 (.lst [.int 0, .int 2, .int 1, .int 3])) := same_new nrw0
      have hrw : (upd H23 rw0 (.lst [.int 0, .int 2, .int 1, .int 3])) rw0 = some (.lst (rowV 0)) := upd_same
      generalize upd H23 rw0 (.lst [.int 0, .int 2, .int 1, .int 3]) = H24 at s24 hrw ⊢
      have e2124 := e2122.trans (e23.trans s24)
      refine ⟨v11, 0, rw0, treeQ (vals qs), rfl, Dp.same e2124 dw21, by omega, hrw, fun H25 v25 e25 d25 => ?_⟩
      have shc : SeqAt.shaped (qD (mapT (gOf 0) (pOf 0) (treeQ (vals qs)))) = true := by
        rw [← tc]
        have : (treeQ (vals qc)).ht ≤ qc.length := (tree_ok (H := H22) (qs := qc) hpc ndc (by omega)).2.1
        exact qD_shaped (by omega)
      refine ⟨_, _, Dp.same (s24.trans e25) d23, d25, shc, shc, _, rfl, ?_⟩
      rw [qD_refl]
      refine iteF ?_
      have e2125 := e2124.trans e25
      have plB25 := plB21.same e2125
      have dw25 := Dp.same e2125 dw21
      have hC25 := e2125 _ _ hC21
      have hS25 := hS21.same e2125
      clear plB21 dw21 hC21 hS21 e2122 e23 s24 e2124 e25 e2125 d23 d25 h22 hlc hvc hpc lc ndc tc shc hrw nrw0 nDc
      -- turned round
      refine ⟨_, rfl, D10, rfl, ⟨_, SqL.of plB25.l⟩, fun Dc nDc => lc_it (walk_list (xs := refsOf qs)) (fun i H9 => MapSt H25 H9 Dc Lo (gOf 1) (vals qs) i) (map_start nDc) (fun i H9 _ h9 => SqL.of (h9.choose_spec.2.2.2.2 _ _ plB25.l)) ?_ ?_⟩
      · rintro i v H10 H9 hi h9 ⟨rfl, hv9⟩
        have e9 : Same H25 H9 := h9.choose_spec.2.2.2.2
        obtain ⟨q0, hq0, rfl, hp0⟩ := (plB25.same e9).at hv9
        refine ⟨q0.1, _, rfl, SqT.of hp0.1, rfl, _, _, rfl, _, _, rfl, rfl, rfl, ?_⟩
        refine ⟨_, rfl, _, rfl, _, rfl, _, rfl, (by show 2 ≤ sizeLine; decide), fun t2 nt2 => ?_⟩
        exact map_new nDc h9 (vals_at hq0) (fun _ _ h => h) nt2 (change_in 1 hp0.2) (by rw [hrq] at hi; omega)
      intro H22 h22
      rw [hrq, ← vals_len qs] at h22
      obtain ⟨qc, hlc, hvc, hpc, e2122⟩ := map_end h22
      obtain ⟨lc, ndc, tc⟩ := turn 1 H25 H22 Dc qc e2122 dw25 hlc hvc hpc
      refine ⟨Dc, qc, rfl, .inl hlc, .of hpc, ndc, by omega, fun H23 v23 e23 d23 => ?_⟩
      rw [tc] at d23
      refine ⟨_, rfl, (by show 4 ≤ sizeLine; decide), fun rw0 nrw0 => ?_⟩
      have s24 : Same H23 (upd H23 rw0 (.lst [.int 3, .int 2, .int 1, .int 0])) := same_new nrw0
      have hrw : (upd H23 rw0 (.lst [.int 3, .int 2, .int 1, .int 0])) rw0 = some (.lst (rowV 1)) := upd_same
      generalize upd H23 rw0 (.lst [.int 3, .int 2, .int 1, .int 0]) = H24 at s24 hrw ⊢
      have e2124 := e2122.trans (e23.trans s24)
      refine ⟨v11, 1, rw0, treeQ (vals qs), rfl, Dp.same e2124 dw25, by omega, hrw, fun H26 v25 e25 d25 => ?_⟩
      have shc : SeqAt.shaped (qD (mapT (gOf 1) (pOf 1) (treeQ (vals qs)))) = true := by
        rw [← tc]
        have : (treeQ (vals qc)).ht ≤ qc.length := (tree_ok (H := H22) (qs := qc) hpc ndc (by omega)).2.1
        exact qD_shaped (by omega)
      refine ⟨_, _, Dp.same (s24.trans e25) d23, d25, shc, shc, _, rfl, ?_⟩
      rw [qD_refl]
      refine iteF ?_
      have e2126 := e2124.trans e25
      have plB26 := plB25.same e2126
      have dw26 := Dp.same e2126 dw25
      have hC26 := e2126 _ _ hC25
      have hS26 := hS25.same e2126
      clear plB25 dw25 hC25 hS25 e2122 e23 s24 e2124 e25 e2126 d23 d25 h22 hlc hvc hpc lc ndc tc shc hrw nrw0 nDc
      -- moved
      refine ⟨_, rfl, D10, rfl, ⟨_, SqL.of plB26.l⟩, fun Dc nDc => lc_it (walk_list (xs := refsOf qs)) (fun i H9 => MapSt H26 H9 Dc Lo (gOf 2) (vals qs) i) (map_start nDc) (fun i H9 _ h9 => SqL.of (h9.choose_spec.2.2.2.2 _ _ plB26.l)) ?_ ?_⟩
      · rintro i v H10 H9 hi h9 ⟨rfl, hv9⟩
        have e9 : Same H26 H9 := h9.choose_spec.2.2.2.2
        obtain ⟨q0, hq0, rfl, hp0⟩ := (plB26.same e9).at hv9
        refine ⟨q0.1, _, rfl, SqT.of hp0.1, rfl, _, _, rfl, _, _, rfl, rfl, rfl, ?_⟩
        refine ⟨_, rfl, _, _, rfl, rfl, _, rfl, _, _, rfl, rfl, (by show 2 ≤ sizeLine; decide), fun t2 nt2 => ?_⟩
        exact map_new nDc h9 (vals_at hq0) (fun _ _ h => h) nt2 (change_in 2 hp0.2) (by rw [hrq] at hi; omega)
      intro H22 h22
      rw [hrq, ← vals_len qs] at h22
      obtain ⟨qc, hlc, hvc, hpc, e2122⟩ := map_end h22
      obtain ⟨lc, ndc, tc⟩ := turn 2 H26 H22 Dc qc e2122 dw26 hlc hvc hpc
      refine ⟨Dc, qc, rfl, .inl hlc, .of hpc, ndc, by omega, fun H23 v23 e23 d23 => ?_⟩
      rw [tc] at d23
      refine ⟨_, rfl, (by show 4 ≤ sizeLine; decide), fun rw0 nrw0 => ?_⟩
      have s24 : Same H23 (upd H23 rw0 (.lst [.int 0, .int 1, .int 2, .int 3])) := same_new nrw0
      have hrw : (upd H23 rw0 (.lst [.int 0, .int 1, .int 2, .int 3])) rw0 = some (.lst (rowV 2)) := upd_same
      generalize upd H23 rw0 (.lst [.int 0, .int 1, .int 2, .int 3]) = H24 at s24 hrw ⊢
      have e2124 := e2122.trans (e23.trans s24)
      refine ⟨v11, 2, rw0, treeQ (vals qs), rfl, Dp.same e2124 dw26, by omega, hrw, fun H27 v25 e25 d25 => ?_⟩
      have shc : SeqAt.shaped (qD (mapT (gOf 2) (pOf 2) (treeQ (vals qs)))) = true := by
        rw [← tc]
        have : (treeQ (vals qc)).ht ≤ qc.length := (tree_ok (H := H22) (qs := qc) hpc ndc (by omega)).2.1
        exact qD_shaped (by omega)
      refine ⟨_, _, Dp.same (s24.trans e25) d23, d25, shc, shc, _, rfl, ?_⟩
      rw [qD_refl]
      refine iteF ?_
      exact ⟨_, _, _, _, _, _, _, _, _, rfl, (e2124.trans e25) _ _ hC26⟩
    · rintro σ H3 ⟨_, _, _, _, _, _, _, _, _, rfl, _⟩
      exact q _
end
end Q2

namespace Q2
open PySem PySem.Spec PyProof.Rows L2
theorem all_mk {l : PySem.W.OpenLaw} {w : World} {K : PySem.W.Frag} {h : Heap} {mg : Str → Option Value} {fa f_is_integer f_is_coordinate f_is_point f_check_points f_y_key f_part_of f_rows_by_steps f_masks_around f_masks_on_axes f_rows_by_masks f_quarter_of_rows f_grown f_is_node f_narrowed f_fault_of f_check_quarter f_nodes_of f_reading f_level_counts f_built f_points_of f_levels f_depth f_law_mixed f_law_source f_law_take f_law_pick f_law_spots f_law_shuffled f_law_mirrored f_law_parts_right f_law : Addr} (X : K.In h) (G : h.Ns mainGlobals mg) (hfa : mg "law" = some (.ref fa))
    {od_is_integer an_is_integer : Option Addr} {sl_is_integer : Array (Option Value)} {oc_is_integer kV_is_integer dc_is_integer pm_is_integer cd_is_integer ct_is_integer : Value}
    {od_is_coordinate an_is_coordinate : Option Addr} {sl_is_coordinate : Array (Option Value)} {oc_is_coordinate kV_is_coordinate dc_is_coordinate pm_is_coordinate cd_is_coordinate ct_is_coordinate : Value}
    {od_is_point an_is_point : Option Addr} {sl_is_point : Array (Option Value)} {oc_is_point kV_is_point dc_is_point pm_is_point cd_is_point ct_is_point : Value}
    {od_check_points an_check_points : Option Addr} {sl_check_points : Array (Option Value)} {oc_check_points kV_check_points dc_check_points pm_check_points cd_check_points ct_check_points : Value}
    {od_y_key an_y_key : Option Addr} {sl_y_key : Array (Option Value)} {oc_y_key kV_y_key dc_y_key pm_y_key cd_y_key ct_y_key : Value}
    {od_part_of an_part_of : Option Addr} {sl_part_of : Array (Option Value)} {oc_part_of kV_part_of dc_part_of pm_part_of cd_part_of ct_part_of : Value}
    {od_rows_by_steps an_rows_by_steps : Option Addr} {sl_rows_by_steps : Array (Option Value)} {oc_rows_by_steps kV_rows_by_steps dc_rows_by_steps pm_rows_by_steps cd_rows_by_steps ct_rows_by_steps : Value}
    {od_masks_around an_masks_around : Option Addr} {sl_masks_around : Array (Option Value)} {oc_masks_around kV_masks_around dc_masks_around pm_masks_around cd_masks_around ct_masks_around : Value}
    {od_masks_on_axes an_masks_on_axes : Option Addr} {sl_masks_on_axes : Array (Option Value)} {oc_masks_on_axes kV_masks_on_axes dc_masks_on_axes pm_masks_on_axes cd_masks_on_axes ct_masks_on_axes : Value}
    {od_rows_by_masks an_rows_by_masks : Option Addr} {sl_rows_by_masks : Array (Option Value)} {oc_rows_by_masks kV_rows_by_masks dc_rows_by_masks pm_rows_by_masks cd_rows_by_masks ct_rows_by_masks : Value}
    {od_quarter_of_rows an_quarter_of_rows : Option Addr} {sl_quarter_of_rows : Array (Option Value)} {oc_quarter_of_rows kV_quarter_of_rows dc_quarter_of_rows pm_quarter_of_rows cd_quarter_of_rows ct_quarter_of_rows : Value}
    {od_grown an_grown : Option Addr} {sl_grown : Array (Option Value)} {oc_grown kV_grown dc_grown pm_grown cd_grown ct_grown : Value}
    {od_is_node an_is_node : Option Addr} {sl_is_node : Array (Option Value)} {oc_is_node kV_is_node dc_is_node pm_is_node cd_is_node ct_is_node : Value}
    {od_narrowed an_narrowed : Option Addr} {sl_narrowed : Array (Option Value)} {oc_narrowed kV_narrowed dc_narrowed pm_narrowed cd_narrowed ct_narrowed : Value}
    {od_fault_of an_fault_of : Option Addr} {sl_fault_of : Array (Option Value)} {oc_fault_of kV_fault_of dc_fault_of pm_fault_of cd_fault_of ct_fault_of : Value}
    {od_check_quarter an_check_quarter : Option Addr} {sl_check_quarter : Array (Option Value)} {oc_check_quarter kV_check_quarter dc_check_quarter pm_check_quarter cd_check_quarter ct_check_quarter : Value}
    {od_nodes_of an_nodes_of : Option Addr} {sl_nodes_of : Array (Option Value)} {oc_nodes_of kV_nodes_of dc_nodes_of pm_nodes_of cd_nodes_of ct_nodes_of : Value}
    {od_reading an_reading : Option Addr} {sl_reading : Array (Option Value)} {oc_reading kV_reading dc_reading pm_reading cd_reading ct_reading : Value}
    {od_level_counts an_level_counts : Option Addr} {sl_level_counts : Array (Option Value)} {oc_level_counts kV_level_counts dc_level_counts pm_level_counts cd_level_counts ct_level_counts : Value}
    {od_built an_built : Option Addr} {sl_built : Array (Option Value)} {oc_built kV_built dc_built pm_built cd_built ct_built : Value}
    {od_points_of an_points_of : Option Addr} {sl_points_of : Array (Option Value)} {oc_points_of kV_points_of dc_points_of pm_points_of cd_points_of ct_points_of : Value}
    {od_levels an_levels : Option Addr} {sl_levels : Array (Option Value)} {oc_levels kV_levels dc_levels pm_levels cd_levels ct_levels : Value}
    {od_depth an_depth : Option Addr} {sl_depth : Array (Option Value)} {oc_depth kV_depth dc_depth pm_depth cd_depth ct_depth : Value}
    {od_law_mixed an_law_mixed : Option Addr} {sl_law_mixed : Array (Option Value)} {oc_law_mixed kV_law_mixed dc_law_mixed pm_law_mixed cd_law_mixed ct_law_mixed : Value}
    {od_law_source an_law_source : Option Addr} {sl_law_source : Array (Option Value)} {oc_law_source kV_law_source dc_law_source pm_law_source cd_law_source ct_law_source : Value}
    {od_law_take an_law_take : Option Addr} {sl_law_take : Array (Option Value)} {oc_law_take kV_law_take dc_law_take pm_law_take cd_law_take ct_law_take : Value}
    {od_law_pick an_law_pick : Option Addr} {sl_law_pick : Array (Option Value)} {oc_law_pick kV_law_pick dc_law_pick pm_law_pick cd_law_pick ct_law_pick : Value}
    {od_law_spots an_law_spots : Option Addr} {sl_law_spots : Array (Option Value)} {oc_law_spots kV_law_spots dc_law_spots pm_law_spots cd_law_spots ct_law_spots : Value}
    {od_law_shuffled an_law_shuffled : Option Addr} {sl_law_shuffled : Array (Option Value)} {oc_law_shuffled kV_law_shuffled dc_law_shuffled pm_law_shuffled cd_law_shuffled ct_law_shuffled : Value}
    {od_law_mirrored an_law_mirrored : Option Addr} {sl_law_mirrored : Array (Option Value)} {oc_law_mirrored kV_law_mirrored dc_law_mirrored pm_law_mirrored cd_law_mirrored ct_law_mirrored : Value}
    {od_law_parts_right an_law_parts_right : Option Addr} {sl_law_parts_right : Array (Option Value)} {oc_law_parts_right kV_law_parts_right dc_law_parts_right pm_law_parts_right cd_law_parts_right ct_law_parts_right : Value}
    {od_law an_law : Option Addr} {sl_law : Array (Option Value)} {oc_law kV_law dc_law pm_law cd_law ct_law : Value}
    {tk_FARTHEST_COORDINATE : Tok}
    {tk_MOST_POINTS : Tok}
    {tk_MANY_POINTS : Tok}
    {tk_MOST_NODES : Tok}
    {aL : Addr} {tod_aL : Option Addr} {tsl_aL : Array (Option Value)} {tn_aL : Nat} {t_l3 t_l2 t_l1 t_l0 : Tok}
    {aK : Addr} {tod_aK : Option Addr} {tsl_aK : Array (Option Value)} {tn_aK : Nat}
    {b0 : Addr} {tod_b0 : Option Addr} {tsl_b0 : Array (Option Value)} {tn_b0 : Nat} {t_x0 t_y0 : Tok}
    {b1 : Addr} {tod_b1 : Option Addr} {tsl_b1 : Array (Option Value)} {tn_b1 : Nat} {t_x1 t_y1 : Tok}
    {b2 : Addr} {tod_b2 : Option Addr} {tsl_b2 : Array (Option Value)} {tn_b2 : Nat} {t_x2 t_y2 : Tok}
    {b3 : Addr} {tod_b3 : Option Addr} {tsl_b3 : Array (Option Value)} {tn_b3 : Nat} {t_x3 t_y3 : Tok}
    (a_is_integer : PySem.W.nsIn K mainGlobals "is_integer" = some (some (.ref f_is_integer))) (l_is_integer : K.lookup f_is_integer = some ⟨oc_is_integer, od_is_integer, .func (PySem.W.fnOf "is_integer" "is_integer" (defArgs s_is_integer) (defBody s_is_integer) (defScope s_is_integer) .none kV_is_integer dc_is_integer pm_is_integer an_is_integer cd_is_integer ct_is_integer), sl_is_integer⟩) (c_is_integer : PySem.W.codeIn K cd_is_integer "is_integer" = true) (k_is_integer : PySem.W.keepIn K (.ref f_is_integer) = true)
    (a_is_coordinate : PySem.W.nsIn K mainGlobals "is_coordinate" = some (some (.ref f_is_coordinate))) (l_is_coordinate : K.lookup f_is_coordinate = some ⟨oc_is_coordinate, od_is_coordinate, .func (PySem.W.fnOf "is_coordinate" "is_coordinate" (defArgs s_is_coordinate) (defBody s_is_coordinate) (defScope s_is_coordinate) .none kV_is_coordinate dc_is_coordinate pm_is_coordinate an_is_coordinate cd_is_coordinate ct_is_coordinate), sl_is_coordinate⟩) (c_is_coordinate : PySem.W.codeIn K cd_is_coordinate "is_coordinate" = true) (k_is_coordinate : PySem.W.keepIn K (.ref f_is_coordinate) = true)
    (a_is_point : PySem.W.nsIn K mainGlobals "is_point" = some (some (.ref f_is_point))) (l_is_point : K.lookup f_is_point = some ⟨oc_is_point, od_is_point, .func (PySem.W.fnOf "is_point" "is_point" (defArgs s_is_point) (defBody s_is_point) (defScope s_is_point) .none kV_is_point dc_is_point pm_is_point an_is_point cd_is_point ct_is_point), sl_is_point⟩) (c_is_point : PySem.W.codeIn K cd_is_point "is_point" = true) (k_is_point : PySem.W.keepIn K (.ref f_is_point) = true)
    (a_check_points : PySem.W.nsIn K mainGlobals "check_points" = some (some (.ref f_check_points))) (l_check_points : K.lookup f_check_points = some ⟨oc_check_points, od_check_points, .func (PySem.W.fnOf "check_points" "check_points" (defArgs s_check_points) (defBody s_check_points) (defScope s_check_points) .none kV_check_points dc_check_points pm_check_points an_check_points cd_check_points ct_check_points), sl_check_points⟩) (c_check_points : PySem.W.codeIn K cd_check_points "check_points" = true) (k_check_points : PySem.W.keepIn K (.ref f_check_points) = true)
    (a_y_key : PySem.W.nsIn K mainGlobals "y_key" = some (some (.ref f_y_key))) (l_y_key : K.lookup f_y_key = some ⟨oc_y_key, od_y_key, .func (PySem.W.fnOf "y_key" "y_key" (defArgs s_y_key) (defBody s_y_key) (defScope s_y_key) .none kV_y_key dc_y_key pm_y_key an_y_key cd_y_key ct_y_key), sl_y_key⟩) (c_y_key : PySem.W.codeIn K cd_y_key "y_key" = true) (k_y_key : PySem.W.keepIn K (.ref f_y_key) = true)
    (a_part_of : PySem.W.nsIn K mainGlobals "part_of" = some (some (.ref f_part_of))) (l_part_of : K.lookup f_part_of = some ⟨oc_part_of, od_part_of, .func (PySem.W.fnOf "part_of" "part_of" (defArgs s_part_of) (defBody s_part_of) (defScope s_part_of) .none kV_part_of dc_part_of pm_part_of an_part_of cd_part_of ct_part_of), sl_part_of⟩) (c_part_of : PySem.W.codeIn K cd_part_of "part_of" = true) (k_part_of : PySem.W.keepIn K (.ref f_part_of) = true)
    (a_rows_by_steps : PySem.W.nsIn K mainGlobals "rows_by_steps" = some (some (.ref f_rows_by_steps))) (l_rows_by_steps : K.lookup f_rows_by_steps = some ⟨oc_rows_by_steps, od_rows_by_steps, .func (PySem.W.fnOf "rows_by_steps" "rows_by_steps" (defArgs s_rows_by_steps) (defBody s_rows_by_steps) (defScope s_rows_by_steps) .none kV_rows_by_steps dc_rows_by_steps pm_rows_by_steps an_rows_by_steps cd_rows_by_steps ct_rows_by_steps), sl_rows_by_steps⟩) (c_rows_by_steps : PySem.W.codeIn K cd_rows_by_steps "rows_by_steps" = true) (k_rows_by_steps : PySem.W.keepIn K (.ref f_rows_by_steps) = true)
    (a_masks_around : PySem.W.nsIn K mainGlobals "masks_around" = some (some (.ref f_masks_around))) (l_masks_around : K.lookup f_masks_around = some ⟨oc_masks_around, od_masks_around, .func (PySem.W.fnOf "masks_around" "masks_around" (defArgs s_masks_around) (defBody s_masks_around) (defScope s_masks_around) .none kV_masks_around dc_masks_around pm_masks_around an_masks_around cd_masks_around ct_masks_around), sl_masks_around⟩) (c_masks_around : PySem.W.codeIn K cd_masks_around "masks_around" = true) (k_masks_around : PySem.W.keepIn K (.ref f_masks_around) = true)
    (a_masks_on_axes : PySem.W.nsIn K mainGlobals "masks_on_axes" = some (some (.ref f_masks_on_axes))) (l_masks_on_axes : K.lookup f_masks_on_axes = some ⟨oc_masks_on_axes, od_masks_on_axes, .func (PySem.W.fnOf "masks_on_axes" "masks_on_axes" (defArgs s_masks_on_axes) (defBody s_masks_on_axes) (defScope s_masks_on_axes) .none kV_masks_on_axes dc_masks_on_axes pm_masks_on_axes an_masks_on_axes cd_masks_on_axes ct_masks_on_axes), sl_masks_on_axes⟩) (c_masks_on_axes : PySem.W.codeIn K cd_masks_on_axes "masks_on_axes" = true) (k_masks_on_axes : PySem.W.keepIn K (.ref f_masks_on_axes) = true)
    (a_rows_by_masks : PySem.W.nsIn K mainGlobals "rows_by_masks" = some (some (.ref f_rows_by_masks))) (l_rows_by_masks : K.lookup f_rows_by_masks = some ⟨oc_rows_by_masks, od_rows_by_masks, .func (PySem.W.fnOf "rows_by_masks" "rows_by_masks" (defArgs s_rows_by_masks) (defBody s_rows_by_masks) (defScope s_rows_by_masks) .none kV_rows_by_masks dc_rows_by_masks pm_rows_by_masks an_rows_by_masks cd_rows_by_masks ct_rows_by_masks), sl_rows_by_masks⟩) (c_rows_by_masks : PySem.W.codeIn K cd_rows_by_masks "rows_by_masks" = true) (k_rows_by_masks : PySem.W.keepIn K (.ref f_rows_by_masks) = true)
    (a_quarter_of_rows : PySem.W.nsIn K mainGlobals "quarter_of_rows" = some (some (.ref f_quarter_of_rows))) (l_quarter_of_rows : K.lookup f_quarter_of_rows = some ⟨oc_quarter_of_rows, od_quarter_of_rows, .func (PySem.W.fnOf "quarter_of_rows" "quarter_of_rows" (defArgs s_quarter_of_rows) (defBody s_quarter_of_rows) (defScope s_quarter_of_rows) .none kV_quarter_of_rows dc_quarter_of_rows pm_quarter_of_rows an_quarter_of_rows cd_quarter_of_rows ct_quarter_of_rows), sl_quarter_of_rows⟩) (c_quarter_of_rows : PySem.W.codeIn K cd_quarter_of_rows "quarter_of_rows" = true) (k_quarter_of_rows : PySem.W.keepIn K (.ref f_quarter_of_rows) = true)
    (a_grown : PySem.W.nsIn K mainGlobals "grown" = some (some (.ref f_grown))) (l_grown : K.lookup f_grown = some ⟨oc_grown, od_grown, .func (PySem.W.fnOf "grown" "grown" (defArgs s_grown) (defBody s_grown) (defScope s_grown) .none kV_grown dc_grown pm_grown an_grown cd_grown ct_grown), sl_grown⟩) (c_grown : PySem.W.codeIn K cd_grown "grown" = true) (k_grown : PySem.W.keepIn K (.ref f_grown) = true)
    (a_is_node : PySem.W.nsIn K mainGlobals "is_node" = some (some (.ref f_is_node))) (l_is_node : K.lookup f_is_node = some ⟨oc_is_node, od_is_node, .func (PySem.W.fnOf "is_node" "is_node" (defArgs s_is_node) (defBody s_is_node) (defScope s_is_node) .none kV_is_node dc_is_node pm_is_node an_is_node cd_is_node ct_is_node), sl_is_node⟩) (c_is_node : PySem.W.codeIn K cd_is_node "is_node" = true) (k_is_node : PySem.W.keepIn K (.ref f_is_node) = true)
    (a_narrowed : PySem.W.nsIn K mainGlobals "narrowed" = some (some (.ref f_narrowed))) (l_narrowed : K.lookup f_narrowed = some ⟨oc_narrowed, od_narrowed, .func (PySem.W.fnOf "narrowed" "narrowed" (defArgs s_narrowed) (defBody s_narrowed) (defScope s_narrowed) .none kV_narrowed dc_narrowed pm_narrowed an_narrowed cd_narrowed ct_narrowed), sl_narrowed⟩) (c_narrowed : PySem.W.codeIn K cd_narrowed "narrowed" = true) (k_narrowed : PySem.W.keepIn K (.ref f_narrowed) = true)
    (a_fault_of : PySem.W.nsIn K mainGlobals "fault_of" = some (some (.ref f_fault_of))) (l_fault_of : K.lookup f_fault_of = some ⟨oc_fault_of, od_fault_of, .func (PySem.W.fnOf "fault_of" "fault_of" (defArgs s_fault_of) (defBody s_fault_of) (defScope s_fault_of) .none kV_fault_of dc_fault_of pm_fault_of an_fault_of cd_fault_of ct_fault_of), sl_fault_of⟩) (c_fault_of : PySem.W.codeIn K cd_fault_of "fault_of" = true) (k_fault_of : PySem.W.keepIn K (.ref f_fault_of) = true)
    (a_check_quarter : PySem.W.nsIn K mainGlobals "check_quarter" = some (some (.ref f_check_quarter))) (l_check_quarter : K.lookup f_check_quarter = some ⟨oc_check_quarter, od_check_quarter, .func (PySem.W.fnOf "check_quarter" "check_quarter" (defArgs s_check_quarter) (defBody s_check_quarter) (defScope s_check_quarter) .none kV_check_quarter dc_check_quarter pm_check_quarter an_check_quarter cd_check_quarter ct_check_quarter), sl_check_quarter⟩) (c_check_quarter : PySem.W.codeIn K cd_check_quarter "check_quarter" = true) (k_check_quarter : PySem.W.keepIn K (.ref f_check_quarter) = true)
    (a_nodes_of : PySem.W.nsIn K mainGlobals "nodes_of" = some (some (.ref f_nodes_of))) (l_nodes_of : K.lookup f_nodes_of = some ⟨oc_nodes_of, od_nodes_of, .func (PySem.W.fnOf "nodes_of" "nodes_of" (defArgs s_nodes_of) (defBody s_nodes_of) (defScope s_nodes_of) .none kV_nodes_of dc_nodes_of pm_nodes_of an_nodes_of cd_nodes_of ct_nodes_of), sl_nodes_of⟩) (c_nodes_of : PySem.W.codeIn K cd_nodes_of "nodes_of" = true) (k_nodes_of : PySem.W.keepIn K (.ref f_nodes_of) = true)
    (a_reading : PySem.W.nsIn K mainGlobals "reading" = some (some (.ref f_reading))) (l_reading : K.lookup f_reading = some ⟨oc_reading, od_reading, .func (PySem.W.fnOf "reading" "reading" (defArgs s_reading) (defBody s_reading) (defScope s_reading) .none kV_reading dc_reading pm_reading an_reading cd_reading ct_reading), sl_reading⟩) (c_reading : PySem.W.codeIn K cd_reading "reading" = true) (k_reading : PySem.W.keepIn K (.ref f_reading) = true)
    (a_level_counts : PySem.W.nsIn K mainGlobals "level_counts" = some (some (.ref f_level_counts))) (l_level_counts : K.lookup f_level_counts = some ⟨oc_level_counts, od_level_counts, .func (PySem.W.fnOf "level_counts" "level_counts" (defArgs s_level_counts) (defBody s_level_counts) (defScope s_level_counts) .none kV_level_counts dc_level_counts pm_level_counts an_level_counts cd_level_counts ct_level_counts), sl_level_counts⟩) (c_level_counts : PySem.W.codeIn K cd_level_counts "level_counts" = true) (k_level_counts : PySem.W.keepIn K (.ref f_level_counts) = true)
    (a_built : PySem.W.nsIn K mainGlobals "built" = some (some (.ref f_built))) (l_built : K.lookup f_built = some ⟨oc_built, od_built, .func (PySem.W.fnOf "built" "built" (defArgs s_built) (defBody s_built) (defScope s_built) .none kV_built dc_built pm_built an_built cd_built ct_built), sl_built⟩) (c_built : PySem.W.codeIn K cd_built "built" = true) (k_built : PySem.W.keepIn K (.ref f_built) = true)
    (a_points_of : PySem.W.nsIn K mainGlobals "points_of" = some (some (.ref f_points_of))) (l_points_of : K.lookup f_points_of = some ⟨oc_points_of, od_points_of, .func (PySem.W.fnOf "points_of" "points_of" (defArgs s_points_of) (defBody s_points_of) (defScope s_points_of) .none kV_points_of dc_points_of pm_points_of an_points_of cd_points_of ct_points_of), sl_points_of⟩) (c_points_of : PySem.W.codeIn K cd_points_of "points_of" = true) (k_points_of : PySem.W.keepIn K (.ref f_points_of) = true)
    (a_levels : PySem.W.nsIn K mainGlobals "levels" = some (some (.ref f_levels))) (l_levels : K.lookup f_levels = some ⟨oc_levels, od_levels, .func (PySem.W.fnOf "levels" "levels" (defArgs s_levels) (defBody s_levels) (defScope s_levels) .none kV_levels dc_levels pm_levels an_levels cd_levels ct_levels), sl_levels⟩) (c_levels : PySem.W.codeIn K cd_levels "levels" = true) (k_levels : PySem.W.keepIn K (.ref f_levels) = true)
    (a_depth : PySem.W.nsIn K mainGlobals "depth" = some (some (.ref f_depth))) (l_depth : K.lookup f_depth = some ⟨oc_depth, od_depth, .func (PySem.W.fnOf "depth" "depth" (defArgs s_depth) (defBody s_depth) (defScope s_depth) .none kV_depth dc_depth pm_depth an_depth cd_depth ct_depth), sl_depth⟩) (c_depth : PySem.W.codeIn K cd_depth "depth" = true) (k_depth : PySem.W.keepIn K (.ref f_depth) = true)
    (a_law_mixed : PySem.W.nsIn K mainGlobals "_law_mixed" = some (some (.ref f_law_mixed))) (l_law_mixed : K.lookup f_law_mixed = some ⟨oc_law_mixed, od_law_mixed, .func (PySem.W.fnOf "_law_mixed" "_law_mixed" (defArgs s_law_mixed) (defBody s_law_mixed) (defScope s_law_mixed) .none kV_law_mixed dc_law_mixed pm_law_mixed an_law_mixed cd_law_mixed ct_law_mixed), sl_law_mixed⟩) (c_law_mixed : PySem.W.codeIn K cd_law_mixed "_law_mixed" = true) (k_law_mixed : PySem.W.keepIn K (.ref f_law_mixed) = true)
    (a_law_source : PySem.W.nsIn K mainGlobals "_law_source" = some (some (.ref f_law_source))) (l_law_source : K.lookup f_law_source = some ⟨oc_law_source, od_law_source, .func (PySem.W.fnOf "_law_source" "_law_source" (defArgs s_law_source) (defBody s_law_source) (defScope s_law_source) .none kV_law_source dc_law_source pm_law_source an_law_source cd_law_source ct_law_source), sl_law_source⟩) (c_law_source : PySem.W.codeIn K cd_law_source "_law_source" = true) (k_law_source : PySem.W.keepIn K (.ref f_law_source) = true)
    (a_law_take : PySem.W.nsIn K mainGlobals "_law_take" = some (some (.ref f_law_take))) (l_law_take : K.lookup f_law_take = some ⟨oc_law_take, od_law_take, .func (PySem.W.fnOf "_law_take" "_law_take" (defArgs s_law_take) (defBody s_law_take) (defScope s_law_take) .none kV_law_take dc_law_take pm_law_take an_law_take cd_law_take ct_law_take), sl_law_take⟩) (c_law_take : PySem.W.codeIn K cd_law_take "_law_take" = true) (k_law_take : PySem.W.keepIn K (.ref f_law_take) = true)
    (a_law_pick : PySem.W.nsIn K mainGlobals "_law_pick" = some (some (.ref f_law_pick))) (l_law_pick : K.lookup f_law_pick = some ⟨oc_law_pick, od_law_pick, .func (PySem.W.fnOf "_law_pick" "_law_pick" (defArgs s_law_pick) (defBody s_law_pick) (defScope s_law_pick) .none kV_law_pick dc_law_pick pm_law_pick an_law_pick cd_law_pick ct_law_pick), sl_law_pick⟩) (c_law_pick : PySem.W.codeIn K cd_law_pick "_law_pick" = true) (k_law_pick : PySem.W.keepIn K (.ref f_law_pick) = true)
    (a_law_spots : PySem.W.nsIn K mainGlobals "_law_spots" = some (some (.ref f_law_spots))) (l_law_spots : K.lookup f_law_spots = some ⟨oc_law_spots, od_law_spots, .func (PySem.W.fnOf "_law_spots" "_law_spots" (defArgs s_law_spots) (defBody s_law_spots) (defScope s_law_spots) .none kV_law_spots dc_law_spots pm_law_spots an_law_spots cd_law_spots ct_law_spots), sl_law_spots⟩) (c_law_spots : PySem.W.codeIn K cd_law_spots "_law_spots" = true) (k_law_spots : PySem.W.keepIn K (.ref f_law_spots) = true)
    (a_law_shuffled : PySem.W.nsIn K mainGlobals "_law_shuffled" = some (some (.ref f_law_shuffled))) (l_law_shuffled : K.lookup f_law_shuffled = some ⟨oc_law_shuffled, od_law_shuffled, .func (PySem.W.fnOf "_law_shuffled" "_law_shuffled" (defArgs s_law_shuffled) (defBody s_law_shuffled) (defScope s_law_shuffled) .none kV_law_shuffled dc_law_shuffled pm_law_shuffled an_law_shuffled cd_law_shuffled ct_law_shuffled), sl_law_shuffled⟩) (c_law_shuffled : PySem.W.codeIn K cd_law_shuffled "_law_shuffled" = true) (k_law_shuffled : PySem.W.keepIn K (.ref f_law_shuffled) = true)
    (a_law_mirrored : PySem.W.nsIn K mainGlobals "_law_mirrored" = some (some (.ref f_law_mirrored))) (l_law_mirrored : K.lookup f_law_mirrored = some ⟨oc_law_mirrored, od_law_mirrored, .func (PySem.W.fnOf "_law_mirrored" "_law_mirrored" (defArgs s_law_mirrored) (defBody s_law_mirrored) (defScope s_law_mirrored) .none kV_law_mirrored dc_law_mirrored pm_law_mirrored an_law_mirrored cd_law_mirrored ct_law_mirrored), sl_law_mirrored⟩) (c_law_mirrored : PySem.W.codeIn K cd_law_mirrored "_law_mirrored" = true) (k_law_mirrored : PySem.W.keepIn K (.ref f_law_mirrored) = true)
    (a_law_parts_right : PySem.W.nsIn K mainGlobals "_law_parts_right" = some (some (.ref f_law_parts_right))) (l_law_parts_right : K.lookup f_law_parts_right = some ⟨oc_law_parts_right, od_law_parts_right, .func (PySem.W.fnOf "_law_parts_right" "_law_parts_right" (defArgs s_law_parts_right) (defBody s_law_parts_right) (defScope s_law_parts_right) .none kV_law_parts_right dc_law_parts_right pm_law_parts_right an_law_parts_right cd_law_parts_right ct_law_parts_right), sl_law_parts_right⟩) (c_law_parts_right : PySem.W.codeIn K cd_law_parts_right "_law_parts_right" = true) (k_law_parts_right : PySem.W.keepIn K (.ref f_law_parts_right) = true)
    (a_law : PySem.W.nsIn K mainGlobals "law" = some (some (.ref f_law))) (l_law : K.lookup f_law = some ⟨oc_law, od_law, .func (PySem.W.fnOf "law" "law" (defArgs s_law) (defBody s_law) (defScope s_law) .none kV_law dc_law pm_law an_law cd_law ct_law), sl_law⟩) (c_law : PySem.W.codeIn K cd_law "law" = true) (k_law : PySem.W.keepIn K (.ref f_law) = true)
    (w_FARTHEST_COORDINATE : PySem.W.nsIn K mainGlobals "FARTHEST_COORDINATE" = some (some (.int Lo tk_FARTHEST_COORDINATE)))
    (w_MOST_POINTS : PySem.W.nsIn K mainGlobals "MOST_POINTS" = some (some (.int 500 tk_MOST_POINTS)))
    (w_MANY_POINTS : PySem.W.nsIn K mainGlobals "MANY_POINTS" = some (some (.int 32 tk_MANY_POINTS)))
    (w_MOST_NODES : PySem.W.nsIn K mainGlobals "MOST_NODES" = some (some (.int 500 tk_MOST_NODES)))
    (w_LAST_PART_FIRST : PySem.W.nsIn K mainGlobals "LAST_PART_FIRST" = some (some (.ref aL)))
    (u_aL : K.lookup aL = some ⟨.type "tuple", tod_aL, .seq #[.int 3 t_l3, .int 2 t_l2, .int 1 t_l1, .int 0 t_l0] tn_aL, tsl_aL⟩)
    (w_ALL_KEYS : PySem.W.nsIn K mainGlobals "ALL_KEYS" = some (some (.ref aK)))
    (u_aK : K.lookup aK = some ⟨.type "tuple", tod_aK, .seq #[.ref b0, .ref b1, .ref b2, .ref b3] tn_aK, tsl_aK⟩)
    (u_b0 : K.lookup b0 = some ⟨.type "tuple", tod_b0, .seq #[.int (-10000000000000000000000000000000) t_x0, .int 0 t_y0] tn_b0, tsl_b0⟩)
    (u_b1 : K.lookup b1 = some ⟨.type "tuple", tod_b1, .seq #[.int (-10000000000000000000000000000000) t_x1, .int 0 t_y1] tn_b1, tsl_b1⟩)
    (u_b2 : K.lookup b2 = some ⟨.type "tuple", tod_b2, .seq #[.int (10000000000000000000000000000000) t_x2, .int 0 t_y2] tn_b2, tsl_b2⟩)
    (u_b3 : K.lookup b3 = some ⟨.type "tuple", tod_b3, .seq #[.int (10000000000000000000000000000000) t_x3, .int 0 t_y3] tn_b3, tsl_b3⟩)
    (z_int : PySem.W.nsIn K mainGlobals "int" = some none)
    (z_abs : PySem.W.nsIn K mainGlobals "abs" = some none)
    (z_len : PySem.W.nsIn K mainGlobals "len" = some none)
    (z_range : PySem.W.nsIn K mainGlobals "range" = some none)
    (z_isinstance : PySem.W.nsIn K mainGlobals "isinstance" = some none)
    (z_bool : PySem.W.nsIn K mainGlobals "bool" = some none)
    (z_tuple : PySem.W.nsIn K mainGlobals "tuple" = some none)
    (z_all : PySem.W.nsIn K mainGlobals "all" = some none)
    (z_repr : PySem.W.nsIn K mainGlobals "repr" = some none)
    (z_list : PySem.W.nsIn K mainGlobals "list" = some none)
    (z_set : PySem.W.nsIn K mainGlobals "set" = some none)
    (z_enumerate : PySem.W.nsIn K mainGlobals "enumerate" = some none)
    (z_sorted : PySem.W.nsIn K mainGlobals "sorted" = some none)
    (z_reversed : PySem.W.nsIn K mainGlobals "reversed" = some none)
    (z_sum : PySem.W.nsIn K mainGlobals "sum" = some none) :
    ∃ fd : FuncData, (∀ (s : Shared) (v : Value), BindsTo s fd ⟨[v], []⟩ [("_law_script", v)]) ∧ ∀ base : Heap, K.In base → base.Ns mainGlobals mg → FnOk l.prog w K mg base CX0 29 fa fd ["_law_script"] (spLaw K) := by
  have e := hfa.symm.trans (PySem.W.mg_of X G a_law)
  cases e
  have F_is_integer := fun_mk (st := s_is_integer) l_is_integer c_is_integer k_is_integer
  have b_is_integer := F_is_integer.binds (ps := ["value"]) fun _ _ _ _ _ _ us hl => match us, hl with | [_], _ => rfl
  have m_is_integer := PySem.W.mg_of X G a_is_integer
  have F_is_coordinate := fun_mk (st := s_is_coordinate) l_is_coordinate c_is_coordinate k_is_coordinate
  have b_is_coordinate := F_is_coordinate.binds (ps := ["value"]) fun _ _ _ _ _ _ us hl => match us, hl with | [_], _ => rfl
  have m_is_coordinate := PySem.W.mg_of X G a_is_coordinate
  have F_is_point := fun_mk (st := s_is_point) l_is_point c_is_point k_is_point
  have b_is_point := F_is_point.binds (ps := ["value"]) fun _ _ _ _ _ _ us hl => match us, hl with | [_], _ => rfl
  have m_is_point := PySem.W.mg_of X G a_is_point
  have F_check_points := fun_mk (st := s_check_points) l_check_points c_check_points k_check_points
  have b_check_points := F_check_points.binds (ps := ["value"]) fun _ _ _ _ _ _ us hl => match us, hl with | [_], _ => rfl
  have m_check_points := PySem.W.mg_of X G a_check_points
  have F_y_key := fun_mk (st := s_y_key) l_y_key c_y_key k_y_key
  have b_y_key := F_y_key.binds (ps := ["point"]) fun _ _ _ _ _ _ us hl => match us, hl with | [_], _ => rfl
  have m_y_key := PySem.W.mg_of X G a_y_key
  have F_part_of := fun_mk (st := s_part_of) l_part_of c_part_of k_part_of
  have b_part_of := F_part_of.binds (ps := ["root", "point"]) fun _ _ _ _ _ _ us hl => match us, hl with | [_, _], _ => rfl
  have m_part_of := PySem.W.mg_of X G a_part_of
  have F_rows_by_steps := fun_mk (st := s_rows_by_steps) l_rows_by_steps c_rows_by_steps k_rows_by_steps
  have b_rows_by_steps := F_rows_by_steps.binds (ps := ["points"]) fun _ _ _ _ _ _ us hl => match us, hl with | [_], _ => rfl
  have m_rows_by_steps := PySem.W.mg_of X G a_rows_by_steps
  have F_masks_around := fun_mk (st := s_masks_around) l_masks_around c_masks_around k_masks_around
  have b_masks_around := F_masks_around.binds (ps := ["numbers"]) fun _ _ _ _ _ _ us hl => match us, hl with | [_], _ => rfl
  have m_masks_around := PySem.W.mg_of X G a_masks_around
  have F_masks_on_axes := fun_mk (st := s_masks_on_axes) l_masks_on_axes c_masks_on_axes k_masks_on_axes
  have b_masks_on_axes := F_masks_on_axes.binds (ps := ["points"]) fun _ _ _ _ _ _ us hl => match us, hl with | [_], _ => rfl
  have m_masks_on_axes := PySem.W.mg_of X G a_masks_on_axes
  have F_rows_by_masks := fun_mk (st := s_rows_by_masks) l_rows_by_masks c_rows_by_masks k_rows_by_masks
  have b_rows_by_masks := F_rows_by_masks.binds (ps := ["points"]) fun _ _ _ _ _ _ us hl => match us, hl with | [_], _ => rfl
  have m_rows_by_masks := PySem.W.mg_of X G a_rows_by_masks
  have F_quarter_of_rows := fun_mk (st := s_quarter_of_rows) l_quarter_of_rows c_quarter_of_rows k_quarter_of_rows
  have b_quarter_of_rows := F_quarter_of_rows.binds (ps := ["points", "rows", "many"]) fun _ _ _ _ _ _ us hl => match us, hl with | [_, _, _], _ => rfl
  have m_quarter_of_rows := PySem.W.mg_of X G a_quarter_of_rows
  have F_grown := fun_mk (st := s_grown) l_grown c_grown k_grown
  have b_grown := F_grown.binds (ps := ["points"]) fun _ _ _ _ _ _ us hl => match us, hl with | [_], _ => rfl
  have m_grown := PySem.W.mg_of X G a_grown
  have F_is_node := fun_mk (st := s_is_node) l_is_node c_is_node k_is_node
  have b_is_node := F_is_node.binds (ps := ["value"]) fun _ _ _ _ _ _ us hl => match us, hl with | [_], _ => rfl
  have m_is_node := PySem.W.mg_of X G a_is_node
  have F_narrowed := fun_mk (st := s_narrowed) l_narrowed c_narrowed k_narrowed
  have b_narrowed := F_narrowed.binds (ps := ["ends", "split", "part"]) fun _ _ _ _ _ _ us hl => match us, hl with | [_, _, _], _ => rfl
  have m_narrowed := PySem.W.mg_of X G a_narrowed
  have F_fault_of := fun_mk (st := s_fault_of) l_fault_of c_fault_of k_fault_of
  have b_fault_of := F_fault_of.binds (ps := ["value"]) fun _ _ _ _ _ _ us hl => match us, hl with | [_], _ => rfl
  have m_fault_of := PySem.W.mg_of X G a_fault_of
  have F_check_quarter := fun_mk (st := s_check_quarter) l_check_quarter c_check_quarter k_check_quarter
  have b_check_quarter := F_check_quarter.binds (ps := ["value"]) fun _ _ _ _ _ _ us hl => match us, hl with | [_], _ => rfl
  have m_check_quarter := PySem.W.mg_of X G a_check_quarter
  have F_nodes_of := fun_mk (st := s_nodes_of) l_nodes_of c_nodes_of k_nodes_of
  have b_nodes_of := F_nodes_of.binds (ps := ["tree"]) fun _ _ _ _ _ _ us hl => match us, hl with | [_], _ => rfl
  have m_nodes_of := PySem.W.mg_of X G a_nodes_of
  have F_reading := fun_mk (st := s_reading) l_reading c_reading k_reading
  have b_reading := F_reading.binds (ps := ["tree"]) fun _ _ _ _ _ _ us hl => match us, hl with | [_], _ => rfl
  have m_reading := PySem.W.mg_of X G a_reading
  have F_level_counts := fun_mk (st := s_level_counts) l_level_counts c_level_counts k_level_counts
  have b_level_counts := F_level_counts.binds (ps := ["tree"]) fun _ _ _ _ _ _ us hl => match us, hl with | [_], _ => rfl
  have m_level_counts := PySem.W.mg_of X G a_level_counts
  have F_built := fun_mk (st := s_built) l_built c_built k_built
  have b_built := F_built.binds (ps := ["points"]) fun _ _ _ _ _ _ us hl => match us, hl with | [_], _ => rfl
  have m_built := PySem.W.mg_of X G a_built
  have F_points_of := fun_mk (st := s_points_of) l_points_of c_points_of k_points_of
  have b_points_of := F_points_of.binds (ps := ["tree"]) fun _ _ _ _ _ _ us hl => match us, hl with | [_], _ => rfl
  have m_points_of := PySem.W.mg_of X G a_points_of
  have F_levels := fun_mk (st := s_levels) l_levels c_levels k_levels
  have b_levels := F_levels.binds (ps := ["tree"]) fun _ _ _ _ _ _ us hl => match us, hl with | [_], _ => rfl
  have m_levels := PySem.W.mg_of X G a_levels
  have F_depth := fun_mk (st := s_depth) l_depth c_depth k_depth
  have b_depth := F_depth.binds (ps := ["tree"]) fun _ _ _ _ _ _ us hl => match us, hl with | [_], _ => rfl
  have m_depth := PySem.W.mg_of X G a_depth
  have F_law_mixed := fun_mk (st := s_law_mixed) l_law_mixed c_law_mixed k_law_mixed
  have b_law_mixed := F_law_mixed.binds (ps := ["_law_cell", "_law_draw"]) fun _ _ _ _ _ _ us hl => match us, hl with | [_, _], _ => rfl
  have m_law_mixed := PySem.W.mg_of X G a_law_mixed
  have F_law_source := fun_mk (st := s_law_source) l_law_source c_law_source k_law_source
  have b_law_source := F_law_source.binds (ps := ["_law_cell"]) fun _ _ _ _ _ _ us hl => match us, hl with | [_], _ => rfl
  have m_law_source := PySem.W.mg_of X G a_law_source
  have F_law_take := fun_mk (st := s_law_take) l_law_take c_law_take k_law_take
  have b_law_take := F_law_take.binds (ps := ["_law_source_here", "_law_bound"]) fun _ _ _ _ _ _ us hl => match us, hl with | [_, _], _ => rfl
  have m_law_take := PySem.W.mg_of X G a_law_take
  have F_law_pick := fun_mk (st := s_law_pick) l_law_pick c_law_pick k_law_pick
  have b_law_pick := F_law_pick.binds (ps := ["_law_source_here", "_law_some"]) fun _ _ _ _ _ _ us hl => match us, hl with | [_, _], _ => rfl
  have m_law_pick := PySem.W.mg_of X G a_law_pick
  have F_law_spots := fun_mk (st := s_law_spots) l_law_spots c_law_spots k_law_spots
  have b_law_spots := F_law_spots.binds (ps := ["_law_source_here", "_law_most"]) fun _ _ _ _ _ _ us hl => match us, hl with | [_, _], _ => rfl
  have m_law_spots := PySem.W.mg_of X G a_law_spots
  have F_law_shuffled := fun_mk (st := s_law_shuffled) l_law_shuffled c_law_shuffled k_law_shuffled
  have b_law_shuffled := F_law_shuffled.binds (ps := ["_law_source_here", "_law_some"]) fun _ _ _ _ _ _ us hl => match us, hl with | [_, _], _ => rfl
  have m_law_shuffled := PySem.W.mg_of X G a_law_shuffled
  have F_law_mirrored := fun_mk (st := s_law_mirrored) l_law_mirrored c_law_mirrored k_law_mirrored
  have b_law_mirrored := F_law_mirrored.binds (ps := ["_law_wood", "_law_change", "_law_row"]) fun _ _ _ _ _ _ us hl => match us, hl with | [_, _, _], _ => rfl
  have m_law_mirrored := PySem.W.mg_of X G a_law_mirrored
  have F_law_parts_right := fun_mk (st := s_law_parts_right) l_law_parts_right c_law_parts_right k_law_parts_right
  have b_law_parts_right := F_law_parts_right.binds (ps := ["_law_wood", "_law_spots_here"]) fun _ _ _ _ _ _ us hl => match us, hl with | [_, _], _ => rfl
  have m_law_parts_right := PySem.W.mg_of X G a_law_parts_right
  have F_law := fun_mk (st := s_law) l_law c_law k_law
  have m_FARTHEST_COORDINATE := PySem.W.mg_of X G w_FARTHEST_COORDINATE
  have m_MOST_POINTS := PySem.W.mg_of X G w_MOST_POINTS
  have m_MANY_POINTS := PySem.W.mg_of X G w_MANY_POINTS
  have m_MOST_NODES := PySem.W.mg_of X G w_MOST_NODES
  have m_LAST_PART_FIRST := PySem.W.mg_of X G w_LAST_PART_FIRST
  have m_ALL_KEYS := PySem.W.mg_of X G w_ALL_KEYS
  have n_int := PySem.W.mg_none_of X G z_int
  have n_abs := PySem.W.mg_none_of X G z_abs
  have n_len := PySem.W.mg_none_of X G z_len
  have n_range := PySem.W.mg_none_of X G z_range
  have n_isinstance := PySem.W.mg_none_of X G z_isinstance
  have n_bool := PySem.W.mg_none_of X G z_bool
  have n_tuple := PySem.W.mg_none_of X G z_tuple
  have n_all := PySem.W.mg_none_of X G z_all
  have n_repr := PySem.W.mg_none_of X G z_repr
  have n_list := PySem.W.mg_none_of X G z_list
  have n_set := PySem.W.mg_none_of X G z_set
  have n_enumerate := PySem.W.mg_none_of X G z_enumerate
  have n_sorted := PySem.W.mg_none_of X G z_sorted
  have n_reversed := PySem.W.mg_none_of X G z_reversed
  have n_sum := PySem.W.mg_none_of X G z_sum
  refine ⟨PySem.W.fnOf "law" "law" (defArgs s_law) (defBody s_law) (defScope s_law) .none kV_law dc_law pm_law an_law cd_law ct_law, fun s v => .of_eq rfl, fun base _ _ => ?_⟩
  have B : Bt mg := ⟨n_int, n_abs, n_len, n_range, n_isinstance, n_bool, n_tuple, n_all, n_repr⟩
  have C : B1 mg := ⟨n_list, n_set, n_enumerate, n_sorted⟩
  have G_take := ok_take (P := l.prog) (w := w) (base := base) F_law_take B F_law_mixed b_law_mixed m_law_mixed
  have G_pick := ok_pick (fM := f_law_mixed) (fdM := PySem.W.fnOf "law" "law" (defArgs s_law) (defBody s_law) (defScope s_law) .none kV_law dc_law pm_law an_law cd_law ct_law) F_law_pick B G_take F_law_take.kp b_law_take m_law_take
  have G_spots := ok_spots F_law_spots B G_take F_law_take.kp b_law_take m_law_take G_pick F_law_pick.kp b_law_pick m_law_pick
  have G_up := ok_coord (P := l.prog) (w := w) (base := base) F_is_coordinate B F_is_integer b_is_integer m_is_integer m_FARTHEST_COORDINATE
  have G_ptR := ok_isPtR F_is_point B G_up F_is_coordinate.kp b_is_coordinate m_is_coordinate
  have G_pt := ok_isPt F_is_point B G_up F_is_coordinate.kp b_is_coordinate m_is_coordinate
  have G_cps := ok_chkPs F_check_points B C G_pt F_is_point.kp b_is_point m_is_point m_MOST_POINTS
  have G_yk := ok_yKeyR (P := l.prog) (w := w) (mg := mg) (base := base) F_y_key
  have G_pa := ok_part (P := l.prog) (w := w) (mg := mg) (base := base) F_part_of
  have G_rows := ok_rows F_rows_by_steps B C G_pa F_part_of.kp b_part_of m_part_of
  have G_qor := ok_qor (P := l.prog) (w := w) (base := base) F_quarter_of_rows B n_reversed
  have G_grown := ok_grown F_grown B G_rows F_rows_by_steps.kp b_rows_by_steps m_rows_by_steps G_qor F_quarter_of_rows.kp b_quarter_of_rows m_quarter_of_rows m_MANY_POINTS
  have G_node := ok_isNode F_is_node B G_ptR F_is_point.kp b_is_point m_is_point
  have G_nar := ok_nar (P := l.prog) (w := w) (mg := mg) (base := base) F_narrowed
  have FC : FaultC K mg aK aL b0 b1 b2 b3 tk_MOST_NODES := ⟨m_ALL_KEYS, tup4R u_aK, fun H => ⟨tup2I u_b0 H, tup2I u_b1 H, tup2I u_b2 H, tup2I u_b3 H⟩, m_LAST_PART_FIRST, tup4I u_aL, m_MOST_NODES⟩
  have G_fault := ok_fault F_fault_of FC G_node F_is_node.kp b_is_node m_is_node G_yk F_y_key.kp b_y_key m_y_key G_nar F_narrowed.kp b_narrowed m_narrowed
  have G_ptQ := isPtQ G_ptR
  have G_paQ := partQ (ok_partR (P := l.prog) (w := w) (mg := mg) (base := base) F_part_of)
  have G_cpsR := ok_chkPsR F_check_points B C G_ptQ F_is_point.kp b_is_point m_is_point m_MOST_POINTS
  have G_rowsR := ok_rowsR F_rows_by_steps B C G_paQ F_part_of.kp b_part_of m_part_of
  have G_qorR := ok_qorR (P := l.prog) (w := w) (base := base) F_quarter_of_rows B n_reversed
  have G_grownR := ok_grownR F_grown B G_rowsR F_rows_by_steps.kp b_rows_by_steps m_rows_by_steps G_qorR F_quarter_of_rows.kp b_quarter_of_rows m_quarter_of_rows m_MANY_POINTS
  have G_builtR := ok_builtR F_built G_cpsR F_check_points.kp b_check_points m_check_points G_grownR F_grown.kp b_grown m_grown
  have G_built := ok_built F_built G_cps F_check_points.kp b_check_points m_check_points G_grown F_grown.kp b_grown m_grown
  have G_cq := ok_chkQ F_check_quarter G_fault F_fault_of.kp b_fault_of m_fault_of
  have G_nd := ok_nodes (P := l.prog) (w := w) (mg := mg) (base := base) F_nodes_of
  have G_rd := ok_reading F_reading G_nd F_nodes_of.kp b_nodes_of m_nodes_of
  have G_pof := ok_pof F_points_of G_cq F_check_quarter.kp b_check_quarter m_check_quarter G_rd F_reading.kp b_reading m_reading
  have G_LC := ok_LC (P := l.prog) (w := w) (base := base) F_level_counts B
  have G_lvl := ok_lvl F_levels G_cq F_check_quarter.kp b_check_quarter m_check_quarter G_LC F_level_counts.kp b_level_counts m_level_counts
  have G_dep := ok_dep F_depth B G_cq F_check_quarter.kp b_check_quarter m_check_quarter G_LC F_level_counts.kp b_level_counts m_level_counts
  have G_sh := ok_shuf F_law_shuffled B C G_take F_law_take.kp b_law_take m_law_take
  have G_mir := ok_mir (P := l.prog) (w := w) (base := base) F_law_mirrored B F_law_mirrored.kp b_law_mirrored m_law_mirrored 20
  have G_pr := ok_pr F_law_parts_right B G_pof F_points_of.kp b_points_of m_points_of G_built F_built.kp b_built m_built F_law_parts_right.kp b_law_parts_right m_law_parts_right 20
  exact ok_law F_law B C n_sum (ok_source F_law_source B) F_law_source.kp b_law_source m_law_source G_spots F_law_spots.kp b_law_spots m_law_spots G_sh F_law_shuffled.kp b_law_shuffled m_law_shuffled G_builtR F_built.kp b_built m_built
    G_pof F_points_of.kp b_points_of m_points_of G_lvl F_levels.kp b_levels m_levels G_dep F_depth.kp b_depth m_depth G_pr F_law_parts_right.kp b_law_parts_right m_law_parts_right G_mir F_law_mirrored.kp b_law_mirrored m_law_mirrored
end Q2
open PySem PySem.W PyProof.Rows
set_option maxHeartbeats 0 in
theorem PySem.Challenge.cw_planesplits_k12_whole_trees_and_their_re_holds : PySem.Challenge.rw_planesplits_k12_whole_trees_and_their_re.Holds := by
  w_on; o_law; k_head; (case hw => w_witness2)
  k_fill
  refine L2.walk_of (l := PySem.Challenge.rw_planesplits_k12_whole_trees_and_their_re) (n := 63) (k := 29) (x := "_law_script") (CX := fun _ => L2.CX0) (sp := fun w => Q2.spLaw _) rfl (by decide) rfl ⟨rfl, by decide, by decide⟩ (fun w h Y => PySem.W.km_in_of Y) ?F (fun _ _ a ns hl _ hS => ⟨a, ns, rfl, hS, hl, fun _ => rfl⟩) (fun _ _ _ _ _ h => h)
  case F =>
    intro w mg fa h KX G hmg
    refine' Q2.all_mk KX G hmg ?a_is_integer ?l_is_integer ?c_is_integer ?k_is_integer ?a_is_coordinate ?l_is_coordinate ?c_is_coordinate ?k_is_coordinate ?a_is_point ?l_is_point ?c_is_point ?k_is_point ?a_check_points ?l_check_points ?c_check_points ?k_check_points ?a_y_key ?l_y_key ?c_y_key ?k_y_key ?a_part_of ?l_part_of ?c_part_of ?k_part_of ?a_rows_by_steps ?l_rows_by_steps ?c_rows_by_steps ?k_rows_by_steps ?a_masks_around ?l_masks_around ?c_masks_around ?k_masks_around ?a_masks_on_axes ?l_masks_on_axes ?c_masks_on_axes ?k_masks_on_axes ?a_rows_by_masks ?l_rows_by_masks ?c_rows_by_masks ?k_rows_by_masks ?a_quarter_of_rows ?l_quarter_of_rows ?c_quarter_of_rows ?k_quarter_of_rows ?a_grown ?l_grown ?c_grown ?k_grown ?a_is_node ?l_is_node ?c_is_node ?k_is_node ?a_narrowed ?l_narrowed ?c_narrowed ?k_narrowed ?a_fault_of ?l_fault_of ?c_fault_of ?k_fault_of ?a_check_quarter ?l_check_quarter ?c_check_quarter ?k_check_quarter ?a_nodes_of ?l_nodes_of ?c_nodes_of ?k_nodes_of ?a_reading ?l_reading ?c_reading ?k_reading ?a_level_counts ?l_level_counts ?c_level_counts ?k_level_counts ?a_built ?l_built ?c_built ?k_built ?a_points_of ?l_points_of ?c_points_of ?k_points_of ?a_levels ?l_levels ?c_levels ?k_levels ?a_depth ?l_depth ?c_depth ?k_depth ?a_law_mixed ?l_law_mixed ?c_law_mixed ?k_law_mixed ?a_law_source ?l_law_source ?c_law_source ?k_law_source ?a_law_take ?l_law_take ?c_law_take ?k_law_take ?a_law_pick ?l_law_pick ?c_law_pick ?k_law_pick ?a_law_spots ?l_law_spots ?c_law_spots ?k_law_spots ?a_law_shuffled ?l_law_shuffled ?c_law_shuffled ?k_law_shuffled ?a_law_mirrored ?l_law_mirrored ?c_law_mirrored ?k_law_mirrored ?a_law_parts_right ?l_law_parts_right ?c_law_parts_right ?k_law_parts_right ?a_law ?l_law ?c_law ?k_law ?w_FARTHEST_COORDINATE ?w_MOST_POINTS ?w_MANY_POINTS ?w_MOST_NODES ?w_LAST_PART_FIRST ?u_aL ?w_ALL_KEYS ?u_aK ?u_b0 ?u_b1 ?u_b2 ?u_b3 ?z_int ?z_abs ?z_len ?z_range ?z_isinstance ?z_bool ?z_tuple ?z_all ?z_repr ?z_list ?z_set ?z_enumerate ?z_sorted ?z_reversed ?z_sum
    (case a_is_integer => k_is)
    (case l_is_integer => k_is)
    (case c_is_integer => k_is)
    (case k_is_integer => k_is)
    (case a_is_coordinate => k_is)
    (case l_is_coordinate => k_is)
    (case c_is_coordinate => k_is)
    (case k_is_coordinate => k_is)
    (case a_is_point => k_is)
    (case l_is_point => k_is)
    (case c_is_point => k_is)
    (case k_is_point => k_is)
    (case a_check_points => k_is)
    (case l_check_points => k_is)
    (case c_check_points => k_is)
    (case k_check_points => k_is)
    (case a_y_key => k_is)
    (case l_y_key => k_is)
    (case c_y_key => k_is)
    (case k_y_key => k_is)
    (case a_part_of => k_is)
    (case l_part_of => k_is)
    (case c_part_of => k_is)
    (case k_part_of => k_is)
    (case a_rows_by_steps => k_is)
    (case l_rows_by_steps => k_is)
    (case c_rows_by_steps => k_is)
    (case k_rows_by_steps => k_is)
    (case a_masks_around => k_is)
    (case l_masks_around => k_is)
    (case c_masks_around => k_is)
    (case k_masks_around => k_is)
    (case a_masks_on_axes => k_is)
    (case l_masks_on_axes => k_is)
    (case c_masks_on_axes => k_is)
    (case k_masks_on_axes => k_is)
    (case a_rows_by_masks => k_is)
    (case l_rows_by_masks => k_is)
    (case c_rows_by_masks => k_is)
    (case k_rows_by_masks => k_is)
    (case a_quarter_of_rows => k_is)
    (case l_quarter_of_rows => k_is)
    (case c_quarter_of_rows => k_is)
    (case k_quarter_of_rows => k_is)
    (case a_grown => k_is)
    (case l_grown => k_is)
    (case c_grown => k_is)
    (case k_grown => k_is)
    (case a_is_node => k_is)
    (case l_is_node => k_is)
    (case c_is_node => k_is)
    (case k_is_node => k_is)
    (case a_narrowed => k_is)
    (case l_narrowed => k_is)
    (case c_narrowed => k_is)
    (case k_narrowed => k_is)
    (case a_fault_of => k_is)
    (case l_fault_of => k_is)
    (case c_fault_of => k_is)
    (case k_fault_of => k_is)
    (case a_check_quarter => k_is)
    (case l_check_quarter => k_is)
    (case c_check_quarter => k_is)
    (case k_check_quarter => k_is)
    (case a_nodes_of => k_is)
    (case l_nodes_of => k_is)
    (case c_nodes_of => k_is)
    (case k_nodes_of => k_is)
    (case a_reading => k_is)
    (case l_reading => k_is)
    (case c_reading => k_is)
    (case k_reading => k_is)
    (case a_level_counts => k_is)
    (case l_level_counts => k_is)
    (case c_level_counts => k_is)
    (case k_level_counts => k_is)
    (case a_built => k_is)
    (case l_built => k_is)
    (case c_built => k_is)
    (case k_built => k_is)
    (case a_points_of => k_is)
    (case l_points_of => k_is)
    (case c_points_of => k_is)
    (case k_points_of => k_is)
    (case a_levels => k_is)
    (case l_levels => k_is)
    (case c_levels => k_is)
    (case k_levels => k_is)
    (case a_depth => k_is)
    (case l_depth => k_is)
    (case c_depth => k_is)
    (case k_depth => k_is)
    (case a_law_mixed => k_is)
    (case l_law_mixed => k_is)
    (case c_law_mixed => k_is)
    (case k_law_mixed => k_is)
    (case a_law_source => k_is)
    (case l_law_source => k_is)
    (case c_law_source => k_is)
    (case k_law_source => k_is)
    (case a_law_take => k_is)
    (case l_law_take => k_is)
    (case c_law_take => k_is)
    (case k_law_take => k_is)
    (case a_law_pick => k_is)
    (case l_law_pick => k_is)
    (case c_law_pick => k_is)
    (case k_law_pick => k_is)
    (case a_law_spots => k_is)
    (case l_law_spots => k_is)
    (case c_law_spots => k_is)
    (case k_law_spots => k_is)
    (case a_law_shuffled => k_is)
    (case l_law_shuffled => k_is)
    (case c_law_shuffled => k_is)
    (case k_law_shuffled => k_is)
    (case a_law_mirrored => k_is)
    (case l_law_mirrored => k_is)
    (case c_law_mirrored => k_is)
    (case k_law_mirrored => k_is)
    (case a_law_parts_right => k_is)
    (case l_law_parts_right => k_is)
    (case c_law_parts_right => k_is)
    (case k_law_parts_right => k_is)
    (case a_law => k_is)
    (case l_law => k_is)
    (case c_law => k_is)
    (case k_law => k_is)
    (case w_FARTHEST_COORDINATE => k_is)
    (case w_MOST_POINTS => k_is)
    (case w_MANY_POINTS => k_is)
    (case w_MOST_NODES => k_is)
    (case w_LAST_PART_FIRST => k_is)
    (case u_aL => k_is)
    (case w_ALL_KEYS => k_is)
    (case u_aK => k_is)
    (case u_b0 => k_is)
    (case u_b1 => k_is)
    (case u_b2 => k_is)
    (case u_b3 => k_is)
    (case z_int => k_is)
    (case z_abs => k_is)
    (case z_len => k_is)
    (case z_range => k_is)
    (case z_isinstance => k_is)
    (case z_bool => k_is)
    (case z_tuple => k_is)
    (case z_all => k_is)
    (case z_repr => k_is)
    (case z_list => k_is)
    (case z_set => k_is)
    (case z_enumerate => k_is)
    (case z_sorted => k_is)
    (case z_reversed => k_is)
    (case z_sum => k_is)

