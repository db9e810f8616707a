import PyProof.Rows.All
import Wide.All
import OpenK.AllK
import Wide.FinOn
import HandS.ForMost
import HandS.Wide
import HandS.Deep
import HandS.IsInst
import HandS.Walk
import PySem.Challenge.RW_planesplits_k02_rectangles_and_distances
set_option Elab.async false
set_option linter.all false
set_option maxRecDepth 100000
set_option maxHeartbeats 4000000
namespace Q2
open PySem PySem.Spec PyProof.Rows L2
/-! ### rules that the layer lacks -/
section
variable {X : Cx}
/-- x ** n of great ints -/
def CPowW (i j : Int) : Prop := 0 ≤ j ∧ (Builtin.Int.intBits i : Int) * j ≤ 2 ^ 27
theorem op_powW : OpR X (binaryOp .Pow) (rI CPowW fun i j => .int (i ^ j.toNat)) := opI fun _ _ _ _ _ _ _ hc q => pow_int hc.1 hc.2 q
theorem powW2 {i : Int} (h : i.natAbs < 2 ^ 1000) : CPowW i 2 := by
  have h1 := PySem.Flt.log2_lt_of (by decide : 0 < 1000) h
  have h2 : Builtin.Int.intBits i ≤ i.natAbs.log2 + 1 := by
    unfold Builtin.Int.intBits
    split <;> omega
  refine ⟨by decide, ?_⟩
  have h3 : ((2 : Int) ^ 27) = 134217728 := by decide
  rw [h3]
  omega
/-- list + list, either of which may be read only -/
def rCatL (K : PySem.W.Frag) : R2 := fun x y H Q => ∃ l b xs zs, x = .ref l ∧ y = .ref b ∧ SqL K H l xs ∧ SqL K H b zs ∧ xs.length + zs.length ≤ sizeLine ∧ ∀ p, H p = none → Q (.ref p) (upd H p (.lst (xs ++ zs)))
theorem op_catL : OpR X (binaryOp .Add) (rCatL X.K) := by
  intro pins s σ H x y v u Q I rx ry h
  obtain ⟨l, b, xs, zs, rfl, rfl, hH, hB, hz, q⟩ := h
  cases rx
  cases ry
  obtain ⟨its, r, ⟨⟨cls, dd, data, sl⟩, n, ho, hc, hdn, hdt⟩, hl⟩ := I.list hH
  obtain ⟨its2, r2, ⟨⟨cls2, dd2, data2, sl2⟩, n2, ho2, hc2, hdn2, hdt2⟩, hl2⟩ := I.list hB
  simp only at hc hdt hc2 hdt2
  subst hc hdt hc2 hdt2
  have e1 := r.length
  have e2 := r2.length
  refine concat_meets ⟨_, ho, rfl⟩ ⟨_, ho2, rfl⟩ noFill_list_add seq_list_add PySem.F.slot_list_add PySem.F.entry_list_add (PySem.F.args_list_add_2 _ _) (list_addW l b its.toArray its2.toArray n n2 dd dd2 sl sl2 (by simp only [List.size_toArray]; omega)) ⟨ho, ho2, ?_⟩
  have ea : its.toArray ++ its2.toArray = (its ++ its2).toArray := by simp
  rw [ea]
  exact ⟨.ref _, _, I.lnew (t' := s.toks) (r.append r2) (by rw [List.length_append]; omega), rfl, q _ I.fresh⟩
/-- repr of a bool -/
def bStr (b : Bool) : Str := if b then "True" else "False"
theorem call_repr_bool : CallR X (.builtin "repr") (fun xs H Q => ∃ b, xs = [.bl b] ∧ Q (.str (bStr b)) H) := by
  intro pins s σ H xs us Q I r h
  obtain ⟨b, rfl, q⟩ := h
  cases r with
  | cons r1 r2 =>
    cases r2
    cases r1
    exact PySem.P.repr_of_bool ⟨.str _, H, I.tok _, ⟨_, rfl⟩, q⟩
section
variable {CX : CXT} {k : Nat} {f : Addr} {fd : FuncData} {ps ks : List Str} {sp : Sp} {E : XK} {x : Str} {p pos : Pos} {kws : List Keyword} {tk : TA} {g : List Value → List Value → List Value} {gV : List V → List V → List V}
/-- f(k = v, ..) -/
theorem pe_callK0 (F : FnOk X.prog X.w X.K X.mg X.base CX k f fd ps sp) (hr : Room k X.A) (hg : Gl X x) (hm : X.mg x = some (.ref f)) (hk : PySem.W.keepIn X.K (.ref f) = true) (hb : KBinds X.K fd ps ks g gV) (hx : Passes CX X E)
    (hkw : PK X kws tk) (hall : (backToKw pos (keywordEach kws X.env)).all (·.1.isSome) = true := by rfl) (hks : (backToKw pos (keywordEach kws X.env)).filterMap (·.1) = ks := by rfl)
    (hdb : (x == ("__debug__" : Str)) = false := by decide)
    (hpl : ((backTo pos (starEach [] X.env)).any (·.1) || (backToKw pos (keywordEach kws X.env)).any (·.1.isNone)) = false := by rfl) :
    PE X (.Call (.Name x p) [] kws pos) (tCallK sp gV E tNil tk) := by
  refine ⟨fun pins s σ H Q I h => ?_⟩
  refine wpAny_Call_Name_kw (ld_glob I hg hm ?_ hdb)
  refine PySem.W.callWith_KW0 (h₀ := X.base) I.ok.mod.kin hk hall ?_ hpl
  refine thn (hkw.run pos pins s σ H _ I h) fun ws s2 ⟨zs, H2, I2, rz, q2⟩ => ⟨I2.kIn, ?_⟩
  rw [hks]
  exact run_fnk F hr hb hx I2 .nil rz q2
end
end
/-! ### heaps -/
/-- all that was tracked stands, but what is at s -/
def Ex (s : Addr) (H H' : Hp) : Prop := ∀ b o, H b = some o → b ≠ s → H' b = some o
theorem Ex.refl (s : Addr) (H : Hp) : Ex s H H := fun _ _ h _ => h
theorem Ex.trans {s : Addr} {H H1 H2 : Hp} (a : Ex s H H1) (b : Ex s H1 H2) : Ex s H H2 := fun c o h n => b c o (a c o h n) n
theorem Ex.same {s : Addr} {H H' : Hp} (e : Same H H') : Ex s H H' := fun b o h _ => e b o h
theorem Ex.put {s : Addr} {H : Hp} {o : HO} : Ex s H (upd H s o) := fun b o' h n => by rw [upd_ne n]; exact h
theorem same_new {H : Hp} {p : Addr} {o : HO} (h : H p = none) : Same H (upd H p o) := fun b x e => by
  rw [upd_ne (ne_of_none e h)]
  exact e
/-- the source: a list of three ints, the first not negative -/
def Src (H : Hp) (s : Addr) : Prop := ∃ a b c : Int, 0 ≤ a ∧ H s = some (.lst [.int a, .int b, .int c])
theorem Src.same {H H' : Hp} {s : Addr} (e : Same H H') (h : Src H s) : Src H' s := by
  obtain ⟨a, b, c, h0, h⟩ := h
  exact ⟨a, b, c, h0, e _ _ h⟩
theorem Src.ne {H : Hp} {s p : Addr} (h : Src H s) (hp : H p = none) : p ≠ s := by
  obtain ⟨a, b, c, h0, h⟩ := h
  exact (ne_of_none h hp).symm
/-- points that stand in the heap -/
abbrev Pts := List (Addr × Int × Int)
def PtAt (H : Hp) (B : Int) (q : Addr × Int × Int) : Prop := H q.1 = some (.tup [.int q.2.1, .int q.2.2]) ∧ (-B ≤ q.2.1 ∧ q.2.1 ≤ B) ∧ (-B ≤ q.2.2 ∧ q.2.2 ≤ B)
def Spots (H : Hp) (B : Int) (a : Addr) (ps : Pts) : Prop := H a = some (.lst (ps.map fun q => V.ref q.1)) ∧ ps.length ≤ 40 ∧ (∀ q ∈ ps, PtAt H B q) ∧ (ps.map (·.2)).Nodup
theorem PtAt.same {H H' : Hp} {B : Int} {q : Addr × Int × Int} (e : Same H H') (h : PtAt H B q) : PtAt H' B q := ⟨e _ _ h.1, h.2⟩
theorem PtAt.ex {H H' : Hp} {B : Int} {s : Addr} {q : Addr × Int × Int} (hs : Src H s) (e : Ex s H H') (h : PtAt H B q) : PtAt H' B q := by
  obtain ⟨a, b, c, h0, hs⟩ := hs
  exact ⟨e _ _ h.1 (ne_of h.1 hs (by intro z; cases z)), h.2⟩
theorem Spots.same {H H' : Hp} {B : Int} {a : Addr} {ps : Pts} (e : Same H H') (h : Spots H B a ps) : Spots H' B a ps := ⟨e _ _ h.1, h.2.1, fun q hq => (h.2.2.1 q hq).same e, h.2.2.2⟩
theorem Spots.ex {H H' : Hp} {B : Int} {s a : Addr} {ps : Pts} (hs : Src H s) (n : a ≠ s) (e : Ex s H H') (h : Spots H B a ps) : Spots H' B a ps := ⟨e _ _ h.1 n, h.2.1, fun q hq => (h.2.2.1 q hq).ex hs e, h.2.2.2⟩
theorem small40 {n : Nat} (h : n ≤ 1000) : n ≤ sizeLine := Nat.le_of_lt (small1000 h)
/-! ### a tuple's equality as data -/
def ptD (z : Int × Int) : PyData := .tuple [.int z.1, .int z.2]
theorem ptD_lay (z : Int × Int) : (ptD z).canLay0 = true := by simp [ptD, PyData.canLay0, PyData.canLayAll0]
theorem ptD_depth (z : Int × Int) : (ptD z).depth = 1 := by simp [ptD, PyData.depth, PyData.depthAll]
theorem ptDs_lay : ∀ zs : List (Int × Int), PyData.canLayAll0 (zs.map ptD) = true
  | [] => by simp [PyData.canLayAll0]
  | z :: zs => by simp [PyData.canLayAll0, ptD_lay z, ptDs_lay zs]
theorem ptDs_depth : ∀ zs : List (Int × Int), PyData.depthAll (zs.map ptD) ≤ 2
  | [] => by simp [PyData.depthAll]
  | z :: zs => by
    have h1 := ptDs_depth zs
    have h2 := ptD_depth z
    simp only [List.map_cons, PyData.depthAll]
    omega
theorem ptD_shaped (z : Int × Int) : SeqAt.shaped (ptD z) = true := by
  have h := ptD_depth z
  show ((ptD z).canLay0 && decide ((ptD z).depth ≤ 64)) = true
  rw [Bool.and_eq_true]
  exact ⟨ptD_lay z, decide_eq_true (by omega)⟩
theorem ptDs_shaped (zs : List (Int × Int)) : SeqAt.shaped (.list (zs.map ptD)) = true := by
  have h1 := ptDs_depth zs
  have h2 : PyData.depth (.list (zs.map ptD)) ≤ 64 := by
    simp only [PyData.depth]
    omega
  show (PyData.canLay0 (.list (zs.map ptD)) && decide (PyData.depth (.list (zs.map ptD)) ≤ 64)) = true
  rw [Bool.and_eq_true]
  exact ⟨by simp only [PyData.canLay0]; exact ptDs_lay zs, decide_eq_true h2⟩
theorem ptD_eqv (z w : Int × Int) : PyData.eqv (ptD z) (ptD w) = decide (z = w) := by
  obtain ⟨a, b⟩ := z
  obtain ⟨a', b'⟩ := w
  have e : PyData.eqv (ptD (a, b)) (ptD (a', b')) = ((a == a') && ((b == b') && true)) := by simp only [ptD, PyData.eqv, PyData.eqvAll]
  rw [e]
  by_cases h : a = a'
  · by_cases h2 : b = b'
    · subst h h2
      simp
    · simp [h, h2]
  · simp [h]
theorem dp_pt {K : PySem.W.Frag} {H : Hp} {B : Int} {q : Addr × Int × Int} (h : PtAt H B q) : Dp K H (.ref q.1) (ptD q.2) := .tup (SqT.of h.1) (.cons (.int _) (.cons (.int _) .nil))
theorem dp_pts {K : PySem.W.Frag} {H : Hp} {B : Int} : ∀ {ps : Pts}, (∀ q ∈ ps, PtAt H B q) → DpAll K H (ps.map fun q => V.ref q.1) ((ps.map (·.2)).map ptD)
  | [], _ => .nil
  | q :: ps, h => .cons (dp_pt (h q (List.mem_cons_self ..))) (dp_pts fun z hz => h z (List.mem_cons_of_mem _ hz))
theorem dp_spots {K : PySem.W.Frag} {H : Hp} {B : Int} {a : Addr} {ps : Pts} (h : Spots H B a ps) : Dp K H (.ref a) (.list ((ps.map (·.2)).map ptD)) := .lst (SqL.of h.1) (dp_pts h.2.2.1)
theorem any_pt (zs : List (Int × Int)) (w : Int × Int) : ((zs.map ptD).any fun z => PyData.eqv z (ptD w)) = decide (w ∈ zs) := by
  induction zs with
  | nil => simp
  | cons z zs ih =>
    rw [List.map_cons, List.any_cons, ih, ptD_eqv]
    by_cases h : z = w
    · subst h
      simp
    · have h' : ¬ w = z := fun e => h e.symm
      simp [h, h']
end Q2

namespace Q2
open PySem PySem.Spec PyProof.Rows L2
def top (i : Nat) : Stmt := PySem.Challenge.pw_planesplits_k02_rectangles_and_distances.main.body.getD i (.Pass ⟨0, 0, 0, 0⟩)
abbrev s_is_integer : Stmt := top 7
abbrev s_is_coordinate : Stmt := top 8
abbrev s_is_point : Stmt := top 9
abbrev s_is_end : Stmt := top 10
abbrev s_are_in_order : Stmt := top 11
abbrev s_is_rectangle : Stmt := top 12
abbrev s_check_point : Stmt := top 13
abbrev s_check_rectangle : Stmt := top 14
abbrev s_lies_in : Stmt := top 16
abbrev s_square_distance : Stmt := top 17
abbrev s_overshoot : Stmt := top 18
abbrev s_square_gap : Stmt := top 19
abbrev s_is_inside : Stmt := top 20
abbrev s_distance : Stmt := top 21
abbrev s_gap : Stmt := top 22
abbrev s_law_mixed : Stmt := top 24
abbrev s_law_source : Stmt := top 25
abbrev s_law_take : Stmt := top 26
abbrev s_law_pick : Stmt := top 27
abbrev s_law_spots : Stmt := top 28
abbrev s_law_end : Stmt := top 29
abbrev s_law_box : Stmt := top 30
abbrev s_law_holds : Stmt := top 31
abbrev s_law_gap : Stmt := top 32
abbrev s_law_far : Stmt := top 33
abbrev s_law : Stmt := top 34
end Q2


namespace Q2
open PySem PySem.Spec PyProof.Rows L2
/-! ### the built-ins that stand as they were -/
structure Bt (mg : Str → Option Value) : Prop where
  int : mg "int" = none
  abs : mg "abs" = none
  len : mg "len" = none
  range : mg "range" = none
  isi : mg "isinstance" = none
  bool : mg "bool" = none
  tuple : mg "tuple" = none
  all : mg "all" = none
  repr : mg "repr" = none
abbrev Lo : Int := 1000000000000000000000000000000
abbrev FnP (K : PySem.W.Frag) (x : Str) (st : Stmt) (f : Addr) (fd : FuncData) : Prop := Fun K x x st f fd
theorem mod_rng {m : Int} (x : Int) (h : 0 < m) (hm : m ≤ 2147483647) : 0 ≤ x % m ∧ x % m ≤ 2147483646 := by
  have h1 := Int.emod_nonneg x (by omega : m ≠ 0)
  have h2 := Int.emod_lt_of_pos x h
  omega
theorem cmul_l {i j : Int} (h : 0 ≤ i ∧ i ≤ 4294967296) : CMul i j := .inl ⟨by omega, by omega⟩
theorem cdiv_w {i j : Int} (h : 0 < j) (h2 : j ≤ 10000000000000000000000000000000000000000) : CDivW i j := wide_div (b := 200) h (by omega) (by decide) (by decide)
section
variable {P : Program} {w : World} {K : PySem.W.Frag} {mg : Str → Option Value} {base : Heap}
/-! ### _law_mixed -/
theorem scMixed : FnScope ["_law_cell", "_law_draw", "_law_figure"] ["_law_cell", "_law_draw"] (defScope s_law_mixed) := ⟨rfl, rfl, rfl, by decide +kernel, rfl, by decide +kernel, by decide +kernel⟩
def spMixed : Sp := fun vs H Q _ => ∃ a b : Int, vs = [.int a, .int b] ∧ ∀ d : Int, 0 ≤ d → Q (.int d) H
theorem ok_mixed {f : Addr} {fd : FuncData} (F : FnP K "_law_mixed" s_law_mixed f fd) (B : Bt mg) : FnOk P w K mg base CX0 1 f fd ["_law_cell", "_law_draw"] spMixed := by
  refine F.ok scMixed (fun vs H Q E h => ?_) (fun cdv A outer s H vs Q E hr h => ?_)
  · obtain ⟨a, b, rfl, _⟩ := h
    rfl
  · obtain ⟨a, b, rfl, q⟩ := h
    refine ⟨_, pss_cons (ps_set (i := 2) scMixed.nd rfl (.inl rfl) (pe_op op_mod (pe_callTy call_int1 (by rfl) B.int (by decide +kernel) (pa_cons (pe_op op_mul (pe_op op_add (pe_op op_mod (pe_callTy call_int1 (by rfl) B.int (by decide +kernel) (pa_cons (pv 0) pa_nil)) pe_int) pe_int) (pe_op op_add (pe_op op_mul (pv 1) pe_int) pe_int)) pa_nil)) pe_int))
      (pss_cons (ps_set (i := 2) scMixed.nd rfl (.inl rfl) (pe_op op_mod (pe_callTy call_int1 (by rfl) B.int (by decide +kernel) (pa_cons (pe_op op_mul (pe_op op_add (pv 2) (pe_op op_mul (pe_op op_mod (pe_callTy call_int1 (by rfl) B.int (by decide +kernel) (pa_cons (pe_op op_fdivW (pv 0) pe_int) pa_nil)) pe_int) (pe_op op_add (pv 1) pe_int))) pe_int) pa_nil)) pe_int))
      (pss_cons (ps_set (i := 2) scMixed.nd rfl (.inl rfl) (pe_op op_mod (pe_callTy call_int1 (by rfl) B.int (by decide +kernel) (pa_cons (pe_op op_mul (pv 2) (pe_op op_add (pe_op op_add (pe_op op_fdiv (pv 2) pe_int) pe_int) (pv 1))) pa_nil)) pe_int))
      (pss_one (ps_ret (pe_op op_mod (pe_callTy call_int1 (by rfl) B.int (by decide +kernel) (pa_cons (pe_op op_mul (pv 2) (pe_op op_add (pe_op op_fdiv (pv 2) pe_int) pe_int)) pa_nil)) pe_int))))), ?_⟩
    -- the first figure
    have m0 := mod_rng (m := 2147483646) a (by decide) (by decide)
    refine ⟨_, rfl, .inl ⟨_, rfl, _, _, rfl, rfl, (by decide : (0 : Int) < 2147483646), _, _, rfl, rfl, _, rfl, _, _, rfl, rfl, .inr ⟨by decide, by decide⟩, _, _, rfl, rfl, _, _, rfl, rfl, cmul_l (by omega), .inl ⟨_, rfl, _, _, rfl, rfl, (by decide : (0 : Int) < 2147483647), ?_⟩⟩⟩
    have m1 := mod_rng (m := 2147483647) ((a % 2147483646 + 1) * (b * 7919 + 104729)) (by decide) (by decide)
    generalize ((a % 2147483646 + 1) * (b * 7919 + 104729)) % 2147483647 = g1 at m1 ⊢
    -- the second
    have m2 := mod_rng (m := 1000003) (a / 2147483646) (by decide) (by decide)
    refine ⟨_, rfl, _, rfl, _, _, rfl, rfl, cdiv_w (by decide) (by decide), .inl ⟨_, rfl, _, _, rfl, rfl, (by decide : (0 : Int) < 1000003), _, rfl, _, _, rfl, rfl, _, _, rfl, rfl, cmul_l (by omega), _, _, rfl, rfl, _, _, rfl, rfl, .inr ⟨by decide, by decide⟩, .inl ⟨_, rfl, _, _, rfl, rfl, (by decide : (0 : Int) < 2147483629), ?_⟩⟩⟩
    have m3 := mod_rng (m := 2147483629) ((g1 + a / 2147483646 % 1000003 * (b + 31)) * 48271) (by decide) (by decide)
    generalize ((g1 + a / 2147483646 % 1000003 * (b + 31)) * 48271) % 2147483629 = g2 at m3 ⊢
    -- the third
    refine ⟨_, rfl, _, rfl, _, _, rfl, rfl, ⟨by decide, by decide⟩, _, _, rfl, rfl, _, rfl, _, _, rfl, rfl, _, _, rfl, rfl, cmul_l (by omega), .inl ⟨_, rfl, _, _, rfl, rfl, (by decide : (0 : Int) < 2147483587), ?_⟩⟩
    have m4 := mod_rng (m := 2147483587) (g2 * (g2 / 1013 + 69621 + b)) (by decide) (by decide)
    generalize (g2 * (g2 / 1013 + 69621 + b)) % 2147483587 = g3 at m4 ⊢
    refine ⟨_, rfl, _, rfl, _, _, rfl, rfl, ⟨by decide, by decide⟩, _, _, rfl, rfl, _, _, rfl, rfl, cmul_l (by omega), .inl ⟨_, rfl, _, _, rfl, rfl, (by decide : (0 : Int) < 2147483563), ?_⟩⟩
    exact q _ (Int.emod_nonneg _ (by decide))
/-! ### _law_source -/
theorem scSource : FnScope ["_law_cell"] ["_law_cell"] (defScope s_law_source) := ⟨rfl, rfl, rfl, by decide +kernel, rfl, by decide +kernel, by decide +kernel⟩
def spSource : Sp := fun vs H Q _ => ∃ n : Int, vs = [.int n] ∧ ∀ s H', Same H H' → H s = none → Src H' s → Q (.ref s) H'
theorem ok_source {f : Addr} {fd : FuncData} (F : FnP K "_law_source" s_law_source f fd) (B : Bt mg) : FnOk P w K mg base CX0 1 f fd ["_law_cell"] spSource := by
  refine F.ok scSource (fun vs H Q E h => ?_) (fun cdv A outer s H vs Q E hr h => ?_)
  · obtain ⟨a, rfl, _⟩ := h
    rfl
  · obtain ⟨a, rfl, q⟩ := h
    refine ⟨_, pss_cons (ps_if (pt_cmpR op_ge (pe_callB call_abs (by rfl) B.abs (by decide +kernel) (pa_cons (pv 0) pa_nil)) (pe_op op_pow pe_int pe_int) (nomark _))
        (pss_one (ps_ret (pe_lst (pa_cons (pe_callB call_abs (by rfl) B.abs (by decide +kernel) (pa_cons (pv 0) pa_nil)) (pa_cons (pe_callB call_abs (by rfl) B.abs (by decide +kernel) (pa_cons (pv 0) pa_nil)) (pa_cons pe_int pa_nil)))))) pss_nil)
      (pss_one (ps_ret (pe_lst (pa_cons pe_int (pa_cons (pe_callB call_abs (by rfl) B.abs (by decide +kernel) (pa_cons (pv 0) pa_nil)) (pa_cons pe_int pa_nil)))))), ?_⟩
    have h0 : (0 : Int) ≤ (if a < 0 then -a else a) := by split <;> omega
    refine ⟨_, rfl, _, rfl, _, _, rfl, rfl, ⟨by decide, by decide, by decide⟩, _, _, rfl, rfl, _, rfl, ite2 (fun _ => ?_) (fun _ => ?_)⟩
    · refine ⟨_, rfl, _, rfl, _, rfl, _, rfl, (by show 3 ≤ sizeLine; decide), fun l hl => ?_⟩
      exact q l _ (same_new hl) hl ⟨_, _, _, h0, upd_same⟩
    · refine ⟨_, rfl, _, rfl, (by show 3 ≤ sizeLine; decide), fun l hl => ?_⟩
      exact q l _ (same_new hl) hl ⟨_, _, _, Int.le_refl _, upd_same⟩
/-! ### _law_take -/
theorem scTake : FnScope ["_law_source_here", "_law_bound", "_law_drawn"] ["_law_source_here", "_law_bound"] (defScope s_law_take) := ⟨rfl, rfl, rfl, by decide +kernel, rfl, by decide +kernel, by decide +kernel⟩
def spTake : Sp := fun vs H Q _ => ∃ (s : Addr) (n : Int), vs = [.ref s, .int n] ∧ Src H s ∧ 0 < n ∧ n ≤ 10000000000000000000000000000000000000000 ∧ ∀ (d : Int) H', 0 ≤ d → d < n → Src H' s → Ex s H H' → Q (.int d) H'
theorem ok_take {f fM : Addr} {fd fdM : FuncData} (F : FnP K "_law_take" s_law_take f fd) (B : Bt mg) (FM : FnP K "_law_mixed" s_law_mixed fM fdM) (bM : Binds K fdM ["_law_cell", "_law_draw"] []) (gM : mg "_law_mixed" = some (.ref fM)) : FnOk P w K mg base CX0 2 f fd ["_law_source_here", "_law_bound"] spTake := by
  have GM : FnOk P w K mg base CX0 1 fM fdM ["_law_cell", "_law_draw"] spMixed := ok_mixed FM B
  refine F.ok scTake (fun vs H Q E h => ?_) (fun cdv A outer s H vs Q E hr h => ?_)
  · obtain ⟨a, b, rfl, _⟩ := h
    rfl
  · obtain ⟨p, n, rfl, ⟨a, b, c, h0, hS⟩, n0, n1, q⟩ := h
    refine ⟨_, pss_cons (ps_if (pt_cmpR op_gt (pe_ix ix_list (pv 0) pe_int (fun _ _ => rfl)) pe_int (nomark _))
        (pss_cons (ps_set (i := 2) scTake.nd rfl (.inl rfl) (pe_op op_mod (pe_callTy call_int1 (by rfl) B.int (by decide +kernel) (pa_cons (pe_ix ix_list (pv 0) pe_int (fun _ _ => rfl)) pa_nil)) (pv 1)))
        (pss_cons (ps_asg (pe_op op_fdivW (pe_ix ix_list (pv 0) pe_int (fun _ _ => rfl)) (pv 1)) (pg_sub (pv 0) pe_int set_list))
        (pss_one (ps_ret (pv 2))))) pss_nil)
      (pss_cons (ps_asg (pe_op op_add (pe_ix ix_list (pv 0) pe_int (fun _ _ => rfl)) pe_int) (pg_sub (pv 0) pe_int set_list))
      (pss_one (ps_ret (pe_op op_mod (pe_callTy call_int1 (by rfl) B.int (by decide +kernel) (pa_cons (pe_call GM hr (by rfl) gM FM.kp bM .nil pass0 (pa_cons (pe_ix ix_list (pv 0) pe_int (fun _ _ => rfl)) (pa_cons (pe_ix ix_list (pv 0) pe_int (fun _ _ => rfl)) pa_nil))) pa_nil)) (pv 1))))), ?_⟩
    refine ⟨_, rfl, p, _, 0, .int a, rfl, rfl, SqL.of hS, atI_nat (j := 0) rfl, _, _, rfl, rfl, _, rfl, ite2 (fun e => ?_) (fun e => ?_)⟩
    · have ea : 0 < a := of_decide_eq_true e
      refine ⟨_, rfl, p, _, 0, .int a, rfl, rfl, SqL.of hS, atI_nat (j := 0) rfl, .inl ⟨_, rfl, _, rfl, _, _, rfl, rfl, n0, ?_⟩⟩
      refine ⟨_, rfl, p, _, 0, .int a, rfl, rfl, SqL.of hS, atI_nat (j := 0) rfl, _, rfl, _, _, rfl, rfl, cdiv_w n0 n1, _, rfl, p, _, 0, 0, rfl, rfl, hS, rfl, ?_⟩
      exact ⟨_, rfl, q _ _ (Int.emod_nonneg _ (by omega)) (Int.emod_lt_of_pos _ n0) ⟨_, b, c, Int.ediv_nonneg h0 (by omega), upd_same⟩ Ex.put⟩
    · refine ⟨_, rfl, p, _, 2, .int c, rfl, rfl, SqL.of hS, atI_nat (j := 2) rfl, _, _, rfl, rfl, _, rfl, p, _, 2, 2, rfl, rfl, hS, rfl, ?_⟩
      refine ⟨_, rfl, p, _, 1, .int b, rfl, rfl, SqL.of upd_same, atI_nat (j := 1) rfl, _, rfl, p, _, 2, .int (c + 1), rfl, rfl, SqL.of upd_same, atI_nat (j := 2) rfl, b, c + 1, rfl, fun d hd => ?_⟩
      refine .inl ⟨_, rfl, _, rfl, _, _, rfl, rfl, n0, ?_⟩
      exact q _ _ (Int.emod_nonneg _ (by omega)) (Int.emod_lt_of_pos _ n0) ⟨a, b, c + 1, h0, upd_same⟩ Ex.put
/-! ### _law_pick -/
theorem scPick : FnScope ["_law_source_here", "_law_some"] ["_law_source_here", "_law_some"] (defScope s_law_pick) := ⟨rfl, rfl, rfl, by decide +kernel, rfl, by decide +kernel, by decide +kernel⟩
def spPick : Sp := fun vs H Q _ => ∃ (s l : Addr) (xs : List V), vs = [.ref s, .ref l] ∧ Src H s ∧ l ≠ s ∧ H l = some (.lst xs) ∧ xs ≠ [] ∧ xs.length ≤ 1000 ∧ ∀ v H', v ∈ xs → Src H' s → Ex s H H' → Q v H'
theorem ok_pick {f fT fM : Addr} {fd fdT fdM : FuncData} (F : FnP K "_law_pick" s_law_pick f fd) (B : Bt mg) (GT : FnOk P w K mg base CX0 2 fT fdT ["_law_source_here", "_law_bound"] spTake) (kT : PySem.W.keepIn K (.ref fT) = true) (bT : Binds K fdT ["_law_source_here", "_law_bound"] []) (gT : mg "_law_take" = some (.ref fT)) : FnOk P w K mg base CX0 3 f fd ["_law_source_here", "_law_some"] spPick := by
  refine F.ok scPick (fun vs H Q E h => ?_) (fun cdv A outer s H vs Q E hr h => ?_)
  · obtain ⟨a, b, xs, rfl, _⟩ := h
    rfl
  · obtain ⟨p, l, xs, rfl, hS, hne, hl, hx, hlen, q⟩ := h
    refine ⟨_, pss_one (ps_ret (pe_ix ix_list (pv 1) (pe_call GT hr (by rfl) gT kT bT .nil pass0 (pa_cons (pv 0) (pa_cons (pe_callB call_len_seq (by rfl) B.len PySem.boot_len (pa_cons (pv 1) pa_nil)) pa_nil))) (fun _ _ => rfl))), ?_⟩
    have hpos : 0 < xs.length := List.length_pos_iff.mpr hx
    refine ⟨_, rfl, _, rfl, _, rfl, l, xs, rfl, .inl (SqL.of hl), p, (xs.length : Int), rfl, hS, (by omega), (by omega), fun d H' d0 d1 hS' e => ?_⟩
    have hl' : H' l = some (.lst xs) := e _ _ hl hne
    have hd : d.toNat < xs.length := by omega
    refine ⟨l, xs, d, xs[d.toNat], rfl, rfl, SqL.of hl', at_of (j := d.toNat) (by omega) (List.getElem?_eq_getElem hd), ?_⟩
    exact q _ _ (List.getElem_mem hd) hS' e
end
end Q2

namespace Q2
open PySem PySem.Spec PyProof.Rows L2
theorem Ex.free {s p : Addr} {H H' : Hp} (hs : Src H' s) (e : Ex s H H') (h : H' p = none) : H p = none := by
  cases q : H p with
  | none => rfl
  | some o =>
    have n : p ≠ s := hs.ne h
    rw [e _ _ q n] at h
    cases h
theorem hu65 {A : Around} {k : Nat} (hr : Room k A) : A.units + 65 < cLine := by have := hr.un; omega
theorem hu64 {A : Around} {k : Nat} (hr : Room k A) : A.units + 64 < cLine := by have := hr.un; omega
section
variable {P : Program} {w : World} {K : PySem.W.Frag} {mg : Str → Option Value} {base : Heap}
/-! ### _law_spots -/
theorem scSpots : FnScope ["_law_source_here", "_law_most", "_law_many", "_law_wide", "_law_found", "_law_turn", "_law_spot"] ["_law_source_here", "_law_most"] (defScope s_law_spots) := ⟨rfl, rfl, rfl, by decide +kernel, rfl, by decide +kernel, by decide +kernel⟩
def spSpots : Sp := fun vs H Q _ => ∃ (s : Addr) (n : Int), vs = [.ref s, .int n] ∧ Src H s ∧ 0 ≤ n ∧ n ≤ 40 ∧ ∀ (a : Addr) (ps : Pts) H', Src H' s → Ex s H H' → H a = none → Spots H' Lo a ps → (ps.length : Int) ≤ n → Q (.ref a) H'
theorem wide_of {v : V} (h : v ∈ [V.int 3, V.int 6, V.int 20, V.int ((10 : Int) ^ (9 : Int).toNat), V.int ((10 : Int) ^ (30 : Int).toNat)]) : ∃ z : Int, v = .int z ∧ 0 < z ∧ z ≤ Lo := by
  simp only [List.mem_cons, List.not_mem_nil, or_false] at h
  rcases h with rfl | rfl | rfl | rfl | rfl
  · exact ⟨_, rfl, by decide, by decide⟩
  · exact ⟨_, rfl, by decide, by decide⟩
  · exact ⟨_, rfl, by decide, by decide⟩
  · exact ⟨_, rfl, by decide, by decide⟩
  · exact ⟨_, rfl, by decide, by decide⟩
theorem ok_spots {f fT fP : Addr} {fd fdT fdP : FuncData} (F : FnP K "_law_spots" s_law_spots f fd) (B : Bt mg) (GT : FnOk P w K mg base CX0 2 fT fdT ["_law_source_here", "_law_bound"] spTake) (kT : PySem.W.keepIn K (.ref fT) = true) (bT : Binds K fdT ["_law_source_here", "_law_bound"] []) (gT : mg "_law_take" = some (.ref fT))
    (GP : FnOk P w K mg base CX0 3 fP fdP ["_law_source_here", "_law_some"] spPick) (kP : PySem.W.keepIn K (.ref fP) = true) (bP : Binds K fdP ["_law_source_here", "_law_some"] []) (gP : mg "_law_pick" = some (.ref fP)) : FnOk P w K mg base CX0 4 f fd ["_law_source_here", "_law_most"] spSpots := by
  refine F.ok scSpots (fun vs H Q E h => ?_) (fun cdv A outer s H vs Q E hr h => ?_)
  · obtain ⟨a, b, rfl, _⟩ := h
    rfl
  · obtain ⟨p, n, rfl, hS, n0, n1, q⟩ := h
    refine ⟨_, pss_cons (ps_par (i := 2) (j := 3) rfl scSpots.nd rfl rfl (by decide) rfl rfl
        (pa_cons (pe_call GT (hr.mono (by decide)) (by rfl) gT kT bT .nil pass0 (pa_cons (pv 0) (pa_cons (pe_op op_add (pv 1) pe_int) pa_nil)))
        (pa_cons (pe_call GP hr (by rfl) gP kP bP .nil pass0 (pa_cons (pv 0) (pa_cons (pe_lst (pa_cons pe_int (pa_cons pe_int (pa_cons pe_int (pa_cons (pe_op op_pow pe_int pe_int) (pa_cons (pe_op op_pow pe_int pe_int) pa_nil)))))) pa_nil))) pa_nil)) rfl)
      (pss_cons (ps_set (i := 4) scSpots.nd rfl (.inl rfl) (pe_lst pa_nil))
      (pss_cons (ps_for PassesOwn.never rfl (pi_range1 (by rfl) B.range (pa_cons (pv 2) pa_nil)) (pg_name (i := 5) scSpots.nd rfl (.inl rfl))
        (pss_cons (ps_set (i := 6) scSpots.nd rfl (.inl rfl) (pe_tup
            (pa_cons (pe_op op_sub (pe_call GT (hr.mono (by decide)) (by rfl) gT kT bT .nil pass0 (pa_cons (pv 0) (pa_cons (pe_op op_add (pe_op op_mul pe_int (pv 3)) pe_int) pa_nil))) (pv 3))
            (pa_cons (pe_op op_sub (pe_call GT (hr.mono (by decide)) (by rfl) gT kT bT .nil pass0 (pa_cons (pv 0) (pa_cons (pe_op op_add (pe_op op_mul pe_int (pv 3)) pe_int) pa_nil))) (pv 3)) pa_nil))))
        (pss_one (ps_set (i := 4) scSpots.nd rfl (.inl rfl) (pe_op op_cat (pv 4) (pe_op op_rep (pe_lst (pa_cons (pv 6) pa_nil)) (pe_callTy call_int1 (by rfl) B.int (by decide +kernel) (pa_cons (pe_cmpR (op_notInD (hu65 hr)) (pv 6) (pv 4) (by rfl)) pa_nil))))))))
      (pss_one (ps_ret (pv 4))))), ?_⟩
    -- many, wide
    refine ⟨_, rfl, _, rfl, _, _, rfl, rfl, p, n + 1, rfl, hS, by omega, by omega, fun many H1 m0 m1 hS1 e1 => ?_⟩
    refine ⟨_, rfl, _, _, rfl, rfl, ⟨by decide, by decide, by decide⟩, _, _, rfl, rfl, ⟨by decide, by decide, by decide⟩, (by show 5 ≤ sizeLine; decide), fun l hl => ?_⟩
    refine ⟨p, l, _, rfl, hS1.same (same_new hl), hS1.ne hl, upd_same, List.cons_ne_nil _ _, (by show 5 ≤ 1000; decide), fun v H2 hv hS2 e2 => ?_⟩
    obtain ⟨z, rfl, z0, z1⟩ := wide_of hv
    have e12 : Ex p H H2 := (e1.trans (Ex.same (same_new hl))).trans e2
    refine ⟨_, _, rfl, Nat.zero_le _, fun a ha => ?_⟩
    have fa : H a = none := e12.free hS2 ha
    refine ⟨_, rfl, many, rfl, by omega, by omega, for_range (n := many.toNat) (fun i σ H3 => ∃ (b : Addr) (ps : Pts) (y5 y6 : Option V), σ = [some (.ref p), some (.int n), some (.int many), some (.int z), some (.ref b), y5, y6] ∧ Src H3 p ∧ Ex p H H3 ∧ H b = none ∧ Spots H3 Lo b ps ∧ ps.length ≤ i) ?_ ?_ ?_⟩
    · exact ⟨a, [], none, none, rfl, hS2.same (same_new ha), e12.trans (Ex.same (same_new ha)), fa, ⟨upd_same, Nat.zero_le _, fun q hq => (List.not_mem_nil hq).elim, List.nodup_nil⟩, Nat.le_refl _⟩
    · rintro i σ H3 hi ⟨b, ps, y5, y6, rfl, hS3, e3, fb, hP, hl3⟩
      have hz : (2 : Int) * z + 1 ≤ 10000000000000000000000000000000000000000 := by
        have z1' : z ≤ 1000000000000000000000000000000 := z1
        omega
      refine ⟨_, rfl, _, rfl, _, _, rfl, rfl, .inl ⟨by decide, by decide⟩, _, _, rfl, rfl, p, _, rfl, hS3, by omega, hz, fun x H4 x0 x1 hS4 e4 => ?_⟩
      refine ⟨_, rfl, _, _, rfl, rfl, _, rfl, _, rfl, _, _, rfl, rfl, .inl ⟨by decide, by decide⟩, _, _, rfl, rfl, p, _, rfl, hS4, by omega, hz, fun y H5 y0 y1 hS5 e5 => ?_⟩
      refine ⟨_, rfl, _, _, rfl, rfl, (by show 2 ≤ sizeLine; decide), fun t ht => ?_⟩
      have hbp : b ≠ p := fun e => by
        obtain ⟨_, _, _, _, h⟩ := hS
        rw [e, h] at fb
        cases fb
      have hP5 : Spots H5 Lo b ps := hP.ex hS3 hbp (e4.trans e5)
      have hP6 := hP5.same (same_new (o := .tup [.int (x - z), .int (y - z)]) ht)
      have hq : PtAt (upd H5 t (.tup [.int (x - z), .int (y - z)])) Lo (t, x - z, y - z) := ⟨upd_same, ⟨by have z1' : z ≤ 1000000000000000000000000000000 := z1; show -1000000000000000000000000000000 ≤ x - z ∧ x - z ≤ 1000000000000000000000000000000; omega, by have z1' : z ≤ 1000000000000000000000000000000 := z1; show -1000000000000000000000000000000 ≤ y - z ∧ y - z ≤ 1000000000000000000000000000000; omega⟩⟩
      refine ⟨_, rfl, _, rfl, (by show 1 ≤ sizeLine; decide), fun l6 hl6 => ?_⟩
      have s6 : Same (upd H5 t (.tup [.int (x - z), .int (y - z)])) (upd (upd H5 t (.tup [.int (x - z), .int (y - z)])) l6 (.lst [.ref t])) := same_new hl6
      refine ⟨_, rfl, _, rfl, ptD (x - z, y - z), _, dp_pt (hq.same s6), dp_spots (hP6.same s6), ptD_shaped _, ptDs_shaped _, ?_⟩
      rw [any_pt]
      refine .inr ⟨_, rfl, l6, _, [.ref t], rfl, rfl, upd_same, ?_, ?_, ?_, fun l7 hl7 => ?_⟩
      · split <;> decide
      · split <;> decide
      · have : (if (!decide ((x - z, y - z) ∈ ps.map (·.2))) = true then (1 : Int) else 0).toNat ≤ 1 := by split <;> decide
        exact Nat.le_trans (Nat.mul_le_mul_left 1 this) (by decide)
      · have s7 : Same (upd (upd H5 t (.tup [.int (x - z), .int (y - z)])) l6 (.lst [.ref t])) (upd (upd (upd H5 t (.tup [.int (x - z), .int (y - z)])) l6 (.lst [.ref t])) l7 (.lst (List.replicate (if (!decide ((x - z, y - z) ∈ ps.map (·.2))) = true then (1 : Int) else 0).toNat [V.ref t]).flatten)) := same_new hl7
        have hP7 := (hP6.same s6).same s7
        refine ⟨b, l7, _, _, rfl, rfl, hP7.1, upd_same, ?_, fun l8 hl8 => ?_⟩
        · have h1 := hP.2.1
          have h2 : ((List.replicate (if (!decide ((x - z, y - z) ∈ ps.map (·.2))) = true then (1 : Int) else 0).toNat [V.ref t]).flatten).length ≤ 1 := by
            split <;> simp
          rw [List.length_map]
          exact small40 (by omega)
        · have s8 := same_new (o := .lst ((ps.map fun q => V.ref q.1) ++ (List.replicate (if (!decide ((x - z, y - z) ∈ ps.map (·.2))) = true then (1 : Int) else 0).toNat [V.ref t]).flatten)) hl8
          have hS8 : Src _ p := (((hS5.same (same_new (o := .tup [.int (x - z), .int (y - z)]) ht)).same s6).same s7).same s8
          have e8 : Ex p H _ := ((((e3.trans (e4.trans e5)).trans (Ex.same (same_new (o := .tup [.int (x - z), .int (y - z)]) ht))).trans (Ex.same s6)).trans (Ex.same s7)).trans (Ex.same s8)
          have f8 : H l8 = none := Ex.free ((((hS5.same (same_new (o := .tup [.int (x - z), .int (y - z)]) ht)).same s6).same s7)) ((((e3.trans (e4.trans e5)).trans (Ex.same (same_new (o := .tup [.int (x - z), .int (y - z)]) ht))).trans (Ex.same s6)).trans (Ex.same s7)) hl8
          have hq8 := ((hq.same s6).same s7).same s8
          have hP8 := hP7.same s8
          by_cases hin : (x - z, y - z) ∈ ps.map (·.2)
          · refine ⟨l8, ps, _, _, rfl, hS8, e8, f8, ⟨?_, hP8.2⟩, by omega⟩
            rw [upd_same, decide_eq_true hin]
            simp
          · refine ⟨l8, ps ++ [(t, x - z, y - z)], _, _, rfl, hS8, e8, f8, ⟨?_, ?_, ?_, ?_⟩, ?_⟩
            · rw [upd_same, decide_eq_false hin]
              simp
            · rw [List.length_append, List.length_singleton]
              have : many ≤ 40 := by omega
              omega
            · intro r hr'
              rcases List.mem_append.mp hr' with h | h
              · exact hP8.2.2.1 r h
              · rw [List.mem_singleton.mp h]
                exact hq8
            · rw [List.map_append]
              exact nd_snoc hP8.2.2.2 hin
            · rw [List.length_append, List.length_singleton]
              omega
    · rintro σ H3 ⟨b, ps, y5, y6, rfl, hS3, e3, fb, hP, hl3⟩
      exact ⟨_, rfl, q b ps H3 hS3 e3 fb hP (by omega)⟩
end
end Q2

namespace Q2
open PySem PySem.Spec PyProof.Rows L2
/-! ### boxes -/
abbrev Hi : Int := 10000000000000000000000000000000
def endV : Option Int → V
  | none => .non
  | some i => .int i
def EndOk (o : Option Int) : Prop := ∀ i, o = some i → -Hi ≤ i ∧ i ≤ Hi
def Ord2 (a b : Option Int) : Prop := ∀ i j, a = some i → b = some j → i ≤ j
structure Bx where
  x : Option Int
  y : Option Int
  x2 : Option Int
  y2 : Option Int
def boxV (B : Bx) : List V := [endV B.x, endV B.y, endV B.x2, endV B.y2]
structure BoxOk (B : Bx) : Prop where
  ex : EndOk B.x
  ey : EndOk B.y
  ex2 : EndOk B.x2
  ey2 : EndOk B.y2
  ox : Ord2 B.x B.x2
  oy : Ord2 B.y B.y2
def laneOk (lo hi : Option Int) (c : Int) : Bool := (match lo with | some l => decide (l ≤ c) | none => true) && (match hi with | some h => decide (c ≤ h) | none => true)
def insideM (B : Bx) (x y : Int) : Bool := laneOk B.x B.x2 x && laneOk B.y B.y2 y
/-- as the law reckons it -/
def awayL (lo hi : Option Int) (c : Int) : Int :=
  match hi with
  | some h => if h < c then c - h else (match lo with | some l => if c < l then l - c else 0 | none => 0)
  | none => (match lo with | some l => if c < l then l - c else 0 | none => 0)
/-- as the program does -/
def overM (lo hi : Option Int) (c : Int) : Int :=
  match lo with
  | some l => if c < l then l - c else (match hi with | some h => if h < c then c - h else 0 | none => 0)
  | none => (match hi with | some h => if h < c then c - h else 0 | none => 0)
theorem away_over {lo hi : Option Int} (h : Ord2 lo hi) (c : Int) : awayL lo hi c = overM lo hi c := by
  cases lo with
  | none => cases hi <;> rfl
  | some l =>
    cases hi with
    | none => rfl
    | some u =>
      have := h l u rfl rfl
      show (if u < c then c - u else if c < l then l - c else 0) = (if c < l then l - c else if u < c then c - u else 0)
      by_cases h1 : u < c
      · rw [if_pos h1, if_neg (by omega), if_pos h1]
      · rw [if_neg h1, if_neg h1]
theorem over_zero {lo hi : Option Int} (c : Int) : decide (overM lo hi c = 0) = laneOk lo hi c := by
  cases lo with
  | none =>
    cases hi with
    | none => rfl
    | some u =>
      show decide ((if u < c then c - u else 0) = 0) = (true && decide (c ≤ u))
      rw [Bool.true_and]
      apply decide_eq_decide.mpr
      split <;> omega
  | some l =>
    cases hi with
    | none =>
      show decide ((if c < l then l - c else 0) = 0) = (decide (l ≤ c) && true)
      rw [Bool.and_true]
      apply decide_eq_decide.mpr
      split <;> omega
    | some u =>
      show decide ((if c < l then l - c else if u < c then c - u else 0) = 0) = (decide (l ≤ c) && decide (c ≤ u))
      rw [← Bool.decide_and]
      apply decide_eq_decide.mpr
      split
      · omega
      · split <;> omega
theorem over_rng {lo hi : Option Int} (h1 : EndOk lo) (h2 : EndOk hi) {c : Int} (hc : -Hi ≤ c ∧ c ≤ Hi) : 0 ≤ overM lo hi c ∧ overM lo hi c ≤ 20000000000000000000000000000000 := by
  have hc' : -10000000000000000000000000000000 ≤ c ∧ c ≤ 10000000000000000000000000000000 := hc
  cases lo with
  | none =>
    cases hi with
    | none => exact ⟨Int.le_refl _, (by show (0 : Int) ≤ 20000000000000000000000000000000; decide)⟩
    | some u =>
      have hu : -10000000000000000000000000000000 ≤ u ∧ u ≤ 10000000000000000000000000000000 := h2 u rfl
      show 0 ≤ (if u < c then c - u else 0) ∧ (if u < c then c - u else 0) ≤ 20000000000000000000000000000000
      split <;> omega
  | some l =>
    have hl : -10000000000000000000000000000000 ≤ l ∧ l ≤ 10000000000000000000000000000000 := h1 l rfl
    cases hi with
    | none =>
      show 0 ≤ (if c < l then l - c else 0) ∧ (if c < l then l - c else 0) ≤ 20000000000000000000000000000000
      split <;> omega
    | some u =>
      have hu : -10000000000000000000000000000000 ≤ u ∧ u ≤ 10000000000000000000000000000000 := h2 u rfl
      show 0 ≤ (if c < l then l - c else if u < c then c - u else 0) ∧ (if c < l then l - c else if u < c then c - u else 0) ≤ 20000000000000000000000000000000
      split
      · omega
      · split <;> omega
def gapM (B : Bx) (x y : Int) : Int := overM B.x B.x2 x * overM B.x B.x2 x + overM B.y B.y2 y * overM B.y B.y2 y
def farM (a b c d : Int) : Int := (a - c) * (a - c) + (b - d) * (b - d)
theorem sq_nn (a : Int) : 0 ≤ a * a := by
  rcases Int.le_total 0 a with h | h
  · exact Int.mul_nonneg h h
  · have := Int.mul_nonneg (show 0 ≤ -a by omega) (show 0 ≤ -a by omega)
    rwa [Int.neg_mul_neg] at this
theorem sq_zero {a : Int} (h : a * a = 0) : a = 0 := by
  rcases Int.mul_eq_zero.mp h with h | h <;> exact h
theorem gap_inside (B : Bx) (x y : Int) : decide (gapM B x y = 0) = insideM B x y := by
  unfold insideM
  rw [← over_zero, ← over_zero, ← Bool.decide_and]
  apply decide_eq_decide.mpr
  have h1 := sq_nn (overM B.x B.x2 x)
  have h2 := sq_nn (overM B.y B.y2 y)
  unfold gapM
  constructor
  · intro h
    exact ⟨sq_zero (by omega), sq_zero (by omega)⟩
  · rintro ⟨h, h'⟩
    rw [h, h']
    rfl
theorem pow2 (i : Int) : i ^ (2 : Int).toNat = i * i := by
  show i ^ 2 = i * i
  rw [Int.pow_succ, Int.pow_succ, Int.pow_zero, Int.one_mul]
theorem cmul_w {i j : Int} (hi : -100000000000000000000000000000000 ≤ i ∧ i ≤ 100000000000000000000000000000000) (hj : -100000000000000000000000000000000 ≤ j ∧ j ≤ 100000000000000000000000000000000) : CMulW i j := wide_mul (a := 200) (b := 200) (by omega) (by omega) (by decide) (by decide) (by decide)
theorem cpow_w {i : Int} (hi : -100000000000000000000000000000000 ≤ i ∧ i ≤ 100000000000000000000000000000000) : CPowW i 2 := powW2 (Nat.lt_of_lt_of_le (show i.natAbs < 2 ^ 200 by omega) (Nat.pow_le_pow_right (by decide) (by decide)))
theorem eqv_empty (zs : List (Int × Int)) : PyData.eqv (.list (zs.map ptD)) (.list []) = zs.isEmpty := by
  cases zs with
  | nil => simp [PyData.eqv, PyData.eqvAll]
  | cons z zs => simp [PyData.eqv, PyData.eqvAll]
theorem Ex.put_new {s e : Addr} {H H' : Hp} {o : HO} (h : Ex s H H') (f : H e = none) : Ex s H (upd H' e o) := fun b o' hb n => by
  rw [upd_ne (ne_of_none hb f)]
  exact h b o' hb n
section
variable {P : Program} {w : World} {K : PySem.W.Frag} {mg : Str → Option Value} {base : Heap}
/-! ### _law_end -/
theorem scEnd : FnScope ["_law_source_here", "_law_spots_here", "_law_lane", "_law_way"] ["_law_source_here", "_law_spots_here", "_law_lane"] (defScope s_law_end) := ⟨rfl, rfl, rfl, by decide +kernel, rfl, by decide +kernel, by decide +kernel⟩
def spEnd : Sp := fun vs H Q _ => ∃ (s a : Addr) (ps : Pts) (lane : Nat), vs = [.ref s, .ref a, .int (lane : Int)] ∧ lane < 2 ∧ Src H s ∧ a ≠ s ∧ Spots H Lo a ps ∧ ∀ (o : Option Int) H', EndOk o → Src H' s → Ex s H H' → Q (endV o) H'
theorem end_of {v : V} (h : v ∈ [V.non, V.non, V.int 0, V.int (-((10 : Int) ^ (31 : Int).toNat)), V.int ((10 : Int) ^ (31 : Int).toNat)]) : ∃ o : Option Int, v = endV o ∧ EndOk o := by
  simp only [List.mem_cons, List.not_mem_nil, or_false] at h
  have k : ∀ i : Int, -Hi ≤ i ∧ i ≤ Hi → EndOk (some i) := fun i hi j e => by
    cases e
    exact hi
  rcases h with rfl | rfl | rfl | rfl | rfl
  · exact ⟨none, rfl, fun i e => nomatch e⟩
  · exact ⟨none, rfl, fun i e => nomatch e⟩
  · exact ⟨some _, rfl, k _ ⟨by decide, by decide⟩⟩
  · exact ⟨some _, rfl, k _ ⟨by decide, by decide⟩⟩
  · exact ⟨some _, rfl, k _ ⟨by decide, by decide⟩⟩
theorem ok_end {f fT fP : Addr} {fd fdT fdP : FuncData} (F : FnP K "_law_end" s_law_end f fd) (B : Bt mg) (GT : FnOk P w K mg base CX0 2 fT fdT ["_law_source_here", "_law_bound"] spTake) (kT : PySem.W.keepIn K (.ref fT) = true) (bT : Binds K fdT ["_law_source_here", "_law_bound"] []) (gT : mg "_law_take" = some (.ref fT))
    (GP : FnOk P w K mg base CX0 3 fP fdP ["_law_source_here", "_law_some"] spPick) (kP : PySem.W.keepIn K (.ref fP) = true) (bP : Binds K fdP ["_law_source_here", "_law_some"] []) (gP : mg "_law_pick" = some (.ref fP)) : FnOk P w K mg base CX0 4 f fd ["_law_source_here", "_law_spots_here", "_law_lane"] spEnd := by
  refine F.ok scEnd (fun vs H Q E h => ?_) (fun cdv A outer s H vs Q E hr h => ?_)
  · obtain ⟨a, b, c, d, rfl, _⟩ := h
    rfl
  · obtain ⟨p, a, ps, lane, rfl, hl, hS, hne, hP, q⟩ := h
    refine ⟨_, pss_cons (ps_set (i := 3) scEnd.nd rfl (.inl rfl) (pe_call GT (hr.mono (by decide)) (by rfl) gT kT bT .nil pass0 (pa_cons (pv 0) (pa_cons pe_int pa_nil))))
      (pss_cons (ps_if (PW.pt (pw_or (pt_cmpR op_eq (pv 3) pe_int (nomark _)) (pw_or1 (pt_cmpR (op_eqD (hu64 hr)) (pv 1) (pe_lst pa_nil) (nomark _)))))
        (pss_one (ps_ret (pe_call GP hr (by rfl) gP kP bP .nil pass0 (pa_cons (pv 0) (pa_cons (pe_lst (pa_cons pe_non (pa_cons pe_non (pa_cons pe_int (pa_cons (pe_un un_neg (pe_op op_pow pe_int pe_int)) (pa_cons (pe_op op_pow pe_int pe_int) pa_nil)))))) pa_nil))))) pss_nil)
      (pss_one (ps_ret (pe_op op_add (pe_ix ix_tup (pe_call GP hr (by rfl) gP kP bP .nil pass0 (pa_cons (pv 0) (pa_cons (pv 1) pa_nil))) (pv 2) (fun _ _ => rfl))
        (pe_ix ix_list (pe_lst (pa_cons pe_int (pa_cons pe_int (pa_cons pe_int (pa_cons (pe_un un_neg pe_int) pa_nil))))) (pe_op op_sub (pv 3) pe_int) (fun _ _ => rfl)))))), ?_⟩
    refine ⟨_, rfl, p, 5, rfl, hS, by decide, by decide, fun d H1 d0 d1 hS1 e1 => ?_⟩
    have hP1 : Spots H1 Lo a ps := hP.ex hS hne e1
    have pick5 : ∀ H2, Src H2 p → Ex p H H2 → ∀ (l : Addr), H2 l = none → ∃ (s l' : Addr) (xs : List V), ([.ref p, .ref l] : List V) = [.ref s, .ref l'] ∧ Src (upd H2 l (.lst [V.non, V.non, V.int 0, V.int (-((10 : Int) ^ (31 : Int).toNat)), V.int ((10 : Int) ^ (31 : Int).toNat)])) s ∧ l' ≠ s ∧ (upd H2 l (.lst [V.non, V.non, V.int 0, V.int (-((10 : Int) ^ (31 : Int).toNat)), V.int ((10 : Int) ^ (31 : Int).toNat)])) l' = some (.lst xs) ∧ xs ≠ [] ∧ xs.length ≤ 1000 ∧ ∀ v H', v ∈ xs → Src H' s → Ex s (upd H2 l (.lst [V.non, V.non, V.int 0, V.int (-((10 : Int) ^ (31 : Int).toNat)), V.int ((10 : Int) ^ (31 : Int).toNat)])) H' → Q v H' := fun H2 hS2 e2 l hl => by
      refine ⟨p, l, _, rfl, hS2.same (same_new hl), hS2.ne hl, upd_same, List.cons_ne_nil _ _, (by show 5 ≤ 1000; decide), fun v H3 hv hS3 e3 => ?_⟩
      obtain ⟨o, rfl, ho⟩ := end_of hv
      exact q o H3 ho hS3 ((e2.trans (Ex.same (same_new hl))).trans e3)
    refine ⟨_, rfl, rfl, _, rfl, ite2 (fun c => ?_) (fun c => ?_)⟩
    · refine iteT ?_
      exact ⟨_, rfl, _, _, rfl, rfl, ⟨by decide, by decide, by decide⟩, _, rfl, _, _, rfl, rfl, ⟨by decide, by decide, by decide⟩, (by show 5 ≤ sizeLine; decide), fun l hl => pick5 H1 hS1 e1 l hl⟩
    · have cd : d ≠ 0 := fun z => c (by rw [z]; rfl)
      refine ⟨_, rfl, Nat.zero_le _, fun l hl => ?_⟩
      have s2 : Same H1 (upd H1 l (.lst [])) := same_new hl
      refine ⟨_, _, dp_spots (hP1.same s2), .lst (SqL.of upd_same) .nil, ptDs_shaped _, (by rfl), _, rfl, ?_⟩
      rw [eqv_empty]
      refine ite2 (fun ce => ?_) (fun ce => ?_)
      · exact ⟨_, rfl, _, _, rfl, rfl, ⟨by decide, by decide, by decide⟩, _, rfl, _, _, rfl, rfl, ⟨by decide, by decide, by decide⟩, (by show 5 ≤ sizeLine; decide), fun l2 hl2 => pick5 _ (hS1.same s2) (e1.trans (Ex.same s2)) l2 hl2⟩
      · have hps : ps.map (fun q => V.ref q.1) ≠ [] := fun z => ce (by rw [List.map_eq_nil_iff.mp z]; rfl)
        refine ⟨_, rfl, _, rfl, p, a, _, rfl, hS1.same s2, hne, (hP1.same s2).1, hps, ?_, fun v H3 hv hS3 e3 => ?_⟩
        · rw [List.length_map]
          exact Nat.le_trans hP.2.1 (by decide)
        · obtain ⟨t, ht, rfl⟩ := List.mem_map.mp hv
          have hq : PtAt H3 Lo t := ((hP1.same s2).2.2.1 t ht).ex (hS1.same s2) e3
          have k : ∀ c : Int, (-Lo ≤ c ∧ c ≤ Lo) → ([V.int t.2.1, V.int t.2.2] : List V)[lane]? = some (V.int c) → ∃ (p_1 : Addr) (xs : List V) (i : Int) (v : V), V.ref t.1 = V.ref p_1 ∧ V.int (lane : Int) = V.int i ∧ SqT K H3 p_1 xs ∧ atI xs i = some v ∧ v = V.int c := fun c _ hc => ⟨t.1, _, _, _, rfl, rfl, SqT.of hq.1, atI_nat hc, rfl⟩
          have cc : ∃ c : Int, (-1000000000000000000000000000000 ≤ c ∧ c ≤ 1000000000000000000000000000000) ∧ ([V.int t.2.1, V.int t.2.2] : List V)[lane]? = some (V.int c) := by
            match lane, hl with
            | 0, _ => exact ⟨t.2.1, hq.2.1, rfl⟩
            | 1, _ => exact ⟨t.2.2, hq.2.2, rfl⟩
          obtain ⟨c, hc, ec⟩ := cc
          have ww : ∃ (j : Nat) (u : Int), d - 1 = (j : Int) ∧ ([V.int 0, V.int 0, V.int 1, V.int (-1)] : List V)[j]? = some (V.int u) ∧ -1 ≤ u ∧ u ≤ 1 := by
            have h4 : d = 1 ∨ d = 2 ∨ d = 3 ∨ d = 4 := by omega
            rcases h4 with rfl | rfl | rfl | rfl
            · exact ⟨0, 0, rfl, rfl, by decide, by decide⟩
            · exact ⟨1, 0, rfl, rfl, by decide, by decide⟩
            · exact ⟨2, 1, rfl, rfl, by decide, by decide⟩
            · exact ⟨3, -1, rfl, rfl, by decide, by decide⟩
          obtain ⟨j, u, ej, eu, u0, u1⟩ := ww
          refine ⟨_, rfl, t.1, _, _, .int c, rfl, rfl, SqT.of hq.1, atI_nat ec, _, rfl, (by show 4 ≤ sizeLine; decide), fun l4 hl4 => ?_⟩
          refine ⟨_, rfl, _, _, rfl, rfl, l4, _, d - 1, .int u, rfl, rfl, SqL.of upd_same, at_of ej eu, _, _, rfl, rfl, ?_⟩
          refine q (some (c + u)) _ (fun i e => ?_) (hS3.same (same_new hl4)) ((((e1.trans (Ex.same s2)).trans e3)).trans (Ex.same (same_new hl4)))
          cases e
          show -10000000000000000000000000000000 ≤ c + u ∧ c + u ≤ 10000000000000000000000000000000
          omega
end
end Q2

namespace Q2
open PySem PySem.Spec PyProof.Rows L2
theorem endV_non {o : Option Int} : (!decide (endV o = V.non)) = o.isSome := by
  cases o <;> rfl
section
variable {P : Program} {w : World} {K : PySem.W.Frag} {mg : Str → Option Value} {base : Heap}
/-! ### _law_box -/
abbrev Prs := List (Addr × Option Int × Option Int)
structure PrsAt (H : Hp) (e : Addr) (es : Prs) : Prop where
  at_ : H e = some (.lst (es.map fun r => V.ref r.1))
  it : ∀ r ∈ es, H r.1 = some (.tup [endV r.2.1, endV r.2.2]) ∧ EndOk r.2.1 ∧ EndOk r.2.2 ∧ Ord2 r.2.1 r.2.2
theorem scBox : FnScope ["_law_source_here", "_law_spots_here", "_law_ends", "_law_lane", "_law_low", "_law_high"] ["_law_source_here", "_law_spots_here"] (defScope s_law_box) := ⟨rfl, rfl, rfl, by decide +kernel, rfl, by decide +kernel, by decide +kernel⟩
def spBox : Sp := fun vs H Q _ => ∃ (s a : Addr) (ps : Pts), vs = [.ref s, .ref a] ∧ Src H s ∧ a ≠ s ∧ Spots H Lo a ps ∧ ∀ (b : Addr) (B : Bx) H', BoxOk B → Src H' s → Ex s H H' → H b = none → H' b = some (.tup (boxV B)) → Q (.ref b) H'
theorem ok_box {f fE : Addr} {fd fdE : FuncData} (F : FnP K "_law_box" s_law_box f fd) (B : Bt mg) (GE : FnOk P w K mg base CX0 4 fE fdE ["_law_source_here", "_law_spots_here", "_law_lane"] spEnd) (kE : PySem.W.keepIn K (.ref fE) = true) (bE : Binds K fdE ["_law_source_here", "_law_spots_here", "_law_lane"] []) (gE : mg "_law_end" = some (.ref fE)) : FnOk P w K mg base CX0 5 f fd ["_law_source_here", "_law_spots_here"] spBox := by
  refine F.ok scBox (fun vs H Q E h => ?_) (fun cdv A outer s H vs Q E hr h => ?_)
  · obtain ⟨a, b, c, rfl, _⟩ := h
    rfl
  · obtain ⟨p, a, ps, rfl, hS, hne, hP, q⟩ := h
    refine ⟨_, pss_cons (ps_set (i := 2) scBox.nd rfl (.inl rfl) (pe_lst pa_nil))
      (pss_cons (ps_for PassesOwn.never rfl (pi_range1 (by rfl) B.range (pa_cons pe_int pa_nil)) (pg_name (i := 3) scBox.nd rfl (.inl rfl))
        (pss_cons (ps_par (i := 4) (j := 5) rfl scBox.nd rfl rfl (by decide) rfl rfl (pa_cons (pe_call GE hr (by rfl) gE kE bE .nil pass0 (pa_cons (pv 0) (pa_cons (pv 1) (pa_cons (pv 3) pa_nil)))) (pa_cons (pe_call GE hr (by rfl) gE kE bE .nil pass0 (pa_cons (pv 0) (pa_cons (pv 1) (pa_cons (pv 3) pa_nil)))) pa_nil)) rfl)
        (pss_cons (ps_if (PW.pt (pw_and (pt_cmp (pc_notN (pv 4))) (pw_and (pt_cmp (pc_notN (pv 5))) (pw_and1 (pt_cmpR op_gt (pv 4) (pv 5) (nomark _))))))
          (pss_one (ps_par (i := 4) (j := 5) rfl scBox.nd rfl rfl (by decide) rfl rfl (pa_cons (pv 5) (pa_cons (pv 4) pa_nil)) rfl)) pss_nil)
        (pss_one (ps_expr (pe_bm PySem.F.plainAttrs_list PySem.F.slot_list_append PySem.F.type_list_append mt_append (pv 2) (pa_cons (pe_tup (pa_cons (pv 4) (pa_cons (pv 5) pa_nil))) pa_nil)))))))
      (pss_one (ps_ret (pe_tup (pa_cons (pe_ix ix_tup (pe_ix ix_list (pv 2) pe_int (fun _ _ => rfl)) pe_int (fun _ _ => rfl)) (pa_cons (pe_ix ix_tup (pe_ix ix_list (pv 2) pe_int (fun _ _ => rfl)) pe_int (fun _ _ => rfl)) (pa_cons (pe_ix ix_tup (pe_ix ix_list (pv 2) pe_int (fun _ _ => rfl)) pe_int (fun _ _ => rfl)) (pa_cons (pe_ix ix_tup (pe_ix ix_list (pv 2) pe_int (fun _ _ => rfl)) pe_int (fun _ _ => rfl)) pa_nil)))))))), ?_⟩
    refine ⟨Nat.zero_le _, fun e ne => ?_⟩
    have nep : e ≠ p := hS.ne ne
    refine ⟨2, rfl, by decide, by decide, for_range (n := 2) (fun i σ H3 => ∃ (es : Prs) (y3 y4 y5 : Option V), σ = [some (.ref p), some (.ref a), some (.ref e), y3, y4, y5] ∧ es.length = i ∧ PrsAt H3 e es ∧ Src H3 p ∧ Ex p H H3) ?_ ?_ ?_⟩
    · exact ⟨[], none, none, none, rfl, rfl, ⟨upd_same, fun r hr => (List.not_mem_nil hr).elim⟩, hS.same (same_new ne), Ex.same (same_new ne)⟩
    · rintro i σ H3 hi ⟨es, y3, y4, y5, rfl, hlen, hE, hS3, e3⟩
      have z3 : ((0 : Int) + ((i : Nat) : Int)) = (i : Int) := by omega
      refine ⟨_, rfl, _, rfl, _, rfl, p, a, ps, i, (by rw [z3]; rfl), hi, hS3, hne, hP.ex hS hne e3, fun o1 H4 k1 hS4 e4 => ?_⟩
      have hP4 : Spots H4 Lo a ps := hP.ex hS hne (e3.trans e4)
      refine ⟨_, rfl, _, rfl, _, rfl, p, a, ps, i, (by rw [z3]; rfl), hi, hS4, hne, hP4, fun o2 H5 k2 hS5 e5 => ?_⟩
      have e35 : Ex p H3 H5 := e4.trans e5
      have hE5 : PrsAt H5 e es := ⟨e35 _ _ hE.at_ nep, fun r hr => ⟨e35 _ _ (hE.it r hr).1 (by
        obtain ⟨_, _, _, _, hs⟩ := hS3
        exact ne_of (hE.it r hr).1 hs (by intro z; cases z)), (hE.it r hr).2⟩⟩
      -- what is put down in the end
      have fin : ∀ (l h : Option Int), EndOk l → EndOk h → Ord2 l h → ∀ t : Addr, H5 t = none → ∃ (es' : Prs) (y3' y4' y5' : Option V), [some (V.ref p), some (.ref a), some (.ref e), some (.int (0 + ((i : Nat) : Int))), some (endV l), some (endV h)] = [some (.ref p), some (.ref a), some (.ref e), y3', y4', y5'] ∧ es'.length = i + 1 ∧ PrsAt (upd (upd H5 t (.tup [endV l, endV h])) e (.lst ((es.map fun r => V.ref r.1) ++ [.ref t]))) e es' ∧ Src (upd (upd H5 t (.tup [endV l, endV h])) e (.lst ((es.map fun r => V.ref r.1) ++ [.ref t]))) p ∧ Ex p H (upd (upd H5 t (.tup [endV l, endV h])) e (.lst ((es.map fun r => V.ref r.1) ++ [.ref t]))) := fun l h kl kh ko t nt => by
        have nte : t ≠ e := (ne_of_none hE5.at_ nt).symm
        refine ⟨es ++ [(t, l, h)], _, _, _, rfl, by rw [List.length_append, hlen]; rfl, ⟨?_, fun r hr => ?_⟩, ?_, ?_⟩
        · rw [upd_same, List.map_append]
          rfl
        · rcases List.mem_append.mp hr with hr | hr
          · refine ⟨?_, (hE5.it r hr).2⟩
            have hx := (hE5.it r hr).1
            rw [upd_ne (ne_of hx hE5.at_ (by intro z; cases z)), upd_ne (ne_of_none hx nt)]
            exact hx
          · rw [List.mem_singleton.mp hr]
            refine ⟨?_, kl, kh, ko⟩
            rw [upd_ne nte, upd_same]
        · obtain ⟨x, y, z, h0, hs⟩ := hS5
          refine ⟨x, y, z, h0, ?_⟩
          rw [upd_ne (fun q => nep q.symm), upd_ne (ne_of_none hs nt)]
          exact hs
        · exact ((e3.trans e35).trans (Ex.same (same_new nt))).put_new ne
      have app : ∀ (l h : Option Int), EndOk l → EndOk h → Ord2 l h → ∀ (R : V → Hp → Prop), (∀ v H', (∃ (es' : Prs) (y3' y4' y5' : Option V), [some (V.ref p), some (.ref a), some (.ref e), some (.int (0 + ((i : Nat) : Int))), some (endV l), some (endV h)] = [some (.ref p), some (.ref a), some (.ref e), y3', y4', y5'] ∧ es'.length = i + 1 ∧ PrsAt H' e es' ∧ Src H' p ∧ Ex p H H') → R v H') → 
          ∀ t : Addr, H5 t = none → (upd H5 t (.tup [endV l, endV h])) e = some (.lst (es.map fun r => V.ref r.1)) ∧ (es.map fun r => V.ref r.1).length < sizeLine ∧ R .non (upd (upd H5 t (.tup [endV l, endV h])) e (.lst ((es.map fun r => V.ref r.1) ++ [.ref t]))) := fun l h kl kh ko R hR t nt => by
        refine ⟨?_, ?_, hR _ _ (fin l h kl kh ko t nt)⟩
        · rw [upd_ne (ne_of_none hE5.at_ nt)]
          exact hE5.at_
        · rw [List.length_map]
          exact small1000 (by omega)
      refine ⟨_, _, rfl, _, rfl, _, rfl, ?_⟩
      rw [endV_non]
      -- the four ways
      have go : ∀ (l h : Option Int), EndOk l → EndOk h → Ord2 l h → ∃ x, [some (V.ref p), some (.ref a), some (.ref e), some (.int (0 + ((i : Nat) : Int))), some (endV l), some (endV h)][2]? = some (some x) ∧ x = V.ref e := fun l h _ _ _ => ⟨_, rfl, rfl⟩
      cases o1 with
      | none =>
        refine iteF ?_
        refine iteF ?_
        refine ⟨_, rfl, .inl ⟨rfl, _, SqL.of hE5.at_⟩, _, rfl, _, rfl, (by show 2 ≤ sizeLine; decide), fun t nt => ?_⟩
        obtain ⟨u1, u2, u3⟩ := app none o2 k1 k2 (fun i j e => nomatch e) (fun v H' => ∃ (es' : Prs) (y3' y4' y5' : Option V), [some (V.ref p), some (.ref a), some (.ref e), some (.int (0 + ((i : Nat) : Int))), some (endV none), some (endV o2)] = [some (.ref p), some (.ref a), some (.ref e), y3', y4', y5'] ∧ es'.length = i + 1 ∧ PrsAt H' e es' ∧ Src H' p ∧ Ex p H H') (fun _ _ x => x) t nt
        exact ⟨e, _, _, rfl, rfl, u1, u2, u3⟩
      | some l =>
        refine iteT ?_
        refine ⟨_, rfl, _, rfl, ?_⟩
        rw [endV_non]
        cases o2 with
        | none =>
          refine iteF ?_
          refine iteF ?_
          refine ⟨_, rfl, .inl ⟨rfl, _, SqL.of hE5.at_⟩, _, rfl, _, rfl, (by show 2 ≤ sizeLine; decide), fun t nt => ?_⟩
          obtain ⟨u1, u2, u3⟩ := app (some l) none k1 k2 (fun i j _ e => nomatch e) (fun v H' => ∃ (es' : Prs) (y3' y4' y5' : Option V), [some (V.ref p), some (.ref a), some (.ref e), some (.int (0 + ((i : Nat) : Int))), some (endV (some l)), some (endV none)] = [some (.ref p), some (.ref a), some (.ref e), y3', y4', y5'] ∧ es'.length = i + 1 ∧ PrsAt H' e es' ∧ Src H' p ∧ Ex p H H') (fun _ _ x => x) t nt
          exact ⟨e, _, _, rfl, rfl, u1, u2, u3⟩
        | some h =>
          refine iteT ?_
          refine ⟨_, rfl, _, rfl, _, _, rfl, rfl, _, rfl, ite2 (fun c => ?_) (fun c => ?_)⟩
          · have c' : h < l := of_decide_eq_true c
            refine ⟨_, rfl, _, rfl, _, _, rfl, ?_⟩
            refine ⟨_, rfl, .inl ⟨rfl, _, SqL.of hE5.at_⟩, _, rfl, _, rfl, (by show 2 ≤ sizeLine; decide), fun t nt => ?_⟩
            obtain ⟨u1, u2, u3⟩ := app (some h) (some l) k2 k1 (fun i j e1 e2 => by cases e1; cases e2; omega) (fun v H' => ∃ (es' : Prs) (y3' y4' y5' : Option V), [some (V.ref p), some (.ref a), some (.ref e), some (.int (0 + ((i : Nat) : Int))), some (endV (some h)), some (endV (some l))] = [some (.ref p), some (.ref a), some (.ref e), y3', y4', y5'] ∧ es'.length = i + 1 ∧ PrsAt H' e es' ∧ Src H' p ∧ Ex p H H') (fun _ _ x => x) t nt
            exact ⟨e, _, _, rfl, rfl, u1, u2, u3⟩
          · have c' : ¬ h < l := fun z => c (decide_eq_true z)
            refine ⟨_, rfl, .inl ⟨rfl, _, SqL.of hE5.at_⟩, _, rfl, _, rfl, (by show 2 ≤ sizeLine; decide), fun t nt => ?_⟩
            obtain ⟨u1, u2, u3⟩ := app (some l) (some h) k1 k2 (fun i j e1 e2 => by cases e1; cases e2; omega) (fun v H' => ∃ (es' : Prs) (y3' y4' y5' : Option V), [some (V.ref p), some (.ref a), some (.ref e), some (.int (0 + ((i : Nat) : Int))), some (endV (some l)), some (endV (some h))] = [some (.ref p), some (.ref a), some (.ref e), y3', y4', y5'] ∧ es'.length = i + 1 ∧ PrsAt H' e es' ∧ Src H' p ∧ Ex p H H') (fun _ _ x => x) t nt
            exact ⟨e, _, _, rfl, rfl, u1, u2, u3⟩
    · rintro σ H3 ⟨es, y3, y4, y5, rfl, hlen, hE, hS3, e3⟩
      match es, hlen, hE with
      | [r0, r1], _, hE =>
        have h0 := hE.it r0 (by simp)
        have h1 := hE.it r1 (by simp)
        refine ⟨_, rfl, e, _, 0, .ref r0.1, rfl, rfl, SqL.of hE.at_, atI_nat (j := 0) rfl, r0.1, _, 0, endV r0.2.1, rfl, rfl, SqT.of h0.1, atI_nat (j := 0) rfl, ?_⟩
        refine ⟨_, rfl, e, _, 1, .ref r1.1, rfl, rfl, SqL.of hE.at_, atI_nat (j := 1) rfl, r1.1, _, 0, endV r1.2.1, rfl, rfl, SqT.of h1.1, atI_nat (j := 0) rfl, ?_⟩
        refine ⟨_, rfl, e, _, 0, .ref r0.1, rfl, rfl, SqL.of hE.at_, atI_nat (j := 0) rfl, r0.1, _, 1, endV r0.2.2, rfl, rfl, SqT.of h0.1, atI_nat (j := 1) rfl, ?_⟩
        refine ⟨_, rfl, e, _, 1, .ref r1.1, rfl, rfl, SqL.of hE.at_, atI_nat (j := 1) rfl, r1.1, _, 1, endV r1.2.2, rfl, rfl, SqT.of h1.1, atI_nat (j := 1) rfl, ?_⟩
        refine ⟨(by show 4 ≤ sizeLine; decide), fun t nt => ?_⟩
        exact q t ⟨r0.2.1, r1.2.1, r0.2.2, r1.2.2⟩ _ ⟨h0.2.1, h1.2.1, h0.2.2.1, h1.2.2.1, h0.2.2.2, h1.2.2.2⟩ (hS3.same (same_new nt)) (e3.trans (Ex.same (same_new nt))) (Ex.free hS3 e3 nt) upd_same
end
end Q2

namespace Q2
open PySem PySem.Spec PyProof.Rows L2
/-- what stands on an axis -/
def loB (B : Bx) : Nat → Option Int
  | 0 => B.x
  | _ => B.y
def hiB (B : Bx) : Nat → Option Int
  | 0 => B.x2
  | _ => B.y2
def coP (x y : Int) : Nat → Int
  | 0 => x
  | _ => y
theorem box_lo (B : Bx) {i : Nat} (h : i < 2) : (boxV B)[i]? = some (endV (loB B i)) := by
  match i, h with
  | 0, _ => rfl
  | 1, _ => rfl
theorem box_hi (B : Bx) {i : Nat} (h : i < 2) : (boxV B)[i + 2]? = some (endV (hiB B i)) := by
  match i, h with
  | 0, _ => rfl
  | 1, _ => rfl
theorem pt_co (x y : Int) {i : Nat} (h : i < 2) : ([V.int x, V.int y] : List V)[i]? = some (.int (coP x y i)) := by
  match i, h with
  | 0, _ => rfl
  | 1, _ => rfl
def BoxAt (H : Hp) (b : Addr) (B : Bx) : Prop := H b = some (.tup (boxV B))
def XY (H : Hp) (t : Addr) (x y : Int) : Prop := H t = some (.tup [.int x, .int y])
section
variable {P : Program} {w : World} {K : PySem.W.Frag} {mg : Str → Option Value} {base : Heap}
/-! ### _law_holds -/
theorem scHolds : FnScope ["_law_box_here", "_law_spot", "_law_lane"] ["_law_box_here", "_law_spot"] (defScope s_law_holds) := ⟨rfl, rfl, rfl, by decide +kernel, rfl, by decide +kernel, by decide +kernel⟩
def spHolds : Sp := fun vs H Q _ => ∃ (b t : Addr) (B : Bx) (x y : Int), vs = [.ref b, .ref t] ∧ BoxAt H b B ∧ XY H t x y ∧ Q (.bl (insideM B x y)) H
theorem lane_no {B : Bx} {x y : Int} {i : Nat} (hi : i < 2) (h : laneOk (loB B i) (hiB B i) (coP x y i) = false) : insideM B x y = false := by
  unfold insideM
  match i, hi with
  | 0, _ =>
    have h : laneOk B.x B.x2 x = false := h
    rw [h, Bool.false_and]
  | 1, _ =>
    have h : laneOk B.y B.y2 y = false := h
    rw [h, Bool.and_false]
theorem ok_holds {f : Addr} {fd : FuncData} (F : FnP K "_law_holds" s_law_holds f fd) (Bm : Bt mg) : FnOk P w K mg base CX0 1 f fd ["_law_box_here", "_law_spot"] spHolds := by
  refine F.ok scHolds (fun vs H Q E h => ?_) (fun cdv A outer s H vs Q E hr h => ?_)
  · obtain ⟨a, b, c, d, e, rfl, _⟩ := h
    rfl
  · obtain ⟨b, t, B, x, y, rfl, hB, hT, q⟩ := h
    refine ⟨_, pss_cons (ps_for PassesOwn.never rfl (pi_range1 (by rfl) Bm.range (pa_cons pe_int pa_nil)) (pg_name (i := 2) scHolds.nd rfl (.inl rfl))
        (pss_cons (ps_if (PW.pt (pw_and (pt_cmp (pc_notN (pe_ix ix_tup (pv 0) (pv 2) (fun _ _ => rfl)))) (pw_and1 (pt_cmpR op_lt (pe_ix ix_tup (pv 1) (pv 2) (fun _ _ => rfl)) (pe_ix ix_tup (pv 0) (pv 2) (fun _ _ => rfl)) (nomark _))))) (pss_one (ps_ret pe_bl)) pss_nil)
        (pss_one (ps_if (PW.pt (pw_and (pt_cmp (pc_notN (pe_ix ix_tup (pv 0) (pe_op op_add (pv 2) pe_int) (fun _ _ => rfl)))) (pw_and1 (pt_cmpR op_gt (pe_ix ix_tup (pv 1) (pv 2) (fun _ _ => rfl)) (pe_ix ix_tup (pv 0) (pe_op op_add (pv 2) pe_int) (fun _ _ => rfl)) (nomark _))))) (pss_one (ps_ret pe_bl)) pss_nil))))
      (pss_one (ps_ret pe_bl)), ?_⟩
    refine ⟨2, rfl, by decide, by decide, for_range (n := 2) (fun i σ H3 => ∃ (y2 : Option V), σ = [some (.ref b), some (.ref t), y2] ∧ H3 = H ∧ ∀ j, j < i → laneOk (loB B j) (hiB B j) (coP x y j) = true) ?_ ?_ ?_⟩
    · exact ⟨none, rfl, rfl, fun j hj => absurd hj (Nat.not_lt_zero j)⟩
    · rintro i σ H3 hi ⟨y2, rfl, rfl, hj⟩
      have z3 : ((0 : Int) + ((i : Nat) : Int)) = (i : Int) := by omega
      have z5 : ((0 : Int) + ((i : Nat) : Int)) + 2 = ((i + 2 : Nat) : Int) := by omega
      have step2 : ∀ (hlo : (match loB B i with | some l => decide (l ≤ coP x y i) | none => true) = true), ∃ x_1, [some (V.ref b), some (.ref t), some (.int (0 + ((i : Nat) : Int)))][0]? = some (some x_1) ∧ x_1 = V.ref b := fun _ => ⟨_, rfl, rfl⟩
      -- the two halves of the axis
      have second : ∀ (R : Prop), ((match loB B i with | some l => decide (l ≤ coP x y i) | none => true) = true) → (laneOk (loB B i) (hiB B i) (coP x y i) = true → R) → (laneOk (loB B i) (hiB B i) (coP x y i) = false → R) → R := fun R _ h1 h2 => by
        cases h : laneOk (loB B i) (hiB B i) (coP x y i)
        · exact h2 h
        · exact h1 h
      refine ⟨_, rfl, _, rfl, b, _, _, _, rfl, rfl, SqT.of hB, at_of z3 (box_lo B hi), _, rfl, ?_⟩
      rw [endV_non]
      have nxt : ∀ (hlo : (match loB B i with | some l => decide (l ≤ coP x y i) | none => true) = true), (laneOk (loB B i) (hiB B i) (coP x y i) = true → ∃ (y2 : Option V), [some (V.ref b), some (.ref t), some (.int (0 + ((i : Nat) : Int)))] = [some (.ref b), some (.ref t), y2] ∧ H3 = H3 ∧ ∀ j, j < i + 1 → laneOk (loB B j) (hiB B j) (coP x y j) = true) := fun _ h => ⟨_, rfl, rfl, fun j hj' => by
        rcases Nat.lt_succ_iff_lt_or_eq.mp hj' with h' | rfl
        · exact hj j h'
        · exact h⟩
      have back : laneOk (loB B i) (hiB B i) (coP x y i) = false → Q (.bl false) H3 := fun h => by
        have := lane_no hi h
        rw [this] at q
        exact q
      cases hl : loB B i with
      | none =>
        refine iteF ?_
        refine iteF ?_
        refine ⟨_, rfl, _, rfl, _, _, rfl, rfl, b, _, _, _, rfl, rfl, SqT.of hB, at_of z5 (box_hi B hi), _, rfl, ?_⟩
        rw [endV_non]
        cases hh : hiB B i with
        | none =>
          refine iteF ?_
          refine iteF ?_
          exact nxt (by rw [hl]) (by rw [hl, hh]; rfl)
        | some u =>
          refine iteT ?_
          refine ⟨_, rfl, _, rfl, t, _, _, _, rfl, rfl, SqT.of hT, at_of z3 (pt_co x y hi), _, rfl, _, rfl, _, _, rfl, rfl, b, _, _, _, rfl, rfl, SqT.of hB, at_of z5 (box_hi B hi), _, u, rfl, (by rw [hh]; rfl), _, rfl, ite2 (fun c => ?_) (fun c => ?_)⟩
          · have c' := of_decide_eq_true c
            exact back (by rw [hl, hh]; show (true && decide (coP x y i ≤ u)) = false; rw [Bool.true_and]; exact decide_eq_false (by omega))
          · have c' : ¬ u < coP x y i := fun z => c (decide_eq_true z)
            exact nxt (by rw [hl]) (by rw [hl, hh]; show (true && decide (coP x y i ≤ u)) = true; rw [Bool.true_and]; exact decide_eq_true (by omega))
      | some l =>
        refine iteT ?_
        refine ⟨_, rfl, _, rfl, t, _, _, _, rfl, rfl, SqT.of hT, at_of z3 (pt_co x y hi), _, rfl, _, rfl, b, _, _, _, rfl, rfl, SqT.of hB, at_of z3 (box_lo B hi), _, l, rfl, (by rw [hl]; rfl), _, rfl, ite2 (fun c => ?_) (fun c => ?_)⟩
        · have c' := of_decide_eq_true c
          exact back (by rw [hl]; show (decide (l ≤ coP x y i) && _) = false; rw [decide_eq_false (by omega), Bool.false_and])
        · have c' : ¬ coP x y i < l := fun z => c (decide_eq_true z)
          have e1 : decide (l ≤ coP x y i) = true := decide_eq_true (by omega)
          refine ⟨_, rfl, _, rfl, _, _, rfl, rfl, b, _, _, _, rfl, rfl, SqT.of hB, at_of z5 (box_hi B hi), _, rfl, ?_⟩
          rw [endV_non]
          cases hh : hiB B i with
          | none =>
            refine iteF ?_
            refine iteF ?_
            exact nxt (by rw [hl]; exact e1) (by rw [hl, hh]; show (decide (l ≤ coP x y i) && true) = true; rw [e1]; rfl)
          | some u =>
            refine iteT ?_
            refine ⟨_, rfl, _, rfl, t, _, _, _, rfl, rfl, SqT.of hT, at_of z3 (pt_co x y hi), _, rfl, _, rfl, _, _, rfl, rfl, b, _, _, _, rfl, rfl, SqT.of hB, at_of z5 (box_hi B hi), _, u, rfl, (by rw [hh]; rfl), _, rfl, ite2 (fun c => ?_) (fun c => ?_)⟩
            · have c' := of_decide_eq_true c
              exact back (by rw [hl, hh]; show (decide (l ≤ coP x y i) && decide (coP x y i ≤ u)) = false; rw [decide_eq_false (show ¬ coP x y i ≤ u by omega), Bool.and_false])
            · have c' : ¬ u < coP x y i := fun z => c (decide_eq_true z)
              exact nxt (by rw [hl]; exact e1) (by rw [hl, hh]; show (decide (l ≤ coP x y i) && decide (coP x y i ≤ u)) = true; rw [e1, Bool.true_and]; exact decide_eq_true (by omega))
    · rintro σ H3 ⟨y2, rfl, rfl, hj⟩
      have e : insideM B x y = true := by
        have h0 : laneOk B.x B.x2 x = true := hj 0 (by decide)
        have h1 : laneOk B.y B.y2 y = true := hj 1 (by decide)
        unfold insideM
        rw [h0, h1]
        rfl
      rw [e] at q
      exact q
/-! ### _law_gap -/
theorem scGap : FnScope ["_law_spot", "_law_box_here", "_law_found", "_law_lane", "_law_low", "_law_high", "_law_away"] ["_law_spot", "_law_box_here"] (defScope s_law_gap) := ⟨rfl, rfl, rfl, by decide +kernel, rfl, by decide +kernel, by decide +kernel⟩
def spGapL : Sp := fun vs H Q _ => ∃ (t b : Addr) (B : Bx) (x y : Int), vs = [.ref t, .ref b] ∧ BoxAt H b B ∧ BoxOk B ∧ XY H t x y ∧ (-Hi ≤ x ∧ x ≤ Hi) ∧ (-Hi ≤ y ∧ y ≤ Hi) ∧ Q (.int (gapM B x y)) H
theorem away_rng {lo hi : Option Int} (h1 : EndOk lo) (h2 : EndOk hi) (o : Ord2 lo hi) {c : Int} (hc : -Hi ≤ c ∧ c ≤ Hi) : 0 ≤ awayL lo hi c ∧ awayL lo hi c ≤ 20000000000000000000000000000000 := by
  rw [away_over o]
  exact over_rng h1 h2 hc
theorem ok_gapL {f : Addr} {fd : FuncData} (F : FnP K "_law_gap" s_law_gap f fd) (Bm : Bt mg) : FnOk P w K mg base CX0 1 f fd ["_law_spot", "_law_box_here"] spGapL := by
  refine F.ok scGap (fun vs H Q E h => ?_) (fun cdv A outer s H vs Q E hr h => ?_)
  · obtain ⟨a, b, c, d, e, rfl, _⟩ := h
    rfl
  · obtain ⟨t, b, B, x, y, rfl, hB, ok, hT, hx, hy, q⟩ := h
    refine ⟨_, pss_cons (ps_set (i := 2) scGap.nd rfl (.inl rfl) pe_int)
      (pss_cons (ps_for PassesOwn.never rfl (pi_range1 (by rfl) Bm.range (pa_cons pe_int pa_nil)) (pg_name (i := 3) scGap.nd rfl (.inl rfl))
        (pss_cons (ps_par (i := 4) (j := 5) rfl scGap.nd rfl rfl (by decide) rfl rfl (pa_cons (pe_ix ix_tup (pv 1) (pv 3) (fun _ _ => rfl)) (pa_cons (pe_ix ix_tup (pv 1) (pe_op op_add (pv 3) pe_int) (fun _ _ => rfl)) pa_nil)) rfl)
        (pss_cons (ps_set (i := 6) scGap.nd rfl (.inl rfl) pe_int)
        (pss_cons (ps_if (PW.pt (pw_and (pt_cmp (pc_notN (pv 4))) (pw_and1 (pt_cmpR op_lt (pe_ix ix_tup (pv 0) (pv 3) (fun _ _ => rfl)) (pv 4) (nomark _))))) (pss_one (ps_set (i := 6) scGap.nd rfl (.inl rfl) (pe_op op_sub (pv 4) (pe_ix ix_tup (pv 0) (pv 3) (fun _ _ => rfl))))) pss_nil)
        (pss_cons (ps_if (PW.pt (pw_and (pt_cmp (pc_notN (pv 5))) (pw_and1 (pt_cmpR op_gt (pe_ix ix_tup (pv 0) (pv 3) (fun _ _ => rfl)) (pv 5) (nomark _))))) (pss_one (ps_set (i := 6) scGap.nd rfl (.inl rfl) (pe_op op_sub (pe_ix ix_tup (pv 0) (pv 3) (fun _ _ => rfl)) (pv 5)))) pss_nil)
        (pss_one (ps_set (i := 2) scGap.nd rfl (.inl rfl) (pe_op op_add (pv 2) (pe_op op_mulW (pv 6) (pv 6))))))))))
      (pss_one (ps_ret (pv 2)))), ?_⟩
    have okl : ∀ i, i < 2 → EndOk (loB B i) ∧ EndOk (hiB B i) ∧ Ord2 (loB B i) (hiB B i) ∧ (-Hi ≤ coP x y i ∧ coP x y i ≤ Hi) := fun i hi => by
      match i, hi with
      | 0, _ => exact ⟨ok.ex, ok.ex2, ok.ox, hx⟩
      | 1, _ => exact ⟨ok.ey, ok.ey2, ok.oy, hy⟩
    refine ⟨2, rfl, by decide, by decide, for_range (n := 2) (fun i σ H3 => ∃ (y3 y4 y5 y6 : Option V) (g : Int), σ = [some (.ref t), some (.ref b), some (.int g), y3, y4, y5, y6] ∧ H3 = H ∧ g = ((List.range i).map fun j => awayL (loB B j) (hiB B j) (coP x y j) * awayL (loB B j) (hiB B j) (coP x y j)).sum) ?_ ?_ ?_⟩
    · exact ⟨none, none, none, none, 0, rfl, rfl, rfl⟩
    · rintro i σ H3 hi ⟨y3, y4, y5, y6, g, rfl, rfl, hg⟩
      have z3 : ((0 : Int) + ((i : Nat) : Int)) = (i : Int) := by omega
      have z5 : ((0 : Int) + ((i : Nat) : Int)) + 2 = ((i + 2 : Nat) : Int) := by omega
      obtain ⟨k1, k2, k3, k4⟩ := okl i hi
      have kr := away_rng k1 k2 k3 k4
      -- behind both tests
      have fin : ∀ a : Int, a = awayL (loB B i) (hiB B i) (coP x y i) → (0 ≤ a ∧ a ≤ 20000000000000000000000000000000) ∧ g + a * a = ((List.range (i + 1)).map fun j => awayL (loB B j) (hiB B j) (coP x y j) * awayL (loB B j) (hiB B j) (coP x y j)).sum := fun a ea => by
        refine ⟨by rw [ea]; exact kr, ?_⟩
        rw [List.range_succ, List.map_append, List.sum_append, ← hg, ea]
        simp
      refine ⟨_, rfl, _, rfl, b, _, _, _, rfl, rfl, SqT.of hB, at_of z3 (box_lo B hi), _, rfl, _, rfl, _, _, rfl, rfl, b, _, _, _, rfl, rfl, SqT.of hB, at_of z5 (box_hi B hi), _, _, rfl, ?_⟩
      refine ⟨_, rfl, _, rfl, ?_⟩
      rw [endV_non]
      cases hl : loB B i with
      | none =>
        rw [hl] at fin
        refine iteF ?_
        refine iteF ?_
        refine ⟨_, rfl, _, rfl, ?_⟩
        rw [endV_non]
        cases hh : hiB B i with
        | none =>
          rw [hh] at fin
          refine iteF ?_
          refine iteF ?_
          obtain ⟨f1, f2⟩ := fin 0 rfl
          exact ⟨_, rfl, _, rfl, _, rfl, _, _, rfl, rfl, cmul_w (by omega) (by omega), _, _, rfl, rfl, _, _, _, _, _, rfl, rfl, f2⟩
        | some u =>
          rw [hh] at fin
          refine iteT ?_
          refine ⟨_, rfl, _, rfl, t, _, _, _, rfl, rfl, SqT.of hT, at_of z3 (pt_co x y hi), _, rfl, _, _, rfl, rfl, _, rfl, ite2 (fun c => ?_) (fun c => ?_)⟩
          · have c' := of_decide_eq_true c
            obtain ⟨f1, f2⟩ := fin (coP x y i - u) (by show _ = (if u < coP x y i then coP x y i - u else _); rw [if_pos c'])
            refine ⟨_, rfl, _, rfl, t, _, _, _, rfl, rfl, SqT.of hT, at_of z3 (pt_co x y hi), _, rfl, _, _, rfl, rfl, ?_⟩
            exact ⟨_, rfl, _, rfl, _, rfl, _, _, rfl, rfl, cmul_w (by omega) (by omega), _, _, rfl, rfl, _, _, _, _, _, rfl, rfl, f2⟩
          · have c' : ¬ u < coP x y i := fun z => c (decide_eq_true z)
            obtain ⟨f1, f2⟩ := fin 0 (by show _ = (if u < coP x y i then coP x y i - u else _); rw [if_neg c'])
            exact ⟨_, rfl, _, rfl, _, rfl, _, _, rfl, rfl, cmul_w (by omega) (by omega), _, _, rfl, rfl, _, _, _, _, _, rfl, rfl, f2⟩
      | some l =>
        rw [hl] at fin k3
        refine iteT ?_
        refine ⟨_, rfl, _, rfl, t, _, _, _, rfl, rfl, SqT.of hT, at_of z3 (pt_co x y hi), _, rfl, _, _, rfl, rfl, _, rfl, ite2 (fun c => ?_) (fun c => ?_)⟩
        · have c' := of_decide_eq_true c
          refine ⟨_, rfl, _, rfl, _, rfl, t, _, _, _, rfl, rfl, SqT.of hT, at_of z3 (pt_co x y hi), _, _, rfl, rfl, ?_⟩
          refine ⟨_, rfl, _, rfl, ?_⟩
          rw [endV_non]
          cases hh : hiB B i with
          | none =>
            rw [hh] at fin
            refine iteF ?_
            refine iteF ?_
            obtain ⟨f1, f2⟩ := fin (l - coP x y i) (by show _ = (if coP x y i < l then l - coP x y i else 0); rw [if_pos c'])
            exact ⟨_, rfl, _, rfl, _, rfl, _, _, rfl, rfl, cmul_w (by omega) (by omega), _, _, rfl, rfl, _, _, _, _, _, rfl, rfl, f2⟩
          | some u =>
            rw [hh] at fin k3
            have hu := k3 l u rfl rfl
            refine iteT ?_
            refine ⟨_, rfl, _, rfl, t, _, _, _, rfl, rfl, SqT.of hT, at_of z3 (pt_co x y hi), _, rfl, _, _, rfl, rfl, _, rfl, ite2 (fun c2 => ?_) (fun c2 => ?_)⟩
            · have c2' := of_decide_eq_true c2
              exact absurd c2' (by omega)
            · obtain ⟨f1, f2⟩ := fin (l - coP x y i) (by show _ = (if u < coP x y i then coP x y i - u else if coP x y i < l then l - coP x y i else 0); rw [if_neg (by omega), if_pos c'])
              exact ⟨_, rfl, _, rfl, _, rfl, _, _, rfl, rfl, cmul_w (by omega) (by omega), _, _, rfl, rfl, _, _, _, _, _, rfl, rfl, f2⟩
        · have c' : ¬ coP x y i < l := fun z => c (decide_eq_true z)
          refine ⟨_, rfl, _, rfl, ?_⟩
          rw [endV_non]
          cases hh : hiB B i with
          | none =>
            rw [hh] at fin
            refine iteF ?_
            refine iteF ?_
            obtain ⟨f1, f2⟩ := fin 0 (by show _ = (if coP x y i < l then l - coP x y i else 0); rw [if_neg c'])
            exact ⟨_, rfl, _, rfl, _, rfl, _, _, rfl, rfl, cmul_w (by omega) (by omega), _, _, rfl, rfl, _, _, _, _, _, rfl, rfl, f2⟩
          | some u =>
            rw [hh] at fin
            refine iteT ?_
            refine ⟨_, rfl, _, rfl, t, _, _, _, rfl, rfl, SqT.of hT, at_of z3 (pt_co x y hi), _, rfl, _, _, rfl, rfl, _, rfl, ite2 (fun c2 => ?_) (fun c2 => ?_)⟩
            · have c2' := of_decide_eq_true c2
              obtain ⟨f1, f2⟩ := fin (coP x y i - u) (by show _ = (if u < coP x y i then coP x y i - u else _); rw [if_pos c2'])
              refine ⟨_, rfl, _, rfl, t, _, _, _, rfl, rfl, SqT.of hT, at_of z3 (pt_co x y hi), _, rfl, _, _, rfl, rfl, ?_⟩
              exact ⟨_, rfl, _, rfl, _, rfl, _, _, rfl, rfl, cmul_w (by omega) (by omega), _, _, rfl, rfl, _, _, _, _, _, rfl, rfl, f2⟩
            · have c2' : ¬ u < coP x y i := fun z => c2 (decide_eq_true z)
              obtain ⟨f1, f2⟩ := fin 0 (by show _ = (if u < coP x y i then coP x y i - u else if coP x y i < l then l - coP x y i else 0); rw [if_neg c2', if_neg c'])
              exact ⟨_, rfl, _, rfl, _, rfl, _, _, rfl, rfl, cmul_w (by omega) (by omega), _, _, rfl, rfl, _, _, _, _, _, rfl, rfl, f2⟩
    · rintro σ H3 ⟨y3, y4, y5, y6, g, rfl, rfl, hg⟩
      have e : g = gapM B x y := by
        rw [hg]
        show awayL B.x B.x2 x * awayL B.x B.x2 x + (awayL B.y B.y2 y * awayL B.y B.y2 y + 0) = gapM B x y
        rw [away_over ok.ox, away_over ok.oy, Int.add_zero]
        rfl
      rw [← e] at q
      exact ⟨_, rfl, q⟩
/-! ### _law_far -/
theorem scFar : FnScope ["_law_spot", "_law_second"] ["_law_spot", "_law_second"] (defScope s_law_far) := ⟨rfl, rfl, rfl, by decide +kernel, rfl, by decide +kernel, by decide +kernel⟩
def Sm (x : Int) : Prop := -Hi ≤ x ∧ x ≤ Hi
def spFar : Sp := fun vs H Q _ => ∃ (t u : Addr) (a b c d : Int), vs = [.ref t, .ref u] ∧ XY H t a b ∧ XY H u c d ∧ (Sm a ∧ Sm b ∧ Sm c ∧ Sm d) ∧ Q (.int (farM a b c d)) H
theorem sm_sub {a c : Int} (h : Sm a) (h' : Sm c) : -100000000000000000000000000000000 ≤ a - c ∧ a - c ≤ 100000000000000000000000000000000 := by
  have h1 : -10000000000000000000000000000000 ≤ a ∧ a ≤ 10000000000000000000000000000000 := h
  have h2 : -10000000000000000000000000000000 ≤ c ∧ c ≤ 10000000000000000000000000000000 := h'
  omega
theorem ok_far {f : Addr} {fd : FuncData} (F : FnP K "_law_far" s_law_far f fd) : FnOk P w K mg base CX0 1 f fd ["_law_spot", "_law_second"] spFar := by
  refine F.ok scFar (fun vs H Q E h => ?_) (fun cdv A outer s H vs Q E hr h => ?_)
  · obtain ⟨_, _, _, _, _, _, rfl, _⟩ := h
    rfl
  · obtain ⟨t, u, a, b, c, d, rfl, h1, h2, ⟨ka, kb, kc, kd⟩, q⟩ := h
    refine ⟨_, pss_one (ps_ret (pe_op op_add
      (pe_op op_mulW (pe_op op_sub (pe_ix ix_tup (pv 0) pe_int (fun _ _ => rfl)) (pe_ix ix_tup (pv 1) pe_int (fun _ _ => rfl))) (pe_op op_sub (pe_ix ix_tup (pv 0) pe_int (fun _ _ => rfl)) (pe_ix ix_tup (pv 1) pe_int (fun _ _ => rfl))))
      (pe_op op_mulW (pe_op op_sub (pe_ix ix_tup (pv 0) pe_int (fun _ _ => rfl)) (pe_ix ix_tup (pv 1) pe_int (fun _ _ => rfl))) (pe_op op_sub (pe_ix ix_tup (pv 0) pe_int (fun _ _ => rfl)) (pe_ix ix_tup (pv 1) pe_int (fun _ _ => rfl)))))), ?_⟩
    refine ⟨_, rfl, t, _, 0, .int a, rfl, rfl, SqT.of h1, atI_nat (j := 0) rfl, _, rfl, u, _, 0, .int c, rfl, rfl, SqT.of h2, atI_nat (j := 0) rfl, _, _, rfl, rfl, ?_⟩
    refine ⟨_, rfl, t, _, 0, .int a, rfl, rfl, SqT.of h1, atI_nat (j := 0) rfl, _, rfl, u, _, 0, .int c, rfl, rfl, SqT.of h2, atI_nat (j := 0) rfl, _, _, rfl, rfl, _, _, rfl, rfl, cmul_w (sm_sub ka kc) (sm_sub ka kc), ?_⟩
    refine ⟨_, rfl, t, _, 1, .int b, rfl, rfl, SqT.of h1, atI_nat (j := 1) rfl, _, rfl, u, _, 1, .int d, rfl, rfl, SqT.of h2, atI_nat (j := 1) rfl, _, _, rfl, rfl, ?_⟩
    refine ⟨_, rfl, t, _, 1, .int b, rfl, rfl, SqT.of h1, atI_nat (j := 1) rfl, _, rfl, u, _, 1, .int d, rfl, rfl, SqT.of h2, atI_nat (j := 1) rfl, _, _, rfl, rfl, _, _, rfl, rfl, cmul_w (sm_sub kb kd) (sm_sub kb kd), ?_⟩
    exact ⟨_, _, rfl, rfl, q⟩
end
end Q2

namespace Q2
open PySem PySem.Spec PyProof.Rows L2
def absI (i : Int) : Int := if i < 0 then -i else i
theorem abs_le {i m : Int} (h : -m ≤ i ∧ i ≤ m) : decide (absI i ≤ m) = true := decide_eq_true (by unfold absI; split <;> omega)
section
variable {P : Program} {w : World} {K : PySem.W.Frag} {mg : Str → Option Value} {base : Heap}
/-! ### is_integer, is_integer_up_to -/
theorem scIsInt : FnScope ["value"] ["value"] (defScope s_is_integer) := ⟨rfl, rfl, rfl, by decide +kernel, rfl, by decide +kernel, by decide +kernel⟩
def spIsInt : Sp := fun vs H Q _ => ∃ i : Int, vs = [.int i] ∧ Q (.bl true) H
theorem ok_isInt {f : Addr} {fd : FuncData} (F : FnP K "is_integer" s_is_integer f fd) (B : Bt mg) : FnOk P w K mg base CX0 1 f fd ["value"] spIsInt := by
  refine F.ok scIsInt (fun vs H Q E h => ?_) (fun cdv A outer s H vs Q E hr h => ?_)
  · obtain ⟨a, rfl, _⟩ := h
    rfl
  · obtain ⟨i, rfl, q⟩ := h
    refine ⟨_, pss_one (ps_ret (pe_and (pe_callB call_isi (by rfl) B.isi (by decide +kernel) (pa_cons (pv 0) (pa_cons (pe_bltn (v := .ty "int") (by rfl) B.int (by decide +kernel) rfl) pa_nil)))
      (pe_one (pe_not (pe_callB call_isi (by rfl) B.isi (by decide +kernel) (pa_cons (pv 0) (pa_cons (pe_bltn (v := .ty "bool") (by rfl) B.bool (by decide +kernel) rfl) pa_nil))))))), ?_⟩
    refine ⟨_, rfl, _, _, _, _, true, rfl, .ty "int", .base (.int i), kit_ty (by decide +kernel), _, rfl, iteT ?_⟩
    exact ⟨_, rfl, _, _, _, _, false, rfl, .ty "bool", .base (.int i), kit_ty (by decide +kernel), _, rfl, q⟩
theorem scCoord : FnScope ["value"] ["value"] (defScope s_is_coordinate) := ⟨rfl, rfl, rfl, by decide +kernel, rfl, by decide +kernel, by decide +kernel⟩
def spCoord : Sp := fun vs H Q _ => ∃ i : Int, vs = [.int i] ∧ Q (.bl (decide (-Lo ≤ i ∧ i ≤ Lo))) H
theorem ok_coord {f fI : Addr} {fd fdI : FuncData} {tc : Tok} (F : FnP K "is_coordinate" s_is_coordinate f fd) (B : Bt mg) (FI : FnP K "is_integer" s_is_integer fI fdI) (bI : Binds K fdI ["value"] []) (gI : mg "is_integer" = some (.ref fI))
    (gC : mg "FARTHEST_COORDINATE" = some (.int Lo tc)) : FnOk P w K mg base CX0 2 f fd ["value"] spCoord := by
  have GI : FnOk P w K mg base CX0 1 fI fdI ["value"] spIsInt := ok_isInt FI B
  refine F.ok scCoord (fun vs H Q E h => ?_) (fun cdv A outer s H vs Q E hr h => ?_)
  · obtain ⟨a, rfl, _⟩ := h
    rfl
  · obtain ⟨i, rfl, q⟩ := h
    refine ⟨_, pss_one (ps_ret (pe_and (pe_call GI hr (by rfl) gI FI.kp bI .nil pass0 (pa_cons (pv 0) pa_nil)) (pe_one (pe_chain op_le op_le (pe_un un_neg (pe_glob (v := .int Lo) (by rfl) gC ⟨_, rfl⟩)) (pv 0) (pe_glob (v := .int Lo) (by rfl) gC ⟨_, rfl⟩))))), ?_⟩
    refine ⟨_, rfl, i, rfl, _, rfl, iteT ?_⟩
    refine ⟨_, rfl, _, rfl, _, _, rfl, rfl, _, rfl, ?_⟩
    by_cases h1 : -Lo ≤ i
    · rw [decide_eq_true h1]
      refine iteT ⟨_, _, rfl, rfl, ?_⟩
      have e : decide (-Lo ≤ i ∧ i ≤ Lo) = decide (i ≤ Lo) := decide_eq_decide.mpr ⟨fun h => h.2, fun h => ⟨h1, h⟩⟩
      rw [e] at q
      exact q
    · rw [decide_eq_false h1]
      have e : decide (-Lo ≤ i ∧ i ≤ Lo) = false := decide_eq_false fun h => h1 h.1
      rw [e] at q
      exact iteF q
/-! ### is_point, check_point -/
theorem scIsPt : FnScope ["value"] ["value"] (defScope s_is_point) := ⟨rfl, rfl, rfl, by decide +kernel, rfl, by decide +kernel, by decide +kernel⟩
def PtIn (H : Hp) (t : Addr) (x y : Int) : Prop := XY H t x y ∧ (-Lo ≤ x ∧ x ≤ Lo) ∧ (-Lo ≤ y ∧ y ≤ Lo)
theorem PtIn.same {H H' : Hp} {t : Addr} {x y : Int} (e : Same H H') (h : PtIn H t x y) : PtIn H' t x y := ⟨e _ _ h.1, h.2⟩
def spIsPt : Sp := fun vs H Q _ => ∃ (t : Addr) (x y : Int), vs = [.ref t] ∧ PtIn H t x y ∧ ∀ H', Same H H' → Q (.bl true) H'
theorem all_true (n : Nat) : (List.replicate n true).all id = true := by
  induction n with
  | zero => rfl
  | succ n ih => rw [List.replicate_succ, List.all_cons, ih]; rfl
theorem ok_isPt {f fU : Addr} {fd fdU : FuncData} (F : FnP K "is_point" s_is_point f fd) (B : Bt mg) (GU : FnOk P w K mg base CX0 2 fU fdU ["value"] spCoord) (kU : PySem.W.keepIn K (.ref fU) = true) (bU : Binds K fdU ["value"] []) (gU : mg "is_coordinate" = some (.ref fU)) : FnOk P w K mg base CX0 3 f fd ["value"] spIsPt := by
  refine F.ok scIsPt (fun vs H Q E h => ?_) (fun cdv A outer s H vs Q E hr h => ?_)
  · obtain ⟨a, b, c, rfl, _⟩ := h
    rfl
  · obtain ⟨t, x, y, rfl, ⟨hT, hx, hy⟩, q⟩ := h
    refine ⟨_, pss_cons (ps_if (PW.pt (pw_or (pt_not (pt_val (pe_callB call_isi (by rfl) B.isi (by decide +kernel) (pa_cons (pv 0) (pa_cons (pe_bltn (v := .ty "tuple") (by rfl) B.tuple (by decide +kernel) rfl) pa_nil))))) (pw_or1 (pt_cmpR op_ne (pe_callB call_len_seq (by rfl) B.len PySem.boot_len (pa_cons (pv 0) pa_nil)) pe_int (nomark _))))) (pss_one (ps_ret pe_bl)) pss_nil)
      (pss_one (ps_ret (pe_and (pe_call GU hr (by rfl) gU kU bU .nil pass0 (pa_cons (pe_ix ix_tup (pv 0) pe_int (fun _ _ => rfl)) pa_nil)) (pe_one (pe_call GU hr (by rfl) gU kU bU .nil pass0 (pa_cons (pe_ix ix_tup (pv 0) pe_int (fun _ _ => rfl)) pa_nil)))))), ?_⟩
    refine ⟨_, rfl, _, _, _, _, true, rfl, .ty "tuple", .base (.tup hT), kit_ty (by decide +kernel), _, rfl, iteF ?_⟩
    refine ⟨_, rfl, t, _, rfl, .inr (SqT.of hT), rfl, _, rfl, iteF ?_⟩
    refine ⟨_, rfl, t, _, 0, .int x, rfl, rfl, SqT.of hT, atI_nat (j := 0) rfl, x, rfl, ?_⟩
    rw [decide_eq_true hx]
    refine ⟨_, rfl, iteT ?_⟩
    refine ⟨_, rfl, t, _, 1, .int y, rfl, rfl, SqT.of hT, atI_nat (j := 1) rfl, y, rfl, ?_⟩
    rw [decide_eq_true hy]
    exact q H (fun _ _ h => h)
theorem scChkPt : FnScope ["value"] ["value"] (defScope s_check_point) := ⟨rfl, rfl, rfl, by decide +kernel, rfl, by decide +kernel, by decide +kernel⟩
def spChkPt : Sp := fun vs H Q _ => ∃ (t : Addr) (x y : Int), vs = [.ref t] ∧ PtIn H t x y ∧ ∀ H', Same H H' → Q .non H'
theorem ok_chkPt {f fI : Addr} {fd fdI : FuncData} (F : FnP K "check_point" s_check_point f fd) (GI : FnOk P w K mg base CX0 3 fI fdI ["value"] spIsPt) (kI : PySem.W.keepIn K (.ref fI) = true) (bI : Binds K fdI ["value"] []) (gI : mg "is_point" = some (.ref fI)) : FnOk P w K mg base CX0 4 f fd ["value"] spChkPt := by
  refine F.ok scChkPt (fun vs H Q E h => ?_) (fun cdv A outer s H vs Q E hr h => ?_)
  · obtain ⟨a, b, c, rfl, _⟩ := h
    rfl
  · obtain ⟨t, x, y, rfl, hT, q⟩ := h
    refine ⟨_, pss_one (ps_if (pt_not (pt_val (pe_call GI hr (by rfl) gI kI bI .nil pass0 (pa_cons (pv 0) pa_nil)))) pss_never pss_nil), ?_⟩
    exact ⟨_, rfl, t, x, y, rfl, hT, fun H' e => ⟨_, rfl, iteF (q H' e)⟩⟩
/-! ### is_end, are_in_order, is_rectangle, check_rectangle -/
theorem scIsEnd : FnScope ["value"] ["value"] (defScope s_is_end) := ⟨rfl, rfl, rfl, by decide +kernel, rfl, by decide +kernel, by decide +kernel⟩
def spIsEnd : Sp := fun vs H Q _ => ∃ (o : Option Int), vs = [endV o] ∧ EndOk o ∧ Q (.bl true) H
theorem ok_isEnd {f fI : Addr} {fd fdI : FuncData} {tc : Tok} (F : FnP K "is_end" s_is_end f fd) (B : Bt mg) (FI : FnP K "is_integer" s_is_integer fI fdI) (bI : Binds K fdI ["value"] []) (gI : mg "is_integer" = some (.ref fI))
    (gC : mg "FARTHEST_END" = some (.int Hi tc)) : FnOk P w K mg base CX0 3 f fd ["value"] spIsEnd := by
  have GI : FnOk P w K mg base CX0 1 fI fdI ["value"] spIsInt := ok_isInt FI B
  refine F.ok scIsEnd (fun vs H Q E h => ?_) (fun cdv A outer s H vs Q E hr h => ?_)
  · obtain ⟨a, rfl, _⟩ := h
    rfl
  · obtain ⟨o, rfl, ho, q⟩ := h
    refine ⟨_, pss_one (ps_ret (pe_or (pe_cmp (pc_isN (pv 0))) (pe_one (pe_and (pe_call GI (hr.mono (by decide)) (by rfl) gI FI.kp bI .nil pass0 (pa_cons (pv 0) pa_nil)) (pe_one (pe_chain op_le op_le (pe_un un_neg (pe_glob (v := .int Hi) (by rfl) gC ⟨_, rfl⟩)) (pv 0) (pe_glob (v := .int Hi) (by rfl) gC ⟨_, rfl⟩))))))), ?_⟩
    cases o with
    | none => exact ⟨_, rfl, _, rfl, iteT q⟩
    | some i =>
      refine ⟨_, rfl, _, rfl, iteF ?_⟩
      refine ⟨_, rfl, i, rfl, _, rfl, iteT ?_⟩
      refine ⟨_, rfl, _, rfl, _, _, rfl, rfl, _, rfl, ?_⟩
      have hb := ho i rfl
      rw [decide_eq_true hb.1]
      refine iteT ⟨_, _, rfl, rfl, ?_⟩
      show Q (.bl (decide (i ≤ Hi))) H
      rw [decide_eq_true hb.2]
      exact q
theorem scOrd : FnScope ["low", "high"] ["low", "high"] (defScope s_are_in_order) := ⟨rfl, rfl, rfl, by decide +kernel, rfl, by decide +kernel, by decide +kernel⟩
def spOrd : Sp := fun vs H Q _ => ∃ (a b : Option Int), vs = [endV a, endV b] ∧ Ord2 a b ∧ Q (.bl true) H
theorem ok_ord {f : Addr} {fd : FuncData} (F : FnP K "are_in_order" s_are_in_order f fd) : FnOk P w K mg base CX0 1 f fd ["low", "high"] spOrd := by
  refine F.ok scOrd (fun vs H Q E h => ?_) (fun cdv A outer s H vs Q E hr h => ?_)
  · obtain ⟨a, b, rfl, _⟩ := h
    rfl
  · obtain ⟨a, b, rfl, ho, q⟩ := h
    refine ⟨_, pss_one (ps_ret (pe_or (pe_cmp (pc_isN (pv 0))) (pe_or (pe_cmp (pc_isN (pv 1))) (pe_one (pe_cmpR op_le (pv 0) (pv 1) (nomark _)))))), ?_⟩
    cases a with
    | none => exact ⟨_, rfl, _, rfl, iteT q⟩
    | some i =>
      refine ⟨_, rfl, _, rfl, iteF ?_⟩
      cases b with
      | none => exact ⟨_, rfl, _, rfl, iteT q⟩
      | some j =>
        refine ⟨_, rfl, _, rfl, iteF ?_⟩
        refine ⟨_, rfl, _, rfl, _, _, rfl, rfl, ?_⟩
        have e : decide (i ≤ j) = true := decide_eq_true (ho i j rfl rfl)
        show Q (.bl (decide (i ≤ j))) H
        rw [e]
        exact q
theorem scIsRc : FnScope ["value", "x", "y", "x2", "y2"] ["value"] (defScope s_is_rectangle) := ⟨rfl, rfl, rfl, by decide +kernel, rfl, by decide +kernel, by decide +kernel⟩
def spIsRc : Sp := fun vs H Q _ => ∃ (b : Addr) (B : Bx), vs = [.ref b] ∧ BoxAt H b B ∧ BoxOk B ∧ ∀ H', Same H H' → Q (.bl true) H'
theorem ok_isRc {f fE fO : Addr} {fd fdE fdO : FuncData} (F : FnP K "is_rectangle" s_is_rectangle f fd) (B : Bt mg) (GE : FnOk P w K mg base CX0 3 fE fdE ["value"] spIsEnd) (kE : PySem.W.keepIn K (.ref fE) = true) (bE : Binds K fdE ["value"] []) (gE : mg "is_end" = some (.ref fE))
    (FO : FnP K "are_in_order" s_are_in_order fO fdO) (bO : Binds K fdO ["low", "high"] []) (gO : mg "are_in_order" = some (.ref fO)) : FnOk P w K mg base CX0 4 f fd ["value"] spIsRc := by
  have GO : FnOk P w K mg base CX0 1 fO fdO ["low", "high"] spOrd := ok_ord FO
  refine F.ok scIsRc (fun vs H Q E h => ?_) (fun cdv A outer s H vs Q E hr h => ?_)
  · obtain ⟨a, b, rfl, _⟩ := h
    rfl
  · obtain ⟨t, C, rfl, hT, ok, q⟩ := h
    refine ⟨_, pss_cons (ps_if (PW.pt (pw_or (pt_not (pt_val (pe_callB call_isi (by rfl) B.isi (by decide +kernel) (pa_cons (pv 0) (pa_cons (pe_bltn (v := .ty "tuple") (by rfl) B.tuple (by decide +kernel) rfl) pa_nil))))) (pw_or1 (pt_cmpR op_ne (pe_callB call_len_seq (by rfl) B.len PySem.boot_len (pa_cons (pv 0) pa_nil)) pe_int (nomark _))))) (pss_one (ps_ret pe_bl)) pss_nil)
      (pss_cons (ps_asg (pv 0) (pg_tup rfl (pgs_cons (pg_name (i := 1) scIsRc.nd rfl (.inl rfl)) (pgs_cons (pg_name (i := 2) scIsRc.nd rfl (.inl rfl)) (pgs_cons (pg_name (i := 3) scIsRc.nd rfl (.inl rfl)) (pgs_cons (pg_name (i := 4) scIsRc.nd rfl (.inl rfl)) pgs_nil))))))
      (pss_cons (ps_if (pt_not (PW.pt (pw_and (pt_val (pe_call GE hr (by rfl) gE kE bE .nil pass0 (pa_cons (pv 1) pa_nil))) (pw_and (pt_val (pe_call GE hr (by rfl) gE kE bE .nil pass0 (pa_cons (pv 2) pa_nil))) (pw_and (pt_val (pe_call GE hr (by rfl) gE kE bE .nil pass0 (pa_cons (pv 3) pa_nil))) (pw_and1 (pt_val (pe_call GE hr (by rfl) gE kE bE .nil pass0 (pa_cons (pv 4) pa_nil))))))))) (pss_one (ps_ret pe_bl)) pss_nil)
      (pss_one (ps_ret (pe_and (pe_call GO (hr.mono (by decide)) (by rfl) gO FO.kp bO .nil pass0 (pa_cons (pv 1) (pa_cons (pv 3) pa_nil))) (pe_one (pe_call GO (hr.mono (by decide)) (by rfl) gO FO.kp bO .nil pass0 (pa_cons (pv 2) (pa_cons (pv 4) pa_nil))))))))), ?_⟩
    refine ⟨_, rfl, _, _, _, _, true, rfl, .ty "tuple", .base (.tup hT), kit_ty (by decide +kernel), _, rfl, iteF ?_⟩
    refine ⟨_, rfl, t, _, rfl, .inr (SqT.of hT), rfl, _, rfl, iteF ?_⟩
    refine ⟨_, rfl, t, _, rfl, SqT.of hT, rfl, _, _, rfl, _, _, rfl, _, _, rfl, _, _, rfl, rfl, ?_⟩
    refine ⟨_, rfl, C.x, rfl, ok.ex, _, rfl, iteT ?_⟩
    refine ⟨_, rfl, C.y, rfl, ok.ey, _, rfl, iteT ?_⟩
    refine ⟨_, rfl, C.x2, rfl, ok.ex2, _, rfl, iteT ?_⟩
    refine ⟨_, rfl, C.y2, rfl, ok.ey2, _, rfl, iteF ?_⟩
    refine ⟨_, rfl, _, rfl, C.x, C.x2, rfl, ok.ox, _, rfl, iteT ?_⟩
    exact ⟨_, rfl, _, rfl, C.y, C.y2, rfl, ok.oy, q H fun _ _ h => h⟩
theorem scChkRc : FnScope ["value"] ["value"] (defScope s_check_rectangle) := ⟨rfl, rfl, rfl, by decide +kernel, rfl, by decide +kernel, by decide +kernel⟩
def spChkRc : Sp := fun vs H Q _ => ∃ (b : Addr) (B : Bx), vs = [.ref b] ∧ BoxAt H b B ∧ BoxOk B ∧ ∀ H', Same H H' → Q .non H'
theorem ok_chkRc {f fI : Addr} {fd fdI : FuncData} (F : FnP K "check_rectangle" s_check_rectangle f fd) (GI : FnOk P w K mg base CX0 4 fI fdI ["value"] spIsRc) (kI : PySem.W.keepIn K (.ref fI) = true) (bI : Binds K fdI ["value"] []) (gI : mg "is_rectangle" = some (.ref fI)) : FnOk P w K mg base CX0 5 f fd ["value"] spChkRc := by
  refine F.ok scChkRc (fun vs H Q E h => ?_) (fun cdv A outer s H vs Q E hr h => ?_)
  · obtain ⟨a, b, rfl, _⟩ := h
    rfl
  · obtain ⟨t, C, rfl, hT, ok, q⟩ := h
    refine ⟨_, pss_one (ps_if (pt_not (pt_val (pe_call GI hr (by rfl) gI kI bI .nil pass0 (pa_cons (pv 0) pa_nil)))) pss_never pss_nil), ?_⟩
    exact ⟨_, rfl, t, C, rfl, hT, ok, fun H' e => ⟨_, rfl, iteF (q H' e)⟩⟩
end
end Q2

namespace Q2
open PySem PySem.Spec PyProof.Rows L2
/-! ### two keywords, the other way round -/
def sw {α : Type} : List α → List α → List α
  | [], [a, b] => [b, a]
  | _, _ => []
theorem sw_rel {vs zs : List V} {us ws : List Value} (h1 : Vals vs us) (h2 : Vals zs ws) : Vals (sw vs zs) (sw us ws) := by
  cases h1 with
  | nil =>
    cases h2 with
    | nil => exact .nil
    | cons a r =>
      cases r with
      | nil => exact .nil
      | cons b r2 =>
        cases r2 with
        | nil => exact .cons b (.cons a .nil)
        | cons c r3 => exact .nil
  | cons a r => exact .nil
theorem sw_two {us ws : List Value} (h : (sw us ws).length = 2) : ∃ a b, us = [] ∧ ws = [a, b] := by
  unfold sw at h
  split at h
  · exact ⟨_, _, rfl, rfl⟩
  · cases h
section
variable {P : Program} {w : World} {K : PySem.W.Frag} {mg : Str → Option Value} {base : Heap}
theorem kb_of {x : Str} {st : Stmt} {f : Addr} {fd : FuncData} {ps ks : List Str} (F : FnP K x st f fd) (hp : ps.length = 2)
    (h : ∀ (kV doc pm : Value) (an : Option Addr) (cdv ct a b : Value), bindArgs (PySem.W.fnOf x x (defArgs st) (defBody st) (defScope st) .none kV doc pm an cdv ct) ⟨[], ks.zip [a, b]⟩ = pure (ps.zip [b, a])) : KBinds K fd ps ks sw sw := by
  obtain ⟨oc, od, kV, doc, pm, an, cdv, ct, osl, rfl, lk, hcd⟩ := F.ex
  refine ⟨fun s us ws _ hl => ?_, sw_rel⟩
  rw [hp] at hl
  obtain ⟨a, b, rfl, rfl⟩ := sw_two hl
  exact .of_eq (h _ _ _ _ _ _ _ _)
/-! ### overshoot, square_gap, lies_in -/
theorem scOver : FnScope ["coordinate", "low", "high"] ["coordinate", "low", "high"] (defScope s_overshoot) := ⟨rfl, rfl, rfl, by decide +kernel, rfl, by decide +kernel, by decide +kernel⟩
def spOver : Sp := fun vs H Q _ => ∃ (c : Int) (lo hi : Option Int), vs = [.int c, endV lo, endV hi] ∧ Q (.int (overM lo hi c)) H
theorem ok_over {f : Addr} {fd : FuncData} (F : FnP K "overshoot" s_overshoot f fd) : FnOk P w K mg base CX0 1 f fd ["coordinate", "low", "high"] spOver := by
  refine F.ok scOver (fun vs H Q E h => ?_) (fun cdv A outer s H vs Q E hr h => ?_)
  · obtain ⟨a, b, c, rfl, _⟩ := h
    rfl
  · obtain ⟨c, lo, hi, rfl, q⟩ := h
    refine ⟨_, pss_cons (ps_if (PW.pt (pw_and (pt_cmp (pc_notN (pv 1))) (pw_and1 (pt_cmpR op_lt (pv 0) (pv 1) (nomark _))))) (pss_one (ps_ret (pe_op op_sub (pv 1) (pv 0)))) pss_nil)
      (pss_cons (ps_if (PW.pt (pw_and (pt_cmp (pc_notN (pv 2))) (pw_and1 (pt_cmpR op_gt (pv 0) (pv 2) (nomark _))))) (pss_one (ps_ret (pe_op op_sub (pv 0) (pv 2)))) pss_nil)
      (pss_one (ps_ret pe_int))), ?_⟩
    have second : ∀ (r : Int), overM lo hi c = r → (match hi with | some u => if u < c then c - u else 0 | none => 0) = r → ∃ x_1, [some (V.int c), some (endV lo), some (endV hi)][2]? = some (some x_1) ∧ (∃ c_1, V.bl (!decide (x_1 = V.non)) = V.bl c_1 ∧ c_1 = hi.isSome) := fun r _ _ => ⟨_, rfl, _, rfl, endV_non⟩
    refine ⟨_, rfl, _, rfl, ?_⟩
    rw [endV_non]
    have tail : ∀ (h : (match hi with | some u => if u < c then c - u else 0 | none => 0) = overM lo hi c), tIfS (tAnd (tB (tNotN (tVar 2))) (tTest (tOp (rI0 fun i j => V.bl (decide (j < i))) (tVar 0) (tVar 2)))) (tRet (tOp (rI0 fun i j => V.int (i - j)) (tVar 0) (tVar 2))) tNext { nx := fun σ H1 => tRet (tC (V.int 0)) { nx := fun _ H' => Q .non H', rt := Q } σ H1, rt := Q } [some (V.int c), some (endV lo), some (endV hi)] H := fun h => by
      refine ⟨_, rfl, _, rfl, ?_⟩
      rw [endV_non]
      cases hi with
      | none =>
        refine iteF ?_
        refine iteF ?_
        show Q (.int 0) H
        rw [show (0 : Int) = overM lo none c from h]
        exact q
      | some u =>
        refine iteT ?_
        refine ⟨_, rfl, _, rfl, _, _, rfl, rfl, _, rfl, ite2 (fun d => ?_) (fun d => ?_)⟩
        · have d' := of_decide_eq_true d
          refine ⟨_, rfl, _, rfl, _, _, rfl, rfl, ?_⟩
          have e : c - u = overM lo (some u) c := by
            rw [← h]
            show _ = (if u < c then c - u else 0)
            rw [if_pos d']
          show Q (.int (c - u)) H
          rw [e]
          exact q
        · have d' : ¬ u < c := fun z => d (decide_eq_true z)
          have e : 0 = overM lo (some u) c := by
            rw [← h]
            show _ = (if u < c then c - u else 0)
            rw [if_neg d']
          show Q (.int 0) H
          rw [e]
          exact q
    cases lo with
    | none =>
      refine iteF ?_
      refine iteF ?_
      exact tail (by cases hi <;> rfl)
    | some l =>
      refine iteT ?_
      refine ⟨_, rfl, _, rfl, _, _, rfl, rfl, _, rfl, ite2 (fun d => ?_) (fun d => ?_)⟩
      · have d' := of_decide_eq_true d
        refine ⟨_, rfl, _, rfl, _, _, rfl, rfl, ?_⟩
        have e : l - c = overM (some l) hi c := by
          show _ = (if c < l then l - c else _)
          rw [if_pos d']
        show Q (.int (l - c)) H
        rw [e]
        exact q
      · have d' : ¬ c < l := fun z => d (decide_eq_true z)
        refine tail ?_
        show _ = (if c < l then l - c else _)
        rw [if_neg d']
        cases hi <;> rfl
theorem scSqGap : FnScope ["point", "rectangle", "x", "y", "x2", "y2"] ["point", "rectangle"] (defScope s_square_gap) := ⟨rfl, rfl, rfl, by decide +kernel, rfl, by decide +kernel, by decide +kernel⟩
def spSqGap : Sp := fun vs H Q _ => ∃ (t b : Addr) (B : Bx) (x y : Int), vs = [.ref t, .ref b] ∧ BoxAt H b B ∧ BoxOk B ∧ XY H t x y ∧ Sm x ∧ Sm y ∧ Q (.int (gapM B x y)) H
theorem ok_sqGap {f fO : Addr} {fd fdO : FuncData} (F : FnP K "square_gap" s_square_gap f fd) (FO : FnP K "overshoot" s_overshoot fO fdO) (bO : Binds K fdO ["coordinate", "low", "high"] []) (gO : mg "overshoot" = some (.ref fO)) : FnOk P w K mg base CX0 2 f fd ["point", "rectangle"] spSqGap := by
  have GO : FnOk P w K mg base CX0 1 fO fdO ["coordinate", "low", "high"] spOver := ok_over FO
  refine F.ok scSqGap (fun vs H Q E h => ?_) (fun cdv A outer s H vs Q E hr h => ?_)
  · obtain ⟨_, _, _, _, _, rfl, _⟩ := h
    rfl
  · obtain ⟨t, b, B, x, y, rfl, hB, ok, hT, hx, hy, q⟩ := h
    refine ⟨_, pss_cons (ps_asg (pv 1) (pg_tup rfl (pgs_cons (pg_name (i := 2) scSqGap.nd rfl (.inl rfl)) (pgs_cons (pg_name (i := 3) scSqGap.nd rfl (.inl rfl)) (pgs_cons (pg_name (i := 4) scSqGap.nd rfl (.inl rfl)) (pgs_cons (pg_name (i := 5) scSqGap.nd rfl (.inl rfl)) pgs_nil))))))
      (pss_one (ps_ret (pe_op op_add
        (pe_op op_powW (pe_call GO hr (by rfl) gO FO.kp bO .nil pass0 (pa_cons (pe_ix ix_tup (pv 0) pe_int (fun _ _ => rfl)) (pa_cons (pv 2) (pa_cons (pv 4) pa_nil)))) pe_int)
        (pe_op op_powW (pe_call GO hr (by rfl) gO FO.kp bO .nil pass0 (pa_cons (pe_ix ix_tup (pv 0) pe_int (fun _ _ => rfl)) (pa_cons (pv 3) (pa_cons (pv 5) pa_nil)))) pe_int)))), ?_⟩
    have r1 := over_rng ok.ex ok.ex2 hx
    have r2 := over_rng ok.ey ok.ey2 hy
    refine ⟨_, rfl, b, _, rfl, SqT.of hB, rfl, _, _, rfl, _, _, rfl, _, _, rfl, _, _, rfl, rfl, ?_⟩
    refine ⟨_, rfl, t, _, 0, .int x, rfl, rfl, SqT.of hT, atI_nat (j := 0) rfl, _, rfl, _, rfl, x, B.x, B.x2, rfl, _, _, rfl, rfl, cpow_w (by omega), ?_⟩
    refine ⟨_, rfl, t, _, 1, .int y, rfl, rfl, SqT.of hT, atI_nat (j := 1) rfl, _, rfl, _, rfl, y, B.y, B.y2, rfl, _, _, rfl, rfl, cpow_w (by omega), ?_⟩
    refine ⟨_, _, rfl, rfl, ?_⟩
    have e : overM B.x B.x2 x ^ (2 : Int).toNat + overM B.y B.y2 y ^ (2 : Int).toNat = gapM B x y := by
      rw [pow2, pow2]
      rfl
    show Q (.int (overM B.x B.x2 x ^ (2 : Int).toNat + overM B.y B.y2 y ^ (2 : Int).toNat)) H
    rw [e]
    exact q
theorem scLies : FnScope ["point", "rectangle"] ["point", "rectangle"] (defScope s_lies_in) := ⟨rfl, rfl, rfl, by decide +kernel, rfl, by decide +kernel, by decide +kernel⟩
def spLies : Sp := fun vs H Q _ => ∃ (t b : Addr) (B : Bx) (x y : Int), vs = [.ref t, .ref b] ∧ BoxAt H b B ∧ BoxOk B ∧ XY H t x y ∧ Sm x ∧ Sm y ∧ Q (.bl (insideM B x y)) H
theorem ok_lies {f fG : Addr} {fd fdG : FuncData} (F : FnP K "lies_in" s_lies_in f fd) (GG : FnOk P w K mg base CX0 2 fG fdG ["point", "rectangle"] spSqGap) (kG : PySem.W.keepIn K (.ref fG) = true) (bG : Binds K fdG ["point", "rectangle"] []) (gG : mg "square_gap" = some (.ref fG)) : FnOk P w K mg base CX0 3 f fd ["point", "rectangle"] spLies := by
  refine F.ok scLies (fun vs H Q E h => ?_) (fun cdv A outer s H vs Q E hr h => ?_)
  · obtain ⟨_, _, _, _, _, rfl, _⟩ := h
    rfl
  · obtain ⟨t, b, B, x, y, rfl, hB, ok, hT, hx, hy, q⟩ := h
    refine ⟨_, pss_one (ps_ret (pe_cmpR op_eq (pe_call GG hr (by rfl) gG kG bG .nil pass0 (pa_cons (pv 0) (pa_cons (pv 1) pa_nil))) pe_int (nomark _))), ?_⟩
    refine ⟨_, rfl, _, rfl, t, b, B, x, y, rfl, hB, ok, hT, hx, hy, rfl, ?_⟩
    have e : decide (V.int (gapM B x y) = V.int 0) = insideM B x y := by
      rw [← gap_inside]
      exact decide_eq_decide.mpr ⟨fun z => V.int.inj z, fun z => by rw [z]⟩
    show Q (.bl (decide (V.int (gapM B x y) = V.int 0))) H
    rw [e]
    exact q
/-! ### square_distance, distance -/
theorem scSqD : FnScope ["point", "other"] ["point", "other"] (defScope s_square_distance) := ⟨rfl, rfl, rfl, by decide +kernel, rfl, by decide +kernel, by decide +kernel⟩
theorem ok_sqD {f : Addr} {fd : FuncData} (F : FnP K "square_distance" s_square_distance f fd) : FnOk P w K mg base CX0 1 f fd ["point", "other"] spFar := by
  refine F.ok scSqD (fun vs H Q E h => ?_) (fun cdv A outer s H vs Q E hr h => ?_)
  · obtain ⟨_, _, _, _, _, _, rfl, _⟩ := h
    rfl
  · obtain ⟨t, u, a, b, c, d, rfl, h1, h2, ⟨ka, kb, kc, kd⟩, q⟩ := h
    refine ⟨_, pss_one (ps_ret (pe_op op_add
      (pe_op op_powW (pe_op op_sub (pe_ix ix_tup (pv 0) pe_int (fun _ _ => rfl)) (pe_ix ix_tup (pv 1) pe_int (fun _ _ => rfl))) pe_int)
      (pe_op op_powW (pe_op op_sub (pe_ix ix_tup (pv 0) pe_int (fun _ _ => rfl)) (pe_ix ix_tup (pv 1) pe_int (fun _ _ => rfl))) pe_int))), ?_⟩
    refine ⟨_, rfl, t, _, 0, .int a, rfl, rfl, SqT.of h1, atI_nat (j := 0) rfl, _, rfl, u, _, 0, .int c, rfl, rfl, SqT.of h2, atI_nat (j := 0) rfl, _, _, rfl, rfl, _, _, rfl, rfl, cpow_w (sm_sub ka kc), ?_⟩
    refine ⟨_, rfl, t, _, 1, .int b, rfl, rfl, SqT.of h1, atI_nat (j := 1) rfl, _, rfl, u, _, 1, .int d, rfl, rfl, SqT.of h2, atI_nat (j := 1) rfl, _, _, rfl, rfl, _, _, rfl, rfl, cpow_w (sm_sub kb kd), ?_⟩
    refine ⟨_, _, rfl, rfl, ?_⟩
    have e : (a - c) ^ (2 : Int).toNat + (b - d) ^ (2 : Int).toNat = farM a b c d := by
      rw [pow2, pow2]
      rfl
    show Q (.int ((a - c) ^ (2 : Int).toNat + (b - d) ^ (2 : Int).toNat)) H
    rw [e]
    exact q
theorem PtIn.sm {H : Hp} {t : Addr} {x y : Int} (h : PtIn H t x y) : Sm x ∧ Sm y := by
  have h1 : -1000000000000000000000000000000 ≤ x ∧ x ≤ 1000000000000000000000000000000 := h.2.1
  have h2 : -1000000000000000000000000000000 ≤ y ∧ y ≤ 1000000000000000000000000000000 := h.2.2
  refine ⟨?_, ?_⟩
  · show -10000000000000000000000000000000 ≤ x ∧ x ≤ 10000000000000000000000000000000
    omega
  · show -10000000000000000000000000000000 ≤ y ∧ y ≤ 10000000000000000000000000000000
    omega
theorem scDist : FnScope ["point", "other"] ["point", "other"] (defScope s_distance) := ⟨rfl, rfl, rfl, by decide +kernel, rfl, by decide +kernel, by decide +kernel⟩
def spDist : Sp := fun vs H Q _ => ∃ (t u : Addr) (a b c d : Int), vs = [.ref t, .ref u] ∧ PtIn H t a b ∧ PtIn H u c d ∧ ∀ H', Same H H' → Q (.int (farM a b c d)) H'
theorem ok_dist {f fC fD : Addr} {fd fdC fdD : FuncData} (F : FnP K "distance" s_distance f fd) (GC : FnOk P w K mg base CX0 4 fC fdC ["value"] spChkPt) (kC : PySem.W.keepIn K (.ref fC) = true) (bC : Binds K fdC ["value"] []) (gC : mg "check_point" = some (.ref fC))
    (FD : FnP K "square_distance" s_square_distance fD fdD) (bD : Binds K fdD ["point", "other"] []) (gD : mg "square_distance" = some (.ref fD)) : FnOk P w K mg base CX0 5 f fd ["point", "other"] spDist := by
  have GD : FnOk P w K mg base CX0 1 fD fdD ["point", "other"] spFar := ok_sqD FD
  refine F.ok scDist (fun vs H Q E h => ?_) (fun cdv A outer s H vs Q E hr h => ?_)
  · obtain ⟨_, _, _, _, _, _, rfl, _⟩ := h
    rfl
  · obtain ⟨t, u, a, b, c, d, rfl, h1, h2, q⟩ := h
    refine ⟨_, pss_cons (ps_expr (pe_call GC hr (by rfl) gC kC bC .nil pass0 (pa_cons (pv 0) pa_nil))) (pss_cons (ps_expr (pe_call GC hr (by rfl) gC kC bC .nil pass0 (pa_cons (pv 1) pa_nil)))
      (pss_one (ps_ret (pe_call GD (hr.mono (by decide)) (by rfl) gD FD.kp bD .nil pass0 (pa_cons (pv 0) (pa_cons (pv 1) pa_nil)))))), ?_⟩
    refine ⟨_, rfl, t, a, b, rfl, h1, fun H1 e1 => ⟨_, rfl, u, c, d, rfl, h2.same e1, fun H2 e2 => ?_⟩⟩
    have e := e1.trans e2
    exact ⟨_, rfl, _, rfl, t, u, a, b, c, d, rfl, e _ _ h1.1, e _ _ h2.1, ⟨h1.sm.1, h1.sm.2, h2.sm.1, h2.sm.2⟩, q H2 e⟩
/-! ### is_inside, gap -/
theorem scIns : FnScope ["point", "rectangle"] ["point", "rectangle"] (defScope s_is_inside) := ⟨rfl, rfl, rfl, by decide +kernel, rfl, by decide +kernel, by decide +kernel⟩
def spIns : Sp := fun vs H Q _ => ∃ (t b : Addr) (B : Bx) (x y : Int), vs = [.ref t, .ref b] ∧ PtIn H t x y ∧ BoxAt H b B ∧ BoxOk B ∧ ∀ H', Same H H' → Q (.bl (insideM B x y)) H'
theorem ok_ins {f fC fR fL : Addr} {fd fdC fdR fdL : FuncData} (F : FnP K "is_inside" s_is_inside f fd) (GC : FnOk P w K mg base CX0 4 fC fdC ["value"] spChkPt) (kC : PySem.W.keepIn K (.ref fC) = true) (bC : Binds K fdC ["value"] []) (gC : mg "check_point" = some (.ref fC))
    (GR : FnOk P w K mg base CX0 5 fR fdR ["value"] spChkRc) (kR : PySem.W.keepIn K (.ref fR) = true) (bR : Binds K fdR ["value"] []) (gR : mg "check_rectangle" = some (.ref fR))
    (GL : FnOk P w K mg base CX0 3 fL fdL ["point", "rectangle"] spLies) (kL : PySem.W.keepIn K (.ref fL) = true) (bL : Binds K fdL ["point", "rectangle"] []) (gL : mg "lies_in" = some (.ref fL)) : FnOk P w K mg base CX0 6 f fd ["point", "rectangle"] spIns := by
  refine F.ok scIns (fun vs H Q E h => ?_) (fun cdv A outer s H vs Q E hr h => ?_)
  · obtain ⟨_, _, _, _, _, rfl, _⟩ := h
    rfl
  · obtain ⟨t, b, B, x, y, rfl, h1, hB, ok, q⟩ := h
    refine ⟨_, pss_cons (ps_expr (pe_call GC (hr.mono (by decide)) (by rfl) gC kC bC .nil pass0 (pa_cons (pv 0) pa_nil))) (pss_cons (ps_expr (pe_call GR hr (by rfl) gR kR bR .nil pass0 (pa_cons (pv 1) pa_nil)))
      (pss_one (ps_ret (pe_call GL (hr.mono (by decide)) (by rfl) gL kL bL .nil pass0 (pa_cons (pv 0) (pa_cons (pv 1) pa_nil)))))), ?_⟩
    refine ⟨_, rfl, t, x, y, rfl, h1, fun H1 e1 => ⟨_, rfl, b, B, rfl, e1 _ _ hB, ok, fun H2 e2 => ?_⟩⟩
    have e := e1.trans e2
    exact ⟨_, rfl, _, rfl, t, b, B, x, y, rfl, e _ _ hB, ok, e _ _ h1.1, h1.sm.1, h1.sm.2, q H2 e⟩
theorem scGapP : FnScope ["point", "rectangle"] ["point", "rectangle"] (defScope s_gap) := ⟨rfl, rfl, rfl, by decide +kernel, rfl, by decide +kernel, by decide +kernel⟩
def spGap : Sp := fun vs H Q _ => ∃ (t b : Addr) (B : Bx) (x y : Int), vs = [.ref t, .ref b] ∧ PtIn H t x y ∧ BoxAt H b B ∧ BoxOk B ∧ ∀ H', Same H H' → Q (.int (gapM B x y)) H'
theorem ok_gapP {f fC fR fL : Addr} {fd fdC fdR fdL : FuncData} (F : FnP K "gap" s_gap f fd) (GC : FnOk P w K mg base CX0 4 fC fdC ["value"] spChkPt) (kC : PySem.W.keepIn K (.ref fC) = true) (bC : Binds K fdC ["value"] []) (gC : mg "check_point" = some (.ref fC))
    (GR : FnOk P w K mg base CX0 5 fR fdR ["value"] spChkRc) (kR : PySem.W.keepIn K (.ref fR) = true) (bR : Binds K fdR ["value"] []) (gR : mg "check_rectangle" = some (.ref fR))
    (GL : FnOk P w K mg base CX0 2 fL fdL ["point", "rectangle"] spSqGap) (kL : PySem.W.keepIn K (.ref fL) = true) (bL : Binds K fdL ["point", "rectangle"] []) (gL : mg "square_gap" = some (.ref fL)) : FnOk P w K mg base CX0 6 f fd ["point", "rectangle"] spGap := by
  refine F.ok scGapP (fun vs H Q E h => ?_) (fun cdv A outer s H vs Q E hr h => ?_)
  · obtain ⟨_, _, _, _, _, rfl, _⟩ := h
    rfl
  · obtain ⟨t, b, B, x, y, rfl, h1, hB, ok, q⟩ := h
    refine ⟨_, pss_cons (ps_expr (pe_call GC (hr.mono (by decide)) (by rfl) gC kC bC .nil pass0 (pa_cons (pv 0) pa_nil))) (pss_cons (ps_expr (pe_call GR hr (by rfl) gR kR bR .nil pass0 (pa_cons (pv 1) pa_nil)))
      (pss_one (ps_ret (pe_call GL (hr.mono (by decide)) (by rfl) gL kL bL .nil pass0 (pa_cons (pv 0) (pa_cons (pv 1) pa_nil)))))), ?_⟩
    refine ⟨_, rfl, t, x, y, rfl, h1, fun H1 e1 => ⟨_, rfl, b, B, rfl, e1 _ _ hB, ok, fun H2 e2 => ?_⟩⟩
    have e := e1.trans e2
    exact ⟨_, rfl, _, rfl, t, b, B, x, y, rfl, e _ _ hB, ok, e _ _ h1.1, h1.sm.1, h1.sm.2, q H2 e⟩
end
end Q2

namespace Q2
open PySem PySem.Spec PyProof.Rows L2
theorem mem_cut {xs : List V} {lo hi : Option Int} {v : V} (h : v ∈ cutV xs lo hi) : v ∈ xs := by
  unfold cutV at h
  exact List.mem_of_mem_drop (List.mem_of_mem_take h)
theorem cells_int {ns : List Int} {lo hi : Option Int} {i : Nat} {v : V} (h : (cutV (ns.map V.int ++ [V.int 0]) lo hi)[i]? = some v) : ∃ n : Int, v = .int n := by
  have h1 := mem_cut (List.mem_of_getElem? h)
  rcases List.mem_append.mp h1 with h2 | h2
  · obtain ⟨n, _, rfl⟩ := List.mem_map.mp h2
    exact ⟨n, rfl⟩
  · exact ⟨0, List.mem_singleton.mp h2⟩
/-- what stands between two turns: the source, the points, the cells -/
structure Std (H : Hp) (s a c : Addr) (ps : Pts) (xs : List V) : Prop where
  src : Src H s
  sp : Spots H Lo a ps
  cl : H c = some (.lst xs)
theorem Std.same {H H' : Hp} {s a c : Addr} {ps : Pts} {xs : List V} (h : Std H s a c ps xs) (e : Same H H') : Std H' s a c ps xs := ⟨h.src.same e, h.sp.same e, e _ _ h.cl⟩
theorem PtAt.ptIn {H : Hp} {q : Addr × Int × Int} (h : PtAt H Lo q) : PtIn H q.1 q.2.1 q.2.2 := h
theorem spots_at {H : Hp} {a : Addr} {ps : Pts} (h : Spots H Lo a ps) {i : Nat} {v : V} (hv : (ps.map fun q => V.ref q.1)[i]? = some v) : ∃ q : Addr × Int × Int, v = .ref q.1 ∧ PtIn H q.1 q.2.1 q.2.2 := by
  obtain ⟨q, hq, e⟩ := List.mem_map.mp (List.mem_of_getElem? hv)
  exact ⟨q, e.symm, h.2.2.1 q hq⟩
theorem ne_same (x : V) : (!decide (x = x)) = false := by rw [decide_eq_true rfl]; rfl
section
variable {P : Program} {w : World} {K : PySem.W.Frag} {mg : Str → Option Value} {base : Heap}
theorem scLaw : FnScope ["_law_script", "_law_cell", "_law_source_here", "_law_spots_here", "_law_turn", "_law_box_here", "_law_spot", "_law_one"] ["_law_script"] (defScope s_law) := ⟨rfl, rfl, rfl, by decide +kernel, rfl, by decide +kernel, by decide +kernel⟩
def spLaw (K : PySem.W.Frag) : Sp := fun vs H Q _ => ∃ (a : Addr) (ns : List Int), vs = [.ref a] ∧ SqL K H a (ns.map V.int) ∧ ns.length ≤ 63 ∧ ∀ H', Q (.bl true) H'
theorem ok_law {f fS fP fB fH fI fG fL fD fF : Addr} {fd fdS fdP fdB fdH fdI fdG fdL fdD fdF : FuncData} (F : FnP K "law" s_law f fd) (Bm : Bt mg)
    (GS : FnOk P w K mg base CX0 1 fS fdS ["_law_cell"] spSource) (kS : PySem.W.keepIn K (.ref fS) = true) (bS : Binds K fdS ["_law_cell"] []) (gS : mg "_law_source" = some (.ref fS))
    (GP : FnOk P w K mg base CX0 4 fP fdP ["_law_source_here", "_law_most"] spSpots) (kP : PySem.W.keepIn K (.ref fP) = true) (bP : Binds K fdP ["_law_source_here", "_law_most"] []) (gP : mg "_law_spots" = some (.ref fP))
    (GB : FnOk P w K mg base CX0 5 fB fdB ["_law_source_here", "_law_spots_here"] spBox) (kB : PySem.W.keepIn K (.ref fB) = true) (bB : Binds K fdB ["_law_source_here", "_law_spots_here"] []) (gB : mg "_law_box" = some (.ref fB))
    (GH : FnOk P w K mg base CX0 1 fH fdH ["_law_box_here", "_law_spot"] spHolds) (kH : PySem.W.keepIn K (.ref fH) = true) (bH : Binds K fdH ["_law_box_here", "_law_spot"] []) (gH : mg "_law_holds" = some (.ref fH))
    (GI : FnOk P w K mg base CX0 6 fI fdI ["point", "rectangle"] spIns) (kI : PySem.W.keepIn K (.ref fI) = true) (bI : Binds K fdI ["point", "rectangle"] []) (kbI : KBinds K fdI ["point", "rectangle"] ["rectangle", "point"] sw sw) (gI : mg "is_inside" = some (.ref fI))
    (GG : FnOk P w K mg base CX0 6 fG fdG ["point", "rectangle"] spGap) (kG : PySem.W.keepIn K (.ref fG) = true) (bG : Binds K fdG ["point", "rectangle"] []) (kbG : KBinds K fdG ["point", "rectangle"] ["rectangle", "point"] sw sw) (gG : mg "gap" = some (.ref fG))
    (GL : FnOk P w K mg base CX0 1 fL fdL ["_law_spot", "_law_box_here"] spGapL) (kL : PySem.W.keepIn K (.ref fL) = true) (bL : Binds K fdL ["_law_spot", "_law_box_here"] []) (gL : mg "_law_gap" = some (.ref fL))
    (GD : FnOk P w K mg base CX0 5 fD fdD ["point", "other"] spDist) (kD : PySem.W.keepIn K (.ref fD) = true) (bD : Binds K fdD ["point", "other"] []) (kbD : KBinds K fdD ["point", "other"] ["other", "point"] sw sw) (gD : mg "distance" = some (.ref fD))
    (GF : FnOk P w K mg base CX0 1 fF fdF ["_law_spot", "_law_second"] spFar) (kF : PySem.W.keepIn K (.ref fF) = true) (bF : Binds K fdF ["_law_spot", "_law_second"] []) (gF : mg "_law_far" = some (.ref fF)) : FnOk P w K mg base CX0 7 f fd ["_law_script"] (spLaw K) := by
  refine F.ok scLaw (fun vs H Q E h => ?_) (fun cdv A outer s H vs Q E hr h => ?_)
  · obtain ⟨_, _, rfl, _⟩ := h
    rfl
  · obtain ⟨a0, ns, rfl, hS0, hlen, q⟩ := h
    refine ⟨_, pss_cons (ps_for PassesOwn.never rfl (pi_list (pe_slice sl_list (pe_op op_catL (pv 0) (pe_lst (pa_cons pe_int pa_nil))) po_none (po_some pe_int))) (pg_name (i := 1) scLaw.nd rfl (.inl rfl))
        (pss_cons (ps_set (i := 2) scLaw.nd rfl (.inl rfl) (pe_call GS (hr.mono (by decide)) (by rfl) gS kS bS .nil pass0 (pa_cons (pv 1) pa_nil)))
        (pss_cons (ps_set (i := 3) scLaw.nd rfl (.inl rfl) (pe_call GP (hr.mono (by decide)) (by rfl) gP kP bP .nil pass0 (pa_cons (pv 2) (pa_cons pe_int pa_nil))))
        (pss_cons (ps_for PassesOwn.never rfl (pi_range1 (by rfl) Bm.range (pa_cons pe_int pa_nil)) (pg_name (i := 4) scLaw.nd rfl (.inl rfl))
          (pss_cons (ps_set (i := 5) scLaw.nd rfl (.inl rfl) (pe_call GB (hr.mono (by decide)) (by rfl) gB kB bB .nil pass0 (pa_cons (pv 2) (pa_cons (pv 3) pa_nil))))
          (pss_one (ps_for PassesOwn.never rfl (pi_list (pv 3)) (pg_name (i := 6) scLaw.nd rfl (.inl rfl))
            (pss_cons (ps_if (PW.pt (pw_or
                (pt_cmpR op_ne (pe_callB call_repr_bool (by rfl) Bm.repr (by decide +kernel) (pa_cons (pe_call GI hr (by rfl) gI kI bI .nil pass0 (pa_cons (pv 6) (pa_cons (pv 5) pa_nil))) pa_nil)) (pe_callB call_repr_bool (by rfl) Bm.repr (by decide +kernel) (pa_cons (pe_call GH (hr.mono (by decide)) (by rfl) gH kH bH .nil pass0 (pa_cons (pv 5) (pa_cons (pv 6) pa_nil))) pa_nil)) (nomark _))
                (pw_or1 (pt_cmpR op_ne (pe_call GG hr (by rfl) gG kG bG .nil pass0 (pa_cons (pv 6) (pa_cons (pv 5) pa_nil))) (pe_call GL (hr.mono (by decide)) (by rfl) gL kL bL .nil pass0 (pa_cons (pv 6) (pa_cons (pv 5) pa_nil))) (nomark _))))) (pss_one (ps_ret pe_bl)) pss_nil)
            (pss_one (ps_if (pt_cmpR op_ne (pe_cmpR op_eq (pe_callK0 GG hr (by rfl) gG kG kbG pass0 (pk_cons (pv 5) (pk_cons (pv 6) pk_nil))) pe_int (nomark _)) (pe_callK0 GI hr (by rfl) gI kI kbI pass0 (pk_cons (pv 5) (pk_cons (pv 6) pk_nil))) (nomark _)) (pss_one (ps_ret pe_bl)) pss_nil)))))))
        (pss_one (ps_for PassesOwn.never rfl (pi_list (pv 3)) (pg_name (i := 6) scLaw.nd rfl (.inl rfl))
          (pss_one (ps_for PassesOwn.never rfl (pi_list (pv 3)) (pg_name (i := 7) scLaw.nd rfl (.inl rfl))
            (pss_one (ps_if (PW.pt (pw_or
              (pt_cmpR op_ne (pe_call GD (hr.mono (by decide)) (by rfl) gD kD bD .nil pass0 (pa_cons (pv 6) (pa_cons (pv 7) pa_nil))) (pe_call GF (hr.mono (by decide)) (by rfl) gF kF bF .nil pass0 (pa_cons (pv 6) (pa_cons (pv 7) pa_nil))) (nomark _))
              (pw_or1 (pt_cmpR op_ne (pe_callK0 GD (hr.mono (by decide)) (by rfl) gD kD kbD pass0 (pk_cons (pv 6) (pk_cons (pv 7) pk_nil))) (pe_call GF (hr.mono (by decide)) (by rfl) gF kF bF .nil pass0 (pa_cons (pv 6) (pa_cons (pv 7) pa_nil))) (nomark _))))) (pss_one (ps_ret pe_bl)) pss_nil))))))))))
      (pss_one (ps_ret pe_bl)), ?_⟩
    -- (script + [0])[:6]
    refine ⟨_, rfl, (by show 1 ≤ sizeLine; decide), fun l0 n0 => ?_⟩
    refine ⟨a0, l0, _, _, rfl, rfl, (same_new n0).seq hS0, SqL.of upd_same, ?_, fun l1 n1 => ?_⟩
    · rw [List.length_map]
      exact small40 (by show ns.length + 1 ≤ 1000; omega)
    · refine ⟨6, rfl, l1, _, rfl, SqL.of upd_same, fun c nc => ?_⟩
      refine ⟨c, rfl, ⟨_, SqL.of upd_same⟩, for_list (xs := cutV (ns.map V.int ++ [V.int 0]) none (some 6)) (fun i σ H3 => ∃ y1 y2 y3 y4 y5 y6 y7 : Option V, σ = [some (.ref a0), y1, y2, y3, y4, y5, y6, y7] ∧ H3 c = some (.lst (cutV (ns.map V.int ++ [V.int 0]) none (some 6)))) ?_ ?_ ?_ ?_⟩
      · exact ⟨none, none, none, none, none, none, none, rfl, upd_same⟩
      · rintro i σ H3 hi ⟨_, _, _, _, _, _, _, rfl, h⟩
        exact SqL.of h
      · rintro i v σ H3 hv ⟨_, _, _, y4, y5, y6, y7, rfl, hC⟩
        obtain ⟨n, rfl⟩ := cells_int hv
        refine ⟨_, rfl, n, rfl, fun s H4 e4 ns4 hS4 => ?_⟩
        refine ⟨_, rfl, s, 12, rfl, hS4, by decide, by decide, fun a ps H5 hS5 e5 na hP5 hl5 => ?_⟩
        have hcs : c ≠ s := fun e => by
          rw [e] at hC
          rw [ns4] at hC
          cases hC
        have has : a ≠ s := hS4.ne na
        have st5 : Std H5 s a c ps (cutV (ns.map V.int ++ [V.int 0]) none (some 6)) := ⟨hS5, hP5, e5 _ _ (e4 _ _ hC) hcs⟩
        -- five boxes
        refine ⟨5, rfl, by decide, by decide, for_range (n := 5) (fun i σ H6 => ∃ y4 y5 y6 y7 : Option V, σ = [some (.ref a0), some (.int n), some (.ref s), some (.ref a), y4, y5, y6, y7] ∧ Std H6 s a c ps (cutV (ns.map V.int ++ [V.int 0]) none (some 6))) ?_ ?_ ?_⟩
        · exact ⟨y4, y5, y6, y7, rfl, st5⟩
        · rintro j σ H6 hj ⟨_, _, z6, z7, rfl, st6⟩
          refine ⟨_, rfl, _, rfl, s, a, ps, rfl, st6.src, has, st6.sp, fun b B H7 ok hS7 e7 nb hB => ?_⟩
          have st7 : Std H7 s a c ps (cutV (ns.map V.int ++ [V.int 0]) none (some 6)) := ⟨hS7, st6.sp.ex st6.src has e7, e7 _ _ st6.cl hcs⟩
          refine ⟨_, rfl, a, rfl, ⟨_, SqL.of st7.sp.1⟩, for_list (xs := ps.map fun q => V.ref q.1) (fun i σ H8 => ∃ z4 z6 z7 : Option V, σ = [some (.ref a0), some (.int n), some (.ref s), some (.ref a), z4, some (.ref b), z6, z7] ∧ Std H8 s a c ps (cutV (ns.map V.int ++ [V.int 0]) none (some 6)) ∧ BoxAt H8 b B) ?_ ?_ ?_ ?_⟩
          · exact ⟨_, _, _, rfl, st7, hB⟩
          · rintro i σ H8 _ ⟨_, _, _, rfl, st8, _⟩
            exact SqL.of st8.sp.1
          · rintro k v8 σ H8 hv8 ⟨z4, _, w7, rfl, st8, hB8⟩
            obtain ⟨⟨t, x, y⟩, rfl, hq⟩ := spots_at st8.sp hv8
            refine ⟨_, rfl, _, rfl, t, b, B, x, y, rfl, hq, hB8, ok, fun H9 e9 => ⟨_, rfl, ?_⟩⟩
            have st9 := st8.same e9
            have hq9 := hq.same e9
            have hB9 : BoxAt H9 b B := e9 _ _ hB8
            refine ⟨_, rfl, _, rfl, b, t, B, x, y, rfl, hB9, hq9.1, _, rfl, rfl, _, rfl, ?_⟩
            rw [ne_same]
            refine iteF ?_
            refine ⟨_, rfl, _, rfl, t, b, B, x, y, rfl, hq9, hB9, ok, fun H10 e10 => ?_⟩
            have st10 := st9.same e10
            have hq10 := hq9.same e10
            have hB10 : BoxAt H10 b B := e10 _ _ hB9
            refine ⟨_, rfl, _, rfl, t, b, B, x, y, rfl, hB10, ok, hq10.1, hq10.sm.1, hq10.sm.2, rfl, _, rfl, ?_⟩
            rw [ne_same]
            refine iteF ?_
            refine ⟨_, rfl, _, rfl, t, b, B, x, y, rfl, hq10, hB10, ok, fun H11 e11 => ?_⟩
            have st11 := st10.same e11
            have hq11 := hq10.same e11
            have hB11 : BoxAt H11 b B := e11 _ _ hB10
            refine ⟨rfl, ?_⟩
            refine ⟨_, rfl, _, rfl, t, b, B, x, y, rfl, hq11, hB11, ok, fun H12 e12 => ?_⟩
            have ei : decide (V.int (gapM B x y) = V.int 0) = insideM B x y := by
              rw [← gap_inside]
              exact decide_eq_decide.mpr ⟨fun z => V.int.inj z, fun z => by rw [z]⟩
            refine ⟨rfl, _, rfl, ?_⟩
            rw [ei, ne_same]
            refine iteF ?_
            exact ⟨_, _, _, rfl, st11.same e12, e12 _ _ hB11⟩
          · rintro σ H8 ⟨z4, z6', z7', rfl, st8, _⟩
            exact ⟨_, _, _, _, rfl, st8⟩
        · rintro σ H6 ⟨z4, z5, z6, z7, rfl, st6⟩
          refine ⟨_, rfl, a, rfl, ⟨_, SqL.of st6.sp.1⟩, for_list (xs := ps.map fun q => V.ref q.1) (fun i σ H8 => ∃ z6 z7 : Option V, σ = [some (.ref a0), some (.int n), some (.ref s), some (.ref a), z4, z5, z6, z7] ∧ Std H8 s a c ps (cutV (ns.map V.int ++ [V.int 0]) none (some 6))) ?_ ?_ ?_ ?_⟩
          · exact ⟨_, _, rfl, st6⟩
          · rintro i σ H8 _ ⟨_, _, rfl, st8⟩
            exact SqL.of st8.sp.1
          · rintro k v8 σ H8 hv8 ⟨_, w7, rfl, st8⟩
            obtain ⟨⟨t, x, y⟩, rfl, hq⟩ := spots_at st8.sp hv8
            refine ⟨_, rfl, a, rfl, ⟨_, SqL.of st8.sp.1⟩, for_list (xs := ps.map fun q => V.ref q.1) (fun i σ H9 => ∃ z7 : Option V, σ = [some (.ref a0), some (.int n), some (.ref s), some (.ref a), z4, z5, some (.ref t), z7] ∧ Std H9 s a c ps (cutV (ns.map V.int ++ [V.int 0]) none (some 6)) ∧ PtIn H9 t x y) ?_ ?_ ?_ ?_⟩
            · exact ⟨_, rfl, st8, hq⟩
            · rintro i σ H9 _ ⟨_, rfl, st9, _⟩
              exact SqL.of st9.sp.1
            · rintro m v9 σ H9 hv9 ⟨_, rfl, st9, hq9⟩
              obtain ⟨⟨u, x', y'⟩, rfl, hu9⟩ := spots_at st9.sp hv9
              refine ⟨_, rfl, _, rfl, t, u, x, y, x', y', rfl, hq9, hu9, fun H10 e10 => ?_⟩
              have st10 := st9.same e10
              have hq10 := hq9.same e10
              have hu10 := hu9.same e10
              refine ⟨_, rfl, _, rfl, t, u, x, y, x', y', rfl, hq10.1, hu10.1, ⟨hq10.sm.1, hq10.sm.2, hu10.sm.1, hu10.sm.2⟩, rfl, _, rfl, ?_⟩
              rw [ne_same]
              refine iteF ?_
              refine ⟨_, rfl, _, rfl, u, t, x', y', x, y, rfl, hu10, hq10, fun H11 e11 => ?_⟩
              have st11 := st10.same e11
              have hq11 := hq10.same e11
              have hu11 := hu10.same e11
              refine ⟨_, rfl, _, rfl, t, u, x, y, x', y', rfl, hq11.1, hu11.1, ⟨hq11.sm.1, hq11.sm.2, hu11.sm.1, hu11.sm.2⟩, rfl, _, rfl, ?_⟩
              have ef : farM x' y' x y = farM x y x' y' := by
                unfold farM
                rw [← Int.neg_mul_neg (x - x') (x - x'), ← Int.neg_mul_neg (y - y') (y - y'), Int.neg_sub, Int.neg_sub]
              rw [ef, ne_same]
              refine iteF ?_
              exact ⟨_, rfl, st11, hq11⟩
            · rintro σ H9 ⟨_, rfl, st9, _⟩
              exact ⟨_, _, rfl, st9⟩
          · rintro σ H8 ⟨_, _, rfl, st8⟩
            exact ⟨_, _, _, _, _, _, _, rfl, st8.cl⟩
      · rintro σ H3 ⟨_, _, _, _, _, _, _, rfl, _⟩
        exact q H3
end
end Q2

namespace Q2
open PySem PySem.Spec PyProof.Rows L2
theorem all_mk {l : PySem.W.OpenLaw} {w : World} {K : PySem.W.Frag} {h : Heap} {mg : Str → Option Value} {fa f_is_integer f_is_coordinate f_is_point f_is_end f_are_in_order f_is_rectangle f_check_point f_check_rectangle f_lies_in f_square_distance f_overshoot f_square_gap f_is_inside f_distance f_gap f_law_mixed f_law_source f_law_take f_law_pick f_law_spots f_law_end f_law_box f_law_holds f_law_gap f_law_far f_law : Addr} (X : K.In h) (G : h.Ns mainGlobals mg) (hfa : mg "law" = some (.ref fa))
    {od_is_integer an_is_integer : Option Addr} {sl_is_integer : Array (Option Value)} {oc_is_integer kV_is_integer dc_is_integer pm_is_integer cd_is_integer ct_is_integer : Value}
    {od_is_coordinate an_is_coordinate : Option Addr} {sl_is_coordinate : Array (Option Value)} {oc_is_coordinate kV_is_coordinate dc_is_coordinate pm_is_coordinate cd_is_coordinate ct_is_coordinate : Value}
    {od_is_point an_is_point : Option Addr} {sl_is_point : Array (Option Value)} {oc_is_point kV_is_point dc_is_point pm_is_point cd_is_point ct_is_point : Value}
    {od_is_end an_is_end : Option Addr} {sl_is_end : Array (Option Value)} {oc_is_end kV_is_end dc_is_end pm_is_end cd_is_end ct_is_end : Value}
    {od_are_in_order an_are_in_order : Option Addr} {sl_are_in_order : Array (Option Value)} {oc_are_in_order kV_are_in_order dc_are_in_order pm_are_in_order cd_are_in_order ct_are_in_order : Value}
    {od_is_rectangle an_is_rectangle : Option Addr} {sl_is_rectangle : Array (Option Value)} {oc_is_rectangle kV_is_rectangle dc_is_rectangle pm_is_rectangle cd_is_rectangle ct_is_rectangle : Value}
    {od_check_point an_check_point : Option Addr} {sl_check_point : Array (Option Value)} {oc_check_point kV_check_point dc_check_point pm_check_point cd_check_point ct_check_point : Value}
    {od_check_rectangle an_check_rectangle : Option Addr} {sl_check_rectangle : Array (Option Value)} {oc_check_rectangle kV_check_rectangle dc_check_rectangle pm_check_rectangle cd_check_rectangle ct_check_rectangle : Value}
    {od_lies_in an_lies_in : Option Addr} {sl_lies_in : Array (Option Value)} {oc_lies_in kV_lies_in dc_lies_in pm_lies_in cd_lies_in ct_lies_in : Value}
    {od_square_distance an_square_distance : Option Addr} {sl_square_distance : Array (Option Value)} {oc_square_distance kV_square_distance dc_square_distance pm_square_distance cd_square_distance ct_square_distance : Value}
    {od_overshoot an_overshoot : Option Addr} {sl_overshoot : Array (Option Value)} {oc_overshoot kV_overshoot dc_overshoot pm_overshoot cd_overshoot ct_overshoot : Value}
    {od_square_gap an_square_gap : Option Addr} {sl_square_gap : Array (Option Value)} {oc_square_gap kV_square_gap dc_square_gap pm_square_gap cd_square_gap ct_square_gap : Value}
    {od_is_inside an_is_inside : Option Addr} {sl_is_inside : Array (Option Value)} {oc_is_inside kV_is_inside dc_is_inside pm_is_inside cd_is_inside ct_is_inside : Value}
    {od_distance an_distance : Option Addr} {sl_distance : Array (Option Value)} {oc_distance kV_distance dc_distance pm_distance cd_distance ct_distance : Value}
    {od_gap an_gap : Option Addr} {sl_gap : Array (Option Value)} {oc_gap kV_gap dc_gap pm_gap cd_gap ct_gap : Value}
    {od_law_mixed an_law_mixed : Option Addr} {sl_law_mixed : Array (Option Value)} {oc_law_mixed kV_law_mixed dc_law_mixed pm_law_mixed cd_law_mixed ct_law_mixed : Value}
    {od_law_source an_law_source : Option Addr} {sl_law_source : Array (Option Value)} {oc_law_source kV_law_source dc_law_source pm_law_source cd_law_source ct_law_source : Value}
    {od_law_take an_law_take : Option Addr} {sl_law_take : Array (Option Value)} {oc_law_take kV_law_take dc_law_take pm_law_take cd_law_take ct_law_take : Value}
    {od_law_pick an_law_pick : Option Addr} {sl_law_pick : Array (Option Value)} {oc_law_pick kV_law_pick dc_law_pick pm_law_pick cd_law_pick ct_law_pick : Value}
    {od_law_spots an_law_spots : Option Addr} {sl_law_spots : Array (Option Value)} {oc_law_spots kV_law_spots dc_law_spots pm_law_spots cd_law_spots ct_law_spots : Value}
    {od_law_end an_law_end : Option Addr} {sl_law_end : Array (Option Value)} {oc_law_end kV_law_end dc_law_end pm_law_end cd_law_end ct_law_end : Value}
    {od_law_box an_law_box : Option Addr} {sl_law_box : Array (Option Value)} {oc_law_box kV_law_box dc_law_box pm_law_box cd_law_box ct_law_box : Value}
    {od_law_holds an_law_holds : Option Addr} {sl_law_holds : Array (Option Value)} {oc_law_holds kV_law_holds dc_law_holds pm_law_holds cd_law_holds ct_law_holds : Value}
    {od_law_gap an_law_gap : Option Addr} {sl_law_gap : Array (Option Value)} {oc_law_gap kV_law_gap dc_law_gap pm_law_gap cd_law_gap ct_law_gap : Value}
    {od_law_far an_law_far : Option Addr} {sl_law_far : Array (Option Value)} {oc_law_far kV_law_far dc_law_far pm_law_far cd_law_far ct_law_far : Value}
    {od_law an_law : Option Addr} {sl_law : Array (Option Value)} {oc_law kV_law dc_law pm_law cd_law ct_law : Value}
    {tk_FARTHEST_COORDINATE : Tok}
    {tk_FARTHEST_END : Tok}
    (a_is_integer : PySem.W.nsIn K mainGlobals "is_integer" = some (some (.ref f_is_integer))) (l_is_integer : K.lookup f_is_integer = some ⟨oc_is_integer, od_is_integer, .func (PySem.W.fnOf "is_integer" "is_integer" (defArgs s_is_integer) (defBody s_is_integer) (defScope s_is_integer) .none kV_is_integer dc_is_integer pm_is_integer an_is_integer cd_is_integer ct_is_integer), sl_is_integer⟩) (c_is_integer : PySem.W.codeIn K cd_is_integer "is_integer" = true) (k_is_integer : PySem.W.keepIn K (.ref f_is_integer) = true)
    (a_is_coordinate : PySem.W.nsIn K mainGlobals "is_coordinate" = some (some (.ref f_is_coordinate))) (l_is_coordinate : K.lookup f_is_coordinate = some ⟨oc_is_coordinate, od_is_coordinate, .func (PySem.W.fnOf "is_coordinate" "is_coordinate" (defArgs s_is_coordinate) (defBody s_is_coordinate) (defScope s_is_coordinate) .none kV_is_coordinate dc_is_coordinate pm_is_coordinate an_is_coordinate cd_is_coordinate ct_is_coordinate), sl_is_coordinate⟩) (c_is_coordinate : PySem.W.codeIn K cd_is_coordinate "is_coordinate" = true) (k_is_coordinate : PySem.W.keepIn K (.ref f_is_coordinate) = true)
    (a_is_point : PySem.W.nsIn K mainGlobals "is_point" = some (some (.ref f_is_point))) (l_is_point : K.lookup f_is_point = some ⟨oc_is_point, od_is_point, .func (PySem.W.fnOf "is_point" "is_point" (defArgs s_is_point) (defBody s_is_point) (defScope s_is_point) .none kV_is_point dc_is_point pm_is_point an_is_point cd_is_point ct_is_point), sl_is_point⟩) (c_is_point : PySem.W.codeIn K cd_is_point "is_point" = true) (k_is_point : PySem.W.keepIn K (.ref f_is_point) = true)
    (a_is_end : PySem.W.nsIn K mainGlobals "is_end" = some (some (.ref f_is_end))) (l_is_end : K.lookup f_is_end = some ⟨oc_is_end, od_is_end, .func (PySem.W.fnOf "is_end" "is_end" (defArgs s_is_end) (defBody s_is_end) (defScope s_is_end) .none kV_is_end dc_is_end pm_is_end an_is_end cd_is_end ct_is_end), sl_is_end⟩) (c_is_end : PySem.W.codeIn K cd_is_end "is_end" = true) (k_is_end : PySem.W.keepIn K (.ref f_is_end) = true)
    (a_are_in_order : PySem.W.nsIn K mainGlobals "are_in_order" = some (some (.ref f_are_in_order))) (l_are_in_order : K.lookup f_are_in_order = some ⟨oc_are_in_order, od_are_in_order, .func (PySem.W.fnOf "are_in_order" "are_in_order" (defArgs s_are_in_order) (defBody s_are_in_order) (defScope s_are_in_order) .none kV_are_in_order dc_are_in_order pm_are_in_order an_are_in_order cd_are_in_order ct_are_in_order), sl_are_in_order⟩) (c_are_in_order : PySem.W.codeIn K cd_are_in_order "are_in_order" = true) (k_are_in_order : PySem.W.keepIn K (.ref f_are_in_order) = true)
    (a_is_rectangle : PySem.W.nsIn K mainGlobals "is_rectangle" = some (some (.ref f_is_rectangle))) (l_is_rectangle : K.lookup f_is_rectangle = some ⟨oc_is_rectangle, od_is_rectangle, .func (PySem.W.fnOf "is_rectangle" "is_rectangle" (defArgs s_is_rectangle) (defBody s_is_rectangle) (defScope s_is_rectangle) .none kV_is_rectangle dc_is_rectangle pm_is_rectangle an_is_rectangle cd_is_rectangle ct_is_rectangle), sl_is_rectangle⟩) (c_is_rectangle : PySem.W.codeIn K cd_is_rectangle "is_rectangle" = true) (k_is_rectangle : PySem.W.keepIn K (.ref f_is_rectangle) = true)
    (a_check_point : PySem.W.nsIn K mainGlobals "check_point" = some (some (.ref f_check_point))) (l_check_point : K.lookup f_check_point = some ⟨oc_check_point, od_check_point, .func (PySem.W.fnOf "check_point" "check_point" (defArgs s_check_point) (defBody s_check_point) (defScope s_check_point) .none kV_check_point dc_check_point pm_check_point an_check_point cd_check_point ct_check_point), sl_check_point⟩) (c_check_point : PySem.W.codeIn K cd_check_point "check_point" = true) (k_check_point : PySem.W.keepIn K (.ref f_check_point) = true)
    (a_check_rectangle : PySem.W.nsIn K mainGlobals "check_rectangle" = some (some (.ref f_check_rectangle))) (l_check_rectangle : K.lookup f_check_rectangle = some ⟨oc_check_rectangle, od_check_rectangle, .func (PySem.W.fnOf "check_rectangle" "check_rectangle" (defArgs s_check_rectangle) (defBody s_check_rectangle) (defScope s_check_rectangle) .none kV_check_rectangle dc_check_rectangle pm_check_rectangle an_check_rectangle cd_check_rectangle ct_check_rectangle), sl_check_rectangle⟩) (c_check_rectangle : PySem.W.codeIn K cd_check_rectangle "check_rectangle" = true) (k_check_rectangle : PySem.W.keepIn K (.ref f_check_rectangle) = true)
    (a_lies_in : PySem.W.nsIn K mainGlobals "lies_in" = some (some (.ref f_lies_in))) (l_lies_in : K.lookup f_lies_in = some ⟨oc_lies_in, od_lies_in, .func (PySem.W.fnOf "lies_in" "lies_in" (defArgs s_lies_in) (defBody s_lies_in) (defScope s_lies_in) .none kV_lies_in dc_lies_in pm_lies_in an_lies_in cd_lies_in ct_lies_in), sl_lies_in⟩) (c_lies_in : PySem.W.codeIn K cd_lies_in "lies_in" = true) (k_lies_in : PySem.W.keepIn K (.ref f_lies_in) = true)
    (a_square_distance : PySem.W.nsIn K mainGlobals "square_distance" = some (some (.ref f_square_distance))) (l_square_distance : K.lookup f_square_distance = some ⟨oc_square_distance, od_square_distance, .func (PySem.W.fnOf "square_distance" "square_distance" (defArgs s_square_distance) (defBody s_square_distance) (defScope s_square_distance) .none kV_square_distance dc_square_distance pm_square_distance an_square_distance cd_square_distance ct_square_distance), sl_square_distance⟩) (c_square_distance : PySem.W.codeIn K cd_square_distance "square_distance" = true) (k_square_distance : PySem.W.keepIn K (.ref f_square_distance) = true)
    (a_overshoot : PySem.W.nsIn K mainGlobals "overshoot" = some (some (.ref f_overshoot))) (l_overshoot : K.lookup f_overshoot = some ⟨oc_overshoot, od_overshoot, .func (PySem.W.fnOf "overshoot" "overshoot" (defArgs s_overshoot) (defBody s_overshoot) (defScope s_overshoot) .none kV_overshoot dc_overshoot pm_overshoot an_overshoot cd_overshoot ct_overshoot), sl_overshoot⟩) (c_overshoot : PySem.W.codeIn K cd_overshoot "overshoot" = true) (k_overshoot : PySem.W.keepIn K (.ref f_overshoot) = true)
    (a_square_gap : PySem.W.nsIn K mainGlobals "square_gap" = some (some (.ref f_square_gap))) (l_square_gap : K.lookup f_square_gap = some ⟨oc_square_gap, od_square_gap, .func (PySem.W.fnOf "square_gap" "square_gap" (defArgs s_square_gap) (defBody s_square_gap) (defScope s_square_gap) .none kV_square_gap dc_square_gap pm_square_gap an_square_gap cd_square_gap ct_square_gap), sl_square_gap⟩) (c_square_gap : PySem.W.codeIn K cd_square_gap "square_gap" = true) (k_square_gap : PySem.W.keepIn K (.ref f_square_gap) = true)
    (a_is_inside : PySem.W.nsIn K mainGlobals "is_inside" = some (some (.ref f_is_inside))) (l_is_inside : K.lookup f_is_inside = some ⟨oc_is_inside, od_is_inside, .func (PySem.W.fnOf "is_inside" "is_inside" (defArgs s_is_inside) (defBody s_is_inside) (defScope s_is_inside) .none kV_is_inside dc_is_inside pm_is_inside an_is_inside cd_is_inside ct_is_inside), sl_is_inside⟩) (c_is_inside : PySem.W.codeIn K cd_is_inside "is_inside" = true) (k_is_inside : PySem.W.keepIn K (.ref f_is_inside) = true)
    (a_distance : PySem.W.nsIn K mainGlobals "distance" = some (some (.ref f_distance))) (l_distance : K.lookup f_distance = some ⟨oc_distance, od_distance, .func (PySem.W.fnOf "distance" "distance" (defArgs s_distance) (defBody s_distance) (defScope s_distance) .none kV_distance dc_distance pm_distance an_distance cd_distance ct_distance), sl_distance⟩) (c_distance : PySem.W.codeIn K cd_distance "distance" = true) (k_distance : PySem.W.keepIn K (.ref f_distance) = true)
    (a_gap : PySem.W.nsIn K mainGlobals "gap" = some (some (.ref f_gap))) (l_gap : K.lookup f_gap = some ⟨oc_gap, od_gap, .func (PySem.W.fnOf "gap" "gap" (defArgs s_gap) (defBody s_gap) (defScope s_gap) .none kV_gap dc_gap pm_gap an_gap cd_gap ct_gap), sl_gap⟩) (c_gap : PySem.W.codeIn K cd_gap "gap" = true) (k_gap : PySem.W.keepIn K (.ref f_gap) = true)
    (a_law_mixed : PySem.W.nsIn K mainGlobals "_law_mixed" = some (some (.ref f_law_mixed))) (l_law_mixed : K.lookup f_law_mixed = some ⟨oc_law_mixed, od_law_mixed, .func (PySem.W.fnOf "_law_mixed" "_law_mixed" (defArgs s_law_mixed) (defBody s_law_mixed) (defScope s_law_mixed) .none kV_law_mixed dc_law_mixed pm_law_mixed an_law_mixed cd_law_mixed ct_law_mixed), sl_law_mixed⟩) (c_law_mixed : PySem.W.codeIn K cd_law_mixed "_law_mixed" = true) (k_law_mixed : PySem.W.keepIn K (.ref f_law_mixed) = true)
    (a_law_source : PySem.W.nsIn K mainGlobals "_law_source" = some (some (.ref f_law_source))) (l_law_source : K.lookup f_law_source = some ⟨oc_law_source, od_law_source, .func (PySem.W.fnOf "_law_source" "_law_source" (defArgs s_law_source) (defBody s_law_source) (defScope s_law_source) .none kV_law_source dc_law_source pm_law_source an_law_source cd_law_source ct_law_source), sl_law_source⟩) (c_law_source : PySem.W.codeIn K cd_law_source "_law_source" = true) (k_law_source : PySem.W.keepIn K (.ref f_law_source) = true)
    (a_law_take : PySem.W.nsIn K mainGlobals "_law_take" = some (some (.ref f_law_take))) (l_law_take : K.lookup f_law_take = some ⟨oc_law_take, od_law_take, .func (PySem.W.fnOf "_law_take" "_law_take" (defArgs s_law_take) (defBody s_law_take) (defScope s_law_take) .none kV_law_take dc_law_take pm_law_take an_law_take cd_law_take ct_law_take), sl_law_take⟩) (c_law_take : PySem.W.codeIn K cd_law_take "_law_take" = true) (k_law_take : PySem.W.keepIn K (.ref f_law_take) = true)
    (a_law_pick : PySem.W.nsIn K mainGlobals "_law_pick" = some (some (.ref f_law_pick))) (l_law_pick : K.lookup f_law_pick = some ⟨oc_law_pick, od_law_pick, .func (PySem.W.fnOf "_law_pick" "_law_pick" (defArgs s_law_pick) (defBody s_law_pick) (defScope s_law_pick) .none kV_law_pick dc_law_pick pm_law_pick an_law_pick cd_law_pick ct_law_pick), sl_law_pick⟩) (c_law_pick : PySem.W.codeIn K cd_law_pick "_law_pick" = true) (k_law_pick : PySem.W.keepIn K (.ref f_law_pick) = true)
    (a_law_spots : PySem.W.nsIn K mainGlobals "_law_spots" = some (some (.ref f_law_spots))) (l_law_spots : K.lookup f_law_spots = some ⟨oc_law_spots, od_law_spots, .func (PySem.W.fnOf "_law_spots" "_law_spots" (defArgs s_law_spots) (defBody s_law_spots) (defScope s_law_spots) .none kV_law_spots dc_law_spots pm_law_spots an_law_spots cd_law_spots ct_law_spots), sl_law_spots⟩) (c_law_spots : PySem.W.codeIn K cd_law_spots "_law_spots" = true) (k_law_spots : PySem.W.keepIn K (.ref f_law_spots) = true)
    (a_law_end : PySem.W.nsIn K mainGlobals "_law_end" = some (some (.ref f_law_end))) (l_law_end : K.lookup f_law_end = some ⟨oc_law_end, od_law_end, .func (PySem.W.fnOf "_law_end" "_law_end" (defArgs s_law_end) (defBody s_law_end) (defScope s_law_end) .none kV_law_end dc_law_end pm_law_end an_law_end cd_law_end ct_law_end), sl_law_end⟩) (c_law_end : PySem.W.codeIn K cd_law_end "_law_end" = true) (k_law_end : PySem.W.keepIn K (.ref f_law_end) = true)
    (a_law_box : PySem.W.nsIn K mainGlobals "_law_box" = some (some (.ref f_law_box))) (l_law_box : K.lookup f_law_box = some ⟨oc_law_box, od_law_box, .func (PySem.W.fnOf "_law_box" "_law_box" (defArgs s_law_box) (defBody s_law_box) (defScope s_law_box) .none kV_law_box dc_law_box pm_law_box an_law_box cd_law_box ct_law_box), sl_law_box⟩) (c_law_box : PySem.W.codeIn K cd_law_box "_law_box" = true) (k_law_box : PySem.W.keepIn K (.ref f_law_box) = true)
    (a_law_holds : PySem.W.nsIn K mainGlobals "_law_holds" = some (some (.ref f_law_holds))) (l_law_holds : K.lookup f_law_holds = some ⟨oc_law_holds, od_law_holds, .func (PySem.W.fnOf "_law_holds" "_law_holds" (defArgs s_law_holds) (defBody s_law_holds) (defScope s_law_holds) .none kV_law_holds dc_law_holds pm_law_holds an_law_holds cd_law_holds ct_law_holds), sl_law_holds⟩) (c_law_holds : PySem.W.codeIn K cd_law_holds "_law_holds" = true) (k_law_holds : PySem.W.keepIn K (.ref f_law_holds) = true)
    (a_law_gap : PySem.W.nsIn K mainGlobals "_law_gap" = some (some (.ref f_law_gap))) (l_law_gap : K.lookup f_law_gap = some ⟨oc_law_gap, od_law_gap, .func (PySem.W.fnOf "_law_gap" "_law_gap" (defArgs s_law_gap) (defBody s_law_gap) (defScope s_law_gap) .none kV_law_gap dc_law_gap pm_law_gap an_law_gap cd_law_gap ct_law_gap), sl_law_gap⟩) (c_law_gap : PySem.W.codeIn K cd_law_gap "_law_gap" = true) (k_law_gap : PySem.W.keepIn K (.ref f_law_gap) = true)
    (a_law_far : PySem.W.nsIn K mainGlobals "_law_far" = some (some (.ref f_law_far))) (l_law_far : K.lookup f_law_far = some ⟨oc_law_far, od_law_far, .func (PySem.W.fnOf "_law_far" "_law_far" (defArgs s_law_far) (defBody s_law_far) (defScope s_law_far) .none kV_law_far dc_law_far pm_law_far an_law_far cd_law_far ct_law_far), sl_law_far⟩) (c_law_far : PySem.W.codeIn K cd_law_far "_law_far" = true) (k_law_far : PySem.W.keepIn K (.ref f_law_far) = true)
    (a_law : PySem.W.nsIn K mainGlobals "law" = some (some (.ref f_law))) (l_law : K.lookup f_law = some ⟨oc_law, od_law, .func (PySem.W.fnOf "law" "law" (defArgs s_law) (defBody s_law) (defScope s_law) .none kV_law dc_law pm_law an_law cd_law ct_law), sl_law⟩) (c_law : PySem.W.codeIn K cd_law "law" = true) (k_law : PySem.W.keepIn K (.ref f_law) = true)
    (w_FARTHEST_COORDINATE : PySem.W.nsIn K mainGlobals "FARTHEST_COORDINATE" = some (some (.int Lo tk_FARTHEST_COORDINATE)))
    (w_FARTHEST_END : PySem.W.nsIn K mainGlobals "FARTHEST_END" = some (some (.int Hi tk_FARTHEST_END)))
    (z_int : PySem.W.nsIn K mainGlobals "int" = some none)
    (z_abs : PySem.W.nsIn K mainGlobals "abs" = some none)
    (z_len : PySem.W.nsIn K mainGlobals "len" = some none)
    (z_range : PySem.W.nsIn K mainGlobals "range" = some none)
    (z_isinstance : PySem.W.nsIn K mainGlobals "isinstance" = some none)
    (z_bool : PySem.W.nsIn K mainGlobals "bool" = some none)
    (z_tuple : PySem.W.nsIn K mainGlobals "tuple" = some none)
    (z_all : PySem.W.nsIn K mainGlobals "all" = some none)
    (z_repr : PySem.W.nsIn K mainGlobals "repr" = some none) :
    ∃ fd : FuncData, (∀ (s : Shared) (v : Value), BindsTo s fd ⟨[v], []⟩ [("_law_script", v)]) ∧ ∀ base : Heap, K.In base → base.Ns mainGlobals mg → FnOk l.prog w K mg base CX0 7 fa fd ["_law_script"] (spLaw K) := by
  have e := hfa.symm.trans (PySem.W.mg_of X G a_law)
  cases e
  have F_is_integer := fun_mk (st := s_is_integer) l_is_integer c_is_integer k_is_integer
  have b_is_integer := F_is_integer.binds (ps := ["value"]) fun _ _ _ _ _ _ us hl => match us, hl with | [_], _ => rfl
  have m_is_integer := PySem.W.mg_of X G a_is_integer
  have F_is_coordinate := fun_mk (st := s_is_coordinate) l_is_coordinate c_is_coordinate k_is_coordinate
  have b_is_coordinate := F_is_coordinate.binds (ps := ["value"]) fun _ _ _ _ _ _ us hl => match us, hl with | [_], _ => rfl
  have m_is_coordinate := PySem.W.mg_of X G a_is_coordinate
  have F_is_point := fun_mk (st := s_is_point) l_is_point c_is_point k_is_point
  have b_is_point := F_is_point.binds (ps := ["value"]) fun _ _ _ _ _ _ us hl => match us, hl with | [_], _ => rfl
  have m_is_point := PySem.W.mg_of X G a_is_point
  have F_is_end := fun_mk (st := s_is_end) l_is_end c_is_end k_is_end
  have b_is_end := F_is_end.binds (ps := ["value"]) fun _ _ _ _ _ _ us hl => match us, hl with | [_], _ => rfl
  have m_is_end := PySem.W.mg_of X G a_is_end
  have F_are_in_order := fun_mk (st := s_are_in_order) l_are_in_order c_are_in_order k_are_in_order
  have b_are_in_order := F_are_in_order.binds (ps := ["low", "high"]) fun _ _ _ _ _ _ us hl => match us, hl with | [_, _], _ => rfl
  have m_are_in_order := PySem.W.mg_of X G a_are_in_order
  have F_is_rectangle := fun_mk (st := s_is_rectangle) l_is_rectangle c_is_rectangle k_is_rectangle
  have b_is_rectangle := F_is_rectangle.binds (ps := ["value"]) fun _ _ _ _ _ _ us hl => match us, hl with | [_], _ => rfl
  have m_is_rectangle := PySem.W.mg_of X G a_is_rectangle
  have F_check_point := fun_mk (st := s_check_point) l_check_point c_check_point k_check_point
  have b_check_point := F_check_point.binds (ps := ["value"]) fun _ _ _ _ _ _ us hl => match us, hl with | [_], _ => rfl
  have m_check_point := PySem.W.mg_of X G a_check_point
  have F_check_rectangle := fun_mk (st := s_check_rectangle) l_check_rectangle c_check_rectangle k_check_rectangle
  have b_check_rectangle := F_check_rectangle.binds (ps := ["value"]) fun _ _ _ _ _ _ us hl => match us, hl with | [_], _ => rfl
  have m_check_rectangle := PySem.W.mg_of X G a_check_rectangle
  have F_lies_in := fun_mk (st := s_lies_in) l_lies_in c_lies_in k_lies_in
  have b_lies_in := F_lies_in.binds (ps := ["point", "rectangle"]) fun _ _ _ _ _ _ us hl => match us, hl with | [_, _], _ => rfl
  have m_lies_in := PySem.W.mg_of X G a_lies_in
  have F_square_distance := fun_mk (st := s_square_distance) l_square_distance c_square_distance k_square_distance
  have b_square_distance := F_square_distance.binds (ps := ["point", "other"]) fun _ _ _ _ _ _ us hl => match us, hl with | [_, _], _ => rfl
  have m_square_distance := PySem.W.mg_of X G a_square_distance
  have F_overshoot := fun_mk (st := s_overshoot) l_overshoot c_overshoot k_overshoot
  have b_overshoot := F_overshoot.binds (ps := ["coordinate", "low", "high"]) fun _ _ _ _ _ _ us hl => match us, hl with | [_, _, _], _ => rfl
  have m_overshoot := PySem.W.mg_of X G a_overshoot
  have F_square_gap := fun_mk (st := s_square_gap) l_square_gap c_square_gap k_square_gap
  have b_square_gap := F_square_gap.binds (ps := ["point", "rectangle"]) fun _ _ _ _ _ _ us hl => match us, hl with | [_, _], _ => rfl
  have m_square_gap := PySem.W.mg_of X G a_square_gap
  have F_is_inside := fun_mk (st := s_is_inside) l_is_inside c_is_inside k_is_inside
  have b_is_inside := F_is_inside.binds (ps := ["point", "rectangle"]) fun _ _ _ _ _ _ us hl => match us, hl with | [_, _], _ => rfl
  have m_is_inside := PySem.W.mg_of X G a_is_inside
  have F_distance := fun_mk (st := s_distance) l_distance c_distance k_distance
  have b_distance := F_distance.binds (ps := ["point", "other"]) fun _ _ _ _ _ _ us hl => match us, hl with | [_, _], _ => rfl
  have m_distance := PySem.W.mg_of X G a_distance
  have F_gap := fun_mk (st := s_gap) l_gap c_gap k_gap
  have b_gap := F_gap.binds (ps := ["point", "rectangle"]) fun _ _ _ _ _ _ us hl => match us, hl with | [_, _], _ => rfl
  have m_gap := PySem.W.mg_of X G a_gap
  have F_law_mixed := fun_mk (st := s_law_mixed) l_law_mixed c_law_mixed k_law_mixed
  have b_law_mixed := F_law_mixed.binds (ps := ["_law_cell", "_law_draw"]) fun _ _ _ _ _ _ us hl => match us, hl with | [_, _], _ => rfl
  have m_law_mixed := PySem.W.mg_of X G a_law_mixed
  have F_law_source := fun_mk (st := s_law_source) l_law_source c_law_source k_law_source
  have b_law_source := F_law_source.binds (ps := ["_law_cell"]) fun _ _ _ _ _ _ us hl => match us, hl with | [_], _ => rfl
  have m_law_source := PySem.W.mg_of X G a_law_source
  have F_law_take := fun_mk (st := s_law_take) l_law_take c_law_take k_law_take
  have b_law_take := F_law_take.binds (ps := ["_law_source_here", "_law_bound"]) fun _ _ _ _ _ _ us hl => match us, hl with | [_, _], _ => rfl
  have m_law_take := PySem.W.mg_of X G a_law_take
  have F_law_pick := fun_mk (st := s_law_pick) l_law_pick c_law_pick k_law_pick
  have b_law_pick := F_law_pick.binds (ps := ["_law_source_here", "_law_some"]) fun _ _ _ _ _ _ us hl => match us, hl with | [_, _], _ => rfl
  have m_law_pick := PySem.W.mg_of X G a_law_pick
  have F_law_spots := fun_mk (st := s_law_spots) l_law_spots c_law_spots k_law_spots
  have b_law_spots := F_law_spots.binds (ps := ["_law_source_here", "_law_most"]) fun _ _ _ _ _ _ us hl => match us, hl with | [_, _], _ => rfl
  have m_law_spots := PySem.W.mg_of X G a_law_spots
  have F_law_end := fun_mk (st := s_law_end) l_law_end c_law_end k_law_end
  have b_law_end := F_law_end.binds (ps := ["_law_source_here", "_law_spots_here", "_law_lane"]) fun _ _ _ _ _ _ us hl => match us, hl with | [_, _, _], _ => rfl
  have m_law_end := PySem.W.mg_of X G a_law_end
  have F_law_box := fun_mk (st := s_law_box) l_law_box c_law_box k_law_box
  have b_law_box := F_law_box.binds (ps := ["_law_source_here", "_law_spots_here"]) fun _ _ _ _ _ _ us hl => match us, hl with | [_, _], _ => rfl
  have m_law_box := PySem.W.mg_of X G a_law_box
  have F_law_holds := fun_mk (st := s_law_holds) l_law_holds c_law_holds k_law_holds
  have b_law_holds := F_law_holds.binds (ps := ["_law_box_here", "_law_spot"]) fun _ _ _ _ _ _ us hl => match us, hl with | [_, _], _ => rfl
  have m_law_holds := PySem.W.mg_of X G a_law_holds
  have F_law_gap := fun_mk (st := s_law_gap) l_law_gap c_law_gap k_law_gap
  have b_law_gap := F_law_gap.binds (ps := ["_law_spot", "_law_box_here"]) fun _ _ _ _ _ _ us hl => match us, hl with | [_, _], _ => rfl
  have m_law_gap := PySem.W.mg_of X G a_law_gap
  have F_law_far := fun_mk (st := s_law_far) l_law_far c_law_far k_law_far
  have b_law_far := F_law_far.binds (ps := ["_law_spot", "_law_second"]) fun _ _ _ _ _ _ us hl => match us, hl with | [_, _], _ => rfl
  have m_law_far := PySem.W.mg_of X G a_law_far
  have F_law := fun_mk (st := s_law) l_law c_law k_law
  have m_FARTHEST_COORDINATE := PySem.W.mg_of X G w_FARTHEST_COORDINATE
  have m_FARTHEST_END := PySem.W.mg_of X G w_FARTHEST_END
  have n_int := PySem.W.mg_none_of X G z_int
  have n_abs := PySem.W.mg_none_of X G z_abs
  have n_len := PySem.W.mg_none_of X G z_len
  have n_range := PySem.W.mg_none_of X G z_range
  have n_isinstance := PySem.W.mg_none_of X G z_isinstance
  have n_bool := PySem.W.mg_none_of X G z_bool
  have n_tuple := PySem.W.mg_none_of X G z_tuple
  have n_all := PySem.W.mg_none_of X G z_all
  have n_repr := PySem.W.mg_none_of X G z_repr
  refine ⟨PySem.W.fnOf "law" "law" (defArgs s_law) (defBody s_law) (defScope s_law) .none kV_law dc_law pm_law an_law cd_law ct_law, fun s v => .of_eq rfl, fun base _ _ => ?_⟩
  have B : Bt mg := ⟨n_int, n_abs, n_len, n_range, n_isinstance, n_bool, n_tuple, n_all, n_repr⟩
  have G_take := ok_take (P := l.prog) (w := w) (base := base) F_law_take B F_law_mixed b_law_mixed m_law_mixed
  have G_pick := ok_pick (fM := f_law_mixed) (fdM := PySem.W.fnOf "law" "law" (defArgs s_law) (defBody s_law) (defScope s_law) .none kV_law dc_law pm_law an_law cd_law ct_law) F_law_pick B G_take F_law_take.kp b_law_take m_law_take
  have G_spots := ok_spots F_law_spots B G_take F_law_take.kp b_law_take m_law_take G_pick F_law_pick.kp b_law_pick m_law_pick
  have G_end := ok_end F_law_end B G_take F_law_take.kp b_law_take m_law_take G_pick F_law_pick.kp b_law_pick m_law_pick
  have G_box := ok_box F_law_box B G_end F_law_end.kp b_law_end m_law_end
  have G_up := ok_coord (P := l.prog) (w := w) (base := base) F_is_coordinate B F_is_integer b_is_integer m_is_integer m_FARTHEST_COORDINATE
  have G_pt := ok_isPt F_is_point B G_up F_is_coordinate.kp b_is_coordinate m_is_coordinate
  have G_cp := ok_chkPt F_check_point G_pt F_is_point.kp b_is_point m_is_point
  have G_ie := ok_isEnd (P := l.prog) (w := w) (base := base) F_is_end B F_is_integer b_is_integer m_is_integer m_FARTHEST_END
  have G_rc := ok_isRc F_is_rectangle B G_ie F_is_end.kp b_is_end m_is_end F_are_in_order b_are_in_order m_are_in_order
  have G_cr := ok_chkRc F_check_rectangle G_rc F_is_rectangle.kp b_is_rectangle m_is_rectangle
  have G_sg := ok_sqGap (P := l.prog) (w := w) (base := base) F_square_gap F_overshoot b_overshoot m_overshoot
  have G_li := ok_lies F_lies_in G_sg F_square_gap.kp b_square_gap m_square_gap
  have G_in := ok_ins F_is_inside G_cp F_check_point.kp b_check_point m_check_point G_cr F_check_rectangle.kp b_check_rectangle m_check_rectangle G_li F_lies_in.kp b_lies_in m_lies_in
  have G_ga := ok_gapP F_gap G_cp F_check_point.kp b_check_point m_check_point G_cr F_check_rectangle.kp b_check_rectangle m_check_rectangle G_sg F_square_gap.kp b_square_gap m_square_gap
  have G_di := ok_dist F_distance G_cp F_check_point.kp b_check_point m_check_point F_square_distance b_square_distance m_square_distance
  have kb_in := kb_of (ps := ["point", "rectangle"]) (ks := ["rectangle", "point"]) F_is_inside rfl fun _ _ _ _ _ _ _ _ => rfl
  have kb_ga := kb_of (ps := ["point", "rectangle"]) (ks := ["rectangle", "point"]) F_gap rfl fun _ _ _ _ _ _ _ _ => rfl
  have kb_di := kb_of (ps := ["point", "other"]) (ks := ["other", "point"]) F_distance rfl fun _ _ _ _ _ _ _ _ => rfl
  exact ok_law F_law B (ok_source F_law_source B) F_law_source.kp b_law_source m_law_source G_spots F_law_spots.kp b_law_spots m_law_spots G_box F_law_box.kp b_law_box m_law_box
    (ok_holds F_law_holds B) F_law_holds.kp b_law_holds m_law_holds G_in F_is_inside.kp b_is_inside kb_in m_is_inside G_ga F_gap.kp b_gap kb_ga m_gap
    (ok_gapL F_law_gap B) F_law_gap.kp b_law_gap m_law_gap G_di F_distance.kp b_distance kb_di m_distance (ok_far F_law_far) F_law_far.kp b_law_far m_law_far
end Q2
open PySem PySem.W PyProof.Rows
set_option maxHeartbeats 0 in
theorem PySem.Challenge.cw_planesplits_k02_rectangles_and_distances_holds : PySem.Challenge.rw_planesplits_k02_rectangles_and_distances.Holds := by
  w_on; o_law; k_head; (case hw => w_witness2)
  k_fill
  refine L2.walk_of (l := PySem.Challenge.rw_planesplits_k02_rectangles_and_distances) (n := 63) (k := 7) (x := "_law_script") (CX := fun _ => L2.CX0) (sp := fun w => Q2.spLaw _) rfl (by decide) rfl ⟨rfl, by decide, by decide⟩ (fun w h Y => PySem.W.kIn_of Y) ?F (fun _ _ a ns hl _ hS => ⟨a, ns, rfl, hS, hl, fun _ => rfl⟩) (fun _ _ _ _ _ h => h)
  case F =>
    intro w mg fa h KX G hmg
    refine' Q2.all_mk KX G hmg ?a_is_integer ?l_is_integer ?c_is_integer ?k_is_integer ?a_is_coordinate ?l_is_coordinate ?c_is_coordinate ?k_is_coordinate ?a_is_point ?l_is_point ?c_is_point ?k_is_point ?a_is_end ?l_is_end ?c_is_end ?k_is_end ?a_are_in_order ?l_are_in_order ?c_are_in_order ?k_are_in_order ?a_is_rectangle ?l_is_rectangle ?c_is_rectangle ?k_is_rectangle ?a_check_point ?l_check_point ?c_check_point ?k_check_point ?a_check_rectangle ?l_check_rectangle ?c_check_rectangle ?k_check_rectangle ?a_lies_in ?l_lies_in ?c_lies_in ?k_lies_in ?a_square_distance ?l_square_distance ?c_square_distance ?k_square_distance ?a_overshoot ?l_overshoot ?c_overshoot ?k_overshoot ?a_square_gap ?l_square_gap ?c_square_gap ?k_square_gap ?a_is_inside ?l_is_inside ?c_is_inside ?k_is_inside ?a_distance ?l_distance ?c_distance ?k_distance ?a_gap ?l_gap ?c_gap ?k_gap ?a_law_mixed ?l_law_mixed ?c_law_mixed ?k_law_mixed ?a_law_source ?l_law_source ?c_law_source ?k_law_source ?a_law_take ?l_law_take ?c_law_take ?k_law_take ?a_law_pick ?l_law_pick ?c_law_pick ?k_law_pick ?a_law_spots ?l_law_spots ?c_law_spots ?k_law_spots ?a_law_end ?l_law_end ?c_law_end ?k_law_end ?a_law_box ?l_law_box ?c_law_box ?k_law_box ?a_law_holds ?l_law_holds ?c_law_holds ?k_law_holds ?a_law_gap ?l_law_gap ?c_law_gap ?k_law_gap ?a_law_far ?l_law_far ?c_law_far ?k_law_far ?a_law ?l_law ?c_law ?k_law ?w_FARTHEST_COORDINATE ?w_FARTHEST_END ?z_int ?z_abs ?z_len ?z_range ?z_isinstance ?z_bool ?z_tuple ?z_all ?z_repr
    (case a_is_integer => k_is)
    (case l_is_integer => k_is)
    (case c_is_integer => k_is)
    (case k_is_integer => k_is)
    (case a_is_coordinate => k_is)
    (case l_is_coordinate => k_is)
    (case c_is_coordinate => k_is)
    (case k_is_coordinate => k_is)
    (case a_is_point => k_is)
    (case l_is_point => k_is)
    (case c_is_point => k_is)
    (case k_is_point => k_is)
    (case a_is_end => k_is)
    (case l_is_end => k_is)
    (case c_is_end => k_is)
    (case k_is_end => k_is)
    (case a_are_in_order => k_is)
    (case l_are_in_order => k_is)
    (case c_are_in_order => k_is)
    (case k_are_in_order => k_is)
    (case a_is_rectangle => k_is)
    (case l_is_rectangle => k_is)
    (case c_is_rectangle => k_is)
    (case k_is_rectangle => k_is)
    (case a_check_point => k_is)
    (case l_check_point => k_is)
    (case c_check_point => k_is)
    (case k_check_point => k_is)
    (case a_check_rectangle => k_is)
    (case l_check_rectangle => k_is)
    (case c_check_rectangle => k_is)
    (case k_check_rectangle => k_is)
    (case a_lies_in => k_is)
    (case l_lies_in => k_is)
    (case c_lies_in => k_is)
    (case k_lies_in => k_is)
    (case a_square_distance => k_is)
    (case l_square_distance => k_is)
    (case c_square_distance => k_is)
    (case k_square_distance => k_is)
    (case a_overshoot => k_is)
    (case l_overshoot => k_is)
    (case c_overshoot => k_is)
    (case k_overshoot => k_is)
    (case a_square_gap => k_is)
    (case l_square_gap => k_is)
    (case c_square_gap => k_is)
    (case k_square_gap => k_is)
    (case a_is_inside => k_is)
    (case l_is_inside => k_is)
    (case c_is_inside => k_is)
    (case k_is_inside => k_is)
    (case a_distance => k_is)
    (case l_distance => k_is)
    (case c_distance => k_is)
    (case k_distance => k_is)
    (case a_gap => k_is)
    (case l_gap => k_is)
    (case c_gap => k_is)
    (case k_gap => k_is)
    (case a_law_mixed => k_is)
    (case l_law_mixed => k_is)
    (case c_law_mixed => k_is)
    (case k_law_mixed => k_is)
    (case a_law_source => k_is)
    (case l_law_source => k_is)
    (case c_law_source => k_is)
    (case k_law_source => k_is)
    (case a_law_take => k_is)
    (case l_law_take => k_is)
    (case c_law_take => k_is)
    (case k_law_take => k_is)
    (case a_law_pick => k_is)
    (case l_law_pick => k_is)
    (case c_law_pick => k_is)
    (case k_law_pick => k_is)
    (case a_law_spots => k_is)
    (case l_law_spots => k_is)
    (case c_law_spots => k_is)
    (case k_law_spots => k_is)
    (case a_law_end => k_is)
    (case l_law_end => k_is)
    (case c_law_end => k_is)
    (case k_law_end => k_is)
    (case a_law_box => k_is)
    (case l_law_box => k_is)
    (case c_law_box => k_is)
    (case k_law_box => k_is)
    (case a_law_holds => k_is)
    (case l_law_holds => k_is)
    (case c_law_holds => k_is)
    (case k_law_holds => k_is)
    (case a_law_gap => k_is)
    (case l_law_gap => k_is)
    (case c_law_gap => k_is)
    (case k_law_gap => k_is)
    (case a_law_far => k_is)
    (case l_law_far => k_is)
    (case c_law_far => k_is)
    (case k_law_far => k_is)
    (case a_law => k_is)
    (case l_law => k_is)
    (case c_law => k_is)
    (case k_law => k_is)
    (case w_FARTHEST_COORDINATE => k_is)
    (case w_FARTHEST_END => k_is)
    (case z_int => k_is)
    (case z_abs => k_is)
    (case z_len => k_is)
    (case z_range => k_is)
    (case z_isinstance => k_is)
    (case z_bool => k_is)
    (case z_tuple => k_is)
    (case z_all => k_is)
    (case z_repr => k_is)

