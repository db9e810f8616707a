import PyProof.Rows.All
import Wide.All
import OpenK.AllK
import Wide.FinOn
import HandS.ForMost
import HandS.Wide
import HandS.Deep
import HandS.IsInst
import HandS.Walk
import HandS.Conv
import HandS.Dict
import HandS.More
import HandS.WideBits
import KE.GoesRev
import HandS.HeadHook3
import PySem.Challenge.RW_planesplits_k75_whole_growth_of_greatest
set_option Elab.async false
set_option linter.all false
set_option maxRecDepth 100000
set_option maxHeartbeats 4000000
namespace Q2
open PySem PySem.Spec PyProof.Rows L2
/-! ### rules that the layer lacks -/
section
variable {X : Cx}
/-- x ** n of great ints -/
def CPowW (i j : Int) : Prop := 0 ≤ j ∧ (Builtin.Int.intBits i : Int) * j ≤ 2 ^ 27
theorem op_powW : OpR X (binaryOp .Pow) (rI CPowW fun i j => .int (i ^ j.toNat)) := opI fun _ _ _ _ _ _ _ hc q => pow_int hc.1 hc.2 q
theorem powW2 {i : Int} (h : i.natAbs < 2 ^ 1000) : CPowW i 2 := by
  have h1 := PySem.Flt.log2_lt_of (by decide : 0 < 1000) h
  have h2 : Builtin.Int.intBits i ≤ i.natAbs.log2 + 1 := by
    unfold Builtin.Int.intBits
    split <;> omega
  refine ⟨by decide, ?_⟩
  have h3 : ((2 : Int) ^ 27) = 134217728 := by decide
  rw [h3]
  omega
/-- list + list, either of which may be read only -/
def rCatL (K : PySem.W.Frag) : R2 := fun x y H Q => ∃ l b xs zs, x = .ref l ∧ y = .ref b ∧ SqL K H l xs ∧ SqL K H b zs ∧ xs.length + zs.length ≤ sizeLine ∧ ∀ p, H p = none → Q (.ref p) (upd H p (.lst (xs ++ zs)))
theorem op_catL : OpR X (binaryOp .Add) (rCatL X.K) := by
  intro pins s σ H x y v u Q I rx ry h
  obtain ⟨l, b, xs, zs, rfl, rfl, hH, hB, hz, q⟩ := h
  cases rx
  cases ry
  obtain ⟨its, r, ⟨⟨cls, dd, data, sl⟩, n, ho, hc, hdn, hdt⟩, hl⟩ := I.list hH
  obtain ⟨its2, r2, ⟨⟨cls2, dd2, data2, sl2⟩, n2, ho2, hc2, hdn2, hdt2⟩, hl2⟩ := I.list hB
  simp only at hc hdt hc2 hdt2
  subst hc hdt hc2 hdt2
  have e1 := r.length
  have e2 := r2.length
  refine concat_meets ⟨_, ho, rfl⟩ ⟨_, ho2, rfl⟩ noFill_list_add seq_list_add PySem.F.slot_list_add PySem.F.entry_list_add (PySem.F.args_list_add_2 _ _) (list_addW l b its.toArray its2.toArray n n2 dd dd2 sl sl2 (by simp only [List.size_toArray]; omega)) ⟨ho, ho2, ?_⟩
  have ea : its.toArray ++ its2.toArray = (its ++ its2).toArray := by simp
  rw [ea]
  exact ⟨.ref _, _, I.lnew (t' := s.toks) (r.append r2) (by rw [List.length_append]; omega), rfl, q _ I.fresh⟩
/-- repr of a bool -/
def bStr (b : Bool) : Str := if b then "True" else "False"
theorem call_repr_bool : CallR X (.builtin "repr") (fun xs H Q => ∃ b, xs = [.bl b] ∧ Q (.str (bStr b)) H) := by
  intro pins s σ H xs us Q I r h
  obtain ⟨b, rfl, q⟩ := h
  cases r with
  | cons r1 r2 =>
    cases r2
    cases r1
    exact PySem.P.repr_of_bool ⟨.str _, H, I.tok _, ⟨_, rfl⟩, q⟩
section
variable {CX : CXT} {k : Nat} {f : Addr} {fd : FuncData} {ps ks : List Str} {sp : Sp} {E : XK} {x : Str} {p pos : Pos} {kws : List Keyword} {tk : TA} {g : List Value → List Value → List Value} {gV : List V → List V → List V}
/-- f(k = v, ..) -/
theorem pe_callK0 (F : FnOk X.prog X.w X.K X.mg X.base CX k f fd ps sp) (hr : Room k X.A) (hg : Gl X x) (hm : X.mg x = some (.ref f)) (hk : PySem.W.keepIn X.K (.ref f) = true) (hb : KBinds X.K fd ps ks g gV) (hx : Passes CX X E)
    (hkw : PK X kws tk) (hall : (backToKw pos (keywordEach kws X.env)).all (·.1.isSome) = true := by rfl) (hks : (backToKw pos (keywordEach kws X.env)).filterMap (·.1) = ks := by rfl)
    (hdb : (x == ("__debug__" : Str)) = false := by decide)
    (hpl : ((backTo pos (starEach [] X.env)).any (·.1) || (backToKw pos (keywordEach kws X.env)).any (·.1.isNone)) = false := by rfl) :
    PE X (.Call (.Name x p) [] kws pos) (tCallK sp gV E tNil tk) := by
  refine ⟨fun pins s σ H Q I h => ?_⟩
  refine wpAny_Call_Name_kw (ld_glob I hg hm ?_ hdb)
  refine PySem.W.callWith_KW0 (h₀ := X.base) I.ok.mod.kin hk hall ?_ hpl
  refine thn (hkw.run pos pins s σ H _ I h) fun ws s2 ⟨zs, H2, I2, rz, q2⟩ => ⟨I2.kIn, ?_⟩
  rw [hks]
  exact run_fnk F hr hb hx I2 .nil rz q2
end
end
/-! ### heaps -/
/-- all that was tracked stands, but what is at s -/
def Ex (s : Addr) (H H' : Hp) : Prop := ∀ b o, H b = some o → b ≠ s → H' b = some o
theorem Ex.refl (s : Addr) (H : Hp) : Ex s H H := fun _ _ h _ => h
theorem Ex.trans {s : Addr} {H H1 H2 : Hp} (a : Ex s H H1) (b : Ex s H1 H2) : Ex s H H2 := fun c o h n => b c o (a c o h n) n
theorem Ex.same {s : Addr} {H H' : Hp} (e : Same H H') : Ex s H H' := fun b o h _ => e b o h
theorem Ex.put {s : Addr} {H : Hp} {o : HO} : Ex s H (upd H s o) := fun b o' h n => by rw [upd_ne n]; exact h
theorem same_new {H : Hp} {p : Addr} {o : HO} (h : H p = none) : Same H (upd H p o) := fun b x e => by
  rw [upd_ne (ne_of_none e h)]
  exact e
/-- the source: a list of three ints, the first not negative -/
def Src (H : Hp) (s : Addr) : Prop := ∃ a b c : Int, 0 ≤ a ∧ H s = some (.lst [.int a, .int b, .int c])
theorem Src.same {H H' : Hp} {s : Addr} (e : Same H H') (h : Src H s) : Src H' s := by
  obtain ⟨a, b, c, h0, h⟩ := h
  exact ⟨a, b, c, h0, e _ _ h⟩
theorem Src.ne {H : Hp} {s p : Addr} (h : Src H s) (hp : H p = none) : p ≠ s := by
  obtain ⟨a, b, c, h0, h⟩ := h
  exact (ne_of_none h hp).symm
/-- points that stand in the heap -/
abbrev Pts := List (Addr × Int × Int)
def PtAt (H : Hp) (B : Int) (q : Addr × Int × Int) : Prop := H q.1 = some (.tup [.int q.2.1, .int q.2.2]) ∧ (-B ≤ q.2.1 ∧ q.2.1 ≤ B) ∧ (-B ≤ q.2.2 ∧ q.2.2 ≤ B)
def Spots (H : Hp) (B : Int) (a : Addr) (ps : Pts) : Prop := H a = some (.lst (ps.map fun q => V.ref q.1)) ∧ ps.length ≤ 40 ∧ ∀ q ∈ ps, PtAt H B q
theorem PtAt.same {H H' : Hp} {B : Int} {q : Addr × Int × Int} (e : Same H H') (h : PtAt H B q) : PtAt H' B q := ⟨e _ _ h.1, h.2⟩
theorem PtAt.ex {H H' : Hp} {B : Int} {s : Addr} {q : Addr × Int × Int} (hs : Src H s) (e : Ex s H H') (h : PtAt H B q) : PtAt H' B q := by
  obtain ⟨a, b, c, h0, hs⟩ := hs
  exact ⟨e _ _ h.1 (ne_of h.1 hs (by intro z; cases z)), h.2⟩
theorem Spots.same {H H' : Hp} {B : Int} {a : Addr} {ps : Pts} (e : Same H H') (h : Spots H B a ps) : Spots H' B a ps := ⟨e _ _ h.1, h.2.1, fun q hq => (h.2.2 q hq).same e⟩
theorem Spots.ex {H H' : Hp} {B : Int} {s a : Addr} {ps : Pts} (hs : Src H s) (n : a ≠ s) (e : Ex s H H') (h : Spots H B a ps) : Spots H' B a ps := ⟨e _ _ h.1 n, h.2.1, fun q hq => (h.2.2 q hq).ex hs e⟩
theorem small40 {n : Nat} (h : n ≤ 1000) : n ≤ sizeLine := Nat.le_of_lt (small1000 h)
/-! ### a tuple's equality as data -/
def ptD (z : Int × Int) : PyData := .tuple [.int z.1, .int z.2]
theorem ptD_lay (z : Int × Int) : (ptD z).canLay0 = true := by simp [ptD, PyData.canLay0, PyData.canLayAll0]
theorem ptD_depth (z : Int × Int) : (ptD z).depth = 1 := by simp [ptD, PyData.depth, PyData.depthAll]
theorem ptDs_lay : ∀ zs : List (Int × Int), PyData.canLayAll0 (zs.map ptD) = true
  | [] => by simp [PyData.canLayAll0]
  | z :: zs => by simp [PyData.canLayAll0, ptD_lay z, ptDs_lay zs]
theorem ptDs_depth : ∀ zs : List (Int × Int), PyData.depthAll (zs.map ptD) ≤ 2
  | [] => by simp [PyData.depthAll]
  | z :: zs => by
    have h1 := ptDs_depth zs
    have h2 := ptD_depth z
    simp only [List.map_cons, PyData.depthAll]
    omega
theorem ptD_shaped (z : Int × Int) : SeqAt.shaped (ptD z) = true := by
  have h := ptD_depth z
  show ((ptD z).canLay0 && decide ((ptD z).depth ≤ 64)) = true
  rw [Bool.and_eq_true]
  exact ⟨ptD_lay z, decide_eq_true (by omega)⟩
theorem ptDs_shaped (zs : List (Int × Int)) : SeqAt.shaped (.list (zs.map ptD)) = true := by
  have h1 := ptDs_depth zs
  have h2 : PyData.depth (.list (zs.map ptD)) ≤ 64 := by
    simp only [PyData.depth]
    omega
  show (PyData.canLay0 (.list (zs.map ptD)) && decide (PyData.depth (.list (zs.map ptD)) ≤ 64)) = true
  rw [Bool.and_eq_true]
  exact ⟨by simp only [PyData.canLay0]; exact ptDs_lay zs, decide_eq_true h2⟩
theorem ptD_eqv (z w : Int × Int) : PyData.eqv (ptD z) (ptD w) = decide (z = w) := by
  obtain ⟨a, b⟩ := z
  obtain ⟨a', b'⟩ := w
  have e : PyData.eqv (ptD (a, b)) (ptD (a', b')) = ((a == a') && ((b == b') && true)) := by simp only [ptD, PyData.eqv, PyData.eqvAll]
  rw [e]
  by_cases h : a = a'
  · by_cases h2 : b = b'
    · subst h h2
      simp
    · simp [h, h2]
  · simp [h]
theorem dp_pt {K : PySem.W.Frag} {H : Hp} {B : Int} {q : Addr × Int × Int} (h : PtAt H B q) : Dp K H (.ref q.1) (ptD q.2) := .tup (SqT.of h.1) (.cons (.int _) (.cons (.int _) .nil))
theorem dp_pts {K : PySem.W.Frag} {H : Hp} {B : Int} : ∀ {ps : Pts}, (∀ q ∈ ps, PtAt H B q) → DpAll K H (ps.map fun q => V.ref q.1) ((ps.map (·.2)).map ptD)
  | [], _ => .nil
  | q :: ps, h => .cons (dp_pt (h q (List.mem_cons_self ..))) (dp_pts fun z hz => h z (List.mem_cons_of_mem _ hz))
theorem dp_spots {K : PySem.W.Frag} {H : Hp} {B : Int} {a : Addr} {ps : Pts} (h : Spots H B a ps) : Dp K H (.ref a) (.list ((ps.map (·.2)).map ptD)) := .lst (SqL.of h.1) (dp_pts h.2.2)
theorem any_pt (zs : List (Int × Int)) (w : Int × Int) : ((zs.map ptD).any fun z => PyData.eqv z (ptD w)) = decide (w ∈ zs) := by
  induction zs with
  | nil => simp
  | cons z zs ih =>
    rw [List.map_cons, List.any_cons, ih, ptD_eqv]
    by_cases h : z = w
    · subst h
      simp
    · have h' : ¬ w = z := fun e => h e.symm
      simp [h, h']
end Q2

namespace Q2
open PySem PySem.Spec PyProof.Rows L2
def top (i : Nat) : Stmt := PySem.Challenge.pw_planesplits_k75_whole_growth_of_greatest.main.body.getD i (.Pass ⟨0, 0, 0, 0⟩)
abbrev s_check_number : Stmt := top 4
abbrev s_check_state : Stmt := top 10
abbrev s_next_row : Stmt := top 11
abbrev s_rows_for : Stmt := top 12
abbrev s_greatest : Stmt := top 13
abbrev s_most_useless : Stmt := top 14
abbrev s_most_counted : Stmt := top 15
abbrev s_law_mixed : Stmt := top 17
abbrev s_law_source : Stmt := top 18
abbrev s_law_take : Stmt := top 19
abbrev s_law_pick : Stmt := top 20
abbrev s_law_states : Stmt := top 21
abbrev s_law_half_plane : Stmt := top 22
abbrev s_law_closed_right : Stmt := top 23
abbrev s_law_order_right : Stmt := top 24
abbrev s_law : Stmt := top 25
end Q2


namespace Q2
open PySem PySem.Spec PyProof.Rows L2
/-! ### the built-ins that stand as they were -/
structure Bt (mg : Str → Option Value) : Prop where
  int : mg "int" = none
  abs : mg "abs" = none
  len : mg "len" = none
  range : mg "range" = none
  isi : mg "isinstance" = none
  bool : mg "bool" = none
  tuple : mg "tuple" = none
  all : mg "all" = none
  repr : mg "repr" = none
abbrev Lo : Int := 1000000000000000000000000000000
abbrev FnP (K : PySem.W.Frag) (x : Str) (st : Stmt) (f : Addr) (fd : FuncData) : Prop := Fun K x x st f fd
theorem mod_rng {m : Int} (x : Int) (h : 0 < m) (hm : m ≤ 2147483647) : 0 ≤ x % m ∧ x % m ≤ 2147483646 := by
  have h1 := Int.emod_nonneg x (by omega : m ≠ 0)
  have h2 := Int.emod_lt_of_pos x h
  omega
theorem cmul_l {i j : Int} (h : 0 ≤ i ∧ i ≤ 4294967296) : CMul i j := .inl ⟨by omega, by omega⟩
theorem cdiv_w {i j : Int} (h : 0 < j) (h2 : j ≤ 10000000000000000000000000000000000000000) : CDivW i j := wide_div (b := 200) h (by omega) (by decide) (by decide)
section
variable {P : Program} {w : World} {K : PySem.W.Frag} {mg : Str → Option Value} {base : Heap}
/-! ### _law_mixed -/
theorem scMixed : FnScope ["_law_cell", "_law_draw", "_law_figure"] ["_law_cell", "_law_draw"] (defScope s_law_mixed) := ⟨rfl, rfl, rfl, by decide +kernel, rfl, by decide +kernel, by decide +kernel⟩
def spMixed : Sp := fun vs H Q _ => ∃ a b : Int, vs = [.int a, .int b] ∧ ∀ d : Int, 0 ≤ d → Q (.int d) H
theorem ok_mixed {f : Addr} {fd : FuncData} (F : FnP K "_law_mixed" s_law_mixed f fd) (B : Bt mg) : FnOk P w K mg base CX0 1 f fd ["_law_cell", "_law_draw"] spMixed := by
  refine F.ok scMixed (fun vs H Q E h => ?_) (fun cdv A outer s H vs Q E hr h => ?_)
  · obtain ⟨a, b, rfl, _⟩ := h
    rfl
  · obtain ⟨a, b, rfl, q⟩ := h
    refine ⟨_, pss_cons (ps_set (i := 2) scMixed.nd rfl (.inl rfl) (pe_op op_mod (pe_callTy call_int1 (by rfl) B.int (by decide +kernel) (pa_cons (pe_op op_mul (pe_op op_add (pe_op op_mod (pe_callTy call_int1 (by rfl) B.int (by decide +kernel) (pa_cons (pv 0) pa_nil)) pe_int) pe_int) (pe_op op_add (pe_op op_mul (pv 1) pe_int) pe_int)) pa_nil)) pe_int))
      (pss_cons (ps_set (i := 2) scMixed.nd rfl (.inl rfl) (pe_op op_mod (pe_callTy call_int1 (by rfl) B.int (by decide +kernel) (pa_cons (pe_op op_mul (pe_op op_add (pv 2) (pe_op op_mul (pe_op op_mod (pe_callTy call_int1 (by rfl) B.int (by decide +kernel) (pa_cons (pe_op op_fdivW (pv 0) pe_int) pa_nil)) pe_int) (pe_op op_add (pv 1) pe_int))) pe_int) pa_nil)) pe_int))
      (pss_cons (ps_set (i := 2) scMixed.nd rfl (.inl rfl) (pe_op op_mod (pe_callTy call_int1 (by rfl) B.int (by decide +kernel) (pa_cons (pe_op op_mul (pv 2) (pe_op op_add (pe_op op_add (pe_op op_fdiv (pv 2) pe_int) pe_int) (pv 1))) pa_nil)) pe_int))
      (pss_one (ps_ret (pe_op op_mod (pe_callTy call_int1 (by rfl) B.int (by decide +kernel) (pa_cons (pe_op op_mul (pv 2) (pe_op op_add (pe_op op_fdiv (pv 2) pe_int) pe_int)) pa_nil)) pe_int))))), ?_⟩
    -- the first figure
    have m0 := mod_rng (m := 2147483646) a (by decide) (by decide)
    refine ⟨_, rfl, .inl ⟨_, rfl, _, _, rfl, rfl, (by decide : (0 : Int) < 2147483646), _, _, rfl, rfl, _, rfl, _, _, rfl, rfl, .inr ⟨by decide, by decide⟩, _, _, rfl, rfl, _, _, rfl, rfl, cmul_l (by omega), .inl ⟨_, rfl, _, _, rfl, rfl, (by decide : (0 : Int) < 2147483647), ?_⟩⟩⟩
    have m1 := mod_rng (m := 2147483647) ((a % 2147483646 + 1) * (b * 7919 + 104729)) (by decide) (by decide)
    generalize ((a % 2147483646 + 1) * (b * 7919 + 104729)) % 2147483647 = g1 at m1 ⊢
    -- the second
    have m2 := mod_rng (m := 1000003) (a / 2147483646) (by decide) (by decide)
    refine ⟨_, rfl, _, rfl, _, _, rfl, rfl, cdiv_w (by decide) (by decide), .inl ⟨_, rfl, _, _, rfl, rfl, (by decide : (0 : Int) < 1000003), _, rfl, _, _, rfl, rfl, _, _, rfl, rfl, cmul_l (by omega), _, _, rfl, rfl, _, _, rfl, rfl, .inr ⟨by decide, by decide⟩, .inl ⟨_, rfl, _, _, rfl, rfl, (by decide : (0 : Int) < 2147483629), ?_⟩⟩⟩
    have m3 := mod_rng (m := 2147483629) ((g1 + a / 2147483646 % 1000003 * (b + 31)) * 48271) (by decide) (by decide)
    generalize ((g1 + a / 2147483646 % 1000003 * (b + 31)) * 48271) % 2147483629 = g2 at m3 ⊢
    -- the third
    refine ⟨_, rfl, _, rfl, _, _, rfl, rfl, ⟨by decide, by decide⟩, _, _, rfl, rfl, _, rfl, _, _, rfl, rfl, _, _, rfl, rfl, cmul_l (by omega), .inl ⟨_, rfl, _, _, rfl, rfl, (by decide : (0 : Int) < 2147483587), ?_⟩⟩
    have m4 := mod_rng (m := 2147483587) (g2 * (g2 / 1013 + 69621 + b)) (by decide) (by decide)
    generalize (g2 * (g2 / 1013 + 69621 + b)) % 2147483587 = g3 at m4 ⊢
    refine ⟨_, rfl, _, rfl, _, _, rfl, rfl, ⟨by decide, by decide⟩, _, _, rfl, rfl, _, _, rfl, rfl, cmul_l (by omega), .inl ⟨_, rfl, _, _, rfl, rfl, (by decide : (0 : Int) < 2147483563), ?_⟩⟩
    exact q _ (Int.emod_nonneg _ (by decide))
/-! ### _law_source -/
theorem scSource : FnScope ["_law_cell"] ["_law_cell"] (defScope s_law_source) := ⟨rfl, rfl, rfl, by decide +kernel, rfl, by decide +kernel, by decide +kernel⟩
def spSource : Sp := fun vs H Q _ => ∃ n : Int, vs = [.int n] ∧ ∀ s H', Same H H' → H s = none → Src H' s → Q (.ref s) H'
theorem ok_source {f : Addr} {fd : FuncData} (F : FnP K "_law_source" s_law_source f fd) (B : Bt mg) : FnOk P w K mg base CX0 1 f fd ["_law_cell"] spSource := by
  refine F.ok scSource (fun vs H Q E h => ?_) (fun cdv A outer s H vs Q E hr h => ?_)
  · obtain ⟨a, rfl, _⟩ := h
    rfl
  · obtain ⟨a, rfl, q⟩ := h
    refine ⟨_, pss_cons (ps_if (pt_cmpR op_ge (pe_callB call_abs (by rfl) B.abs (by decide +kernel) (pa_cons (pv 0) pa_nil)) (pe_op op_pow pe_int pe_int) (nomark _))
        (pss_one (ps_ret (pe_lst (pa_cons (pe_callB call_abs (by rfl) B.abs (by decide +kernel) (pa_cons (pv 0) pa_nil)) (pa_cons (pe_callB call_abs (by rfl) B.abs (by decide +kernel) (pa_cons (pv 0) pa_nil)) (pa_cons pe_int pa_nil)))))) pss_nil)
      (pss_one (ps_ret (pe_lst (pa_cons pe_int (pa_cons (pe_callB call_abs (by rfl) B.abs (by decide +kernel) (pa_cons (pv 0) pa_nil)) (pa_cons pe_int pa_nil)))))), ?_⟩
    have h0 : (0 : Int) ≤ (if a < 0 then -a else a) := by split <;> omega
    refine ⟨_, rfl, _, rfl, _, _, rfl, rfl, ⟨by decide, by decide, by decide⟩, _, _, rfl, rfl, _, rfl, ite2 (fun _ => ?_) (fun _ => ?_)⟩
    · refine ⟨_, rfl, _, rfl, _, rfl, _, rfl, (by show 3 ≤ sizeLine; decide), fun l hl => ?_⟩
      exact q l _ (same_new hl) hl ⟨_, _, _, h0, upd_same⟩
    · refine ⟨_, rfl, _, rfl, (by show 3 ≤ sizeLine; decide), fun l hl => ?_⟩
      exact q l _ (same_new hl) hl ⟨_, _, _, Int.le_refl _, upd_same⟩
/-! ### _law_take -/
theorem scTake : FnScope ["_law_source_here", "_law_bound", "_law_drawn"] ["_law_source_here", "_law_bound"] (defScope s_law_take) := ⟨rfl, rfl, rfl, by decide +kernel, rfl, by decide +kernel, by decide +kernel⟩
def spTake : Sp := fun vs H Q _ => ∃ (s : Addr) (n : Int), vs = [.ref s, .int n] ∧ Src H s ∧ 0 < n ∧ n ≤ 10000000000000000000000000000000000000000 ∧ ∀ (d : Int) H', 0 ≤ d → d < n → Src H' s → Ex s H H' → Q (.int d) H'
theorem ok_take {f fM : Addr} {fd fdM : FuncData} (F : FnP K "_law_take" s_law_take f fd) (B : Bt mg) (FM : FnP K "_law_mixed" s_law_mixed fM fdM) (bM : Binds K fdM ["_law_cell", "_law_draw"] []) (gM : mg "_law_mixed" = some (.ref fM)) : FnOk P w K mg base CX0 2 f fd ["_law_source_here", "_law_bound"] spTake := by
  have GM : FnOk P w K mg base CX0 1 fM fdM ["_law_cell", "_law_draw"] spMixed := ok_mixed FM B
  refine F.ok scTake (fun vs H Q E h => ?_) (fun cdv A outer s H vs Q E hr h => ?_)
  · obtain ⟨a, b, rfl, _⟩ := h
    rfl
  · obtain ⟨p, n, rfl, ⟨a, b, c, h0, hS⟩, n0, n1, q⟩ := h
    refine ⟨_, pss_cons (ps_if (pt_cmpR op_gt (pe_ix ix_list (pv 0) pe_int (fun _ _ => rfl)) pe_int (nomark _))
        (pss_cons (ps_set (i := 2) scTake.nd rfl (.inl rfl) (pe_op op_mod (pe_callTy call_int1 (by rfl) B.int (by decide +kernel) (pa_cons (pe_ix ix_list (pv 0) pe_int (fun _ _ => rfl)) pa_nil)) (pv 1)))
        (pss_cons (ps_asg (pe_op op_fdivW (pe_ix ix_list (pv 0) pe_int (fun _ _ => rfl)) (pv 1)) (pg_sub (pv 0) pe_int set_list))
        (pss_one (ps_ret (pv 2))))) pss_nil)
      (pss_cons (ps_asg (pe_op op_add (pe_ix ix_list (pv 0) pe_int (fun _ _ => rfl)) pe_int) (pg_sub (pv 0) pe_int set_list))
      (pss_one (ps_ret (pe_op op_mod (pe_callTy call_int1 (by rfl) B.int (by decide +kernel) (pa_cons (pe_call GM hr (by rfl) gM FM.kp bM .nil pass0 (pa_cons (pe_ix ix_list (pv 0) pe_int (fun _ _ => rfl)) (pa_cons (pe_ix ix_list (pv 0) pe_int (fun _ _ => rfl)) pa_nil))) pa_nil)) (pv 1))))), ?_⟩
    refine ⟨_, rfl, p, _, 0, .int a, rfl, rfl, SqL.of hS, atI_nat (j := 0) rfl, _, _, rfl, rfl, _, rfl, ite2 (fun e => ?_) (fun e => ?_)⟩
    · have ea : 0 < a := of_decide_eq_true e
      refine ⟨_, rfl, p, _, 0, .int a, rfl, rfl, SqL.of hS, atI_nat (j := 0) rfl, .inl ⟨_, rfl, _, rfl, _, _, rfl, rfl, n0, ?_⟩⟩
      refine ⟨_, rfl, p, _, 0, .int a, rfl, rfl, SqL.of hS, atI_nat (j := 0) rfl, _, rfl, _, _, rfl, rfl, cdiv_w n0 n1, _, rfl, p, _, 0, 0, rfl, rfl, hS, rfl, ?_⟩
      exact ⟨_, rfl, q _ _ (Int.emod_nonneg _ (by omega)) (Int.emod_lt_of_pos _ n0) ⟨_, b, c, Int.ediv_nonneg h0 (by omega), upd_same⟩ Ex.put⟩
    · refine ⟨_, rfl, p, _, 2, .int c, rfl, rfl, SqL.of hS, atI_nat (j := 2) rfl, _, _, rfl, rfl, _, rfl, p, _, 2, 2, rfl, rfl, hS, rfl, ?_⟩
      refine ⟨_, rfl, p, _, 1, .int b, rfl, rfl, SqL.of upd_same, atI_nat (j := 1) rfl, _, rfl, p, _, 2, .int (c + 1), rfl, rfl, SqL.of upd_same, atI_nat (j := 2) rfl, b, c + 1, rfl, fun d hd => ?_⟩
      refine .inl ⟨_, rfl, _, rfl, _, _, rfl, rfl, n0, ?_⟩
      exact q _ _ (Int.emod_nonneg _ (by omega)) (Int.emod_lt_of_pos _ n0) ⟨a, b, c + 1, h0, upd_same⟩ Ex.put
/-! ### _law_pick -/
theorem scPick : FnScope ["_law_source_here", "_law_some"] ["_law_source_here", "_law_some"] (defScope s_law_pick) := ⟨rfl, rfl, rfl, by decide +kernel, rfl, by decide +kernel, by decide +kernel⟩
def spPick : Sp := fun vs H Q _ => ∃ (s l : Addr) (xs : List V), vs = [.ref s, .ref l] ∧ Src H s ∧ l ≠ s ∧ H l = some (.lst xs) ∧ xs ≠ [] ∧ xs.length ≤ 1000 ∧ ∀ v H', v ∈ xs → Src H' s → Ex s H H' → Q v H'
theorem ok_pick {f fT fM : Addr} {fd fdT fdM : FuncData} (F : FnP K "_law_pick" s_law_pick f fd) (B : Bt mg) (GT : FnOk P w K mg base CX0 2 fT fdT ["_law_source_here", "_law_bound"] spTake) (kT : PySem.W.keepIn K (.ref fT) = true) (bT : Binds K fdT ["_law_source_here", "_law_bound"] []) (gT : mg "_law_take" = some (.ref fT)) : FnOk P w K mg base CX0 3 f fd ["_law_source_here", "_law_some"] spPick := by
  refine F.ok scPick (fun vs H Q E h => ?_) (fun cdv A outer s H vs Q E hr h => ?_)
  · obtain ⟨a, b, xs, rfl, _⟩ := h
    rfl
  · obtain ⟨p, l, xs, rfl, hS, hne, hl, hx, hlen, q⟩ := h
    refine ⟨_, pss_one (ps_ret (pe_ix ix_list (pv 1) (pe_call GT hr (by rfl) gT kT bT .nil pass0 (pa_cons (pv 0) (pa_cons (pe_callB call_len_seq (by rfl) B.len PySem.boot_len (pa_cons (pv 1) pa_nil)) pa_nil))) (fun _ _ => rfl))), ?_⟩
    have hpos : 0 < xs.length := List.length_pos_iff.mpr hx
    refine ⟨_, rfl, _, rfl, _, rfl, l, xs, rfl, .inl (SqL.of hl), p, (xs.length : Int), rfl, hS, (by omega), (by omega), fun d H' d0 d1 hS' e => ?_⟩
    have hl' : H' l = some (.lst xs) := e _ _ hl hne
    have hd : d.toNat < xs.length := by omega
    refine ⟨l, xs, d, xs[d.toNat], rfl, rfl, SqL.of hl', at_of (j := d.toNat) (by omega) (List.getElem?_eq_getElem hd), ?_⟩
    exact q _ _ (List.getElem_mem hd) hS' e
end
end Q2

namespace Q2
open PySem PySem.Spec PyProof.Rows L2
/-! ### reversed(range(n)) -/
theorem smallRev_up {n : Int} (h0 : 0 ≤ n) (h1 : n < 1000000) : Builtin.Range.smallRev 0 n 1 = true := by
  unfold Builtin.Range.smallRev
  have e : Builtin.Range.rangeSize 0 n 1 = ((n - 0).toNat : Nat) := rangeSize_nat 0 n
  rw [e]
  simp only [Builtin.Range.rangeFitsLong, Bool.and_eq_true, decide_eq_true_eq]
  omega
def iRevRg (te : L2.St → Hp → (Int → Int → Hp → Prop) → Prop) : TI := fun σ H R => te σ H fun a b H1 => a = 0 ∧ 0 ≤ b ∧ b < 1000000 ∧ R (Itc (b - 1) (-1) b.toNat) H1
section
variable {X : Cx} {tg : Expr}
theorem pi_revRg {e : Expr} {te : L2.St → Hp → (Int → Int → Hp → Prop) → Prop} {p pos : Pos} (hg : Gl X "reversed") (hm : X.mg "reversed" = none) (he : PRg X e te) (na : starEach [e] X.env = (false, eval e X.env) :: starEach [] X.env := by rfl) : PI X tg (.Call (.Name "reversed" p) [e] [] pos) (iRevRg te) := by
  refine ⟨fun pins s σ H R I h => ?_⟩
  refine Call_ (ld_blt I hg hm PyProof.Rows.boot_reversed (PyProof.Rows.callWith_type1 (args_cons (thn (he pins s σ H _ I h) fun x s1 ⟨r, a, b, t, u, v, H1, ex, hr, I1, z, b0, b1, q⟩ => args_nil ?_) na) na))
  subst ex
  subst z
  refine PySem.reversed_range (n := (b - 0).toNat) hr (smallRev_up b0 b1) (rangeSize_nat 0 b) fun h' hi hs hk => ?_
  refine wpAny_pyIter_rangeiter hi ?_
  have I2 : Inv X pins σ H1 { s1 with heap := h' } := I1.kept (t' := s1.toks) hk
  refine ⟨s1.heap.objs.size, [s1.heap.objs.size], _, _, H1, rfl, I2, turn_rangeC _ (b - 1) (-1) b.toNat, ?_, fun c hc => ?_, q⟩
  · have e1 : 0 + (((b - 0).toNat : Nat) - 1 : Int) * 1 = b - 1 + ((0 : Nat) : Int) * (-1) := by omega
    have e2 : (((b - 0).toNat : Nat) : Int) = (b.toNat : Int) - ((0 : Nat) : Int) := by omega
    rw [e1] at hi
    show IsRangeIter _ _ (b - 1 + ((0 : Nat) : Int) * (-1)) ((b.toNat : Int) - ((0 : Nat) : Int)) (-1)
    rw [← e2]
    exact hi
  · have e : c = s1.heap.objs.size := by simpa using hc
    subst e
    exact I1.fpOk (Nat.le_refl _) (I1.hok.fresh (Nat.le_refl _))
end
theorem same_app {H H' : Hp} {D : Addr} {o : HO} (e : Same H H') (hD : H D = none) : Same H (upd H' D o) := fun b o' hb => by
  rw [upd_ne (ne_of_none hb hD)]
  exact e b o' hb
/-! ### what a def is, at one place -/
structure Dfn (P : Program) (w : World) (K : PySem.W.Frag) (mg : Str → Option Value) (base : Heap) (k : Nat) (x : Str) (f : Addr) (fd : FuncData) (ps : List Str) (sp : Sp) : Prop where
  ok : FnOk P w K mg base CX0 k f fd ps sp
  kp : PySem.W.keepIn K (.ref f) = true
  bd : Binds K fd ps []
  gl : mg x = some (.ref f)
end Q2

namespace Q2
/-! ### the greatest numbers of visits, as numbers -/
def hereW (c : Bool) (o : Nat) : Int := if c = true ∨ 0 < o then 1 else 0
def bestW (c : Bool) (lo hi : Nat → Nat → Int) (a o : Nat) : Int :=
  let b := hereW c o + lo o (a % 2) + hi o (a / 2 * 2)
  let b := if a % 2 = 1 then max b (1 + hi o a) else b
  if 2 ≤ a then max b (1 + lo o a) else b
def stepW (c : Bool) (lo hi : Nat → Nat → Int) (a o : Nat) : Int := if c = true ∧ a = 0 ∧ o = 0 then 1 else bestW c lo hi a o
def mostW (c : Bool) (n : Nat) : Nat → Nat → Int :=
  if h : n = 0 then fun _ _ => 0 else stepW c (mostW c (n / 2)) (mostW c (n - 1 - n / 2))
termination_by n
decreasing_by all_goals omega
theorem mostW0 (c : Bool) : mostW c 0 = fun _ _ => 0 := by rw [mostW, dif_pos rfl]
theorem mostWS (c : Bool) {n : Nat} (h : n ≠ 0) : mostW c n = stepW c (mostW c (n / 2)) (mostW c (n - 1 - n / 2)) := by rw [mostW, dif_neg h]
def rowW (f : Nat → Nat → Int) : List Int := (List.range 16).map fun i => f (i / 4) (i % 4)
theorem rowW_len (f : Nat → Nat → Int) : (rowW f).length = 16 := by simp [rowW]
theorem rowW_get (f : Nat → Nat → Int) {a o : Nat} (ha : a < 4) (ho : o < 4) : (rowW f)[4 * a + o]? = some (f a o) := by
  have h : 4 * a + o < 16 := by omega
  rw [rowW, List.getElem?_map, List.getElem?_range h, Option.map_some]
  have e1 : (4 * a + o) / 4 = a := by omega
  have e2 : (4 * a + o) % 4 = o := by omega
  rw [e1, e2]
/-- a row of greatest numbers of n points: more states, more visits; not more than the points -/
structure Okw (n : Int) (f : Nat → Nat → Int) : Prop where
  m01 : ∀ x, x < 4 → f 0 x ≤ f 1 x
  m02 : ∀ x, x < 4 → f 0 x ≤ f 2 x
  m13 : ∀ x, x < 4 → f 1 x ≤ f 3 x
  m23 : ∀ x, x < 4 → f 2 x ≤ f 3 x
  o01 : ∀ x, x < 4 → f x 0 ≤ f x 1
  o02 : ∀ x, x < 4 → f x 0 ≤ f x 2
  o13 : ∀ x, x < 4 → f x 1 ≤ f x 3
  o23 : ∀ x, x < 4 → f x 2 ≤ f x 3
  nn : ∀ x y, x < 4 → y < 4 → 0 ≤ f x y
  le : ∀ x y, x < 4 → y < 4 → f x y ≤ n
theorem four {P : Nat → Prop} (h0 : P 0) (h1 : P 1) (h2 : P 2) (h3 : P 3) : ∀ x, x < 4 → P x
  | 0, _ => h0 | 1, _ => h1 | 2, _ => h2 | 3, _ => h3
theorem bestW0 (c : Bool) (lo hi : Nat → Nat → Int) (o : Nat) : bestW c lo hi 0 o = hereW c o + lo o 0 + hi o 0 := rfl
theorem bestW1 (c : Bool) (lo hi : Nat → Nat → Int) (o : Nat) : bestW c lo hi 1 o = max (hereW c o + lo o 1 + hi o 0) (1 + hi o 1) := rfl
theorem bestW2 (c : Bool) (lo hi : Nat → Nat → Int) (o : Nat) : bestW c lo hi 2 o = max (hereW c o + lo o 0 + hi o 2) (1 + lo o 2) := rfl
theorem bestW3 (c : Bool) (lo hi : Nat → Nat → Int) (o : Nat) : bestW c lo hi 3 o = max (max (hereW c o + lo o 1 + hi o 2) (1 + hi o 3)) (1 + lo o 3) := rfl
theorem hereW0 : hereW false 0 = 0 := rfl
theorem hereWc (o : Nat) : hereW true o = 1 := by simp [hereW]
theorem hereWs (c : Bool) (o : Nat) : hereW c (o + 1) = 1 := by simp [hereW]
theorem hereW_01 (c : Bool) (o : Nat) : 0 ≤ hereW c o ∧ hereW c o ≤ 1 := by unfold hereW; split <;> omega
theorem stepF (lo hi : Nat → Nat → Int) (a o : Nat) : stepW false lo hi a o = bestW false lo hi a o := by simp [stepW]
theorem stepT0 (lo hi : Nat → Nat → Int) : stepW true lo hi 0 0 = 1 := by simp [stepW]
theorem stepTa (lo hi : Nat → Nat → Int) (a o : Nat) : stepW true lo hi (a + 1) o = bestW true lo hi (a + 1) o := by simp [stepW]
theorem stepTo (lo hi : Nat → Nat → Int) (a o : Nat) : stepW true lo hi a (o + 1) = bestW true lo hi a (o + 1) := by simp [stepW]
theorem okw_step {c : Bool} {m n : Int} {lo hi : Nat → Nat → Int} (L : Okw m lo) (R : Okw n hi) (hm : 0 ≤ m) (hn : 0 ≤ n) : Okw (1 + m + n) (stepW c lo hi) := by
  have l0 := fun x (h : x < 4) => And.intro (L.m01 x h) (And.intro (L.m02 x h) (And.intro (L.m13 x h) (And.intro (L.m23 x h) (And.intro (L.o01 x h) (And.intro (L.o02 x h) (And.intro (L.o13 x h) (L.o23 x h)))))))
  have r0 := fun x (h : x < 4) => And.intro (R.m01 x h) (And.intro (R.m02 x h) (And.intro (R.m13 x h) (And.intro (R.m23 x h) (And.intro (R.o01 x h) (And.intro (R.o02 x h) (And.intro (R.o13 x h) (R.o23 x h)))))))
  obtain ⟨a00, a01, a02, a03, a04, a05, a06, a07⟩ := l0 0 (by decide)
  obtain ⟨a10, a11, a12, a13, a14, a15, a16, a17⟩ := l0 1 (by decide)
  obtain ⟨a20, a21, a22, a23, a24, a25, a26, a27⟩ := l0 2 (by decide)
  obtain ⟨a30, a31, a32, a33, a34, a35, a36, a37⟩ := l0 3 (by decide)
  obtain ⟨b00, b01, b02, b03, b04, b05, b06, b07⟩ := r0 0 (by decide)
  obtain ⟨b10, b11, b12, b13, b14, b15, b16, b17⟩ := r0 1 (by decide)
  obtain ⟨b20, b21, b22, b23, b24, b25, b26, b27⟩ := r0 2 (by decide)
  obtain ⟨b30, b31, b32, b33, b34, b35, b36, b37⟩ := r0 3 (by decide)
  have l1 := L.nn 0 0 (by decide) (by decide)
  have l2 := L.le 3 3 (by decide) (by decide)
  have r1 := R.nn 0 0 (by decide) (by decide)
  have r2 := R.le 3 3 (by decide) (by decide)
  clear l0 r0 L R
  cases c
  · have e := fun a o => stepF lo hi a o
    have h0 := hereW0
    have h1 := hereWs false 0
    have h2 := hereWs false 1
    have h3 := hereWs false 2
    constructor
    all_goals first
      | (refine four ?_ ?_ ?_ ?_ <;> simp only [stepF, bestW0, bestW1, bestW2, bestW3, hereW0, h1, h2, h3] <;> omega)
      | (intro x y hx hy; revert y; revert x; refine four ?_ ?_ ?_ ?_ <;> refine four ?_ ?_ ?_ ?_ <;> simp only [stepF, bestW0, bestW1, bestW2, bestW3, hereW0, h1, h2, h3] <;> omega)
  · have ta0 := fun o => stepTa lo hi 0 o
    have ta1 := fun o => stepTa lo hi 1 o
    have ta2 := fun o => stepTa lo hi 2 o
    have to0 := stepTo lo hi 0 0
    have to1 := stepTo lo hi 0 1
    have to2 := stepTo lo hi 0 2
    simp only [Nat.zero_add, Nat.reduceAdd] at ta0 ta1 ta2 to0 to1 to2
    constructor
    all_goals first
      | (refine four ?_ ?_ ?_ ?_ <;> simp only [stepT0, ta0, ta1, ta2, to0, to1, to2, bestW0, bestW1, bestW2, bestW3, hereWc] <;> omega)
      | (intro x y hx hy; revert y; revert x; refine four ?_ ?_ ?_ ?_ <;> refine four ?_ ?_ ?_ ?_ <;> simp only [stepT0, ta0, ta1, ta2, to0, to1, to2, bestW0, bestW1, bestW2, bestW3, hereWc] <;> omega)
theorem okw_most (c : Bool) : ∀ n : Nat, Okw n (mostW c n) := by
  intro n
  induction n using Nat.strongRecOn with
  | _ n ih =>
    by_cases h : n = 0
    · subst h
      rw [mostW0]
      constructor <;> intros <;> omega
    · rw [mostWS c h]
      have q := okw_step (c := c) (ih (n / 2) (by omega)) (ih (n - 1 - n / 2) (by omega)) (by omega) (by omega)
      have e : (1 : Int) + ((n / 2 : Nat) : Int) + ((n - 1 - n / 2 : Nat) : Int) = (n : Int) := by omega
      rw [e] at q
      exact q
/-- not less are counted than useless -/
theorem less_step {lo hi lo' hi' : Nat → Nat → Int} (hl : ∀ a o, a < 4 → o < 4 → lo a o ≤ lo' a o) (hh : ∀ a o, a < 4 → o < 4 → hi a o ≤ hi' a o) (h0 : lo 0 0 = 0 ∧ hi 0 0 = 0) :
    (∀ a o, a < 4 → o < 4 → stepW false lo hi a o ≤ stepW true lo' hi' a o) ∧ stepW false lo hi 0 0 = 0 := by
  have h1 := hereWs false 0
  have h2 := hereWs false 1
  have h3 := hereWs false 2
  have ta0 := fun o => stepTa lo' hi' 0 o
  have ta1 := fun o => stepTa lo' hi' 1 o
  have ta2 := fun o => stepTa lo' hi' 2 o
  have to0 := stepTo lo' hi' 0 0
  have to1 := stepTo lo' hi' 0 1
  have to2 := stepTo lo' hi' 0 2
  simp only [Nat.zero_add, Nat.reduceAdd] at ta0 ta1 ta2 to0 to1 to2 h1 h2 h3
  have A := fun o (h : o < 4) => And.intro (And.intro (hl 0 o (by decide) h) (hl 1 o (by decide) h)) (And.intro (hl 2 o (by decide) h) (hl 3 o (by decide) h))
  have B := fun o (h : o < 4) => And.intro (And.intro (hh 0 o (by decide) h) (hh 1 o (by decide) h)) (And.intro (hh 2 o (by decide) h) (hh 3 o (by decide) h))
  have A0 := A 0 (by decide)
  have A1 := A 1 (by decide)
  have A2 := A 2 (by decide)
  have A3 := A 3 (by decide)
  have B0 := B 0 (by decide)
  have B1 := B 1 (by decide)
  have B2 := B 2 (by decide)
  have B3 := B 3 (by decide)
  constructor
  · intro a o ha ho
    revert o
    revert a
    refine four ?_ ?_ ?_ ?_ <;> refine four ?_ ?_ ?_ ?_ <;> simp only [stepF, hereW0, h1, h2, h3, stepT0, ta0, ta1, ta2, to0, to1, to2, bestW0, bestW1, bestW2, bestW3, hereWc] <;> omega
  · simp only [stepF, hereW0, bestW0]
    omega
theorem most_less : ∀ n : Nat, (∀ a o, a < 4 → o < 4 → mostW false n a o ≤ mostW true n a o) ∧ mostW false n 0 0 = 0 := by
  intro n
  induction n using Nat.strongRecOn with
  | _ n ih =>
    by_cases h : n = 0
    · subst h
      rw [mostW0, mostW0]
      exact ⟨fun _ _ _ _ => Int.le_refl _, rfl⟩
    · rw [mostWS _ h, mostWS _ h]
      have q1 := ih (n / 2) (by omega)
      have q2 := ih (n - 1 - n / 2) (by omega)
      exact less_step q1.1 q2.1 ⟨q1.2, q2.2⟩
/-! ### 2 ** d - 1 points -/
def tabW (l : List Int) (a o : Nat) : Int := l.getD (4 * a + o) 0
def nextL (l : List Int) : List Int := (List.range 16).map fun i => stepW false (tabW l) (tabW l) (i / 4) (i % 4)
def powL : Nat → List Int
  | 0 => List.replicate 16 0
  | d + 1 => nextL (powL d)
def halfP : Nat → Int
  | 0 => 0
  | 1 => 1
  | d + 2 => 2 * halfP d + 2
theorem step_congr {c : Bool} {lo hi lo' hi' : Nat → Nat → Int} (hl : ∀ a o, a < 4 → o < 4 → lo a o = lo' a o) (hh : ∀ a o, a < 4 → o < 4 → hi a o = hi' a o) {a o : Nat} (ha : a < 4) (ho : o < 4) : stepW c lo hi a o = stepW c lo' hi' a o := by
  unfold stepW bestW
  have b1 : a % 2 < 4 := by omega
  have b2 : a / 2 * 2 < 4 := by omega
  rw [hl o (a % 2) ho b1, hh o (a / 2 * 2) ho b2, hh o a ho ha, hl o a ho ha]
theorem pow_table : ∀ d : Nat, ∀ a o, a < 4 → o < 4 → mostW false (2 ^ d - 1) a o = tabW (powL d) a o := by
  intro d
  induction d with
  | zero =>
    intro a o ha ho
    rw [mostW0]
    revert o
    revert a
    refine four ?_ ?_ ?_ ?_ <;> refine four ?_ ?_ ?_ ?_ <;> rfl
  | succ d ih =>
    intro a o ha ho
    have hp := Nat.two_pow_pos d
    have e : 2 ^ (d + 1) - 1 ≠ 0 := by rw [Nat.pow_succ]; omega
    rw [mostWS _ e]
    have e1 : (2 ^ (d + 1) - 1) / 2 = 2 ^ d - 1 := by rw [Nat.pow_succ]; omega
    have e2 : 2 ^ (d + 1) - 1 - 1 - (2 ^ d - 1) = 2 ^ d - 1 := by rw [Nat.pow_succ]; omega
    rw [e1, e2, step_congr ih ih ha ho]
    have h16 : 4 * a + o < 16 := by omega
    show _ = (nextL (powL d)).getD (4 * a + o) 0
    rw [List.getD_eq_getElem?_getD, nextL, List.getElem?_map, List.getElem?_range h16, Option.map_some, Option.getD_some]
    have e3 : (4 * a + o) / 4 = a := by omega
    have e4 : (4 * a + o) % 4 = o := by omega
    rw [e3, e4]
def closedB (d : Nat) : Bool :=
  let l := powL d
  decide (tabW l 1 0 = halfP d) && decide (tabW l 2 0 = halfP d) && decide (tabW l 0 1 = if 0 < d then 1 + 2 * halfP (d - 1) else 0) && decide (tabW l 0 2 = if 0 < d then 1 + 2 * halfP (d - 1) else 0) &&
    decide (tabW l 3 0 = if 2 < d then 2 + 4 * halfP (d - 2) else (d : Int))
theorem closed_all : ∀ d, d < 60 → closedB d = true := by decide +kernel
theorem closed_most {d : Nat} (h : d < 60) : mostW false (2 ^ d - 1) 1 0 = halfP d ∧ mostW false (2 ^ d - 1) 2 0 = halfP d ∧
    mostW false (2 ^ d - 1) 0 1 = (if 0 < d then 1 + 2 * halfP (d - 1) else 0) ∧ mostW false (2 ^ d - 1) 0 2 = (if 0 < d then 1 + 2 * halfP (d - 1) else 0) ∧ mostW false (2 ^ d - 1) 3 0 = (if 2 < d then 2 + 4 * halfP (d - 2) else (d : Int)) := by
  have q := closed_all d h
  simp only [closedB, Bool.and_eq_true, decide_eq_true_eq] at q
  obtain ⟨⟨⟨⟨q1, q2⟩, q3⟩, q4⟩, q5⟩ := q
  have t := pow_table d
  exact ⟨(t 1 0 (by decide) (by decide)).trans q1, (t 2 0 (by decide) (by decide)).trans q2, (t 0 1 (by decide) (by decide)).trans q3, (t 0 2 (by decide) (by decide)).trans q4, (t 3 0 (by decide) (by decide)).trans q5⟩
end Q2

namespace Q2
open PySem PySem.Spec PyProof.Rows L2
def mapI (l : List Int) : List V := l.map V.int
theorem mapI_get {f : Nat → Nat → Int} {a o : Nat} (ha : a < 4) (ho : o < 4) : (mapI (rowW f))[4 * a + o]? = some (.int (f a o)) := by
  rw [mapI, List.getElem?_map, rowW_get f ha ho]
  rfl
theorem mapI_at {f : Nat → Nat → Int} {a o : Nat} {k : Int} (ha : a < 4) (ho : o < 4) (h : k = 4 * (a : Nat) + (o : Nat)) : atI (mapI (rowW f)) k = some (.int (f a o)) := by
  have e : k = ((4 * a + o : Nat) : Int) := by omega
  rw [e]
  exact atI_nat (mapI_get ha ho)
def accW (c : Bool) (lo hi : Nat → Nat → Int) (m : Nat) : List V := (List.range m).map fun k => V.int (bestW c lo hi (k / 4) (k % 4))
theorem accW_snoc {c : Bool} {lo hi : Nat → Nat → Int} {i j : Nat} (hj : j < 4) : accW c lo hi (4 * i + j) ++ [.int (bestW c lo hi i j)] = accW c lo hi (4 * i + (j + 1)) := by
  unfold accW
  rw [show 4 * i + (j + 1) = 4 * i + j + 1 from rfl, List.range_succ, List.map_append, List.map_cons, List.map_nil]
  have e1 : (4 * i + j) / 4 = i := by omega
  have e2 : (4 * i + j) % 4 = j := by omega
  rw [e1, e2]
theorem accW_len {c : Bool} {lo hi : Nat → Nat → Int} {m : Nat} : (accW c lo hi m).length = m := by simp [accW]
theorem accW_false {lo hi : Nat → Nat → Int} : accW false lo hi 16 = mapI (rowW (stepW false lo hi)) := by
  have e : stepW false lo hi = bestW false lo hi := funext fun a => funext fun o => stepF lo hi a o
  rw [e, mapI, rowW, List.map_map]
  rfl
theorem accW_true {lo hi : Nat → Nat → Int} : (accW true lo hi 16).set 0 (.int 1) = mapI (rowW (stepW true lo hi)) := rfl
/-! ### the rows by their numbers -/
structure Rws (H : Hp) (p : Addr) (c : Bool) (m : Nat) (kvs : List (Key × V)) : Prop where
  at_ : H p = some (.dK kvs)
  len : kvs.length ≤ m
  val : ∀ (k : Int) v, valV kvs (.inl k) = some v → ∃ (n : Nat) (l : Addr), k = (n : Nat) ∧ v = .ref l ∧ l ≠ p ∧ H l = some (.lst (mapI (rowW (mostW c n))))
def Has (kvs : List (Key × V)) (n : Nat) : Prop := ∃ v, valV kvs (.inl (n : Int)) = some v
theorem Rws.le {H : Hp} {p : Addr} {c : Bool} {m m' : Nat} {kvs : List (Key × V)} (h : Rws H p c m kvs) (l : m ≤ m') : Rws H p c m' kvs := ⟨h.at_, Nat.le_trans h.len l, h.val⟩
theorem Rws.same {H H' : Hp} {p : Addr} {c : Bool} {m : Nat} {kvs : List (Key × V)} (h : Rws H p c m kvs) (e : Same H H') : Rws H' p c m kvs :=
  ⟨e _ _ h.at_, h.len, fun k v hk => let ⟨n, l, h1, h2, h3, h4⟩ := h.val k v hk; ⟨n, l, h1, h2, h3, e _ _ h4⟩⟩
theorem Rws.put {H : Hp} {p r : Addr} {c : Bool} {m s : Nat} {kvs : List (Key × V)} (h : Rws H p c m kvs) (hr : H r = some (.lst (mapI (rowW (mostW c s))))) (rp : r ≠ p) : Rws (upd H p (.dK (putK kvs (.inl (s : Int)) (.ref r)))) p c (m + 1) (putK kvs (.inl (s : Int)) (.ref r)) := by
  refine ⟨upd_same, Nat.le_trans (length_putK ..) (Nat.succ_le_succ h.len), fun k v hk => ?_⟩
  rw [valV_put] at hk
  by_cases e : (Sum.inl k : Key) = .inl (s : Int)
  · rw [if_pos e] at hk
    cases hk
    cases e
    exact ⟨s, r, rfl, rfl, rp, by rw [upd_ne rp]; exact hr⟩
  · rw [if_neg e] at hk
    obtain ⟨n, l, h1, h2, h3, h4⟩ := h.val k v hk
    exact ⟨n, l, h1, h2, h3, by rw [upd_ne h3]; exact h4⟩
theorem Has.put {kvs : List (Key × V)} {n s : Nat} {v : V} (h : Has kvs n) : Has (putK kvs (.inl (s : Int)) v) n := by
  obtain ⟨y, hy⟩ := h
  unfold Has
  rw [valV_put]
  by_cases e : (Sum.inl ((n : Nat) : Int) : Key) = .inl (s : Int)
  · rw [if_pos e]; exact ⟨_, rfl⟩
  · rw [if_neg e]; exact ⟨y, hy⟩
theorem Has.self {kvs : List (Key × V)} {s : Nat} {v : V} : Has (putK kvs (.inl (s : Int)) v) s := by
  unfold Has
  rw [valV_put, if_pos rfl]
  exact ⟨_, rfl⟩
/-! ### the beginnings of a number's figures -/
theorem bits_nat (n : Nat) : n < 2 ^ Builtin.Int.intBits (n : Int) ∧ (0 < n → 2 ^ (Builtin.Int.intBits (n : Int) - 1) ≤ n) := by
  unfold Builtin.Int.intBits
  by_cases h : n = 0
  · subst h
    exact ⟨by decide, fun h => absurd h (by decide)⟩
  · have e : (((n : Nat) : Int) == 0) = false := by simp; omega
    rw [e, if_neg (by decide), Int.natAbs_natCast]
    exact ⟨Nat.lt_log2_self, fun _ => by rw [Nat.add_sub_cancel]; exact Nat.log2_self_le h⟩
theorem bits60 {n : Nat} (h : n ≤ 1000000000000000000) : Builtin.Int.intBits (n : Int) ≤ 60 := by
  obtain ⟨h1, h2⟩ := bits_nat n
  by_cases z : n = 0
  · subst z; decide
  · have h2 := h2 (by omega)
    apply Decidable.byContradiction
    intro h3
    have : 2 ^ 60 ≤ 2 ^ (Builtin.Int.intBits (n : Int) - 1) := Nat.pow_le_pow_right (by decide) (by omega)
    have e : (2 : Nat) ^ 60 = 1152921504606846976 := by decide
    omega
def preW (n i : Nat) : Nat := n / 2 ^ (Builtin.Int.intBits (n : Int) - i)
theorem preW_0 (n : Nat) : preW n 0 = 0 := Nat.div_eq_of_lt (bits_nat n).1
theorem preW_all (n : Nat) : preW n (Builtin.Int.intBits (n : Int)) = n := by
  unfold preW
  rw [Nat.sub_self, Nat.pow_zero, Nat.div_one]
theorem preW_shift {n i : Nat} : preW n (i + 1) = n / 2 ^ (Builtin.Int.intBits (n : Int) - 1 - i) := by
  unfold preW
  rw [show Builtin.Int.intBits (n : Int) - (i + 1) = Builtin.Int.intBits (n : Int) - 1 - i by omega]
theorem preW_pos {n i : Nat} (h : i < Builtin.Int.intBits (n : Int)) : 0 < preW n (i + 1) := by
  have hn : 0 < n := by
    apply Decidable.byContradiction
    intro z
    have z : n = 0 := by omega
    subst z
    exact absurd h (by simp [Builtin.Int.intBits])
  unfold preW
  refine Nat.div_pos ?_ (Nat.two_pow_pos _)
  refine Nat.le_trans (Nat.pow_le_pow_right (by decide) ?_) ((bits_nat n).2 hn)
  omega
theorem preW_half {n i : Nat} (h : i < Builtin.Int.intBits (n : Int)) : preW n (i + 1) / 2 = preW n i := by
  unfold preW
  rw [Nat.div_div_eq_div_mul, ← Nat.pow_succ]
  rw [show Nat.succ (Builtin.Int.intBits (n : Int) - (i + 1)) = Builtin.Int.intBits (n : Int) - i by omega]
end Q2

namespace Q2
open PySem PySem.Spec PyProof.Rows L2
/-! ### greatest numbers: the program -/
abbrev Ask : Int := 1000000000000000000
def stS : Nat → Str
  | 0 => "none"
  | 1 => "low"
  | 2 => "high"
  | _ => "both"
structure StD (K : PySem.W.Frag) (w : World) (mg : Str → Option Value) (d : Addr) (es : Array DictEntry) (n : Nat) : Prop where
  gl : mg "STATES" = some (.ref d)
  kd : KDict K w d es n
  at_ : ∀ a, a < 4 → ∃ tk, PySem.W.nsIn K d (stS a) = some (some (.int (a : Nat) tk))
theorem StD.get {K : PySem.W.Frag} {w : World} {mg : Str → Option Value} {d : Addr} {es : Array DictEntry} {n : Nat} (S : StD K w mg d es n) {a : Nat} (h : a < 4) : KDct K w d (stS a) (.int (a : Nat)) := by
  obtain ⟨tk, e⟩ := S.at_ a h
  exact ⟨es, n, _, S.kd.at_, S.kd.lit, e, ⟨tk, rfl⟩⟩
theorem hu1 {A : Around} {k : Nat} (hr : Room k A) : A.units + 1 < cLine := by have := hr.un; omega
section
variable {P : Program} {w : World} {K : PySem.W.Frag} {mg : Str → Option Value} {base : Heap}
/-! ### check_number, check_state -/
abbrev NChkN : List Str := ["value", "least", "most", "name"]
theorem scChkN : FnScope NChkN ["value", "least", "most", "name"] (defScope s_check_number) := ⟨rfl, rfl, rfl, by decide +kernel, rfl, by decide +kernel, by decide +kernel⟩
def spChkN : Sp := fun vs H Q _ => ∃ (i a b : Int) (z : Str), vs = [.int i, .int a, .int b, .str z] ∧ a ≤ i ∧ i ≤ b ∧ Q .non H
theorem ok_check_number {f : Addr} {fd : FuncData} (F : FnP K "check_number" s_check_number f fd) (B : Bt mg) : FnOk P w K mg base CX0 2 f fd ["value", "least", "most", "name"] spChkN := by
  refine F.ok scChkN (fun vs H Q E h => ?_) (fun cdv A outer s H vs Q E hr h => ?_)
  · obtain ⟨_, _, _, _, rfl, _⟩ := h
    rfl
  · obtain ⟨i, a, b, z, rfl, ha, hb, q⟩ := h
    refine ⟨_, pss_one (ps_if (PW.pt (pw_or (pt_not (pt_val (pe_callB call_isi (by rfl) B.isi (by decide +kernel) (pa_cons (pv 0) (pa_cons (pe_bltn (v := .ty "int") (by rfl) B.int (by decide +kernel) rfl) pa_nil))))) (pw_or (pt_val (pe_callB call_isi (by rfl) B.isi (by decide +kernel) (pa_cons (pv 0) (pa_cons (pe_bltn (v := .ty "bool") (by rfl) B.bool (by decide +kernel) rfl) pa_nil)))) (pw_or1 (pt_not (pt_chain op_le op_le (pv 1) (pv 0) (pv 2))))))) pss_never pss_nil), ?_⟩
    refine ⟨_, rfl, _, _, _, _, true, rfl, .ty "int", .base (.int i), kit_ty (by decide +kernel), _, rfl, iteF ?_⟩
    refine ⟨_, rfl, _, _, _, _, false, rfl, .ty "bool", .base (.int i), kit_ty (by decide +kernel), _, rfl, iteF ?_⟩
    refine ⟨_, rfl, _, rfl, _, _, rfl, rfl, _, rfl, ?_⟩
    rw [decide_eq_true ha]
    refine iteT ⟨_, rfl, _, _, rfl, rfl, _, rfl, ?_⟩
    rw [decide_eq_true hb]
    exact iteF q
abbrev NChkS : List Str := ["value", "name"]
theorem scChkS : FnScope NChkS ["value", "name"] (defScope s_check_state) := ⟨rfl, rfl, rfl, by decide +kernel, rfl, by decide +kernel, by decide +kernel⟩
def spChkS : Sp := fun vs H Q _ => ∃ (a : Nat) (z : Str), vs = [.str (stS a), .str z] ∧ a < 4 ∧ Q .non H
theorem ok_check_state {f : Addr} {fd : FuncData} (F : FnP K "check_state" s_check_state f fd) (B : Bt mg) (sStr : mg "str" = none) {dS : Addr} {eS : Array DictEntry} {nS : Nat} (S : StD K w mg dS eS nS) : FnOk P w K mg base CX0 1 f fd ["value", "name"] spChkS := by
  refine F.ok scChkS (fun vs H Q E h => ?_) (fun cdv A outer s H vs Q E hr h => ?_)
  · obtain ⟨_, _, rfl, _⟩ := h
    rfl
  · obtain ⟨a, z, rfl, ha, q⟩ := h
    refine ⟨_, pss_one (ps_if (PW.pt (pw_or (pt_not (pt_val (pe_callB call_isi (by rfl) B.isi (by decide +kernel) (pa_cons (pv 0) (pa_cons (pe_bltn (v := .ty "str") (by rfl) sStr (by decide +kernel) rfl) pa_nil))))) (pw_or1 (pt_cmpR (op_notIn_kd S.kd) (pv 0) (pe_glob (v := .ref dS) (by rfl) S.gl rfl) (by with_unfolding_all rfl))))) (pss_never) (pss_nil)), ?_⟩
    refine ⟨_, rfl, _, _, _, _, true, rfl, .ty "str", .base (.str (stS a)), kit_ty (by decide +kernel), _, rfl, iteF ?_⟩
    obtain ⟨tk, e⟩ := S.at_ a ha
    exact ⟨_, rfl, _, _, rfl, rfl, e, _, rfl, iteF q⟩
theorem ite2d {p A B : Prop} [Decidable p] (h1 : p → A) (h2 : ¬ p → B) : if decide p = true then A else B := ite2 (fun h => h1 (of_decide_eq_true h)) fun h => h2 fun z => h (decide_eq_true z)
theorem hereStep {K : PySem.W.Frag} {c : Bool} {j : Nat} {σ : L2.St} {H : Hp} {Q : VK} (h2 : σ[2]? = some (some (.bl c))) (h5 : σ[5]? = some (some (.int (j : Nat)))) (q : Q (.int (hereW c j)) H) :
    tIf (tOr (fun σ H Q => tVar 2 σ H fun x H' => ∃ k, TruV K x H' k ∧ Q k H') (tTest (tOp (rI0 fun i j => V.bl (decide (j < i))) (tVar 5) (tC (V.int 0))))) (tC (V.int 1)) (tC (V.int 0)) σ H Q := by
  refine ⟨_, h2, c, rfl, ?_⟩
  unfold hereW at q
  cases c
  · refine iteF ⟨_, h5, _, _, rfl, rfl, _, rfl, ite2d (fun h => ?_) (fun h => ?_)⟩
    · rw [if_pos (.inr (by omega))] at q
      exact q
    · rw [if_neg (fun z => z.elim (fun y => by cases y) fun y => h (by omega))] at q
      exact q
  · rw [if_pos (.inl rfl)] at q
    exact iteT (iteT q)
theorem bestW_is {c : Bool} {lo hi : Nat → Nat → Int} {i j : Nat} {b1 b2 : Int} (_ : True) (_ : True)
    (h1 : (i % 2 = 1 ∧ b1 = if 1 + hi j i > hereW c j + lo j (i % 2) + hi j (i / 2 * 2) then 1 + hi j i else hereW c j + lo j (i % 2) + hi j (i / 2 * 2)) ∨ (¬ i % 2 = 1 ∧ b1 = hereW c j + lo j (i % 2) + hi j (i / 2 * 2)))
    (h2 : (2 ≤ i ∧ b2 = if 1 + lo j i > b1 then 1 + lo j i else b1) ∨ (¬ 2 ≤ i ∧ b2 = b1)) : b2 = bestW c lo hi i j := by
  simp only [bestW]
  rcases h1 with ⟨x, e⟩ | ⟨x, e⟩ <;> rcases h2 with ⟨y, f⟩ | ⟨y, f⟩
  · rw [if_pos x, if_pos y]; omega
  · rw [if_pos x, if_neg y]; omega
  · rw [if_neg x, if_pos y]; omega
  · rw [if_neg x, if_neg y]; omega
abbrev NNxt : List Str := ["low", "high", "is_counted", "row", "own", "other", "here", "best"]
theorem scNxt : FnScope NNxt ["low", "high", "is_counted"] (defScope s_next_row) := ⟨rfl, rfl, rfl, by decide +kernel, rfl, by decide +kernel, by decide +kernel⟩
def spNxt (K : PySem.W.Frag) : Sp := fun vs H Q _ => ∃ (l r : Addr) (c : Bool) (lo hi : Nat → Nat → Int), vs = [.ref l, .ref r, .bl c] ∧ SqL K H l (mapI (rowW lo)) ∧ SqL K H r (mapI (rowW hi)) ∧ ∀ p H', Same H H' → H p = none → H' p = some (.lst (mapI (rowW (stepW c lo hi)))) → Q (.ref p) H'
theorem ok_next_row {f : Addr} {fd : FuncData} (F : FnP K "next_row" s_next_row f fd) {tl th : Tok} (B : Bt mg) (maxN : mg "max" = none) (gLo : mg "LOW" = some (.int 1 tl)) (gHi : mg "HIGH" = some (.int 2 th)) : FnOk P w K mg base CX0 1 f fd ["low", "high", "is_counted"] (spNxt K) := by
  refine F.ok scNxt (fun vs H Q E h => ?_) (fun cdv A outer s H vs Q E hr h => ?_)
  · obtain ⟨_, _, _, _, _, rfl, _⟩ := h
    rfl
  · obtain ⟨l, r, c, lo, hi, rfl, hl, hh, q⟩ := h
    refine ⟨_, pss_cons (ps_set (i := 3) scNxt.nd rfl (.inl rfl) (pe_lst pa_nil))
        (pss_cons (ps_for PassesOwn.never rfl (pi_range1 (by rfl) B.range (pa_cons (pe_int) pa_nil)) (pg_name (i := 4) scNxt.nd rfl (.inl rfl)) (pss_one (ps_for PassesOwn.never rfl (pi_range1 (by rfl) B.range (pa_cons (pe_int) pa_nil)) (pg_name (i := 5) scNxt.nd rfl (.inl rfl)) (pss_cons (ps_set (i := 6) scNxt.nd rfl (.inl rfl) (pe_ifExp (PW.pt (pw_or (pt_truth (pv 2) (fun _ => rfl)) (pw_or1 (pt_cmpR (op_gt) (pv 5) (pe_int) (nomark _))))) (pe_int) (pe_int)))
        (pss_cons (ps_set (i := 7) scNxt.nd rfl (.inl rfl) (pe_op op_add (pe_op op_add (pv 6) (pe_ix ix_list (pv 0) (pe_op op_add (pe_op op_mul (pe_int) (pv 5)) (pe_op op_and (pv 4) (pe_glob (v := .int 1) (by rfl) gLo ⟨_, rfl⟩))) (fun _ _ => rfl))) (pe_ix ix_list (pv 1) (pe_op op_add (pe_op op_mul (pe_int) (pv 5)) (pe_op op_and (pv 4) (pe_glob (v := .int 2) (by rfl) gHi ⟨_, rfl⟩))) (fun _ _ => rfl))))
        (pss_cons (ps_if (pt_cmpR (op_gt) (pe_op op_and (pv 4) (pe_glob (v := .int 1) (by rfl) gLo ⟨_, rfl⟩)) (pe_int) (nomark _)) (pss_one (ps_set (i := 7) scNxt.nd rfl (.inl rfl) (pe_callB (call_max2 rfl) (by rfl) maxN (by decide +kernel) (pa_cons (pv 7) (pa_cons (pe_op op_add (pe_int) (pe_ix ix_list (pv 1) (pe_op op_add (pe_op op_mul (pe_int) (pv 5)) (pv 4)) (fun _ _ => rfl))) pa_nil))))) (pss_nil))
        (pss_cons (ps_if (pt_cmpR (op_gt) (pe_op op_and (pv 4) (pe_glob (v := .int 2) (by rfl) gHi ⟨_, rfl⟩)) (pe_int) (nomark _)) (pss_one (ps_set (i := 7) scNxt.nd rfl (.inl rfl) (pe_callB (call_max2 rfl) (by rfl) maxN (by decide +kernel) (pa_cons (pv 7) (pa_cons (pe_op op_add (pe_int) (pe_ix ix_list (pv 0) (pe_op op_add (pe_op op_mul (pe_int) (pv 5)) (pv 4)) (fun _ _ => rfl))) pa_nil))))) (pss_nil))
        (pss_one (ps_expr (pe_bm PySem.F.plainAttrs_list PySem.F.slot_list_append PySem.F.type_list_append mt_append (pv 3) (pa_cons (pv 7) pa_nil)))))))))))
        (pss_cons (ps_if (pt_truth (pv 2) (fun _ => rfl)) (pss_one (ps_asg (pe_int) (pg_sub (pv 3) (pe_int) set_list))) (pss_nil))
        (pss_one (ps_ret (pv 3))))), ?_⟩
    refine ⟨(by show 0 ≤ sizeLine; decide), fun p np => ?_⟩
    refine ⟨4, rfl, by decide, by decide, for_it walk_range (fun i σ H3 => ∃ z4 z5 z6 z7 : Option V, σ = [some (.ref l), some (.ref r), some (.bl c), some (.ref p), z4, z5, z6, z7] ∧ Same H H3 ∧ H3 p = some (.lst (accW c lo hi (4 * i)))) ?_ (fun _ _ _ _ _ => trivial) ?_ ?_⟩
    · exact ⟨none, none, none, none, rfl, same_new np, upd_same⟩
    · rintro i v σ H3 H4 hi4 ⟨z4, z5, z6, z7, rfl, e3, hp⟩ ⟨rfl, hv⟩
      have ev : v = .int (i : Nat) := by
        rw [hv]
        exact congrArg V.int (by omega)
      subst ev
      have i4 : i < 4 := hi4
      refine ⟨4, rfl, by decide, by decide, for_it walk_range (fun j σ H3 => ∃ z5 z6 z7 : Option V, σ = [some (.ref l), some (.ref r), some (.bl c), some (.ref p), some (.int (i : Nat)), z5, z6, z7] ∧ Same H H3 ∧ H3 p = some (.lst (accW c lo hi (4 * i + j)))) ?_ (fun _ _ _ _ _ => trivial) ?_ ?_⟩
      · exact ⟨z5, z6, z7, rfl, e3, hp⟩
      · rintro j v σ H5 H6 hj4 ⟨z5, z6, z7, rfl, e5, hp5⟩ ⟨rfl, hv⟩
        have ev : v = .int (j : Nat) := by
          rw [hv]
          exact congrArg V.int (by omega)
        subst ev
        have j4 : j < 4 := hj4
        have sl := e5.seq hl
        have sh := e5.seq hh
        have m2 : i % 2 < 4 := by omega
        have m3 : i / 2 * 2 < 4 := by omega
        have fin : ∀ z : Int, z = bestW c lo hi i j → ∃ z5 z6 z7 : Option V, [some (V.ref l), some (.ref r), some (.bl c), some (.ref p), some (.int (i : Nat)), some (.int (j : Nat)), some (.int (hereW c j)), some (.int z)] = [some (V.ref l), some (.ref r), some (.bl c), some (.ref p), some (.int (i : Nat)), z5, z6, z7] ∧ Same H (upd H6 p (.lst (accW c lo hi (4 * i + j) ++ [.int z]))) ∧ upd H6 p (.lst (accW c lo hi (4 * i + j) ++ [.int z])) p = some (.lst (accW c lo hi (4 * i + (j + 1)))) := fun z hz => by
          refine ⟨_, _, _, rfl, same_app e5 np, ?_⟩
          rw [upd_same, hz, accW_snoc j4]
        have cm : CMul 4 ((j : Nat) : Int) := .inl ⟨by decide, by decide⟩
        have a1 : Builtin.bitAnd ((i : Nat) : Int) 1 = ((i % 2 : Nat) : Int) := by
          match i, i4 with
          | 0, _ => rfl
          | 1, _ => rfl
          | 2, _ => rfl
          | 3, _ => rfl
        have a2 : Builtin.bitAnd ((i : Nat) : Int) 2 = ((i / 2 * 2 : Nat) : Int) := by
          match i, i4 with
          | 0, _ => rfl
          | 1, _ => rfl
          | 2, _ => rfl
          | 3, _ => rfl
        have e1 : 4 * ((j : Nat) : Int) + Builtin.bitAnd ((i : Nat) : Int) 1 = 4 * ((j : Nat) : Int) + ((i % 2 : Nat) : Int) := by rw [a1]
        have e2 : 4 * ((j : Nat) : Int) + Builtin.bitAnd ((i : Nat) : Int) 2 = 4 * ((j : Nat) : Int) + ((i / 2 * 2 : Nat) : Int) := by rw [a2]
        refine hereStep (c := c) (j := j) rfl rfl ?_
        refine ⟨_, rfl, _, rfl, _, rfl, _, _, rfl, rfl, cm, _, rfl, _, _, rfl, rfl, _, _, rfl, rfl, l, _, _, _, rfl, rfl, sl, mapI_at j4 m2 e1, _, _, rfl, rfl, _, rfl, _, rfl, _, _, rfl, rfl, cm, _, rfl, _, _, rfl, rfl, _, _, rfl, rfl, r, _, _, _, rfl, rfl, sh, mapI_at j4 m3 e2, _, _, rfl, rfl, ?_⟩
        refine ⟨_, rfl, _, _, rfl, rfl, _, _, rfl, rfl, _, rfl, ite2d (fun h1 => ?_) (fun h1 => ?_)⟩
        · refine ⟨_, rfl, _, rfl, _, rfl, _, _, rfl, rfl, cm, _, rfl, _, _, rfl, rfl, r, _, _, _, rfl, rfl, sh, mapI_at j4 i4 rfl, _, _, rfl, rfl, _, _, rfl, ?_⟩
          refine ⟨_, rfl, _, _, rfl, rfl, _, _, rfl, rfl, _, rfl, ite2d (fun h2 => ?_) (fun h2 => ?_)⟩
          · refine ⟨_, rfl, _, rfl, _, rfl, _, _, rfl, rfl, cm, _, rfl, _, _, rfl, rfl, l, _, _, _, rfl, rfl, sl, mapI_at j4 i4 rfl, _, _, rfl, rfl, _, _, rfl, ?_⟩
            refine ⟨_, rfl, .inl ⟨rfl, _, SqL.of hp5⟩, _, rfl, p, _, _, rfl, rfl, hp5, (by rw [accW_len]; exact small1000 (by omega)), ?_⟩
            refine fin _ (bestW_is trivial trivial (.inl ⟨by rw [a1] at h1; omega, rfl⟩) (.inl ⟨by rw [a2] at h2; omega, rfl⟩))
          · refine ⟨_, rfl, .inl ⟨rfl, _, SqL.of hp5⟩, _, rfl, p, _, _, rfl, rfl, hp5, (by rw [accW_len]; exact small1000 (by omega)), ?_⟩
            refine fin _ (bestW_is trivial trivial (.inl ⟨by rw [a1] at h1; omega, rfl⟩) (.inr ⟨by rw [a2] at h2; omega, rfl⟩))
        · refine ⟨_, rfl, _, _, rfl, rfl, _, _, rfl, rfl, _, rfl, ite2d (fun h2 => ?_) (fun h2 => ?_)⟩
          · refine ⟨_, rfl, _, rfl, _, rfl, _, _, rfl, rfl, cm, _, rfl, _, _, rfl, rfl, l, _, _, _, rfl, rfl, sl, mapI_at j4 i4 rfl, _, _, rfl, rfl, _, _, rfl, ?_⟩
            refine ⟨_, rfl, .inl ⟨rfl, _, SqL.of hp5⟩, _, rfl, p, _, _, rfl, rfl, hp5, (by rw [accW_len]; exact small1000 (by omega)), ?_⟩
            refine fin _ (bestW_is trivial trivial (.inr ⟨by rw [a1] at h1; omega, rfl⟩) (.inl ⟨by rw [a2] at h2; omega, rfl⟩))
          · refine ⟨_, rfl, .inl ⟨rfl, _, SqL.of hp5⟩, _, rfl, p, _, _, rfl, rfl, hp5, (by rw [accW_len]; exact small1000 (by omega)), ?_⟩
            refine fin _ (bestW_is trivial trivial (.inr ⟨by rw [a1] at h1; omega, rfl⟩) (.inr ⟨by rw [a2] at h2; omega, rfl⟩))
      · rintro σ H5 ⟨z5, z6, z7, rfl, e5, hp5⟩
        exact ⟨_, _, _, _, rfl, e5, hp5⟩
    · rintro σ H3 ⟨z4, z5, z6, z7, rfl, e3, hp⟩
      refine ⟨_, rfl, c, rfl, ?_⟩
      cases c
      · refine iteF ⟨_, rfl, q p H3 e3 np ?_⟩
        rw [hp]; exact congrArg (fun z => some (HO.lst z)) accW_false
      · refine iteT ?_
        refine ⟨_, rfl, _, _, 0, 0, rfl, rfl, hp, (by show ixN (accW true lo hi (4 * 4)).length 0 = some 0; rw [accW_len]; rfl), ?_⟩
        refine ⟨_, rfl, q p _ (same_app e3 np) np ?_⟩
        rw [upd_same]
        exact congrArg (fun z => some (HO.lst z)) accW_true
abbrev NRws : List Str := ["many", "is_counted", "rows", "shift", "whole", "size"]
theorem scRws : FnScope NRws ["many", "is_counted"] (defScope s_rows_for) := ⟨rfl, rfl, rfl, by decide +kernel, rfl, by decide +kernel, by decide +kernel⟩
def RowsD (H : Hp) (p : Addr) (c : Bool) (n : Nat) : Prop := ∃ kvs l, H p = some (.dK kvs) ∧ valV kvs (.inl (n : Int)) = some (.ref l) ∧ H l = some (.lst (mapI (rowW (mostW c n))))
def spRows (K : PySem.W.Frag) : Sp := fun vs H Q _ => ∃ (n : Nat) (c : Bool), vs = [.int (n : Nat), .bl c] ∧ n ≤ 1000000000000000000 ∧ ∀ p H', Same H H' → H p = none → RowsD H' p c n → Q (.ref p) H'
theorem ok_rows_for {f : Addr} {fd : FuncData} (F : FnP K "rows_for" s_rows_for f fd) (B : Bt mg) (revN : mg "reversed" = none) {fnext_row : Addr} {fdnext_row : FuncData} (D_next_row : Dfn P w K mg base 1 "next_row" fnext_row fdnext_row ["low", "high", "is_counted"] (spNxt K)) : FnOk P w K mg base CX0 2 f fd ["many", "is_counted"] (spRows K) := by
  refine F.ok scRws (fun vs H Q E h => ?_) (fun cdv A outer s H vs Q E hr h => ?_)
  · obtain ⟨_, _, rfl, _⟩ := h
    rfl
  · obtain ⟨n, c, rfl, hn, q⟩ := h
    refine ⟨_, pss_cons (ps_set (i := 2) scRws.nd rfl (.inl rfl) (pe_disp (pps_cons pe_int (pe_op op_rep (pe_lst (pa_cons pe_int pa_nil)) pe_int) pps_nil) (by rfl) (by rfl) (fun z => by cases z) (by decide)))
        (pss_cons (ps_for PassesOwn.never rfl (pi_revRg (by rfl) revN (prg_1 (by rfl) B.range (pe_bits (pv 0)))) (pg_name (i := 3) scRws.nd rfl (.inl rfl)) (pss_cons (ps_set (i := 4) scRws.nd rfl (.inl rfl) (pe_op op_shr (pv 0) (pv 3)))
        (pss_one (ps_for PassesOwn.never rfl (pi_tup (pe_tup (pa_cons (pe_op op_sub (pv 4) pe_int) (pa_cons (pv 4) pa_nil)))) (pg_name (i := 5) scRws.nd rfl (.inl rfl)) (pss_one (ps_if (pt_cmp (pc_dnotin (hu1 hr) (pv 5) (pv 2))) (pss_one (ps_dput (hu1 hr) (pv 2) (pv 5) (pe_call D_next_row.ok (hr.mono (by decide)) (by rfl) D_next_row.gl D_next_row.kp D_next_row.bd .nil pass0 (pa_cons (pe_dget (hu1 hr) (pv 2) (pe_op op_fdiv (pv 5) pe_int) (fun _ _ => rfl)) (pa_cons (pe_dget (hu1 hr) (pv 2) (pe_op op_sub (pe_op op_sub (pv 5) pe_int) (pe_op op_fdiv (pv 5) pe_int)) (fun _ _ => rfl)) (pa_cons (pv 1) pa_nil)))) (by rfl))) (pss_nil)))))))
        (pss_one (ps_ret (pv 2)))), ?_⟩
    refine fun p np => ?_
    refine ⟨(by show 1 ≤ sizeLine; decide), fun l1 nl1 => ?_⟩
    refine ⟨l1, 16, _, rfl, rfl, upd_same, by decide, by decide, by decide, fun l0 nl0 => ?_⟩
    have n10 : p ≠ l1 := ne_of_none upd_same nl1
    have n00 : p ≠ l0 := by
      intro z
      rw [← z, upd_ne n10, upd_same] at nl0
      cases nl0
    refine ⟨by rw [upd_ne n00, upd_ne n10, upd_same], [(.inl 0, .ref l0)], rfl, (by show 1 ≤ 15; decide), ?_⟩
    have s0 : Same H (upd (upd (upd (upd H p (.dK [])) l1 (.lst [.int 0])) l0 (.lst (List.replicate (Int.toNat 16) [V.int 0]).flatten)) p (.dK (mergeK [] [(.inl 0, .ref l0)]))) := by
      refine same_app (same_app (same_app (same_new np) ?_) ?_) np
      · exact (same_new np).free nl1
      · exact ((same_new np).trans (same_new nl1)).free nl0
    have R0 : Rws (upd (upd (upd (upd H p (.dK [])) l1 (.lst [.int 0])) l0 (.lst (List.replicate (Int.toNat 16) [V.int 0]).flatten)) p (.dK (mergeK [] [(.inl 0, .ref l0)]))) p c 1 [(.inl 0, .ref l0)] := by
      refine ⟨upd_same, Nat.le_refl 1, fun k v hk => ?_⟩
      have e : valV [((.inl 0 : Key), V.ref l0)] (.inl k) = if (.inl 0 : Key) = .inl k then some (.ref l0) else none := by
        by_cases h : (.inl 0 : Key) = .inl k
        · rw [valV_pos h, if_pos h]
        · rw [valV_neg h, if_neg h]
          rfl
      rw [e] at hk
      by_cases h : (.inl 0 : Key) = .inl k
      · rw [if_pos h] at hk
        cases h
        cases hk
        refine ⟨0, l0, rfl, rfl, Ne.symm n00, ?_⟩
        rw [upd_ne (Ne.symm n00), upd_same, mostW0]
        rfl
      · rw [if_neg h] at hk
        cases hk
    have K0 : Has [((.inl 0 : Key), V.ref l0)] 0 := ⟨_, valV_pos rfl⟩
    generalize upd (upd (upd (upd H p (.dK [])) l1 (.lst [.int 0])) l0 (.lst (List.replicate (Int.toNat 16) [V.int 0]).flatten)) p (.dK (mergeK [] [(.inl 0, .ref l0)])) = H0 at s0 R0 ⊢
    have hb60 : Builtin.Int.intBits (n : Int) ≤ 60 := bits60 hn
    refine ⟨_, rfl, (n : Int), rfl, _, rfl, rfl, by omega, by omega, ?_⟩
    refine for_it walk_rangeC (fun i σ H3 => ∃ (kvs : List (Key × V)) (z3 z4 z5 : Option V), σ = [some (.int (n : Nat)), some (.bl c), some (.ref p), z3, z4, z5] ∧ Same H H3 ∧ Rws H3 p c (1 + 2 * i) kvs ∧ Has kvs (preW n i) ∧ Has kvs (preW n i - 1)) ?_ (fun _ _ _ _ _ => trivial) ?_ ?_
    · refine ⟨_, none, none, none, rfl, s0, R0, ?_, ?_⟩ <;> (rw [preW_0]; exact K0)
    · rintro i v σ H3 H4 hi ⟨kvs, z3, z4, z5, rfl, e3, R, h1, h2⟩ ⟨rfl, hv⟩
      have hib : i < Builtin.Int.intBits (n : Int) := by
        have h : i < ((Builtin.Int.intBits (n : Int) : Nat) : Int).toNat := hi
        omega
      have ev : v = .int ((Builtin.Int.intBits (n : Int) - 1 - i : Nat) : Nat) := by
        rw [hv]
        exact congrArg V.int (by omega)
      subst ev
      have eW := preW_shift (n := n) (i := i)
      refine ⟨_, rfl, _, rfl, _, _, rfl, rfl, by omega, ?_⟩
      have e2 : ((n : Nat) : Int) / 2 ^ ((((Builtin.Int.intBits (n : Int) - 1 - i : Nat) : Nat) : Int)).toNat = ((preW n (i + 1) : Nat) : Int) := by
        rw [Int.toNat_natCast, eW]
        norm_cast
      show gName 4 (V.int (((n : Nat) : Int) / 2 ^ ((((Builtin.Int.intBits (n : Int) - 1 - i : Nat) : Nat) : Int)).toNat)) _ _ _
      rw [e2]
      have hpos := preW_pos hib
      have hhalf := preW_half hib
      generalize preW n (i + 1) = m at eW e2 hpos hhalf ⊢
      refine ⟨_, rfl, _, _, rfl, rfl, _, rfl, (by show 2 ≤ sizeLine; decide), fun t nt => ?_⟩
      refine ⟨t, rfl, ⟨_, SqT.of upd_same⟩, ?_⟩
      have tp : t ≠ p := fun z => by rw [z, R.at_] at nt; cases nt
      have e4 : Same H4 (upd H4 t (.tup [.int ((m : Nat) - 1), .int (m : Nat)])) := same_new nt
      refine for_it walk_tup (fun j σ H4 => ∃ (kvs : List (Key × V)) (z5 : Option V), σ = [some (.int (n : Nat)), some (.bl c), some (.ref p), some (.int ((Builtin.Int.intBits (n : Int) - 1 - i : Nat) : Nat)), some (.int (m : Nat)), z5] ∧ Same H H4 ∧ H4 t = some (.tup [.int ((m : Nat) - 1), .int (m : Nat)]) ∧ Rws H4 p c (1 + 2 * i + j) kvs ∧ Has kvs (preW n i) ∧ Has kvs (preW n i - 1) ∧ (1 ≤ j → Has kvs (m - 1)) ∧ (2 ≤ j → Has kvs m)) ?_ (fun _ _ _ _ h => by obtain ⟨_, _, _, _, ht, _⟩ := h; exact SqT.of ht) ?_ ?_
      · exact ⟨kvs, z5, rfl, e3.trans e4, upd_same, (R.same e4), h1, h2, fun h => by omega, fun h => by omega⟩
      · rintro j v σ H5 H6 hj ⟨kvs, z5, rfl, e5, ht, R, h1, h2, k1, k2⟩ ⟨rfl, hv⟩
        have hj2 : j < 2 := hj
        obtain ⟨s, es, s60, sE, sH⟩ : ∃ s : Nat, v = .int (s : Nat) ∧ s ≤ m ∧ (s = if j = 0 then m - 1 else m) ∧ (s = 0 → Has kvs 0) ∧ (s ≠ 0 → Has kvs (s / 2) ∧ Has kvs (s - 1 - s / 2)) := by
          match j, hj2, hv with
          | 0, _, hv =>
            refine ⟨m - 1, ?_, by omega, rfl, fun h => ?_, fun h => ⟨?_, ?_⟩⟩
            · have e : v = .int ((m : Nat) - 1) := (Option.some.inj hv).symm
              rw [e]
              exact congrArg V.int (by omega)
            · have z : preW n i = 0 := by omega
              rw [z] at h1
              exact h1
            · rcases (by omega : (m - 1) / 2 = preW n i ∨ (m - 1) / 2 = preW n i - 1) with z | z <;> rw [z] <;> assumption
            · rcases (by omega : m - 1 - 1 - (m - 1) / 2 = preW n i ∨ m - 1 - 1 - (m - 1) / 2 = preW n i - 1) with z | z <;> rw [z] <;> assumption
          | 1, _, hv =>
            refine ⟨m, (Option.some.inj hv).symm, Nat.le_refl _, rfl, fun h => by omega, fun h => ⟨?_, ?_⟩⟩
            · rw [hhalf]; exact h1
            · rcases (by omega : m - 1 - m / 2 = preW n i ∨ m - 1 - m / 2 = preW n i - 1) with z | z <;> rw [z] <;> assumption
        subst es
        refine ⟨_, rfl, _, rfl, p, _, rfl, DGet.k (k := .inl (s : Nat)) R.at_, _, rfl, ?_⟩
        cases hs : valV kvs (.inl ((s : Nat) : Int)) with
        | some y =>
          refine iteF ?_
          refine ⟨kvs, _, rfl, e5, ht, R.le (by omega), h1, h2, fun _ => ?_, fun h => ?_⟩
          · by_cases z : j = 0
            · rw [if_pos z] at sE
              exact ⟨y, sE ▸ hs⟩
            · exact k1 (by omega)
          · rw [if_neg (by omega : ¬ j = 0)] at sE
            exact ⟨y, sE ▸ hs⟩
        | none =>
          refine iteT ?_
          have s0 : s ≠ 0 := fun z => by
            obtain ⟨y, hy⟩ := sH.1 z
            rw [z] at hs
            rw [hy] at hs
            cases hs
          obtain ⟨⟨ya, ha⟩, ⟨yb, hb⟩⟩ := sH.2 s0
          obtain ⟨na, la, ea, rfl, pa, hla⟩ := R.val _ _ ha
          obtain ⟨nb, lb, eb, rfl, pb, hlb⟩ := R.val _ _ hb
          have ea' : na = s / 2 := by omega
          have eb' : nb = s - 1 - s / 2 := by omega
          subst ea' eb'
          refine ⟨_, rfl, _, rfl, _, _, rfl, rfl, ⟨by decide, by decide⟩, p, _, rfl, (?da : DGet H6 p (.int (((s : Nat) : Int) / 2)) (some (.ref la))), ?_⟩
          case da =>
            have z : ((s : Nat) : Int) / 2 = ((s / 2 : Nat) : Int) := by omega
            rw [z, ← ha]
            exact DGet.k (k := .inl _) R.at_
          refine ⟨_, rfl, _, rfl, _, _, rfl, rfl, _, rfl, _, _, rfl, rfl, ⟨by decide, by decide⟩, _, _, rfl, rfl, p, _, rfl, (?db : DGet H6 p (.int (((s : Nat) : Int) - 1 - ((s : Nat) : Int) / 2)) (some (.ref lb))), ?_⟩
          case db =>
            have z : ((s : Nat) : Int) - 1 - ((s : Nat) : Int) / 2 = ((s - 1 - s / 2 : Nat) : Int) := by omega
            rw [z, ← hb]
            exact DGet.k (k := .inl _) R.at_
          refine ⟨_, rfl, la, lb, c, _, _, rfl, SqL.of hla, SqL.of hlb, fun r H7 e7 nr hr7 => ?_⟩
          rw [← mostWS c s0] at hr7
          have R7 := R.same e7
          have rp : r ≠ p := fun z => by rw [z, R.at_] at nr; cases nr
          refine ⟨_, rfl, _, rfl, p, _, rfl, DPut.k (k := .inl (s : Nat)) R7.at_ ?_, ?_⟩
          · have := R7.len
            exact small1000 (by omega)
          · refine ⟨putK kvs (.inl (s : Nat)) (.ref r), _, rfl, same_app (e5.trans e7) np, ?_, R7.put hr7 rp, Has.put h1, Has.put h2, fun _ => ?_, fun h => ?_⟩
            · rw [upd_ne tp]
              exact e7 _ _ ht
            · by_cases z : j = 0
              · rw [if_pos z] at sE
                rw [← sE]
                exact Has.self
              · exact Has.put (k1 (by omega))
            · rw [if_neg (by omega : ¬ j = 0)] at sE
              rw [← sE]
              exact Has.self
      · rintro σ H5 ⟨kvs, z5, rfl, e5, ht, R, h1, h2, k1, k2⟩
        exact ⟨kvs, _, _, _, rfl, e5, R.le (by show 1 + 2 * i + 2 ≤ _; omega), k2 (Nat.le_refl 2), k1 (by show 1 ≤ 2; decide)⟩
    · rintro σ H3 ⟨kvs, z3, z4, z5, rfl, e3, R, h1, h2⟩
      rw [show ((Builtin.Int.intBits (n : Int) : Nat) : Int).toNat = Builtin.Int.intBits (n : Int) from rfl, preW_all] at h1
      obtain ⟨y, hy⟩ := h1
      obtain ⟨n', l, en, rfl, _, hl⟩ := R.val _ _ hy
      have en' : n' = n := by omega
      subst en'
      exact ⟨_, rfl, q p H3 e3 np ⟨kvs, l, R.at_, hy, hl⟩⟩
abbrev NGrt : List Str := ["many", "axis", "x", "y", "is_counted", "own", "other"]
theorem scGrt : FnScope NGrt ["many", "axis", "x", "y", "is_counted"] (defScope s_greatest) := ⟨rfl, rfl, rfl, by decide +kernel, rfl, by decide +kernel, by decide +kernel⟩
def pickW (c : Bool) (n ax a b : Nat) : Int := if ax = 1 then mostW c n b a else mostW c n a b
def spGrt : Sp := fun vs H Q _ => ∃ (n ax a b : Nat) (c : Bool), vs = [.int (n : Nat), .int (ax : Nat), .str (stS a), .str (stS b), .bl c] ∧ n ≤ 1000000000000000000 ∧ ax ≤ 1 ∧ a < 4 ∧ b < 4 ∧ ∀ H', Same H H' → Q (.int (pickW c n ax a b)) H'
theorem ok_greatest {f : Addr} {fd : FuncData} (F : FnP K "greatest" s_greatest f fd) {tA : Tok} (gMA : mg "MOST_ASKED" = some (.int Ask tA)) {dS : Addr} {eS : Array DictEntry} {nS : Nat} (S : StD K w mg dS eS nS) {fcheck_number : Addr} {fdcheck_number : FuncData} (D_check_number : Dfn P w K mg base 2 "check_number" fcheck_number fdcheck_number ["value", "least", "most", "name"] spChkN) {fcheck_state : Addr} {fdcheck_state : FuncData} (D_check_state : Dfn P w K mg base 1 "check_state" fcheck_state fdcheck_state ["value", "name"] spChkS) {frows_for : Addr} {fdrows_for : FuncData} (D_rows_for : Dfn P w K mg base 2 "rows_for" frows_for fdrows_for ["many", "is_counted"] (spRows K)) : FnOk P w K mg base CX0 3 f fd ["many", "axis", "x", "y", "is_counted"] spGrt := by
  refine F.ok scGrt (fun vs H Q E h => ?_) (fun cdv A outer s H vs Q E hr h => ?_)
  · obtain ⟨_, _, _, _, _, rfl, _⟩ := h
    rfl
  · obtain ⟨n, ax, a, b, c, rfl, hn, hx, ha, hb, q⟩ := h
    refine ⟨_, pss_cons (ps_expr (pe_call D_check_number.ok (hr.mono (by decide)) (by rfl) D_check_number.gl D_check_number.kp D_check_number.bd .nil pass0 (pa_cons (pv 0) (pa_cons (pe_int) (pa_cons (pe_glob (v := .int Ask) (by rfl) gMA ⟨_, rfl⟩) (pa_cons (pe_str) pa_nil))))))
        (pss_cons (ps_expr (pe_call D_check_number.ok (hr.mono (by decide)) (by rfl) D_check_number.gl D_check_number.kp D_check_number.bd .nil pass0 (pa_cons (pv 1) (pa_cons (pe_int) (pa_cons (pe_int) (pa_cons (pe_str) pa_nil))))))
        (pss_cons (ps_expr (pe_call D_check_state.ok (hr.mono (by decide)) (by rfl) D_check_state.gl D_check_state.kp D_check_state.bd .nil pass0 (pa_cons (pv 2) (pa_cons (pe_str) pa_nil))))
        (pss_cons (ps_expr (pe_call D_check_state.ok (hr.mono (by decide)) (by rfl) D_check_state.gl D_check_state.kp D_check_state.bd .nil pass0 (pa_cons (pv 3) (pa_cons (pe_str) pa_nil))))
        (pss_cons (ps_asg (pe_ifExp (pt_cmpR (op_eq) (pv 1) (pe_int) (nomark _)) (pe_tup (pa_cons (pe_ix ix_kdict (pe_glob (v := .ref dS) (by rfl) S.gl rfl) (pv 3) (fun _ _ => rfl)) (pa_cons (pe_ix ix_kdict (pe_glob (v := .ref dS) (by rfl) S.gl rfl) (pv 2) (fun _ _ => rfl)) pa_nil))) (pe_tup (pa_cons (pe_ix ix_kdict (pe_glob (v := .ref dS) (by rfl) S.gl rfl) (pv 2) (fun _ _ => rfl)) (pa_cons (pe_ix ix_kdict (pe_glob (v := .ref dS) (by rfl) S.gl rfl) (pv 3) (fun _ _ => rfl)) pa_nil)))) (pg_tup rfl (pgs_cons (pg_name (i := 5) scGrt.nd rfl (.inl rfl)) (pgs_cons (pg_name (i := 6) scGrt.nd rfl (.inl rfl)) pgs_nil))))
        (pss_one (ps_ret (pe_ix ix_list (pe_dget (hu1 hr) (pe_call D_rows_for.ok (hr.mono (by decide)) (by rfl) D_rows_for.gl D_rows_for.kp D_rows_for.bd .nil pass0 (pa_cons (pv 0) (pa_cons (pv 4) pa_nil))) (pv 0) (fun _ _ => rfl)) (pe_op op_add (pe_op op_mul (pe_int) (pv 5)) (pv 6)) (fun _ _ => rfl)))))))), ?_⟩
    refine ⟨_, rfl, (n : Int), 0, Ask, _, rfl, by omega, by show (n : Int) ≤ 1000000000000000000; omega, ?_⟩
    refine ⟨_, rfl, (ax : Int), 0, 1, _, rfl, by omega, by omega, ?_⟩
    refine ⟨_, rfl, a, _, rfl, ha, ?_⟩
    refine ⟨_, rfl, b, _, rfl, hb, ?_⟩
    refine ⟨_, rfl, rfl, _, rfl, ?_⟩
    unfold pickW at q
    by_cases h : ax = 1
    · subst h
      rw [if_pos rfl] at q
      refine iteT ?_
      refine ⟨_, rfl, dS, _, _, rfl, rfl, S.get hb, _, rfl, dS, _, _, rfl, rfl, S.get ha, (by show 2 ≤ sizeLine; decide), fun t nt => ⟨t, _, rfl, SqT.of upd_same, rfl, _, _, rfl, _, _, rfl, rfl, ?_⟩⟩
      refine ⟨_, rfl, _, rfl, n, c, rfl, hn, fun p H' e np hR => ?_⟩
      obtain ⟨kvs, l, h1, h2, h3⟩ := hR
      refine ⟨_, rfl, p, _, rfl, (by rw [← h2]; exact DGet.k (k := .inl (n : Int)) h1), _, rfl, _, _, rfl, rfl, .inl ⟨by decide, by decide⟩, _, rfl, _, _, rfl, rfl, l, _, _, _, rfl, rfl, SqL.of h3, mapI_at hb ha rfl, ?_⟩
      exact q H' ((same_new nt).trans e)
    · rw [if_neg h] at q
      have e : decide (V.int ((ax : Nat) : Int) = V.int 1) = false := decide_eq_false fun z => h (by have := V.int.inj z; omega)
      rw [e]
      refine iteF ?_
      refine ⟨_, rfl, dS, _, _, rfl, rfl, S.get ha, _, rfl, dS, _, _, rfl, rfl, S.get hb, (by show 2 ≤ sizeLine; decide), fun t nt => ⟨t, _, rfl, SqT.of upd_same, rfl, _, _, rfl, _, _, rfl, rfl, ?_⟩⟩
      refine ⟨_, rfl, _, rfl, n, c, rfl, hn, fun p H' e np hR => ?_⟩
      obtain ⟨kvs, l, h1, h2, h3⟩ := hR
      refine ⟨_, rfl, p, _, rfl, (by rw [← h2]; exact DGet.k (k := .inl (n : Int)) h1), _, rfl, _, _, rfl, rfl, .inl ⟨by decide, by decide⟩, _, rfl, _, _, rfl, rfl, l, _, _, _, rfl, rfl, SqL.of h3, mapI_at ha hb rfl, ?_⟩
      exact q H' ((same_new nt).trans e)
abbrev NMus : List Str := ["many", "axis", "x", "y"]
theorem scMus : FnScope NMus ["many", "axis", "x", "y"] (defScope s_most_useless) := ⟨rfl, rfl, rfl, by decide +kernel, rfl, by decide +kernel, by decide +kernel⟩
def spMost (c : Bool) : Sp := fun vs H Q _ => ∃ (n ax a b : Nat), vs = [.int (n : Nat), .int (ax : Nat), .str (stS a), .str (stS b)] ∧ n ≤ 1000000000000000000 ∧ ax ≤ 1 ∧ a < 4 ∧ b < 4 ∧ ∀ H', Same H H' → Q (.int (pickW c n ax a b)) H'
theorem ok_most_useless {f : Addr} {fd : FuncData} (F : FnP K "most_useless" s_most_useless f fd) {fgreatest : Addr} {fdgreatest : FuncData} (D_greatest : Dfn P w K mg base 3 "greatest" fgreatest fdgreatest ["many", "axis", "x", "y", "is_counted"] spGrt) : FnOk P w K mg base CX0 4 f fd ["many", "axis", "x", "y"] (spMost false) := by
  refine F.ok scMus (fun vs H Q E h => ?_) (fun cdv A outer s H vs Q E hr h => ?_)
  · obtain ⟨_, _, _, _, rfl, _⟩ := h
    rfl
  · obtain ⟨n, ax, a, b, rfl, hn, hx, ha, hb, q⟩ := h
    refine ⟨_, pss_one (ps_ret (pe_call D_greatest.ok (hr.mono (by decide)) (by rfl) D_greatest.gl D_greatest.kp D_greatest.bd .nil pass0 (pa_cons (pv 0) (pa_cons (pv 1) (pa_cons (pv 2) (pa_cons (pv 3) (pa_cons (pe_bl) pa_nil))))))), ?_⟩
    exact ⟨_, rfl, _, rfl, _, rfl, _, rfl, n, ax, a, b, false, rfl, hn, hx, ha, hb, q⟩
abbrev NMco : List Str := ["many", "axis", "x", "y"]
theorem scMco : FnScope NMco ["many", "axis", "x", "y"] (defScope s_most_counted) := ⟨rfl, rfl, rfl, by decide +kernel, rfl, by decide +kernel, by decide +kernel⟩
theorem ok_most_counted {f : Addr} {fd : FuncData} (F : FnP K "most_counted" s_most_counted f fd) {fgreatest : Addr} {fdgreatest : FuncData} (D_greatest : Dfn P w K mg base 3 "greatest" fgreatest fdgreatest ["many", "axis", "x", "y", "is_counted"] spGrt) : FnOk P w K mg base CX0 4 f fd ["many", "axis", "x", "y"] (spMost true) := by
  refine F.ok scMco (fun vs H Q E h => ?_) (fun cdv A outer s H vs Q E hr h => ?_)
  · obtain ⟨_, _, _, _, rfl, _⟩ := h
    rfl
  · obtain ⟨n, ax, a, b, rfl, hn, hx, ha, hb, q⟩ := h
    refine ⟨_, pss_one (ps_ret (pe_call D_greatest.ok (hr.mono (by decide)) (by rfl) D_greatest.gl D_greatest.kp D_greatest.bd .nil pass0 (pa_cons (pv 0) (pa_cons (pv 1) (pa_cons (pv 2) (pa_cons (pv 3) (pa_cons (pe_bl) pa_nil))))))), ?_⟩
    exact ⟨_, rfl, _, rfl, _, rfl, _, rfl, n, ax, a, b, true, rfl, hn, hx, ha, hb, q⟩
end
end Q2
namespace Q2
open PySem PySem.Spec PyProof.Rows L2
/-! ### k75: the law's parts -/
def spLaw (K : PySem.W.Frag) : Sp := fun vs H Q _ => ∃ (a : Addr) (ns : List Int), vs = [.ref a] ∧ SqL K H a (ns.map V.int) ∧ ns.length ≤ 63 ∧ ∀ H', Q (.bl true) H'
structure StL (H : Hp) (l : Addr) : Prop where
  ex : ∃ ts : List Addr, H l = some (.lst (ts.map V.ref)) ∧ ts ≠ [] ∧ ts.length ≤ 16 ∧ ∀ t ∈ ts, ∃ a b, a < 4 ∧ b < 4 ∧ H t = some (.tup [.str (stS a), .str (stS b)])
theorem StL.same {H H' : Hp} {l : Addr} (h : StL H l) (e : Same H H') : StL H' l := by
  obtain ⟨ts, h1, h2, h3, h4⟩ := h.ex
  exact ⟨ts, e _ _ h1, h2, h3, fun t ht => let ⟨a, b, ha, hb, hh⟩ := h4 t ht; ⟨a, b, ha, hb, e _ _ hh⟩⟩
def wordsV : List V := [.str (stS 0), .str (stS 1), .str (stS 2), .str (stS 3)]
theorem wordsV_get {i : Nat} {v : V} (hi : i < 4) (h : wordsV[i]? = some v) : v = .str (stS i) := by
  match i, hi, h with
  | 0, _, h => exact (Option.some.inj h).symm
  | 1, _, h => exact (Option.some.inj h).symm
  | 2, _, h => exact (Option.some.inj h).symm
  | 3, _, h => exact (Option.some.inj h).symm
def rowsS (l : Addr) (H : Hp) (m : Nat) : Prop := ∃ ts : List Addr, H l = some (.lst (ts.map V.ref)) ∧ ts.length = m ∧ ∀ t ∈ ts, ∃ a b, a < 4 ∧ b < 4 ∧ H t = some (.tup [.str (stS a), .str (stS b)])
theorem halfP_lt {k : Nat} (h : 2 ≤ k) : halfP k = 2 * halfP (k - 2) + 2 := by
  match k, h with
  | k + 2, _ => rfl
def hpV (m : Nat) : List V := (List.range m).map fun k => V.int (halfP k)
theorem hpV_get {m k : Nat} (h : k < m) : (hpV m)[k]? = some (.int (halfP k)) := by
  rw [hpV, List.getElem?_map, List.getElem?_range h]
  rfl
theorem hpV_snoc (m : Nat) : hpV m ++ [.int (halfP m)] = hpV (m + 1) := by
  rw [hpV, hpV, List.range_succ, List.map_append]
  rfl
theorem halfP_rng : ∀ k, k < 60 → 0 ≤ halfP k ∧ halfP k ≤ 10000000000 := by decide +kernel
theorem src_put {H : Hp} {s D : Addr} {o : HO} (h : Src H s) (n : D ≠ s) : Src (upd H D o) s := by
  obtain ⟨a, b, c, h0, h⟩ := h
  exact ⟨a, b, c, h0, by rw [upd_ne (Ne.symm n)]; exact h⟩
theorem yes_of {b : Bool} {Q : VK} {H : Hp} (h : b = true) (q : Q (.bl true) H) : Q (.bl b) H := by
  rw [h]
  exact q
theorem stS_inj {a x : Nat} (ha : a < 4) (hx : x < 4) (e : stS a = stS x) : a = x := by
  revert e
  match a, ha, x, hx with
  | 0, _, 0, _ => exact fun _ => rfl
  | 0, _, 1, _ => exact fun e => absurd e (by decide)
  | 0, _, 2, _ => exact fun e => absurd e (by decide)
  | 0, _, 3, _ => exact fun e => absurd e (by decide)
  | 1, _, 0, _ => exact fun e => absurd e (by decide)
  | 1, _, 1, _ => exact fun _ => rfl
  | 1, _, 2, _ => exact fun e => absurd e (by decide)
  | 1, _, 3, _ => exact fun e => absurd e (by decide)
  | 2, _, 0, _ => exact fun e => absurd e (by decide)
  | 2, _, 1, _ => exact fun e => absurd e (by decide)
  | 2, _, 2, _ => exact fun _ => rfl
  | 2, _, 3, _ => exact fun e => absurd e (by decide)
  | 3, _, 0, _ => exact fun e => absurd e (by decide)
  | 3, _, 1, _ => exact fun e => absurd e (by decide)
  | 3, _, 2, _ => exact fun e => absurd e (by decide)
  | 3, _, 3, _ => exact fun _ => rfl
theorem mem_cut {xs : List V} {lo hi : Option Int} {v : V} (h : v ∈ cutV xs lo hi) : v ∈ xs := List.mem_of_mem_drop (List.mem_of_mem_take h)
theorem cells_int {ns : List Int} {lo hi : Option Int} {i : Nat} {v : V} (h : (cutV (ns.map V.int ++ [V.int 0]) lo hi)[i]? = some v) : ∃ n : Int, v = .int n := by
  have h1 := mem_cut (List.mem_of_getElem? h)
  rcases List.mem_append.mp h1 with h2 | h2
  · obtain ⟨n, _, rfl⟩ := List.mem_map.mp h2
    exact ⟨n, rfl⟩
  · exact ⟨0, List.mem_singleton.mp h2⟩
section
variable {P : Program} {w : World} {K : PySem.W.Frag} {mg : Str → Option Value} {base : Heap}
abbrev NSts : List Str := ["_law_words", "_law_found", "_law_first", "_law_last"]
theorem scSts : FnScope NSts [] (defScope s_law_states) := ⟨rfl, rfl, rfl, by decide +kernel, rfl, by decide +kernel, by decide +kernel⟩
def spSts : Sp := fun vs H Q _ => vs = [] ∧ ∀ l H', Same H H' → H l = none → StL H' l → Q (.ref l) H'
theorem ok_law_states {f : Addr} {fd : FuncData} (F : FnP K "_law_states" s_law_states f fd) (B : Bt mg) : FnOk P w K mg base CX0 1 f fd [] spSts := by
  refine F.ok scSts (fun vs H Q E h => ?_) (fun cdv A outer s H vs Q E hr h => ?_)
  · obtain ⟨rfl, _⟩ := h
    rfl
  · obtain ⟨rfl, q⟩ := h
    refine ⟨_, pss_cons (ps_par (i := 0) (j := 1) rfl scSts.nd rfl rfl (by decide) rfl rfl (pa_cons (pe_lst (pa_cons (pe_str) (pa_cons (pe_str) (pa_cons (pe_str) (pa_cons (pe_str) pa_nil))))) (pa_cons (pe_lst pa_nil) pa_nil)) rfl)
        (pss_cons (ps_for PassesOwn.never rfl (pi_list (pv 0)) (pg_name (i := 2) scSts.nd rfl (.inr rfl)) (pss_one (ps_set (i := 1) scSts.nd rfl (.inl rfl) (pe_op op_catL (pv 1) (pe_lc (own := [("_law_last", 3)]) (g := gName 3) (tt := tYes)  rfl scSts.nd (pi_list (pv 0)) (blkOk_by (N := NSts) (sc := defScope s_law_states) (by decide +kernel)) (fun _ _ _ _ _ => pg_name (i := 3) scSts.nd rfl (Or.inl rfl)) (fun _ _ _ _ _ => pts_nil) (fun _ _ _ _ _ => pe_tup (pa_cons (pv 2) (pa_cons (pv 3) pa_nil))))))))
        (pss_one (ps_ret (pv 1)))), ?_⟩
    refine ⟨(by show 4 ≤ sizeLine; decide), fun ws nw => ⟨(by show 0 ≤ sizeLine; decide), fun f0 nf => ?_⟩⟩
    have wf : ws ≠ f0 := ne_of_none upd_same nf
    have nf' : H f0 = none := (same_new nw).free nf
    refine ⟨_, _, rfl, ?_⟩
    refine ⟨_, rfl, ws, rfl, ⟨_, SqL.of ((same_new nf) _ _ upd_same)⟩, ?_⟩
    refine for_it (walk_list (xs := wordsV)) (fun i σ H3 => ∃ (l : Addr) (z2 : Option V), σ = [some (.ref ws), some (.ref l), z2, none] ∧ Same H H3 ∧ H l = none ∧ H3 ws = some (.lst wordsV) ∧ rowsS l H3 (4 * i)) ?_ (fun _ _ _ _ h => by obtain ⟨_, _, _, _, _, h, _⟩ := h; exact SqL.of h) ?_ ?_
    · exact ⟨f0, none, rfl, same_app (same_new nw) nf', nf', (same_new nf) _ _ upd_same, [], upd_same, rfl, fun t ht => by cases ht⟩
    · rintro i v σ H3 H4 hi ⟨l, z2, rfl, e3, nl, hw, ts, hl, hlen, hts⟩ ⟨rfl, hv⟩
      have i4 : i < 4 := hi
      obtain rfl := wordsV_get i4 hv
      refine ⟨_, rfl, _, rfl, ws, rfl, ⟨_, SqL.of hw⟩, fun D nD => ?_⟩
      refine lc_it (walk_list (xs := wordsV)) (fun j H5 => Same H4 H5 ∧ rowsS D H5 j) ⟨same_new nD, [], upd_same, rfl, fun t ht => by cases ht⟩ (fun j H5 _ h => SqL.of (h.1 _ _ hw)) ?_ ?_
      · rintro j v H5 H6 hj ⟨e5, us, hD, hul, hus⟩ ⟨rfl, hv⟩
        have j4 : j < 4 := hj
        obtain rfl := wordsV_get j4 hv
        refine ⟨rfl, ?_⟩
        refine ⟨_, rfl, _, rfl, (by show 2 ≤ sizeLine; decide), fun t nt => ?_⟩
        have tD : D ≠ t := ne_of_none hD nt
        refine ⟨_, (same_new nt) _ _ hD, ?_, ?_⟩
        · rw [List.length_map, hul]
          exact small1000 (by omega)
        · refine ⟨same_app (e5.trans (same_new nt)) nD, us ++ [t], ?_, ?_, fun x hx => ?_⟩
          · rw [upd_same, List.map_append]
            rfl
          · rw [List.length_append, hul]
            rfl
          · rcases List.mem_append.mp hx with hx | hx
            · obtain ⟨a, b, ha, hb, h⟩ := hus x hx
              have xD : x ≠ D := fun z => by rw [z, hD] at h; cases h
              exact ⟨a, b, ha, hb, by rw [upd_ne xD]; exact (same_new nt) _ _ h⟩
            · rw [List.mem_singleton.mp hx]
              exact ⟨i, j, i4, j4, by rw [upd_ne (Ne.symm tD), upd_same]⟩
      · rintro H5 ⟨e5, us, hD, hul, hus⟩
        refine ⟨l, D, _, _, rfl, rfl, SqL.of (e5 _ _ hl), SqL.of hD, ?_, fun L nL => ?_⟩
        · rw [List.length_map, List.length_map, hlen, hul]
          exact small40 (by show 4 * i + 4 ≤ 1000; omega)
        · have nL0 : H L = none := (e3.trans e5).free nL
          refine ⟨L, _, rfl, same_app (e3.trans e5) nL0, nL0, (same_new nL) _ _ (e5 _ _ hw), ts ++ us, ?_, ?_, fun x hx => ?_⟩
          · rw [upd_same, List.map_append]
          · rw [List.length_append, hlen, hul]
            show 4 * i + 4 = 4 * (i + 1)
            omega
          · rcases List.mem_append.mp hx with hx | hx
            · obtain ⟨a, b, ha, hb, h⟩ := hts x hx
              exact ⟨a, b, ha, hb, (same_new nL) _ _ (e5 _ _ h)⟩
            · obtain ⟨a, b, ha, hb, h⟩ := hus x hx
              exact ⟨a, b, ha, hb, (same_new nL) _ _ h⟩
    · rintro σ H3 ⟨l, z2, rfl, e3, nl, hw, ts, hl, hlen, hts⟩
      have h16 : ts.length = 16 := hlen
      exact ⟨_, rfl, q l H3 e3 nl ⟨⟨ts, hl, (fun z => by rw [z] at h16; cases h16), by omega, hts⟩⟩⟩
abbrev NHpl : List Str := ["_law_d", "_law_found", "_law_k"]
theorem scHpl : FnScope NHpl ["_law_d"] (defScope s_law_half_plane) := ⟨rfl, rfl, rfl, by decide +kernel, rfl, by decide +kernel, by decide +kernel⟩
def spHpl : Sp := fun vs H Q _ => ∃ k : Nat, vs = [.int (k : Nat)] ∧ k < 60 ∧ ∀ H', Same H H' → Q (.int (halfP k)) H'
theorem ok_law_half_plane {f : Addr} {fd : FuncData} (F : FnP K "_law_half_plane" s_law_half_plane f fd) (B : Bt mg) : FnOk P w K mg base CX0 1 f fd ["_law_d"] spHpl := by
  refine F.ok scHpl (fun vs H Q E h => ?_) (fun cdv A outer s H vs Q E hr h => ?_)
  · obtain ⟨_, rfl, _⟩ := h
    rfl
  · obtain ⟨d, rfl, hd, q⟩ := h
    refine ⟨_, pss_cons (ps_set (i := 1) scHpl.nd rfl (.inl rfl) (pe_lst (pa_cons (pe_int) (pa_cons (pe_int) pa_nil))))
        (pss_cons (ps_for PassesOwn.never rfl (pi_range2 (by rfl) B.range (pa_cons (pe_int) (pa_cons (pe_op op_add (pv 0) (pe_int)) pa_nil))) (pg_name (i := 2) scHpl.nd rfl (.inl rfl)) (pss_one (ps_expr (pe_bm PySem.F.plainAttrs_list PySem.F.slot_list_append PySem.F.type_list_append mt_append (pv 1) (pa_cons (pe_op op_add (pe_op op_mul (pe_int) (pe_ix ix_list (pv 1) (pe_op op_sub (pv 2) (pe_int)) (fun _ _ => rfl))) (pe_int)) pa_nil)))))
        (pss_one (ps_ret (pe_ix ix_list (pv 1) (pv 0) (fun _ _ => rfl))))), ?_⟩
    refine ⟨(by show 2 ≤ sizeLine; decide), fun L nL => ?_⟩
    refine ⟨_, rfl, _, _, rfl, rfl, 2, _, rfl, ⟨by decide, by decide, by omega, by omega⟩, for_it walk_range (fun i σ H3 => ∃ z2 : Option V, σ = [some (.int (d : Nat)), some (.ref L), z2] ∧ Same H H3 ∧ H3 L = some (.lst (hpV (2 + i)))) ?_ (fun _ _ _ _ _ => trivial) ?_ ?_⟩
    · exact ⟨none, rfl, same_new nL, upd_same⟩
    · rintro i v σ H3 H4 hi ⟨z2, rfl, e3, hL⟩ ⟨rfl, hv⟩
      have ev : v = .int ((2 + i : Nat) : Nat) := by
        rw [hv]
        exact congrArg V.int (by omega)
      subst ev
      have hi2 : i < ((d : Int) + 1 - 2).toNat := hi
      have hr0 := halfP_rng i (by omega)
      refine ⟨_, rfl, .inl ⟨rfl, _, SqL.of hL⟩, _, rfl, _, rfl, _, _, rfl, rfl, L, _, _, _, rfl, rfl, SqL.of hL, (?ix : atI (hpV (2 + i)) (((2 + i : Nat) : Int) - 2) = some (.int (halfP i))), _, _, rfl, rfl, .inl ⟨by decide, by decide⟩, _, _, rfl, rfl, L, _, _, rfl, rfl, hL, ?_, ?_⟩
      case ix =>
        have z : ((2 + i : Nat) : Int) - 2 = ((i : Nat) : Int) := by omega
        rw [z]
        exact atI_nat (hpV_get (by omega))
      · rw [hpV, List.length_map, List.length_range]
        exact small1000 (by omega)
      · refine ⟨_, rfl, same_app e3 nL, ?_⟩
        have e := halfP_lt (k := 2 + i) (by omega)
        rw [show 2 + i - 2 = i by omega] at e
        rw [upd_same]
        show some (HO.lst (hpV (2 + i) ++ [V.int (2 * halfP i + 2)])) = _
        rw [← e, hpV_snoc]
        rfl
    · rintro σ H3 ⟨z2, rfl, e3, hL⟩
      exact ⟨_, rfl, _, rfl, L, _, _, _, rfl, rfl, SqL.of hL, atI_nat (hpV_get (by omega)), q H3 e3⟩
abbrev NClo : List Str := ["_law_d", "_law_total", "_law_k", "_law_due", "_law_stripe"]
theorem scClo : FnScope NClo ["_law_d"] (defScope s_law_closed_right) := ⟨rfl, rfl, rfl, by decide +kernel, rfl, by decide +kernel, by decide +kernel⟩
def spClo : Sp := fun vs H Q _ => ∃ k : Nat, vs = [.int (k : Nat)] ∧ k < 60 ∧ ∀ H', Same H H' → Q (.bl true) H'
theorem ok_law_closed_right {f : Addr} {fd : FuncData} (F : FnP K "_law_closed_right" s_law_closed_right f fd) (B : Bt mg) {flaw_half_plane : Addr} {fdlaw_half_plane : FuncData} (D_law_half_plane : Dfn P w K mg base 1 "_law_half_plane" flaw_half_plane fdlaw_half_plane ["_law_d"] spHpl) {fmost_useless : Addr} {fdmost_useless : FuncData} (D_most_useless : Dfn P w K mg base 4 "most_useless" fmost_useless fdmost_useless ["many", "axis", "x", "y"] (spMost false)) : FnOk P w K mg base CX0 5 f fd ["_law_d"] spClo := by
  refine F.ok scClo (fun vs H Q E h => ?_) (fun cdv A outer s H vs Q E hr h => ?_)
  · obtain ⟨_, rfl, _⟩ := h
    rfl
  · obtain ⟨d, rfl, hd, q⟩ := h
    refine ⟨_, pss_cons (ps_set (i := 1) scClo.nd rfl (.inl rfl) (pe_int))
        (pss_cons (ps_for PassesOwn.never rfl (pi_range1 (by rfl) B.range (pa_cons (pv 0) pa_nil)) (pg_name (i := 2) scClo.nd rfl (.inl rfl)) (pss_one (ps_set (i := 1) scClo.nd rfl (.inl rfl) (pe_op op_add (pe_op op_mul (pe_int) (pv 1)) (pe_int)))))
        (pss_cons (ps_set (i := 3) scClo.nd rfl (.inl rfl) (pe_call D_law_half_plane.ok (hr.mono (by decide)) (by rfl) D_law_half_plane.gl D_law_half_plane.kp D_law_half_plane.bd .nil pass0 (pa_cons (pv 0) pa_nil)))
        (pss_cons (ps_if (PW.pt (pw_or (pt_cmpR (op_ne) (pe_call D_most_useless.ok (hr.mono (by decide)) (by rfl) D_most_useless.gl D_most_useless.kp D_most_useless.bd .nil pass0 (pa_cons (pv 1) (pa_cons (pe_int) (pa_cons (pe_str) (pa_cons (pe_str) pa_nil))))) (pv 3) (nomark _)) (pw_or1 (pt_cmpR (op_ne) (pe_call D_most_useless.ok (hr.mono (by decide)) (by rfl) D_most_useless.gl D_most_useless.kp D_most_useless.bd .nil pass0 (pa_cons (pv 1) (pa_cons (pe_int) (pa_cons (pe_str) (pa_cons (pe_str) pa_nil))))) (pv 3) (nomark _))))) (pss_one (ps_ret (pe_bl))) (pss_nil))
        (pss_cons (ps_set (i := 3) scClo.nd rfl (.inl rfl) (pe_ifExp (pt_cmpR (op_gt) (pv 0) (pe_int) (nomark _)) (pe_op op_add (pe_int) (pe_op op_mul (pe_int) (pe_call D_law_half_plane.ok (hr.mono (by decide)) (by rfl) D_law_half_plane.gl D_law_half_plane.kp D_law_half_plane.bd .nil pass0 (pa_cons (pe_op op_sub (pv 0) (pe_int)) pa_nil)))) (pe_int)))
        (pss_cons (ps_if (PW.pt (pw_or (pt_cmpR (op_ne) (pe_call D_most_useless.ok (hr.mono (by decide)) (by rfl) D_most_useless.gl D_most_useless.kp D_most_useless.bd .nil pass0 (pa_cons (pv 1) (pa_cons (pe_int) (pa_cons (pe_str) (pa_cons (pe_str) pa_nil))))) (pv 3) (nomark _)) (pw_or1 (pt_cmpR (op_ne) (pe_call D_most_useless.ok (hr.mono (by decide)) (by rfl) D_most_useless.gl D_most_useless.kp D_most_useless.bd .nil pass0 (pa_cons (pv 1) (pa_cons (pe_int) (pa_cons (pe_str) (pa_cons (pe_str) pa_nil))))) (pv 3) (nomark _))))) (pss_one (ps_ret (pe_bl))) (pss_nil))
        (pss_cons (ps_set (i := 4) scClo.nd rfl (.inl rfl) (pe_ifExp (pt_cmpR (op_gt) (pv 0) (pe_int) (nomark _)) (pe_op op_add (pe_int) (pe_op op_mul (pe_int) (pe_call D_law_half_plane.ok (hr.mono (by decide)) (by rfl) D_law_half_plane.gl D_law_half_plane.kp D_law_half_plane.bd .nil pass0 (pa_cons (pe_op op_sub (pv 0) (pe_int)) pa_nil)))) (pv 0)))
        (pss_one (ps_ret (pe_cmpR (op_eq) (pe_call D_most_useless.ok (hr.mono (by decide)) (by rfl) D_most_useless.gl D_most_useless.kp D_most_useless.bd .nil pass0 (pa_cons (pv 1) (pa_cons (pe_int) (pa_cons (pe_str) (pa_cons (pe_str) pa_nil))))) (pv 4) (nomark _)))))))))), ?_⟩
    have hN : 2 ^ d - 1 ≤ 1000000000000000000 := by
      have : 2 ^ d ≤ 2 ^ 59 := Nat.pow_le_pow_right (by decide) (by omega)
      have e : (2 : Nat) ^ 59 = 576460752303423488 := by decide
      omega
    obtain ⟨c1, c2, c3, c4, c5⟩ := closed_most hd
    refine ⟨_, rfl, _, rfl, by omega, by omega, for_it walk_range (fun i σ H3 => ∃ z2 : Option V, σ = [some (.int (d : Nat)), some (.int ((2 ^ i - 1 : Nat) : Nat)), z2, none, none] ∧ H3 = H) ?_ (fun _ _ _ _ _ => trivial) ?_ ?_⟩
    · exact ⟨none, rfl, rfl⟩
    · rintro i v σ H3 H4 hi ⟨z2, rfl, rfl⟩ ⟨rfl, hv⟩
      have hid : i < ((d : Nat) : Int).toNat := hi
      have hb : 2 ^ i ≤ 2 ^ 59 := Nat.pow_le_pow_right (by decide) (by omega)
      have hp := Nat.two_pow_pos i
      refine ⟨_, rfl, _, _, rfl, rfl, .inl ⟨by decide, by decide⟩, _, _, rfl, rfl, ?_⟩
      refine ⟨some v, ?_, rfl⟩
      have z : 2 * ((2 ^ i - 1 : Nat) : Int) + 1 = ((2 ^ (i + 1) - 1 : Nat) : Int) := by
        rw [Nat.pow_succ]
        omega
      show [some (V.int (d : Nat)), some (V.int (2 * ((2 ^ i - 1 : Nat) : Int) + 1)), some v, none, none] = _
      rw [z]
    · rintro σ H3 ⟨z2, rfl, rfl⟩
      refine ⟨_, rfl, d, rfl, hd, fun H1 e1 => ?_⟩
      refine ⟨_, rfl, 2 ^ d - 1, 0, 1, 0, rfl, hN, by decide, by decide, by decide, fun H2 e2 => ⟨_, rfl, rfl, _, rfl, iteNS (congrArg V.int c1) ?_⟩⟩
      refine ⟨_, rfl, 2 ^ d - 1, 0, 2, 0, rfl, hN, by decide, by decide, by decide, fun H3 e3 => ⟨_, rfl, rfl, _, rfl, iteNS (congrArg V.int c2) ?_⟩⟩
      by_cases h0 : 0 < d
      · refine ⟨_, rfl, _, _, rfl, rfl, _, rfl, ite2d (fun _ => ?_) (fun z => absurd (by omega : (0 : Int) < (d : Nat)) z)⟩
        refine ⟨_, rfl, _, _, rfl, rfl, d - 1, (by rw [show ((d - 1 : Nat) : Int) = ((d : Nat) : Int) - 1 by omega]; rfl), by omega, fun H4 e4 => ⟨_, _, rfl, rfl, .inl ⟨by decide, by decide⟩, _, _, rfl, rfl, ?_⟩⟩
        refine ⟨_, rfl, 2 ^ d - 1, 1, 1, 0, rfl, hN, by decide, by decide, by decide, fun H5 e5 => ⟨_, rfl, rfl, _, rfl, iteNS (congrArg V.int (c3.trans (if_pos h0))) ?_⟩⟩
        refine ⟨_, rfl, 2 ^ d - 1, 0, 0, 2, rfl, hN, by decide, by decide, by decide, fun H6 e6 => ⟨_, rfl, rfl, _, rfl, iteNS (congrArg V.int (c4.trans (if_pos h0))) ?_⟩⟩
        by_cases h2 : 2 < d
        · refine ⟨_, rfl, _, _, rfl, rfl, _, rfl, ite2d (fun _ => ?_) (fun z => absurd (by omega : (2 : Int) < (d : Nat)) z)⟩
          refine ⟨_, rfl, _, _, rfl, rfl, d - 2, (by rw [show ((d - 2 : Nat) : Int) = ((d : Nat) : Int) - 2 by omega]; rfl), by omega, fun H7 e7 => ⟨_, _, rfl, rfl, .inl ⟨by decide, by decide⟩, _, _, rfl, rfl, ?_⟩⟩
          refine ⟨_, rfl, 2 ^ d - 1, 0, 3, 0, rfl, hN, by decide, by decide, by decide, fun H8 e8 => ⟨_, rfl, rfl, ?_⟩⟩
          have fe := decide_eq_true (congrArg V.int (c5.trans (if_pos h2)))
          refine yes_of fe (q H8 ?_)
          exact e1.trans (e2.trans (e3.trans (e4.trans (e5.trans (e6.trans (e7.trans e8))))))
        · refine ⟨_, rfl, _, _, rfl, rfl, _, rfl, ite2d (fun z => absurd (by omega : 2 < d) h2) (fun _ => ?_)⟩
          refine ⟨_, rfl, ?_⟩
          refine ⟨_, rfl, 2 ^ d - 1, 0, 3, 0, rfl, hN, by decide, by decide, by decide, fun H8 e8 => ⟨_, rfl, rfl, ?_⟩⟩
          have fe := decide_eq_true (congrArg V.int (c5.trans (if_neg h2)))
          refine yes_of fe (q H8 ?_)
          exact e1.trans (e2.trans (e3.trans (e4.trans (e5.trans (e6.trans e8)))))
      · refine ⟨_, rfl, _, _, rfl, rfl, _, rfl, ite2d (fun z => absurd (by omega : 0 < d) h0) (fun _ => ?_)⟩
        refine ⟨_, rfl, 2 ^ d - 1, 1, 1, 0, rfl, hN, by decide, by decide, by decide, fun H5 e5 => ⟨_, rfl, rfl, _, rfl, iteNS (congrArg V.int (c3.trans (if_neg h0))) ?_⟩⟩
        refine ⟨_, rfl, 2 ^ d - 1, 0, 0, 2, rfl, hN, by decide, by decide, by decide, fun H6 e6 => ⟨_, rfl, rfl, _, rfl, iteNS (congrArg V.int (c4.trans (if_neg h0))) ?_⟩⟩
        have h2 : ¬ 2 < d := by omega
        refine ⟨_, rfl, _, _, rfl, rfl, _, rfl, ite2d (fun z => absurd (by omega : 2 < d) h2) (fun _ => ?_)⟩
        refine ⟨_, rfl, ?_⟩
        refine ⟨_, rfl, 2 ^ d - 1, 0, 3, 0, rfl, hN, by decide, by decide, by decide, fun H8 e8 => ⟨_, rfl, rfl, ?_⟩⟩
        have fe := decide_eq_true (congrArg V.int (c5.trans (if_neg h2)))
        refine yes_of fe (q H8 ?_)
        exact e1.trans (e2.trans (e3.trans (e5.trans (e6.trans e8))))
abbrev NOrd : List Str := ["_law_total", "_law_some", "_law_first", "_law_last", "_law_here", "_law_counts", "_law_less", "_law_more"]
theorem scOrd : FnScope NOrd ["_law_total", "_law_some"] (defScope s_law_order_right) := ⟨rfl, rfl, rfl, by decide +kernel, rfl, by decide +kernel, by decide +kernel⟩
def spOrd : Sp := fun vs H Q _ => ∃ (n : Nat) (l : Addr), vs = [.int (n : Nat), .ref l] ∧ n ≤ 1000000000000000000 ∧ StL H l ∧ ∀ H', Same H H' → Q (.bl true) H'
theorem ok_law_order_right {f : Addr} {fd : FuncData} (F : FnP K "_law_order_right" s_law_order_right f fd) {fmost_useless : Addr} {fdmost_useless : FuncData} (D_most_useless : Dfn P w K mg base 4 "most_useless" fmost_useless fdmost_useless ["many", "axis", "x", "y"] (spMost false)) {fmost_counted : Addr} {fdmost_counted : FuncData} (D_most_counted : Dfn P w K mg base 4 "most_counted" fmost_counted fdmost_counted ["many", "axis", "x", "y"] (spMost true)) : FnOk P w K mg base CX0 5 f fd ["_law_total", "_law_some"] spOrd := by
  refine F.ok scOrd (fun vs H Q E h => ?_) (fun cdv A outer s H vs Q E hr h => ?_)
  · obtain ⟨_, _, rfl, _⟩ := h
    rfl
  · obtain ⟨n, l, rfl, hn, hl, q⟩ := h
    refine ⟨_, pss_cons (ps_for PassesOwn.never rfl (pi_list (pv 1)) (pg_tup rfl (pgs_cons (pg_name (i := 2) scOrd.nd rfl (.inl rfl)) (pgs_cons (pg_name (i := 3) scOrd.nd rfl (.inl rfl)) pgs_nil))) (pss_cons (ps_par (i := 4) (j := 5) rfl scOrd.nd rfl rfl (by decide) rfl rfl (pa_cons (pe_call D_most_useless.ok (hr.mono (by decide)) (by rfl) D_most_useless.gl D_most_useless.kp D_most_useless.bd .nil pass0 (pa_cons (pv 0) (pa_cons (pe_int) (pa_cons (pv 2) (pa_cons (pv 3) pa_nil))))) (pa_cons (pe_call D_most_counted.ok (hr.mono (by decide)) (by rfl) D_most_counted.gl D_most_counted.kp D_most_counted.bd .nil pass0 (pa_cons (pv 0) (pa_cons (pe_int) (pa_cons (pv 2) (pa_cons (pv 3) pa_nil))))) pa_nil)) rfl)
        (pss_cons (ps_if (PW.pt (pw_or (pt_cmpR (op_ne) (pv 4) (pe_call D_most_useless.ok (hr.mono (by decide)) (by rfl) D_most_useless.gl D_most_useless.kp D_most_useless.bd .nil pass0 (pa_cons (pv 0) (pa_cons (pe_int) (pa_cons (pv 3) (pa_cons (pv 2) pa_nil))))) (nomark _)) (pw_or1 (pt_not (pt_chain op_le op_le (pv 4) (pv 5) (pv 0)))))) (pss_one (ps_ret (pe_bl))) (pss_nil))
        (pss_one (ps_for PassesOwn.never rfl (pi_list (pe_lst (pa_cons (pe_tup (pa_cons (pe_str) (pa_cons (pe_str) pa_nil))) (pa_cons (pe_tup (pa_cons (pe_str) (pa_cons (pe_str) pa_nil))) (pa_cons (pe_tup (pa_cons (pe_str) (pa_cons (pe_str) pa_nil))) (pa_cons (pe_tup (pa_cons (pe_str) (pa_cons (pe_str) pa_nil))) pa_nil)))))) (pg_tup rfl (pgs_cons (pg_name (i := 6) scOrd.nd rfl (.inl rfl)) (pgs_cons (pg_name (i := 7) scOrd.nd rfl (.inl rfl)) pgs_nil))) (pss_cons (ps_if (PW.pt (pw_and (pt_cmpR (op_eq) (pv 2) (pv 6) (nomark _)) (pw_and1 (pt_cmpR (op_lt) (pe_call D_most_useless.ok (hr.mono (by decide)) (by rfl) D_most_useless.gl D_most_useless.kp D_most_useless.bd .nil pass0 (pa_cons (pv 0) (pa_cons (pe_int) (pa_cons (pv 7) (pa_cons (pv 3) pa_nil))))) (pv 4) (nomark _))))) (pss_one (ps_ret (pe_bl))) (pss_nil))
        (pss_one (ps_if (PW.pt (pw_and (pt_cmpR (op_eq) (pv 2) (pv 6) (nomark _)) (pw_and1 (pt_cmpR (op_lt) (pe_call D_most_counted.ok (hr.mono (by decide)) (by rfl) D_most_counted.gl D_most_counted.kp D_most_counted.bd .nil pass0 (pa_cons (pv 0) (pa_cons (pe_int) (pa_cons (pv 7) (pa_cons (pv 3) pa_nil))))) (pv 5) (nomark _))))) (pss_one (ps_ret (pe_bl))) (pss_nil)))))))))
        (pss_one (ps_ret (pe_bl))), ?_⟩
    obtain ⟨ts, hl0, hne, htl, hts⟩ := hl.ex
    refine ⟨_, rfl, l, rfl, ⟨_, SqL.of hl0⟩, ?_⟩
    refine for_it (walk_list (xs := ts.map V.ref)) (fun i σ H3 => ∃ y2 y3 y4 y5 y6 y7 : Option V, σ = [some (.int (n : Nat)), some (.ref l), y2, y3, y4, y5, y6, y7] ∧ Same H H3) ?_ (fun _ _ _ _ h => by obtain ⟨_, _, _, _, _, _, _, e⟩ := h; exact SqL.of (e _ _ hl0)) ?_ ?_
    · exact ⟨none, none, none, none, none, none, rfl, fun _ _ h => h⟩
    · rintro i v σ H3 H4 hi ⟨y2, y3, y4, y5, y6, y7, rfl, e3⟩ ⟨rfl, hv⟩
      obtain ⟨t, ht, rfl⟩ : ∃ t ∈ ts, v = .ref t := by
        obtain ⟨t, ht, e⟩ := List.mem_map.mp (List.mem_of_getElem? hv)
        exact ⟨t, ht, e.symm⟩
      obtain ⟨a, b, ha, hb, hT⟩ := hts t ht
      refine ⟨t, _, rfl, SqT.of (e3 _ _ hT), rfl, _, _, rfl, _, _, rfl, rfl, ?_⟩
      refine ⟨_, rfl, _, rfl, _, rfl, n, 0, a, b, rfl, hn, by decide, ha, hb, fun H5 e5 => ?_⟩
      refine ⟨_, rfl, _, rfl, _, rfl, n, 0, a, b, rfl, hn, by decide, ha, hb, fun H6 e6 => ?_⟩
      refine ⟨_, _, rfl, ?_⟩
      refine ⟨_, rfl, _, rfl, _, rfl, _, rfl, n, 1, b, a, rfl, hn, by decide, hb, ha, fun H7 e7 => ?_⟩
      refine ⟨rfl, _, rfl, iteNS rfl ?_⟩
      refine ⟨_, rfl, _, rfl, _, _, rfl, rfl, _, rfl, ?_⟩
      rw [show decide (pickW false n 0 a b ≤ pickW true n 0 a b) = true from decide_eq_true ((most_less n).1 a b ha hb)]
      refine iteT ⟨_, rfl, _, _, rfl, rfl, _, rfl, ?_⟩
      rw [show decide (pickW true n 0 a b ≤ (n : Int)) = true from decide_eq_true ((okw_most true n).le a b ha hb)]
      refine iteF ?_
      refine ⟨(by show 2 ≤ sizeLine; decide), fun t1 n1 => ⟨(by show 2 ≤ sizeLine; decide), fun t2 n2 => ⟨(by show 2 ≤ sizeLine; decide), fun t3 n3 => ⟨(by show 2 ≤ sizeLine; decide), fun t4 n4 => ⟨(by show 4 ≤ sizeLine; decide), fun L nL => ?_⟩⟩⟩⟩⟩
      have s1 := same_new (o := .tup [V.str "none", .str "low"]) n1
      have s2 := same_new (o := .tup [V.str "none", .str "high"]) n2
      have s3 := same_new (o := .tup [V.str "low", .str "both"]) n3
      have s4 := same_new (o := .tup [V.str "high", .str "both"]) n4
      have s5 := same_new (o := .lst [V.ref t1, .ref t2, .ref t3, .ref t4]) nL
      have q1 := s5 _ _ (s4 _ _ (s3 _ _ (s2 _ _ (upd_same (H := H7) (a := t1) (o := .tup [V.str "none", .str "low"])))))
      have q2 := s5 _ _ (s4 _ _ (s3 _ _ (upd_same (a := t2) (o := .tup [V.str "none", .str "high"]))))
      have q3 := s5 _ _ (s4 _ _ (upd_same (a := t3) (o := .tup [V.str "low", .str "both"])))
      have q4 := s5 _ _ (upd_same (a := t4) (o := .tup [V.str "high", .str "both"]))
      have q5 := upd_same (H := upd (upd (upd (upd H7 t1 (.tup [V.str "none", .str "low"])) t2 (.tup [V.str "none", .str "high"])) t3 (.tup [V.str "low", .str "both"])) t4 (.tup [V.str "high", .str "both"])) (a := L) (o := .lst [V.ref t1, .ref t2, .ref t3, .ref t4])
      have e8 := (e3.trans (e5.trans (e6.trans e7))).trans (s1.trans (s2.trans (s3.trans (s4.trans s5))))
      generalize upd (upd (upd (upd (upd H7 t1 (.tup [V.str "none", .str "low"])) t2 (.tup [V.str "none", .str "high"])) t3 (.tup [V.str "low", .str "both"])) t4 (.tup [V.str "high", .str "both"])) L (.lst [V.ref t1, .ref t2, .ref t3, .ref t4]) = H8 at q1 q2 q3 q4 q5 e8 ⊢
      refine ⟨L, rfl, ⟨_, SqL.of q5⟩, ?_⟩
      refine for_it (walk_list (xs := [V.ref t1, .ref t2, .ref t3, .ref t4])) (fun k σ H9 => ∃ y6 y7 : Option V, σ = [some (.int (n : Nat)), some (.ref l), some (.str (stS a)), some (.str (stS b)), some (.int (pickW false n 0 a b)), some (.int (pickW true n 0 a b)), y6, y7] ∧ Same H8 H9) ?_ (fun _ _ _ _ h => by obtain ⟨_, _, _, e⟩ := h; exact SqL.of (e _ _ q5)) ?_ ?_
      · exact ⟨y6, y7, rfl, fun _ _ h => h⟩
      · rintro k v σ H9 H10 hk ⟨y6, y7, rfl, e9⟩ ⟨rfl, hv⟩
        obtain ⟨tk, x, y, ev, hx, hy, htk, hm⟩ : ∃ (tk : Addr) (x y : Nat), v = .ref tk ∧ x < 4 ∧ y < 4 ∧ H8 tk = some (.tup [.str (stS x), .str (stS y)]) ∧ ∀ c z, z < 4 → mostW c n x z ≤ mostW c n y z := by
          match k, hk, hv with
          | 0, _, hv => exact ⟨t1, 0, 1, (Option.some.inj hv).symm, by decide, by decide, q1, fun c z hz => (okw_most c n).m01 z hz⟩
          | 1, _, hv => exact ⟨t2, 0, 2, (Option.some.inj hv).symm, by decide, by decide, q2, fun c z hz => (okw_most c n).m02 z hz⟩
          | 2, _, hv => exact ⟨t3, 1, 3, (Option.some.inj hv).symm, by decide, by decide, q3, fun c z hz => (okw_most c n).m13 z hz⟩
          | 3, _, hv => exact ⟨t4, 2, 3, (Option.some.inj hv).symm, by decide, by decide, q4, fun c z hz => (okw_most c n).m23 z hz⟩
        subst ev
        refine ⟨tk, _, rfl, SqT.of (e9 _ _ htk), rfl, _, _, rfl, _, _, rfl, rfl, ?_⟩
        by_cases eax : a = x
        · subst eax
          refine ⟨_, rfl, _, rfl, rfl, _, rfl, ?_⟩
          rw [show decide (V.str (stS a) = V.str (stS a)) = true from decide_eq_true rfl]
          refine iteT ⟨_, rfl, _, rfl, _, rfl, n, 0, y, b, rfl, hn, by decide, hy, hb, fun H11 e11 => ?_⟩
          refine ⟨_, rfl, _, _, rfl, rfl, _, rfl, ?_⟩
          rw [show decide (pickW false n 0 y b < pickW false n 0 a b) = false from decide_eq_false (Int.not_lt.mpr (hm false b hb))]
          refine iteF ?_
          refine ⟨_, rfl, _, rfl, rfl, _, rfl, ?_⟩
          rw [show decide (V.str (stS a) = V.str (stS a)) = true from decide_eq_true rfl]
          refine iteT ⟨_, rfl, _, rfl, _, rfl, n, 0, y, b, rfl, hn, by decide, hy, hb, fun H12 e12 => ?_⟩
          refine ⟨_, rfl, _, _, rfl, rfl, _, rfl, ?_⟩
          rw [show decide (pickW true n 0 y b < pickW true n 0 a b) = false from decide_eq_false (Int.not_lt.mpr (hm true b hb))]
          exact iteF ⟨_, _, rfl, e9.trans (e11.trans e12)⟩
        · have ne : decide (V.str (stS a) = V.str (stS x)) = false := decide_eq_false fun z => eax (stS_inj ha hx (V.str.inj z))
          refine ⟨_, rfl, _, rfl, rfl, _, rfl, ?_⟩
          rw [ne]
          refine iteF (iteF ?_)
          refine ⟨_, rfl, _, rfl, rfl, _, rfl, ?_⟩
          rw [ne]
          exact iteF (iteF ⟨_, _, rfl, e9⟩)
      · rintro σ H9 ⟨y6, y7, rfl, e9⟩
        exact ⟨_, _, _, _, _, _, rfl, e8.trans e9⟩
    · rintro σ H3 ⟨y2, y3, y4, y5, y6, y7, rfl, e3⟩
      exact q H3 e3
abbrev NLaw : List Str := ["_law_script", "_law_cell", "_law_source_here", "_law_total", "_law_some", "_law_turn"]
theorem scLaw : FnScope NLaw ["_law_script"] (defScope s_law) := ⟨rfl, rfl, rfl, by decide +kernel, rfl, by decide +kernel, by decide +kernel⟩
theorem ok_law {f : Addr} {fd : FuncData} (F : FnP K "law" s_law f fd) (B : Bt mg) {flaw_source : Addr} {fdlaw_source : FuncData} (D_law_source : Dfn P w K mg base 1 "_law_source" flaw_source fdlaw_source ["_law_cell"] spSource) {flaw_take : Addr} {fdlaw_take : FuncData} (D_law_take : Dfn P w K mg base 2 "_law_take" flaw_take fdlaw_take ["_law_source_here", "_law_bound"] spTake) {flaw_pick : Addr} {fdlaw_pick : FuncData} (D_law_pick : Dfn P w K mg base 3 "_law_pick" flaw_pick fdlaw_pick ["_law_source_here", "_law_some"] spPick) {flaw_closed_right : Addr} {fdlaw_closed_right : FuncData} (D_law_closed_right : Dfn P w K mg base 5 "_law_closed_right" flaw_closed_right fdlaw_closed_right ["_law_d"] spClo) {flaw_states : Addr} {fdlaw_states : FuncData} (D_law_states : Dfn P w K mg base 1 "_law_states" flaw_states fdlaw_states [] spSts) {flaw_order_right : Addr} {fdlaw_order_right : FuncData} (D_law_order_right : Dfn P w K mg base 5 "_law_order_right" flaw_order_right fdlaw_order_right ["_law_total", "_law_some"] spOrd) : FnOk P w K mg base CX0 6 f fd ["_law_script"] (spLaw K) := by
  refine F.ok scLaw (fun vs H Q E h => ?_) (fun cdv A outer s H vs Q E hr h => ?_)
  · obtain ⟨_, _, rfl, _⟩ := h
    rfl
  · obtain ⟨a0, ns, rfl, hS0, hlen, q⟩ := h
    refine ⟨_, pss_cons (ps_for PassesOwn.never rfl (pi_list (pe_slice sl_list (pe_op op_catL (pv 0) (pe_lst (pa_cons (pe_int) pa_nil))) po_none (po_some (pe_int)))) (pg_name (i := 1) scLaw.nd rfl (.inl rfl)) (pss_cons (ps_set (i := 2) scLaw.nd rfl (.inr rfl) (pe_call D_law_source.ok (hr.mono (by decide)) (by rfl) D_law_source.gl D_law_source.kp D_law_source.bd .nil pass0 (pa_cons (pv 1) pa_nil)))
        (pss_cons (ps_if (PW.pt (pw_or (pt_not (pt_val (pe_call D_law_closed_right.ok (hr.mono (by decide)) (by rfl) D_law_closed_right.gl D_law_closed_right.kp D_law_closed_right.bd .nil pass0 (pa_cons (pe_call D_law_take.ok (hr.mono (by decide)) (by rfl) D_law_take.gl D_law_take.kp D_law_take.bd .nil pass0 (pa_cons (pv 2) (pa_cons (pe_int) pa_nil))) pa_nil)))) (pw_or1 (pt_not (pt_val (pe_call D_law_closed_right.ok (hr.mono (by decide)) (by rfl) D_law_closed_right.gl D_law_closed_right.kp D_law_closed_right.bd .nil pass0 (pa_cons (pe_call D_law_take.ok (hr.mono (by decide)) (by rfl) D_law_take.gl D_law_take.kp D_law_take.bd .nil pass0 (pa_cons (pv 2) (pa_cons (pe_int) pa_nil))) pa_nil))))))) (pss_one (ps_ret (pe_bl))) (pss_nil))
        (pss_cons (ps_set (i := 3) scLaw.nd rfl (.inl rfl) (pe_call D_law_take.ok (hr.mono (by decide)) (by rfl) D_law_take.gl D_law_take.kp D_law_take.bd .nil pass0 (pa_cons (pv 2) (pa_cons (pe_call D_law_pick.ok (hr.mono (by decide)) (by rfl) D_law_pick.gl D_law_pick.kp D_law_pick.bd .nil pass0 (pa_cons (pv 2) (pa_cons (pe_lst (pa_cons (pe_int) (pa_cons (pe_int) (pa_cons (pe_op op_pow (pe_int) (pe_int)) (pa_cons (pe_op op_pow (pe_int) (pe_int)) pa_nil))))) pa_nil))) pa_nil))))
        (pss_cons (ps_set (i := 4) scLaw.nd rfl (.inl rfl) (pe_ifExp (pt_cmpR (op_lt) (pv 3) (pe_int) (nomark _)) (pe_call0 D_law_states.ok (hr.mono (by decide)) (by rfl) D_law_states.gl D_law_states.kp D_law_states.bd .nil pass0) (pe_lc (own := [("_law_turn", 5)]) (g := gName 5) (tt := tYes)  rfl scLaw.nd (pi_range1 (by rfl) B.range (pa_cons (pe_int) pa_nil)) (blkOk_by (N := NLaw) (sc := defScope s_law) (by decide +kernel)) (fun _ _ _ _ _ => pg_name (i := 5) scLaw.nd rfl (Or.inl rfl)) (fun _ _ _ _ _ => pts_nil) (fun _ _ _ _ _ => pe_call D_law_pick.ok (hr.mono (by decide)) (by rfl) D_law_pick.gl D_law_pick.kp D_law_pick.bd .nil pass0 (pa_cons (pv 2) (pa_cons (pe_call0 D_law_states.ok (hr.mono (by decide)) (by rfl) D_law_states.gl D_law_states.kp D_law_states.bd .nil pass0) pa_nil))))))
        (pss_one (ps_if (pt_not (pt_val (pe_call D_law_order_right.ok (hr.mono (by decide)) (by rfl) D_law_order_right.gl D_law_order_right.kp D_law_order_right.bd .nil pass0 (pa_cons (pv 3) (pa_cons (pv 4) pa_nil))))) (pss_one (ps_ret (pe_bl))) (pss_nil))))))))
        (pss_one (ps_ret (pe_bl))), ?_⟩
    refine ⟨_, rfl, (by show 1 ≤ sizeLine; decide), fun l0 n0 => ?_⟩
    refine ⟨a0, l0, _, _, rfl, rfl, (same_new n0).seq hS0, SqL.of upd_same, ?_, fun l1 n1 => ?_⟩
    · rw [List.length_map]
      exact small40 (by show ns.length + 1 ≤ 1000; omega)
    refine ⟨4, rfl, l1, _, rfl, SqL.of upd_same, fun c nc => ?_⟩
    refine ⟨c, rfl, ⟨_, SqL.of upd_same⟩, for_list (xs := cutV (ns.map V.int ++ [V.int 0]) none (some 4)) (fun i σ H3 => ∃ y1 y2 y3 y4 y5 : Option V, σ = [some (.ref a0), y1, y2, y3, y4, y5] ∧ H3 c = some (.lst (cutV (ns.map V.int ++ [V.int 0]) none (some 4)))) ?_ ?_ ?_ ?_⟩
    · exact ⟨none, none, none, none, none, rfl, upd_same⟩
    · rintro i σ H3 hi ⟨_, _, _, _, _, rfl, h⟩
      exact SqL.of h
    · rintro i v σ H3 hv ⟨y1, y2, y3, y4, y5, rfl, hC⟩
      obtain ⟨n, rfl⟩ := cells_int hv
      generalize cutV (ns.map V.int ++ [V.int 0]) none (some 4) = cells at hC hv ⊢
      refine ⟨_, rfl, n, rfl, fun s H4 e4 ns4 hS4 => ?_⟩
      have hcs : c ≠ s := fun e => by
        rw [e] at hC
        rw [ns4] at hC
        cases hC
      have hC4 := e4 _ _ hC
      refine ⟨_, rfl, s, 60, rfl, hS4, by decide, by decide, fun d1 H5 d10 d1l hS5 e5 => ?_⟩
      have hC5 := e5 _ _ hC4 hcs
      refine ⟨d1.toNat, (by rw [Int.toNat_of_nonneg d10]; rfl), by omega, fun H6 e6 => ⟨_, rfl, iteF ?_⟩⟩
      have hC6 := e6 _ _ hC5
      refine ⟨_, rfl, s, 5, rfl, hS5.same e6, by decide, by decide, fun d2 H7 d20 d2l hS7 e7 => ?_⟩
      have hC7 := e7 _ _ hC6 hcs
      refine ⟨d2.toNat, (by rw [Int.toNat_of_nonneg d20]; rfl), by omega, fun H8 e8 => ⟨_, rfl, iteF ?_⟩⟩
      have hC8 := e8 _ _ hC7
      have hS8 := hS7.same e8
      refine ⟨_, rfl, _, rfl, _, _, rfl, rfl, ⟨by decide, by decide, by decide⟩, _, _, rfl, rfl, ⟨by decide, by decide, by decide⟩, (by show 4 ≤ sizeLine; decide), fun lp nlp => ?_⟩
      have elp := same_new (o := .lst [V.int 9, .int 99, .int ((10 : Int) ^ (6 : Int).toNat), .int ((10 : Int) ^ (18 : Int).toNat)]) nlp
      refine ⟨s, lp, _, rfl, hS8.same elp, fun z => hS8.ne nlp z, upd_same, by simp, by show 4 ≤ 1000; decide, fun v H9 hv9 hS9 e9 => ?_⟩
      have hC9 := e9 _ _ (elp _ _ hC8) hcs
      obtain ⟨z, rfl, z0, z1⟩ : ∃ z : Int, v = .int z ∧ 0 < z ∧ z ≤ 1000000000000000000 := by
        rcases List.mem_cons.mp hv9 with h | hv9
        · exact ⟨9, h, by decide, by decide⟩
        rcases List.mem_cons.mp hv9 with h | hv9
        · exact ⟨99, h, by decide, by decide⟩
        rcases List.mem_cons.mp hv9 with h | hv9
        · exact ⟨(10 : Int) ^ (6 : Int).toNat, h, by decide, by decide⟩
        · exact ⟨(10 : Int) ^ (18 : Int).toNat, List.mem_singleton.mp hv9, by decide, by decide⟩
      refine ⟨s, z, rfl, hS9, z0, by omega, fun d3 H10 d30 d3l hS10 e10 => ?_⟩
      have hC10 := e10 _ _ hC9 hcs
      refine ⟨_, rfl, _, _, rfl, rfl, _, rfl, ite2d (fun _ => ?_) (fun _ => ?_)⟩
      · refine ⟨rfl, fun l H11 e11 nl hl => ?_⟩
        refine ⟨_, rfl, _, rfl, d3.toNat, l, (by rw [Int.toNat_of_nonneg d30]; rfl), by omega, hl, fun H' e => ⟨_, rfl, iteF ?_⟩⟩
        exact ⟨_, _, _, _, _, rfl, e _ _ (e11 _ _ hC10)⟩
      · refine ⟨2, rfl, by decide, by decide, fun D nD => ?_⟩
        have Ds : D ≠ s := hS10.ne nD
        refine lc_it walk_range (fun j H5 => Src H5 s ∧ H5 c = some (.lst cells) ∧ rowsS D H5 j) ⟨hS10.same (same_new nD), (same_new nD) _ _ hC10, [], upd_same, rfl, fun t ht => by cases ht⟩ (fun _ _ _ _ => trivial) ?_ ?_
        · rintro j v H11 H12 hj ⟨hS11, hC11, us, hD, hul, hus⟩ ⟨rfl, hv⟩
          refine ⟨rfl, ?_⟩
          refine ⟨_, rfl, rfl, fun l H13 e13 nl hl => ?_⟩
          have hS13 := hS11.same e13
          obtain ⟨ts, hl0, hne, htl, hts⟩ := hl.ex
          have ls : l ≠ s := hS11.ne nl
          refine ⟨s, l, _, rfl, hS13, ls, hl0, (fun z => hne (List.map_eq_nil_iff.mp z)), by rw [List.length_map]; omega, fun v H14 hv14 hS14 e14 => ?_⟩
          obtain ⟨t, ht, rfl⟩ := List.mem_map.mp hv14
          obtain ⟨a, b, ha, hb, hT⟩ := hts t ht
          have tup_ne : ∀ (x : Addr) (xs : List V) (H : Hp), Src H s → H x = some (.tup xs) → x ≠ s := fun x xs H hs hx z => by
            obtain ⟨_, _, _, _, h⟩ := hs
            rw [z, h] at hx
            cases hx
          have hD14 := e14 _ _ (e13 _ _ hD) Ds
          have hj2 : j < 2 := hj
          have tD : t ≠ D := fun z => by
            have h := e14 _ _ hT (tup_ne _ _ _ hS13 hT)
            rw [z, hD14] at h
            cases h
          refine ⟨_, hD14, ?_, src_put hS14 Ds, ?_, us ++ [t], ?_, ?_, fun x hx => ?_⟩
          · rw [List.length_map, hul]
            exact small1000 (by omega)
          · rw [upd_ne (ne_of_none hC10 nD)]
            exact e14 _ _ (e13 _ _ hC11) hcs
          · rw [upd_same, List.map_append]
            rfl
          · rw [List.length_append, hul]
            rfl
          · rcases List.mem_append.mp hx with hx | hx
            · obtain ⟨a, b, ha, hb, h⟩ := hus x hx
              have xD : x ≠ D := fun z => by rw [z, hD] at h; cases h
              exact ⟨a, b, ha, hb, by rw [upd_ne xD]; exact e14 _ _ (e13 _ _ h) (tup_ne _ _ _ hS11 h)⟩
            · rw [List.mem_singleton.mp hx]
              exact ⟨a, b, ha, hb, by rw [upd_ne tD]; exact e14 _ _ hT (tup_ne _ _ _ hS13 hT)⟩
        · rintro H11 ⟨hS11, hC11, us, hD, hul, hus⟩
          have hu2 : us.length = 2 := hul
          refine ⟨_, rfl, _, rfl, d3.toNat, D, (by rw [Int.toNat_of_nonneg d30]; rfl), by omega, ⟨⟨us, hD, (fun z => by rw [z] at hu2; cases hu2), by omega, hus⟩⟩, fun H' e => ⟨_, rfl, iteF ?_⟩⟩
          exact ⟨_, _, _, _, _, rfl, e _ _ hC11⟩
    · rintro σ H3 ⟨_, _, _, _, _, rfl, _⟩
      exact q _
end
end Q2
namespace Q2
open PySem PySem.Spec PyProof.Rows L2
theorem all_mk {l : PySem.W.OpenLaw} {w : World} {K : PySem.W.Frag} {h : Heap} {mg : Str → Option Value} {fa f_check_number f_check_state f_next_row f_rows_for f_greatest f_most_useless f_most_counted f_law_mixed f_law_source f_law_take f_law_pick f_law_states f_law_half_plane f_law_closed_right f_law_order_right f_law : Addr} (X : K.In h) (G : h.Ns mainGlobals mg) (hfa : mg "law" = some (.ref fa))
    {od_check_number an_check_number : Option Addr} {sl_check_number : Array (Option Value)} {oc_check_number kV_check_number dc_check_number pm_check_number cd_check_number ct_check_number : Value}
    {od_check_state an_check_state : Option Addr} {sl_check_state : Array (Option Value)} {oc_check_state kV_check_state dc_check_state pm_check_state cd_check_state ct_check_state : Value}
    {od_next_row an_next_row : Option Addr} {sl_next_row : Array (Option Value)} {oc_next_row kV_next_row dc_next_row pm_next_row cd_next_row ct_next_row : Value}
    {od_rows_for an_rows_for : Option Addr} {sl_rows_for : Array (Option Value)} {oc_rows_for kV_rows_for dc_rows_for pm_rows_for cd_rows_for ct_rows_for : Value}
    {od_greatest an_greatest : Option Addr} {sl_greatest : Array (Option Value)} {oc_greatest kV_greatest dc_greatest pm_greatest cd_greatest ct_greatest : Value}
    {od_most_useless an_most_useless : Option Addr} {sl_most_useless : Array (Option Value)} {oc_most_useless kV_most_useless dc_most_useless pm_most_useless cd_most_useless ct_most_useless : Value}
    {od_most_counted an_most_counted : Option Addr} {sl_most_counted : Array (Option Value)} {oc_most_counted kV_most_counted dc_most_counted pm_most_counted cd_most_counted ct_most_counted : Value}
    {od_law_mixed an_law_mixed : Option Addr} {sl_law_mixed : Array (Option Value)} {oc_law_mixed kV_law_mixed dc_law_mixed pm_law_mixed cd_law_mixed ct_law_mixed : Value}
    {od_law_source an_law_source : Option Addr} {sl_law_source : Array (Option Value)} {oc_law_source kV_law_source dc_law_source pm_law_source cd_law_source ct_law_source : Value}
    {od_law_take an_law_take : Option Addr} {sl_law_take : Array (Option Value)} {oc_law_take kV_law_take dc_law_take pm_law_take cd_law_take ct_law_take : Value}
    {od_law_pick an_law_pick : Option Addr} {sl_law_pick : Array (Option Value)} {oc_law_pick kV_law_pick dc_law_pick pm_law_pick cd_law_pick ct_law_pick : Value}
    {od_law_states an_law_states : Option Addr} {sl_law_states : Array (Option Value)} {oc_law_states kV_law_states dc_law_states pm_law_states cd_law_states ct_law_states : Value}
    {od_law_half_plane an_law_half_plane : Option Addr} {sl_law_half_plane : Array (Option Value)} {oc_law_half_plane kV_law_half_plane dc_law_half_plane pm_law_half_plane cd_law_half_plane ct_law_half_plane : Value}
    {od_law_closed_right an_law_closed_right : Option Addr} {sl_law_closed_right : Array (Option Value)} {oc_law_closed_right kV_law_closed_right dc_law_closed_right pm_law_closed_right cd_law_closed_right ct_law_closed_right : Value}
    {od_law_order_right an_law_order_right : Option Addr} {sl_law_order_right : Array (Option Value)} {oc_law_order_right kV_law_order_right dc_law_order_right pm_law_order_right cd_law_order_right ct_law_order_right : Value}
    {od_law an_law : Option Addr} {sl_law : Array (Option Value)} {oc_law kV_law dc_law pm_law cd_law ct_law : Value}
    {tk_LOW : Tok}
    {tk_HIGH : Tok}
    {tk_MOST_ASKED : Tok}
    {d_STATES : Addr} {q0_STATES q1_STATES q2_STATES q3_STATES : Tok}
    (a_check_number : PySem.W.nsIn K mainGlobals "check_number" = some (some (.ref f_check_number))) (l_check_number : K.lookup f_check_number = some ⟨oc_check_number, od_check_number, .func (PySem.W.fnOf "check_number" "check_number" (defArgs s_check_number) (defBody s_check_number) (defScope s_check_number) .none kV_check_number dc_check_number pm_check_number an_check_number cd_check_number ct_check_number), sl_check_number⟩) (c_check_number : PySem.W.codeIn K cd_check_number "check_number" = true) (k_check_number : PySem.W.keepIn K (.ref f_check_number) = true)
    (a_check_state : PySem.W.nsIn K mainGlobals "check_state" = some (some (.ref f_check_state))) (l_check_state : K.lookup f_check_state = some ⟨oc_check_state, od_check_state, .func (PySem.W.fnOf "check_state" "check_state" (defArgs s_check_state) (defBody s_check_state) (defScope s_check_state) .none kV_check_state dc_check_state pm_check_state an_check_state cd_check_state ct_check_state), sl_check_state⟩) (c_check_state : PySem.W.codeIn K cd_check_state "check_state" = true) (k_check_state : PySem.W.keepIn K (.ref f_check_state) = true)
    (a_next_row : PySem.W.nsIn K mainGlobals "next_row" = some (some (.ref f_next_row))) (l_next_row : K.lookup f_next_row = some ⟨oc_next_row, od_next_row, .func (PySem.W.fnOf "next_row" "next_row" (defArgs s_next_row) (defBody s_next_row) (defScope s_next_row) .none kV_next_row dc_next_row pm_next_row an_next_row cd_next_row ct_next_row), sl_next_row⟩) (c_next_row : PySem.W.codeIn K cd_next_row "next_row" = true) (k_next_row : PySem.W.keepIn K (.ref f_next_row) = true)
    (a_rows_for : PySem.W.nsIn K mainGlobals "rows_for" = some (some (.ref f_rows_for))) (l_rows_for : K.lookup f_rows_for = some ⟨oc_rows_for, od_rows_for, .func (PySem.W.fnOf "rows_for" "rows_for" (defArgs s_rows_for) (defBody s_rows_for) (defScope s_rows_for) .none kV_rows_for dc_rows_for pm_rows_for an_rows_for cd_rows_for ct_rows_for), sl_rows_for⟩) (c_rows_for : PySem.W.codeIn K cd_rows_for "rows_for" = true) (k_rows_for : PySem.W.keepIn K (.ref f_rows_for) = true)
    (a_greatest : PySem.W.nsIn K mainGlobals "greatest" = some (some (.ref f_greatest))) (l_greatest : K.lookup f_greatest = some ⟨oc_greatest, od_greatest, .func (PySem.W.fnOf "greatest" "greatest" (defArgs s_greatest) (defBody s_greatest) (defScope s_greatest) .none kV_greatest dc_greatest pm_greatest an_greatest cd_greatest ct_greatest), sl_greatest⟩) (c_greatest : PySem.W.codeIn K cd_greatest "greatest" = true) (k_greatest : PySem.W.keepIn K (.ref f_greatest) = true)
    (a_most_useless : PySem.W.nsIn K mainGlobals "most_useless" = some (some (.ref f_most_useless))) (l_most_useless : K.lookup f_most_useless = some ⟨oc_most_useless, od_most_useless, .func (PySem.W.fnOf "most_useless" "most_useless" (defArgs s_most_useless) (defBody s_most_useless) (defScope s_most_useless) .none kV_most_useless dc_most_useless pm_most_useless an_most_useless cd_most_useless ct_most_useless), sl_most_useless⟩) (c_most_useless : PySem.W.codeIn K cd_most_useless "most_useless" = true) (k_most_useless : PySem.W.keepIn K (.ref f_most_useless) = true)
    (a_most_counted : PySem.W.nsIn K mainGlobals "most_counted" = some (some (.ref f_most_counted))) (l_most_counted : K.lookup f_most_counted = some ⟨oc_most_counted, od_most_counted, .func (PySem.W.fnOf "most_counted" "most_counted" (defArgs s_most_counted) (defBody s_most_counted) (defScope s_most_counted) .none kV_most_counted dc_most_counted pm_most_counted an_most_counted cd_most_counted ct_most_counted), sl_most_counted⟩) (c_most_counted : PySem.W.codeIn K cd_most_counted "most_counted" = true) (k_most_counted : PySem.W.keepIn K (.ref f_most_counted) = true)
    (a_law_mixed : PySem.W.nsIn K mainGlobals "_law_mixed" = some (some (.ref f_law_mixed))) (l_law_mixed : K.lookup f_law_mixed = some ⟨oc_law_mixed, od_law_mixed, .func (PySem.W.fnOf "_law_mixed" "_law_mixed" (defArgs s_law_mixed) (defBody s_law_mixed) (defScope s_law_mixed) .none kV_law_mixed dc_law_mixed pm_law_mixed an_law_mixed cd_law_mixed ct_law_mixed), sl_law_mixed⟩) (c_law_mixed : PySem.W.codeIn K cd_law_mixed "_law_mixed" = true) (k_law_mixed : PySem.W.keepIn K (.ref f_law_mixed) = true)
    (a_law_source : PySem.W.nsIn K mainGlobals "_law_source" = some (some (.ref f_law_source))) (l_law_source : K.lookup f_law_source = some ⟨oc_law_source, od_law_source, .func (PySem.W.fnOf "_law_source" "_law_source" (defArgs s_law_source) (defBody s_law_source) (defScope s_law_source) .none kV_law_source dc_law_source pm_law_source an_law_source cd_law_source ct_law_source), sl_law_source⟩) (c_law_source : PySem.W.codeIn K cd_law_source "_law_source" = true) (k_law_source : PySem.W.keepIn K (.ref f_law_source) = true)
    (a_law_take : PySem.W.nsIn K mainGlobals "_law_take" = some (some (.ref f_law_take))) (l_law_take : K.lookup f_law_take = some ⟨oc_law_take, od_law_take, .func (PySem.W.fnOf "_law_take" "_law_take" (defArgs s_law_take) (defBody s_law_take) (defScope s_law_take) .none kV_law_take dc_law_take pm_law_take an_law_take cd_law_take ct_law_take), sl_law_take⟩) (c_law_take : PySem.W.codeIn K cd_law_take "_law_take" = true) (k_law_take : PySem.W.keepIn K (.ref f_law_take) = true)
    (a_law_pick : PySem.W.nsIn K mainGlobals "_law_pick" = some (some (.ref f_law_pick))) (l_law_pick : K.lookup f_law_pick = some ⟨oc_law_pick, od_law_pick, .func (PySem.W.fnOf "_law_pick" "_law_pick" (defArgs s_law_pick) (defBody s_law_pick) (defScope s_law_pick) .none kV_law_pick dc_law_pick pm_law_pick an_law_pick cd_law_pick ct_law_pick), sl_law_pick⟩) (c_law_pick : PySem.W.codeIn K cd_law_pick "_law_pick" = true) (k_law_pick : PySem.W.keepIn K (.ref f_law_pick) = true)
    (a_law_states : PySem.W.nsIn K mainGlobals "_law_states" = some (some (.ref f_law_states))) (l_law_states : K.lookup f_law_states = some ⟨oc_law_states, od_law_states, .func (PySem.W.fnOf "_law_states" "_law_states" (defArgs s_law_states) (defBody s_law_states) (defScope s_law_states) .none kV_law_states dc_law_states pm_law_states an_law_states cd_law_states ct_law_states), sl_law_states⟩) (c_law_states : PySem.W.codeIn K cd_law_states "_law_states" = true) (k_law_states : PySem.W.keepIn K (.ref f_law_states) = true)
    (a_law_half_plane : PySem.W.nsIn K mainGlobals "_law_half_plane" = some (some (.ref f_law_half_plane))) (l_law_half_plane : K.lookup f_law_half_plane = some ⟨oc_law_half_plane, od_law_half_plane, .func (PySem.W.fnOf "_law_half_plane" "_law_half_plane" (defArgs s_law_half_plane) (defBody s_law_half_plane) (defScope s_law_half_plane) .none kV_law_half_plane dc_law_half_plane pm_law_half_plane an_law_half_plane cd_law_half_plane ct_law_half_plane), sl_law_half_plane⟩) (c_law_half_plane : PySem.W.codeIn K cd_law_half_plane "_law_half_plane" = true) (k_law_half_plane : PySem.W.keepIn K (.ref f_law_half_plane) = true)
    (a_law_closed_right : PySem.W.nsIn K mainGlobals "_law_closed_right" = some (some (.ref f_law_closed_right))) (l_law_closed_right : K.lookup f_law_closed_right = some ⟨oc_law_closed_right, od_law_closed_right, .func (PySem.W.fnOf "_law_closed_right" "_law_closed_right" (defArgs s_law_closed_right) (defBody s_law_closed_right) (defScope s_law_closed_right) .none kV_law_closed_right dc_law_closed_right pm_law_closed_right an_law_closed_right cd_law_closed_right ct_law_closed_right), sl_law_closed_right⟩) (c_law_closed_right : PySem.W.codeIn K cd_law_closed_right "_law_closed_right" = true) (k_law_closed_right : PySem.W.keepIn K (.ref f_law_closed_right) = true)
    (a_law_order_right : PySem.W.nsIn K mainGlobals "_law_order_right" = some (some (.ref f_law_order_right))) (l_law_order_right : K.lookup f_law_order_right = some ⟨oc_law_order_right, od_law_order_right, .func (PySem.W.fnOf "_law_order_right" "_law_order_right" (defArgs s_law_order_right) (defBody s_law_order_right) (defScope s_law_order_right) .none kV_law_order_right dc_law_order_right pm_law_order_right an_law_order_right cd_law_order_right ct_law_order_right), sl_law_order_right⟩) (c_law_order_right : PySem.W.codeIn K cd_law_order_right "_law_order_right" = true) (k_law_order_right : PySem.W.keepIn K (.ref f_law_order_right) = true)
    (a_law : PySem.W.nsIn K mainGlobals "law" = some (some (.ref f_law))) (l_law : K.lookup f_law = some ⟨oc_law, od_law, .func (PySem.W.fnOf "law" "law" (defArgs s_law) (defBody s_law) (defScope s_law) .none kV_law dc_law pm_law an_law cd_law ct_law), sl_law⟩) (c_law : PySem.W.codeIn K cd_law "law" = true) (k_law : PySem.W.keepIn K (.ref f_law) = true)
    (w_LOW : PySem.W.nsIn K mainGlobals "LOW" = some (some (.int 1 tk_LOW)))
    (w_HIGH : PySem.W.nsIn K mainGlobals "HIGH" = some (some (.int 2 tk_HIGH)))
    (w_MOST_ASKED : PySem.W.nsIn K mainGlobals "MOST_ASKED" = some (some (.int Ask tk_MOST_ASKED)))
    (w_STATES : PySem.W.nsIn K mainGlobals "STATES" = some (some (.ref d_STATES))) (u_STATES : He.dicW K d_STATES = some (He.keysIn w.params ["none", "low", "high", "both"])) (v0_STATES : PySem.W.nsIn K d_STATES "none" = some (some (.int 0 q0_STATES))) (v1_STATES : PySem.W.nsIn K d_STATES "low" = some (some (.int 1 q1_STATES))) (v2_STATES : PySem.W.nsIn K d_STATES "high" = some (some (.int 2 q2_STATES))) (v3_STATES : PySem.W.nsIn K d_STATES "both" = some (some (.int 3 q3_STATES)))
    (z_int : PySem.W.nsIn K mainGlobals "int" = some none)
    (z_abs : PySem.W.nsIn K mainGlobals "abs" = some none)
    (z_len : PySem.W.nsIn K mainGlobals "len" = some none)
    (z_range : PySem.W.nsIn K mainGlobals "range" = some none)
    (z_isinstance : PySem.W.nsIn K mainGlobals "isinstance" = some none)
    (z_bool : PySem.W.nsIn K mainGlobals "bool" = some none)
    (z_tuple : PySem.W.nsIn K mainGlobals "tuple" = some none)
    (z_all : PySem.W.nsIn K mainGlobals "all" = some none)
    (z_repr : PySem.W.nsIn K mainGlobals "repr" = some none)
    (z_max : PySem.W.nsIn K mainGlobals "max" = some none)
    (z_str : PySem.W.nsIn K mainGlobals "str" = some none)
    (z_reversed : PySem.W.nsIn K mainGlobals "reversed" = some none) :
    ∃ fd : FuncData, (∀ (s : Shared) (v : Value), BindsTo s fd ⟨[v], []⟩ [("_law_script", v)]) ∧ ∀ base : Heap, K.In base → base.Ns mainGlobals mg → FnOk l.prog w K mg base CX0 6 fa fd ["_law_script"] (spLaw K) := by
  have e := hfa.symm.trans (PySem.W.mg_of X G a_law)
  cases e
  have F_check_number := fun_mk (st := s_check_number) l_check_number c_check_number k_check_number
  have b_check_number := F_check_number.binds (ps := ["value", "least", "most", "name"]) fun _ _ _ _ _ _ us hl => match us, hl with | [_, _, _, _], _ => rfl
  have m_check_number := PySem.W.mg_of X G a_check_number
  have F_check_state := fun_mk (st := s_check_state) l_check_state c_check_state k_check_state
  have b_check_state := F_check_state.binds (ps := ["value", "name"]) fun _ _ _ _ _ _ us hl => match us, hl with | [_, _], _ => rfl
  have m_check_state := PySem.W.mg_of X G a_check_state
  have F_next_row := fun_mk (st := s_next_row) l_next_row c_next_row k_next_row
  have b_next_row := F_next_row.binds (ps := ["low", "high", "is_counted"]) fun _ _ _ _ _ _ us hl => match us, hl with | [_, _, _], _ => rfl
  have m_next_row := PySem.W.mg_of X G a_next_row
  have F_rows_for := fun_mk (st := s_rows_for) l_rows_for c_rows_for k_rows_for
  have b_rows_for := F_rows_for.binds (ps := ["many", "is_counted"]) fun _ _ _ _ _ _ us hl => match us, hl with | [_, _], _ => rfl
  have m_rows_for := PySem.W.mg_of X G a_rows_for
  have F_greatest := fun_mk (st := s_greatest) l_greatest c_greatest k_greatest
  have b_greatest := F_greatest.binds (ps := ["many", "axis", "x", "y", "is_counted"]) fun _ _ _ _ _ _ us hl => match us, hl with | [_, _, _, _, _], _ => rfl
  have m_greatest := PySem.W.mg_of X G a_greatest
  have F_most_useless := fun_mk (st := s_most_useless) l_most_useless c_most_useless k_most_useless
  have b_most_useless := F_most_useless.binds (ps := ["many", "axis", "x", "y"]) fun _ _ _ _ _ _ us hl => match us, hl with | [_, _, _, _], _ => rfl
  have m_most_useless := PySem.W.mg_of X G a_most_useless
  have F_most_counted := fun_mk (st := s_most_counted) l_most_counted c_most_counted k_most_counted
  have b_most_counted := F_most_counted.binds (ps := ["many", "axis", "x", "y"]) fun _ _ _ _ _ _ us hl => match us, hl with | [_, _, _, _], _ => rfl
  have m_most_counted := PySem.W.mg_of X G a_most_counted
  have F_law_mixed := fun_mk (st := s_law_mixed) l_law_mixed c_law_mixed k_law_mixed
  have b_law_mixed := F_law_mixed.binds (ps := ["_law_cell", "_law_draw"]) fun _ _ _ _ _ _ us hl => match us, hl with | [_, _], _ => rfl
  have m_law_mixed := PySem.W.mg_of X G a_law_mixed
  have F_law_source := fun_mk (st := s_law_source) l_law_source c_law_source k_law_source
  have b_law_source := F_law_source.binds (ps := ["_law_cell"]) fun _ _ _ _ _ _ us hl => match us, hl with | [_], _ => rfl
  have m_law_source := PySem.W.mg_of X G a_law_source
  have F_law_take := fun_mk (st := s_law_take) l_law_take c_law_take k_law_take
  have b_law_take := F_law_take.binds (ps := ["_law_source_here", "_law_bound"]) fun _ _ _ _ _ _ us hl => match us, hl with | [_, _], _ => rfl
  have m_law_take := PySem.W.mg_of X G a_law_take
  have F_law_pick := fun_mk (st := s_law_pick) l_law_pick c_law_pick k_law_pick
  have b_law_pick := F_law_pick.binds (ps := ["_law_source_here", "_law_some"]) fun _ _ _ _ _ _ us hl => match us, hl with | [_, _], _ => rfl
  have m_law_pick := PySem.W.mg_of X G a_law_pick
  have F_law_states := fun_mk (st := s_law_states) l_law_states c_law_states k_law_states
  have b_law_states := F_law_states.binds (ps := []) fun _ _ _ _ _ _ us hl => match us, hl with | [], _ => rfl
  have m_law_states := PySem.W.mg_of X G a_law_states
  have F_law_half_plane := fun_mk (st := s_law_half_plane) l_law_half_plane c_law_half_plane k_law_half_plane
  have b_law_half_plane := F_law_half_plane.binds (ps := ["_law_d"]) fun _ _ _ _ _ _ us hl => match us, hl with | [_], _ => rfl
  have m_law_half_plane := PySem.W.mg_of X G a_law_half_plane
  have F_law_closed_right := fun_mk (st := s_law_closed_right) l_law_closed_right c_law_closed_right k_law_closed_right
  have b_law_closed_right := F_law_closed_right.binds (ps := ["_law_d"]) fun _ _ _ _ _ _ us hl => match us, hl with | [_], _ => rfl
  have m_law_closed_right := PySem.W.mg_of X G a_law_closed_right
  have F_law_order_right := fun_mk (st := s_law_order_right) l_law_order_right c_law_order_right k_law_order_right
  have b_law_order_right := F_law_order_right.binds (ps := ["_law_total", "_law_some"]) fun _ _ _ _ _ _ us hl => match us, hl with | [_, _], _ => rfl
  have m_law_order_right := PySem.W.mg_of X G a_law_order_right
  have F_law := fun_mk (st := s_law) l_law c_law k_law
  have m_LOW := PySem.W.mg_of X G w_LOW
  have m_HIGH := PySem.W.mg_of X G w_HIGH
  have m_MOST_ASKED := PySem.W.mg_of X G w_MOST_ASKED
  have m_STATES := PySem.W.mg_of X G w_STATES
  have n_int := PySem.W.mg_none_of X G z_int
  have n_abs := PySem.W.mg_none_of X G z_abs
  have n_len := PySem.W.mg_none_of X G z_len
  have n_range := PySem.W.mg_none_of X G z_range
  have n_isinstance := PySem.W.mg_none_of X G z_isinstance
  have n_bool := PySem.W.mg_none_of X G z_bool
  have n_tuple := PySem.W.mg_none_of X G z_tuple
  have n_all := PySem.W.mg_none_of X G z_all
  have n_repr := PySem.W.mg_none_of X G z_repr
  have n_max := PySem.W.mg_none_of X G z_max
  have n_str := PySem.W.mg_none_of X G z_str
  have n_reversed := PySem.W.mg_none_of X G z_reversed
  refine ⟨PySem.W.fnOf "law" "law" (defArgs s_law) (defBody s_law) (defScope s_law) .none kV_law dc_law pm_law an_law cd_law ct_law, fun s v => .of_eq rfl, fun base _ _ => ?_⟩
  have B : Bt mg := ⟨n_int, n_abs, n_len, n_range, n_isinstance, n_bool, n_tuple, n_all, n_repr⟩
  have D_law_source : Dfn l.prog w K mg base _ _ f_law_source _ _ _ := ⟨ok_source (P := l.prog) (w := w) (base := base) F_law_source B, F_law_source.kp, b_law_source, m_law_source⟩
  have G_take := ok_take (P := l.prog) (w := w) (base := base) F_law_take B F_law_mixed b_law_mixed m_law_mixed
  have D_law_take : Dfn l.prog w K mg base _ _ f_law_take _ _ _ := ⟨G_take, F_law_take.kp, b_law_take, m_law_take⟩
  have G_pick := ok_pick (fM := f_law_mixed) (fdM := PySem.W.fnOf "law" "law" (defArgs s_law) (defBody s_law) (defScope s_law) .none kV_law dc_law pm_law an_law cd_law ct_law) F_law_pick B G_take F_law_take.kp b_law_take m_law_take
  have D_law_pick : Dfn l.prog w K mg base _ _ f_law_pick _ _ _ := ⟨G_pick, F_law_pick.kp, b_law_pick, m_law_pick⟩
  obtain ⟨eS, nS, kdS⟩ := He.dicW_ok u_STATES
  have S : StD K w mg d_STATES eS nS := ⟨m_STATES, kdS, four ⟨_, v0_STATES⟩ ⟨_, v1_STATES⟩ ⟨_, v2_STATES⟩ ⟨_, v3_STATES⟩⟩
  have D_check_number : Dfn l.prog w K mg base _ _ f_check_number _ _ _ := ⟨ok_check_number (P := l.prog) (w := w) (base := base) F_check_number B, F_check_number.kp, b_check_number, m_check_number⟩
  have D_check_state : Dfn l.prog w K mg base _ _ f_check_state _ _ _ := ⟨ok_check_state (P := l.prog) (base := base) F_check_state B n_str S, F_check_state.kp, b_check_state, m_check_state⟩
  have D_next_row : Dfn l.prog w K mg base _ _ f_next_row _ _ _ := ⟨ok_next_row (P := l.prog) (w := w) (base := base) F_next_row B n_max m_LOW m_HIGH, F_next_row.kp, b_next_row, m_next_row⟩
  have D_rows_for : Dfn l.prog w K mg base _ _ f_rows_for _ _ _ := ⟨ok_rows_for F_rows_for B n_reversed D_next_row, F_rows_for.kp, b_rows_for, m_rows_for⟩
  have D_greatest : Dfn l.prog w K mg base _ _ f_greatest _ _ _ := ⟨ok_greatest F_greatest m_MOST_ASKED S D_check_number D_check_state D_rows_for, F_greatest.kp, b_greatest, m_greatest⟩
  have D_most_useless : Dfn l.prog w K mg base _ _ f_most_useless _ _ _ := ⟨ok_most_useless F_most_useless D_greatest, F_most_useless.kp, b_most_useless, m_most_useless⟩
  have D_most_counted : Dfn l.prog w K mg base _ _ f_most_counted _ _ _ := ⟨ok_most_counted F_most_counted D_greatest, F_most_counted.kp, b_most_counted, m_most_counted⟩
  have D_law_states : Dfn l.prog w K mg base _ _ f_law_states _ _ _ := ⟨ok_law_states (P := l.prog) (w := w) (base := base) F_law_states B, F_law_states.kp, b_law_states, m_law_states⟩
  have D_law_half_plane : Dfn l.prog w K mg base _ _ f_law_half_plane _ _ _ := ⟨ok_law_half_plane (P := l.prog) (w := w) (base := base) F_law_half_plane B, F_law_half_plane.kp, b_law_half_plane, m_law_half_plane⟩
  have D_law_closed_right : Dfn l.prog w K mg base _ _ f_law_closed_right _ _ _ := ⟨ok_law_closed_right F_law_closed_right B D_law_half_plane D_most_useless, F_law_closed_right.kp, b_law_closed_right, m_law_closed_right⟩
  have D_law_order_right : Dfn l.prog w K mg base _ _ f_law_order_right _ _ _ := ⟨ok_law_order_right F_law_order_right D_most_useless D_most_counted, F_law_order_right.kp, b_law_order_right, m_law_order_right⟩
  exact ok_law F_law B D_law_source D_law_take D_law_pick D_law_closed_right D_law_states D_law_order_right
end Q2
open PySem PySem.W PyProof.Rows
set_option maxHeartbeats 0 in
theorem PySem.Challenge.cw_planesplits_k75_whole_growth_of_greatest_holds : PySem.Challenge.rw_planesplits_k75_whole_growth_of_greatest.Holds := by
  w_on; o_law; k_head; (case hw => w_witness2)
  k_fill
  refine L2.walk_of (l := PySem.Challenge.rw_planesplits_k75_whole_growth_of_greatest) (n := 63) (k := 6) (x := "_law_script") (CX := fun _ => L2.CX0) (sp := fun w => Q2.spLaw _) rfl (by decide) rfl ⟨rfl, by decide, by decide⟩ (fun w h Y => PySem.W.kIn_of Y) ?F (fun _ _ a ns hl _ hS => ⟨a, ns, rfl, hS, hl, fun _ => rfl⟩) (fun _ _ _ _ _ h => h)
  case F =>
    intro w mg fa h KX G hmg
    refine' Q2.all_mk KX G hmg ?a_check_number ?l_check_number ?c_check_number ?k_check_number ?a_check_state ?l_check_state ?c_check_state ?k_check_state ?a_next_row ?l_next_row ?c_next_row ?k_next_row ?a_rows_for ?l_rows_for ?c_rows_for ?k_rows_for ?a_greatest ?l_greatest ?c_greatest ?k_greatest ?a_most_useless ?l_most_useless ?c_most_useless ?k_most_useless ?a_most_counted ?l_most_counted ?c_most_counted ?k_most_counted ?a_law_mixed ?l_law_mixed ?c_law_mixed ?k_law_mixed ?a_law_source ?l_law_source ?c_law_source ?k_law_source ?a_law_take ?l_law_take ?c_law_take ?k_law_take ?a_law_pick ?l_law_pick ?c_law_pick ?k_law_pick ?a_law_states ?l_law_states ?c_law_states ?k_law_states ?a_law_half_plane ?l_law_half_plane ?c_law_half_plane ?k_law_half_plane ?a_law_closed_right ?l_law_closed_right ?c_law_closed_right ?k_law_closed_right ?a_law_order_right ?l_law_order_right ?c_law_order_right ?k_law_order_right ?a_law ?l_law ?c_law ?k_law ?w_LOW ?w_HIGH ?w_MOST_ASKED ?w_STATES ?u_STATES ?v0_STATES ?v1_STATES ?v2_STATES ?v3_STATES ?z_int ?z_abs ?z_len ?z_range ?z_isinstance ?z_bool ?z_tuple ?z_all ?z_repr ?z_max ?z_str ?z_reversed
    (case a_check_number => k_is)
    (case l_check_number => k_is)
    (case c_check_number => k_is)
    (case k_check_number => k_is)
    (case a_check_state => k_is)
    (case l_check_state => k_is)
    (case c_check_state => k_is)
    (case k_check_state => k_is)
    (case a_next_row => k_is)
    (case l_next_row => k_is)
    (case c_next_row => k_is)
    (case k_next_row => k_is)
    (case a_rows_for => k_is)
    (case l_rows_for => k_is)
    (case c_rows_for => k_is)
    (case k_rows_for => k_is)
    (case a_greatest => k_is)
    (case l_greatest => k_is)
    (case c_greatest => k_is)
    (case k_greatest => k_is)
    (case a_most_useless => k_is)
    (case l_most_useless => k_is)
    (case c_most_useless => k_is)
    (case k_most_useless => k_is)
    (case a_most_counted => k_is)
    (case l_most_counted => k_is)
    (case c_most_counted => k_is)
    (case k_most_counted => k_is)
    (case a_law_mixed => k_is)
    (case l_law_mixed => k_is)
    (case c_law_mixed => k_is)
    (case k_law_mixed => k_is)
    (case a_law_source => k_is)
    (case l_law_source => k_is)
    (case c_law_source => k_is)
    (case k_law_source => k_is)
    (case a_law_take => k_is)
    (case l_law_take => k_is)
    (case c_law_take => k_is)
    (case k_law_take => k_is)
    (case a_law_pick => k_is)
    (case l_law_pick => k_is)
    (case c_law_pick => k_is)
    (case k_law_pick => k_is)
    (case a_law_states => k_is)
    (case l_law_states => k_is)
    (case c_law_states => k_is)
    (case k_law_states => k_is)
    (case a_law_half_plane => k_is)
    (case l_law_half_plane => k_is)
    (case c_law_half_plane => k_is)
    (case k_law_half_plane => k_is)
    (case a_law_closed_right => k_is)
    (case l_law_closed_right => k_is)
    (case c_law_closed_right => k_is)
    (case k_law_closed_right => k_is)
    (case a_law_order_right => k_is)
    (case l_law_order_right => k_is)
    (case c_law_order_right => k_is)
    (case k_law_order_right => k_is)
    (case a_law => k_is)
    (case l_law => k_is)
    (case c_law => k_is)
    (case k_law => k_is)
    (case w_LOW => k_is)
    (case w_HIGH => k_is)
    (case w_MOST_ASKED => k_is)
    (case w_STATES => k_is)
    (case u_STATES => first | k_is | rfl | kernel_rfl)
    (case v0_STATES => k_is)
    (case v1_STATES => k_is)
    (case v2_STATES => k_is)
    (case v3_STATES => k_is)
    (case z_int => k_is)
    (case z_abs => k_is)
    (case z_len => k_is)
    (case z_range => k_is)
    (case z_isinstance => k_is)
    (case z_bool => k_is)
    (case z_tuple => k_is)
    (case z_all => k_is)
    (case z_repr => k_is)
    (case z_max => k_is)
    (case z_str => k_is)
    (case z_reversed => k_is)

