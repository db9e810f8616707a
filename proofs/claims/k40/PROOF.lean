import PyProof.Rows.All
import Wide.All
import OpenK.AllK
import Wide.FinOn
import KE.KItemsList
import HandS.Zip
import HandS.ForMost
import HandS.Wide
import HandS.Deep
import HandS.IsInst
import HandS.Walk
import HandS.TupSets
import KE.SortKeyHeap
import HandS.SortKw
import KE.GoesEnum
import KE.GoesMore
import HandS.Conv
import HandS.Dict
import HandS.More
import HandS.WideBits
import KE.GoesRev
import HandS.ForExc
import HandS.RevRange
import HandS.Rev
import HandS.Style
import HandS.TupAny
import KE.KxField
import HandS.IntHex
import HandS.FStr
import HandS.StrMore
import HandS.TryOnly
import HandS.HeadHook3
import PySem.Challenge.RW_planesplits_k40_codes_and_cells
set_option Elab.async false
set_option linter.all false
set_option maxRecDepth 100000
set_option maxHeartbeats 4000000
namespace LZ
open PySem PySem.Spec PyProof.Rows
abbrev ZipO (h : Heap) (z TI TO a : Addr) (b : Bool) : Prop :=
  h.get? z = some { cls := .type "zip", dict := none, data := .fields #[rawInt a, .bool b, .bool false, .ref TI, .ref TO], slots := #[] }
section
variable {prog : Program} {w : World} {A : Around} {E : Value → Shared → Prop} {s : Shared} {z TI TO i1 i2 l1 l2 a : Addr} {b : Bool} {oa : Obj} {k : Nat} {xs ys : Array Value} {x y : Value}
/-- is it free? no: what was given out stands -/
theorem zo_busy {Q : Bool → Shared → Prop} (p0 : ZipO s.heap z TI TO a b) (pa : s.heap.get? a = some oa) (hQ : ∀ h', ZipO h' z TI TO a true → Heap.SameBut z s.heap h' → Q false { s with heap := h' }) : wpAny (model prog w) A (Builtin.SmallTypes.ownedTupleIsFree (.ref z)) Q E s := by
  unfold Builtin.SmallTypes.ownedTupleIsFree
  refine wpAny_bind (wpAny_field p0 rfl (x := rawInt a) rfl ?_)
  show wpAny _ _ (loadIfAlive ((a : Nat) : Int).toNat >>= _) _ _ s
  rw [show ((a : Nat) : Int).toNat = a from Int.toNat_natCast a]
  refine wpAny_bind (PySem.W.kdx_alive pa ?_)
  simp only [Option.isNone_some, if_false, Bool.false_eq_true]
  refine wpAny_bind (wpAny_field p0 rfl (x := .bool b) rfl ?_)
  cases b with
  | true => exact wpAny_ite_false (by decide) (wpAny_pure (hQ s.heap p0 (Heap.SameBut.refl _ _)))
  | false =>
    refine wpAny_ite_true (by decide) ?_
    exact wpAny_bind (wpAny_setField_rec p0 (by simp) fun h' p' sb => wpAny_pure (hQ h' p' sb))
theorem zo_item {Q : Value → Shared → Prop} (D : ZipApart z TI TO i1 i2 l1 l2) (p0 : ZipO s.heap z TI TO a b) (pa : s.heap.get? a = some oa) (p1 : IsPair s.heap TI (.ref i1) (.ref i2)) (q1 : s.heap.IsListIter i1 l1 k) (q2 : s.heap.IsListIter i2 l2 k)
    (g1 : s.heap.IsList l1 xs) (g2 : s.heap.IsList l2 ys) (hx : xs[k]? = some x) (hy : ys[k]? = some y)
    (hQ : ∀ h', ZipO h' z TI TO a true → h'.IsListIter i1 l1 (k + 1) → h'.IsListIter i2 l2 (k + 1) → IsPair h' s.heap.objs.size x y → h'.objs.size = s.heap.objs.size + 1 → (∀ c o, c ≠ z → c ≠ i1 → c ≠ i2 → s.heap.get? c = some o → h'.get? c = some o) → Q (.ref s.heap.objs.size) { s with heap := h' }) :
    wpAny (model prog w) A (Builtin.«zip.__next__» ⟨[.ref z], []⟩) (fun fin s' => ∃ v, fin = .done (.ret v) ∧ Q v s') E s := by
  show wpAny _ _ (field (.ref z) 2 >>= _) _ _ s
  refine wpAny_bind (wpAny_field p0 rfl (x := .bool false) rfl ?_)
  show wpAny _ _ (field (.ref z) 3 >>= _) _ _ s
  refine wpAny_bind (wpAny_field p0 rfl (x := .ref TI) rfl ?_)
  refine wpAny_bind (wpAny_seqItems p1 rfl ?_)
  show wpAny _ _ (Builtin.SmallTypes.ownedTupleIsFree (.ref z) >>= _) _ _ s
  refine wpAny_bind (zo_busy p0 pa fun h1 r1 sb1 => ?_)
  simp only [Bool.false_eq_true, if_false, ← Array.forIn_toList, List.forIn_cons, List.forIn_nil]
  refine wpAny_bind (wpAny_bind (wpAny_bind (wpAny_holding ?_)))
  show wpAny _ _ (Builtin.SmallTypes.nextOf (.ref i1) >>= _) _ _ { s with heap := h1 }
  refine wpAny_bind (wpAny_nextOf_list_item (q1.extBut sb1.extBut D.i1z) (g1.extBut sb1.extBut D.l1z) hx fun h2 r2 sb2 => wpAny_pure ?_)
  refine wpAny_pure (wpAny_bind (wpAny_bind (wpAny_holding ?_)))
  show wpAny _ _ (Builtin.SmallTypes.nextOf (.ref i2) >>= _) _ _ { s with heap := h2 }
  refine wpAny_bind (wpAny_nextOf_list_item ((q2.extBut sb1.extBut D.i2z).extBut sb2.extBut (Ne.symm D.i12)) ((g2.extBut sb1.extBut D.l2z).extBut sb2.extBut D.l2i1) hy fun h3 r3 sb3 => wpAny_pure ?_)
  refine wpAny_pure (wpAny_pure ?_)
  show wpAny _ _ (newTuple [x, y] >>= _) _ _ { s with heap := h3 }
  refine wpAny_bind (wpAny_newTuple ?_)
  have sz : h3.objs.size = s.heap.objs.size := by rw [sb3.1, sb2.1, sb1.1]
  have zl : z < s.heap.objs.size := Heap.lt_size p0
  have nz : ZipO h3 z TI TO a true := sb3.extBut _ _ (Ne.symm D.i2z) (sb2.extBut _ _ (Ne.symm D.i1z) r1)
  have kp : ∀ c o, c ≠ z → c ≠ i1 → c ≠ i2 → s.heap.get? c = some o → h3.get? c = some o := fun c o c1 c2 c3 e => sb3.extBut _ _ c3 (sb2.extBut _ _ c2 (sb1.extBut _ _ c1 e))
  refine wpAny_pure ⟨_, rfl, ?_⟩
  show Q (.ref h3.objs.size) _
  have tn : IsPair (h3.push { cls := .type "tuple", data := .seq #[x, y] }) h3.objs.size x y := Heap.get?_push_size _ rfl
  rw [sz] at tn ⊢
  exact hQ (h3.push { cls := .type "tuple", data := .seq #[x, y] }) (Heap.get?_push_of_some _ nz) ((r2.extBut sb3.extBut D.i12).at fun o e => Heap.get?_push_of_some _ e) (r3.at fun o e => Heap.get?_push_of_some _ e) tn (by rw [Heap.size_push, sz]) fun c o c1 c2 c3 e => Heap.get?_push_of_some _ (kp c o c1 c2 c3 e)
theorem zo_end {Q : PySem.Fin → Shared → Prop} (hh : A.handled = none) (D : ZipApart z TI TO i1 i2 l1 l2) (p0 : ZipO s.heap z TI TO a b) (pa : s.heap.get? a = some oa) (p1 : IsPair s.heap TI (.ref i1) (.ref i2)) (q1 : s.heap.IsListIter i1 l1 k) (q2 : s.heap.IsListIter i2 l2 k)
    (g1 : s.heap.IsList l1 xs) (g2 : s.heap.IsList l2 ys) (hx : xs[k]? = none)
    (hE : ∀ h' e, (∀ c o, c ≠ z → c ≠ i1 → c ≠ i2 → s.heap.get? c = some o → h'.get? c = some o) → (∃ o, h'.get? e = some o ∧ o.cls = .type "StopIteration") → E (.ref e) { s with heap := h' }) :
    wpAny (model prog w) A (Builtin.«zip.__next__» ⟨[.ref z], []⟩) Q E s := by
  show wpAny _ _ (field (.ref z) 2 >>= _) _ _ s
  refine wpAny_bind (wpAny_field p0 rfl (x := .bool false) rfl ?_)
  show wpAny _ _ (field (.ref z) 3 >>= _) _ _ s
  refine wpAny_bind (wpAny_field p0 rfl (x := .ref TI) rfl ?_)
  refine wpAny_bind (wpAny_seqItems p1 rfl ?_)
  show wpAny _ _ (Builtin.SmallTypes.ownedTupleIsFree (.ref z) >>= _) _ _ s
  refine wpAny_bind (zo_busy p0 pa fun h1 r1 sb1 => ?_)
  simp only [Bool.false_eq_true, if_false, ← Array.forIn_toList, List.forIn_cons, List.forIn_nil]
  refine wpAny_bind (wpAny_bind (wpAny_bind (wpAny_holding ?_)))
  show wpAny _ _ (Builtin.SmallTypes.nextOf (.ref i1) >>= _) _ _ { s with heap := h1 }
  exact wpAny_bind (wpAny_nextOf_list_end hh (q1.extBut sb1.extBut D.i1z) (g1.extBut sb1.extBut D.l1z) hx fun h2 e sb2 he => hE h2 e (fun c o c1 c2 _ q => sb2 _ _ c2 (sb1.extBut _ _ c1 q)) he)
theorem zo_nextItem {Q : Option Value → Shared → Prop} (D : ZipApart z TI TO i1 i2 l1 l2) (p0 : ZipO s.heap z TI TO a b) (pa : s.heap.get? a = some oa) (p1 : IsPair s.heap TI (.ref i1) (.ref i2)) (q1 : s.heap.IsListIter i1 l1 k) (q2 : s.heap.IsListIter i2 l2 k)
    (g1 : s.heap.IsList l1 xs) (g2 : s.heap.IsList l2 ys) (hx : xs[k]? = some x) (hy : ys[k]? = some y)
    (hQ : ∀ h', ZipO h' z TI TO a true → h'.IsListIter i1 l1 (k + 1) → h'.IsListIter i2 l2 (k + 1) → IsPair h' s.heap.objs.size x y → h'.objs.size = s.heap.objs.size + 1 → (∀ c o, c ≠ z → c ≠ i1 → c ≠ i2 → s.heap.get? c = some o → h'.get? c = some o) → Q (some (.ref s.heap.objs.size)) { s with heap := h' }) :
    wpAny (model prog w) A (pyNext (.ref z)) Q E s := by
  have ty : s.TypeIs (.ref z) "zip" := ⟨_, p0, rfl⟩
  unfold pyNext
  exact wpAny_bind (wpAny_attempt (wpAny_callSpecial?_slot (name := Str.ofString "__next__") ty F.slot_zip_next (wpAny_call_entry F.slot_zip_next ty F.entry_zip_next
    (zo_item D p0 pa p1 q1 q2 g1 g2 hx hy fun h' b1 b2 b3 b4 b5 b6 => wpAny_pure (hQ h' b1 b2 b3 b4 b5 b6)) (F.args_zip_next_1 _))))
end
end LZ

namespace LZ
open PySem PySem.Spec PyProof.Rows
section
variable {prog : Program} {w : World} {A : Around} {E : Value → Shared → Prop} {s : Shared} {z TI TO i1 i2 l1 l2 a : Addr} {b : Bool} {oa : Obj} {k : Nat} {xs ys : Array Value} {x y : Value}
theorem zo_nextEnd {Q : Option Value → Shared → Prop} (hh : A.handled = none) (D : ZipApart z TI TO i1 i2 l1 l2) (p0 : ZipO s.heap z TI TO a b) (pa : s.heap.get? a = some oa) (p1 : IsPair s.heap TI (.ref i1) (.ref i2)) (q1 : s.heap.IsListIter i1 l1 k) (q2 : s.heap.IsListIter i2 l2 k)
    (g1 : s.heap.IsList l1 xs) (g2 : s.heap.IsList l2 ys) (hx : xs[k]? = none) (hQ : ∀ h', (∀ c o, c ≠ z → c ≠ i1 → c ≠ i2 → s.heap.get? c = some o → h'.get? c = some o) → Q none { s with heap := h' }) : wpAny (model prog w) A (pyNext (.ref z)) Q E s := by
  have ty : s.TypeIs (.ref z) "zip" := ⟨_, p0, rfl⟩
  unfold pyNext
  refine wpAny_bind (wpAny_attempt (wpAny_callSpecial?_slot (name := Str.ofString "__next__") ty F.slot_zip_next (wpAny_call_entry F.slot_zip_next ty F.entry_zip_next
    (zo_end hh D p0 pa p1 q1 q2 g1 g2 hx fun h' e kp he => ?_) (F.args_zip_next_1 _))))
  obtain ⟨o, e1, e2⟩ := he
  exact wpAny_bind (wpAny_isInstance (T := "StopIteration") (b := true) ⟨o, e1, e2⟩ isSubtype_stop (wpAny_pure (hQ _ kp)))
end
/-- the walk under way: i pairs are drawn -/
structure ZW (h : Heap) (z TI TO i1 i2 l1 l2 M : Addr) (xs ys : Array Value) (i : Nat) (as : List Addr) : Prop where
  st : (i = 0 ∧ IsZip h z TI TO .none ∧ ∃ u v, IsPair h TO u v) ∨ ∃ T b oT, M ≤ T ∧ ZipO h z TI TO T b ∧ h.get? T = some oT
  p1 : IsPair h TI (.ref i1) (.ref i2)
  q1 : h.IsListIter i1 l1 i
  q2 : h.IsListIter i2 l2 i
  g1 : h.IsList l1 xs
  g2 : h.IsList l2 ys
  len : as.length = i
  rise : as.Pairwise (· < ·)
  lo : ∀ a ∈ as, M ≤ a
  pr : ∀ (j : Nat) (a : Addr), as[j]? = some a → ∃ x y, xs[j]? = some x ∧ ys[j]? = some y ∧ IsPair h a x y
structure ZB (z TI TO i1 i2 l1 l2 S M : Addr) : Prop where
  D : ZipApart z TI TO i1 i2 l1 l2
  lS : S < M
  lz : z < M
  lTI : TI < M
  lTO : TO < M
  li1 : i1 < M
  li2 : i2 < M
  ll1 : l1 < M
  ll2 : l2 < M
  nz : S ≠ z
  nTI : S ≠ TI
  nTO : S ≠ TO
  ni1 : S ≠ i1
  ni2 : S ≠ i2
  nl1 : S ≠ l1
  nl2 : S ≠ l2
section
variable {h h' : Heap} {z TI TO i1 i2 l1 l2 S M : Addr} {xs ys : Array Value} {i : Nat} {as : List Addr}
theorem ZW.keep (B : ZB z TI TO i1 i2 l1 l2 S M) (W : ZW h z TI TO i1 i2 l1 l2 M xs ys i as) (kp : ∀ b o, b ≠ S → h.get? b = some o → h'.get? b = some o) : ZW h' z TI TO i1 i2 l1 l2 M xs ys i as := by
  have hS := B.lS
  refine ⟨?_, kp _ _ (Ne.symm B.nTI) W.p1, W.q1.at fun o e => kp _ _ (Ne.symm B.ni1) e, W.q2.at fun o e => kp _ _ (Ne.symm B.ni2) e, W.g1.at fun o e => kp _ _ (Ne.symm B.nl1) e, W.g2.at fun o e => kp _ _ (Ne.symm B.nl2) e, W.len, W.rise, W.lo, fun j a e => ?_⟩
  · rcases W.st with ⟨e, e2, u, v, e3⟩ | ⟨T, b, oT, e1, e2, e3⟩
    · exact .inl ⟨e, kp _ _ (Ne.symm B.nz) e2, u, v, kp _ _ (Ne.symm B.nTO) e3⟩
    · exact .inr ⟨T, b, oT, e1, kp _ _ (Ne.symm B.nz) e2, kp _ _ (fun q => by rw [q] at e1; exact absurd e1 (Nat.not_le.mpr hS)) e3⟩
  · obtain ⟨x, y, e1, e2, e3⟩ := W.pr j a e
    have := W.lo a (List.mem_of_getElem? e)
    exact ⟨x, y, e1, e2, kp _ _ (fun q => by rw [q] at this; exact absurd this (Nat.not_le.mpr hS)) e3⟩
theorem ne_lt {a b : Addr} (h : b < M) (h2 : M ≤ a) : a ≠ b := fun q => by rw [q] at h2; exact absurd h2 (Nat.not_le.mpr h)
variable {prog : Program} {w : World} {A : Around} {E : Value → Shared → Prop} {s : Shared} {x y : Value}
/-- the next pair -/
theorem ZW.item {Q : Option Value → Shared → Prop} (B : ZB z TI TO i1 i2 l1 l2 S M) (W : ZW s.heap z TI TO i1 i2 l1 l2 M xs ys i as) (hM : M ≤ s.heap.objs.size) (hx : xs[i]? = some x) (hy : ys[i]? = some y)
    (hQ : ∀ h', ZW h' z TI TO i1 i2 l1 l2 M xs ys (i + 1) (as ++ [s.heap.objs.size]) → h'.objs.size = s.heap.objs.size + 1 → (∀ c o, c ≠ z → c ≠ TO → c ≠ i1 → c ≠ i2 → s.heap.get? c = some o → h'.get? c = some o) → Q (some (.ref s.heap.objs.size)) { s with heap := h' }) :
    wpAny (model prog w) A (pyNext (.ref z)) Q E s := by
  have fin : ∀ h', (∃ T b oT, M ≤ T ∧ ZipO h' z TI TO T b ∧ h'.get? T = some oT) → h'.IsListIter i1 l1 (i + 1) → h'.IsListIter i2 l2 (i + 1) → IsPair h' s.heap.objs.size x y → (∀ c o, c ≠ z → c ≠ TO → c ≠ i1 → c ≠ i2 → s.heap.get? c = some o → h'.get? c = some o) →
      ZW h' z TI TO i1 i2 l1 l2 M xs ys (i + 1) (as ++ [s.heap.objs.size]) := fun h' st r1 r2 r3 kp => by
    refine ⟨.inr st, kp _ _ B.D.TIz B.D.TITO B.D.TIi1 B.D.TIi2 W.p1, r1, r2, W.g1.at fun o e => kp _ _ B.D.l1z B.D.l1TO B.D.l1i1 B.D.l1i2 e, W.g2.at fun o e => kp _ _ B.D.l2z B.D.l2TO B.D.l2i1 B.D.l2i2 e, by rw [List.length_append, W.len]; rfl, ?_, fun a ha => ?_, fun j a e => ?_⟩
    · refine List.pairwise_append.mpr ⟨W.rise, List.pairwise_singleton _ _, fun a ha b hb => ?_⟩
      rw [List.mem_singleton.mp hb]
      obtain ⟨j, hj⟩ := List.mem_iff_getElem?.mp ha
      obtain ⟨_, _, _, _, e⟩ := W.pr j a hj
      exact Heap.lt_size e
    · rcases List.mem_append.mp ha with ha | ha
      · exact W.lo a ha
      · rw [List.mem_singleton.mp ha]; exact hM
    · by_cases hj : j < as.length
      · rw [List.getElem?_append_left hj] at e
        obtain ⟨x', y', e1, e2, e3⟩ := W.pr j a e
        have := W.lo a (List.mem_of_getElem? e)
        exact ⟨x', y', e1, e2, kp _ _ (ne_lt B.lz this) (ne_lt B.lTO this) (ne_lt B.li1 this) (ne_lt B.li2 this) e3⟩
      · have hj' : j = as.length := by
          have := (List.getElem?_eq_some_iff.mp e).1
          rw [List.length_append, List.length_singleton] at this
          omega
        subst hj'
        rw [List.getElem?_append_right (Nat.le_refl _), Nat.sub_self] at e
        cases e
        exact ⟨x, y, by rw [W.len]; exact hx, by rw [W.len]; exact hy, r3⟩
  rcases W.st with ⟨e, e2, u, v, e3⟩ | ⟨T, b, oT, e1, e2, e3⟩
  · exact wpAny_pyNext_zip_item B.D e2 W.p1 e3 W.q1 W.q2 W.g1 W.g2 hx hy fun h' c1 c2 c3 c4 c5 c6 c7 => hQ h' (fin h' ⟨_, false, _, hM, c1, c5⟩ c3 c4 c5 c7) c6 c7
  · refine zo_nextItem B.D e2 e3 W.p1 W.q1 W.q2 W.g1 W.g2 hx hy fun h' c1 c2 c3 c4 c5 c6 => ?_
    have kp : ∀ c o, c ≠ z → c ≠ TO → c ≠ i1 → c ≠ i2 → s.heap.get? c = some o → h'.get? c = some o := fun c o d1 _ d3 d4 e => c6 c o d1 d3 d4 e
    exact hQ h' (fin h' ⟨T, true, oT, e1, c1, kp _ _ (ne_lt B.lz e1) (ne_lt B.lTO e1) (ne_lt B.li1 e1) (ne_lt B.li2 e1) e3⟩ c2 c3 c4 kp) c5 kp
theorem ZW.done {Q : Option Value → Shared → Prop} (hh : A.handled = none) (B : ZB z TI TO i1 i2 l1 l2 S M) (W : ZW s.heap z TI TO i1 i2 l1 l2 M xs ys i as) (hx : xs[i]? = none)
    (hQ : ∀ h', (∀ c o, c ≠ z → c ≠ TO → c ≠ i1 → c ≠ i2 → s.heap.get? c = some o → h'.get? c = some o) → Q none { s with heap := h' }) : wpAny (model prog w) A (pyNext (.ref z)) Q E s := by
  rcases W.st with ⟨e, e2, u, v, e3⟩ | ⟨T, b, oT, e1, e2, e3⟩
  · exact wpAny_pyNext_zip_end hh B.D e2 W.p1 e3 W.q1 W.q2 W.g1 W.g2 (.inl hx) hQ
  · exact zo_nextEnd hh B.D e2 e3 W.p1 W.q1 W.q2 W.g1 W.g2 hx fun h' kp => hQ h' fun c o d1 _ d3 d4 e => kp c o d1 d3 d4 e
/-- the pairs are put into the list at S -/
theorem zip_fill {R : Result → Shared → Prop} (hh : A.handled = none) (B : ZB z TI TO i1 i2 l1 l2 S M) (hn : xs.size ≤ sizeLine) (hl : xs.size = ys.size) (res : Value) {h0 : Heap}
    (hR : ∀ (h' : Heap) (tk c' : Nat) (acc : Array Value) (as : List Addr), (∀ b o, b ≠ S → b ≠ z → b ≠ TO → b ≠ i1 → b ≠ i2 → h0.get? b = some o → h'.get? b = some o) → h'.get? S = some { cls := .type "list", dict := none, data := .seq acc c', slots := #[] } → as.length = xs.size → as.Pairwise (· < ·) → (∀ a ∈ as, M ≤ a) →
      (∀ (j : Nat) (a : Addr), as[j]? = some a → ∃ x y, xs[j]? = some x ∧ ys[j]? = some y ∧ IsPair h' a x y) → acc.toList = as.map Value.ref → R (.ok (.ret res)) { s with heap := h', toks := tk }) :
    ∀ (m i : Nat) (h : Heap) (tk c : Nat) (acc : Array Value) (as : List Addr), xs.size - i = m → i ≤ xs.size → ZW h z TI TO i1 i2 l1 l2 M xs ys i as → (∀ b o, b ≠ S → b ≠ z → b ≠ TO → b ≠ i1 → b ≠ i2 → h0.get? b = some o → h.get? b = some o) → M ≤ h.objs.size →
      h.get? S = some { cls := .type "list", dict := none, data := .seq acc c, slots := #[] } → acc.toList = as.map Value.ref →
      codeAny (model prog w) A (.builtin "list.extend.loop" ⟨[.ref S, .ref z, res], []⟩) R { s with heap := h, toks := tk } := by
  intro m
  induction m with
  | zero =>
    intro i h tk c acc as hm hi W kp hM hS hacc
    have hi' : i = xs.size := by omega
    subst hi'
    refine codeAny_builtin F.entry_extend_loop ?_
    rw [Around.under_plainId F.plain_extend_loop]
    show wpAny _ A.in1 (pyNext (.ref z) >>= _) _ _ { s with heap := h, toks := tk }
    refine wpAny_bind (ZW.done (s := { s with heap := h, toks := tk }) (A := A.in1) hh B W (by simp) fun h' kp' => ?_)
    refine wpAny_pure (hR h' tk c acc as (fun b o b1 b2 b3 b4 b5 e => kp' b o b2 b3 b4 b5 (kp b o b1 b2 b3 b4 b5 e)) (kp' S _ B.nz B.nTO B.ni1 B.ni2 hS) W.len W.rise W.lo (fun j a e => ?_) hacc)
    obtain ⟨x, y, e1, e2, e3⟩ := W.pr j a e
    have := W.lo a (List.mem_of_getElem? e)
    exact ⟨x, y, e1, e2, kp' _ _ (ne_lt B.lz this) (ne_lt B.lTO this) (ne_lt B.li1 this) (ne_lt B.li2 this) e3⟩
  | succ m ih =>
    intro i h tk c acc as hm hi W kp hM hS hacc
    have lt : i < xs.size := by omega
    have lt2 : i < ys.size := by omega
    refine codeAny_builtin F.entry_extend_loop ?_
    rw [Around.under_plainId F.plain_extend_loop]
    show wpAny _ A.in1 (pyNext (.ref z) >>= _) _ _ { s with heap := h, toks := tk }
    refine wpAny_bind (ZW.item (s := { s with heap := h, toks := tk }) B W hM (Array.getElem?_eq_getElem lt) (Array.getElem?_eq_getElem lt2) fun h' W' sz' kp' => ?_)
    dsimp only at W' sz' kp' ⊢
    have hS' := kp' S _ B.nz B.nTO B.ni1 B.ni2 hS
    have hsz : acc.size = i := by rw [← Array.length_toList, hacc, List.length_map, W.len]
    have up : ∀ b o, b ≠ S → h'.get? b = some o → (h'.update S (Obj.mapSeq (·.push (Value.ref h.objs.size)))).get? b = some o := fun b o hb e => by rw [Heap.get?_update_other _ _ (Ne.symm hb)]; exact e
    show wpAny _ A.in1 (updateSeq S (·.push (Value.ref h.objs.size)) >>= _) _ _ { s with heap := h', toks := tk }
    refine wpAny_bind (wpAny_updateSeq hS' rfl (wpAny_pure ⟨plainId_quiet F.plain_extend_loop _, ih (i + 1) _ tk _ (acc.push (Value.ref h.objs.size)) (as ++ [h.objs.size]) (by omega) lt (W'.keep B up) (fun b o b1 b2 b3 b4 b5 e => up b o b1 (kp' b o b2 b3 b4 b5 (kp b o b1 b2 b3 b4 b5 e))) ?_ (Heap.get?_update_self _ hS' rfl) (by rw [Array.toList_push, hacc, List.map_append]; rfl)⟩)
      (by rw [hsz]; omega) (by show (acc.push (Value.ref h.objs.size)).size ≤ sizeLine + 1; rw [Array.size_push, hsz]; omega))
    have e1 : (h'.update S (Obj.mapSeq (·.push (Value.ref h.objs.size)))).objs.size = h'.objs.size := (Heap.SameBut.update ..).1
    exact Nat.le_trans hM (Nat.le_trans (Nat.le_succ _) (Nat.le_of_eq (sz'.symm.trans e1.symm)))
end
end LZ

namespace LZ
open PySem PySem.Spec PyProof.Rows
theorem zip_noLen : typeLookup (.type "zip") "__len__" = pure none := by rw [typeLookup_type, builtinLookup_eq_fast]; kernel_rfl
theorem zip_noHint : typeLookup (.type "zip") "__length_hint__" = pure none := by rw [typeLookup_type, builtinLookup_eq_fast]; kernel_rfl
section
variable {prog : Program} {w : World} {A : Around} {E : Value → Shared → Prop} {s : Shared} {z TI TO i1 i2 l1 l2 S M : Addr} {xs ys : Array Value}
theorem zip_hint {Q : Bool → Shared → Prop} (ty : s.TypeIs (.ref z) "zip") (h : Q true s) : wpAny (model prog w) A (Builtin.List.listLengthHint (.ref z)) Q E s := by
  unfold Builtin.List.listLengthHint
  refine wpAny_bind (wpAny_specialOf ty zip_noLen ?_)
  refine wpAny_ite_split (fun q => absurd q (by decide)) fun _ => ?_
  refine wpAny_ite_split (fun q => absurd q (by decide)) fun _ => ?_
  exact wpAny_bind (wpAny_specialOf ty zip_noHint (wpAny_pure h))
theorem zip_extend {R : Result → Shared → Prop} (hh : A.handled = none) (B : ZB z TI TO i1 i2 l1 l2 S M) (hn : xs.size ≤ sizeLine) (hl : xs.size = ys.size) (res : Value) (c0 : Nat) (hM : M ≤ s.heap.objs.size) (W : ZW s.heap z TI TO i1 i2 l1 l2 M xs ys 0 []) (pz : IsZip s.heap z TI TO .none)
    (hS : s.heap.get? S = some { cls := .type "list", data := .seq #[] c0 })
    (hR : ∀ (h' : Heap) (tk c' : Nat) (acc : Array Value) (as : List Addr), (∀ b o, b ≠ S → b ≠ z → b ≠ TO → b ≠ i1 → b ≠ i2 → s.heap.get? b = some o → h'.get? b = some o) → h'.get? S = some { cls := .type "list", dict := none, data := .seq acc c', slots := #[] } → as.length = xs.size → as.Pairwise (· < ·) → (∀ a ∈ as, M ≤ a) →
      (∀ (j : Nat) (a : Addr), as[j]? = some a → ∃ x y, xs[j]? = some x ∧ ys[j]? = some y ∧ IsPair h' a x y) → acc.toList = as.map Value.ref → R (.ok (.ret res)) { s with heap := h', toks := tk }) :
    wpAny (model prog w) A.in1 (Builtin.List.listExtendWith (.ref S) (.ref z) res) (fun fin s' => match fin with | .done f => R (.ok f) s' | .again c' => c'.quiet = true ∧ codeAny (model prog w) A c' R s') (fun e s' => R (.error e) s') s := by
  have ty : s.TypeIs (.ref z) "zip" := ⟨_, pz, rfl⟩
  unfold Builtin.List.listExtendWith
  refine wpAny_bind (wpAny_typeOf ty ?_)
  have n1 : Builtin.List.listSameRef (.ref S) (.ref z) = false := by simp [Builtin.List.listSameRef, B.nz]
  simp only [n1, show (Value.type "zip" == Value.type "list") = false by decide, show (Value.type "zip" == Value.type "tuple") = false by decide, Bool.or_false, Bool.false_eq_true, if_false]
  refine wpAny_bind (wpAny_pyIter_zip pz ?_)
  refine wpAny_bind (wpAny_holding (zip_hint ty ?_))
  simp only [Bool.true_or, if_true]
  refine wpAny_bind (wpAny_rule ?_)
  refine wpAny_bind ?_
  show wpAny _ _ (updateSeq S (·.push .none) >>= fun _ => updateSeq S (·.pop)) _ _ s
  refine wpAny_bind (wpAny_updateSeq hS rfl ?_)
  have hS2 := Heap.get?_update_self (Obj.mapSeq (·.push Value.none)) hS rfl
  refine wpAny_updateSeq (hz := by seq_fits) hS2 rfl ?_
  have hS3 := Heap.get?_update_self (Obj.mapSeq (·.pop)) hS2 rfl
  have up : ∀ b o, b ≠ S → s.heap.get? b = some o → ((s.heap.update S (Obj.mapSeq (·.push Value.none))).update S (Obj.mapSeq (·.pop))).get? b = some o := fun b o hb e => by rw [Heap.get?_update_other _ _ (Ne.symm hb), Heap.get?_update_other _ _ (Ne.symm hb)]; exact e
  refine wpAny_pure ⟨plainId_quiet F.plain_extend_loop _, ?_⟩
  refine zip_fill hh B hn hl res (h0 := s.heap) hR xs.size 0 _ _ _ #[] [] rfl (Nat.zero_le _) (W.keep B up) (fun b o b1 _ _ _ _ e => up b o b1 e) ?_ hS3 rfl
  rw [(Heap.SameBut.update ..).1, (Heap.SameBut.update ..).1]
  exact hM
theorem zip_init {R : Result → Shared → Prop} (hh : A.handled = none) (B : ZB z TI TO i1 i2 l1 l2 S M) (hn : xs.size ≤ sizeLine) (hl : xs.size = ys.size) (hM : M ≤ s.heap.objs.size) (W : ZW s.heap z TI TO i1 i2 l1 l2 M xs ys 0 []) (pz : IsZip s.heap z TI TO .none) (hS : s.heap.get? S = some { cls := .type "list", data := .seq #[] })
    (hR : ∀ (h' : Heap) (tk c' : Nat) (acc : Array Value) (as : List Addr), (∀ b o, b ≠ S → b ≠ z → b ≠ TO → b ≠ i1 → b ≠ i2 → s.heap.get? b = some o → h'.get? b = some o) → h'.get? S = some { cls := .type "list", dict := none, data := .seq acc c', slots := #[] } → as.length = xs.size → as.Pairwise (· < ·) → (∀ a ∈ as, M ≤ a) →
      (∀ (j : Nat) (a : Addr), as[j]? = some a → ∃ x y, xs[j]? = some x ∧ ys[j]? = some y ∧ IsPair h' a x y) → acc.toList = as.map Value.ref → R (.ok (.ret .none)) { s with heap := h', toks := tk }) :
    wpAny (model prog w) A.in1 (Builtin.«list.__init__» ⟨[.ref S, .ref z], []⟩) (fun fin s' => match fin with | .done f => R (.ok f) s' | .again c' => c'.quiet = true ∧ codeAny (model prog w) A c' R s') (fun e s' => R (.error e) s') s := by
  show wpAny _ _ (do let old ← Builtin.List.listItems (.ref S); Builtin.List.listUpdate (.ref S) (fun _ => #[]); letGo old.toList.reverse; Builtin.List.listExtendWith (.ref S) (.ref z) .none) _ _ s
  refine wpAny_bind ?_
  unfold Builtin.List.listItems
  refine wpAny_bind (wpAny_seqItems hS rfl (wpAny_pure ?_))
  show wpAny _ _ (updateSeq S (fun _ => #[]) >>= fun _ => letGo (#[] : Array Value).toList.reverse >>= fun _ => Builtin.List.listExtendWith (.ref S) (.ref z) .none) _ _ s
  refine wpAny_bind (wpAny_updateSeq hS rfl ?_)
  have hS2 := Heap.get?_update_self (Obj.mapSeq (fun _ => (#[] : Array Value))) hS rfl
  have up : ∀ b o, b ≠ S → s.heap.get? b = some o → (s.heap.update S (Obj.mapSeq (fun _ => (#[] : Array Value)))).get? b = some o := fun b o hb e => by rw [Heap.get?_update_other _ _ (Ne.symm hb)]; exact e
  refine wpAny_bind (wpAny_letGo ?_)
  refine zip_extend hh B hn hl .none _ ?_ (W.keep B up) (up _ _ (Ne.symm B.nz) pz) hS2 fun h' tk c' acc as kp h1 h2 h3 h4 h5 h6 => hR h' tk c' acc as (fun b o b1 b2 b3 b4 b5 e => kp b o b1 b2 b3 b4 b5 (up b o b1 e)) h1 h2 h3 h4 h5 h6
  show M ≤ (s.heap.update S _).objs.size
  rw [(Heap.SameBut.update ..).1]
  exact hM
/-- list(zip(l1, l2)), the zip made already -/
theorem list_zip {Q : Value → Shared → Prop} (hh : A.handled = none) (D : ZipApart z TI TO i1 i2 l1 l2) (hn : xs.size ≤ sizeLine) (hl : xs.size = ys.size) (pz : IsZip s.heap z TI TO .none) (p1 : IsPair s.heap TI (.ref i1) (.ref i2)) (p2 : ∃ u v, IsPair s.heap TO u v) (q1 : s.heap.IsListIter i1 l1 0) (q2 : s.heap.IsListIter i2 l2 0) (g1 : s.heap.IsList l1 xs) (g2 : s.heap.IsList l2 ys)
    (hQ : ∀ (h' : Heap) (tk c' : Nat) (acc : Array Value) (as : List Addr), (∀ b o, b ≠ z → b ≠ TO → b ≠ i1 → b ≠ i2 → s.heap.get? b = some o → h'.get? b = some o) → h'.get? s.heap.objs.size = some { cls := .type "list", dict := none, data := .seq acc c', slots := #[] } → as.length = xs.size → as.Pairwise (· < ·) → (∀ a ∈ as, s.heap.objs.size < a) →
      (∀ (j : Nat) (a : Addr), as[j]? = some a → ∃ x y, xs[j]? = some x ∧ ys[j]? = some y ∧ IsPair h' a x y) → acc.toList = as.map Value.ref → Q (.ref s.heap.objs.size) { s with heap := h', toks := tk }) :
    wpAny (model prog w) A (call (.type "list") [.ref z]) Q E s := by
  refine callType_codes (Q₁ := fun obj s₁ => obj = .ref s.heap.objs.size ∧ s₁ = { s with heap := s.heap.push { cls := .type "list", data := .seq #[] } }) F.called_list (F.typeCall_list_1 _) F.entry_list_init (PySem.code_list_new _ ⟨rfl, rfl⟩) fun obj s1 h1 => ?_
  obtain ⟨rfl, rfl⟩ := h1
  have hS : (s.heap.push { cls := .type "list", data := .seq #[] }).get? s.heap.objs.size = some { cls := .type "list", data := .seq #[] } := Heap.get?_push_size _ rfl
  obtain ⟨u, v, p2⟩ := p2
  have zl : z < s.heap.objs.size := Heap.lt_size pz
  have tl := Heap.lt_size p1
  have tol := Heap.lt_size p2
  have i1l : i1 < s.heap.objs.size := by obtain ⟨_, e, _⟩ := q1; exact Heap.lt_size e
  have i2l : i2 < s.heap.objs.size := by obtain ⟨_, e, _⟩ := q2; exact Heap.lt_size e
  have l1l : l1 < s.heap.objs.size := by obtain ⟨_, e, _⟩ := g1; exact Heap.lt_size e
  have l2l : l2 < s.heap.objs.size := by obtain ⟨_, e, _⟩ := g2; exact Heap.lt_size e
  have B : ZB z TI TO i1 i2 l1 l2 s.heap.objs.size (s.heap.objs.size + 1) := ⟨D, Nat.lt_succ_self _, Nat.lt_succ_of_lt zl, Nat.lt_succ_of_lt tl, Nat.lt_succ_of_lt tol, Nat.lt_succ_of_lt i1l, Nat.lt_succ_of_lt i2l, Nat.lt_succ_of_lt l1l, Nat.lt_succ_of_lt l2l, Nat.ne_of_gt zl, Nat.ne_of_gt tl, Nat.ne_of_gt tol, Nat.ne_of_gt i1l, Nat.ne_of_gt i2l, Nat.ne_of_gt l1l, Nat.ne_of_gt l2l⟩
  have up : ∀ b o, s.heap.get? b = some o → (s.heap.push { cls := .type "list", data := .seq #[] }).get? b = some o := fun b o e => Heap.get?_push_of_some _ e
  have W : ZW (s.heap.push { cls := .type "list", data := .seq #[] }) z TI TO i1 i2 l1 l2 (s.heap.objs.size + 1) xs ys 0 [] := ⟨.inl ⟨rfl, up _ _ pz, u, v, up _ _ p2⟩, up _ _ p1, q1.at fun o e => up _ _ e, q2.at fun o e => up _ _ e, g1.at fun o e => up _ _ e, g2.at fun o e => up _ _ e, rfl, List.Pairwise.nil, (fun _ h => absurd h (by simp)), fun j a h => by simp at h⟩
  refine ⟨⟨_, hS, rfl⟩, F.args_list_init_2 _ _, zip_init (A := A.in1) hh B hn hl (by rw [Heap.size_push]; exact Nat.le_refl _) W (up _ _ pz) hS fun h' tk c' acc as kp e1 e2 e3 e4 e5 e6 => ?_⟩
  exact ⟨rfl, hQ h' tk c' acc as (fun b o b2 b3 b4 b5 e => kp b o (Nat.ne_of_lt (Heap.lt_size e)) b2 b3 b4 b5 (up _ _ e)) e1 e2 e3 (fun a ha => e4 a ha) e5 e6⟩
end
end LZ

namespace Q2
open PySem PySem.Spec PyProof.Rows L2
/-! ### rules that the layer lacks -/
section
variable {X : Cx}
/-- x ** n of great ints -/
def CPowW (i j : Int) : Prop := 0 ≤ j ∧ (Builtin.Int.intBits i : Int) * j ≤ 2 ^ 27
theorem op_powW : OpR X (binaryOp .Pow) (rI CPowW fun i j => .int (i ^ j.toNat)) := opI fun _ _ _ _ _ _ _ hc q => pow_int hc.1 hc.2 q
theorem powW2 {i : Int} (h : i.natAbs < 2 ^ 1000) : CPowW i 2 := by
  have h1 := PySem.Flt.log2_lt_of (by decide : 0 < 1000) h
  have h2 : Builtin.Int.intBits i ≤ i.natAbs.log2 + 1 := by
    unfold Builtin.Int.intBits
    split <;> omega
  refine ⟨by decide, ?_⟩
  have h3 : ((2 : Int) ^ 27) = 134217728 := by decide
  rw [h3]
  omega
/-- list + list, either of which may be read only -/
def rCatL (K : PySem.W.Frag) : R2 := fun x y H Q => ∃ l b xs zs, x = .ref l ∧ y = .ref b ∧ SqL K H l xs ∧ SqL K H b zs ∧ xs.length + zs.length ≤ sizeLine ∧ ∀ p, H p = none → Q (.ref p) (upd H p (.lst (xs ++ zs)))
theorem op_catL : OpR X (binaryOp .Add) (rCatL X.K) := by
  intro pins s σ H x y v u Q I rx ry h
  obtain ⟨l, b, xs, zs, rfl, rfl, hH, hB, hz, q⟩ := h
  cases rx
  cases ry
  obtain ⟨its, r, ⟨⟨cls, dd, data, sl⟩, n, ho, hc, hdn, hdt⟩, hl⟩ := I.list hH
  obtain ⟨its2, r2, ⟨⟨cls2, dd2, data2, sl2⟩, n2, ho2, hc2, hdn2, hdt2⟩, hl2⟩ := I.list hB
  simp only at hc hdt hc2 hdt2
  subst hc hdt hc2 hdt2
  have e1 := r.length
  have e2 := r2.length
  refine concat_meets ⟨_, ho, rfl⟩ ⟨_, ho2, rfl⟩ noFill_list_add seq_list_add PySem.F.slot_list_add PySem.F.entry_list_add (PySem.F.args_list_add_2 _ _) (list_addW l b its.toArray its2.toArray n n2 dd dd2 sl sl2 (by simp only [List.size_toArray]; omega)) ⟨ho, ho2, ?_⟩
  have ea : its.toArray ++ its2.toArray = (its ++ its2).toArray := by simp
  rw [ea]
  exact ⟨.ref _, _, I.lnew (t' := s.toks) (r.append r2) (by rw [List.length_append]; omega), rfl, q _ I.fresh⟩
/-- repr of a bool -/
def bStr (b : Bool) : Str := if b then "True" else "False"
theorem call_repr_bool : CallR X (.builtin "repr") (fun xs H Q => ∃ b, xs = [.bl b] ∧ Q (.str (bStr b)) H) := by
  intro pins s σ H xs us Q I r h
  obtain ⟨b, rfl, q⟩ := h
  cases r with
  | cons r1 r2 =>
    cases r2
    cases r1
    exact PySem.P.repr_of_bool ⟨.str _, H, I.tok _, ⟨_, rfl⟩, q⟩
section
variable {CX : CXT} {k : Nat} {f : Addr} {fd : FuncData} {ps ks : List Str} {sp : Sp} {E : XK} {x : Str} {p pos : Pos} {kws : List Keyword} {tk : TA} {g : List Value → List Value → List Value} {gV : List V → List V → List V}
/-- f(k = v, ..) -/
theorem pe_callK0 (F : FnOk X.prog X.w X.K X.mg X.base CX k f fd ps sp) (hr : Room k X.A) (hg : Gl X x) (hm : X.mg x = some (.ref f)) (hk : PySem.W.keepIn X.K (.ref f) = true) (hb : KBinds X.K fd ps ks g gV) (hx : Passes CX X E)
    (hkw : PK X kws tk) (hall : (backToKw pos (keywordEach kws X.env)).all (·.1.isSome) = true := by rfl) (hks : (backToKw pos (keywordEach kws X.env)).filterMap (·.1) = ks := by rfl)
    (hdb : (x == ("__debug__" : Str)) = false := by decide)
    (hpl : ((backTo pos (starEach [] X.env)).any (·.1) || (backToKw pos (keywordEach kws X.env)).any (·.1.isNone)) = false := by rfl) :
    PE X (.Call (.Name x p) [] kws pos) (tCallK sp gV E tNil tk) := by
  refine ⟨fun pins s σ H Q I h => ?_⟩
  refine wpAny_Call_Name_kw (ld_glob I hg hm ?_ hdb)
  refine PySem.W.callWith_KW0 (h₀ := X.base) I.ok.mod.kin hk hall ?_ hpl
  refine thn (hkw.run pos pins s σ H _ I h) fun ws s2 ⟨zs, H2, I2, rz, q2⟩ => ⟨I2.kIn, ?_⟩
  rw [hks]
  exact run_fnk F hr hb hx I2 .nil rz q2
end
end
/-! ### heaps -/
/-- all that was tracked stands, but what is at s -/
def Ex (s : Addr) (H H' : Hp) : Prop := ∀ b o, H b = some o → b ≠ s → H' b = some o
theorem Ex.refl (s : Addr) (H : Hp) : Ex s H H := fun _ _ h _ => h
theorem Ex.trans {s : Addr} {H H1 H2 : Hp} (a : Ex s H H1) (b : Ex s H1 H2) : Ex s H H2 := fun c o h n => b c o (a c o h n) n
theorem Ex.same {s : Addr} {H H' : Hp} (e : Same H H') : Ex s H H' := fun b o h _ => e b o h
theorem Ex.put {s : Addr} {H : Hp} {o : HO} : Ex s H (upd H s o) := fun b o' h n => by rw [upd_ne n]; exact h
theorem same_new {H : Hp} {p : Addr} {o : HO} (h : H p = none) : Same H (upd H p o) := fun b x e => by
  rw [upd_ne (ne_of_none e h)]
  exact e
/-- the source: a list of three ints, the first not negative -/
def Src (H : Hp) (s : Addr) : Prop := ∃ a b c : Int, 0 ≤ a ∧ H s = some (.lst [.int a, .int b, .int c])
theorem Src.same {H H' : Hp} {s : Addr} (e : Same H H') (h : Src H s) : Src H' s := by
  obtain ⟨a, b, c, h0, h⟩ := h
  exact ⟨a, b, c, h0, e _ _ h⟩
theorem Src.ne {H : Hp} {s p : Addr} (h : Src H s) (hp : H p = none) : p ≠ s := by
  obtain ⟨a, b, c, h0, h⟩ := h
  exact (ne_of_none h hp).symm
/-- points that stand in the heap -/
abbrev Pts := List (Addr × Int × Int)
def PtAt (H : Hp) (B : Int) (q : Addr × Int × Int) : Prop := H q.1 = some (.tup [.int q.2.1, .int q.2.2]) ∧ (-B ≤ q.2.1 ∧ q.2.1 ≤ B) ∧ (-B ≤ q.2.2 ∧ q.2.2 ≤ B)
def Spots (H : Hp) (B : Int) (a : Addr) (ps : Pts) : Prop := H a = some (.lst (ps.map fun q => V.ref q.1)) ∧ ps.length ≤ 40 ∧ ∀ q ∈ ps, PtAt H B q
theorem PtAt.same {H H' : Hp} {B : Int} {q : Addr × Int × Int} (e : Same H H') (h : PtAt H B q) : PtAt H' B q := ⟨e _ _ h.1, h.2⟩
theorem PtAt.ex {H H' : Hp} {B : Int} {s : Addr} {q : Addr × Int × Int} (hs : Src H s) (e : Ex s H H') (h : PtAt H B q) : PtAt H' B q := by
  obtain ⟨a, b, c, h0, hs⟩ := hs
  exact ⟨e _ _ h.1 (ne_of h.1 hs (by intro z; cases z)), h.2⟩
theorem Spots.same {H H' : Hp} {B : Int} {a : Addr} {ps : Pts} (e : Same H H') (h : Spots H B a ps) : Spots H' B a ps := ⟨e _ _ h.1, h.2.1, fun q hq => (h.2.2 q hq).same e⟩
theorem Spots.ex {H H' : Hp} {B : Int} {s a : Addr} {ps : Pts} (hs : Src H s) (n : a ≠ s) (e : Ex s H H') (h : Spots H B a ps) : Spots H' B a ps := ⟨e _ _ h.1 n, h.2.1, fun q hq => (h.2.2 q hq).ex hs e⟩
theorem small40 {n : Nat} (h : n ≤ 1000) : n ≤ sizeLine := Nat.le_of_lt (small1000 h)
/-! ### a tuple's equality as data -/
def ptD (z : Int × Int) : PyData := .tuple [.int z.1, .int z.2]
theorem ptD_lay (z : Int × Int) : (ptD z).canLay0 = true := by simp [ptD, PyData.canLay0, PyData.canLayAll0]
theorem ptD_depth (z : Int × Int) : (ptD z).depth = 1 := by simp [ptD, PyData.depth, PyData.depthAll]
theorem ptDs_lay : ∀ zs : List (Int × Int), PyData.canLayAll0 (zs.map ptD) = true
  | [] => by simp [PyData.canLayAll0]
  | z :: zs => by simp [PyData.canLayAll0, ptD_lay z, ptDs_lay zs]
theorem ptDs_depth : ∀ zs : List (Int × Int), PyData.depthAll (zs.map ptD) ≤ 2
  | [] => by simp [PyData.depthAll]
  | z :: zs => by
    have h1 := ptDs_depth zs
    have h2 := ptD_depth z
    simp only [List.map_cons, PyData.depthAll]
    omega
theorem ptD_shaped (z : Int × Int) : SeqAt.shaped (ptD z) = true := by
  have h := ptD_depth z
  show ((ptD z).canLay0 && decide ((ptD z).depth ≤ 64)) = true
  rw [Bool.and_eq_true]
  exact ⟨ptD_lay z, decide_eq_true (by omega)⟩
theorem ptDs_shaped (zs : List (Int × Int)) : SeqAt.shaped (.list (zs.map ptD)) = true := by
  have h1 := ptDs_depth zs
  have h2 : PyData.depth (.list (zs.map ptD)) ≤ 64 := by
    simp only [PyData.depth]
    omega
  show (PyData.canLay0 (.list (zs.map ptD)) && decide (PyData.depth (.list (zs.map ptD)) ≤ 64)) = true
  rw [Bool.and_eq_true]
  exact ⟨by simp only [PyData.canLay0]; exact ptDs_lay zs, decide_eq_true h2⟩
theorem ptD_eqv (z w : Int × Int) : PyData.eqv (ptD z) (ptD w) = decide (z = w) := by
  obtain ⟨a, b⟩ := z
  obtain ⟨a', b'⟩ := w
  have e : PyData.eqv (ptD (a, b)) (ptD (a', b')) = ((a == a') && ((b == b') && true)) := by simp only [ptD, PyData.eqv, PyData.eqvAll]
  rw [e]
  by_cases h : a = a'
  · by_cases h2 : b = b'
    · subst h h2
      simp
    · simp [h, h2]
  · simp [h]
theorem dp_pt {K : PySem.W.Frag} {H : Hp} {B : Int} {q : Addr × Int × Int} (h : PtAt H B q) : Dp K H (.ref q.1) (ptD q.2) := .tup (SqT.of h.1) (.cons (.int _) (.cons (.int _) .nil))
theorem dp_pts {K : PySem.W.Frag} {H : Hp} {B : Int} : ∀ {ps : Pts}, (∀ q ∈ ps, PtAt H B q) → DpAll K H (ps.map fun q => V.ref q.1) ((ps.map (·.2)).map ptD)
  | [], _ => .nil
  | q :: ps, h => .cons (dp_pt (h q (List.mem_cons_self ..))) (dp_pts fun z hz => h z (List.mem_cons_of_mem _ hz))
theorem dp_spots {K : PySem.W.Frag} {H : Hp} {B : Int} {a : Addr} {ps : Pts} (h : Spots H B a ps) : Dp K H (.ref a) (.list ((ps.map (·.2)).map ptD)) := .lst (SqL.of h.1) (dp_pts h.2.2)
theorem any_pt (zs : List (Int × Int)) (w : Int × Int) : ((zs.map ptD).any fun z => PyData.eqv z (ptD w)) = decide (w ∈ zs) := by
  induction zs with
  | nil => simp
  | cons z zs ih =>
    rw [List.map_cons, List.any_cons, ih, ptD_eqv]
    by_cases h : z = w
    · subst h
      simp
    · have h' : ¬ w = z := fun e => h e.symm
      simp [h, h']
end Q2

namespace Q2
open PySem PySem.Spec PyProof.Rows L2
section
variable {P : Program} {w : World} {A : Around} {E : Value → Shared → Prop} {s : Shared} {a : Addr} {L : List (Addr × List Int)} {es : Array (Int × Value)} {ep : Nat} {t : SetTable}
/-- the search of a key that is no member comes to the first empty slot, whatever its hash meets on the way -/
theorem free_from (R : SetTR P w s.heap a L es ep t) {x : Addr} {k : List Int} (kx : IsT P w s.heap k x) (un : A.units < cLine) (out : k ∉ L.map (·.2)) {K : Nat} (lessK : K < 10 * SetTable.turns t.mask)
    (gapK : way t.mask (thash P w k) K ∉ t.place.toList) (fullK : ∀ c, c < K → way t.mask (thash P w k) c ∈ t.place.toList) {Q : SetFound → Shared → Prop} (win : Q (.free (way t.mask (thash P w k) K) false) s) :
    ∀ (f c : Nat) (stand : Option SetTable.Probe), stand.getD (t.probeStart (thash P w k)) = nth t.mask (runAt t.mask (SetTable.bits (thash P w k) % (t.mask + 1)) (SetTable.bits (thash P w k))) c → c ≤ K → K - c < f →
      wpAny (model P w) A (setSearchFrom a (.ref x) (thash P w k) false f stand) Q E s
  | 0, c, stand, _, _, less => absurd less (Nat.not_lt_zero _)
  | f + 1, c, stand, here, cK, less => by
    obtain ⟨ob, hob, exact_, dat⟩ := R.ob
    rw [setSearchFrom_succ]
    refine wpAny_bind ((wpAny_setState_of hob dat R.fits) ?_)
    dsimp only
    refine (wp_if_neg R.gw) ?_
    try refine (wpAny_bind (wpAny_pure ?_))
    -- the probe, c steps on
    generalize base0 : runAt t.mask (SetTable.bits (thash P w k) % (t.mask + 1)) (SetTable.bits (thash P w k)) = p0 at here
    have noDummy : ∀ (n : Nat) (p : SetTable.Probe), p.dummy = none → (nth t.mask p n).dummy = none := fun n => by
      induction n with
      | zero => exact fun p h => h
      | succ n ih => exact fun p h => ih (adv t.mask p) (by unfold adv; split <;> exact h)
    have d0 : p0.dummy = none := by rw [← base0]; rfl
    have go_on : ∀ q, nth t.mask (nth t.mask p0 c) q = nth t.mask p0 (c + q) := fun q => (nth_add t.mask c p0 q).symm
    have at_ : ∀ q, (nth t.mask p0 q).j = way t.mask (thash P w k) q := fun q => by rw [← base0]
    have at2 : ∀ q, (nth t.mask (nth t.mask p0 c) q).j = way t.mask (thash P w k) (c + q) := fun q => by rw [go_on, at_]
    have found := go_spec t R.tab.ris R.tab.dm (fun i => (es[i]?.map (·.1)).getD 0) (thash P w k) (10 * SetTable.turns t.mask) (K - c) (nth t.mask p0 c) (noDummy c p0 d0) (Nat.lt_of_le_of_lt (Nat.sub_le K c) lessK)
      (fun q hq => by rw [at2]; exact fullK (c + q) (Nat.add_lt_of_lt_sub' hq)) (by rw [at2, Nat.add_sub_cancel' cK]; exact gapK)
    rcases found with ⟨q, i, hq, slot, _, _, ans⟩ | ⟨_, ans⟩
    · have ans2 : t.probe (fun i => (es[i]?.map (·.1)).getD 0) (thash P w k) (stand.getD (t.probeStart (thash P w k))) = some (.candidate (way t.mask (thash P w k) (c + q)) i (nth t.mask p0 (c + (q + 1)))) := by
        rw [here, ← at2, ← go_on]
        exact ans
      rw [ans2]
      dsimp only
      rw [at2] at slot
      have small : i < L.length := by
        have y1 : i < t.place.toList.length := (List.getElem?_eq_some_iff.mp slot).1
        have y2 := R.tab.sz
        rw [List.length_map] at y2
        rw [Array.length_toList] at y1
        omega
      obtain ⟨p, hp⟩ : ∃ p, L[i]? = some p := ⟨L[i], List.getElem?_eq_getElem small⟩
      have pin : p ∈ L := List.mem_of_getElem? hp
      have other : p.2 ≠ k := fun e => out (List.mem_map.mpr ⟨p, pin, e⟩)
      have behind : wpAny (model P w) A (searchRest a (.ref x) (thash P w k) false f es t (way t.mask (thash P w k) (c + q)) i (nth t.mask p0 (c + (q + 1)))) Q E s := by
        unfold searchRest
        rw [R.entry hp]
        dsimp only
        refine wpAny_bind (wpAny_holding ((wpAny_eqBool_tuple un (R.tup p pin) kx) ?_))
        refine wpAny_bind ((wpAny_setState_of hob dat R.fits) ?_)
        dsimp only
        refine (wp_if_neg (by simp)) ?_
        try refine (wpAny_bind (wpAny_pure ?_))
        rw [sameMem]
        dsimp only
        have live := slot_live R.tab.ris slot
        simp only [if_true, live, R.entry hp]
        refine wpAny_bind (wpAny_isSame_ref_self (wpAny_bind (wpAny_pure ?_)))
        simp only [if_true]
        refine (wp_if_neg (by simp [other])) ?_
        refine free_from R kx un out lessK gapK fullK win f (c + (q + 1)) (some (nth t.mask p0 (c + (q + 1)))) ?_ (by omega) (by omega)
        rw [base0]
        rfl
      by_cases led : t.led = true
      · refine (wp_if_neg (by simp [led])) ?_
        try refine (wpAny_bind (wpAny_pure ?_))
        exact behind
      · refine (wp_if_pos (by simp [led])) ?_
        refine wpAny_bind ((seen_tup kx fun y hy => ?_) ?_)
        · obtain ⟨e, he, ee⟩ := List.mem_map.mp hy
          have e1 : e ∈ es ∧ e.1 = thash P w k := by simpa using he
          have e2 : e ∈ es.toList := by simpa using e1.1
          rw [R.rows] at e2
          obtain ⟨p2, m2, rfl⟩ := List.mem_map.mp e2
          exact ⟨p2.2, p2.1, ee.symm, R.tup p2 m2⟩
        · refine (wp_if_neg (by decide)) ?_
          try refine (wpAny_bind (wpAny_pure ?_))
          exact behind
    · have ans2 : t.probe (fun i => (es[i]?.map (·.1)).getD 0) (thash P w k) (stand.getD (t.probeStart (thash P w k))) = some (.empty (way t.mask (thash P w k) K) none) := by
        have e2 : way t.mask (thash P w k) K = (nth t.mask (nth t.mask p0 c) (K - c)).j := by rw [at2, Nat.add_sub_cancel' cK]
        rw [here, e2]
        exact ans
      rw [ans2]
      dsimp only
      exact wpAny_pure win
/-- the key is not there -/
theorem find_out (R : SetTR P w s.heap a L es ep t) {x : Addr} {k : List Int} (kx : IsT P w s.heap k x) (un : A.units < cLine) (out : k ∉ L.map (·.2)) {Q : Option Nat → Shared → Prop} (win : Q none s) :
    wpAny (model P w) A (setFind a (.ref x) (thash P w k)) Q E s := by
  obtain ⟨ob, hob, exact_, dat⟩ := R.ob
  have room_ := R.room
  obtain ⟨K, lessK, gapK, fullK⟩ := R.tab.first (by rw [List.length_map]; omega) (thash P w k)
  have few : K < 100000 := by
    have : 10 * SetTable.turns t.mask ≤ 1420 := by
      unfold SetTable.turns
      rcases R.tab.mok with e | e | e <;> omega
    omega
  unfold setFind
  rw [show (100000 : Nat) = 99999 + 1 from rfl]
  unfold setFindIn
  refine wpAny_bind ((wpAny_setState_of hob dat R.fits) ?_)
  dsimp only
  refine (wp_if_neg (by simp [byScan, Value.scannable])) ?_
  try refine (wpAny_bind (wpAny_pure ?_))
  unfold setSearch
  refine wpAny_bind (free_from R kx un out lessK gapK fullK ?_ 100000 0 none rfl (Nat.zero_le _) (by omega))
  dsimp only
  exact wpAny_pure win
end
section
variable {X : Cx}
theorem cr_set0T : CallR X (.type "set") (fun xs H Q => xs = [] ∧ ∀ p, H p = none → Q (.ref p) (upd H p (SetTO X.prog X.w p []))) := by
  intro pins s σ H xs us Q I r h
  obtain ⟨rfl, q⟩ := h
  cases r
  refine setR_new fun _ => ?_
  exact ⟨.ref _, upd H s.heap.objs.size (SetTO X.prog X.w s.heap.objs.size []), I.laid (t' := s.toks) (fun b u e => Heap.get?_push_of_some _ e) (Nat.le_refl _) (setTO_new (setTR_fresh (Heap.get?_push_size _ rfl)).t0), rfl, q _ (I.hok.fresh (Nat.le_refl _))⟩
theorem setT_full {pins : List (Addr × Obj)} {σ : L2.St} {H : Hp} {s : Shared} {a : Addr} {L : List (Addr × List Int)} (I : Inv X pins σ H s) (h : H a = some (SetTO X.prog X.w a L)) (ht : ∀ p ∈ L, SqT X.K H p.1 (p.2.map V.int)) : ∃ es ep t, SetTR X.prog X.w s.heap a L es ep t := by
  have o := I.hok a _ h
  have z : SetT0 X.prog X.w s.heap a L := o.1
  exact z.full fun p hp => I.isT (ht p hp)
/-- t in found, which it is not -/
def rOutT (K : PySem.W.Frag) (P : Program) (w : World) : R2 := fun x y H Q => ∃ (b a : Addr) (k : List Int) (L : List (Addr × List Int)), x = .ref b ∧ y = .ref a ∧ SqT K H b (k.map V.int) ∧ H a = some (SetTO P w a L) ∧ (∀ p ∈ L, SqT K H p.1 (p.2.map V.int)) ∧ k ∉ L.map (·.2) ∧ Q (.bl false) H
theorem op_outT (un : X.A.units + 64 < cLine) : OpR X (compareOp .In) (rOutT X.K X.prog X.w) := by
  intro pins s σ H x y v u Q I rx ry h
  obtain ⟨b, a, k, L, rfl, rfl, hk, ha, hL, out, q⟩ := h
  cases rx
  cases ry
  obtain ⟨es, ep, t, R⟩ := setT_full I ha hL
  obtain ⟨ob, hob, ex, dat⟩ := R.ob
  have ty : s.TypeIs (.ref a) "set" := ⟨ob, hob, ex.1⟩
  show wpAny _ _ (do return Value.bool (← contains (.ref a) (.ref b))) _ _ s
  refine (wpAny_bind ?_)
  unfold contains
  try with_reducible refine (wpAny_holding ?_)
  refine wpAny_bind ((wpAny_specialOf ty PySem.F.slot_set_contains.lookup) ?_)
  show wpAny _ _ (if (some (Value.builtin "set.__contains__") == some Value.none) = true then _ else _) _ _ s
  rw [if_neg (show ¬ _ by rw [beq_builtin_none]; exact Bool.false_ne_true)]
  refine wpAny_bind ((wpAny_callSpecialUnlessNone?_slot (name := Str.ofString "__contains__") ty PySem.F.slot_set_contains)
    (wpAny_call_entry PySem.F.slot_set_contains ty entry_set_contains (ha := PySem.F.args_set_contains_2 _ _) ?_))
  unfold Builtin.«frozenset.__contains__» Builtin.Frozenset.oneOther
  simp only [List.isEmpty_nil, bind_assoc]
  unfold Builtin.Frozenset.addrOf Builtin.Frozenset.withSetAsKey setContains
  refine (wpAny_bind (wpAny_pure ?_))
  try dsimp only
  refine (wpAny_bind (wpAny_pure ?_))
  try dsimp only
  refine (wpAny_bind (wpAny_tryCatch ?_))
  refine (wpAny_holding ?_)
  have kx := I.isT hk
  refine wpAny_bind ((wpAny_pyHash_tuple (by show X.A.units + 1 < cLine; omega) kx) ?_)
  refine wpAny_bind (find_out (s := { s with toks := s.toks + (k.length + 1) }) R kx (by show X.A.units + 1 < cLine; omega) out ?_)
  refine (wpAny_pure ?_)
  show wpAny _ _ (ret (Value.bool false)) _ _ _
  exact wpAny_pure ⟨_, rfl, wpAny_truthy_bool (wpAny_pure ⟨.bl false, H, I.tok _, rfl, q⟩)⟩
/-- found.add(t), a new member -/
def rAddT (K : PySem.W.Frag) (P : Program) (w : World) : V → List V → Hp → VK → Prop := fun x xs H Q => ∃ (a b : Addr) (k : List Int) (L : List (Addr × List Int)), x = V.ref a ∧ xs = [V.ref b] ∧ H a = some (SetTO P w a L) ∧ SqT K H b (k.map V.int) ∧ (∀ p ∈ L, SqT K H p.1 (p.2.map V.int)) ∧ k ∉ L.map (·.2) ∧ L.length + 1 < 64 ∧
  ∀ L', L'.Perm ((b, k) :: L) → Q .non (upd H a (SetTO P w a L'))
theorem mt_addT (un : X.A.units + 64 < cLine) : MtR X "set.add" (rAddT X.K X.prog X.w) := by
  intro pins s σ H x xs v us Q I rx rxs h
  obtain ⟨a, b, k, L, rfl, rfl, ha, hk, hL, out, few, q⟩ := h
  cases rx
  cases rxs with
  | cons ry rt =>
    cases rt
    cases ry
    obtain ⟨es, ep, t, R⟩ := setT_full I ha hL
    obtain ⟨ob, hob, ex, dat⟩ := R.ob
    have ty : s.TypeIs (.ref a) "set" := ⟨ob, hob, ex.1⟩
    have kx := I.isT hk
    refine wpAny_call_entry PySem.F.slot_set_add ty PySem.F.entry_set_add (ha := PySem.F.args_set_add_2 _ _) ?_
    unfold Builtin.«set.add» Builtin.Frozenset.oneOther
    simp only [List.isEmpty_nil, bind_assoc]
    unfold Builtin.Frozenset.addrOf setAdd
    refine (wpAny_bind (wpAny_pure ?_))
    try dsimp only
    refine (wpAny_bind (wpAny_pure ?_))
    try dsimp only
    refine (wpAny_bind ?_)
    refine (wpAny_holding ?_)
    refine wpAny_bind ((wpAny_pyHash_tuple (by show X.A.units + 1 < cLine; omega) kx) ?_)
    refine add_at (s := { s with toks := s.toks + (k.length + 1) }) R kx (by show X.A.units + 1 < cLine; omega) few fun bb h' L' es' ep' t' sb R' _ pm => ?_
    show wpAny _ _ (ret Value.none) _ _ _
    have he : ∃ u, h'.get? a = some u := by
      obtain ⟨o, ho, _⟩ := R'.ob
      exact ⟨o, ho⟩
    refine wpAny_pure ⟨_, rfl, .non, upd H a (SetTO X.prog X.w a L'), ?_, rfl, q L' (pm out)⟩
    exact I.write (e := a) (t' := s.toks + (k.length + 1)) (by rw [ha]; trivial) (.inl rfl) (fun c u hc hu => (sb.2 c hc).trans hu) he (setTO_new R'.t0)
def tAddT (K : PySem.W.Frag) (P : Program) (w : World) (to : TE) (t : TA) : TE := fun σ H Q => to σ H fun x H1 => (∃ a L, x = V.ref a ∧ H1 a = some (SetTO P w a L) ∧ ∀ p ∈ L, SqT K H1 p.1 (p.2.map V.int)) ∧ t σ H1 fun xs H2 => rAddT K P w x xs H2 Q
variable {o e : Expr} {es : List Expr} {to : TE} {t : TA} {apos cpos : Pos}
theorem pe_addT (un : X.A.units + 64 < cLine) (ho : PE X o to) (ha : PA X (e :: es) t)
    (hbase : attributeBase o "add" X.env (eval o X.env) = eval o X.env := by rfl)
    (hfew : ((backTo cpos (starEach (e :: es) X.env)).all (fun x => !x.1) && (backToKw cpos (keywordEach [] X.env)).all (fun x => x.1.isSome) && decide ((e :: es).length + ([] : List Keyword).length + (if ([] : List Keyword).isEmpty then 0 else 1) < 30)) = true := by rfl)
    (hline : (apos.endLine == cpos.line) = true := by rfl) (hstar : starEach (e :: es) X.env = (false, eval e X.env) :: starEach es X.env := by rfl) (hplain : (backTo cpos (starEach es X.env)).any (·.1) = false := by rfl) :
    PE X (.Call (.Attribute o "add" apos) (e :: es) [] cpos) (tAddT X.K X.prog X.w to t) := by
  refine ⟨fun pins s σ H Q I h => ?_⟩
  refine (wpAny_Call_method_late hbase hfew hline rfl) (thn (ho.run pins s σ H _ I h) fun v s1 ⟨x, H1, I1, r1, ty, q1⟩ => ?_)
  obtain ⟨a, L, rfl, hL, hp⟩ := ty
  obtain ⟨tes, ep, tt, R⟩ := setT_full I1 hL hp
  obtain ⟨ob, hob, ex, dat⟩ := R.ob
  cases r1
  refine ⟨"set", "set.add", PySem.F.plainAttrs_set, PySem.F.slot_set_add, PySem.F.type_set_add, ⟨ob, hob, ex.1⟩, ?_, ?_⟩
  · intro a1 e1
    cases e1
    exact ⟨ob, hob, ex.2.1⟩
  · have run := ha.run cpos pins s1 σ H1 _ I1 q1
    rw [hstar] at run ⊢
    refine Calls.callWith_builtin (by show (false || (backTo cpos (starEach es X.env)).any (·.1)) = false; rw [hplain]; rfl) (Calls.evalArgs_plain ?_)
    exact thn run fun us s2 ⟨vs, H2, I2, r2, q2⟩ => mt_addT un pins s2 σ H2 (.ref a) vs (.ref a) us Q I2 rfl r2 q2
end
end Q2

namespace PM
open PySem PySem.Spec PyProof.Rows L2 Q2
/-! ### readings that imply one another -/
section
variable {X : Cx}
theorem pe_imp {e : Expr} {t t' : TE} (h : PE X e t) (hi : ∀ σ H Q, t' σ H Q → t σ H Q) : PE X e t' := ⟨fun pins s σ H Q I hw => h.run pins s σ H Q I (hi _ _ _ hw)⟩
theorem pt_imp {e : Expr} {t t' : TT} (h : PT X e t) (hi : ∀ σ H Q, t' σ H Q → t σ H Q) : PT X e t' := ⟨fun pins s σ H Q I hw => h.run pins s σ H Q I (hi _ _ _ hw)⟩
theorem pw_imp {e : Expr} {t t' : TT} (h : PW X e t) (hi : ∀ σ H Q, t' σ H Q → t σ H Q) : PW X e t' := ⟨fun whole pins s σ H Q I hw => h.run whole pins s σ H Q I (hi _ _ _ hw)⟩
theorem pa_imp {e : List Expr} {t t' : TA} (h : PA X e t) (hi : ∀ σ H Q, t' σ H Q → t σ H Q) : PA X e t' := ⟨fun pos pins s σ H Q I hw => h.run pos pins s σ H Q I (hi _ _ _ hw)⟩
theorem ps_imp {st : Stmt} {t t' : TS} (h : PS X st t) (hi : ∀ D σ H, t' D σ H → t D σ H) : PS X st t' := ⟨fun pins s σ H D I hw => h.run pins s σ H D I (hi _ _ _ hw)⟩
theorem pss_imp {st : List Stmt} {t t' : TS} (h : PSs X st t) (hi : ∀ D σ H, t' D σ H → t D σ H) : PSs X st t' := ⟨fun pins s σ H D I hw => h.run pins s σ H D I (hi _ _ _ hw)⟩
theorem pi_imp {tg e : Expr} {t t' : TI} (h : PI X tg e t) (hi : ∀ σ H R, t' σ H R → t σ H R) : PI X tg e t' := ⟨fun pins s σ H R I hw => h.run pins s σ H R I (hi _ _ _ hw)⟩
end
/-! ### values and objects -/
inductive Va where
  | non | bl (b : Bool) | int (i : Int) | str (s : Str) | tup (xs : List Va) | rol (xs : List Va) | ref (n : Nat) | adr (a : Addr) | ty (n : String)
inductive Ob where
  | lst (xs : List Va)
  | setT (ks : List (List Int))
  | raw (o : HO)
abbrev Sto := List Ob
abbrev En := List (Option Va)
/-- a list that nobody changes -/
def FzL (K : PySem.W.Frag) (H : Hp) (a : Addr) (xs : List V) : Prop :=
  (∃ o, H a = some (.frz o (.lst xs))) ∨
    ∃ (o : Obj) (its : Array Value) (n : Nat), K.lookup a = some o ∧ o.cls = .type "list" ∧ o.dict = none ∧ o.data = .seq its n ∧ its.size ≤ sizeLine ∧ Vals xs its.toList
theorem FzL.sq {K : PySem.W.Frag} {H : Hp} {a : Addr} {xs : List V} (h : FzL K H a xs) : SqL K H a xs := h.elim (fun z => .inl (.inr z)) .inr
/-- the written part, the program, the world -/
structure KX where
  K : PySem.W.Frag
  P : Program
  w : World
abbrev kxOf (X : Cx) : KX := ⟨X.K, X.prog, X.w⟩
mutual
def Rv (K : KX) (ρ : List Addr) (H : Hp) : Va → V → Prop
  | .non, w => w = .non
  | .bl b, w => w = .bl b
  | .int i, w => w = .int i
  | .str s, w => w = .str s
  | .tup xs, w => ∃ a ws, w = .ref a ∧ SqT K.K H a ws ∧ Rvs K ρ H xs ws
  | .rol xs, w => ∃ a ws, w = .ref a ∧ FzL K.K H a ws ∧ Rvs K ρ H xs ws
  | .ref n, w => ∃ a, ρ[n]? = some a ∧ w = .ref a
  | .adr a, w => w = .ref a
  | .ty n, w => w = .ty n
def Rvs (K : KX) (ρ : List Addr) (H : Hp) : List Va → List V → Prop
  | [], ws => ws = []
  | x :: xs, ws => ∃ w r, ws = w :: r ∧ Rv K ρ H x w ∧ Rvs K ρ H xs r
end
section
variable {K : KX} {ρ ρ' : List Addr} {H H' : Hp}
theorem Rvs.cons {x : Va} {xs : List Va} {w : V} {ws : List V} (h : Rv K ρ H x w) (t : Rvs K ρ H xs ws) : Rvs K ρ H (x :: xs) (w :: ws) := ⟨w, ws, rfl, h, t⟩
theorem Rvs.nil : Rvs K ρ H [] [] := rfl
theorem Rvs.len : ∀ {xs : List Va} {ws : List V}, Rvs K ρ H xs ws → xs.length = ws.length
  | [], _, h => by cases h; rfl
  | x :: xs, _, h => by
    obtain ⟨w, r, rfl, _, t⟩ := h
    simp only [List.length_cons, t.len]
theorem Rvs.get : ∀ {xs : List Va} {ws : List V}, Rvs K ρ H xs ws → ∀ {i : Nat} {x : Va}, xs[i]? = some x → ∃ w, ws[i]? = some w ∧ Rv K ρ H x w
  | [], _, _, _, _, e => by simp at e
  | y :: xs, _, h, 0, x, e => by
    obtain ⟨w, r, rfl, hw, _⟩ := h
    cases (show some y = some x from by simpa using e)
    exact ⟨w, rfl, hw⟩
  | y :: xs, _, h, i + 1, x, e => by
    obtain ⟨w, r, rfl, _, t⟩ := h
    exact t.get (i := i) (by simpa using e)
theorem Rvs.of : ∀ {xs : List Va} {ws : List V}, xs.length = ws.length → (∀ (i : Nat) (x : Va) (w : V), xs[i]? = some x → ws[i]? = some w → Rv K ρ H x w) → Rvs K ρ H xs ws
  | [], [], _, _ => rfl
  | x :: xs, w :: ws, hl, h => ⟨w, ws, rfl, h 0 x w rfl rfl, Rvs.of (by simpa using hl) fun i y z h1 h2 => h (i + 1) y z (by simpa using h1) (by simpa using h2)⟩
theorem Rvs.app {xs ys : List Va} {ws us : List V} (h : Rvs K ρ H xs ws) (h' : Rvs K ρ H ys us) : Rvs K ρ H (xs ++ ys) (ws ++ us) := by
  induction xs generalizing ws with
  | nil => cases h; exact h'
  | cons x xs ih =>
    obtain ⟨w, r, rfl, hw, t⟩ := h
    exact ⟨w, r ++ us, rfl, hw, ih t⟩
theorem Rvs.at {xs : List Va} {ws : List V} (h : Rvs K ρ H xs ws) {i : Nat} {x : Va} {w : V} (e : xs[i]? = some x) (e' : ws[i]? = some w) : Rv K ρ H x w := by
  obtain ⟨w', h1, h2⟩ := h.get e
  cases h1.symm.trans e'
  exact h2
theorem Rvs.take {xs : List Va} {ws : List V} (n : Nat) (h : Rvs K ρ H xs ws) : Rvs K ρ H (xs.take n) (ws.take n) := by
  refine Rvs.of (by simp [h.len]) fun i x w h1 h2 => ?_
  rw [List.getElem?_take] at h1 h2
  split at h1
  · rw [if_pos (by assumption)] at h2
    exact h.at h1 h2
  · cases h1
theorem Rvs.drop {xs : List Va} {ws : List V} (n : Nat) (h : Rvs K ρ H xs ws) : Rvs K ρ H (xs.drop n) (ws.drop n) := by
  refine Rvs.of (by simp [h.len]) fun i x w h1 h2 => ?_
  rw [List.getElem?_drop] at h1 h2
  exact h.at h1 h2
theorem Rvs.rev {xs : List Va} {ws : List V} (h : Rvs K ρ H xs ws) : Rvs K ρ H xs.reverse ws.reverse := by
  have hl := h.len
  refine Rvs.of (by simp [h.len]) fun i x w h1 h2 => ?_
  have hi : i < xs.length := by
    have := (List.getElem?_eq_some_iff.mp h1).1
    simpa using this
  rw [List.getElem?_reverse hi] at h1
  rw [List.getElem?_reverse (by omega)] at h2
  rw [hl] at h1
  exact h.at h1 h2
theorem Rvs.set {xs : List Va} {ws : List V} (h : Rvs K ρ H xs ws) (j : Nat) {y : Va} {u : V} (hy : Rv K ρ H y u) : Rvs K ρ H (xs.set j y) (ws.set j u) := by
  have hl := h.len
  refine Rvs.of (by simp [h.len]) fun i x w h1 h2 => ?_
  rw [List.getElem?_set] at h1 h2
  by_cases e : j = i
  · rw [if_pos e] at h1 h2
    split at h1
    · rw [if_pos (by omega)] at h2
      cases h1
      cases h2
      exact hy
    · cases h1
  · rw [if_neg e] at h1 h2
    exact h.at h1 h2
/-- the objects of the store are none that a value holds by itself -/
def NT (ρ : List Addr) (H : Hp) : Prop := ∀ a ∈ ρ, ∃ o, H a = some o ∧ (∀ xs, o ≠ .tup xs) ∧ ∀ p u, o ≠ .frz p u
structure Ext (ρ ρ' : List Addr) (H H' : Hp) : Prop where
  nt : NT ρ H
  pre : ∃ l, ρ' = ρ ++ l
  fr : ∀ b o, H b = some o → b ∉ ρ → H' b = some o
  new : ∀ b ∈ ρ', b ∉ ρ → H b = none
theorem Ext.refl (n : NT ρ H) : Ext ρ ρ H H := ⟨n, ⟨[], by simp⟩, fun _ _ h _ => h, fun b h n => absurd h n⟩
theorem Ext.trans {ρ'' : List Addr} {H'' : Hp} (a : Ext ρ ρ' H H') (b : Ext ρ' ρ'' H' H'') : Ext ρ ρ'' H H'' := by
  obtain ⟨l, hl⟩ := a.pre
  obtain ⟨m, hm⟩ := b.pre
  refine ⟨a.nt, ⟨l ++ m, by rw [hm, hl, List.append_assoc]⟩, fun c o h n => b.fr c o (a.fr c o h n) fun z => ?_, fun c hc n => ?_⟩
  · have := a.new c z n
    rw [h] at this
    cases this
  · by_cases hc' : c ∈ ρ'
    · exact a.new c hc' n
    · have h1 := b.new c hc hc'
      cases e : H c with
      | none => rfl
      | some o =>
        have := a.fr c o e n
        rw [h1] at this
        cases this
theorem Ext.get (E : Ext ρ ρ' H H') {n : Nat} {a : Addr} (h : ρ[n]? = some a) : ρ'[n]? = some a := by
  obtain ⟨l, rfl⟩ := E.pre
  rw [List.getElem?_append_left (List.getElem?_eq_some_iff.mp h).1]
  exact h
theorem Ext.rd (E : Ext ρ ρ' H H') {a : Addr} {u : HO} (hu : (∃ xs, u = .tup xs) ∨ ∃ p q, u = .frz p q) (h : H a = some u) : H' a = some u := by
  refine E.fr a u h fun z => ?_
  obtain ⟨o, h1, h2, h3⟩ := E.nt a z
  rw [h] at h1
  cases h1
  rcases hu with ⟨xs, e⟩ | ⟨p, q, e⟩
  · exact h2 xs e
  · exact h3 p q e
theorem Ext.sqt (E : Ext ρ ρ' H H') {a : Addr} {ws : List V} (h : SqT K.K H a ws) : SqT K.K H' a ws := by
  rcases h with (h | ⟨o, h⟩) | h
  · exact .inl (.inl (E.rd (.inl ⟨_, rfl⟩) h))
  · exact .inl (.inr ⟨o, E.rd (.inr ⟨_, _, rfl⟩) h⟩)
  · exact .inr h
theorem Ext.fzl (E : Ext ρ ρ' H H') {a : Addr} {ws : List V} (h : FzL K.K H a ws) : FzL K.K H' a ws := by
  rcases h with ⟨o, h⟩ | h
  · exact .inl ⟨o, E.rd (.inr ⟨_, _, rfl⟩) h⟩
  · exact .inr h
mutual
theorem Rv.ext (E : Ext ρ ρ' H H') : ∀ {v : Va} {w : V}, Rv K ρ H v w → Rv K ρ' H' v w
  | .non, _, h => h
  | .bl _, _, h => h
  | .int _, _, h => h
  | .str _, _, h => h
  | .tup xs, _, h => by
    obtain ⟨a, ws, rfl, h1, h2⟩ := h
    exact ⟨a, ws, rfl, E.sqt h1, Rvs.ext E h2⟩
  | .rol xs, _, h => by
    obtain ⟨a, ws, rfl, h1, h2⟩ := h
    exact ⟨a, ws, rfl, E.fzl h1, Rvs.ext E h2⟩
  | .ref n, _, h => by
    obtain ⟨a, h1, rfl⟩ := h
    exact ⟨a, E.get h1, rfl⟩
  | .adr _, _, h => h
  | .ty _, _, h => h
theorem Rvs.ext (E : Ext ρ ρ' H H') : ∀ {xs : List Va} {ws : List V}, Rvs K ρ H xs ws → Rvs K ρ' H' xs ws
  | [], _, h => h
  | x :: xs, _, h => by
    obtain ⟨w, r, rfl, hw, t⟩ := h
    exact ⟨w, r, rfl, Rv.ext E hw, Rvs.ext E t⟩
end
theorem nd_get {l : List Addr} (nd : l.Nodup) {i j : Nat} {hi : i < l.length} {hj : j < l.length} (e : ¬ i = j) : l[i] ≠ l[j] := by
  have q := List.pairwise_iff_getElem.mp nd
  rcases Nat.lt_or_gt_of_ne e with h | h
  · exact q i j hi hj h
  · exact (q j i hj hi h).symm
/-! ### the store and the heap -/
def RO (K : KX) (ρ : List Addr) (H : Hp) (a : Addr) : Ob → Prop
  | .lst xs => xs.length ≤ sizeLine ∧ ∃ ws, H a = some (.lst ws) ∧ Rvs K ρ H xs ws
  | .setT ks => ∃ L : List (Addr × List Int), H a = some (SetTO K.P K.w a L) ∧ (L.map (·.2)).Perm ks ∧ ∀ p ∈ L, SqT K.K H p.1 (p.2.map V.int)
  | .raw o => H a = some o ∧ (∀ xs, o ≠ .tup xs) ∧ ∀ p u, o ≠ .frz p u
structure RS (K : KX) (ρ : List Addr) (S : Sto) (H : Hp) : Prop where
  len : ρ.length = S.length
  nd : ρ.Nodup
  at_ : ∀ (n : Nat) (a : Addr) (o : Ob), ρ[n]? = some a → S[n]? = some o → RO K ρ H a o
theorem RO.nt {a : Addr} {o : Ob} (h : RO K ρ H a o) : ∃ o, H a = some o ∧ (∀ xs, o ≠ .tup xs) ∧ ∀ p u, o ≠ .frz p u := by
  cases o with
  | lst xs =>
    obtain ⟨_, ws, h, _⟩ := h
    exact ⟨_, h, (fun _ z => by cases z), (fun _ _ z => by cases z)⟩
  | setT ks =>
    obtain ⟨L, h, _⟩ := h
    exact ⟨_, h, (fun _ z => by unfold SetTO at z; cases z), (fun _ _ z => by unfold SetTO at z; cases z)⟩
  | raw o => exact ⟨o, h⟩
theorem RO.ext {a : Addr} {o : Ob} (E : Ext ρ ρ' H H') (e : H' a = H a) (h : RO K ρ H a o) : RO K ρ' H' a o := by
  cases o with
  | lst xs =>
    obtain ⟨hl, ws, h, t⟩ := h
    exact ⟨hl, ws, by rw [e]; exact h, t.ext E⟩
  | setT ks =>
    obtain ⟨L, h1, h2, h3⟩ := h
    exact ⟨L, by rw [e]; exact h1, h2, fun p hp => E.sqt (h3 p hp)⟩
  | raw o => exact ⟨by rw [e]; exact h.1, h.2⟩
section
variable {S : Sto}
theorem RS.nt (R : RS K ρ S H) : NT ρ H := fun a ha => by
  obtain ⟨n, hn⟩ := List.getElem?_of_mem ha
  have hl : n < S.length := by rw [← R.len]; exact (List.getElem?_eq_some_iff.mp hn).1
  exact (R.at_ n a S[n] hn (List.getElem?_eq_getElem hl)).nt
theorem RS.refl (R : RS K ρ S H) : Ext ρ ρ H H := Ext.refl R.nt
theorem RS.fresh (R : RS K ρ S H) {p : Addr} (hp : H p = none) : p ∉ ρ := fun z => by
  obtain ⟨o, h, _⟩ := R.nt p z
  rw [hp] at h
  cases h
theorem RS.adr (R : RS K ρ S H) {n : Nat} {o : Ob} (h : S[n]? = some o) : ∃ a, ρ[n]? = some a ∧ RO K ρ H a o := by
  have hl : n < ρ.length := by rw [R.len]; exact (List.getElem?_eq_some_iff.mp h).1
  exact ⟨ρ[n], List.getElem?_eq_getElem hl, R.at_ n _ o (List.getElem?_eq_getElem hl) h⟩
/-- an object that is none of the store's is made -/
theorem RS.own (R : RS K ρ S H) {p : Addr} {o : HO} (hp : H p = none) : Ext ρ ρ H (upd H p o) ∧ RS K ρ S (upd H p o) := by
  have hp' := R.fresh hp
  have E : Ext ρ ρ H (upd H p o) := ⟨R.nt, ⟨[], by simp⟩, fun b u h _ => by rw [upd_ne (ne_of_none h hp)]; exact h, fun b h n => absurd h n⟩
  refine ⟨E, R.len, R.nd, fun n a u h1 h2 => (R.at_ n a u h1 h2).ext E ?_⟩
  have : a ≠ p := fun z => hp' (by rw [← z]; exact List.mem_of_getElem? h1)
  rw [upd_ne this]
/-- a list is made -/
theorem RS.new (R : RS K ρ S H) {p : Addr} {xs : List Va} {ws : List V} (hp : H p = none) (hl : xs.length ≤ sizeLine) (h : Rvs K ρ H xs ws) :
    Ext ρ (ρ ++ [p]) H (upd H p (.lst ws)) ∧ RS K (ρ ++ [p]) (S ++ [.lst xs]) (upd H p (.lst ws)) := by
  have hp' := R.fresh hp
  have E : Ext ρ (ρ ++ [p]) H (upd H p (.lst ws)) := ⟨R.nt, ⟨[p], rfl⟩, fun b u h _ => by rw [upd_ne (ne_of_none h hp)]; exact h, fun b h n => by
    rcases List.mem_append.mp h with h | h
    · exact absurd h n
    · rw [List.mem_singleton.mp h]; exact hp⟩
  refine ⟨E, by simp [R.len], ?_, fun n a u h1 h2 => ?_⟩
  · refine List.nodup_append.mpr ⟨R.nd, by simp, fun x hx y hy z => hp' ?_⟩
    rw [← List.mem_singleton.mp hy, ← z]
    exact hx
  · by_cases hn : n < ρ.length
    · rw [List.getElem?_append_left hn] at h1
      rw [List.getElem?_append_left (by rw [← R.len]; exact hn)] at h2
      refine (R.at_ n a u h1 h2).ext E ?_
      have : a ≠ p := fun z => hp' (by rw [← z]; exact List.mem_of_getElem? h1)
      rw [upd_ne this]
    · have hn' : n = ρ.length := by
        have := (List.getElem?_eq_some_iff.mp h1).1
        simp at this
        omega
      subst hn'
      rw [List.getElem?_append_right (Nat.le_refl _), Nat.sub_self] at h1
      rw [List.getElem?_append_right (by rw [R.len]; exact Nat.le_refl _), R.len, Nat.sub_self] at h2
      cases h1
      cases h2
      exact ⟨hl, ws, upd_same, h.ext E⟩
/-- a list is written -/
theorem RS.put (R : RS K ρ S H) {n : Nat} {a : Addr} {o : Ob} {xs : List Va} {ws : List V} (ha : ρ[n]? = some a) (_ : S[n]? = some o) (hl : xs.length ≤ sizeLine) (h : Rvs K ρ H xs ws) :
    Ext ρ ρ H (upd H a (.lst ws)) ∧ RS K ρ (S.set n (.lst xs)) (upd H a (.lst ws)) := by
  have am := List.mem_of_getElem? ha
  have E : Ext ρ ρ H (upd H a (.lst ws)) := ⟨R.nt, ⟨[], by simp⟩, fun b u h hb => by rw [upd_ne (fun z => hb (by rw [z]; exact am))]; exact h, fun b h n => absurd h n⟩
  refine ⟨E, by simp [R.len], R.nd, fun m b u h1 h2 => ?_⟩
  by_cases e : n = m
  · subst e
    cases ha.symm.trans h1
    rw [List.getElem?_set_self (List.getElem?_eq_some_iff.mp ‹S[n]? = some o›).1] at h2
    cases h2
    exact ⟨hl, ws, upd_same, h.ext E⟩
  · rw [List.getElem?_set_ne e] at h2
    refine (R.at_ m b u h1 h2).ext E ?_
    have : b ≠ a := fun z => by
      subst z
      have hm := (List.getElem?_eq_some_iff.mp h1)
      have hn := (List.getElem?_eq_some_iff.mp ha)
      exact nd_get R.nd e (hn.2.trans hm.2.symm)
    rw [upd_ne this]
end
/-! ### the slots -/
structure RE (K : KX) (ρ : List Addr) (H : Hp) (Γ : En) (σ : L2.St) : Prop where
  len : Γ.length = σ.length
  at_ : ∀ (i : Nat) (v : Va), Γ[i]? = some (some v) → ∃ w : V, σ[i]? = some (some w) ∧ Rv K ρ H v w
theorem RE.ext {Γ : En} {σ : L2.St} (E : Ext ρ ρ' H H') (h : RE K ρ H Γ σ) : RE K ρ' H' Γ σ := ⟨h.len, fun i v e => let ⟨w, h1, h2⟩ := h.at_ i v e; ⟨w, h1, h2.ext E⟩⟩
theorem RE.set {Γ : En} {σ : L2.St} (h : RE K ρ H Γ σ) (i : Nat) {v : Va} {w : V} (r : Rv K ρ H v w) : RE K ρ H (Γ.set i (some v)) (σ.set i (some w)) := by
  refine ⟨by simp [h.len], fun j u e => ?_⟩
  have hl := h.len
  rw [List.getElem?_set] at e
  by_cases z : i = j
  · subst z
    rw [if_pos rfl] at e
    split at e
    · cases e
      exact ⟨w, by rw [List.getElem?_set_self (by omega)], r⟩
    · cases e
  · rw [if_neg z] at e
    rw [List.getElem?_set_ne z]
    exact h.at_ j u e
end
end PM

namespace PM
open PySem PySem.Spec PyProof.Rows L2 Q2
/-! ### results -/
inductive Res (α : Type) where
  | bad | ok (a : α) (S : Sto) | ex (c f : Str) (v : Va) (S : Sto)
def Res.bind {α β : Type} (r : Res α) (k : α → Sto → Res β) : Res β :=
  match r with
  | .bad => .bad
  | .ok a S => k a S
  | .ex c f v S => .ex c f v S
@[simp] theorem bind_ok {α β : Type} (a : α) (S : Sto) (k : α → Sto → Res β) : (Res.ok a S).bind k = k a S := rfl
@[simp] theorem bind_bad {α β : Type} (k : α → Sto → Res β) : (Res.bad : Res α).bind k = .bad := rfl
@[simp] theorem bind_ex {α β : Type} (c f : Str) (v : Va) (S : Sto) (k : α → Sto → Res β) : (Res.ex c f v S : Res α).bind k = .ex c f v S := rfl
def lift {α : Type} : Option (α × Sto) → Res α
  | none => .bad
  | some (a, S) => .ok a S
abbrev XW := Str → Addr → L2.St → Hp → Prop
abbrev WF : XW := fun _ _ _ _ => False
section
variable {α β γ δ : Type}
/-- what is wanted behind a result -/
def Aft (K : KX) (W : XW) (σ : L2.St) (Rl : List Addr → Hp → α → β → Prop) (Q : β → Hp → Prop) (ρ : List Addr) (H : Hp) : Res α → Prop
  | .bad => False
  | .ok v S' => ∀ ρ' H' w, Ext ρ ρ' H H' → RS K ρ' S' H' → Rl ρ' H' v w → Q w H'
  | .ex c f v S' => ∀ ρ' H' w d, Ext ρ ρ' H H' → RS K ρ' S' H' → Rv K ρ' H' v w → H' d = some (.xd [(f, w)]) → W c d σ H'
theorem Aft.shift {K : KX} {W : XW} {σ : L2.St} {Rl : List Addr → Hp → α → β → Prop} {Q : β → Hp → Prop} {ρ ρ1 : List Addr} {H H1 : Hp} {r : Res α} (E : Ext ρ ρ1 H H1) (h : Aft K W σ Rl Q ρ H r) : Aft K W σ Rl Q ρ1 H1 r := by
  cases r with
  | bad => exact h
  | ok v S' => exact fun ρ' H' w E' => h ρ' H' w (E.trans E')
  | ex c f v S' => exact fun ρ' H' w d E' => h ρ' H' w d (E.trans E')
theorem Aft.bind {K : KX} {W : XW} {σ : L2.St} {Rl : List Addr → Hp → α → β → Prop} {Rl2 : List Addr → Hp → γ → δ → Prop} {Q : β → Hp → Prop} {Q2 : δ → Hp → Prop} {ρ : List Addr} {H : Hp} {r : Res α} {k : α → Sto → Res γ}
    (h : Aft K W σ Rl2 Q2 ρ H (r.bind k)) (hk : ∀ v S1 ρ1 H1 w, Ext ρ ρ1 H H1 → RS K ρ1 S1 H1 → Rl ρ1 H1 v w → Aft K W σ Rl2 Q2 ρ1 H1 (k v S1) → Q w H1) : Aft K W σ Rl Q ρ H r := by
  cases r with
  | bad => exact h
  | ok v S' => exact fun ρ' H' w E R q => hk v S' ρ' H' w E R q (Aft.shift E h)
  | ex c f v S' => exact h
end
/-! ### the judgements -/
abbrev ME := En → Sto → Res Va
abbrev MT := En → Sto → Res Bool
abbrev MA := En → Sto → Res (List Va)
def tM (K : KX) (W : XW) (m : ME) : TE := fun σ H Q => ∃ ρ Γ S, RS K ρ S H ∧ RE K ρ H Γ σ ∧ Aft K W σ (Rv K) Q ρ H (m Γ S)
def tMT (K : KX) (W : XW) (m : MT) : TT := fun σ H Q => ∃ ρ Γ S, RS K ρ S H ∧ RE K ρ H Γ σ ∧ Aft K W σ (fun _ _ (b c : Bool) => c = b) Q ρ H (m Γ S)
def tMA (K : KX) (W : XW) (m : MA) : TA := fun σ H Q => ∃ ρ Γ S, RS K ρ S H ∧ RE K ρ H Γ σ ∧ Aft K W σ (Rvs K) Q ρ H (m Γ S)
def PM (X : Cx) (W : XW) (e : Expr) (m : ME) : Prop := PE X e (tM (kxOf X) W m)
def PMT (X : Cx) (W : XW) (e : Expr) (m : MT) : Prop := PT X e (tMT (kxOf X) W m)
def PMW (X : Cx) (W : XW) (e : Expr) (m : MT) : Prop := PW X e (tMT (kxOf X) W m)
def PMA (X : Cx) (W : XW) (es : List Expr) (m : MA) : Prop := PA X es (tMA (kxOf X) W m)
/-! ### what a rule by values asks -/
def Ans (K : KX) (Q : VK) (ρ : List Addr) (H : Hp) : Option (Va × Sto) → Prop
  | none => False
  | some (v, S') => ∀ ρ' H' w, Ext ρ ρ' H H' → RS K ρ' S' H' → Rv K ρ' H' v w → Q w H'
theorem Aft.ans {K : KX} {W : XW} {σ : L2.St} {Q : VK} {ρ : List Addr} {H : Hp} {o : Option (Va × Sto)} (h : Aft K W σ (Rv K) Q ρ H (lift o)) : Ans K Q ρ H o := by
  cases o with
  | none => exact h
  | some p => exact h
abbrev F1 := Va → Sto → Option (Va × Sto)
abbrev F2 := Va → Va → Sto → Option (Va × Sto)
abbrev FL := List Va → Sto → Option (Va × Sto)
def OpM (K : KX) (r : R2) (f : F2) : Prop := ∀ ρ S H v w x y Q, RS K ρ S H → Rv K ρ H v x → Rv K ρ H w y → Ans K Q ρ H (f v w S) → r x y H Q
def UnM (K : KX) (r : V → Hp → VK → Prop) (f : F1) : Prop := ∀ ρ S H v x Q, RS K ρ S H → Rv K ρ H v x → Ans K Q ρ H (f v S) → r x H Q
def CallM (K : KX) (r : List V → Hp → VK → Prop) (f : FL) : Prop := ∀ ρ S H vs xs Q, RS K ρ S H → Rvs K ρ H vs xs → Ans K Q ρ H (f vs S) → r xs H Q
/-- a rule by values, whatever its form -/
def OpP (X : Cx) (g : Value → Value → Sem Value) (f : F2) : Prop := ∃ r, OpR X g r ∧ OpM (kxOf X) r f
def IxP (X : Cx) (f : F2) : Prop := ∃ r, IxR X r ∧ OpM (kxOf X) r f
def CallP (X : Cx) (g : Value) (f : FL) : Prop := ∃ r, CallR X g r ∧ CallM (kxOf X) r f
/-- the first, or the second -/
def orF2 (f g : F2) : F2 := fun v w S => match f v w S with
  | some p => some p
  | none => g v w S
theorem OpP.or {X : Cx} {g : Value → Value → Sem Value} {f f' : F2} (h : OpP X g f) (h' : OpP X g f') : OpP X g (orF2 f f') := by
  obtain ⟨r, h1, h2⟩ := h
  obtain ⟨r', h1', h2'⟩ := h'
  refine ⟨fun x y H Q => r x y H Q ∨ r' x y H Q, fun pins s σ H x y v u Q I rx ry q => ?_, fun ρ S H v w x y Q R rv rw a => ?_⟩
  · rcases q with q | q
    · exact h1 pins s σ H x y v u Q I rx ry q
    · exact h1' pins s σ H x y v u Q I rx ry q
  · unfold orF2 at a
    cases e : f v w S with
    | some p =>
      rw [e] at a
      exact .inl (h2 ρ S H v w x y Q R rv rw (by rw [e]; exact a))
    | none =>
      rw [e] at a
      exact .inr (h2' ρ S H v w x y Q R rv rw a)
theorem IxP.or {X : Cx} {f f' : F2} (h : IxP X f) (h' : IxP X f') : IxP X (orF2 f f') := by
  obtain ⟨r, h1, h2⟩ := h
  obtain ⟨r', h1', h2'⟩ := h'
  refine ⟨fun x y H Q => r x y H Q ∨ r' x y H Q, IxR.or h1 h1', fun ρ S H v w x y Q R rv rw a => ?_⟩
  unfold orF2 at a
  cases e : f v w S with
  | some p =>
    rw [e] at a
    exact .inl (h2 ρ S H v w x y Q R rv rw (by rw [e]; exact a))
  | none =>
    rw [e] at a
    exact .inr (h2' ρ S H v w x y Q R rv rw a)
/-! ### expressions -/
def mC (v : Va) : ME := fun _ S => .ok v S
def mV (i : Nat) : ME := fun Γ S => match Γ[i]? with
  | some (some v) => .ok v S
  | _ => .bad
def m1 (f : F1) (a : ME) : ME := fun Γ S => (a Γ S).bind fun v S1 => lift (f v S1)
def m2 (f : F2) (a b : ME) : ME := fun Γ S => (a Γ S).bind fun v S1 => (b Γ S1).bind fun w S2 => lift (f v w S2)
def maN : MA := fun _ S => .ok [] S
def maC (a : ME) (t : MA) : MA := fun Γ S => (a Γ S).bind fun v S1 => (t Γ S1).bind fun vs S2 => .ok (v :: vs) S2
def mL (f : FL) (t : MA) : ME := fun Γ S => (t Γ S).bind fun vs S1 => lift (f vs S1)
section
variable {X : Cx} {W : XW} {a b : Expr} {es : List Expr} {ma mb : ME} {t : MA} {pos p : Pos}
theorem pm_const {e : Expr} {v : Va} {w : V} (h : PE X e (tC w)) (r : ∀ ρ H, Rv (kxOf X) ρ H v w) : PM X W e (mC v) :=
  pe_imp h fun σ H Q ⟨ρ, Γ, S, R, G, q⟩ => q ρ H w R.refl R (r ρ H)
theorem pm_int {i : Int} {j : Nat} : PM X W (.Constant (.int i) j pos) (mC (.int i)) := pm_const pe_int fun _ _ => rfl
theorem pm_bl {i : Bool} {j : Nat} : PM X W (.Constant (.bool i) j pos) (mC (.bl i)) := pm_const pe_bl fun _ _ => rfl
theorem pm_non {j : Nat} : PM X W (.Constant .none j pos) (mC .non) := pm_const pe_non fun _ _ => rfl
theorem pm_str {z : Str} {j : Nat} : PM X W (.Constant (.str z) j pos) (mC (.str z)) := pm_const pe_str fun _ _ => rfl
theorem pm_var {i : Nat} {e : Expr} (h : PE X e (tVar i)) : PM X W e (mV i) := by
  refine pe_imp h fun σ H Q ⟨ρ, Γ, S, R, G, q⟩ => ?_
  unfold mV at q
  cases e : Γ[i]? with
  | none => rw [e] at q; exact q.elim
  | some o =>
    cases o with
    | none => rw [e] at q; exact q.elim
    | some v =>
      rw [e] at q
      obtain ⟨w, h1, h2⟩ := G.at_ i v e
      exact ⟨w, h1, q ρ H w R.refl R h2⟩
theorem pm_op {op : Operator} {f : F2} (ho : OpP X (binaryOp op) f) (ha : PM X W a ma) (hb : PM X W b mb) : PM X W (.BinOp a op b pos) (m2 f ma mb) := by
  obtain ⟨r, hr, hf⟩ := ho
  refine pe_imp (pe_op hr ha hb) fun σ H Q ⟨ρ, Γ, S, R, G, q⟩ => ?_
  refine ⟨ρ, Γ, S, R, G, q.bind fun v S1 ρ1 H1 x E1 R1 rx q1 => ?_⟩
  refine ⟨ρ1, Γ, S1, R1, G.ext E1, q1.bind fun w S2 ρ2 H2 y E2 R2 ry q2 => ?_⟩
  exact hf ρ2 S2 H2 v w x y Q R2 (rx.ext E2) ry q2.ans
theorem pm_cmp {op : CmpOp} {f : F2} (ho : OpP X (compareOp op) f) (ha : PM X W a ma) (hb : PM X W b mb) (hm : behindInMarks op b = false) : PM X W (.Compare a [op] [b] pos) (m2 f ma mb) := by
  obtain ⟨r, hr, hf⟩ := ho
  refine pe_imp (pe_cmpR hr ha hb hm) fun σ H Q ⟨ρ, Γ, S, R, G, q⟩ => ?_
  refine ⟨ρ, Γ, S, R, G, q.bind fun v S1 ρ1 H1 x E1 R1 rx q1 => ?_⟩
  refine ⟨ρ1, Γ, S1, R1, G.ext E1, q1.bind fun w S2 ρ2 H2 y E2 R2 ry q2 => ?_⟩
  exact hf ρ2 S2 H2 v w x y Q R2 (rx.ext E2) ry q2.ans
theorem pm_ix {f : F2} (ho : IxP X f) (ha : PM X W a ma) (hb : PM X W b mb) (hs : PlainIx b) : PM X W (.Subscript a b pos) (m2 f ma mb) := by
  obtain ⟨r, hr, hf⟩ := ho
  refine pe_imp (pe_ix hr ha hb hs) fun σ H Q ⟨ρ, Γ, S, R, G, q⟩ => ?_
  refine ⟨ρ, Γ, S, R, G, q.bind fun v S1 ρ1 H1 x E1 R1 rx q1 => ?_⟩
  refine ⟨ρ1, Γ, S1, R1, G.ext E1, q1.bind fun w S2 ρ2 H2 y E2 R2 ry q2 => ?_⟩
  exact hf ρ2 S2 H2 v w x y Q R2 (rx.ext E2) ry q2.ans
theorem pma_nil : PMA X W [] maN := pa_imp pa_nil fun σ H Q ⟨ρ, Γ, S, R, G, q⟩ => q ρ H [] R.refl R rfl
theorem pma_cons (ha : PM X W a ma) (ht : PMA X W es t) (hs : starEach (a :: es) X.env = (false, eval a X.env) :: starEach es X.env := by rfl) : PMA X W (a :: es) (maC ma t) := by
  refine pa_imp (pa_cons ha ht hs) fun σ H Q ⟨ρ, Γ, S, R, G, q⟩ => ?_
  refine ⟨ρ, Γ, S, R, G, q.bind fun v S1 ρ1 H1 x E1 R1 rx q1 => ?_⟩
  refine ⟨ρ1, Γ, S1, R1, G.ext E1, q1.bind fun w S2 ρ2 H2 y E2 R2 ry q2 => ?_⟩
  exact q2 ρ2 H2 _ R2.refl R2 (Rvs.cons (rx.ext E2) ry)
/-! ### displays -/
def fTup : FL := fun vs S => if vs.length ≤ sizeLine then some (.tup vs, S) else none
def fLst : FL := fun vs S => if vs.length ≤ sizeLine then some (.ref S.length, S ++ [.lst vs]) else none
theorem RS.last {K : KX} {ρ : List Addr} {S : Sto} {H : Hp} (R : RS K ρ S H) (p : Addr) {H' : Hp} : Rv K (ρ ++ [p]) H' (.ref S.length) (.ref p) :=
  ⟨p, by rw [← R.len, List.getElem?_append_right (Nat.le_refl _), Nat.sub_self]; rfl, rfl⟩
theorem pm_tup {n : Nat} (ht : PMA X W es t) : PM X W (.Tuple es n pos) (mL fTup t) := by
  refine pe_imp (pe_tup ht) fun σ H Q ⟨ρ, Γ, S, R, G, q⟩ => ?_
  refine ⟨ρ, Γ, S, R, G, q.bind fun vs S1 ρ1 H1 xs E1 R1 rx q1 => ?_⟩
  unfold fTup at q1
  by_cases hl : vs.length ≤ sizeLine
  · rw [if_pos hl] at q1
    refine ⟨by rw [← rx.len]; exact hl, fun p hp => ?_⟩
    obtain ⟨E, R2⟩ := R1.own (o := .tup xs) hp
    exact q1 ρ1 _ _ E R2 ⟨p, xs, rfl, SqT.of upd_same, rx.ext E⟩
  · rw [if_neg hl] at q1
    exact q1.elim
theorem pm_lst (ht : PMA X W es t) : PM X W (.List es pos) (mL fLst t) := by
  refine pe_imp (pe_lst ht) fun σ H Q ⟨ρ, Γ, S, R, G, q⟩ => ?_
  refine ⟨ρ, Γ, S, R, G, q.bind fun vs S1 ρ1 H1 xs E1 R1 rx q1 => ?_⟩
  unfold fLst at q1
  by_cases hl : vs.length ≤ sizeLine
  · rw [if_pos hl] at q1
    refine ⟨by rw [← rx.len]; exact hl, fun p hp => ?_⟩
    obtain ⟨E, R2⟩ := R1.new hp hl rx
    exact q1 _ _ _ E R2 (R1.last p)
  · rw [if_neg hl] at q1
    exact q1.elim
/-! ### tests -/
def mtOf (a : ME) : MT := fun Γ S => (a Γ S).bind fun v S1 => match v with
  | .bl b => .ok b S1
  | _ => .bad
def mtAnd (a b : MT) : MT := fun Γ S => (a Γ S).bind fun c S1 => if c = true then b Γ S1 else .ok false S1
def mtOr (a b : MT) : MT := fun Γ S => (a Γ S).bind fun c S1 => if c = true then .ok true S1 else b Γ S1
def mtNot (a : MT) : MT := fun Γ S => (a Γ S).bind fun c S1 => .ok (!c) S1
def meAnd (a b : ME) : ME := fun Γ S => (a Γ S).bind fun v S1 => match v with
  | .bl c => if c = true then b Γ S1 else .ok (.bl false) S1
  | _ => .bad
def meOr (a b : ME) : ME := fun Γ S => (a Γ S).bind fun v S1 => match v with
  | .bl c => if c = true then .ok (.bl true) S1 else b Γ S1
  | _ => .bad
def mIf (c : MT) (a b : ME) : ME := fun Γ S => (c Γ S).bind fun k S1 => if k = true then a Γ S1 else b Γ S1
def mNot (a : ME) : ME := fun Γ S => (a Γ S).bind fun v S1 => match v with
  | .bl c => .ok (.bl (!c)) S1
  | _ => .bad
/-- a value's truth -/
def tru (S : Sto) : Va → Option Bool
  | .non => some false
  | .bl b => some b
  | .int i => some (i != 0)
  | .str z => if z.length ≤ sizeLine then some ((z.length : Int) != 0) else none
  | .tup xs => some (!xs.isEmpty)
  | .rol xs => some (!xs.isEmpty)
  | .ref n => match S[n]? with
    | some (.lst xs) => some (!xs.isEmpty)
    | some (.raw (.dK kvs)) => some (!kvs.isEmpty)
    | _ => none
  | .adr _ => none
  | .ty _ => none
def mtTru (a : ME) : MT := fun Γ S => (a Γ S).bind fun v S1 => match tru S1 v with
  | some b => .ok b S1
  | none => .bad
theorem empty_of {K : KX} {ρ : List Addr} {H : Hp} {xs : List Va} {ws : List V} (h : Rvs K ρ H xs ws) : (!xs.isEmpty) = !ws.isEmpty := by
  have := h.len
  cases xs <;> cases ws <;> simp_all
theorem tru_ok' {K : KX} {ρ : List Addr} {S : Sto} {H : Hp} {v : Va} {w : V} {b : Bool} (R : RS K ρ S H) (r : Rv K ρ H v w) (h : tru S v = some b) : TruV K.K w H b := by
  cases v with
  | non => cases r; exact (Option.some.inj h).symm
  | bl c => cases r; exact (Option.some.inj h).symm
  | int i => cases r; exact (Option.some.inj h).symm
  | str z =>
    cases r
    have h : (if z.length ≤ sizeLine then some ((z.length : Int) != 0) else none) = some b := h
    by_cases hz : z.length ≤ sizeLine
    · rw [if_pos hz] at h
      exact ⟨hz, (Option.some.inj h).symm⟩
    · rw [if_neg hz] at h
      cases h
  | tup xs =>
    obtain ⟨a, ws, rfl, h1, h2⟩ := r
    exact .inr (.inl ⟨ws, h1, by rw [← empty_of h2]; exact (Option.some.inj h).symm⟩)
  | rol xs =>
    obtain ⟨a, ws, rfl, h1, h2⟩ := r
    exact .inl ⟨ws, h1.sq, by rw [← empty_of h2]; exact (Option.some.inj h).symm⟩
  | ref n =>
    obtain ⟨a, h1, rfl⟩ := r
    unfold tru at h
    simp only at h
    cases e : S[n]? with
    | none => rw [e] at h; cases h
    | some o =>
      rw [e] at h
      have q := R.at_ n a o h1 e
      cases o with
      | lst xs =>
        obtain ⟨_, ws, h3, h4⟩ := q
        exact .inl ⟨ws, SqL.of h3, by rw [← empty_of h4]; exact (Option.some.inj h).symm⟩
      | setT ks => cases h
      | raw o =>
        cases o with
        | dK kvs => exact .inr (.inr ⟨kvs, q.1, (Option.some.inj h).symm⟩)
        | _ => cases h
  | adr a => cases h
  | ty a => cases h
section
variable {c d : Expr} {tc td : MT} {cs : List Expr}
theorem pmt_val {e : Expr} {m : ME} (h : PM X W e m) (he : ∀ whole, isTrue e X.env whole = (do let v ← whole; standAt e.pos; holding [v] (truthy v)) := by intro _; rfl) : PMT X W e (mtOf m) := by
  refine pt_imp (pt_val h he) fun σ H Q ⟨ρ, Γ, S, R, G, q⟩ => ?_
  refine ⟨ρ, Γ, S, R, G, q.bind fun v S1 ρ1 H1 x E1 R1 rx q1 => ?_⟩
  cases v with
  | bl b => cases rx; exact ⟨b, rfl, q1 ρ1 H1 b R1.refl R1 rfl⟩
  | _ => exact q1.elim
theorem pmt_cmp {op : CmpOp} {f : F2} (ho : OpP X (compareOp op) f) (ha : PM X W a ma) (hb : PM X W b mb) (hm : behindInMarks op b = false) : PMT X W (.Compare a [op] [b] pos) (mtOf (m2 f ma mb)) := by
  obtain ⟨r, hr, hf⟩ := ho
  refine pt_imp (pt_cmpR hr ha hb hm) fun σ H Q ⟨ρ, Γ, S, R, G, q⟩ => ?_
  have q : Aft (kxOf X) W σ (fun _ _ (b c : Bool) => c = b) Q ρ H (((ma Γ S).bind fun v S1 => (mb Γ S1).bind fun w S2 => lift (f v w S2)).bind fun v S1 => match v with
    | .bl b => .ok b S1
    | _ => .bad) := q
  have assoc : (((ma Γ S).bind fun v S1 => (mb Γ S1).bind fun w S2 => lift (f v w S2)).bind fun v S1 => match v with
    | .bl b => Res.ok b S1
    | _ => .bad) = (ma Γ S).bind fun v S1 => (mb Γ S1).bind fun w S2 => (lift (f v w S2)).bind fun v S1 => match v with
    | .bl b => .ok b S1
    | _ => .bad := by
    cases ma Γ S with
    | bad => rfl
    | ex c f v S => rfl
    | ok v S1 =>
      show ((mb Γ S1).bind fun w S2 => lift (f v w S2)).bind _ = (mb Γ S1).bind _
      cases mb Γ S1 <;> rfl
  rw [assoc] at q
  refine ⟨ρ, Γ, S, R, G, q.bind fun v S1 ρ1 H1 x E1 R1 rx q1 => ?_⟩
  refine ⟨ρ1, Γ, S1, R1, G.ext E1, q1.bind fun w S2 ρ2 H2 y E2 R2 ry q2 => ?_⟩
  refine hf ρ2 S2 H2 v w x y _ R2 (rx.ext E2) ry ?_
  cases e : f v w S2 with
  | none => rw [e] at q2; exact q2.elim
  | some u =>
    obtain ⟨u, S3⟩ := u
    rw [e] at q2
    intro ρ3 H3 z E3 R3 rz
    cases u with
    | bl b => cases rz; exact ⟨b, rfl, q2 ρ3 H3 b E3 R3 rfl⟩
    | _ => exact q2.elim
theorem pmt_tru {e : Expr} {m : ME} (h : PM X W e m) (he : ∀ whole, isTrue e X.env whole = (do let v ← whole; standAt e.pos; holding [v] (truthy v)) := by intro _; rfl) : PMT X W e (mtTru m) := by
  refine pt_imp (pt_truth h he) fun σ H Q ⟨ρ, Γ, S, R, G, q⟩ => ?_
  refine ⟨ρ, Γ, S, R, G, q.bind fun v S1 ρ1 H1 x E1 R1 rx q1 => ?_⟩
  cases e : tru S1 v with
  | none =>
    simp only [e] at q1
    exact q1.elim
  | some b =>
    simp only [e] at q1
    exact ⟨b, tru_ok' R1 rx e, q1 ρ1 H1 b R1.refl R1 rfl⟩
theorem pmt_not (h : PMT X W c tc) : PMT X W (.UnaryOp .Not c pos) (mtNot tc) := by
  refine pt_imp (pt_not h) fun σ H Q ⟨ρ, Γ, S, R, G, q⟩ => ?_
  refine ⟨ρ, Γ, S, R, G, q.bind fun v S1 ρ1 H1 x E1 R1 rx q1 => ?_⟩
  subst rx
  exact q1 ρ1 H1 _ R1.refl R1 rfl
theorem pmw_and1 (h : PMT X W c tc) : PMW X W (.BoolOp .And [c] pos) tc := pw_imp (pw_and1 h) fun _ _ _ q => q
theorem pmw_or1 (h : PMT X W c tc) : PMW X W (.BoolOp .Or [c] pos) tc := pw_imp (pw_or1 h) fun _ _ _ q => q
theorem pmw_and (h : PMT X W c tc) (h2 : PMW X W (.BoolOp .And (d :: cs) pos) td) : PMW X W (.BoolOp .And (c :: d :: cs) pos) (mtAnd tc td) := by
  refine pw_imp (pw_and h h2) fun σ H Q ⟨ρ, Γ, S, R, G, q⟩ => ?_
  refine ⟨ρ, Γ, S, R, G, q.bind fun v S1 ρ1 H1 x E1 R1 rx q1 => ?_⟩
  subst rx
  cases x with
  | true => exact iteT ⟨ρ1, Γ, S1, R1, G.ext E1, q1⟩
  | false => exact iteF (q1 ρ1 H1 _ R1.refl R1 rfl)
theorem pmw_or (h : PMT X W c tc) (h2 : PMW X W (.BoolOp .Or (d :: cs) pos) td) : PMW X W (.BoolOp .Or (c :: d :: cs) pos) (mtOr tc td) := by
  refine pw_imp (pw_or h h2) fun σ H Q ⟨ρ, Γ, S, R, G, q⟩ => ?_
  refine ⟨ρ, Γ, S, R, G, q.bind fun v S1 ρ1 H1 x E1 R1 rx q1 => ?_⟩
  subst rx
  cases x with
  | true => exact iteT (q1 ρ1 H1 _ R1.refl R1 rfl)
  | false => exact iteF ⟨ρ1, Γ, S1, R1, G.ext E1, q1⟩
theorem pm_if {ma mb : ME} (h : PMT X W c tc) (ha : PM X W a ma) (hb : PM X W b mb) : PM X W (.IfExp c a b pos) (mIf tc ma mb) := by
  refine pe_imp (pe_ifExp h ha hb) fun σ H Q ⟨ρ, Γ, S, R, G, q⟩ => ?_
  refine ⟨ρ, Γ, S, R, G, q.bind fun v S1 ρ1 H1 x E1 R1 rx q1 => ?_⟩
  subst rx
  cases x with
  | true => exact iteT ⟨ρ1, Γ, S1, R1, G.ext E1, q1⟩
  | false => exact iteF ⟨ρ1, Γ, S1, R1, G.ext E1, q1⟩
end
end
end PM

namespace PM
open PySem PySem.Spec PyProof.Rows L2 Q2
/-! ### statements -/
inductive Rs where
  | bad | nx (Γ : En) (S : Sto) | rt (v : Va) (S : Sto) | bk (Γ : En) (S : Sto) | ct (Γ : En) (S : Sto) | ex (c f : Str) (v : Va) (Γ : En) (S : Sto)
abbrev MS := En → Sto → Rs
def AftS (K : KX) (W : XW) (D : Ends) (ρ : List Addr) (H : Hp) : Rs → Prop
  | .bad => False
  | .nx Γ' S' => ∀ ρ' H' σ', Ext ρ ρ' H H' → RS K ρ' S' H' → RE K ρ' H' Γ' σ' → D.nx σ' H'
  | .rt v S' => ∀ ρ' H' w, Ext ρ ρ' H H' → RS K ρ' S' H' → Rv K ρ' H' v w → D.rt w H'
  | .bk Γ' S' => ∀ ρ' H' σ', Ext ρ ρ' H H' → RS K ρ' S' H' → RE K ρ' H' Γ' σ' → D.bk σ' H'
  | .ct Γ' S' => ∀ ρ' H' σ', Ext ρ ρ' H H' → RS K ρ' S' H' → RE K ρ' H' Γ' σ' → D.ct σ' H'
  | .ex c f v Γ' S' => ∀ ρ' H' σ' w d, Ext ρ ρ' H H' → RS K ρ' S' H' → RE K ρ' H' Γ' σ' → Rv K ρ' H' v w → H' d = some (.xd [(f, w)]) → W c d σ' H'
section
variable {K : KX} {W : XW} {D : Ends} {ρ ρ1 : List Addr} {H H1 : Hp} {r : Rs}
theorem AftS.shift (E : Ext ρ ρ1 H H1) (h : AftS K W D ρ H r) : AftS K W D ρ1 H1 r := by
  cases r with
  | bad => exact h
  | nx Γ S => exact fun ρ' H' w E' => h ρ' H' w (E.trans E')
  | rt v S => exact fun ρ' H' w E' => h ρ' H' w (E.trans E')
  | bk Γ S => exact fun ρ' H' w E' => h ρ' H' w (E.trans E')
  | ct Γ S => exact fun ρ' H' w E' => h ρ' H' w (E.trans E')
  | ex c f v Γ S => exact fun ρ' H' σ' w d E' => h ρ' H' σ' w d (E.trans E')
end
def tMS (K : KX) (W : XW) (m : MS) : TS := fun D σ H => ∃ ρ Γ S, RS K ρ S H ∧ RE K ρ H Γ σ ∧ AftS K W D ρ H (m Γ S)
def PMS (X : Cx) (W : XW) (st : Stmt) (m : MS) : Prop := PS X st (tMS (kxOf X) W m)
def PMSs (X : Cx) (W : XW) (st : List Stmt) (m : MS) : Prop := PSs X st (tMS (kxOf X) W m)
/-- what follows an expression's result -/
def thenS {α : Type} (Γ : En) (r : Res α) (k : α → Sto → Rs) : Rs :=
  match r with
  | .bad => .bad
  | .ok a S => k a S
  | .ex c f v S => .ex c f v Γ S
@[simp] theorem thenS_ok {α : Type} (Γ : En) (a : α) (S : Sto) (k : α → Sto → Rs) : thenS Γ (Res.ok a S) k = k a S := rfl
@[simp] theorem thenS_bad {α : Type} (Γ : En) (k : α → Sto → Rs) : thenS Γ (Res.bad : Res α) k = .bad := rfl
@[simp] theorem thenS_ex {α : Type} (Γ : En) (c f : Str) (v : Va) (S : Sto) (k : α → Sto → Rs) : thenS Γ (Res.ex c f v S : Res α) k = .ex c f v Γ S := rfl
theorem AftS.bind {α β : Type} {K : KX} {W : XW} {D : Ends} {ρ : List Addr} {H : Hp} {Γ : En} {σ : L2.St} {r : Res α} {k : α → Sto → Rs} {Rl : List Addr → Hp → α → β → Prop} {Q : β → Hp → Prop} (G : RE K ρ H Γ σ)
    (h : AftS K W D ρ H (thenS Γ r k)) (hk : ∀ v S1 ρ1 H1 w, Ext ρ ρ1 H H1 → RS K ρ1 S1 H1 → Rl ρ1 H1 v w → AftS K W D ρ1 H1 (k v S1) → Q w H1) : Aft K W σ Rl Q ρ H r := by
  cases r with
  | bad => exact h
  | ok v S' => exact fun ρ' H' w E R q => hk v S' ρ' H' w E R q (AftS.shift E h)
  | ex c f v S' => exact fun ρ' H' w d E R q e => h ρ' H' σ w d E R (G.ext E) q e
def sSeq (a b : MS) : MS := fun Γ S => match a Γ S with
  | .nx Γ' S' => b Γ' S'
  | r => r
def sNil : MS := fun Γ S => .nx Γ S
def sExpr (m : ME) : MS := fun Γ S => thenS Γ (m Γ S) fun _ S1 => .nx Γ S1
def sRet (m : ME) : MS := fun Γ S => thenS Γ (m Γ S) fun v S1 => .rt v S1
def sIf (c : MT) (a b : MS) : MS := fun Γ S => thenS Γ (c Γ S) fun k S1 => if k = true then a Γ S1 else b Γ S1
def sNever : MS := fun _ _ => .bad
def sBrk : MS := fun Γ S => .bk Γ S
def sCnt : MS := fun Γ S => .ct Γ S
section
variable {X : Cx} {W : XW} {st : Stmt} {sts : List Stmt} {a b : MS} {e : Expr} {m : ME} {pos : Pos}
theorem pmss_nil : PMSs X W [] sNil := pss_imp pss_nil fun D σ H ⟨ρ, Γ, S, R, G, q⟩ => q ρ H σ R.refl R G
theorem pmss_one (h : PMS X W st a) : PMSs X W [st] a := pss_one h
theorem pmss_cons (h : PMS X W st a) (t : PMSs X W sts b) : PMSs X W (st :: sts) (sSeq a b) := by
  refine pss_imp (pss_cons h t) fun D σ H ⟨ρ, Γ, S, R, G, q⟩ => ?_
  refine ⟨ρ, Γ, S, R, G, ?_⟩
  unfold sSeq at q
  cases e : a Γ S with
  | bad => rw [e] at q; exact q
  | nx Γ' S' =>
    rw [e] at q
    exact fun ρ' H' σ' E R' G' => ⟨ρ', Γ', S', R', G', q.shift E⟩
  | rt v S' => rw [e] at q; exact q
  | bk Γ' S' => rw [e] at q; exact q
  | ct Γ' S' => rw [e] at q; exact q
  | ex c f v Γ' S' => rw [e] at q; exact q
theorem pms_expr (h : PM X W e m) (hs : swapsWith e none pos.line X.env = pure false := by rfl) : PMS X W (.Expr e pos) (sExpr m) := by
  refine ps_imp (ps_expr h hs) fun D σ H ⟨ρ, Γ, S, R, G, q⟩ => ?_
  exact ⟨ρ, Γ, S, R, G, AftS.bind G q fun v S1 ρ1 H1 w E1 R1 r1 q1 => q1 ρ1 H1 σ R1.refl R1 (G.ext E1)⟩
theorem pms_ret (h : PM X W e m) : PMS X W (.Return (some e) pos) (sRet m) := by
  refine ps_imp (ps_ret h) fun D σ H ⟨ρ, Γ, S, R, G, q⟩ => ?_
  exact ⟨ρ, Γ, S, R, G, AftS.bind G q fun v S1 ρ1 H1 w E1 R1 r1 q1 => q1 ρ1 H1 w R1.refl R1 r1⟩
theorem pms_retN : PMS X W (.Return none pos) (sRet (mC .non)) := ps_imp ps_retN fun D σ H ⟨ρ, Γ, S, R, G, q⟩ => q ρ H .non R.refl R rfl
theorem pms_if {c : Expr} {x y : List Stmt} {tc : MT} (h : PMT X W c tc) (ha : PMSs X W x a) (hb : PMSs X W y b) : PMS X W (.If c x y pos) (sIf tc a b) := by
  refine ps_imp (ps_if h ha hb) fun D σ H ⟨ρ, Γ, S, R, G, q⟩ => ?_
  refine ⟨ρ, Γ, S, R, G, AftS.bind G q fun v S1 ρ1 H1 w E1 R1 r1 q1 => ?_⟩
  subst r1
  cases w with
  | true => exact iteT ⟨ρ1, Γ, S1, R1, G.ext E1, q1⟩
  | false => exact iteF ⟨ρ1, Γ, S1, R1, G.ext E1, q1⟩
theorem pmss_never : PMSs X W sts sNever := pss_imp pss_never fun D σ H ⟨ρ, Γ, S, R, G, q⟩ => q
theorem pms_brk : PMS X W (.Break pos) sBrk := ps_imp ps_break fun D σ H ⟨ρ, Γ, S, R, G, q⟩ => q ρ H σ R.refl R G
theorem pms_cnt : PMS X W (.Continue pos) sCnt := ps_imp ps_continue fun D σ H ⟨ρ, Γ, S, R, G, q⟩ => q ρ H σ R.refl R G
theorem pms_pass : PMS X W (.Pass pos) sNil := ps_imp ps_pass fun D σ H ⟨ρ, Γ, S, R, G, q⟩ => q ρ H σ R.refl R G
end
/-! ### targets -/
abbrev MG := Va → En → Sto → Res En
abbrev MGs := List Va → En → Sto → Res En
/-- the slots of vs alone are written -/
def Agr (vs : List Nat) (σ σ' : L2.St) : Prop := ∀ us : List Nat, (∀ i ∈ vs, i ∈ us) → wipe σ' us = wipe σ us
theorem Agr.refl (vs : List Nat) (σ : L2.St) : Agr vs σ σ := fun _ _ => rfl
theorem Agr.trans {vs us : List Nat} {σ σ1 σ2 : L2.St} (a : Agr vs σ σ1) (b : Agr us σ1 σ2) : Agr (vs ++ us) σ σ2 := fun ws h => (b ws fun i hi => h i (List.mem_append_right _ hi)).trans (a ws fun i hi => h i (List.mem_append_left _ hi))
theorem wipe_get (σ : L2.St) (us : List Nat) (i : Nat) : (wipe σ us)[i]? = if i ∈ us then (if i < σ.length then some none else none) else σ[i]? := by
  induction us with
  | nil => simp [wipe]
  | cons u us ih =>
    unfold wipe
    rw [List.getElem?_set, wipe_length]
    by_cases e : u = i
    · subst e
      simp
    · rw [if_neg e, ih]
      have e' : ¬ i = u := fun z => e z.symm
      simp [e']
theorem wipe_set {σ : L2.St} {us : List Nat} {i : Nat} {x : Option V} (h : i ∈ us) : wipe (σ.set i x) us = wipe σ us := by
  refine List.ext_getElem? fun j => ?_
  rw [wipe_get, wipe_get, List.length_set, List.getElem?_set]
  by_cases e : i = j
  · subst e
    simp [h]
  · rw [if_neg e]
theorem wipe_wipe (σ : L2.St) (us : List Nat) : wipe (wipe σ us) us = wipe σ us := by
  refine List.ext_getElem? fun j => ?_
  rw [wipe_get (wipe σ us), wipe_length, wipe_get]
  split <;> rfl
theorem Agr.set (σ : L2.St) (i : Nat) (x : Option V) : Agr [i] σ (σ.set i x) := fun us h => wipe_set (h i (by simp))
abbrev RG (K : KX) (vs : List Nat) (σ : L2.St) : List Addr → Hp → En → L2.St → Prop := fun ρ H Γ σ' => RE K ρ H Γ σ' ∧ Agr vs σ σ'
def tMG (K : KX) (W : XW) (vs : List Nat) (g : MG) : TG := fun w σ H Q => ∃ ρ Γ S v, RS K ρ S H ∧ RE K ρ H Γ σ ∧ Rv K ρ H v w ∧ Aft K W σ (RG K vs σ) Q ρ H (g v Γ S)
def tMGs (K : KX) (W : XW) (vs : List Nat) (g : MGs) : TGs := fun ws σ H Q => ∃ ρ Γ S us, RS K ρ S H ∧ RE K ρ H Γ σ ∧ Rvs K ρ H us ws ∧ Aft K W σ (RG K vs σ) Q ρ H (g us Γ S)
def PMG (X : Cx) (W : XW) (vs : List Nat) (e : Expr) (g : MG) : Prop := PG X e (tMG (kxOf X) W vs g)
def PMGs (X : Cx) (W : XW) (vs : List Nat) (es : List Expr) (g : MGs) : Prop := PGs X es (tMGs (kxOf X) W vs g)
section
variable {X : Cx}
theorem pg_imp {e : Expr} {t t' : TG} (h : PG X e t) (hi : ∀ v σ H Q, t' v σ H Q → t v σ H Q) : PG X e t' := ⟨fun pins s σ H v u Q I r hw => h.run pins s σ H v u Q I r (hi _ _ _ _ hw)⟩
theorem pgs_imp {e : List Expr} {t t' : TGs} (h : PGs X e t) (hi : ∀ v σ H Q, t' v σ H Q → t v σ H Q) : PGs X e t' := ⟨fun pins s σ H v u Q I r hw => h.run pins s σ H v u Q I r (hi _ _ _ _ hw)⟩
end
def gV (i : Nat) : MG := fun v Γ S => .ok (Γ.set i (some v)) S
def gsN : MGs := fun vs Γ S => match vs with
  | [] => .ok Γ S
  | _ => .bad
/-- a target that raises nothing -/
def noX {α : Type} : Res α → Res α
  | .ok a S => .ok a S
  | _ => .bad
def gsC (g : MG) (t : MGs) : MGs := fun vs Γ S => match vs with
  | v :: r => (noX (g v Γ S)).bind fun Γ1 S1 => noX (t r Γ1 S1)
  | _ => .bad
def gT (n : Nat) (t : MGs) : MG := fun v Γ S => match v with
  | .tup xs => if xs.length = n then noX (t xs Γ S) else .bad
  | _ => .bad
theorem Aft.noX {α β : Type} {K : KX} {W W' : XW} {σ σ' : L2.St} {Rl : List Addr → Hp → α → β → Prop} {Q : β → Hp → Prop} {ρ : List Addr} {H : Hp} {r : Res α} (h : Aft K W σ Rl Q ρ H (noX r)) : Aft K W' σ' Rl Q ρ H r := by
  cases r with
  | bad => exact h
  | ok a S => exact h
  | ex c f v S => exact h.elim
section
variable {X : Cx} {W : XW} {e : Expr} {es : List Expr} {g : MG} {t : MGs} {pos : Pos} {vs us : List Nat}
theorem pmg_name {i : Nat} {e : Expr} (h : PG X e (gName i)) : PMG X W [i] e (gV i) := pg_imp h fun w σ H Q ⟨ρ, Γ, S, v, R, G, r, q⟩ => q ρ H _ R.refl R ⟨G.set i r, Agr.set σ i _⟩
theorem pmgs_nil : PMGs X W [] [] gsN := by
  refine pgs_imp pgs_nil fun ws σ H Q ⟨ρ, Γ, S, vs, R, G, r, q⟩ => ?_
  cases vs with
  | nil =>
    cases r
    exact ⟨rfl, q ρ H σ R.refl R ⟨G, Agr.refl _ _⟩⟩
  | cons v vs => exact q.elim
theorem pmgs_cons (h1 : PMG X W vs e g) (h2 : PMGs X W us es t)
    (hs : (assignEach (e :: es) X.env).map (·.2) = assign e X.env :: (assignEach es X.env).map (·.2) := by rfl) : PMGs X W (vs ++ us) (e :: es) (gsC g t) := by
  refine pgs_imp (pgs_cons h1 h2 hs) fun ws σ H Q ⟨ρ, Γ, S, xs, R, G, r, q⟩ => ?_
  cases xs with
  | nil => exact q.elim
  | cons v xs =>
    obtain ⟨w, ws', rfl, hw, ht⟩ := r
    have q : Aft (kxOf X) W σ (RG (kxOf X) (vs ++ us) σ) Q ρ H ((noX (g v Γ S)).bind fun Γ1 S1 => noX (t xs Γ1 S1)) := q
    refine ⟨w, ws', rfl, ρ, Γ, S, v, R, G, hw, (q.bind fun Γ1 S1 ρ1 H1 σ1 E1 R1 G1 q1 => ?_ : Aft (kxOf X) W σ (RG (kxOf X) vs σ) _ ρ H (noX (g v Γ S))).noX⟩
    refine ⟨ρ1, Γ1, S1, xs, R1, G1.1, ht.ext E1, ?_⟩
    have q1 : Aft (kxOf X) W σ1 (RG (kxOf X) (vs ++ us) σ) Q ρ1 H1 (t xs Γ1 S1) := q1.noX
    cases e : t xs Γ1 S1 with
    | bad => rw [e] at q1; exact q1
    | ok a b => rw [e] at q1; exact fun ρ' H' w E R q => q1 ρ' H' w E R ⟨q.1, G1.2.trans q.2⟩
    | ex a b c d => rw [e] at q1; exact q1
theorem pmg_tup {k n : Nat} (hc : X.calm = true) (h : PMGs X W vs es t) (hn : (assignEach es X.env).length = n := by rfl) (hst : (assignEach es X.env).findIdx? (·.1) = none := by rfl) : PMG X W vs (.Tuple es k pos) (gT n t) := by
  refine pg_imp (pg_tup hc h hn hst) fun w σ H Q ⟨ρ, Γ, S, v, R, G, r, q⟩ => ?_
  cases v with
  | tup xs =>
    obtain ⟨a, ws, rfl, h1, h2⟩ := r
    unfold gT at q
    simp only at q
    by_cases hl : xs.length = n
    · rw [if_pos hl] at q
      exact ⟨a, ws, rfl, h1, by rw [← h2.len]; exact hl, ρ, Γ, S, xs, R, G, h2, q.noX⟩
    · rw [if_neg hl] at q
      exact q.elim
  | _ => exact q.elim
end
/-! ### assignments -/
def sAsg (m : ME) (g : MG) : MS := fun Γ S => thenS Γ (m Γ S) fun v S1 => thenS Γ (g v Γ S1) fun Γ1 S2 => .nx Γ1 S2
def sSet (i : Nat) (m : ME) : MS := fun Γ S => thenS Γ (m Γ S) fun v S1 => .nx (Γ.set i (some v)) S1
def sPar (i j : Nat) (t : MA) : MS := fun Γ S => thenS Γ (t Γ S) fun vs S1 => match vs with
  | [v, w] => .nx ((Γ.set i (some v)).set j (some w)) S1
  | _ => .bad
def sPar3 (i j l : Nat) (t : MA) : MS := fun Γ S => thenS Γ (t Γ S) fun vs S1 => match vs with
  | [u, v, w] => .nx (((Γ.set i (some u)).set j (some v)).set l (some w)) S1
  | _ => .bad
/-- x op= e -/
def sAug (i : Nat) (f : F2) (m : ME) : MS := fun Γ S => match Γ[i]? with
  | some (some x) => thenS Γ (m Γ S) fun v S1 => thenS Γ (lift (f x v S1)) fun z S2 => .nx (Γ.set i (some z)) S2
  | _ => .bad
def IpM (K : KX) (r : TIp) (f : F2) : Prop := ∀ ρ S H v w x y Q, RS K ρ S H → Rv K ρ H v x → Rv K ρ H w y → Ans K Q ρ H (f v w S) → r x y H Q
def IpP (X : Cx) (op : Operator) (f : F2) : Prop := ∃ r, PIp X op r ∧ IpM (kxOf X) r f
section
variable {X : Cx} {W : XW} {e tg : Expr} {m : ME} {g : MG} {pos : Pos}
theorem pms_set {i : Nat} {st : Stmt} (h : PS X st (tAsg (tM (kxOf X) W m) (gName i))) : PMS X W st (sSet i m) := by
  refine ps_imp h fun D σ H ⟨ρ, Γ, S, R, G, q⟩ => ?_
  exact ⟨ρ, Γ, S, R, G, AftS.bind G q fun v S1 ρ1 H1 w E1 R1 r1 q1 => q1 ρ1 H1 _ R1.refl R1 ((G.ext E1).set i r1)⟩
theorem pms_asg {vs : List Nat} (h : PM X W e m) (hg : PMG X W vs tg g) (hs : swapsWithSole [tg] e pos.line X.env = pure false := by rfl) (hw : swappedStores [tg] e X.env = pure none := by rfl)
    (h1 : (assignEach [tg] X.env).map (·.2) = [assign tg X.env] := by rfl) : PMS X W (.Assign [tg] e pos) (sAsg m g) := by
  refine ps_imp (ps_asg h hg hs hw h1) fun D σ H ⟨ρ, Γ, S, R, G, q⟩ => ?_
  refine ⟨ρ, Γ, S, R, G, AftS.bind G q fun v S1 ρ1 H1 w E1 R1 r1 q1 => ?_⟩
  exact ⟨ρ1, Γ, S1, v, R1, G.ext E1, r1, AftS.bind (G.ext E1) q1 fun Γ2 S2 ρ2 H2 σ2 E2 R2 r2 q2 => q2 ρ2 H2 σ2 R2.refl R2 r2.1⟩
theorem pms_par {i j : Nat} {t : MA} {st : Stmt} (h : PS X st (tPar i j (tMA (kxOf X) W t))) : PMS X W st (sPar i j t) := by
  refine ps_imp h fun D σ H ⟨ρ, Γ, S, R, G, q⟩ => ?_
  refine ⟨ρ, Γ, S, R, G, AftS.bind G q fun vs S1 ρ1 H1 ws E1 R1 r1 q1 => ?_⟩
  match vs, r1, q1 with
  | [v, w], r1, q1 =>
    obtain ⟨x, _, rfl, rx, y, _, rfl, ry, rfl⟩ := r1
    exact ⟨x, y, rfl, q1 ρ1 H1 _ R1.refl R1 (((G.ext E1).set i rx).set j ry)⟩
  | [], _, q1 => exact q1.elim
  | [_], _, q1 => exact q1.elim
  | _ :: _ :: _ :: _, _, q1 => exact q1.elim
theorem pms_aug {i : Nat} {op : Operator} {f : F2} {x : Str} {pos' : Pos} (hN : X.N.Nodup) (hi : X.N[i]? = some x) (hx : Loc X.env.scope x) (hf : IpP X op f) (h : PM X W e m)
    (hfn : X.fn x = true ∨ X.env.scope.names.lookup x = some .local := by first | exact .inl rfl | exact .inr rfl | assumption) : PMS X W (.AugAssign (.Name x pos') op e pos) (sAug i f m) := by
  obtain ⟨r, hr, hm⟩ := hf
  refine ps_imp (ps_aug (pos := pos) (pos' := pos') hN hi hx h hr hfn) fun D σ H ⟨ρ, Γ, S, R, G, q⟩ => ?_
  unfold sAug at q
  cases e : Γ[i]? with
  | none => rw [e] at q; exact q.elim
  | some o =>
    cases o with
    | none => rw [e] at q; exact q.elim
    | some v =>
      rw [e] at q
      obtain ⟨w, h1, h2⟩ := G.at_ i v e
      refine ⟨w, h1, ρ, Γ, S, R, G, AftS.bind G q fun u S1 ρ1 H1 y E1 R1 r1 q1 => ?_⟩
      refine hm ρ1 S1 H1 v u w y _ R1 (h2.ext E1) r1 ?_
      cases e2 : f v u S1 with
      | none => rw [e2] at q1; exact q1.elim
      | some p =>
        rw [e2] at q1
        exact fun ρ2 H2 z E2 R2 r2 => q1 ρ2 H2 _ E2 R2 (((G.ext E1).ext E2).set i r2)
end
/-! ### what is walked -/
def lstOf (S : Sto) : Va → Option (List Va)
  | .ref n => match S[n]? with
    | some (.lst xs) => some xs
    | _ => none
  | .rol xs => some xs
  | _ => none
inductive ItV where
  | ref (n : Nat) | itm (xs : List Va) | rng (lo c : Int) (n : Nat) | enm (n : Nat) | enmI (xs : List Va) | zip (v w : Va) | zipT (xs ys : List Va)
def pair2 : Option Va → Option Va → Option Va
  | some x, some y => some (.tup [x, y])
  | _, _ => none
def pairE (i : Nat) (v : Va) : Va := .tup [.int (i : Nat), v]
/-- none: nobody knows; some none: it stops -/
def ItV.get : ItV → Nat → Sto → Option (Option Va)
  | .ref n, i, S => match S[n]? with
    | some (.lst xs) => some xs[i]?
    | _ => none
  | .itm xs, i, _ => some xs[i]?
  | .rng lo c n, i, _ => if i < n then some (some (.int (lo + (i : Nat) * c))) else some none
  | .enm n, i, S => match S[n]? with
    | some (.lst xs) => some (xs[i]?.map (pairE i))
    | _ => none
  | .enmI xs, i, _ => some (xs[i]?.map (pairE i))
  | .zip v w, i, S => match lstOf S v, lstOf S w with
    | some xs, some ys => some (pair2 xs[i]? ys[i]?)
    | _, _ => none
  | .zipT xs ys, i, _ => some (pair2 xs[i]? ys[i]?)
def ItV.fuel : ItV → Sto → Nat
  | .ref n, S => match S[n]? with
    | some (.lst xs) => xs.length
    | _ => 0
  | .itm xs, _ => xs.length
  | .rng _ _ n, _ => n
  | .enm n, S => match S[n]? with
    | some (.lst xs) => xs.length
    | _ => 0
  | .enmI xs, _ => xs.length
  | .zip v _, S => match lstOf S v with
    | some xs => xs.length
    | none => 0
  | .zipT xs _, _ => xs.length
def ItOk (K : KX) (ρ : List Addr) (H : Hp) (it : ItV) (J : It) : Prop := ∀ ρ' S' H', Ext ρ ρ' H H' → RS K ρ' S' H' → ∀ i, match it.get i S' with
  | none => True
  | some none => J.stop i H'
  | some (some x) => J.go i H' ∧ ∀ y H'', J.yld i H' y H'' → Ext ρ' ρ' H' H'' ∧ RS K ρ' S' H'' ∧ Rv K ρ' H'' x y
theorem ItOk.ext {K : KX} {ρ ρ1 : List Addr} {H H1 : Hp} {it : ItV} {J : It} (E : Ext ρ ρ1 H H1) (h : ItOk K ρ H it J) : ItOk K ρ1 H1 it J := fun ρ' S' H' E' => h ρ' S' H' (E.trans E')
abbrev MI := En → Sto → Res ItV
def tMI (K : KX) (W : XW) (m : MI) : TI := fun σ H R' => ∃ ρ Γ S, RS K ρ S H ∧ RE K ρ H Γ σ ∧ Aft K W σ (ItOk K) R' ρ H (m Γ S)
def PMI (X : Cx) (W : XW) (tg e : Expr) (m : MI) : Prop := PI X tg e (tMI (kxOf X) W m)
/-! ### for -/
def loopF (it : ItV) (g : MG) (body : MS) : Nat → Nat → En → Sto → Rs
  | 0, i, Γ, S => match it.get i S with
    | some none => .nx Γ S
    | _ => .bad
  | k + 1, i, Γ, S => match it.get i S with
    | some none => .nx Γ S
    | none => .bad
    | some (some x) => thenS Γ (g x Γ S) fun Γ1 S1 => match body Γ1 S1 with
      | .nx Γ2 S2 => loopF it g body k (i + 1) Γ2 S2
      | .ct Γ2 S2 => loopF it g body k (i + 1) Γ2 S2
      | .bk Γ2 S2 => .nx Γ2 S2
      | .rt v S2 => .rt v S2
      | .ex c f v Γ2 S2 => .ex c f v Γ2 S2
      | .bad => .bad
def sFor (mi : MI) (g : MG) (body : MS) : MS := fun Γ S => thenS Γ (mi Γ S) fun it S1 => loopF it g body (it.fuel S1) 0 Γ S1
theorem pms_for {X : Cx} {W : XW} {vs : List Nat} {tg iter : Expr} {body : List Stmt} {mi : MI} {g : MG} {mb : MS} {pos : Pos} (hp : PassesOwn (model X.prog X.w) X.A X.env X.xe) (hc : X.calm = true) (hi : PMI X W tg iter mi) (hg : PMG X W vs tg g) (hb : PMSs X W body mb)
    (hs : ∀ x, foldedSetIterable iter X.env x = pure x := by intro _; rfl) : PMS X W (.For tg iter body [] pos) (sFor mi g mb) := by
  refine ps_imp (ps_for hp hc hi hg hb hs) fun D σ H ⟨ρ, Γ, S, R, G, q⟩ => ?_
  refine ⟨ρ, Γ, S, R, G, AftS.bind G q fun it S1 ρ1 H1 J E1 R1 hJ q1 => ?_⟩
  refine ⟨fun i m σ' H' => ∃ ρ' Γ' S', Ext ρ1 ρ' H1 H' ∧ RS (kxOf X) ρ' S' H' ∧ RE (kxOf X) ρ' H' Γ' σ' ∧ AftS (kxOf X) W D ρ' H' (loopF it g mb m i Γ' S'), ⟨_, ρ1, Γ, S1, R1.refl, R1, G.ext E1, q1⟩, ?_⟩
  rintro i m σ' H' ⟨ρ', Γ', S', E', R', G', q'⟩
  have go := hJ ρ' S' H' E' R' i
  cases m with
  | zero =>
    have q' : AftS (kxOf X) W D ρ' H' (match it.get i S' with | some none => .nx Γ' S' | _ => .bad) := q'
    cases e : it.get i S' with
    | none => rw [e] at q'; exact q'.elim
    | some o =>
      cases o with
      | some x => rw [e] at q'; exact q'.elim
      | none =>
        rw [e] at q' go
        exact .inl ⟨go, q' ρ' H' σ' R'.refl R' G'⟩
  | succ k =>
    unfold loopF at q'
    cases e : it.get i S' with
    | none => rw [e] at q'; exact q'.elim
    | some o =>
      cases o with
      | none =>
        rw [e] at q' go
        exact .inl ⟨go, q' ρ' H' σ' R'.refl R' G'⟩
      | some x =>
        rw [e] at q' go
        refine .inr ⟨go.1, fun σ2 H2 => ∃ ρ2 Γ2 S2, Ext ρ1 ρ2 H1 H2 ∧ RS (kxOf X) ρ2 S2 H2 ∧ RE (kxOf X) ρ2 H2 Γ2 σ2 ∧ AftS (kxOf X) W D ρ2 H2 (loopF it g mb k (i + 1) Γ2 S2), fun σ2 H2 h => ⟨k, Nat.lt_succ_self k, h⟩, fun y H2 hy => ?_⟩
        obtain ⟨E2, R2, r2⟩ := go.2 y H2 hy
        have q' := q'.shift E2
        refine ⟨ρ', Γ', S', x, R2, G'.ext E2, r2, AftS.bind (G'.ext E2) q' fun Γ3 S3 ρ3 H3 σ3 E3 R3 G3 q3 => ?_⟩
        refine ⟨ρ3, Γ3, S3, R3, G3.1, ?_⟩
        have E13 : Ext ρ1 ρ3 H1 H3 := (E'.trans E2).trans E3
        cases e3 : mb Γ3 S3 with
        | bad => rw [e3] at q3; exact q3
        | nx Γ4 S4 => rw [e3] at q3; exact fun ρ5 H5 σ5 E5 R5 G5 => ⟨ρ5, Γ4, S4, E13.trans E5, R5, G5, q3.shift E5⟩
        | ct Γ4 S4 => rw [e3] at q3; exact fun ρ5 H5 σ5 E5 R5 G5 => ⟨ρ5, Γ4, S4, E13.trans E5, R5, G5, q3.shift E5⟩
        | bk Γ4 S4 => rw [e3] at q3; exact fun ρ5 H5 σ5 E5 R5 G5 => q3 ρ5 H5 σ5 E5 R5 G5
        | rt v S4 => rw [e3] at q3; exact q3
        | ex c f v Γ4 S4 => rw [e3] at q3; exact q3
/-! ### while -/
def loopW (c : MT) (body : MS) : Nat → En → Sto → Rs
  | 0, _, _ => .bad
  | k + 1, Γ, S => thenS Γ (c Γ S) fun b S1 => if b = true then match body Γ S1 with
      | .nx Γ2 S2 => loopW c body k Γ2 S2
      | .ct Γ2 S2 => loopW c body k Γ2 S2
      | .bk Γ2 S2 => .nx Γ2 S2
      | .rt v S2 => .rt v S2
      | .ex c f v Γ2 S2 => .ex c f v Γ2 S2
      | .bad => .bad
    else .nx Γ S1
def sWhile (fuel : Nat) (c : MT) (body : MS) : MS := fun Γ S => loopW c body fuel Γ S
theorem pms_while {X : Cx} {W : XW} {c : Expr} {body : List Stmt} {tc : MT} {mb : MS} {pos : Pos} (fuel : Nat) (hp : PassesOwn (model X.prog X.w) X.A X.env X.xe) (hc : PMT X W c tc) (hb : PMSs X W body mb) : PMS X W (.While c body [] pos) (sWhile fuel tc mb) := by
  refine ps_imp (ps_while hp hc hb) fun D σ H ⟨ρ, Γ, S, R, G, q⟩ => ?_
  refine ⟨fun m σ' H' => ∃ ρ' Γ' S', RS (kxOf X) ρ' S' H' ∧ RE (kxOf X) ρ' H' Γ' σ' ∧ AftS (kxOf X) W D ρ' H' (loopW tc mb m Γ' S'), ⟨fuel, ρ, Γ, S, R, G, q⟩, ?_⟩
  rintro m σ' H' ⟨ρ', Γ', S', R', G', q'⟩
  cases m with
  | zero => exact q'.elim
  | succ k =>
    refine ⟨ρ', Γ', S', R', G', AftS.bind G' q' fun b S1 ρ1 H1 z E1 R1 r1 q1 => ?_⟩
    subst r1
    cases z with
    | false => exact iteF (q1 ρ1 H1 σ' R1.refl R1 (G'.ext E1))
    | true =>
      refine iteT ⟨fun σ2 H2 => ∃ ρ2 Γ2 S2, RS (kxOf X) ρ2 S2 H2 ∧ RE (kxOf X) ρ2 H2 Γ2 σ2 ∧ AftS (kxOf X) W D ρ2 H2 (loopW tc mb k Γ2 S2), fun σ2 H2 h => ⟨k, Nat.lt_succ_self k, h⟩, ρ1, Γ', S1, R1, G'.ext E1, ?_⟩
      rw [if_pos rfl] at q1
      cases e3 : mb Γ' S1 with
      | bad => rw [e3] at q1; exact q1
      | nx Γ4 S4 => rw [e3] at q1; exact fun ρ5 H5 σ5 E5 R5 G5 => ⟨ρ5, Γ4, S4, R5, G5, q1.shift E5⟩
      | ct Γ4 S4 => rw [e3] at q1; exact fun ρ5 H5 σ5 E5 R5 G5 => ⟨ρ5, Γ4, S4, R5, G5, q1.shift E5⟩
      | bk Γ4 S4 => rw [e3] at q1; exact fun ρ5 H5 σ5 E5 R5 G5 => q1 ρ5 H5 σ5 E5 R5 G5
      | rt v S4 => rw [e3] at q1; exact q1
      | ex c f v Γ4 S4 => rw [e3] at q1; exact q1
end PM

namespace PM
open PySem PySem.Spec PyProof.Rows L2 Q2
/-! ### a list being made stands beside the store -/
section
variable {K : KX} {ρ : List Addr} {H : Hp} {S : Sto}
mutual
theorem Rv.more (l : List Addr) : ∀ {v : Va} {w : V}, Rv K ρ H v w → Rv K (ρ ++ l) H v w
  | .non, _, h => h
  | .bl _, _, h => h
  | .int _, _, h => h
  | .str _, _, h => h
  | .tup xs, _, h => by
    obtain ⟨a, ws, rfl, h1, h2⟩ := h
    exact ⟨a, ws, rfl, h1, Rvs.more l h2⟩
  | .rol xs, _, h => by
    obtain ⟨a, ws, rfl, h1, h2⟩ := h
    exact ⟨a, ws, rfl, h1, Rvs.more l h2⟩
  | .ref n, _, h => by
    obtain ⟨a, h1, rfl⟩ := h
    exact ⟨a, by rw [List.getElem?_append_left (List.getElem?_eq_some_iff.mp h1).1]; exact h1, rfl⟩
  | .adr _, _, h => h
  | .ty _, _, h => h
theorem Rvs.more (l : List Addr) : ∀ {xs : List Va} {ws : List V}, Rvs K ρ H xs ws → Rvs K (ρ ++ l) H xs ws
  | [], _, h => h
  | x :: xs, _, h => by
    obtain ⟨w, r, rfl, hw, t⟩ := h
    exact ⟨w, r, rfl, Rv.more l hw, Rvs.more l t⟩
end
/-- what is no tuple is written -/
def Oth (H : Hp) (p : Addr) : Prop := ∃ o, H p = some o ∧ (∀ xs, o ≠ .tup xs) ∧ ∀ q x, o ≠ .frz q x
section
variable {p : Addr} {u : HO}
theorem Oth.sqt (h : Oth H p) {b : Addr} {ws : List V} (s : SqT K.K H b ws) : SqT K.K (upd H p u) b ws := by
  obtain ⟨o, h0, n1, n2⟩ := h
  rcases s with (h | ⟨q, h⟩) | h
  · exact .inl (.inl (by rw [upd_ne (fun z => by rw [z, h0] at h; exact n1 _ (Option.some.inj h))]; exact h))
  · exact .inl (.inr ⟨q, by rw [upd_ne (fun z => by rw [z, h0] at h; exact n2 _ _ (Option.some.inj h))]; exact h⟩)
  · exact .inr h
theorem Oth.fzl (h : Oth H p) {b : Addr} {ws : List V} (s : FzL K.K H b ws) : FzL K.K (upd H p u) b ws := by
  obtain ⟨o, h0, n1, n2⟩ := h
  rcases s with ⟨q, h⟩ | h
  · exact .inl ⟨q, by rw [upd_ne (fun z => by rw [z, h0] at h; exact n2 _ _ (Option.some.inj h))]; exact h⟩
  · exact .inr h
mutual
theorem Rv.oth (o : Oth H p) : ∀ {v : Va} {w : V}, Rv K ρ H v w → Rv K ρ (upd H p u) v w
  | .non, _, h => h
  | .bl _, _, h => h
  | .int _, _, h => h
  | .str _, _, h => h
  | .tup xs, _, h => by
    obtain ⟨a, ws, rfl, h1, h2⟩ := h
    exact ⟨a, ws, rfl, o.sqt h1, Rvs.oth o h2⟩
  | .rol xs, _, h => by
    obtain ⟨a, ws, rfl, h1, h2⟩ := h
    exact ⟨a, ws, rfl, o.fzl h1, Rvs.oth o h2⟩
  | .ref n, _, h => h
  | .adr _, _, h => h
  | .ty _, _, h => h
theorem Rvs.oth (o : Oth H p) : ∀ {xs : List Va} {ws : List V}, Rvs K ρ H xs ws → Rvs K ρ (upd H p u) xs ws
  | [], _, h => h
  | x :: xs, _, h => by
    obtain ⟨w, r, rfl, hw, t⟩ := h
    exact ⟨w, r, rfl, Rv.oth o hw, Rvs.oth o t⟩
end
theorem RS.oth (R : RS K ρ S H) (hp : p ∉ ρ) (o : Oth H p) : RS K ρ S (upd H p u) := by
  refine ⟨R.len, R.nd, fun n a x h1 h2 => ?_⟩
  have na : a ≠ p := fun z => hp (by rw [← z]; exact List.mem_of_getElem? h1)
  have h := R.at_ n a x h1 h2
  cases x with
  | lst xs =>
    obtain ⟨hl, ws, h3, t⟩ := h
    exact ⟨hl, ws, by rw [upd_ne na]; exact h3, t.oth o⟩
  | setT ks =>
    obtain ⟨L, h1, h2, h3⟩ := h
    exact ⟨L, by rw [upd_ne na]; exact h1, h2, fun p hp => o.sqt (h3 p hp)⟩
  | raw q => exact ⟨by rw [upd_ne na]; exact h.1, h.2⟩
end
theorem RS.adopt {D : Addr} {xs : List Va} {ws : List V} (R : RS K ρ S H) (hD : D ∉ ρ) (h : H D = some (.lst ws)) (hl : xs.length ≤ sizeLine) (hx : Rvs K ρ H xs ws) : RS K (ρ ++ [D]) (S ++ [.lst xs]) H := by
  refine ⟨by simp [R.len], ?_, fun n a u h1 h2 => ?_⟩
  · refine List.nodup_append.mpr ⟨R.nd, by simp, fun x hx y hy z => hD ?_⟩
    rw [← List.mem_singleton.mp hy, ← z]
    exact hx
  · by_cases hn : n < ρ.length
    · rw [List.getElem?_append_left hn] at h1
      rw [List.getElem?_append_left (by rw [← R.len]; exact hn)] at h2
      have q := R.at_ n a u h1 h2
      cases u with
      | lst ys =>
        obtain ⟨q1, us, q2, q3⟩ := q
        exact ⟨q1, us, q2, q3.more [D]⟩
      | setT ks => exact q
      | raw o => exact q
    · have hn' : n = ρ.length := by
        have := (List.getElem?_eq_some_iff.mp h1).1
        simp at this
        omega
      subst hn'
      rw [List.getElem?_append_right (Nat.le_refl _), Nat.sub_self] at h1
      rw [List.getElem?_append_right (by rw [R.len]; exact Nat.le_refl _), R.len, Nat.sub_self] at h2
      cases h1
      cases h2
      exact ⟨hl, ws, h, hx.more [D]⟩
theorem Ext.adopt {ρ1 : List Addr} {H1 : Hp} {D : Addr} (E : Ext ρ1 ρ H1 H) (h : H1 D = none) : Ext ρ1 (ρ ++ [D]) H1 H := by
  obtain ⟨l, hl⟩ := E.pre
  refine ⟨E.nt, ⟨l ++ [D], by rw [hl, List.append_assoc]⟩, E.fr, fun b hb n => ?_⟩
  rcases List.mem_append.mp hb with hb | hb
  · exact E.new b hb n
  · rw [List.mem_singleton.mp hb]
    exact h
theorem Ext.notin {ρ' : List Addr} {H' : Hp} {D : Addr} {o : HO} (E : Ext ρ ρ' H H') (h : H D = some o) (n : D ∉ ρ) : D ∉ ρ' := fun z => by
  have := E.new D z n
  rw [h] at this
  cases this
end
/-! ### comprehensions -/
def wipeE (Γ : En) : List Nat → En
  | [] => Γ
  | v :: vs => (wipeE Γ vs).set v none
theorem wipeE_get (Γ : En) (us : List Nat) (i : Nat) : (wipeE Γ us)[i]? = if i ∈ us then (if i < Γ.length then some none else none) else Γ[i]? := by
  induction us with
  | nil => simp [wipeE]
  | cons u us ih =>
    unfold wipeE
    have hl : ∀ us, (wipeE Γ us).length = Γ.length := fun us => by
      induction us with
      | nil => rfl
      | cons u us ih => unfold wipeE; rw [List.length_set, ih]
    rw [List.getElem?_set, hl]
    by_cases e : u = i
    · subst e
      simp
    · rw [if_neg e, ih]
      have e' : ¬ i = u := fun z => e z.symm
      simp [e']
theorem wipeE_len (Γ : En) (us : List Nat) : (wipeE Γ us).length = Γ.length := by
  induction us with
  | nil => rfl
  | cons u us ih => unfold wipeE; rw [List.length_set, ih]
theorem RE.wipe {K : KX} {ρ : List Addr} {H : Hp} {Γ : En} {σ : L2.St} (G : RE K ρ H Γ σ) (us : List Nat) : RE K ρ H (wipeE Γ us) (L2.wipe σ us) := by
  refine ⟨by rw [wipeE_len, wipe_length, G.len], fun i v h => ?_⟩
  rw [wipeE_get] at h
  rw [wipe_get]
  split at h
  · split at h <;> cases h
  · rw [if_neg (by assumption)]
    exact G.at_ i v h
/-- without raising -/
def Res.bindN {α β : Type} (r : Res α) (k : α → Sto → Res β) : Res β := match r with
  | .ok a S => k a S
  | _ => .bad
@[simp] theorem bindN_ok {α β : Type} (a : α) (S : Sto) (k : α → Sto → Res β) : (Res.ok a S).bindN k = k a S := rfl
theorem Aft.bindN {α β γ δ : Type} {K : KX} {W W' : XW} {σ σ' : L2.St} {Rl : List Addr → Hp → α → β → Prop} {Rl2 : List Addr → Hp → γ → δ → Prop} {Q : β → Hp → Prop} {Q2 : δ → Hp → Prop} {ρ : List Addr} {H : Hp} {r : Res α} {k : α → Sto → Res γ}
    (h : Aft K W σ Rl2 Q2 ρ H (r.bindN k)) (hk : ∀ v S1 ρ1 H1 w, Ext ρ ρ1 H H1 → RS K ρ1 S1 H1 → Rl ρ1 H1 v w → Aft K W σ Rl2 Q2 ρ1 H1 (k v S1) → Q w H1) : Aft K W' σ' Rl Q ρ H r := by
  cases r with
  | bad => exact h
  | ok v S' => exact fun ρ' H' w E R q => hk v S' ρ' H' w E R q (Aft.shift E h)
  | ex c f v S' => exact h.elim
def compF (it : ItV) (g : MG) (mt : MT) (me : ME) (Γ : En) : Nat → Nat → List Va → Sto → Res (List Va)
  | 0, i, acc, S => match it.get i S with
    | some none => .ok acc S
    | _ => .bad
  | k + 1, i, acc, S => match it.get i S with
    | some none => .ok acc S
    | none => .bad
    | some (some x) => (g x Γ S).bindN fun Γ1 S1 => (mt Γ1 S1).bindN fun b S2 => if b = true then (me Γ1 S2).bindN fun y S3 => if acc.length < sizeLine then compF it g mt me Γ k (i + 1) (acc ++ [y]) S3 else .bad
        else compF it g mt me Γ k (i + 1) acc S2
def mLc (mi : MI) (g : MG) (mt : MT) (me : ME) (vs : List Nat) : ME := fun Γ S => (mi Γ S).bind fun it S1 => (compF it g mt me (wipeE Γ vs) (it.fuel S1) 0 [] S1).bindN fun acc S2 => .ok (.ref S2.length) (S2 ++ [.lst acc])
def mtYes : MT := fun _ S => .ok true S
def PMTs (X : Cx) (W : XW) (es : List Expr) (m : MT) : Prop := PTs X es (tMT (kxOf X) W m)
section
variable {X : Cx} {W : XW}
theorem pmts_nil : PMTs X W [] mtYes := ⟨fun pins s σ H Q I ⟨ρ, Γ, S, R, G, q⟩ => pts_nil.run pins s σ H Q I (q ρ H true R.refl R rfl)⟩
theorem pmts_one {c : Expr} {t : MT} (h : PMT X W c t) : PMTs X W [c] t := pts_one h
/-- the reading of a comprehension, from the plain one -/
theorem lc_imp {K : KX} {mi : MI} {g : MG} {mt : MT} {me : ME} {us vs : List Nat} (sub : ∀ i ∈ us, i ∈ vs) (σ : L2.St) (H : Hp) (Q : VK) (h : tM K W (mLc mi g mt me vs) σ H Q) :
    tLc (tMI K W mi) (tMG K WF us g) (tMT K WF mt) (tM K WF me) vs σ H Q := by
  obtain ⟨ρ, Γ, S, R, G, q⟩ := h
  refine ⟨ρ, Γ, S, R, G, q.bind fun it S1 ρ1 H1 J E1 R1 hJ q1 => ?_⟩
  intro D nD
  have D1 := R1.fresh nD
  obtain ⟨E1', R1'⟩ := R1.own (o := .lst []) nD
  refine ⟨fun i m H' => ∃ ρ' S' acc ws, Ext ρ1 ρ' H1 H' ∧ RS K ρ' S' H' ∧ D ∉ ρ' ∧ H' D = some (.lst ws) ∧ Rvs K ρ' H' acc ws ∧ acc.length ≤ sizeLine ∧
    Aft K W σ (Rv K) Q ρ1 H1 ((compF it g mt me (wipeE Γ vs) m i acc S').bindN fun acc S2 => .ok (.ref S2.length) (S2 ++ [.lst acc])), ⟨_, ρ1, S1, [], [], E1', R1', D1, upd_same, rfl, Nat.zero_le _, q1⟩, ?_⟩
  rintro i m H' ⟨ρ', S', acc, ws, E', R', D', hD, ha, hl, q'⟩
  have stop : J.stop i H' → Aft K W σ (Rv K) Q ρ1 H1 (Res.ok (.ref S'.length) (S' ++ [.lst acc])) → J.stop i H' ∧ Q (.ref D) H' := fun h1 h2 => by
    refine ⟨h1, h2 (ρ' ++ [D]) H' (.ref D) (E'.adopt nD) (R'.adopt D' hD hl ha) (R'.last D)⟩
  have go := hJ ρ' S' H' E' R' i
  cases m with
  | zero =>
    unfold compF at q'
    cases e : it.get i S' with
    | none => rw [e] at q'; exact q'.elim
    | some o =>
      cases o with
      | some x => rw [e] at q'; exact q'.elim
      | none =>
        rw [e] at q' go
        exact .inl (stop go q')
  | succ k =>
    unfold compF at q'
    cases e : it.get i S' with
    | none => rw [e] at q'; exact q'.elim
    | some o =>
      cases o with
      | none =>
        rw [e] at q' go
        exact .inl (stop go q')
      | some x =>
        rw [e] at q' go
        refine .inr ⟨go.1, fun H2 => ∃ ρ2 S2 acc2 ws2, Ext ρ1 ρ2 H1 H2 ∧ RS K ρ2 S2 H2 ∧ D ∉ ρ2 ∧ H2 D = some (.lst ws2) ∧ Rvs K ρ2 H2 acc2 ws2 ∧ acc2.length ≤ sizeLine ∧
          Aft K W σ (Rv K) Q ρ1 H1 ((compF it g mt me (wipeE Γ vs) k (i + 1) acc2 S2).bindN fun acc S2 => .ok (.ref S2.length) (S2 ++ [.lst acc])), fun H2 h => ⟨k, Nat.lt_succ_self k, h⟩, fun y H2 hy => ?_⟩
        obtain ⟨E2, R2, r2⟩ := go.2 y H2 hy
        have hD2 := E2.fr D _ hD D'
        have G2 : RE K ρ' H2 (wipeE Γ vs) (L2.wipe σ vs) := (((G.ext E1).ext E').ext E2).wipe vs
        -- the target
        have q' : Aft K W σ (Rv K) Q ρ1 H1 (((g x (wipeE Γ vs) S').bindN fun Γ1 S1 => (mt Γ1 S1).bindN fun b S2 => if b = true then (me Γ1 S2).bindN fun y S3 => if acc.length < sizeLine then compF it g mt me (wipeE Γ vs) k (i + 1) (acc ++ [y]) S3 else .bad
          else compF it g mt me (wipeE Γ vs) k (i + 1) acc S2).bindN fun acc S2 => .ok (.ref S2.length) (S2 ++ [.lst acc])) := q'
        refine ⟨ρ', wipeE Γ vs, S', x, R2, G2, r2, ?_⟩
        cases eg : g x (wipeE Γ vs) S' with
        | bad => rw [eg] at q'; exact q'.elim
        | ex a b c d => rw [eg] at q'; exact q'.elim
        | ok Γ3 S3 =>
          rw [eg, bindN_ok] at q'
          rintro ρ3 H3 σ3 E3 R3 ⟨G3, ag⟩
          have D3 := E3.notin hD2 D'
          have hD3 := E3.fr D _ hD2 D'
          refine ⟨(ag vs sub).trans (wipe_wipe σ vs), ρ3, Γ3, S3, R3, G3, ?_⟩
          cases et : mt Γ3 S3 with
          | bad => rw [et] at q'; exact q'.elim
          | ex a b c d => rw [et] at q'; exact q'.elim
          | ok b S4 =>
            rw [et, bindN_ok] at q'
            rintro ρ4 H4 b' E4 R4 rfl
            have D4 := E4.notin hD3 D3
            have hD4 := E4.fr D _ hD3 D3
            have E14 : Ext ρ1 ρ4 H1 H4 := ((E'.trans E2).trans E3).trans E4
            have ha4 : Rvs K ρ4 H4 acc ws := ((ha.ext E2).ext E3).ext E4
            cases b' with
            | false =>
              refine iteF ?_
              exact ⟨ρ4, S4, acc, ws, E14, R4, D4, hD4, ha4, hl, q'⟩
            | true =>
              refine iteT ⟨ρ4, Γ3, S4, R4, G3.ext E4, ?_⟩
              rw [if_pos rfl] at q'
              cases ee : me Γ3 S4 with
              | bad => rw [ee] at q'; exact q'.elim
              | ex a b c d => rw [ee] at q'; exact q'.elim
              | ok z S5 =>
                rw [ee, bindN_ok] at q'
                intro ρ5 H5 z' E5 R5 rz
                have D5 := E5.notin hD4 D4
                have hD5 := E5.fr D _ hD4 D4
                have ha5 := ha4.ext E5
                by_cases hlt : acc.length < sizeLine
                · rw [if_pos hlt] at q'
                  have o : Oth H5 D := ⟨_, hD5, (fun _ z => by cases z), (fun _ _ z => by cases z)⟩
                  have E15 := E14.trans E5
                  refine ⟨ws, hD5, by rw [← ha5.len]; exact hlt, ρ5, S5, acc ++ [z], ws ++ [z'], ⟨E15.nt, E15.pre, fun b u hb nb => ?_, E15.new⟩, R5.oth D5 o, D5, upd_same, (ha5.app (Rvs.cons rz Rvs.nil)).oth o, by rw [List.length_append]; exact hlt, q'⟩
                  rw [upd_ne (ne_of_none hb nD)]
                  exact E15.fr b u hb nb
                · rw [if_neg hlt] at q'
                  exact q'.elim
section
variable {elt tg iter : Expr} {ifs : List Expr} {scope : Scope} {own : List (Str × Nat)} {pos : Pos} {mi : MI} {g : MG} {mt : MT} {me : ME} {us : List Nat}
theorem pm_lc (hc : X.calm = true) (hN : X.N.Nodup) (hi : PMI X W tg iter mi) (ok : BlkOk X.N X.env.scope scope own) (sub : ∀ i ∈ us, i ∈ own.map (·.2))
    (hg : ∀ (s : Shared) (H : Hp) (C : Addr) (cl : List (Str × Addr)) (fp : List Addr), PMG (X.blk s H scope (compEnvC scope cl C X.env) fp) WF us tg g) (ht : ∀ (s : Shared) (H : Hp) (C : Addr) (cl : List (Str × Addr)) (fp : List Addr), PMTs (X.blk s H scope (compEnvC scope cl C X.env) fp) WF ifs mt)
    (he : ∀ (s : Shared) (H : Hp) (C : Addr) (cl : List (Str × Addr)) (fp : List Addr), PM (X.blk s H scope (compEnvC scope cl C X.env) fp) WF elt me) (hs : ∀ x, foldedSetIterable iter X.env x = pure x := by intro _; rfl) :
    PM X W (.ListComp elt [⟨tg, iter, ifs, 0⟩] scope pos) (mLc mi g mt me (own.map (·.2))) :=
  pe_imp (pe_lc (g := tMG (kxOf X) WF us g) (tt := tMT (kxOf X) WF mt) (te := tM (kxOf X) WF me) hc hN hi ok hg ht he hs) (lc_imp sub)
/-- name = [..] -/
theorem pms_lc {i : Nat} {y : Str} {py spos : Pos} (hc : X.calm = true) (hN : X.N.Nodup) (hy : X.N[i]? = some y) (hyl : X.env.scope.names.lookup y = some .local)
    (hsw : swapsWith (.ListComp elt [⟨tg, iter, ifs, 0⟩] scope pos) (some (.Name y py)) spos.line X.env = pure true) (hi : PMI X W tg iter mi) (ok : BlkOk X.N X.env.scope scope own) (sub : ∀ i ∈ us, i ∈ own.map (·.2))
    (hg : ∀ (s : Shared) (H : Hp) (C : Addr) (cl : List (Str × Addr)) (fp : List Addr), PMG (X.blk s H scope (compEnvC scope cl C X.env) fp) WF us tg g) (ht : ∀ (s : Shared) (H : Hp) (C : Addr) (cl : List (Str × Addr)) (fp : List Addr), PMTs (X.blk s H scope (compEnvC scope cl C X.env) fp) WF ifs mt)
    (he : ∀ (s : Shared) (H : Hp) (C : Addr) (cl : List (Str × Addr)) (fp : List Addr), PM (X.blk s H scope (compEnvC scope cl C X.env) fp) WF elt me) (hs : ∀ x, foldedSetIterable iter X.env x = pure x := by intro _; rfl) :
    PMS X W (.Assign [.Name y py] (.ListComp elt [⟨tg, iter, ifs, 0⟩] scope pos) spos) (sSet i (mLc mi g mt me (own.map (·.2)))) :=
  pms_set (ps_imp (ps_setLc (g := tMG (kxOf X) WF us g) (tt := tMT (kxOf X) WF mt) (te := tM (kxOf X) WF me) hc hN hy hyl hsw hi ok hg ht he hs) fun D σ H h => lc_imp sub σ H _ h)
end
end
end PM

namespace Q2
open PySem PySem.W PySem.Spec PySem.Calls PyProof.Rows
section
variable {prog : Program} {w : World} {A : Around} {E : Value → Shared → Prop} {s : Shared} {vs : List Value}
theorem collect_tupl {t : Addr} {Q : List Value → Shared → Prop} (tup : IsTup s.heap t vs.toArray) (small : vs.length ≤ sizeLine)
    (win : Q vs { s with heap := (s.heap.push (seqObj "list" #[] 0)).update s.heap.objs.size (Obj.mapSeq (· ++ vs.toArray)) }) : wpAny (model prog w) A (collect (.ref t)) Q E s := by
  obtain ⟨o, here, cls, n, dat⟩ := id tup
  unfold collect
  refine wpAny_bind (wpAny_runValue (codeAny_builtin (entry_proto_collect') ?_))
  show wpAny _ _ (do again (.builtin "list.__iadd__" ⟨[← newList [], .ref t], []⟩)) _ _ s
  refine wpAny_bind (wpAny_newList (wpAny_pure ⟨(Code.quiet_builtin _ (by decide +kernel)), codeAny_builtin (entry_list_iadd') ?_⟩))
  show wpAny _ _ (Builtin.List.listExtendWith (.ref s.heap.objs.size) (.ref t) (.ref s.heap.objs.size)) _ _ { s with heap := s.heap.push (seqObj "list" #[] 0) }
  unfold Builtin.List.listExtendWith
  have there : (s.heap.push (seqObj "list" #[] 0)).get? t = some o := Heap.get?_push_of_some _ here
  refine wpAny_bind ((wpAny_typeOf (T := "tuple") (show ({ s with heap := s.heap.push (seqObj "list" #[] 0) } : Shared).TypeIs (.ref t) "tuple" from ⟨o, there, cls⟩)) ?_)
  have same2 : (Value.type "tuple" == Value.type "tuple") = true := by rfl
  rw [if_pos (show _ by rw [same2]; simp)]
  refine wpAny_bind ((listItems_at there dat) ?_)
  refine wpAny_bind ((listItems_at (xs := #[]) (n := 0) (Heap.get?_push_size _ rfl) rfl) ?_)
  rw [if_neg (show ¬ _ by simp)]
  refine wpAny_bind (listUpdate_at (xs := #[]) (n := 0) (Heap.get?_push_size _ rfl) rfl ?_ (Nat.zero_le _) (show (#[] ++ vs.toArray).size ≤ sizeLine + 1 by simp only [Array.size_append, List.size_toArray, List.length_nil]; omega))
  refine (wpAny_pure ?_)
  show wpAny (model prog w) A (do
      let ob ← load s.heap.objs.size
      match ob.data with
      | .seq xs _ => pure xs.toList
      | _ => unsupported "internal:collect") Q E { s with heap := (s.heap.push (seqObj "list" #[] 0)).update s.heap.objs.size (Obj.mapSeq (· ++ vs.toArray)) }
  refine wpAny_bind ((wpAny_load (get?_update_seq (Heap.get?_push_size _ rfl) _)) ?_)
  show wpAny _ _ (pure ((#[] : Array Value) ++ vs.toArray).toList) Q E _
  have e : ((#[] : Array Value) ++ vs.toArray).toList = vs := by simp
  rw [e]
  exact wpAny_pure win
/-- sorted(x, ..) of a list or a tuple, by what list.sort does to a new list of its items -/
theorem sorted_seq {l : Addr} {kw : List (Str × Value)} {Q : Value → Shared → Prop} (seq : s.heap.IsList l vs.toArray ∨ IsTup s.heap l vs.toArray) (small : vs.length ≤ sizeLine) (args1 : argsOk "sorted" ⟨[.ref l], kw⟩) (args2 : ∀ x, argsOk "list.sort" ⟨[.ref x], kw⟩)
    (sorts : ∀ E' : Value → Shared → Prop, wpAny (model prog w) A.in1.in1 (Builtin.«list.sort» ⟨[.ref (s.heap.objs.size + 1)], kw⟩) (fun f s' => f = .done (.ret .none) ∧ Q (.ref (s.heap.objs.size + 1)) s') E' { s with heap := copyHeap s.heap vs }) :
    wpAny (model prog w) A (call (.builtin "sorted") [.ref l] kw) Q E s := by
  rcases seq with h | h
  · exact sorted_of_sort h small args1 args2 sorts
  · refine call_function_entry_kw (kind_sorted) plain_sorted entry_sorted args1 ?_
    unfold Builtin.«sorted»
    refine wpAny_bind (m := checkCount "sorted" 1 1 _) ((wpAny_pure ?_))
    refine wpAny_bind (collect_tupl h small ?_)
    refine wpAny_bind ((wpAny_newList ?_ small))
    have big : ((s.heap.push (seqObj "list" #[] 0)).update s.heap.objs.size (Obj.mapSeq (· ++ vs.toArray))).objs.size = s.heap.objs.size + 1 := (Heap.size_update ..).trans (size_push' ..)
    show wpAny _ _ _ _ _ { s with heap := copyHeap s.heap vs }
    rw [big]
    refine wpAny_bind (wpAny_holding ((wpAny_call_entry_kw slot_list_sort ⟨_, copyHeap_at s.heap vs, rfl⟩ entry_list_sort ?here (args2 _))))
    case here =>
      refine wpAny_mono (sorts _) (fun f s' hf => ?_) fun _ _ e => e
      exact ⟨_, hf.1, wpAny_pure ⟨_, rfl, hf.2⟩⟩
variable {β : Type} {bs : List β} {enc : β → PyData} {R : Value → β → Prop}
theorem sorted_plain {l : Addr} {Q : Value → Shared → Prop} (seq : s.heap.IsList l vs.toArray ∨ IsTup s.heap l vs.toArray) (e : EachIs R vs bs) (er : EachIs (fun v b => ∃ as, Reads s.heap v (enc b) as) vs bs) (al : AllAlike (bs.map enc)) (so : Sortable (bs.map enc)) (small : bs.length ≤ sizeLine)
    (un : ∀ b, b ∈ bs → A.units + 2 + (enc b).depth < cLine) (win : ∀ out, out.length = bs.length → EachIs R out (bs.mergeSort (dataLe false enc)) → Q (.ref (s.heap.objs.size + 1)) { s with heap := sortedAll s.heap vs (List.toArray out) }) :
    wpAny (model prog w) A (call (.builtin "sorted") [.ref l]) Q E s := by
  have er2 : EachIs (fun v b => ∃ as, Reads (sortingHeap (copyHeap s.heap vs) (s.heap.objs.size + 1) vs) v (enc b) as) vs bs := er.mono fun _ _ ⟨as, r⟩ => ⟨as, PyProof.Rows.Reads.keeps (fun _ _ => sorting_copy_old) r⟩
  have lenv : vs.length ≤ sizeLine := by rw [e.length]; exact small
  refine sorted_seq seq lenv (args_sorted1 _) (fun _ => args_list_sort _) fun E' => ?_
  refine list_sort_vals (s := { s with heap := copyHeap s.heap vs }) (copyHeap_at s.heap vs) (SortsAt.data (s := { s with heap := sortingHeap (copyHeap s.heap vs) (s.heap.objs.size + 1) vs }) (each_map (R := fun v d => ∃ as, Reads (sortingHeap (copyHeap s.heap vs) (s.heap.objs.size + 1) vs) v d as) enc er2) al so (bound_map un)) lenv ⟨rfl, ?_⟩
  exact win _ (by rw [sortVals_length false rfl]; exact e.length) (sortVals_data false e er2 al)
theorem sorted_keyed {l : Addr} {f : Value} {kw : List (Str × Value)} {Q : Value → Shared → Prop} (k : β → PyData) (seq : s.heap.IsList l vs.toArray ∨ IsTup s.heap l vs.toArray) (e : EachIs R vs bs) (al : AllAlike (bs.map k)) (so : Sortable (bs.map k)) (small : bs.length ≤ sizeLine)
    (un : ∀ x, x ∈ bs → A.units + 2 + (k x).depth < cLine) (args1 : argsOk "sorted" ⟨[.ref l], kw⟩) (args2 : ∀ x, argsOk "list.sort" ⟨[.ref x], kw⟩) (tree : ∀ x, Builtin.«list.sort» ⟨[.ref x], kw⟩ = ksk_tree x f false)
    (turn : ∀ (v : Value) (x : β), R v x → x ∈ bs → ∀ (h : Heap) (tk : Nat), (∀ b o, s.heap.get? b = some o → h.get? b = some o) →
      wpAny (model prog w) A.in1.in1 (call f [v]) (KeyPure (k x) { s with heap := h, toks := tk }) (fun _ _ => False) { s with heap := h, toks := tk })
    (win : ∀ out c h' tk, (∀ b o, s.heap.get? b = some o → h'.get? b = some o) → s.heap.get? (s.heap.objs.size + 1) = none → h'.get? (s.heap.objs.size + 1) = some (seqObj "list" (List.toArray out) c) → out.length = bs.length → EachIs R out (bs.mergeSort (dataLe false k)) →
      Q (.ref (s.heap.objs.size + 1)) { s with heap := h', toks := tk }) : wpAny (model prog w) A (call (.builtin "sorted") [.ref l] kw) Q E s := by
  have fresh : s.heap.get? (s.heap.objs.size + 1) = none := Heap.get?_none_of_le (Nat.le_succ _)
  have over : ∀ {g : Heap}, KeepsBut (s.heap.objs.size + 1) (copyHeap s.heap vs) g → ∀ b o, s.heap.get? b = some o → g.get? b = some o := fun {g} kp b o q => kp b o (Nat.ne_of_lt (Nat.lt_succ_of_lt (Heap.lt_size q))) (copyHeap_old q)
  have lens : (bs.map k).length = vs.length := by rw [List.length_map]; exact e.length.symm
  have lenv : vs.length ≤ sizeLine := by rw [e.length]; exact small
  refine sorted_seq seq lenv args1 args2 fun E' => ?_
  rw [tree]
  refine keyH_tree (kz := bs.map k) (s := { s with heap := copyHeap s.heap vs }) (copyHeap_at s.heap vs) lens lenv al so (bound_map (A := A.in1.in1) un) (keyH_turns (s := { s with heap := copyHeap s.heap vs }) e fun v x hR hx h tk kp => turn v x hR hx h tk (over kp)) fun h' tk out c kp hD ko => ⟨rfl, ?_⟩
  exact win out c h' tk (over kp) fresh hD ((ko.length lens).trans e.length) (keyedOut_each k ko e)
end
end Q2

namespace Q2
open PySem PySem.Spec PyProof.Rows L2
section
variable {prog : Program} {w : World} {A : Around} {E : Value → Shared → Prop} {s : Shared}
theorem raw_item {env : Env} {m : Str → Option Value} {t : Addr} {u0 u1 v : Value} {k : Nat} {x : Str} {p1 p2 p3 : Pos} {j1 : Nat} {Q : Value → Shared → Prop} (kind : env.scope.kind = .function) (loc : env.kindOf x = some .local) (ns : s.heap.Ns env.locals m) (mx : m x = some (.ref t))
    (tup : IsTup s.heap t #[u0, u1]) (hk : k < 2) (hv : #[u0, u1][k]? = some v) (hd : (x == ("__debug__" : Str)) = false) (win : Q v { s with toks := s.toks + 1 }) :
    wpAny (model prog w) A (eval (.Subscript (.Name x p1) (.Constant (.int (k : Int)) j1 p2) p3) env) Q E s := by
  refine Subscript_ (wpAny_Name (wpAny_loadName_local kind loc ns mx ?_) hd)
  refine wpAny_Constant_int ?_
  exact subscriptTail_builtinR (s := { s with toks := s.toks + 1 }) (x := v) (IsTup.typeIs (s := { s with toks := s.toks + 1 }) tup) PyProof.Rows.slot_tuple_getitem.lookup
    (PyProof.Rows.getItem_tuple (s := { s with toks := s.toks + 1 }) (j := k) (Q := fun r s' => r = v ∧ Q r s') tup (by omega) (by omega) (seqIndex_of (by omega) (by show (k : Int) < ((2 : Nat) : Int); omega)) hv ⟨rfl, win⟩) rfl
/-- return (p[1], p[0]) -/
theorem raw_swap {env : Env} {m : Str → Option Value} {t : Addr} {u0 u1 : Value} {x : Str} {p1 p2 p3 p4 p5 p6 p7 p8 : Pos} {j1 j2 k7 : Nat} {Q : Flow → Shared → Prop} (kind : env.scope.kind = .function) (loc : env.kindOf x = some .local) (ns : s.heap.Ns env.locals m) (mx : m x = some (.ref t))
    (tup : IsTup s.heap t #[u0, u1]) (hd : (x == ("__debug__" : Str)) = false) (win : Q (.ret (.ref s.heap.objs.size)) { s with heap := s.heap.push { cls := .type "tuple", data := .seq #[u1, u0] }, toks := s.toks + 1 + 1 }) :
    wpAny (model prog w) A (execs [.Return (some (.Tuple [.Subscript (.Name x p1) (.Constant (.int 1) j1 p2) p3, .Subscript (.Name x p4) (.Constant (.int 0) j2 p5) p6] k7 p7)) p8] env) Q E s := by
  refine wpAny_execs_cons (wpAny_Return_some (wpAny_Tuple_spliced ?_))
  show wpAny _ _ (spliced [(false, eval (.Subscript (.Name x p1) (.Constant (.int 1) j1 p2) p3) env), (false, eval (.Subscript (.Name x p4) (.Constant (.int 0) j2 p5) p6) env)]) _ _ _
  refine Calls.spliced_cons (raw_item (k := 1) kind loc ns mx tup (by decide) rfl hd ?_)
  refine Calls.spliced_cons (raw_item (s := { s with toks := s.toks + 1 }) (k := 0) kind loc ns mx tup (by decide) rfl hd ?_)
  refine Calls.spliced_nil ⟨by show 2 ≤ sizeLine; decide, ?_⟩
  exact win
end
/-- how a def that swaps the two places of its argument is written -/
def Swaps (st : Stmt) : Prop := ∃ (x : Str) (p1 p2 p3 p4 p5 p6 p7 p8 : Pos) (j1 j2 k7 : Nat), FnScope [x] [x] (defScope st) ∧ (defScope st).names.lookup x = some .local ∧ (x == ("__debug__" : Str)) = false ∧
  defBody st = [.Return (some (.Tuple [.Subscript (.Name x p1) (.Constant (.int 1) j1 p2) p3, .Subscript (.Name x p4) (.Constant (.int 0) j2 p5) p6] k7 p7)) p8] ∧
  ∀ (kV doc pm : Value) (an : Option Addr) (cdv ct u : Value) (nm q : Str), bindArgs (PySem.W.fnOf nm q (defArgs st) (defBody st) (defScope st) .none kV doc pm an cdv ct) ⟨[u], []⟩ = pure [(x, u)]
/-- the call, on the bare heap -/
theorem swap_call {P : Program} {w : World} {K : PySem.W.Frag} {mg : Str → Option Value} {base : Heap} {A : Around} {outer : List Env} {s : Shared} {H : Hp} {nm : Str} {st : Stmt} {f : Addr} {fd : FuncData} (F : Fun K nm nm st f fd) (S : Swaps st) (e0 : Env0 P w K mg base A outer s H) (room : A.depth < recursionLimit)
    {t : Addr} {x y : Int} {tx ty : Tok} (tup : IsTup s.heap t #[.int x tx, .int y ty]) : wpAny (model P w) A (call (.ref f) [.ref t]) (PySem.W.KeyPure (.tuple [.int y, .int x]) s) (fun _ _ => False) s := by
  obtain ⟨oc, od, kV, doc, pm, an, cdv, ct, osl, rfl, lk, hcd⟩ := F.ex
  obtain ⟨nx, p1, p2, p3, p4, p5, p6, p7, p8, j1, j2, k7, sc, loc, hd, body, bind⟩ := S
  have KX : K.In s.heap := e0.mod.kin.keeps fun b o e => (e0.bs b o e).1
  have lim : s.heap.NoLimit := e0.mod.nolimit.keeps fun b o e => (e0.bs b o e).1
  refine wpAny_call (codeAny_call_function room (KX _ _ lk) rfl sc.co sc.gen rfl (PySem.W.codeRec_of KX hcd) (wpAny_of_eq (bind _ _ _ _ _ _ _ _ _) ?_))
  refine wpAny_newFunctionEnv_cells sc.kind (fun z hz => by rw [List.mem_singleton.mp hz]; exact .inl loc) fun env he s1 inc => ?_
  subst he
  refine ⟨lim.keeps inc.toInCall.keep, codeAny_func ?_⟩
  obtain ⟨h1, tk, rfl, keep⟩ := inc.done
  show wpAny _ _ (execs (defBody st) _) _ _ _
  rw [body]
  have tup1 : IsTup h1 t #[.int x tx, .int y ty] := by
    obtain ⟨o, ho, r⟩ := tup
    exact ⟨o, keep _ _ ho, r⟩
  refine raw_swap (x := nx) (t := t) (m := _) sc.kind loc inc.toInCall.ns ?_ tup1 hd ?_
  · show bindL _ [(nx, Value.ref t)] (fun _ => none) nx = some (.ref t)
    have kl : (newEnv (defScope st) s.heap.objs.size mainGlobals (cellsFrom (s.heap.objs.size + 1) (defScope st).names []) (nm ++ ".<locals>.") (some f) cdv none builtinsNs).kindOf nx = some .local := loc
    simp [bindL, kl]
  · refine ⟨_, _, rfl, fun b o hb => Heap.get?_push_of_some _ (keep b o hb), ?_⟩
    exact .tuple (Heap.get?_push_size _ rfl) rfl rfl (.cons (as := []) (.int y ty) (.cons (as := []) (.int x tx) .nil))
end Q2

namespace Q2
open PySem PySem.Spec PyProof.Rows L2
/-! ### sorted of points -/
abbrev keyX (q : Addr × Int × Int) : PyData := .tuple [.int q.2.1, .int q.2.2]
abbrev keyY (q : Addr × Int × Int) : PyData := .tuple [.int q.2.2, .int q.2.1]
abbrev sortX (qs : Pts) : Pts := qs.mergeSort (PySem.W.dataLe false keyX)
abbrev sortY (qs : Pts) : Pts := qs.mergeSort (PySem.W.dataLe false keyY)
abbrev refsOf (qs : Pts) : List V := qs.map fun q => V.ref q.1
def Tups (H : Hp) (qs : Pts) : Prop := ∀ q ∈ qs, H q.1 = some (.tup [.int q.2.1, .int q.2.2])
theorem each_refs : ∀ {qs : Pts} {us : List Value}, Vals (refsOf qs) us → PySem.W.EachIs (fun v (q : Addr × Int × Int) => v = Value.ref q.1) us qs
  | [], _, .nil => .nil
  | q :: qs, _, .cons r t => .cons (show _ = Value.ref q.1 from r) (each_refs t)
theorem vals_refs : ∀ {qs : Pts} {us : List Value}, PySem.W.EachIs (fun v (q : Addr × Int × Int) => v = Value.ref q.1) us qs → Vals (refsOf qs) us
  | _, _, .nil => .nil
  | _, _, .cons h t => .cons (show RelV (V.ref _) _ from h) (vals_refs t)
theorem each_of {R : Value → (Addr × Int × Int) → Prop} : ∀ {qs : Pts} {us : List Value}, PySem.W.EachIs (fun v (q : Addr × Int × Int) => v = Value.ref q.1) us qs → (∀ q ∈ qs, R (.ref q.1) q) → PySem.W.EachIs R us qs
  | _, _, .nil, _ => .nil
  | _, _, .cons h t, k => .cons (by rw [h]; exact k _ (List.mem_cons_self ..)) (each_of t fun q hq => k q (List.mem_cons_of_mem _ hq))
theorem alike_pts (f g : (Addr × Int × Int) → Int) (qs : Pts) : PySem.W.AllAlike (qs.map fun q => .tuple [.int (f q), .int (g q)]) := by
  intro d hd d' hd'
  obtain ⟨q, _, rfl⟩ := List.mem_map.mp hd
  obtain ⟨r, _, rfl⟩ := List.mem_map.mp hd'
  simp [PySem.W.alike, PySem.W.alikeAll]
theorem sortable_pts (f g : (Addr × Int × Int) → Int) (qs : Pts) : PySem.W.Sortable (qs.map fun q => .tuple [.int (f q), .int (g q)]) := .inl fun d hd => by
  obtain ⟨q, _, rfl⟩ := List.mem_map.mp hd
  exact ⟨_, _, rfl⟩
theorem depth_pt (a b : Int) : (PyData.tuple [.int a, .int b]).depth = 1 := ptD_depth (a, b)
section
variable {X : Cx}
theorem raw_pt {pins : List (Addr × Obj)} {σ : L2.St} {H : Hp} {s : Shared} (I : Inv X pins σ H s) {t : Addr} {x y : Int} (h : H t = some (.tup [.int x, .int y])) : ∃ tx ty, IsTup s.heap t #[.int x tx, .int y ty] := by
  obtain ⟨its, r, tup, _⟩ := I.tuple (SqT.of h)
  cases r with
  | cons r1 rr =>
    cases rr with
    | cons r2 rn =>
      cases rn
      obtain ⟨tx, rfl⟩ := r1
      obtain ⟨ty, rfl⟩ := r2
      exact ⟨tx, ty, tup⟩
theorem raw_seq {pins : List (Addr × Obj)} {σ : L2.St} {H : Hp} {s : Shared} (I : Inv X pins σ H s) {a : Addr} {xs : List V} (h : SqL X.K H a xs ∨ SqT X.K H a xs) : ∃ its : List Value, Vals xs its ∧ (s.heap.IsList a its.toArray ∨ IsTup s.heap a its.toArray) ∧ xs.length ≤ sizeLine := by
  rcases h with h | h
  · obtain ⟨its, r, p, z⟩ := I.list h
    exact ⟨its, r, .inl p.isList, z⟩
  · obtain ⟨its, r, p, z⟩ := I.tuple h
    exact ⟨its, r, .inr p, z⟩
/-- sorted(points) -/
def rSortP (K : PySem.W.Frag) : List V → Hp → VK → Prop := fun vs H Q => ∃ (a : Addr) (qs : Pts), vs = [V.ref a] ∧ (SqL K H a (refsOf qs) ∨ SqT K H a (refsOf qs)) ∧ Tups H qs ∧ ∀ p, H p = none → Q (.ref p) (upd H p (.lst (refsOf (sortX qs))))
theorem cr_sortP (un : X.A.units + 64 < cLine) : CallR X (.builtin "sorted") (rSortP X.K) := by
  intro pins s σ H vs us Q I r h
  obtain ⟨a, qs, rfl, hs, ht, q⟩ := h
  obtain rfl := Vals.ref1 r
  obtain ⟨its, rv, seq, hz⟩ := raw_seq I hs
  rw [List.length_map] at hz
  refine sorted_plain (bs := qs) (enc := keyX) seq (each_refs rv) (each_of (each_refs rv) fun p hp => ?_) (alike_pts _ _ qs) (sortable_pts _ _ qs) hz (fun p hp => ?_) fun out hl e => ?_
  · obtain ⟨tx, ty, o, ho, hc, n, hd⟩ := raw_pt I (ht p hp)
    exact ⟨[], .tuple ho hc hd (.cons (as := []) (.int _ tx) (.cons (as := []) (.int _ ty) .nil))⟩
  · have := depth_pt p.2.1 p.2.2
    show X.A.units + 2 + (PyData.tuple [.int p.2.1, .int p.2.2]).depth < cLine
    omega
  · obtain ⟨ep, he⟩ := PyProof.Rows.sortedAll_at s.heap its (List.toArray out)
    refine ⟨.ref _, upd H (s.heap.objs.size + 1) (.lst (refsOf (sortX qs))), I.laid (t' := s.toks) (fun _ _ => PyProof.Rows.sortedAll_old) (Nat.le_succ _) ⟨?_, out, ep, vals_refs e, he⟩, rfl, q _ (I.hok.fresh (Nat.le_succ _))⟩
    rw [List.length_map, List.length_mergeSort]
    exact hz
/-- sorted(points, key=f), f swaps the two places -/
def rSortK (K : PySem.W.Frag) (f : Addr) : List V → List V → Hp → VK → Prop := fun vs zs H Q => ∃ (a : Addr) (qs : Pts), vs = [V.ref a] ∧ zs = [.ref f] ∧ (SqL K H a (refsOf qs) ∨ SqT K H a (refsOf qs)) ∧ Tups H qs ∧ ∀ p, H p = none → Q (.ref p) (upd H p (.lst (refsOf (sortY qs))))
theorem cr_sortK {nm : Str} {st : Stmt} {f : Addr} {fd : FuncData} (F : Fun X.K nm nm st f fd) (S : Swaps st) (un : X.A.units + 64 < cLine) (room : X.A.depth < recursionLimit) : CallRK X (.builtin "sorted") [Str.ofString "key"] (rSortK X.K f) := by
  intro pins s σ H vs zs us ws Q I r rz h
  obtain ⟨a, qs, rfl, rfl, hs, ht, q⟩ := h
  obtain rfl := Vals.ref1 r
  obtain rfl := Vals.ref1 rz
  obtain ⟨its, rv, seq, hz⟩ := raw_seq I hs
  rw [List.length_map] at hz
  refine sorted_keyed (bs := qs) (f := .ref f) (kw := [(Str.ofString "key", .ref f)]) keyY seq (each_refs rv) (alike_pts _ _ qs) (sortable_pts _ _ qs) hz (fun p hp => ?_) (PyProof.Rows.ksk_s1 _ _) (fun _ => PyProof.Rows.ksk_l1 _ _) (fun x => PyProof.Rows.ksk_t1 f x) (fun v p hv hp h tk keep => ?_) fun out c h' tk keep fresh hD hl e => ?_
  · have := depth_pt p.2.2 p.2.1
    show X.A.units + 2 + (PyData.tuple [.int p.2.2, .int p.2.1]).depth < cLine
    omega
  · rw [hv]
    obtain ⟨tx, ty, o, ho, hr⟩ := raw_pt I (ht p hp)
    have I2 : Inv X pins σ H { s with heap := h, toks := tk } := I.kept keep
    exact swap_call F S I2.env0.in1.in1 room ⟨o, keep _ _ ho, hr⟩
  · refine ⟨.ref _, upd H (s.heap.objs.size + 1) (.lst (refsOf (sortY qs))), I.laid (t' := tk) keep (Nat.le_succ _) ⟨?_, out, c, vals_refs e, hD⟩, rfl, q _ (I.hok.fresh (Nat.le_succ _))⟩
    rw [List.length_map, List.length_mergeSort]
    exact hz
end
/-! ### the order -/
theorem dataLe_two (f g : (Addr × Int × Int) → Int) (q r : Addr × Int × Int) : PySem.W.dataLe false (fun q => .tuple [.int (f q), .int (g q)]) q r = !decide (f r < f q ∨ (f r = f q ∧ g r < g q)) := by
  show (!PyProof.Rows.lexLt PyProof.Rows.itemOrd (PySem.W.keyToks (.tuple [.int (f r), .int (g r)])) (PySem.W.keyToks (.tuple [.int (f q), .int (g q)]))) = _
  congr 1
  simp only [PySem.W.keyToks, PySem.W.keyToksAll, List.cons_append, List.nil_append, PyProof.Rows.lexLt, PyProof.Rows.itemLt]
  by_cases h1 : f r < f q
  · simp [h1]
  · by_cases h2 : f r = f q
    · simp [h2]
    · have h3 : f q < f r := by omega
      simp [h1, h2, h3]
end Q2

namespace Q2
open PySem PySem.W PySem.Spec PySem.Calls PyProof.Rows
/-! ### enumerate(t) of a tuple, one argument -/
theorem meets_enum1 {v : Value} {o : Obj} {B0 : Heap → Prop} (B : Begins v o B0) :
    Meets (Builtin.«enumerate.__new__» ⟨[.type "enumerate", v], []⟩) (fun _ R s => B0 s.heap ∧ R (.ok (.ret (.ref (s.heap.push o).objs.size))) { s with heap := (s.heap.push o).push { cls := .type "enumerate", data := .fields #[.none, .bool false, .ref s.heap.objs.size, rawInt 0, .none, .none] } }) :=
  .of_wp fun prog w A R s both => by
    obtain ⟨hp, g, d, tk, os⟩ := s
    obtain ⟨b0, fin⟩ := both
    have sub1 := sub_enumerate
    have begin1 : ∀ {A' : Around} {E : Value → Shared → Prop} {Q : Value → Shared → Prop}, Q (.ref hp.objs.size) ⟨hp.push o, g, d, tk, os⟩ → wpAny (model prog w) A' (pyIter v) Q E ⟨hp, g, d, tk, os⟩ := fun q => B.iter prog w _ _ ⟨hp, g, d, tk, os⟩ _ b0 q
    wp_walk using begin1
    refine wpAny_stack_any fun st => (wpAny_pure ?_)
    split
    · rename_i c _ _ _ _ _
      cases (c == Value.type "enumerate") <;> (wp_walk using begin1; exact ⟨_, rfl, fin⟩)
    · wp_walk using begin1
      exact ⟨_, rfl, fin⟩
section
variable {prog : Program} {w : World} {A : Around} {E : Value → Shared → Prop} {s : Shared}
theorem enum_tup {t : Addr} {items : Array Value} {Q : Value → Shared → Prop} (ht : s.heap.IsTuple t items)
    (win : ∀ h', IsEnum h' (s.heap.objs.size + 1) s.heap.objs.size 0 .none → h'.IsTupleIter s.heap.objs.size t 0 → (∀ b o, s.heap.get? b = some o → h'.get? b = some o) → Q (.ref (s.heap.objs.size + 1)) { s with heap := h' }) :
    wpAny (model prog w) A (call (.type "enumerate") [.ref t]) Q E s := by
  refine callType_new F.called_enumerate (by decide) (F.typeCall_enumerate_1 _) (F.newCall_enumerate_1 _) (fun obj => F.args_object_init_2 obj _) F.entry_enumerate_new (meets_enum1 (begins_tuple t items)) ⟨ht, ?_⟩
  have z1 : (s.heap.push { cls := .type "tuple_iterator", data := .fields #[.ref t, .int 0 0] }).objs.size = s.heap.objs.size + 1 := Heap.size_push ..
  show _ ∧ _
  rw [z1]
  have en : IsEnum ((s.heap.push { cls := .type "tuple_iterator", data := .fields #[.ref t, .int 0 0] }).push { cls := .type "enumerate", data := .fields #[.none, .bool false, .ref s.heap.objs.size, rawInt 0, .none, .none] }) (s.heap.objs.size + 1) s.heap.objs.size 0 .none := by
    have z2 := Heap.get?_push_size (s.heap.push { cls := .type "tuple_iterator", data := .fields #[.ref t, .int 0 0] }) (o := { cls := .type "enumerate", data := .fields #[.none, .bool false, .ref s.heap.objs.size, rawInt 0, .none, .none] }) rfl
    rw [z1] at z2
    exact z2
  exact ⟨⟨_, en, rfl⟩, win _ en ⟨_, Heap.get?_push_of_some _ (Heap.get?_push_size _ rfl), rfl, rfl⟩ fun b o x => Heap.get?_push_of_some _ (Heap.get?_push_of_some _ x)⟩
end
end Q2
namespace Q2
open PySem PySem.Spec PyProof.Rows L2
/-- the tuple at a, each item in a new pair -/
def ItET (K : PySem.W.Frag) (a : Addr) : It :=
  ⟨fun i H => ∃ (xs : List V) (x : V), SqT K H a xs ∧ xs[i]? = some x, fun i H v H' => ∃ T x, v = .ref T ∧ H T = none ∧ H' = upd H T (.tup [.int (i : Nat), x]) ∧ ∀ xs, SqT K H a xs → xs[i]? = some x, fun i H => ∃ xs : List V, SqT K H a xs ∧ xs.length ≤ i⟩
theorem draws_end {prog : Program} {w : World} {A : Around} (calm : A.handled = none) (it t : Addr) (items : Array Value) (i : Nat) (over : items[i]? = none) :
    PySem.Draws prog w A it [it, t] 0 (fun _ _ => False) (fun _ h => h.IsTupleIter it t i ∧ h.IsTuple t items) where
  live := fun _ _ st => let ⟨o, ho, _⟩ := st.1; ⟨o, ho⟩
  frame := fun _ _ _ st hk => ⟨st.1.at fun o e => hk it (by simp) o e, st.2.at fun o e => hk t (by simp) o e⟩
  item := fun j s Q E hj => absurd hj (Nat.not_lt_zero j)
  done := fun s Q E st hE => wpAny_nextOf_tuple_end calm st.1 st.2 over hE
theorem turn_enumT {P : Program} {w : World} {K : PySem.W.Frag} {elts : List Expr} {kk : Nat} {tpos : Pos} (a e it : Addr) :
    Turn P w K (.Tuple elts kk tpos) (ItET K a) [e, it] e (fun i h => (∃ old, IsEnum h e it ((i : Nat) : Int) old) ∧ h.IsTupleIter it a i ∧ e ≠ it) where
  mem := by simp
  obj := fun i h st b hb => by
    obtain ⟨⟨old, en⟩, ⟨o, ho, hc, hd⟩, _⟩ := st
    rcases (show b = e ∨ b = it by simpa using hb) with z | z
    · rw [z]
      exact ⟨_, en, fun v q => nomatch q⟩
    · rw [z]
      exact ⟨o, ho, fun v q => by rw [hd] at q; cases q⟩
  keep := fun i h h' st k => let ⟨⟨old, en⟩, hi, hne⟩ := st; ⟨⟨old, k e (by simp) _ en⟩, hi.at fun o q => k it (by simp) o q, hne⟩
  item := by
    intro X hP hw hK hc i pins s σ H E I hf st hg
    subst hP hw hK
    obtain ⟨⟨old, en⟩, hit, hne⟩ := st
    obtain ⟨xs, x, hq, hx⟩ := hg
    obtain ⟨its, rv, tup, _⟩ := I.tuple hq
    obtain ⟨u, hu, ru⟩ := rv.get hx
    have lts : i < its.toArray.size := by
      have := (List.getElem?_eq_some_iff.mp hu).1
      simpa using this
    have le : e < s.heap.objs.size := Heap.lt_size en
    have li : it < s.heap.objs.size := by obtain ⟨_, q, _⟩ := hit; exact Heap.lt_size q
    have ati : a ≠ it := fun z => by
      obtain ⟨o1, h1, c1, _⟩ := hit
      obtain ⟨o2, h2, c2, _⟩ := tup
      rw [z, h1] at h2
      cases h2
      rw [c1] at c2
      exact absurd c2 (by decide)
    have ate : a ≠ e := fun z => by
      obtain ⟨o2, h2, c2, _⟩ := tup
      rw [z, show s.heap.get? e = _ from en] at h2
      cases h2
      injection c2 with c3
      exact absurd c3 (by decide)
    refine PySem.wpAny_pyNext_enum_itemD (PySem.Draws.tuple (A := X.A.in1) (show X.A.in1.handled = none from I.ok.hd hc) it a ati its.toArray) en ⟨hit, tup⟩ lts hne (by simp; exact ⟨hne, fun z => ate z.symm⟩) fun y h' tk hy ho st' hT hsz hk => ?_
    have ey : y = u := by
      have h0 : its.toArray[i]? = some y := hy
      have h1 : its.toArray[i]? = some u := by simpa using hu
      rw [h0] at h1
      exact Option.some.inj h1
    subst ey
    refine ⟨_, rfl, wpAny_letOwnedTupleGo_enum (s := { s with heap := h', toks := tk + 1 }) ho fun h'' he' sb => ?_⟩
    have hT2 : h''.get? s.heap.objs.size = some { cls := .type "tuple", data := .seq #[.int i tk, y] } := (sb.2 _ (Nat.ne_of_gt le)).trans hT
    have new : ObjOk X.prog X.w (upd H s.heap.objs.size (.tup [.int (i : Nat), x])) h'' s.heap.objs.size (.tup [.int (i : Nat), x]) := ⟨by show 2 ≤ sizeLine; decide, [.int i tk, y], .cons ⟨_, rfl⟩ (.cons ru .nil), ⟨_, hT2, rfl, _, rfl⟩⟩
    have I1 : Inv X pins σ (upd H s.heap.objs.size (.tup [.int (i : Nat), x])) { s with heap := h'', toks := tk + 1 } :=
      I.turnedNew (ch := [e, it]) (fun b ob hb q => (sb.2 b (fun z => hb (by simp [z]))).trans (hk b ob (fun z => hb (by simp [z])) (fun z => hb (by simp [z])) q)) hf (Nat.le_refl _) new
    refine ⟨.ref s.heap.objs.size, _, I1, rfl, ⟨_, x, rfl, I.hok.fresh (Nat.le_refl _), rfl, fun ys hy2 => by rw [I.tuple_inj hy2 hq]; exact hx⟩, ⟨⟨y, ?_⟩, st'.1.at fun o q => (sb.2 it (Ne.symm hne)).trans q, hne⟩, fun b hb => ?_⟩
    · rw [show ((i + 1 : Nat) : Int) = (i : Int) + 1 by omega]
      exact he'
    · have hb' : b < s.heap.objs.size := by
        rcases (show b = e ∨ b = it by simpa using hb) with z | z
        · rw [z]; exact le
        · rw [z]; exact li
      rw [upd_ne (Nat.ne_of_lt hb')]
      exact (hf b hb).1
  done := by
    intro X hP hw hK hc i pins s σ H E I hf st hg
    subst hP hw hK
    obtain ⟨⟨old, en⟩, hit, hne⟩ := st
    obtain ⟨xs, hq, hx⟩ := hg
    obtain ⟨its, rv, tup, _⟩ := I.tuple hq
    obtain ⟨f0, f1, f2, f3, f4, f5⟩ := hf it (by simp)
    have hl := rv.length
    exact PySem.wpAny_pyNext_enum_endD (n := 0) (draws_end (A := X.A.in1) (show X.A.in1.handled = none from I.ok.hd hc) it a its.toArray i (by simp; omega)) en ⟨hit, tup⟩ fun h' eb => ⟨rfl, I.turned (t' := s.toks) (fun b o hb q => eb b o hb q) f0 f1 f3 f4 f5⟩
  self := fun A i s Q E st h => let ⟨⟨_, en⟩, _⟩ := st; wpAny_pyIter_enum en h
/-- enumerate of a list or a tuple -/
def EnumOf (K : PySem.W.Frag) (H : Hp) (a : Addr) (xs : List V) (J : It) : Prop := (SqL K H a xs ∧ J = Ite K a) ∨ (SqT K H a xs ∧ J = ItET K a)
def iEnumA (K : PySem.W.Frag) (ta : TA) : TI := fun σ H R => ta σ H fun vs H1 => ∃ a xs J, vs = [.ref a] ∧ EnumOf K H1 a xs J ∧ R J H1
theorem pi_enumA {X : Cx} {e : Expr} {ta : TA} {p pos tpos : Pos} {elts : List Expr} {kk : Nat} (hg : Gl X "enumerate") (hm : X.mg "enumerate" = none) (ha : PA X [e] ta) (hs : starEach [e] X.env = [(false, eval e X.env)] := by rfl) :
    PI X (.Tuple elts kk tpos) (.Call (.Name "enumerate" p) [e] [] pos) (iEnumA X.K ta) := by
  refine ⟨fun pins s σ H R I h => ?_⟩
  refine Call_ (ld_blt I hg hm boot_enumerate (PyProof.Rows.callWith_type1 (thn (ha.run pos pins s σ H _ I h) fun us s1 ⟨vs, H1, I1, r1, q1⟩ => ?_) hs rfl))
  obtain ⟨a, xs, J, rfl, hq, q⟩ := q1
  obtain rfl := Vals.ref1 r1
  have fp : ∀ b ∈ [s1.heap.objs.size + 1, s1.heap.objs.size], FpOk X pins H1 b := fun b hb => by
    have hle : s1.heap.objs.size ≤ b := by
      rcases (show b = s1.heap.objs.size + 1 ∨ b = s1.heap.objs.size by simpa using hb) with z | z
      · rw [z]; exact Nat.le_add_right _ _
      · rw [z]; exact Nat.le_refl _
    exact I1.fpOk hle (I1.hok.fresh hle)
  rcases hq with ⟨hq, rfl⟩ | ⟨hq, rfl⟩
  · obtain ⟨its, rv, p', hz⟩ := I1.list hq
    refine call_enumerate_list p'.isList fun h' he hit hsz hk => wpAny_pyIter_enum he ?_
    have I2 : Inv X pins σ H1 { s1 with heap := h' } := I1.kept (t' := s1.toks) hk
    exact ⟨s1.heap.objs.size + 1, [s1.heap.objs.size + 1, s1.heap.objs.size], _, _, H1, rfl, I2, turn_enum a (s1.heap.objs.size + 1) s1.heap.objs.size, ⟨⟨.none, he⟩, hit, Nat.succ_ne_self _⟩, fp, q⟩
  · obtain ⟨its, rv, p', hz⟩ := I1.tuple hq
    refine enum_tup p' fun h' he hit hk => wpAny_pyIter_enum he ?_
    have I2 : Inv X pins σ H1 { s1 with heap := h' } := I1.kept (t' := s1.toks) hk
    exact ⟨s1.heap.objs.size + 1, [s1.heap.objs.size + 1, s1.heap.objs.size], _, _, H1, rfl, I2, turn_enumT a (s1.heap.objs.size + 1) s1.heap.objs.size, ⟨⟨.none, he⟩, hit, Nat.succ_ne_self _⟩, fp, q⟩
theorem walk_enumT {K : PySem.W.Frag} {a : Addr} {xs : List V} : Walk (ItET K a) xs.length (fun H => SqT K H a xs) (YPair (fun i => some (.int (i : Nat))) (fun i => xs[i]?)) where
  goes := fun i H hi hq => ⟨xs, xs[i], hq, List.getElem?_eq_getElem hi⟩
  stops := fun H hq => ⟨xs, hq, Nat.le_refl _⟩
  yields := fun i H v H' hi hq y => by
    obtain ⟨T, x, h1, h2, h3, h4⟩ := y
    exact ⟨T, _, x, h1, h2, h3, rfl, h4 xs hq⟩
end Q2

namespace Q2
open PySem PySem.Spec PyProof.Rows L2
/-! ### reversed(range(n)) -/
theorem smallRev_up {n : Int} (h0 : 0 ≤ n) (h1 : n < 1000000) : Builtin.Range.smallRev 0 n 1 = true := by
  unfold Builtin.Range.smallRev
  have e : Builtin.Range.rangeSize 0 n 1 = ((n - 0).toNat : Nat) := rangeSize_nat 0 n
  rw [e]
  simp only [Builtin.Range.rangeFitsLong, Bool.and_eq_true, decide_eq_true_eq]
  omega
def iRevRg (te : L2.St → Hp → (Int → Int → Hp → Prop) → Prop) : TI := fun σ H R => te σ H fun a b H1 => a = 0 ∧ 0 ≤ b ∧ b < 1000000 ∧ R (Itc (b - 1) (-1) b.toNat) H1
section
variable {X : Cx} {tg : Expr}
theorem pi_revRg {e : Expr} {te : L2.St → Hp → (Int → Int → Hp → Prop) → Prop} {p pos : Pos} (hg : Gl X "reversed") (hm : X.mg "reversed" = none) (he : PRg X e te) (na : starEach [e] X.env = (false, eval e X.env) :: starEach [] X.env := by rfl) : PI X tg (.Call (.Name "reversed" p) [e] [] pos) (iRevRg te) := by
  refine ⟨fun pins s σ H R I h => ?_⟩
  refine Call_ (ld_blt I hg hm PyProof.Rows.boot_reversed (PyProof.Rows.callWith_type1 (args_cons (thn (he pins s σ H _ I h) fun x s1 ⟨r, a, b, t, u, v, H1, ex, hr, I1, z, b0, b1, q⟩ => args_nil ?_) na) na))
  subst ex
  subst z
  refine PySem.reversed_range (n := (b - 0).toNat) hr (smallRev_up b0 b1) (rangeSize_nat 0 b) fun h' hi hs hk => ?_
  refine wpAny_pyIter_rangeiter hi ?_
  have I2 : Inv X pins σ H1 { s1 with heap := h' } := I1.kept (t' := s1.toks) hk
  refine ⟨s1.heap.objs.size, [s1.heap.objs.size], _, _, H1, rfl, I2, turn_rangeC _ (b - 1) (-1) b.toNat, ?_, fun c hc => ?_, q⟩
  · have e1 : 0 + (((b - 0).toNat : Nat) - 1 : Int) * 1 = b - 1 + ((0 : Nat) : Int) * (-1) := by omega
    have e2 : (((b - 0).toNat : Nat) : Int) = (b.toNat : Int) - ((0 : Nat) : Int) := by omega
    rw [e1] at hi
    show IsRangeIter _ _ (b - 1 + ((0 : Nat) : Int) * (-1)) ((b.toNat : Int) - ((0 : Nat) : Int)) (-1)
    rw [← e2]
    exact hi
  · have e : c = s1.heap.objs.size := by simpa using hc
    subst e
    exact I1.fpOk (Nat.le_refl _) (I1.hok.fresh (Nat.le_refl _))
end
theorem same_app {H H' : Hp} {D : Addr} {o : HO} (e : Same H H') (hD : H D = none) : Same H (upd H' D o) := fun b o' hb => by
  rw [upd_ne (ne_of_none hb hD)]
  exact e b o' hb
/-! ### what a def is, at one place -/
end Q2

namespace PM
open PySem PySem.Spec PyProof.Rows L2 Q2
abbrev FnP (K : PySem.W.Frag) (x : Str) (st : Stmt) (f : Addr) (fd : FuncData) : Prop := Fun K x x st f fd
/-! ### exceptions: a class by its name -/
def wx (mg : Str → Option Value) (W : XW) : WX := fun cls d σ H => ∃ c dd, mg c = some cls ∧ d = some dd ∧ W c dd σ H
theorem takesF {X : Cx} {mg : Str → Option Value} : Takes X (wx mg WF) := L2.takes0.imp fun _ _ _ _ h => by
  obtain ⟨_, _, _, _, z⟩ := h
  exact z
/-! ### calls -/
abbrev MF := List Va → Sto → Res Va
def xwE (mg : Str → Option Value) (E : XK) : XW := fun c dd _ H => ∀ cls, mg c = some cls → E cls (some dd) H
/-- the promise: the arguments' values and the store lead to the result that g tells -/
def spM (K : KX) (mg : Str → Option Value) (n : Nat) (g : MF) : Sp := fun vs H Q E => vs.length = n ∧ ∃ ρ S as, RS K ρ S H ∧ Rvs K ρ H as vs ∧ Aft K (xwE mg E) [] (Rv K) Q ρ H (g as S)
def fnM (n : Nat) (b : MS) : MF := fun as S => match b (as.map some ++ List.replicate (n - as.length) none) S with
  | .nx _ S' => .ok .non S'
  | .rt v S' => .ok v S'
  | .ex c f v _ S' => .ex c f v S'
  | _ => .bad
theorem RE.start {K : KX} {ρ : List Addr} {H : Hp} {as : List Va} {vs : List V} (h : Rvs K ρ H as vs) (N : List Str) : RE K ρ H (as.map some ++ List.replicate (N.length - as.length) none) (L2.start N vs) := by
  have hl := h.len
  unfold L2.start
  rw [← hl]
  refine ⟨by simp [hl], fun i v e => ?_⟩
  by_cases hi : i < as.length
  · rw [List.getElem?_append_left (by simpa using hi), List.getElem?_map] at e
    cases ea : as[i]? with
    | none => rw [ea] at e; cases e
    | some a =>
      rw [ea] at e
      cases e
      obtain ⟨w, h1, h2⟩ := h.get ea
      exact ⟨w, by rw [List.getElem?_append_left (by rw [List.length_map, ← hl]; exact hi), List.getElem?_map, h1]; rfl, h2⟩
  · rw [List.getElem?_append_right (by simpa using hi), List.getElem?_replicate] at e
    split at e <;> cases e
section
variable {P : Program} {w : World} {K : PySem.W.Frag} {mg : Str → Option Value} {base : Heap}
/-- a def by its body -/
theorem fn_ok {k : Nat} {x : Str} {st : Stmt} {f : Addr} {fd : FuncData} {N ps : List Str} {m : MS} (F : FnP K x st f fd) (S : FnScope N ps (defScope st))
    (hb : ∀ (cdv : Value) (A : Around) (outer : List Env) (s : Shared) (H : Hp) (E : XK) (W : XW), Room k (A.deeper (envOfC x (defScope st) s.heap.objs.size f cdv)) →
      Takes (cxOf (L2.CX P w) P w K mg base N x (defScope st) f cdv A outer s H E) (wx mg W) → PMSs (cxOf (L2.CX P w) P w K mg base N x (defScope st) f cdv A outer s H E) W (defBody st) m) :
    FnOk P w K mg base (L2.CX P w) (k + 1) f fd ps (spM ⟨K, P, w⟩ mg ps.length (fnM N.length m)) := by
  refine F.okX S (fun vs H Q E h => h.1) fun cdv A outer s H vs Q E hr h => ?_
  obtain ⟨hl, ρ, S0, as, R, r, q⟩ := h
  have tk : Takes (cxOf (L2.CX P w) P w K mg base N x (defScope st) f cdv A outer s H E) (wx mg (xwE mg E)) :=
    (takes_of (X := cxOf (L2.CX P w) P w K mg base N x (defScope st) f cdv A outer s H E) (E := E) rfl rfl rfl rfl).imp fun cls d σ H h => by
      obtain ⟨c, dd, h1, rfl, h2⟩ := h
      exact h2 cls h1
  refine ⟨_, hb cdv A outer s H E (xwE mg E) hr tk, ρ, _, S0, R, RE.start r N, ?_⟩
  unfold fnM at q
  cases e : m (as.map some ++ List.replicate (N.length - as.length) none) S0 with
  | bad => rw [e] at q; exact q
  | nx Γ' S' => rw [e] at q; exact fun ρ' H' σ' E' R' G' => q ρ' H' .non E' R' rfl
  | rt v S' => rw [e] at q; exact q
  | bk Γ' S' => rw [e] at q; exact q.elim
  | ct Γ' S' => rw [e] at q; exact q.elim
  | ex c f v Γ' S' => rw [e] at q; exact fun ρ' H' σ' w d E' R' G' rv hd => q ρ' H' w d E' R' rv hd
end
/-- a def of the program, with what it promises -/
structure Dx (P : Program) (w : World) (K : PySem.W.Frag) (mg : Str → Option Value) (base : Heap) (k : Nat) (x : Str) (ps : List Str) (g : MF) (f : Addr) (fd : FuncData) : Prop where
  ok : FnOk P w K mg base (L2.CX P w) k f fd ps (spM ⟨K, P, w⟩ mg ps.length g)
  kp : PySem.W.keepIn K (.ref f) = true
  bd : Binds K fd ps []
  gl : mg x = some (.ref f)
def mCall (g : MF) (t : MA) : ME := fun Γ S => (t Γ S).bind fun vs S1 => g vs S1
theorem Aft.call {K : KX} {mg : Str → Option Value} {W : XW} {σ : L2.St} {Q : VK} {ρ : List Addr} {H : Hp} {r : Res Va} (h : Aft K W σ (Rv K) Q ρ H r) : Aft K (xwE mg (WE (wx mg W) σ)) [] (Rv K) Q ρ H r := by
  cases r with
  | bad => exact h
  | ok v S => exact h
  | ex c f v S => exact fun ρ' H' w d E R rv hd cls hc => ⟨c, d, hc, rfl, h ρ' H' w d E R rv hd⟩
section
variable {X : Cx} {W : XW} {k : Nat} {x : Str} {ps : List Str} {g : MF} {f : Addr} {fd : FuncData} {e : Expr} {es : List Expr} {t : MA} {p pos : Pos}
theorem pm_call (D : Dx X.prog X.w X.K X.mg X.base k x ps g f fd) (tk : Takes X (wx X.mg W)) (hr : Room k X.A) (hg : Gl X x) (ha : PMA X W (e :: es) t) (hlen : (e :: es).length = ps.length)
    (hdb : (x == ("__debug__" : Str)) = false := by decide) (he : starEach (e :: es) X.env = (false, eval e X.env) :: starEach es X.env := by rfl) (hpl : (backTo pos (starEach es X.env)).any (·.1) = false := by rfl)
    (hn : ∀ Γ S vs S', t Γ S = .ok vs S' → vs.length = ps.length) :
    PM X W (.Call (.Name x p) (e :: es) [] pos) (mCall g t) := by
  refine pe_imp (pe_callS D.ok hr hg D.gl D.kp D.bd (E := WE (wx X.mg W)) (fun σ => passAt tk σ) ha hdb he hpl) fun σ H Q ⟨ρ, Γ, S, R, G, q⟩ => ?_
  refine ⟨ρ, Γ, S, R, G, ?_⟩
  unfold mCall at q
  cases ht : t Γ S with
  | bad => rw [ht] at q; exact q
  | ex a b c d => rw [ht] at q; exact q
  | ok vs S1 =>
    rw [ht, bind_ok] at q
    intro ρ1 H1 ws E1 R1 r1
    exact ⟨by rw [← r1.len]; exact hn Γ S vs S1 ht, ρ1, S1, vs, R1, r1, (q.shift E1).call⟩
end
/-- how many arguments there are -/
inductive ArgN : MA → Nat → Prop
  | nil : ArgN maN 0
  | cons {a : ME} {t : MA} {n : Nat} : ArgN t n → ArgN (maC a t) (n + 1)
theorem ArgN.len {t : MA} {n : Nat} (h : ArgN t n) : ∀ Γ S vs S', t Γ S = .ok vs S' → vs.length = n := by
  induction h with
  | nil =>
    intro Γ S vs S' e
    cases e
    rfl
  | @cons a t n h ih =>
    intro Γ S vs S' e
    unfold maC at e
    cases ea : a Γ S with
    | bad => rw [ea] at e; cases e
    | ex a b c d => rw [ea] at e; cases e
    | ok v S1 =>
      rw [ea, bind_ok] at e
      cases et : t Γ S1 with
      | bad => rw [et] at e; cases e
      | ex a b c d => rw [et] at e; cases e
      | ok us S2 =>
        rw [et, bind_ok] at e
        cases e
        rw [List.length_cons, ih _ _ _ _ et]
/-! ### keywords: nothing is raised -/
def PMK (X : Cx) (W : XW) (ks : List Keyword) (m : MA) : Prop := PK X ks (tMA (kxOf X) W m)
section
variable {X : Cx} {W : XW} {k : Nat} {x : Str} {ps ks : List Str} {g : MF} {f : Addr} {fd : FuncData} {e : Expr} {es : List Expr} {t u : MA} {ma : ME} {kws : List Keyword} {nm : Option Str} {p pos kpos : Pos}
theorem pmk_nil : PMK X W [] maN := ⟨fun pos pins s σ H Q I ⟨ρ, Γ, S, R, G, q⟩ => pk_nil.run pos pins s σ H Q I (q ρ H [] R.refl R rfl)⟩
theorem pmk_cons (ha : PM X W e ma) (ht : PMK X W kws t) : PMK X W (⟨nm, e, kpos⟩ :: kws) (maC ma t) := by
  refine ⟨fun pos pins s σ H Q I ⟨ρ, Γ, S, R, G, q⟩ => (pk_cons ha ht).run pos pins s σ H Q I ?_⟩
  refine ⟨ρ, Γ, S, R, G, q.bind fun v S1 ρ1 H1 x E1 R1 rx q1 => ?_⟩
  refine ⟨ρ1, Γ, S1, R1, G.ext E1, q1.bind fun w S2 ρ2 H2 y E2 R2 ry q2 => ?_⟩
  exact q2 ρ2 H2 _ R2.refl R2 (Rvs.cons (rx.ext E2) ry)
/-- the values of the keywords put in the parameters' order -/
def permV (o : List Nat) (us : List Va) : List Va := o.filterMap fun i => us[i]?
def mCallK (g : MF) (o : List Nat) (t : MA) : ME := fun Γ S => (t Γ S).bindN fun vs S1 => noX (g (permV o vs) S1)
end
end PM

namespace PM
open PySem PySem.Spec PyProof.Rows L2 Q2
/-! ### what a value reads as -/
def seqOf (S : Sto) : Va → Option (List Va)
  | .tup xs => some xs
  | v => lstOf S v
section
variable {K : KX} {ρ : List Addr} {S : Sto} {H : Hp} {v : Va} {w : V} {xs : List Va}
theorem lst_of (R : RS K ρ S H) (r : Rv K ρ H v w) (h : lstOf S v = some xs) : ∃ a ws, w = .ref a ∧ SqL K.K H a ws ∧ Rvs K ρ H xs ws := by
  cases v with
  | ref n =>
    obtain ⟨a, h1, rfl⟩ := r
    unfold lstOf at h
    simp only at h
    cases e : S[n]? with
    | none => rw [e] at h; cases h
    | some o =>
      rw [e] at h
      cases o with
      | lst ys =>
        cases h
        obtain ⟨_, ws, h2, h3⟩ := R.at_ n a _ h1 e
        exact ⟨a, ws, rfl, SqL.of h2, h3⟩
      | setT ks => cases h
      | raw o => cases h
  | rol ys =>
    cases h
    obtain ⟨a, ws, rfl, h1, h2⟩ := r
    exact ⟨a, ws, rfl, h1.sq, h2⟩
  | _ => cases h
theorem seq_of (R : RS K ρ S H) (r : Rv K ρ H v w) (h : seqOf S v = some xs) : ∃ a ws, w = .ref a ∧ (SqL K.K H a ws ∨ SqT K.K H a ws) ∧ Rvs K ρ H xs ws := by
  cases v with
  | tup ys =>
    cases h
    obtain ⟨a, ws, rfl, h1, h2⟩ := r
    exact ⟨a, ws, rfl, .inr h1, h2⟩
  | ref n =>
    obtain ⟨a, ws, h1, h2, h3⟩ := lst_of (v := .ref n) R r h
    exact ⟨a, ws, h1, .inl h2, h3⟩
  | rol ys =>
    obtain ⟨a, ws, h1, h2, h3⟩ := lst_of (v := .rol ys) R r h
    exact ⟨a, ws, h1, .inl h2, h3⟩
  | _ => cases h
/-- a new list is handed back -/
def mkL (S : Sto) (xs : List Va) : Option (Va × Sto) := if xs.length ≤ sizeLine then some (.ref S.length, S ++ [.lst xs]) else none
theorem mkL_ans {Q : VK} {ws : List V} (R : RS K ρ S H) (h : Ans K Q ρ H (mkL S xs)) (r : Rvs K ρ H xs ws) : xs.length ≤ sizeLine ∧ ∀ p, H p = none → Q (.ref p) (upd H p (.lst ws)) := by
  unfold mkL at h
  by_cases hl : xs.length ≤ sizeLine
  · rw [if_pos hl] at h
    refine ⟨hl, fun p hp => ?_⟩
    obtain ⟨E, R2⟩ := R.new hp hl r
    exact h _ _ _ E R2 (R.last p)
  · rw [if_neg hl] at h
    exact h.elim
end
/-! ### ints -/
/-- what a rule for two ints tells -/
def fI2 (C : Int → Int → Bool) (g : Int → Int → Va) : F2 := fun v w S => match v, w with
  | .int i, .int j => if C i j = true then some (g i j, S) else none
  | _, _ => none
@[simp] theorem fI2_int (C : Int → Int → Bool) (g : Int → Int → Va) (i j : Int) (S : Sto) : fI2 C g (.int i) (.int j) S = if C i j = true then some (g i j, S) else none := rfl
theorem opI2 {X : Cx} {gg : Value → Value → Sem Value} {C' : Int → Int → Prop} {C : Int → Int → Bool} {g : Int → Int → V} {gv : Int → Int → Va} (h : OpR X gg (rI C' g)) (hC : ∀ i j, C i j = true → C' i j) (hg : ∀ ρ H i j, Rv (kxOf X) ρ H (gv i j) (g i j)) : OpP X gg (fI2 C gv) := by
  refine ⟨_, h, fun ρ S H v w x y Q R rv rw a => ?_⟩
  cases v with
  | int i =>
    cases w with
    | int j =>
      cases rv
      cases rw
      unfold fI2 at a
      simp only at a
      by_cases c : C i j = true
      · rw [if_pos c] at a
        exact ⟨i, j, rfl, rfl, hC i j c, a ρ H _ R.refl R (hg ρ H i j)⟩
      · rw [if_neg c] at a
        exact a.elim
    | _ => exact a.elim
  | _ => exact a.elim
def always : Int → Int → Bool := fun _ _ => true
theorem opI2' {X : Cx} {gg : Value → Value → Sem Value} {g : Int → Int → V} {gv : Int → Int → Va} (h : OpR X gg (rI0 g)) (hg : ∀ ρ H i j, Rv (kxOf X) ρ H (gv i j) (g i j)) : OpP X gg (fI2 always gv) := by
  refine ⟨_, h, fun ρ S H v w x y Q R rv rw a => ?_⟩
  cases v with
  | int i =>
    cases w with
    | int j =>
      cases rv
      cases rw
      exact ⟨i, j, rfl, rfl, a ρ H _ R.refl R (hg ρ H i j)⟩
    | _ => exact a.elim
  | _ => exact a.elim
def addI : F2 := fI2 always fun i j => .int (i + j)
def subI : F2 := fI2 always fun i j => .int (i - j)
@[irreducible] def mulC (i j : Int) : Bool := decide ((-(2 ^ 64) < i ∧ i < 2 ^ 64) ∨ (-(2 ^ 64) < j ∧ j < 2 ^ 64)) || decide (i.natAbs.log2 + j.natAbs.log2 < 1000000)
def mulI : F2 := fI2 mulC fun i j => .int (i * j)
@[irreducible] def divC (_ j : Int) : Bool := decide (0 < j ∧ j.natAbs.log2 < 9000)
def divI : F2 := fI2 divC fun i j => .int (i / j)
@[irreducible] def modC (_ j : Int) : Bool := decide (0 < j)
def modI : F2 := fI2 modC fun i j => .int (i % j)
@[irreducible] def powC (i j : Int) : Bool := decide (0 ≤ j ∧ j ≤ 1000000 ∧ i.natAbs < 2 ^ 64) || decide (0 ≤ j ∧ (Builtin.Int.intBits i : Int) * j ≤ 2 ^ 27)
def powI : F2 := fI2 powC fun i j => .int (i ^ j.toNat)
@[irreducible] def shlC (i j : Int) : Bool := decide (0 ≤ j ∧ j ≤ 1000000 ∧ i.natAbs < 2 ^ 64)
def shlI : F2 := fI2 shlC fun i j => .int (i * 2 ^ j.toNat)
@[irreducible] def shrC (_ j : Int) : Bool := decide (0 ≤ j)
def shrI : F2 := fI2 shrC fun i j => .int (i / 2 ^ j.toNat)
def andI : F2 := fI2 always fun i j => .int (Builtin.bitAnd i j)
def orI : F2 := fI2 always fun i j => .int (Builtin.bitOr i j)
def xorI : F2 := fI2 always fun i j => .int (Builtin.bitXor i j)
def ltI : F2 := fI2 always fun i j => .bl (decide (i < j))
def leI : F2 := fI2 always fun i j => .bl (decide (i ≤ j))
def gtI : F2 := fI2 always fun i j => .bl (decide (j < i))
def geI : F2 := fI2 always fun i j => .bl (decide (j ≤ i))
section
variable {X : Cx}
theorem rI_or {gg : Value → Value → Sem Value} {C C' : Int → Int → Prop} {g : Int → Int → V} (h : OpR X gg (rI C g)) (h' : OpR X gg (rI C' g)) : OpR X gg (rI (fun i j => C i j ∨ C' i j) g) := by
  intro pins s σ H x y v u Q I rx ry ⟨i, j, e1, e2, c, q⟩
  rcases c with c | c
  · exact h pins s σ H x y v u Q I rx ry ⟨i, j, e1, e2, c, q⟩
  · exact h' pins s σ H x y v u Q I rx ry ⟨i, j, e1, e2, c, q⟩
theorem or_dec {p q : Prop} [Decidable p] [Decidable q] (h : (decide p || decide q) = true) : p ∨ q := by
  rcases Bool.or_eq_true_iff.mp h with h | h
  · exact .inl (of_decide_eq_true h)
  · exact .inr (of_decide_eq_true h)
theorem oAddI : OpP X (binaryOp .Add) addI := opI2' op_add fun _ _ _ _ => rfl
theorem oSub : OpP X (binaryOp .Sub) subI := opI2' op_sub fun _ _ _ _ => rfl
theorem oMulI : OpP X (binaryOp .Mult) mulI := opI2 (rI_or op_mul op_mulW) (fun i j h => or_dec (p := (-(2 ^ 64) < i ∧ i < 2 ^ 64) ∨ (-(2 ^ 64) < j ∧ j < 2 ^ 64)) (q := i.natAbs.log2 + j.natAbs.log2 < 1000000) (by unfold mulC at h; exact h)) fun _ _ _ _ => rfl
theorem oDiv : OpP X (binaryOp .FloorDiv) divI := opI2 op_fdivW (fun _ j h => of_decide_eq_true (p := 0 < j ∧ j.natAbs.log2 < 9000) (by unfold divC at h; exact h)) fun _ _ _ _ => rfl
theorem oMod : OpP X (binaryOp .Mod) modI := opI2 op_mod (fun _ j h => of_decide_eq_true (p := 0 < j) (by unfold modC at h; exact h)) fun _ _ _ _ => rfl
theorem oPow : OpP X (binaryOp .Pow) powI := opI2 (rI_or op_pow op_powW) (fun i j h => or_dec (p := 0 ≤ j ∧ j ≤ 1000000 ∧ i.natAbs < 2 ^ 64) (q := 0 ≤ j ∧ (Builtin.Int.intBits i : Int) * j ≤ 2 ^ 27) (by unfold powC at h; exact h)) fun _ _ _ _ => rfl
theorem oShl : OpP X (binaryOp .LShift) shlI := opI2 op_shl (fun i j h => of_decide_eq_true (p := 0 ≤ j ∧ j ≤ 1000000 ∧ i.natAbs < 2 ^ 64) (by unfold shlC at h; exact h)) fun _ _ _ _ => rfl
theorem oShr : OpP X (binaryOp .RShift) shrI := opI2 op_shr (fun _ j h => of_decide_eq_true (p := 0 ≤ j) (by unfold shrC at h; exact h)) fun _ _ _ _ => rfl
theorem oAnd : OpP X (binaryOp .BitAnd) andI := opI2' op_and fun _ _ _ _ => rfl
theorem oOr : OpP X (binaryOp .BitOr) orI := opI2' op_or fun _ _ _ _ => rfl
theorem oXor : OpP X (binaryOp .BitXor) xorI := opI2' op_xor fun _ _ _ _ => rfl
theorem oLtI : OpP X (compareOp .Lt) ltI := opI2' op_lt fun _ _ _ _ => rfl
theorem oLe : OpP X (compareOp .LtE) leI := opI2' op_le fun _ _ _ _ => rfl
theorem oGtI : OpP X (compareOp .Gt) gtI := opI2' op_gt fun _ _ _ _ => rfl
theorem oGe : OpP X (compareOp .GtE) geI := opI2' op_ge fun _ _ _ _ => rfl
/-! ### lists, tuples, texts put together -/
def catL : F2 := fun v w S => match lstOf S v, lstOf S w with
  | some xs, some ys => mkL S (xs ++ ys)
  | _, _ => none
def catT : F2 := fun v w S => match v, w with
  | .tup (x :: xs), .tup ys => if (x :: xs).length + ys.length ≤ sizeLine then some (.tup (x :: xs ++ ys), S) else none
  | _, _ => none
def catS : F2 := fun v w S => match v, w with
  | .str a, .str b => if a.length + b.length ≤ sizeLine then some (.str (a ++ b), S) else none
  | _, _ => none
theorem oCatL : OpP X (binaryOp .Add) catL := by
  refine ⟨_, op_catL, fun ρ S H v w x y Q R rv rw a => ?_⟩
  unfold catL at a
  cases e1 : lstOf S v with
  | none => rw [e1] at a; exact a.elim
  | some xs =>
    cases e2 : lstOf S w with
    | none => rw [e1, e2] at a; exact a.elim
    | some ys =>
      rw [e1, e2] at a
      obtain ⟨p, ws, rfl, h1, r1⟩ := lst_of R rv e1
      obtain ⟨p2, us, rfl, h2, r2⟩ := lst_of R rw e2
      obtain ⟨hl, q⟩ := mkL_ans R a (r1.app r2)
      refine ⟨p, p2, ws, us, rfl, rfl, h1, h2, ?_, q⟩
      rw [← r1.len, ← r2.len, ← List.length_append]
      exact hl
theorem ans_if {K : KX} {ρ : List Addr} {H : Hp} {Q : VK} {p : Prop} [Decidable p] {o : Option (Va × Sto)} (h : Ans K Q ρ H (if p then o else none)) : p ∧ Ans K Q ρ H o := by
  by_cases c : p
  · rw [if_pos c] at h
    exact ⟨c, h⟩
  · rw [if_neg c] at h
    exact h.elim
theorem catT_in {K : KX} {ρ : List Addr} {H : Hp} {Q : VK} {S : Sto} {v w : Va} (a : Ans K Q ρ H (catT v w S)) : ∃ z zs ys, v = .tup (z :: zs) ∧ w = .tup ys ∧ Ans K Q ρ H (if (z :: zs).length + ys.length ≤ sizeLine then some (.tup (z :: zs ++ ys), S) else none) := by
  cases v with
  | tup xs =>
    cases xs with
    | nil => exact a.elim
    | cons z zs =>
      cases w with
      | tup ys => exact ⟨z, zs, ys, rfl, rfl, a⟩
      | _ => exact a.elim
  | _ => exact a.elim
theorem oCatT : OpP X (binaryOp .Add) catT := by
  refine ⟨_, op_catT, fun ρ S H v w x y Q R rv rw a => ?_⟩
  obtain ⟨z, zs, ys, rfl, rfl, a⟩ := catT_in a
  obtain ⟨hl, a⟩ := ans_if a
  obtain ⟨p, ws, rfl, h1, r1⟩ := rv
  obtain ⟨p2, us, rfl, h2, r2⟩ := rw
  have e1 := r1.len
  have e2 := r2.len
  refine ⟨p, p2, ws, us, rfl, rfl, h1, h2, ?_, by rw [← e1, ← e2]; exact hl, fun e => ?_, fun e p hp => ?_⟩
  · intro e
    rw [e] at e1
    cases e1
  · subst e
    cases ys with
    | nil => exact a ρ H _ R.refl R ⟨p, ws, rfl, h1, by rw [List.append_nil]; exact r1⟩
    | cons y ys => cases e2
  · obtain ⟨E, R2⟩ := R.own (o := .tup (ws ++ us)) hp
    exact a ρ _ _ E R2 ⟨p, _, rfl, SqT.of upd_same, (r1.app r2).ext E⟩
theorem oCatS : OpP X (binaryOp .Add) catS := by
  refine ⟨_, op_add_str, fun ρ S H v w x y Q R rv rw a => ?_⟩
  cases v with
  | str z =>
    cases w with
    | str u =>
      cases rv
      cases rw
      obtain ⟨hl, a⟩ := ans_if (p := z.length + u.length ≤ sizeLine) (o := some (.str (z ++ u), S)) a
      exact ⟨z, u, rfl, rfl, hl, a ρ H _ R.refl R rfl⟩
    | _ => exact a.elim
  | _ => exact a.elim
def fAdd : F2 := orF2 addI (orF2 catL (orF2 catT catS))
theorem oAdd : OpP X (binaryOp .Add) fAdd := oAddI.or (oCatL.or (oCatT.or oCatS))
@[simp] theorem fAdd_int (i j : Int) (S : Sto) : fAdd (.int i) (.int j) S = some (.int (i + j), S) := rfl
theorem fAdd_lst {S : Sto} {v w : Va} {xs ys : List Va} (h : lstOf S v = some xs) (h' : lstOf S w = some ys) : fAdd v w S = mkL S (xs ++ ys) := by
  have e2 : catL v w S = mkL S (xs ++ ys) := by unfold catL; rw [h, h']
  have e : addI v w S = none ∧ catT v w S = none ∧ catS v w S = none := by
    cases v with
    | ref n => exact ⟨rfl, rfl, rfl⟩
    | rol ys => exact ⟨rfl, rfl, rfl⟩
    | _ => cases h
  unfold fAdd orF2
  simp only [e.1, e.2.1, e.2.2, e2]
  cases mkL S (xs ++ ys) <;> rfl
theorem fAdd_tup {x : Va} {xs ys : List Va} {S : Sto} (h : (x :: xs).length + ys.length ≤ sizeLine) : fAdd (.tup (x :: xs)) (.tup ys) S = some (.tup (x :: xs ++ ys), S) := by
  have e : addI (.tup (x :: xs)) (.tup ys) S = none ∧ catL (.tup (x :: xs)) (.tup ys) S = none := ⟨rfl, rfl⟩
  have e2 : catT (.tup (x :: xs)) (.tup ys) S = some (.tup (x :: xs ++ ys), S) := by
    unfold catT
    simp only
    rw [if_pos h]
  unfold fAdd orF2
  simp only [e.1, e.2, e2]
/-- a list so many times -/
def repL : F2 := fun v w S => match v, w with
  | .ref n, .int k => match S[n]? with
    | some (.lst xs) => if -(2 ^ 63) ≤ k ∧ k < 2 ^ 63 ∧ xs.length * k.toNat ≤ sizeLine then mkL S (List.replicate k.toNat xs).flatten else none
    | _ => none
  | _, _ => none
theorem Rvs.rep {K : KX} {ρ : List Addr} {H : Hp} {xs : List Va} {ws : List V} (h : Rvs K ρ H xs ws) : ∀ k, Rvs K ρ H (List.replicate k xs).flatten (List.replicate k ws).flatten
  | 0 => rfl
  | k + 1 => by
    rw [List.replicate_succ, List.replicate_succ, List.flatten_cons, List.flatten_cons]
    exact h.app (h.rep k)
theorem oRep : OpP X (binaryOp .Mult) repL := by
  refine ⟨_, op_rep, fun ρ S H v w x y Q R rv rw a => ?_⟩
  cases v with
  | ref n =>
    cases w with
    | int k =>
      obtain ⟨p, h1, rfl⟩ := rv
      cases rw
      have a : Ans (kxOf X) Q ρ H (match S[n]? with
        | some (.lst xs) => if -(2 ^ 63) ≤ k ∧ k < 2 ^ 63 ∧ xs.length * k.toNat ≤ sizeLine then mkL S (List.replicate k.toNat xs).flatten else none
        | _ => none) := a
      cases e : S[n]? with
      | none => rw [e] at a; exact a.elim
      | some o =>
        cases o with
        | setT ks => rw [e] at a; exact a.elim
        | raw o => rw [e] at a; exact a.elim
        | lst xs =>
          rw [e] at a
          obtain ⟨c, a⟩ := ans_if a
          obtain ⟨_, ws, h2, r2⟩ := R.at_ n p _ h1 e
          obtain ⟨hl, q⟩ := mkL_ans R a (r2.rep k.toNat)
          exact ⟨p, k, ws, rfl, rfl, h2, c.1, c.2.1, by rw [← r2.len]; exact c.2.2, q⟩
    | _ => exact a.elim
  | _ => exact a.elim
def fMul : F2 := orF2 mulI repL
theorem oMul : OpP X (binaryOp .Mult) fMul := oMulI.or oRep
theorem fMul_int (i j : Int) (S : Sto) (h : mulC i j = true) : fMul (.int i) (.int j) S = some (.int (i * j), S) := by
  unfold fMul orF2 mulI
  rw [fI2_int, if_pos h]
/-! ### places -/
theorem Rvs.atI {K : KX} {ρ : List Addr} {H : Hp} {xs : List Va} {ws : List V} (h : Rvs K ρ H xs ws) {i : Int} {x : Va} (e : L2.atI xs i = some x) : ∃ w, L2.atI ws i = some w ∧ Rv K ρ H x w := by
  unfold L2.atI at e ⊢
  rw [← h.len]
  cases q : ixN xs.length i with
  | none => rw [q] at e; cases e
  | some j =>
    rw [q] at e
    exact h.get e
def ixL : F2 := fun v w S => match w with
  | .int i => match lstOf S v with
    | some xs => (L2.atI xs i).map fun x => (x, S)
    | none => none
  | _ => none
def ixT : F2 := fun v w S => match v, w with
  | .tup xs, .int i => (L2.atI xs i).map fun x => (x, S)
  | _, _ => none
def ixS : F2 := fun v w S => match v, w with
  | .str z, .int i => if z.length ≤ sizeLine then (L2.atI z.cps.toList i).map fun c => (.str ⟨#[c]⟩, S) else none
  | _, _ => none
theorem iL : IxP X ixL := by
  refine ⟨_, ix_list, fun ρ S H v w x y Q R rv rw a => ?_⟩
  cases w with
  | int i =>
    cases rw
    unfold ixL at a
    simp only at a
    cases e : lstOf S v with
    | none => rw [e] at a; exact a.elim
    | some xs =>
      rw [e] at a
      simp only at a
      obtain ⟨p, ws, rfl, h1, r1⟩ := lst_of R rv e
      cases e2 : L2.atI xs i with
      | none => rw [e2] at a; exact a.elim
      | some z =>
        rw [e2] at a
        obtain ⟨u, h2, r2⟩ := r1.atI e2
        exact ⟨p, ws, i, u, rfl, rfl, h1, h2, a ρ H u R.refl R r2⟩
  | _ => exact a.elim
theorem iT : IxP X ixT := by
  refine ⟨_, ix_tup, fun ρ S H v w x y Q R rv rw a => ?_⟩
  cases v with
  | tup xs =>
    cases w with
    | int i =>
      cases rw
      obtain ⟨p, ws, rfl, h1, r1⟩ := rv
      have a : Ans (kxOf X) Q ρ H ((L2.atI xs i).map fun x => (x, S)) := a
      cases e2 : L2.atI xs i with
      | none => rw [e2] at a; exact a.elim
      | some z =>
        rw [e2] at a
        obtain ⟨u, h2, r2⟩ := r1.atI e2
        exact ⟨p, ws, i, u, rfl, rfl, h1, h2, a ρ H u R.refl R r2⟩
    | _ => exact a.elim
  | _ => exact a.elim
theorem iS : IxP X ixS := by
  refine ⟨_, ix_str, fun ρ S H v w x y Q R rv rw a => ?_⟩
  cases v with
  | str z =>
    cases w with
    | int i =>
      cases rv
      cases rw
      obtain ⟨hl, a⟩ := ans_if (p := z.length ≤ sizeLine) (o := (L2.atI z.cps.toList i).map fun c => (Va.str ⟨#[c]⟩, S)) a
      cases e2 : L2.atI z.cps.toList i with
      | none => rw [e2] at a; exact a.elim
      | some c =>
        rw [e2] at a
        exact ⟨z, i, c, rfl, rfl, hl, e2, a ρ H _ R.refl R rfl⟩
    | _ => exact a.elim
  | _ => exact a.elim
def fIx : F2 := orF2 ixL (orF2 ixT ixS)
theorem iIx : IxP X fIx := iL.or (iT.or iS)
theorem fIx_lst {S : Sto} {v : Va} {xs : List Va} {i : Int} {x : Va} (h : lstOf S v = some xs) (e : L2.atI xs i = some x) : fIx v (.int i) S = some (x, S) := by
  unfold fIx orF2 ixL
  simp only [h, e, Option.map_some]
theorem fIx_tup {S : Sto} {xs : List Va} {i : Int} {x : Va} (e : L2.atI xs i = some x) : fIx (.tup xs) (.int i) S = some (x, S) := by
  unfold fIx orF2 ixL ixT lstOf
  simp only [e, Option.map_some]
/-! ### equality of data -/
end
def toD (S : Sto) : Nat → Va → Option PyData
  | 0, _ => none
  | _ + 1, .non => some .none
  | _ + 1, .bl b => some (.bool b)
  | _ + 1, .int i => some (.int i)
  | _ + 1, .str z => some (.str z)
  | n + 1, .tup xs => (xs.mapM (toD S n)).map .tuple
  | n + 1, .rol xs => (xs.mapM (toD S n)).map .list
  | n + 1, .ref k => match S[k]? with
    | some (.lst xs) => (xs.mapM (toD S n)).map .list
    | _ => none
  | _ + 1, .adr _ => none
  | _ + 1, .ty _ => none
section
variable {K : KX} {ρ : List Addr} {S : Sto} {H : Hp}
theorem dps_of {f : Va → Option PyData} (hf : ∀ v w d, Rv K ρ H v w → f v = some d → Dp K.K H w d) : ∀ {xs : List Va} {ws : List V} {ds : List PyData}, Rvs K ρ H xs ws → xs.mapM f = some ds → DpAll K.K H ws ds
  | [], _, ds, h, e => by
    cases h
    rw [List.mapM_nil] at e
    cases e
    exact .nil
  | x :: xs, _, ds, h, e => by
    obtain ⟨w, r, rfl, hw, t⟩ := h
    rw [List.mapM_cons] at e
    cases ex : f x with
    | none => rw [ex] at e; cases e
    | some d =>
      rw [ex] at e
      cases exs : xs.mapM f with
      | none => simp only [exs] at e; cases e
      | some ds' =>
        simp only [exs] at e
        cases e
        exact .cons (hf _ _ _ hw ex) (dps_of hf t exs)
theorem dp_of (R : RS K ρ S H) : ∀ (n : Nat) (v : Va) (w : V) (d : PyData), Rv K ρ H v w → toD S n v = some d → Dp K.K H w d
  | 0, _, _, _, _, e => by cases e
  | n + 1, v, w, d, r, e => by
    cases v with
    | non => cases r; cases e; exact .non
    | bl b => cases r; cases e; exact .bl b
    | int i => cases r; cases e; exact .int i
    | str z => cases r; cases e; exact .str z
    | adr a => cases e
    | ty a => cases e
    | tup xs =>
      obtain ⟨a, ws, rfl, h1, h2⟩ := r
      have e : (xs.mapM (toD S n)).map PyData.tuple = some d := e
      cases em : xs.mapM (toD S n) with
      | none => rw [em] at e; cases e
      | some ds =>
        rw [em] at e
        cases e
        exact .tup h1 (dps_of (fun v w d r e => dp_of R n v w d r e) h2 em)
    | rol xs =>
      obtain ⟨a, ws, rfl, h1, h2⟩ := r
      have e : (xs.mapM (toD S n)).map PyData.list = some d := e
      cases em : xs.mapM (toD S n) with
      | none => rw [em] at e; cases e
      | some ds =>
        rw [em] at e
        cases e
        exact .lst h1.sq (dps_of (fun v w d r e => dp_of R n v w d r e) h2 em)
    | ref k =>
      obtain ⟨a, h1, rfl⟩ := r
      have e : (match S[k]? with
        | some (.lst xs) => (xs.mapM (toD S n)).map PyData.list
        | _ => none) = some d := e
      cases eo : S[k]? with
      | none => rw [eo] at e; cases e
      | some o =>
        rw [eo] at e
        cases o with
        | setT ks => cases e
        | raw o => cases e
        | lst xs =>
          simp only at e
          obtain ⟨_, ws, h2, h3⟩ := R.at_ k a _ h1 eo
          cases em : xs.mapM (toD S n) with
          | none => rw [em] at e; cases e
          | some ds =>
            rw [em] at e
            cases e
            exact .lst (SqL.of h2) (dps_of (fun v w d r e => dp_of R n v w d r e) h3 em)
end
/-- as data, not too deep -/
def datOf (S : Sto) (v : Va) : Option PyData := match toD S 64 v with
  | some d => if SeqAt.shaped d = true then some d else none
  | none => none
theorem dat_of {K : KX} {ρ : List Addr} {S : Sto} {H : Hp} {v : Va} {w : V} {d : PyData} (R : RS K ρ S H) (r : Rv K ρ H v w) (h : datOf S v = some d) : Dp K.K H w d ∧ SeqAt.shaped d = true := by
  unfold datOf at h
  cases e : toD S 64 v with
  | none => rw [e] at h; cases h
  | some d' =>
    rw [e] at h
    simp only at h
    split at h
    · cases h
      exact ⟨dp_of R 64 v w d r e, by assumption⟩
    · cases h
def fEq : F2 := fun v w S => match datOf S v, datOf S w with
  | some d, some e => some (.bl (PyData.eqv d e), S)
  | _, _ => none
def fNe : F2 := fun v w S => match datOf S v, datOf S w with
  | some d, some e => some (.bl (!PyData.eqv d e), S)
  | _, _ => none
section
variable {X : Cx}
theorem oEq (hu : X.A.units + 64 < cLine) : OpP X (compareOp .Eq) fEq := by
  refine ⟨_, op_eqD hu, fun ρ S H v w x y Q R rv rw a => ?_⟩
  unfold fEq at a
  cases e1 : datOf S v with
  | none => rw [e1] at a; exact a.elim
  | some d =>
    cases e2 : datOf S w with
    | none => rw [e1, e2] at a; exact a.elim
    | some e =>
      rw [e1, e2] at a
      obtain ⟨d1, s1⟩ := dat_of R rv e1
      obtain ⟨d2, s2⟩ := dat_of R rw e2
      exact ⟨d, e, d1, d2, s1, s2, a ρ H _ R.refl R rfl⟩
theorem oNe (hu : X.A.units + 64 < cLine) : OpP X (compareOp .NotEq) fNe := by
  refine ⟨_, op_neD hu, fun ρ S H v w x y Q R rv rw a => ?_⟩
  unfold fNe at a
  cases e1 : datOf S v with
  | none => rw [e1] at a; exact a.elim
  | some d =>
    cases e2 : datOf S w with
    | none => rw [e1, e2] at a; exact a.elim
    | some e =>
      rw [e1, e2] at a
      obtain ⟨d1, s1⟩ := dat_of R rv e1
      obtain ⟨d2, s2⟩ := dat_of R rw e2
      exact ⟨d, e, d1, d2, s1, s2, a ρ H _ R.refl R rfl⟩
/-! ### is None -/
def isNonV : Va → Bool
  | .non => true
  | _ => false
def mIsN (a : ME) : ME := fun Γ S => (a Γ S).bind fun v S1 => .ok (.bl (isNonV v)) S1
def mNotN (a : ME) : ME := fun Γ S => (a Γ S).bind fun v S1 => .ok (.bl (!isNonV v)) S1
theorem isn_of {K : KX} {ρ : List Addr} {H : Hp} {v : Va} {w : V} (r : Rv K ρ H v w) : decide (w = V.non) = isNonV v := by
  cases v with
  | non => cases r; rfl
  | tup xs => obtain ⟨_, _, rfl, _⟩ := r; rfl
  | rol xs => obtain ⟨_, _, rfl, _⟩ := r; rfl
  | ref n => obtain ⟨_, _, rfl⟩ := r; rfl
  | _ => cases r; rfl
end
end PM

namespace PM
open PySem PySem.Spec PyProof.Rows L2 Q2
section
variable {X : Cx} {W : XW}
/-! ### is None; not; and, or as values -/
theorem pm_isN {a b : Expr} {ma : ME} {pos : Pos} {j : Nat} {p : Pos} (h : PE X (.Compare a [.Is] [.Constant .none j p] pos) (tIsN (tM (kxOf X) W ma))) : PM X W (.Compare a [.Is] [.Constant .none j p] pos) (mIsN ma) := by
  refine pe_imp h fun σ H Q ⟨ρ, Γ, S, R, G, q⟩ => ?_
  refine ⟨ρ, Γ, S, R, G, q.bind fun v S1 ρ1 H1 x E1 R1 rx q1 => ?_⟩
  rw [isn_of rx]
  exact q1 ρ1 H1 _ R1.refl R1 rfl
theorem pm_notN {a b : Expr} {ma : ME} {pos : Pos} {j : Nat} {p : Pos} (h : PE X (.Compare a [.IsNot] [.Constant .none j p] pos) (tNotN (tM (kxOf X) W ma))) : PM X W (.Compare a [.IsNot] [.Constant .none j p] pos) (mNotN ma) := by
  refine pe_imp h fun σ H Q ⟨ρ, Γ, S, R, G, q⟩ => ?_
  refine ⟨ρ, Γ, S, R, G, q.bind fun v S1 ρ1 H1 x E1 R1 rx q1 => ?_⟩
  rw [isn_of rx]
  exact q1 ρ1 H1 _ R1.refl R1 rfl
theorem pmt_isN {a b : Expr} {ma : ME} {pos : Pos} {j : Nat} {p : Pos} (h : PT X (.Compare a [.Is] [.Constant .none j p] pos) (tB (tIsN (tM (kxOf X) W ma)))) : PMT X W (.Compare a [.Is] [.Constant .none j p] pos) (mtOf (mIsN ma)) := by
  refine pt_imp h fun σ H Q ⟨ρ, Γ, S, R, G, q⟩ => ?_
  have q : Aft (kxOf X) W σ (fun _ _ (b c : Bool) => c = b) Q ρ H ((ma Γ S).bind fun v S1 => .ok (isNonV v) S1) := by
    unfold mtOf mIsN at q
    cases e : ma Γ S with
    | bad => rw [e] at q; exact q
    | ok v S1 => rw [e] at q; exact q
    | ex a b c d => rw [e] at q; exact q
  refine ⟨ρ, Γ, S, R, G, q.bind fun v S1 ρ1 H1 x E1 R1 rx q1 => ?_⟩
  rw [isn_of rx]
  exact ⟨_, rfl, q1 ρ1 H1 _ R1.refl R1 rfl⟩
theorem pmt_notN {a b : Expr} {ma : ME} {pos : Pos} {j : Nat} {p : Pos} (h : PT X (.Compare a [.IsNot] [.Constant .none j p] pos) (tB (tNotN (tM (kxOf X) W ma)))) : PMT X W (.Compare a [.IsNot] [.Constant .none j p] pos) (mtOf (mNotN ma)) := by
  refine pt_imp h fun σ H Q ⟨ρ, Γ, S, R, G, q⟩ => ?_
  have q : Aft (kxOf X) W σ (fun _ _ (b c : Bool) => c = b) Q ρ H ((ma Γ S).bind fun v S1 => .ok (!isNonV v) S1) := by
    unfold mtOf mNotN at q
    cases e : ma Γ S with
    | bad => rw [e] at q; exact q
    | ok v S1 => rw [e] at q; exact q
    | ex a b c d => rw [e] at q; exact q
  refine ⟨ρ, Γ, S, R, G, q.bind fun v S1 ρ1 H1 x E1 R1 rx q1 => ?_⟩
  rw [isn_of rx]
  exact ⟨_, rfl, q1 ρ1 H1 _ R1.refl R1 rfl⟩
theorem pm_not {a : Expr} {ma : ME} {pos : Pos} (h : PM X W a ma) : PM X W (.UnaryOp .Not a pos) (mNot ma) := by
  refine pe_imp (pe_not h) fun σ H Q ⟨ρ, Γ, S, R, G, q⟩ => ?_
  refine ⟨ρ, Γ, S, R, G, q.bind fun v S1 ρ1 H1 x E1 R1 rx q1 => ?_⟩
  cases v with
  | bl b => cases rx; exact ⟨b, rfl, q1 ρ1 H1 _ R1.refl R1 rfl⟩
  | _ => exact q1.elim
theorem pm_one {op : BoolOp} {a : Expr} {ma : ME} {pos : Pos} (h : PM X W a ma) : PM X W (.BoolOp op [a] pos) ma := pe_one h
theorem pm_and {a b : Expr} {rest : List Expr} {ma mb : ME} {pos : Pos} (ha : PM X W a ma) (hb : PM X W (.BoolOp .And (b :: rest) pos) mb) : PM X W (.BoolOp .And (a :: b :: rest) pos) (meAnd ma mb) := by
  refine pe_imp (pe_and ha hb) fun σ H Q ⟨ρ, Γ, S, R, G, q⟩ => ?_
  refine ⟨ρ, Γ, S, R, G, q.bind fun v S1 ρ1 H1 x E1 R1 rx q1 => ?_⟩
  cases v with
  | bl c =>
    cases rx
    refine ⟨c, rfl, ?_⟩
    cases c with
    | true => exact iteT ⟨ρ1, Γ, S1, R1, G.ext E1, q1⟩
    | false => exact iteF (q1 ρ1 H1 _ R1.refl R1 rfl)
  | _ => exact q1.elim
theorem pm_or {a b : Expr} {rest : List Expr} {ma mb : ME} {pos : Pos} (ha : PM X W a ma) (hb : PM X W (.BoolOp .Or (b :: rest) pos) mb) : PM X W (.BoolOp .Or (a :: b :: rest) pos) (meOr ma mb) := by
  refine pe_imp (pe_or ha hb) fun σ H Q ⟨ρ, Γ, S, R, G, q⟩ => ?_
  refine ⟨ρ, Γ, S, R, G, q.bind fun v S1 ρ1 H1 x E1 R1 rx q1 => ?_⟩
  cases v with
  | bl c =>
    cases rx
    refine ⟨c, rfl, ?_⟩
    cases c with
    | true => exact iteT (q1 ρ1 H1 _ R1.refl R1 rfl)
    | false => exact iteF ⟨ρ1, Γ, S1, R1, G.ext E1, q1⟩
  | _ => exact q1.elim
def negI : F1 := fun v S => match v with
  | .int i => some (.int (-i), S)
  | _ => none
theorem pm_neg {a : Expr} {ma : ME} {pos : Pos} (h : PM X W a ma) : PM X W (.UnaryOp .USub a pos) (m1 negI ma) := by
  refine pe_imp (pe_un un_neg h) fun σ H Q ⟨ρ, Γ, S, R, G, q⟩ => ?_
  refine ⟨ρ, Γ, S, R, G, q.bind fun v S1 ρ1 H1 x E1 R1 rx q1 => ?_⟩
  cases v with
  | int i => cases rx; exact ⟨i, rfl, q1 ρ1 H1 _ R1.refl R1 rfl⟩
  | _ => exact q1.elim
/-! ### chains -/
def mChain (f g : F2) (a b c : ME) : ME := fun Γ S => (a Γ S).bind fun v S1 => (b Γ S1).bind fun w S2 => (lift (f v w S2)).bind fun z S3 => match z with
  | .bl k => if k = true then (c Γ S3).bind fun u S4 => lift (g w u S4) else .ok (.bl false) S3
  | _ => .bad
theorem ch_imp {K : KX} {r r' : R2} {f g : F2} {ma mb mc : ME} (hf : OpM K r f) (hg : OpM K r' g) (σ : L2.St) (H : Hp) (Q : VK) (h : tM K W (mChain f g ma mb mc) σ H Q) : tChain r r' (tM K W ma) (tM K W mb) (tM K W mc) σ H Q := by
  obtain ⟨ρ, Γ, S, R, G, q⟩ := h
  refine ⟨ρ, Γ, S, R, G, q.bind fun v S1 ρ1 H1 x E1 R1 rx q1 => ?_⟩
  refine ⟨ρ1, Γ, S1, R1, G.ext E1, q1.bind fun w S2 ρ2 H2 y E2 R2 ry q2 => ?_⟩
  refine hf ρ2 S2 H2 v w x y _ R2 (rx.ext E2) ry ?_
  cases e : f v w S2 with
  | none => rw [e] at q2; exact q2.elim
  | some p =>
    obtain ⟨z, S3⟩ := p
    rw [e] at q2
    intro ρ3 H3 z' E3 R3 rz
    cases z with
    | bl k =>
      cases rz
      refine ⟨k, rfl, ?_⟩
      have q2 : Aft K W σ (Rv K) Q ρ2 H2 (if k = true then (mc Γ S3).bind fun u S4 => lift (g w u S4) else .ok (.bl false) S3) := q2
      cases k with
      | false => exact iteF (q2 ρ3 H3 _ E3 R3 rfl)
      | true =>
        have q2 : Aft K W σ (Rv K) Q ρ2 H2 ((mc Γ S3).bind fun u S4 => lift (g w u S4)) := q2
        refine iteT ⟨ρ3, Γ, S3, R3, ((G.ext E1).ext E2).ext E3, (q2.shift E3).bind fun u S4 ρ4 H4 u' E4 R4 ru q4 => ?_⟩
        exact hg ρ4 S4 H4 w u y u' Q R4 ((ry.ext E3).ext E4) ru q4.ans
    | _ => exact q2.elim
section
variable {a b c : Expr} {ma mb mc : ME} {op op' : CmpOp} {f g : F2} {pos : Pos}
theorem pm_chain (ho : OpP X (compareOp op) f) (ho' : OpP X (compareOp op') g) (ha : PM X W a ma) (hb : PM X W b mb) (hc : PM X W c mc) (hm : lastMarks [op, op'] [b, c] = false := by with_unfolding_all rfl) : PM X W (.Compare a [op, op'] [b, c] pos) (mChain f g ma mb mc) := by
  obtain ⟨r, hr, hf⟩ := ho
  obtain ⟨r', hr', hg⟩ := ho'
  exact pe_imp (pe_chain hr hr' ha hb hc hm) (ch_imp hf hg)
theorem pmt_chain (ho : OpP X (compareOp op) f) (ho' : OpP X (compareOp op') g) (ha : PM X W a ma) (hb : PM X W b mb) (hc : PM X W c mc) (hm : lastMarks [op, op'] [b, c] = false := by with_unfolding_all rfl) : PMT X W (.Compare a [op, op'] [b, c] pos) (mtOf (mChain f g ma mb mc)) := by
  obtain ⟨r, hr, hf⟩ := ho
  obtain ⟨r', hr', hg⟩ := ho'
  refine pt_imp (pt_chain hr hr' ha hb hc hm) fun σ H Q h => ?_
  refine ch_imp (W := W) hf hg σ H _ ?_
  obtain ⟨ρ, Γ, S, R, G, q⟩ := h
  refine ⟨ρ, Γ, S, R, G, ?_⟩
  have q : Aft (kxOf X) W σ (fun _ _ (b c : Bool) => c = b) Q ρ H ((mChain f g ma mb mc Γ S).bind fun v S1 => match v with
    | .bl b => .ok b S1
    | _ => .bad) := q
  cases e : mChain f g ma mb mc Γ S with
  | bad => rw [e] at q; exact q
  | ex a b c d => rw [e] at q; exact q
  | ok v S1 =>
    rw [e] at q
    intro ρ1 H1 x E1 R1 rx
    cases v with
    | bl b => cases rx; exact ⟨b, rfl, q ρ1 H1 b E1 R1 rfl⟩
    | _ => exact q.elim
end
/-! ### in, not in -/
def datsOf (S : Sto) (v : Va) : Option (List PyData) := match datOf S v with
  | some (.list ds) => some ds
  | _ => none
def inD (neg : Bool) : F2 := fun v w S => match datOf S v, datsOf S w with
  | some d, some ds => some (.bl (if neg then !ds.any (fun z => PyData.eqv z d) else ds.any fun z => PyData.eqv z d), S)
  | _, _ => none
theorem dats_of {K : KX} {ρ : List Addr} {S : Sto} {H : Hp} {v : Va} {w : V} {ds : List PyData} (R : RS K ρ S H) (r : Rv K ρ H v w) (h : datsOf S v = some ds) : Dp K.K H w (.list ds) ∧ SeqAt.shaped (.list ds) = true := by
  unfold datsOf at h
  cases e : datOf S v with
  | none => rw [e] at h; cases h
  | some d =>
    rw [e] at h
    cases d with
    | list es => cases h; exact dat_of R r e
    | _ => cases h
theorem oIn (hu : X.A.units + 65 < cLine) : OpP X (compareOp .In) (inD false) := by
  refine ⟨_, op_inD hu, fun ρ S H v w x y Q R rv rw a => ?_⟩
  unfold inD at a
  cases e1 : datOf S v with
  | none => rw [e1] at a; exact a.elim
  | some d =>
    cases e2 : datsOf S w with
    | none => rw [e1, e2] at a; exact a.elim
    | some ds =>
      rw [e1, e2] at a
      obtain ⟨d1, s1⟩ := dat_of R rv e1
      obtain ⟨d2, s2⟩ := dats_of R rw e2
      exact ⟨d, ds, d1, d2, s1, s2, a ρ H _ R.refl R rfl⟩
theorem oNotIn (hu : X.A.units + 65 < cLine) : OpP X (compareOp .NotIn) (inD true) := by
  refine ⟨_, op_notInD hu, fun ρ S H v w x y Q R rv rw a => ?_⟩
  unfold inD at a
  cases e1 : datOf S v with
  | none => rw [e1] at a; exact a.elim
  | some d =>
    cases e2 : datsOf S w with
    | none => rw [e1, e2] at a; exact a.elim
    | some ds =>
      rw [e1, e2] at a
      obtain ⟨d1, s1⟩ := dat_of R rv e1
      obtain ⟨d2, s2⟩ := dats_of R rw e2
      exact ⟨d, ds, d1, d2, s1, s2, a ρ H _ R.refl R rfl⟩
/-! ### calls of built-ins -/
section
variable {x : Str} {id T : String} {e : Expr} {es : List Expr} {t : MA} {f : FL} {p pos : Pos}
theorem cb_imp {K : KX} {r : List V → Hp → VK → Prop} (hm : CallM K r f) (σ : L2.St) (H : Hp) (Q : VK) (h : tM K W (mL f t) σ H Q) : tCB r (tMA K W t) σ H Q := by
  obtain ⟨ρ, Γ, S, R, G, q⟩ := h
  exact ⟨ρ, Γ, S, R, G, q.bind fun vs S1 ρ1 H1 xs E1 R1 rx q1 => hm ρ1 S1 H1 vs xs Q R1 rx q1.ans⟩
theorem pm_callB (hc : CallP X (.builtin id) f) (hg : Gl X x) (hm : X.mg x = none) (hv : bootBuiltins x = some (.builtin id)) (ha : PMA X W (e :: es) t) (hn : x ≠ "__name__" := by decide) (hdb : (x == ("__debug__" : Str)) = false := by decide)
    (he : starEach (e :: es) X.env = (false, eval e X.env) :: starEach es X.env := by rfl) (hpl : (backTo pos (starEach es X.env)).any (·.1) = false := by rfl) : PM X W (.Call (.Name x p) (e :: es) [] pos) (mL f t) := by
  obtain ⟨r, hr, hf⟩ := hc
  exact pe_imp (pe_callB hr hg hm hv ha hn hdb he hpl) (cb_imp hf)
theorem pm_callTy (hc : CallP X (.type T) f) (hg : Gl X x) (hm : X.mg x = none) (hv : bootBuiltins x = some (.type T)) (ha : PMA X W (e :: es) t) (hn : x ≠ "__name__" := by decide) (hdb : (x == ("__debug__" : Str)) = false := by decide)
    (he : starEach (e :: es) X.env = (false, eval e X.env) :: starEach es X.env := by rfl) (hpl : (backTo pos (starEach es X.env)).any (·.1) = false := by rfl) : PM X W (.Call (.Name x p) (e :: es) [] pos) (mL f t) := by
  obtain ⟨r, hr, hf⟩ := hc
  exact pe_imp (pe_callTy hr hg hm hv ha hn hdb he hpl) (cb_imp hf)
end
end
/-! ### the built-ins, by values -/
section
variable {K : KX} {ρ : List Addr} {S : Sto} {H : Hp}
theorem one_of {vs : List Va} {xs : List V} {v : Va} (h : Rvs K ρ H vs xs) (e : vs = [v]) : ∃ x, xs = [x] ∧ Rv K ρ H v x := by
  subst e
  obtain ⟨x, r, rfl, h1, rfl⟩ := h
  exact ⟨x, rfl, h1⟩
theorem two_of {vs : List Va} {xs : List V} {v w : Va} (h : Rvs K ρ H vs xs) (e : vs = [v, w]) : ∃ x y, xs = [x, y] ∧ Rv K ρ H v x ∧ Rv K ρ H w y := by
  subst e
  obtain ⟨x, r, rfl, h1, y, r2, rfl, h2, rfl⟩ := h
  exact ⟨x, y, rfl, h1, h2⟩
/-- the ints that values are -/
def intsOf : List Va → Option (List Int)
  | [] => some []
  | .int i :: r => (intsOf r).map (i :: ·)
  | _ :: _ => none
theorem ints_of : ∀ {vs : List Va} {xs : List V} {ns : List Int}, Rvs K ρ H vs xs → intsOf vs = some ns → xs = ns.map V.int
  | [], _, ns, h, e => by
    cases h
    cases e
    rfl
  | v :: vs, _, ns, h, e => by
    obtain ⟨x, r, rfl, h1, h2⟩ := h
    cases v with
    | int i =>
      cases h1
      have e : (intsOf vs).map (i :: ·) = some ns := e
      cases q : intsOf vs with
      | none => rw [q] at e; cases e
      | some ms =>
        rw [q] at e
        cases e
        rw [ints_of h2 q]
        rfl
    | _ => cases e
def boolsOf : List Va → Option (List Bool)
  | [] => some []
  | .bl i :: r => (boolsOf r).map (i :: ·)
  | _ :: _ => none
theorem bools_of : ∀ {vs : List Va} {xs : List V} {ns : List Bool}, Rvs K ρ H vs xs → boolsOf vs = some ns → xs = ns.map V.bl
  | [], _, ns, h, e => by
    cases h
    cases e
    rfl
  | v :: vs, _, ns, h, e => by
    obtain ⟨x, r, rfl, h1, h2⟩ := h
    cases v with
    | bl i =>
      cases h1
      have e : (boolsOf vs).map (i :: ·) = some ns := e
      cases q : boolsOf vs with
      | none => rw [q] at e; cases e
      | some ms =>
        rw [q] at e
        cases e
        rw [bools_of h2 q]
        rfl
    | _ => cases e
end
def fL1 (f : Va → Sto → Option (Va × Sto)) : FL := fun vs S => match vs with
  | [v] => f v S
  | _ => none
def fL2 (f : Va → Va → Sto → Option (Va × Sto)) : FL := fun vs S => match vs with
  | [v, w] => f v w S
  | _ => none
theorem callM1 {K : KX} {r : List V → Hp → VK → Prop} {f : Va → Sto → Option (Va × Sto)} (h : ∀ ρ S H v x Q, RS K ρ S H → Rv K ρ H v x → Ans K Q ρ H (f v S) → r [x] H Q) : CallM K r (fL1 f) := fun ρ S H vs xs Q R rv a => by
  match vs, rv, a with
  | [v], rv, a =>
    obtain ⟨x, rfl, r1⟩ := one_of rv rfl
    exact h ρ S H v x Q R r1 a
  | [], _, a => exact a.elim
  | _ :: _ :: _, _, a => exact a.elim
theorem callM2 {K : KX} {r : List V → Hp → VK → Prop} {f : Va → Va → Sto → Option (Va × Sto)} (h : ∀ ρ S H v w x y Q, RS K ρ S H → Rv K ρ H v x → Rv K ρ H w y → Ans K Q ρ H (f v w S) → r [x, y] H Q) : CallM K r (fL2 f) := fun ρ S H vs xs Q R rv a => by
  match vs, rv, a with
  | [v, w], rv, a =>
    obtain ⟨x, y, rfl, r1, r2⟩ := two_of rv rfl
    exact h ρ S H v w x y Q R r1 r2 a
  | [], _, a => exact a.elim
  | [_], _, a => exact a.elim
  | _ :: _ :: _ :: _, _, a => exact a.elim
def orFL (f g : FL) : FL := fun vs S => match f vs S with
  | some p => some p
  | none => g vs S
theorem CallP.or {X : Cx} {v : Value} {f g : FL} (h : CallP X v f) (h' : CallP X v g) : CallP X v (orFL f g) := by
  obtain ⟨r, h1, h2⟩ := h
  obtain ⟨r', h1', h2'⟩ := h'
  refine ⟨fun xs H Q => r xs H Q ∨ r' xs H Q, fun pins s σ H xs us Q I rx q => ?_, fun ρ S H vs xs Q R rv a => ?_⟩
  · rcases q with q | q
    · exact h1 pins s σ H xs us Q I rx q
    · exact h1' pins s σ H xs us Q I rx q
  · unfold orFL at a
    cases e : f vs S with
    | some p =>
      rw [e] at a
      exact .inl (h2 ρ S H vs xs Q R rv (by rw [e]; exact a))
    | none =>
      rw [e] at a
      exact .inr (h2' ρ S H vs xs Q R rv a)
def lenQ : FL := fL1 fun v S => match seqOf S v with
  | some xs => some (.int xs.length, S)
  | none => none
def lenS : FL := fL1 fun v S => match v with
  | .str z => if z.length ≤ sizeLine then some (.int z.length, S) else none
  | _ => none
def fInt : FL := fL1 fun v S => match v with
  | .int i => some (.int i, S)
  | .bl k => some (.int (if k then 1 else 0), S)
  | _ => none
def fAbs : FL := fL1 fun v S => match v with
  | .int i => some (.int (if i < 0 then -i else i), S)
  | _ => none
def fMax2 : FL := fL2 fun v w S => match v, w with
  | .int i, .int j => some (.int (if j > i then j else i), S)
  | _, _ => none
def fMin2 : FL := fL2 fun v w S => match v, w with
  | .int i, .int j => some (.int (if j < i then j else i), S)
  | _, _ => none
def fSum : FL := fL1 fun v S => match (lstOf S v).bind intsOf with
  | some ns => some (.int ns.sum, S)
  | none => none
def maxL : List Int → Int
  | [] => 0
  | [n] => n
  | n :: m :: r => if maxL (m :: r) > n then maxL (m :: r) else n
def minL : List Int → Int
  | [] => 0
  | [n] => n
  | n :: m :: r => if minL (m :: r) < n then minL (m :: r) else n
theorem maxL_ge : ∀ {ns : List Int} {m : Int}, m ∈ ns → m ≤ maxL ns
  | [n], m, h => by rw [List.mem_singleton.mp h]; exact Int.le_refl _
  | n :: k :: r, m, h => by
    have ih : ∀ m ∈ k :: r, m ≤ maxL (k :: r) := fun m h => maxL_ge h
    unfold maxL
    rcases List.mem_cons.mp h with h | h
    · subst h; split <;> omega
    · have := ih m h; split <;> omega
theorem maxL_mem : ∀ {ns : List Int}, ns ≠ [] → maxL ns ∈ ns
  | [n], _ => by simp [maxL]
  | n :: k :: r, _ => by
    have ih : maxL (k :: r) ∈ k :: r := maxL_mem (by simp)
    unfold maxL
    split
    · exact List.mem_cons_of_mem _ ih
    · exact List.mem_cons_self ..
theorem minL_le : ∀ {ns : List Int} {m : Int}, m ∈ ns → minL ns ≤ m
  | [n], m, h => by rw [List.mem_singleton.mp h]; exact Int.le_refl _
  | n :: k :: r, m, h => by
    have ih : ∀ m ∈ k :: r, minL (k :: r) ≤ m := fun m h => minL_le h
    unfold minL
    rcases List.mem_cons.mp h with h | h
    · subst h; split <;> omega
    · have := ih m h; split <;> omega
theorem minL_mem : ∀ {ns : List Int}, ns ≠ [] → minL ns ∈ ns
  | [n], _ => by simp [minL]
  | n :: k :: r, _ => by
    have ih : minL (k :: r) ∈ k :: r := minL_mem (by simp)
    unfold minL
    split
    · exact List.mem_cons_of_mem _ ih
    · exact List.mem_cons_self ..
def fMaxL : FL := fL1 fun v S => match (lstOf S v).bind intsOf with
  | some (n :: ns) => some (.int (maxL (n :: ns)), S)
  | _ => none
def fMinL : FL := fL1 fun v S => match (lstOf S v).bind intsOf with
  | some (n :: ns) => some (.int (minL (n :: ns)), S)
  | _ => none
def fAll : FL := fL1 fun v S => match (lstOf S v).bind boolsOf with
  | some ns => some (.bl (ns.all id), S)
  | none => none
def fAny : FL := fL1 fun v S => match (lstOf S v).bind boolsOf with
  | some ns => some (.bl (ns.any id), S)
  | none => none
def fList : FL := fL1 fun v S => match seqOf S v with
  | some xs => mkL S xs
  | none => none
def tupL : FL := fL1 fun v S => match v with
  | .tup xs => some (.tup xs, S)
  | v => match lstOf S v with
    | some xs => some (.tup xs, S)
    | none => none
def kindV (S : Sto) : Va → Option String
  | .non => some "NoneType"
  | .bl _ => some "bool"
  | .int _ => some "int"
  | .str _ => some "str"
  | .ref n => match S[n]? with
    | some (.lst _) => some "list"
    | _ => none
  | .rol _ => some "list"
  | .tup _ => some "tuple"
  | _ => none
def fIsi : FL := fL2 fun v w S => match kindV S v, w with
  | some k, .ty T => match kitB k T with
    | some b => some (.bl b, S)
    | none => none
  | _, _ => none
section
variable {X : Cx}
theorem cLenQ : CallP X (.builtin "len") lenQ := by
  refine ⟨_, call_len_seq, callM1 fun ρ S H v x Q R r a => ?_⟩
  cases e : seqOf S v with
  | none => simp only [e] at a; exact a.elim
  | some xs =>
    simp only [e] at a
    obtain ⟨p, ws, rfl, h1, h2⟩ := seq_of R r e
    exact ⟨p, ws, rfl, h1, by rw [← h2.len]; exact a ρ H _ R.refl R rfl⟩
theorem cLenS : CallP X (.builtin "len") lenS := by
  refine ⟨_, call_len_str, callM1 fun ρ S H v x Q R r a => ?_⟩
  cases v with
  | str z =>
    cases r
    obtain ⟨hl, a⟩ := ans_if (p := z.length ≤ sizeLine) (o := some (.int z.length, S)) a
    exact ⟨z, rfl, hl, a ρ H _ R.refl R rfl⟩
  | _ => exact a.elim
def fLen : FL := orFL lenQ lenS
theorem cLen : CallP X (.builtin "len") fLen := cLenQ.or cLenS
theorem cInt : CallP X (.type "int") fInt := by
  refine ⟨_, call_int1, callM1 fun ρ S H v x Q R r a => ?_⟩
  cases v with
  | int i => cases r; exact .inl ⟨i, rfl, a ρ H _ R.refl R rfl⟩
  | bl i => cases r; exact .inr ⟨i, rfl, a ρ H _ R.refl R rfl⟩
  | _ => exact a.elim
theorem cAbs : CallP X (.builtin "abs") fAbs := by
  refine ⟨_, call_abs, callM1 fun ρ S H v x Q R r a => ?_⟩
  cases v with
  | int i => cases r; exact ⟨i, rfl, a ρ H _ R.refl R rfl⟩
  | _ => exact a.elim
theorem cMax2 (hc : X.calm = true) : CallP X (.builtin "max") fMax2 := by
  refine ⟨_, call_max2 hc, callM2 fun ρ S H v w x y Q R r r' a => ?_⟩
  cases v with
  | int i =>
    cases w with
    | int j => cases r; cases r'; exact ⟨i, j, rfl, a ρ H _ R.refl R rfl⟩
    | _ => exact a.elim
  | _ => exact a.elim
theorem cMin2 (hc : X.calm = true) : CallP X (.builtin "min") fMin2 := by
  refine ⟨_, call_min2 hc, callM2 fun ρ S H v w x y Q R r r' a => ?_⟩
  cases v with
  | int i =>
    cases w with
    | int j => cases r; cases r'; exact ⟨i, j, rfl, a ρ H _ R.refl R rfl⟩
    | _ => exact a.elim
  | _ => exact a.elim
theorem lints_of {K : KX} {ρ : List Addr} {S : Sto} {H : Hp} {v : Va} {x : V} {ns : List Int} (R : RS K ρ S H) (r : Rv K ρ H v x) (e : (lstOf S v).bind intsOf = some ns) : ∃ a, x = .ref a ∧ SqL K.K H a (ns.map V.int) := by
  cases q : lstOf S v with
  | none => rw [q] at e; cases e
  | some xs =>
    rw [q] at e
    obtain ⟨a, ws, rfl, h1, h2⟩ := lst_of R r q
    exact ⟨a, rfl, by rw [← ints_of h2 e]; exact h1⟩
theorem lbools_of {K : KX} {ρ : List Addr} {S : Sto} {H : Hp} {v : Va} {x : V} {ns : List Bool} (R : RS K ρ S H) (r : Rv K ρ H v x) (e : (lstOf S v).bind boolsOf = some ns) : ∃ a, x = .ref a ∧ SqL K.K H a (ns.map V.bl) := by
  cases q : lstOf S v with
  | none => rw [q] at e; cases e
  | some xs =>
    rw [q] at e
    obtain ⟨a, ws, rfl, h1, h2⟩ := lst_of R r q
    exact ⟨a, rfl, by rw [← bools_of h2 e]; exact h1⟩
theorem cSum (hc : X.calm = true) : CallP X (.builtin "sum") fSum := by
  refine ⟨_, cr_sum hc, callM1 fun ρ S H v x Q R r a => ?_⟩
  cases e : (lstOf S v).bind intsOf with
  | none => simp only [e] at a; exact a.elim
  | some ns =>
    simp only [e] at a
    obtain ⟨p, rfl, h⟩ := lints_of R r e
    exact ⟨p, ns, rfl, h, a ρ H _ R.refl R rfl⟩
theorem cMaxL (hc : X.calm = true) : CallP X (.builtin "max") fMaxL := by
  refine ⟨_, cr_max hc, callM1 fun ρ S H v x Q R r a => ?_⟩
  cases e : (lstOf S v).bind intsOf with
  | none => simp only [e] at a; exact a.elim
  | some ns =>
    cases ns with
    | nil => simp only [e] at a; exact a.elim
    | cons n ns =>
      simp only [e] at a
      obtain ⟨p, rfl, h⟩ := lints_of R r e
      refine ⟨p, n :: ns, rfl, h, by simp, fun m h1 h2 => ?_⟩
      have e1 := maxL_ge h1
      have e2 := h2 _ (maxL_mem (ns := n :: ns) (by simp))
      have e3 : m = maxL (n :: ns) := by omega
      rw [e3]
      exact a ρ H _ R.refl R rfl
theorem cMinL (hc : X.calm = true) : CallP X (.builtin "min") fMinL := by
  refine ⟨_, cr_min hc, callM1 fun ρ S H v x Q R r a => ?_⟩
  cases e : (lstOf S v).bind intsOf with
  | none => simp only [e] at a; exact a.elim
  | some ns =>
    cases ns with
    | nil => simp only [e] at a; exact a.elim
    | cons n ns =>
      simp only [e] at a
      obtain ⟨p, rfl, h⟩ := lints_of R r e
      refine ⟨p, n :: ns, rfl, h, by simp, fun m h1 h2 => ?_⟩
      have e1 := minL_le h1
      have e2 := h2 _ (minL_mem (ns := n :: ns) (by simp))
      have e3 : m = minL (n :: ns) := by omega
      rw [e3]
      exact a ρ H _ R.refl R rfl
def fMax : FL := orFL fMax2 fMaxL
def fMin : FL := orFL fMin2 fMinL
theorem cMax (hc : X.calm = true) : CallP X (.builtin "max") fMax := (cMax2 hc).or (cMaxL hc)
theorem cMin (hc : X.calm = true) : CallP X (.builtin "min") fMin := (cMin2 hc).or (cMinL hc)
theorem cAll (hc : X.calm = true) : CallP X (.builtin "all") fAll := by
  refine ⟨_, cr_all hc, callM1 fun ρ S H v x Q R r a => ?_⟩
  cases e : (lstOf S v).bind boolsOf with
  | none => simp only [e] at a; exact a.elim
  | some ns =>
    simp only [e] at a
    obtain ⟨p, rfl, h⟩ := lbools_of R r e
    exact ⟨p, ns, rfl, h, a ρ H _ R.refl R rfl⟩
theorem cAny (hc : X.calm = true) : CallP X (.builtin "any") fAny := by
  refine ⟨_, cr_any hc, callM1 fun ρ S H v x Q R r a => ?_⟩
  cases e : (lstOf S v).bind boolsOf with
  | none => simp only [e] at a; exact a.elim
  | some ns =>
    simp only [e] at a
    obtain ⟨p, rfl, h⟩ := lbools_of R r e
    exact ⟨p, ns, rfl, h, a ρ H _ R.refl R rfl⟩
theorem cList : CallP X (.type "list") fList := by
  refine ⟨_, call_list_of, callM1 fun ρ S H v x Q R r a => ?_⟩
  cases e : seqOf S v with
  | none => simp only [e] at a; exact a.elim
  | some xs =>
    simp only [e] at a
    obtain ⟨p, ws, rfl, h1, h2⟩ := seq_of R r e
    exact ⟨p, ws, rfl, h1, (mkL_ans R a h2).2⟩
theorem cTup : CallP X (.type "tuple") tupL := by
  refine ⟨_, call_tuple_of, callM1 fun ρ S H v x Q R r a => ?_⟩
  have lst : ∀ xs, lstOf S v = some xs → Ans (kxOf X) Q ρ H (some (.tup xs, S)) → ∃ p ys, [x] = [V.ref p] ∧ ((SqL X.K H p ys ∧ ∀ l, H l = none → Q (.ref l) (upd H l (.tup ys))) ∨ (SqT X.K H p ys ∧ Q (.ref p) H)) := fun xs e a => by
    obtain ⟨p, ws, rfl, h1, h2⟩ := lst_of R r e
    refine ⟨p, ws, rfl, .inl ⟨h1, fun l hl => ?_⟩⟩
    obtain ⟨E, R2⟩ := R.own (o := .tup ws) hl
    exact a ρ _ _ E R2 ⟨l, ws, rfl, SqT.of upd_same, h2.ext E⟩
  cases v with
  | tup xs =>
    obtain ⟨p, ws, rfl, h1, h2⟩ := r
    exact ⟨p, ws, rfl, .inr ⟨h1, a ρ H _ R.refl R ⟨p, ws, rfl, h1, h2⟩⟩⟩
  | ref n =>
    have a : Ans (kxOf X) Q ρ H (match lstOf S (.ref n) with
      | some xs => some (.tup xs, S)
      | none => none) := a
    cases e : lstOf S (.ref n) with
    | none => rw [e] at a; exact a.elim
    | some xs => rw [e] at a; exact lst xs e a
  | rol xs => exact lst xs rfl a
  | _ => exact a.elim
theorem tyx_of {K : KX} {ρ : List Addr} {S : Sto} {H : Hp} {v : Va} {x : V} {k : String} (R : RS K ρ S H) (r : Rv K ρ H v x) (e : kindV S v = some k) : TyX K.K H x (.type k) := by
  cases v with
  | non => cases r; cases e; exact .base .non
  | bl b => cases r; cases e; exact .base (.bl b)
  | int i => cases r; cases e; exact .base (.int i)
  | str z => cases r; cases e; exact .base (.str z)
  | adr a => cases e
  | ty a => cases e
  | tup xs =>
    cases e
    obtain ⟨p, ws, rfl, h1, _⟩ := r
    rcases h1 with (h | ⟨o, h⟩) | ⟨o, its, n, h1, h2, _⟩
    · exact .base (.tup h)
    · exact .fTuple h
    · exact .kTuple h1 h2
  | rol xs =>
    cases e
    obtain ⟨p, ws, rfl, h1, _⟩ := r
    rcases h1 with ⟨o, h⟩ | ⟨o, its, n, h1, h2, _⟩
    · exact .base (.frz h)
    · exact .kList h1 h2
  | ref n =>
    obtain ⟨p, h1, rfl⟩ := r
    have e : (match S[n]? with
      | some (.lst _) => some "list"
      | _ => none) = some k := e
    cases q : S[n]? with
    | none => rw [q] at e; cases e
    | some o =>
      rw [q] at e
      cases o with
      | setT ks => cases e
      | raw o => cases e
      | lst xs =>
        cases e
        obtain ⟨_, ws, h2, _⟩ := R.at_ n p _ h1 q
        exact .base (.lst h2)
theorem cIsi : CallP X (.builtin "isinstance") fIsi := by
  refine ⟨_, call_isi, callM2 fun ρ S H v w x y Q R r r' a => ?_⟩
  cases e : kindV S v with
  | none => simp only [e] at a; exact a.elim
  | some k =>
    simp only [e] at a
    cases w with
    | ty T =>
      cases r'
      simp only at a
      cases e2 : kitB k T with
      | none => rw [e2] at a; exact a.elim
      | some b =>
        rw [e2] at a
        exact ⟨x, .ty T, .type k, .type T, b, rfl, .ty T, tyx_of R r e, kit_ty e2, a ρ H _ R.refl R rfl⟩
    | _ => exact a.elim
end
end PM

namespace PM
open PySem PySem.Spec PyProof.Rows L2 Q2
/-! ### what is walked -/
def iAny (K : PySem.W.Frag) (tl : TE) : TI := fun σ H R => tl σ H fun x H1 => ∃ a, x = .ref a ∧ (((∃ xs, SqL K H1 a xs) ∧ R (Itl K a) H1) ∨ ((∃ xs, SqT K H1 a xs) ∧ R (Itt K a) H1))
theorem pi_any {X : Cx} {tg l : Expr} {tl : TE} (hl : PE X l tl) : PI X tg l (iAny X.K tl) := by
  refine ⟨fun pins s σ H R I h => ?_⟩
  refine thn (hl.run pins s σ H _ I h) fun v s1 ⟨x, H1, I1, r1, q1⟩ => ?_
  obtain ⟨a, rfl, q⟩ := q1
  cases r1
  rcases q with ⟨⟨xs, hq⟩, q⟩ | ⟨⟨xs, hq⟩, q⟩
  · obtain ⟨its, rv, p, hz⟩ := I1.list hq
    refine wpAny_pyIter_list p.isList ?_
    refine ⟨s1.heap.objs.size, [s1.heap.objs.size], _, _, H1, rfl, I1.kept (t' := s1.toks) fun b o e => Heap.get?_push_of_some _ e, turn_list a _, ⟨_, Heap.get?_push_size _ rfl, rfl, rfl⟩, fun b hb => ?_, q⟩
    have e : b = s1.heap.objs.size := by simpa using hb
    subst e
    exact I1.fpOk (Nat.le_refl _) (I1.hok.fresh (Nat.le_refl _))
  · obtain ⟨its, rv, p, hz⟩ := I1.tuple hq
    refine wpAny_pyIter_tuple (show s1.heap.IsTuple a its.toArray from p) ?_
    refine ⟨s1.heap.objs.size, [s1.heap.objs.size], _, _, H1, rfl, I1.kept (t' := s1.toks) fun b o e => Heap.get?_push_of_some _ e, turn_tuple a _, ⟨_, Heap.get?_push_size _ rfl, rfl, rfl⟩, fun b hb => ?_, q⟩
    have e : b = s1.heap.objs.size := by simpa using hb
    subst e
    exact I1.fpOk (Nat.le_refl _) (I1.hok.fresh (Nat.le_refl _))
section
variable {K : KX} {ρ : List Addr} {S : Sto} {H : Hp}
theorem get_none {xs : List Va} {ws : List V} (h : Rvs K ρ H xs ws) {i : Nat} (e : xs[i]? = none) : ws.length ≤ i := by
  rw [← h.len]
  exact List.getElem?_eq_none_iff.mp e
theorem it_list {n : Nat} {a : Addr} (ha : ρ[n]? = some a) : ItOk K ρ H (.ref n) (Itl K.K a) := fun ρ' S' H' E R i => by
  have ha' := E.get ha
  cases e : S'[n]? with
  | none => simp only [ItV.get, e]
  | some o =>
    cases o with
    | raw o => simp only [ItV.get, e]
    | setT o => simp only [ItV.get, e]
    | lst xs =>
      obtain ⟨_, ws, h1, h2⟩ := R.at_ n a _ ha' e
      cases ex : xs[i]? with
      | none => simp only [ItV.get, e, ex]; exact ⟨ws, SqL.of h1, get_none h2 ex⟩
      | some x =>
        obtain ⟨w, h3, h4⟩ := h2.get ex
        simp only [ItV.get, e, ex]
        refine ⟨⟨ws, w, SqL.of h1, h3⟩, fun y H'' hy => ?_⟩
        obtain ⟨rfl, hy⟩ := hy
        cases h3.symm.trans (hy ws (SqL.of h1))
        exact ⟨R.refl, R, h4⟩
theorem it_tup {xs : List Va} {a : Addr} {ws : List V} (ha : SqT K.K H a ws) (hx : Rvs K ρ H xs ws) : ItOk K ρ H (.itm xs) (Itt K.K a) := fun ρ' S' H' E R i => by
  have ha' := E.sqt ha
  have hx' := hx.ext E
  cases ex : xs[i]? with
  | none => simp only [ItV.get, ex]; exact ⟨ws, ha', get_none hx' ex⟩
  | some x =>
    obtain ⟨w, h3, h4⟩ := hx'.get ex
    simp only [ItV.get, ex]
    refine ⟨⟨ws, w, ha', h3⟩, fun y H'' hy => ?_⟩
    obtain ⟨rfl, hy⟩ := hy
    cases h3.symm.trans (hy ws ha')
    exact ⟨R.refl, R, h4⟩
theorem it_rol {xs : List Va} {a : Addr} {ws : List V} (ha : FzL K.K H a ws) (hx : Rvs K ρ H xs ws) : ItOk K ρ H (.itm xs) (Itl K.K a) := fun ρ' S' H' E R i => by
  have ha' := (E.fzl ha).sq
  have hx' := hx.ext E
  cases ex : xs[i]? with
  | none => simp only [ItV.get, ex]; exact ⟨ws, ha', get_none hx' ex⟩
  | some x =>
    obtain ⟨w, h3, h4⟩ := hx'.get ex
    simp only [ItV.get, ex]
    refine ⟨⟨ws, w, ha', h3⟩, fun y H'' hy => ?_⟩
    obtain ⟨rfl, hy⟩ := hy
    cases h3.symm.trans (hy ws ha')
    exact ⟨R.refl, R, h4⟩
theorem it_rng {lo c : Int} {n : Nat} : ItOk K ρ H (.rng lo c n) (Itc lo c n) := fun ρ' S' H' E R i => by
  by_cases h : i < n
  · simp only [ItV.get, if_pos h]
    refine ⟨h, fun y H'' hy => ?_⟩
    obtain ⟨rfl, rfl⟩ := hy
    exact ⟨R.refl, R, rfl⟩
  · simp only [ItV.get, if_neg h]
    exact Nat.le_of_not_lt h
theorem it_rng1 {lo : Int} {n : Nat} : ItOk K ρ H (.rng lo 1 n) (Itr lo n) := fun ρ' S' H' E R i => by
  by_cases h : i < n
  · simp only [ItV.get, if_pos h]
    refine ⟨h, fun y H'' hy => ?_⟩
    obtain ⟨rfl, rfl⟩ := hy
    exact ⟨R.refl, R, by show V.int (lo + (i : Int)) = V.int (lo + (i : Nat) * 1); rw [Int.mul_one]⟩
  · simp only [ItV.get, if_neg h]
    exact Nat.le_of_not_lt h
/-- a new pair -/
theorem pair_new {i : Nat} {x : Va} {w : V} (R : RS K ρ S H) (hx : Rv K ρ H x w) {T : Addr} (hT : H T = none) : Ext ρ ρ H (upd H T (.tup [.int (i : Nat), w])) ∧ RS K ρ S (upd H T (.tup [.int (i : Nat), w])) ∧ Rv K ρ (upd H T (.tup [.int (i : Nat), w])) (pairE i x) (.ref T) := by
  obtain ⟨E, R2⟩ := R.own (o := .tup [.int (i : Nat), w]) hT
  exact ⟨E, R2, T, _, rfl, SqT.of upd_same, Rvs.cons (x := .int (i : Nat)) rfl (Rvs.cons (hx.ext E) Rvs.nil)⟩
theorem it_enm {n : Nat} {a : Addr} (ha : ρ[n]? = some a) : ItOk K ρ H (.enm n) (Ite K.K a) := fun ρ' S' H' E R i => by
  have ha' := E.get ha
  cases e : S'[n]? with
  | none => simp only [ItV.get, e]
  | some o =>
    cases o with
    | raw o => simp only [ItV.get, e]
    | setT o => simp only [ItV.get, e]
    | lst xs =>
      obtain ⟨_, ws, h1, h2⟩ := R.at_ n a _ ha' e
      cases ex : xs[i]? with
      | none => simp only [ItV.get, e, ex, Option.map_none]; exact ⟨ws, SqL.of h1, get_none h2 ex⟩
      | some x =>
        obtain ⟨w, h3, h4⟩ := h2.get ex
        simp only [ItV.get, e, ex, Option.map_some]
        refine ⟨⟨ws, w, SqL.of h1, h3⟩, fun y H'' hy => ?_⟩
        obtain ⟨T, z, rfl, hT, rfl, hy⟩ := hy
        cases h3.symm.trans (hy ws (SqL.of h1))
        exact pair_new R h4 hT
theorem it_enmI {xs : List Va} {a : Addr} {ws : List V} (ha : SqT K.K H a ws) (hx : Rvs K ρ H xs ws) : ItOk K ρ H (.enmI xs) (ItET K.K a) := fun ρ' S' H' E R i => by
  have ha' := E.sqt ha
  have hx' := hx.ext E
  cases ex : xs[i]? with
  | none => simp only [ItV.get, ex, Option.map_none]; exact ⟨ws, ha', get_none hx' ex⟩
  | some x =>
    obtain ⟨w, h3, h4⟩ := hx'.get ex
    simp only [ItV.get, ex, Option.map_some]
    refine ⟨⟨ws, w, ha', h3⟩, fun y H'' hy => ?_⟩
    obtain ⟨T, z, rfl, hT, rfl, hy⟩ := hy
    cases h3.symm.trans (hy ws ha')
    exact pair_new R h4 hT
theorem it_enmR {xs : List Va} {a : Addr} {ws : List V} (ha : FzL K.K H a ws) (hx : Rvs K ρ H xs ws) : ItOk K ρ H (.enmI xs) (Ite K.K a) := fun ρ' S' H' E R i => by
  have ha' := (E.fzl ha).sq
  have hx' := hx.ext E
  cases ex : xs[i]? with
  | none => simp only [ItV.get, ex, Option.map_none]; exact ⟨ws, ha', get_none hx' ex⟩
  | some x =>
    obtain ⟨w, h3, h4⟩ := hx'.get ex
    simp only [ItV.get, ex, Option.map_some]
    refine ⟨⟨ws, w, ha', h3⟩, fun y H'' hy => ?_⟩
    obtain ⟨T, z, rfl, hT, rfl, hy⟩ := hy
    cases h3.symm.trans (hy ws ha')
    exact pair_new R h4 hT
end
/-- a list or a tuple is walked -/
def mWalk (m : ME) : MI := fun Γ S => (m Γ S).bind fun v S1 => match v with
  | .ref n => match S1[n]? with
    | some (.lst _) => .ok (.ref n) S1
    | _ => .bad
  | .tup xs => .ok (.itm xs) S1
  | .rol xs => .ok (.itm xs) S1
  | _ => .bad
def mEnum (t : MA) : MI := fun Γ S => (t Γ S).bind fun vs S1 => match vs with
  | [.ref n] => match S1[n]? with
    | some (.lst _) => .ok (.enm n) S1
    | _ => .bad
  | [.tup xs] => .ok (.enmI xs) S1
  | [.rol xs] => .ok (.enmI xs) S1
  | _ => .bad
@[irreducible] def rngOk (i j : Int) : Bool := decide (-(2 ^ 62) ≤ i ∧ i < 2 ^ 62 ∧ -(2 ^ 62) ≤ j ∧ j < 2 ^ 62)
def mRng1 (t : MA) : MI := fun Γ S => (t Γ S).bind fun vs S1 => match vs with
  | [.int j] => if rngOk 0 j = true then .ok (.rng 0 1 j.toNat) S1 else .bad
  | _ => .bad
def mRng2 (t : MA) : MI := fun Γ S => (t Γ S).bind fun vs S1 => match vs with
  | [.int i, .int j] => if rngOk i j = true then .ok (.rng i 1 (j - i).toNat) S1 else .bad
  | _ => .bad
def mRev1 (m : ME) : MI := fun Γ S => (m Γ S).bind fun v S1 => match v with
  | .int j => if rngOk 0 j = true then .ok (.rng (j.toNat - 1 : Int) (-1) j.toNat) S1 else .bad
  | _ => .bad
section
variable {X : Cx} {W : XW} {tg e : Expr} {m : ME} {t : MA} {p pos : Pos}
theorem pmi_any (h : PM X W e m) : PMI X W tg e (mWalk m) := by
  refine pi_imp (pi_any h) fun σ H R' ⟨ρ, Γ, S, R, G, q⟩ => ?_
  refine ⟨ρ, Γ, S, R, G, q.bind fun v S1 ρ1 H1 x E1 R1 rx q1 => ?_⟩
  cases v with
  | ref n =>
    obtain ⟨a, ha, rfl⟩ := rx
    refine ⟨a, rfl, ?_⟩
    cases e : S1[n]? with
    | none => simp only [e] at q1; exact q1.elim
    | some o =>
      cases o with
      | lst xs =>
        simp only [e] at q1
        obtain ⟨_, ws, h1, _⟩ := R1.at_ n a _ ha e
        exact .inl ⟨⟨ws, SqL.of h1⟩, q1 ρ1 H1 _ R1.refl R1 (it_list ha)⟩
      | setT o => simp only [e] at q1; exact q1.elim
      | raw o => simp only [e] at q1; exact q1.elim
  | tup xs =>
    obtain ⟨a, ws, rfl, h1, h2⟩ := rx
    exact ⟨a, rfl, .inr ⟨⟨ws, h1⟩, q1 ρ1 H1 _ R1.refl R1 (it_tup h1 h2)⟩⟩
  | rol xs =>
    obtain ⟨a, ws, rfl, h1, h2⟩ := rx
    exact ⟨a, rfl, .inl ⟨⟨ws, h1.sq⟩, q1 ρ1 H1 _ R1.refl R1 (it_rol h1 h2)⟩⟩
  | _ => exact q1.elim
theorem pmi_enum {elts : List Expr} {kk : Nat} {tpos : Pos} (hg : Gl X "enumerate") (hm : X.mg "enumerate" = none) (h : PMA X W [e] t) (hs : starEach [e] X.env = [(false, eval e X.env)] := by rfl) :
    PMI X W (.Tuple elts kk tpos) (.Call (.Name "enumerate" p) [e] [] pos) (mEnum t) := by
  refine pi_imp (pi_enumA hg hm h hs) fun σ H R' ⟨ρ, Γ, S, R, G, q⟩ => ?_
  refine ⟨ρ, Γ, S, R, G, q.bind fun vs S1 ρ1 H1 xs E1 R1 rx q1 => ?_⟩
  cases vs with
  | nil => exact q1.elim
  | cons v vs =>
    cases vs with
    | cons u us => exact (by cases v <;> exact q1.elim)
    | nil =>
      obtain ⟨x, rfl, r1⟩ := one_of rx rfl
      cases v with
      | ref n =>
        obtain ⟨a, ha, rfl⟩ := r1
        cases e : S1[n]? with
        | none => simp only [e] at q1; exact q1.elim
        | some o =>
          cases o with
          | lst xs =>
            simp only [e] at q1
            obtain ⟨_, ws, h1, _⟩ := R1.at_ n a _ ha e
            exact ⟨a, ws, _, rfl, .inl ⟨SqL.of h1, rfl⟩, q1 ρ1 H1 _ R1.refl R1 (it_enm ha)⟩
          | setT o => simp only [e] at q1; exact q1.elim
          | raw o => simp only [e] at q1; exact q1.elim
      | tup xs =>
        obtain ⟨a, ws, rfl, h1, h2⟩ := r1
        exact ⟨a, ws, _, rfl, .inr ⟨h1, rfl⟩, q1 ρ1 H1 _ R1.refl R1 (it_enmI h1 h2)⟩
      | rol xs =>
        obtain ⟨a, ws, rfl, h1, h2⟩ := r1
        exact ⟨a, ws, _, rfl, .inl ⟨h1.sq, rfl⟩, q1 ρ1 H1 _ R1.refl R1 (it_enmR h1 h2)⟩
      | _ => exact q1.elim
theorem rng_of {i j : Int} (h : rngOk i j = true) : -(2 ^ 62) ≤ i ∧ i < 2 ^ 62 ∧ -(2 ^ 62) ≤ j ∧ j < 2 ^ 62 := by unfold rngOk at h; exact of_decide_eq_true h
theorem pmi_range1 (hg : Gl X "range") (hm : X.mg "range" = none) (h : PMA X W [e] t) (hs : starEach [e] X.env = [(false, eval e X.env)] := by rfl) : PMI X W tg (.Call (.Name "range" p) [e] [] pos) (mRng1 t) := by
  refine pi_imp (pi_range1 hg hm h hs) fun σ H R' ⟨ρ, Γ, S, R, G, q⟩ => ?_
  refine ⟨ρ, Γ, S, R, G, q.bind fun vs S1 ρ1 H1 xs E1 R1 rx q1 => ?_⟩
  cases vs with
  | nil => exact q1.elim
  | cons v vs =>
    cases vs with
    | cons u us => exact (by cases v <;> exact q1.elim)
    | nil =>
      obtain ⟨x, rfl, r1⟩ := one_of rx rfl
      cases v with
      | int j =>
        cases r1
        by_cases c : rngOk 0 j = true
        · simp only [if_pos c] at q1
          have := rng_of c
          exact ⟨j, rfl, this.2.2.1, this.2.2.2, q1 ρ1 H1 _ R1.refl R1 it_rng1⟩
        · simp only [if_neg c] at q1
          exact q1.elim
      | _ => exact q1.elim
theorem pmi_range2 {e2 : Expr} (hg : Gl X "range") (hm : X.mg "range" = none) (h : PMA X W [e, e2] t) (hs : starEach [e, e2] X.env = [(false, eval e X.env), (false, eval e2 X.env)] := by rfl) (hs2 : starEach [e2] X.env = [(false, eval e2 X.env)] := by rfl) : PMI X W tg (.Call (.Name "range" p) [e, e2] [] pos) (mRng2 t) := by
  refine pi_imp (pi_range2 hg hm h hs hs2) fun σ H R' ⟨ρ, Γ, S, R, G, q⟩ => ?_
  refine ⟨ρ, Γ, S, R, G, q.bind fun vs S1 ρ1 H1 xs E1 R1 rx q1 => ?_⟩
  have bad : ∀ {r : Res ItV}, Aft (kxOf X) W σ (ItOk (kxOf X)) R' ρ1 H1 r → r = .bad → False := fun h e => by rw [e] at h; exact h
  match vs, rx, q1 with
  | [.int i, .int j], rx, q1 =>
    obtain ⟨x, y, rfl, r1, r2⟩ := two_of rx rfl
    cases r1
    cases r2
    by_cases c : rngOk i j = true
    · simp only [if_pos c] at q1
      exact ⟨i, j, rfl, rng_of c, q1 ρ1 H1 _ R1.refl R1 it_rng1⟩
    · simp only [if_neg c] at q1
      exact q1.elim
  | [], _, q1 => exact q1.elim
  | [v], _, q1 => exact (bad q1 (by cases v <;> rfl)).elim
  | v :: w :: u :: r, _, q1 => exact (bad q1 (by cases v <;> first | rfl | (cases w <;> rfl))).elim
  | [.non, w], _, q1 => exact q1.elim
  | [.bl _, w], _, q1 => exact q1.elim
  | [.str _, w], _, q1 => exact q1.elim
  | [.tup _, w], _, q1 => exact q1.elim
  | [.rol _, w], _, q1 => exact q1.elim
  | [.ref _, w], _, q1 => exact q1.elim
  | [.adr _, w], _, q1 => exact q1.elim
  | [.ty _, w], _, q1 => exact q1.elim
  | [.int i, .non], _, q1 => exact q1.elim
  | [.int i, .bl _], _, q1 => exact q1.elim
  | [.int i, .str _], _, q1 => exact q1.elim
  | [.int i, .tup _], _, q1 => exact q1.elim
  | [.int i, .rol _], _, q1 => exact q1.elim
  | [.int i, .ref _], _, q1 => exact q1.elim
  | [.int i, .adr _], _, q1 => exact q1.elim
  | [.int i, .ty _], _, q1 => exact q1.elim
theorem pmi_rev1 {p2 pos2 : Pos} (hg : Gl X "reversed") (hm : X.mg "reversed" = none) (hg2 : Gl X "range") (hm2 : X.mg "range" = none) (h : PM X W e m) (na : starEach [e] X.env = (false, eval e X.env) :: starEach [] X.env := by rfl) (hs : starEach [Expr.Call (.Name "range" p2) [e] [] pos2] X.env = (false, eval (Expr.Call (.Name "range" p2) [e] [] pos2) X.env) :: starEach [] X.env := by rfl) :
    PMI X W tg (.Call (.Name "reversed" p) [.Call (.Name "range" p2) [e] [] pos2] [] pos) (mRev1 m) := by
  refine pi_imp (pi_revR hg hm (prg_1 hg2 hm2 h na) hs) fun σ H R' ⟨ρ, Γ, S, R, G, q⟩ => ?_
  refine ⟨ρ, Γ, S, R, G, q.bind fun v S1 ρ1 H1 x E1 R1 rx q1 => ?_⟩
  cases v with
  | int j =>
    cases rx
    by_cases c : rngOk 0 j = true
    · simp only [if_pos c] at q1
      have r := rng_of c
      refine ⟨j, rfl, r.1, r.2.1, r.2.2.1, r.2.2.2, ?_⟩
      have e1 : (0 : Int) + (((j - 0).toNat : Nat) : Int) - 1 = (j.toNat : Int) - 1 := by simp
      have e2 : (j - 0).toNat = j.toNat := by simp
      rw [e1, e2]
      exact q1 ρ1 H1 _ R1.refl R1 it_rng
    · simp only [if_neg c] at q1
      exact q1.elim
  | _ => exact q1.elim
/-! ### slices -/
def PMO (X : Cx) (W : XW) (e : Option Expr) (m : Option ME) : Prop := match e, m with
  | none, none => True
  | some e, some m => PM X W e m
  | _, _ => False
def mOpt (m : Option ME) : En → Sto → Res (Option Int) := fun Γ S => match m with
  | none => .ok none S
  | some m => (m Γ S).bind fun v S1 => match v with
    | .int i => .ok (some i) S1
    | _ => .bad
abbrev FS := Va → Option Int → Option Int → Sto → Option (Va × Sto)
def SlP (X : Cx) (f : FS) : Prop := ∃ r, SlR X r ∧ ∀ ρ S H v x lo hi Q, RS (kxOf X) ρ S H → Rv (kxOf X) ρ H v x → Ans (kxOf X) Q ρ H (f v lo hi S) → r x lo hi H Q
def mSl (f : FS) (a : ME) (lo hi : Option ME) : ME := fun Γ S => (a Γ S).bind fun v S1 => (mOpt lo Γ S1).bind fun l S2 => (mOpt hi Γ S2).bind fun u S3 => lift (f v l u S3)
theorem pm_slice {f : FS} {a : Expr} {ma : ME} {lo hi : Option Expr} {ml mh : Option ME} {p2 : Pos} (hf : SlP X f) (ha : PM X W a ma) (hl : PMO X W lo ml) (hh : PMO X W hi mh) : PM X W (.Subscript a (.Slice lo hi none p2) pos) (mSl f ma ml mh) := by
  obtain ⟨r, hr, hf⟩ := hf
  have po : ∀ (e : Option Expr) (m : Option ME), PMO X W e m → ∃ t : TO, PO X e t ∧ ∀ (σ : L2.St) (H : Hp) (Q : Option Int → Hp → Prop), (∃ ρ Γ S, RS (kxOf X) ρ S H ∧ RE (kxOf X) ρ H Γ σ ∧ Aft (kxOf X) W σ (fun _ _ (a b : Option Int) => b = a) Q ρ H (mOpt m Γ S)) → t σ H Q := fun e m h => by
    cases e with
    | none =>
      cases m with
      | none => exact ⟨_, po_none, fun σ H Q ⟨ρ, Γ, S, R, G, q⟩ => q ρ H none R.refl R rfl⟩
      | some m => exact h.elim
    | some e =>
      cases m with
      | none => exact h.elim
      | some m =>
        refine ⟨_, po_some (show PE X e _ from h), fun σ H Q ⟨ρ, Γ, S, R, G, q⟩ => ?_⟩
        refine ⟨ρ, Γ, S, R, G, (show Aft _ _ _ _ Q ρ H ((m Γ S).bind _) from q).bind fun v S1 ρ1 H1 x E1 R1 rx q1 => ?_⟩
        cases v with
        | int i => cases rx; exact ⟨i, rfl, q1 ρ1 H1 _ R1.refl R1 rfl⟩
        | _ => exact q1.elim
  obtain ⟨tl, hl1, hl2⟩ := po lo ml hl
  obtain ⟨th, hh1, hh2⟩ := po hi mh hh
  refine pe_imp (pe_slice hr ha hl1 hh1) fun σ H Q ⟨ρ, Γ, S, R, G, q⟩ => ?_
  refine ⟨ρ, Γ, S, R, G, q.bind fun v S1 ρ1 H1 x E1 R1 rx q1 => ?_⟩
  refine hl2 σ H1 _ ⟨ρ1, Γ, S1, R1, G.ext E1, q1.bind fun l S2 ρ2 H2 l' E2 R2 rl q2 => ?_⟩
  subst rl
  refine hh2 σ H2 _ ⟨ρ2, Γ, S2, R2, (G.ext E1).ext E2, q2.bind fun u S3 ρ3 H3 u' E3 R3 ru q3 => ?_⟩
  subst ru
  exact hf ρ3 S3 H3 v x l' u' Q R3 ((rx.ext E2).ext E3) q3.ans
def cutA (xs : List Va) (lo hi : Option Int) : List Va := (xs.drop (HT.sIx xs.length 0 lo)).take (HT.sIx xs.length xs.length hi - HT.sIx xs.length 0 lo)
theorem Rvs.cut {K : KX} {ρ : List Addr} {H : Hp} {xs : List Va} {ws : List V} (h : Rvs K ρ H xs ws) (lo hi : Option Int) : Rvs K ρ H (cutA xs lo hi) (cutV ws lo hi) := by
  unfold cutA cutV
  rw [← h.len]
  exact (h.drop _).take _
def slL : FS := fun v lo hi S => match lstOf S v with
  | some xs => mkL S (cutA xs lo hi)
  | none => none
def slT : FS := fun v lo hi S => match v with
  | .tup xs => if HT.sIx xs.length 0 lo = 0 ∧ HT.sIx xs.length xs.length hi = xs.length then none else some (.tup (cutA xs lo hi), S)
  | _ => none
def slS : FS := fun v lo hi S => match v with
  | .str z => if z.length ≤ sizeLine then some (.str (cutS z lo hi), S) else none
  | _ => none
def fSl : FS := fun v lo hi S => match slL v lo hi S with
  | some p => some p
  | none => match slT v lo hi S with
    | some p => some p
    | none => slS v lo hi S
theorem sSl : SlP X fSl := by
  refine ⟨fun x lo hi H Q => rSlL X.K x lo hi H Q ∨ rSlT X.K x lo hi H Q ∨ rSlS x lo hi H Q, ?_, fun ρ S H v x lo hi Q R rv a => ?_⟩
  · intro pins s σ H x v vl vu lo hi sl Q I rx hs pl pu h
    rcases h with h | h | h
    · exact sl_list pins s σ H x v vl vu lo hi sl Q I rx hs pl pu h
    · exact sl_tup pins s σ H x v vl vu lo hi sl Q I rx hs pl pu h
    · exact sl_str pins s σ H x v vl vu lo hi sl Q I rx hs pl pu h
  · unfold fSl at a
    cases e1 : slL v lo hi S with
    | some p =>
      rw [e1] at a
      have a : Ans (kxOf X) Q ρ H (slL v lo hi S) := by rw [e1]; exact a
      unfold slL at a
      cases e : lstOf S v with
      | none => rw [e] at a; exact a.elim
      | some xs =>
        rw [e] at a
        obtain ⟨p, ws, rfl, h1, h2⟩ := lst_of R rv e
        exact .inl ⟨p, ws, rfl, h1, (mkL_ans R a (h2.cut lo hi)).2⟩
    | none =>
      rw [e1] at a
      simp only at a
      cases e2 : slT v lo hi S with
      | some p =>
        rw [e2] at a
        have a : Ans (kxOf X) Q ρ H (slT v lo hi S) := by rw [e2]; exact a
        cases v with
        | tup xs =>
          obtain ⟨b, ws, rfl, h1, h2⟩ := rv
          unfold slT at a
          simp only at a
          by_cases c : HT.sIx xs.length 0 lo = 0 ∧ HT.sIx xs.length xs.length hi = xs.length
          · rw [if_pos c] at a; exact a.elim
          · rw [if_neg c] at a
            refine .inr (.inl ⟨b, ws, rfl, h1, by rw [← h2.len]; exact c, fun q hq => ?_⟩)
            obtain ⟨E, R2⟩ := R.own (o := .tup (cutV ws lo hi)) hq
            exact a ρ _ _ E R2 ⟨q, _, rfl, SqT.of upd_same, (h2.cut lo hi).ext E⟩
        | _ => exact a.elim
      | none =>
        rw [e2] at a
        simp only at a
        cases v with
        | str z =>
          cases rv
          obtain ⟨hl, a⟩ := ans_if (p := z.length ≤ sizeLine) (o := some (Va.str (cutS z lo hi), S)) a
          exact .inr (.inr ⟨z, rfl, hl, a ρ H _ R.refl R rfl⟩)
        | _ => exact a.elim
/-! ### xs[i] = e -/
def gSubM (o i : ME) : MG := fun v Γ S => (o Γ S).bind fun ov S1 => (i Γ S1).bind fun iv S2 => match ov, iv with
  | .ref n, .int k => match S2[n]? with
    | some (.lst xs) => match ixN xs.length k with
      | some j => .ok Γ (S2.set n (.lst (xs.set j v)))
      | none => .bad
    | _ => .bad
  | _, _ => .bad
theorem pmg_sub {o i : Expr} {mo mi : ME} (ho : PM X W o mo) (hi : PM X W i mi)
    (ha : ∀ v, assign (.Subscript o i pos) X.env v = (do
      let ov ← holding [v] (eval o X.env)
      let iv ← holding [v, ov] (eval i X.env)
      standAt pos
      holding [v, ov, iv] (setItem ov iv v)
      release [v, ov, iv] []) := by intro _; rfl) : PMG X W [] (.Subscript o i pos) (gSubM mo mi) := by
  refine pg_imp (pg_sub ho hi set_list ha) fun w σ H Q ⟨ρ, Γ, S, v, R, G, r, q⟩ => ?_
  refine ⟨ρ, Γ, S, R, G, q.bind fun ov S1 ρ1 H1 x E1 R1 rx q1 => ?_⟩
  refine ⟨ρ1, Γ, S1, R1, G.ext E1, q1.bind fun iv S2 ρ2 H2 y E2 R2 ry q2 => ?_⟩
  cases ov with
  | ref n =>
    cases iv with
    | int k =>
      obtain ⟨a, ha, rfl⟩ := rx.ext E2
      cases ry
      cases e : S2[n]? with
      | none => simp only [e] at q2; exact q2.elim
      | some ob =>
        cases ob with
        | setT _ => simp only [e] at q2; exact q2.elim
        | raw _ => simp only [e] at q2; exact q2.elim
        | lst xs =>
          simp only [e] at q2
          obtain ⟨hl, ws, h1, h2⟩ := R2.at_ n a _ ha e
          cases ej : ixN xs.length k with
          | none => simp only [ej] at q2; exact q2.elim
          | some j =>
            simp only [ej] at q2
            refine ⟨a, ws, k, j, rfl, rfl, h1, by rw [← h2.len]; exact ej, ?_⟩
            obtain ⟨E3, R3⟩ := R2.put ha e (by rw [List.length_set]; exact hl) (h2.set j ((r.ext E1).ext E2))
            exact q2 ρ2 _ σ E3 R3 ⟨((G.ext E1).ext E2).ext E3, Agr.refl _ _⟩
    | _ => exact q2.elim
  | _ => exact q2.elim
/-! ### xs.append(e), xs.extend(ys), xs.pop() -/
def mApp (o : ME) (t : MA) : ME := fun Γ S => (o Γ S).bind fun ov S1 => match ov with
  | .ref n => match S1[n]? with
    | some (.lst _) => (t Γ S1).bind fun vs S2 => match vs, S2[n]? with
      | [v], some (.lst xs) => if xs.length < sizeLine then .ok .non (S2.set n (.lst (xs ++ [v]))) else .bad
      | _, _ => .bad
    | _ => .bad
  | _ => .bad
theorem pm_append {o : Expr} {es : List Expr} {mo : ME} {apos cpos : Pos} (ho : PM X W o mo) (ht : PMA X W (e :: es) t)
    (hbase : attributeBase o "append" X.env (eval o X.env) = eval o X.env := by rfl)
    (hfew : ((backTo cpos (starEach (e :: es) X.env)).all (fun x => !x.1) && (backToKw cpos (keywordEach [] X.env)).all (fun x => x.1.isSome)
      && decide ((e :: es).length + ([] : List Keyword).length + (if ([] : List Keyword).isEmpty then 0 else 1) < 30)) = true := by rfl)
    (hline : (apos.endLine == cpos.line) = true := by rfl) (hs : starEach (e :: es) X.env = (false, eval e X.env) :: starEach es X.env := by rfl) (hplain : (backTo cpos (starEach es X.env)).any (·.1) = false := by rfl) :
    PM X W (.Call (.Attribute o "append" apos) (e :: es) [] cpos) (mApp mo t) := by
  refine pe_imp (pe_bm PySem.F.plainAttrs_list PySem.F.slot_list_append PySem.F.type_list_append mt_append ho ht hbase hfew hline hs hplain) fun σ H Q ⟨ρ, Γ, S, R, G, q⟩ => ?_
  refine ⟨ρ, Γ, S, R, G, q.bind fun ov S1 ρ1 H1 x E1 R1 rx q1 => ?_⟩
  cases ov with
  | ref n =>
    obtain ⟨a, ha, rfl⟩ := rx
    cases e : S1[n]? with
    | none => simp only [e] at q1; exact q1.elim
    | some ob =>
      cases ob with
      | setT _ => simp only [e] at q1; exact q1.elim
      | raw _ => simp only [e] at q1; exact q1.elim
      | lst xs1 =>
        simp only [e] at q1
        obtain ⟨_, ws1, h1, _⟩ := R1.at_ n a _ ha e
        refine ⟨.inl ⟨rfl, ws1, SqL.of h1⟩, ρ1, Γ, S1, R1, G.ext E1, q1.bind fun vs S2 ρ2 H2 ys E2 R2 ry q2 => ?_⟩
        match vs, ry, q2 with
        | [], _, q2 => exact q2.elim
        | _ :: _ :: _, _, q2 => exact q2.elim
        | [v], ry, q2 =>
          obtain ⟨y, rfl, r1⟩ := one_of ry rfl
          have ha2 := E2.get ha
          cases e2 : S2[n]? with
          | none => simp only [e2] at q2; exact q2.elim
          | some ob =>
            cases ob with
            | setT _ => simp only [e2] at q2; exact q2.elim
            | raw _ => simp only [e2] at q2; exact q2.elim
            | lst xs =>
              simp only [e2] at q2
              obtain ⟨hl, ws, h3, h4⟩ := R2.at_ n a _ ha2 e2
              by_cases hlt : xs.length < sizeLine
              · rw [if_pos hlt] at q2
                refine ⟨a, ws, y, rfl, rfl, h3, by rw [← h4.len]; exact hlt, ?_⟩
                obtain ⟨E3, R3⟩ := R2.put ha2 e2 (by rw [List.length_append]; exact hlt) (h4.app (Rvs.cons r1 Rvs.nil))
                exact q2 ρ2 _ _ E3 R3 rfl
              · rw [if_neg hlt] at q2
                exact q2.elim
  | _ => exact q1.elim
def mPop (o : ME) : ME := fun Γ S => (o Γ S).bind fun ov S1 => match ov with
  | .ref n => match S1[n]? with
    | some (.lst xs) => match xs[xs.length - 1]? with
      | some v => .ok v (S1.set n (.lst xs.dropLast))
      | none => .bad
    | _ => .bad
  | _ => .bad
theorem Rvs.dropLast {K : KX} {ρ : List Addr} {H : Hp} {xs : List Va} {ws : List V} (h : Rvs K ρ H xs ws) : Rvs K ρ H xs.dropLast ws.dropLast := by
  rw [List.dropLast_eq_take, List.dropLast_eq_take, ← h.len]
  exact h.take _
theorem pm_pop {o : Expr} {mo : ME} {apos cpos : Pos} (ho : PM X W o mo)
    (hbase : attributeBase o "pop" X.env (eval o X.env) = eval o X.env := by rfl) (hline : (apos.endLine == cpos.line) = true := by rfl) :
    PM X W (.Call (.Attribute o "pop" apos) [] [] cpos) (mPop mo) := by
  refine pe_imp (pe_bm0 PySem.F.plainAttrs_list PySem.F.slot_list_pop PySem.F.type_list_pop mt_pop ho hbase hline) fun σ H Q ⟨ρ, Γ, S, R, G, q⟩ => ?_
  refine ⟨ρ, Γ, S, R, G, q.bind fun ov S1 ρ1 H1 x E1 R1 rx q1 => ?_⟩
  cases ov with
  | ref n =>
    obtain ⟨a, ha, rfl⟩ := rx
    cases e : S1[n]? with
    | none => simp only [e] at q1; exact q1.elim
    | some ob =>
      cases ob with
      | setT _ => simp only [e] at q1; exact q1.elim
      | raw _ => simp only [e] at q1; exact q1.elim
      | lst xs =>
        simp only [e] at q1
        obtain ⟨hl, ws, h1, h2⟩ := R1.at_ n a _ ha e
        cases ev : xs[xs.length - 1]? with
        | none => simp only [ev] at q1; exact q1.elim
        | some v =>
          simp only [ev] at q1
          obtain ⟨w, h3, h4⟩ := h2.get ev
          refine ⟨.inl ⟨rfl, ws, SqL.of h1⟩, a, ws, w, rfl, rfl, h1, by rw [← h2.len]; exact h3, ?_⟩
          obtain ⟨E3, R3⟩ := R1.put ha e (by rw [List.length_dropLast]; omega) h2.dropLast
          exact q1 ρ1 _ _ E3 R3 (h4.ext E3)
  | _ => exact q1.elim
/-! ### list(range(..)) -/
def rgA (a b : Int) : List Va := (List.range (b - a).toNat).map fun i => Va.int (a + (i : Nat))
@[irreducible] def lrOk (j : Int) : Bool := decide (-(2 ^ 62) ≤ j ∧ j ≤ 2 ^ 24)
def mLRng1 (m : ME) : ME := fun Γ S => (m Γ S).bind fun v S1 => match v with
  | .int j => if lrOk j = true then lift (mkL S1 (rgA 0 j)) else .bad
  | _ => .bad
theorem rg_rel {K : KX} {ρ : List Addr} {H : Hp} (a b : Int) : Rvs K ρ H (rgA a b) (rgV a b) := by
  unfold rgA rgV
  refine Rvs.of (by simp) fun i x w h1 h2 => ?_
  rw [List.getElem?_map] at h1 h2
  cases e : (List.range (b - a).toNat)[i]? with
  | none => rw [e] at h1; cases h1
  | some k =>
    rw [e] at h1 h2
    cases h1
    cases h2
    rfl
theorem pm_lrng1 {p2 pos2 : Pos} (hc : X.calm = true) (hg : Gl X "list") (hm : X.mg "list" = none) (hg2 : Gl X "range") (hm2 : X.mg "range" = none) (h : PM X W e m) (na : starEach [e] X.env = (false, eval e X.env) :: starEach [] X.env := by rfl)
    (hs : starEach [Expr.Call (.Name "range" p2) [e] [] pos2] X.env = (false, eval (Expr.Call (.Name "range" p2) [e] [] pos2) X.env) :: starEach [] X.env := by rfl) : PM X W (.Call (.Name "list" p) [.Call (.Name "range" p2) [e] [] pos2] [] pos) (mLRng1 m) := by
  refine pe_imp (pe_listRg hc hg hm (prg_1 hg2 hm2 h na) hs) fun σ H Q ⟨ρ, Γ, S, R, G, q⟩ => ?_
  refine ⟨ρ, Γ, S, R, G, q.bind fun v S1 ρ1 H1 x E1 R1 rx q1 => ?_⟩
  cases v with
  | int j =>
    cases rx
    by_cases c' : lrOk j = true
    · have c : -(2 ^ 62) ≤ j ∧ j ≤ 2 ^ 24 := by unfold lrOk at c'; exact of_decide_eq_true c'
      simp only [if_pos c'] at q1
      have q1 : Ans (kxOf X) Q ρ1 H1 (mkL S1 (rgA 0 j)) := q1.ans
      refine ⟨j, rfl, ⟨by omega, by omega, c.1, by omega, by omega⟩, (mkL_ans R1 q1 (rg_rel 0 j)).2⟩
    · simp only [if_neg c'] at q1
      exact q1.elim
  | _ => exact q1.elim
end
end PM

namespace PM
open PySem PySem.Spec PyProof.Rows L2 Q2
section
variable {X : Cx} {W : XW}
theorem pms_par3 {i j l : Nat} {t : MA} {st : Stmt} (h : PS X st (tPar3 i j l (tMA (kxOf X) W t))) : PMS X W st (sPar3 i j l t) := by
  refine ps_imp h fun D σ H ⟨ρ, Γ, S, R, G, q⟩ => ?_
  refine ⟨ρ, Γ, S, R, G, AftS.bind G q fun vs S1 ρ1 H1 ws E1 R1 r1 q1 => ?_⟩
  match vs, r1, q1 with
  | [u, v, w], r1, q1 =>
    obtain ⟨z, _, rfl, rz, x, _, rfl, rx, y, _, rfl, ry, rfl⟩ := r1
    exact ⟨z, x, y, rfl, q1 ρ1 H1 _ R1.refl R1 ((((G.ext E1).set i rz).set j rx).set l ry)⟩
  | [], _, q1 => exact q1.elim
  | [_], _, q1 => exact q1.elim
  | [_, _], _, q1 => exact q1.elim
  | _ :: _ :: _ :: _ :: _, _, q1 => exact q1.elim
/-! ### x += e -/
theorem ipI_M {op : Operator} {f : Int → Int → Int} (h : PIp X op (ipI f)) : IpP X op (fI2 always fun i j => .int (f i j)) := by
  refine ⟨_, h, fun ρ S H v w x y Q R rv rw a => ?_⟩
  cases v with
  | int i =>
    cases w with
    | int j => cases rv; cases rw; exact ⟨i, j, rfl, rfl, a ρ H _ R.refl R rfl⟩
    | _ => exact a.elim
  | _ => exact a.elim
theorem ipAdd : IpP X .Add addI := ipI_M ip_add
theorem ipSub : IpP X .Sub subI := ipI_M ip_sub
end
/-! ### calls with keywords -/
def permL {α : Type} (o : List Nat) (us : List α) : List α := o.filterMap fun i => us[i]?
def permG {α : Type} (n m : Nat) (o : List Nat) (us ws : List α) : List α := if us.length = n ∧ ws.length = m then permL o (us ++ ws) else []
theorem permL_rel {vs : List V} {us : List Value} (o : List Nat) (h : Vals vs us) : Vals (permL o vs) (permL o us) := by
  unfold permL
  induction o with
  | nil => exact .nil
  | cons i o ih =>
    rw [List.filterMap_cons, List.filterMap_cons]
    cases e : vs[i]? with
    | none => rw [h.none_of e]; exact ih
    | some v =>
      obtain ⟨u, hu, r⟩ := h.get e
      rw [hu]
      exact .cons r ih
theorem permG_rel {n m : Nat} {o : List Nat} {vs : List V} {us : List Value} {zs : List V} {ws : List Value} (r : Vals vs us) (s : Vals zs ws) : Vals (permG n m o vs zs) (permG n m o us ws) := by
  unfold permG
  rw [r.length, s.length]
  split
  · exact permL_rel o (r.append s)
  · exact .nil
theorem kbn_of {K : PySem.W.Frag} {x : Str} {st : Stmt} {f : Addr} {fd : FuncData} {ps ks : List Str} (F : FnP K x st f fd) (n m : Nat) (o : List Nat) (hp : ps ≠ [])
    (h : ∀ (kV doc pm : Value) (an : Option Addr) (cdv ct : Value) (us ws : List Value), us.length = n → ws.length = m → bindArgs (PySem.W.fnOf x x (defArgs st) (defBody st) (defScope st) .none kV doc pm an cdv ct) ⟨us, ks.zip ws⟩ = pure (ps.zip (permL o (us ++ ws)))) : KBinds K fd ps ks (permG n m o) (permG n m o) := by
  obtain ⟨oc, od, kV, doc, pm, an, cdv, ct, osl, rfl, lk, hcd⟩ := F.ex
  refine ⟨fun s us ws _ hl => ?_, permG_rel⟩
  unfold permG at hl ⊢
  by_cases c : us.length = n ∧ ws.length = m
  · rw [if_pos c]
    exact .of_eq (h _ _ _ _ _ _ us ws c.1 c.2)
  · rw [if_neg c] at hl
    cases ps with
    | nil => exact absurd rfl hp
    | cons p ps => cases hl
theorem permV_rel {K : KX} {ρ : List Addr} {H : Hp} {vs : List Va} {us : List V} (o : List Nat) (h : Rvs K ρ H vs us) : Rvs K ρ H (permL o vs) (permL o us) := by
  unfold permL
  induction o with
  | nil => exact rfl
  | cons i o ih =>
    rw [List.filterMap_cons, List.filterMap_cons]
    cases e : vs[i]? with
    | none =>
      have : us[i]? = none := by
        rw [List.getElem?_eq_none_iff, ← h.len]
        exact List.getElem?_eq_none_iff.mp e
      rw [this]
      exact ih
    | some v =>
      obtain ⟨u, hu, r⟩ := h.get e
      rw [hu]
      exact Rvs.cons r ih
def mCallKw (n m : Nat) (o : List Nat) (g : MF) (t u : MA) : ME := fun Γ S => (t Γ S).bindN fun vs S1 => (u Γ S1).bindN fun ws S2 => if vs.length = n ∧ ws.length = m ∧ (permL o (vs ++ ws)).length = o.length then noX (g (permL o (vs ++ ws)) S2) else .bad
section
variable {X : Cx} {W : XW} {k : Nat} {x : Str} {ps ks : List Str} {g : MF} {f : Addr} {fd : FuncData} {e : Expr} {es : List Expr} {t u : MA} {kws : List Keyword} {n m : Nat} {o : List Nat} {p pos : Pos}
theorem ck_imp {mg : Str → Option Value} (ho : o.length = ps.length) (σ : L2.St) (H : Hp) (Q : VK) (h : tM (kxOf X) W (mCallKw n m o g t u) σ H Q) : tCallK (spM (kxOf X) mg ps.length g) (permG n m o) E0 (tMA (kxOf X) W t) (tMA (kxOf X) W u) σ H Q := by
  obtain ⟨ρ, Γ, S, R, G, q⟩ := h
  refine ⟨ρ, Γ, S, R, G, (show Aft _ W σ _ Q ρ H ((t Γ S).bindN _) from q).bindN fun vs S1 ρ1 H1 xs E1 R1 rx q1 => ?_⟩
  refine ⟨ρ1, Γ, S1, R1, G.ext E1, (show Aft _ W σ _ Q ρ1 H1 ((u Γ S1).bindN _) from q1).bindN fun ws S2 ρ2 H2 ys E2 R2 ry q2 => ?_⟩
  have c : vs.length = n ∧ ws.length = m ∧ (permL o (vs ++ ws)).length = o.length := by
    refine Decidable.byContradiction fun c => ?_
    have q2 : Aft (kxOf X) W σ (Rv (kxOf X)) Q ρ2 H2 (if vs.length = n ∧ ws.length = m ∧ (permL o (vs ++ ws)).length = o.length then noX (g (permL o (vs ++ ws)) S2) else .bad) := q2
    rw [if_neg c] at q2
    exact q2.elim
  have q2 : Aft (kxOf X) W σ (Rv (kxOf X)) Q ρ2 H2 (if vs.length = n ∧ ws.length = m ∧ (permL o (vs ++ ws)).length = o.length then noX (g (permL o (vs ++ ws)) S2) else .bad) := q2
  rw [if_pos c] at q2
  have rel := permV_rel o ((rx.ext E2).app ry)
  unfold permG
  rw [← rx.len, ← ry.len, if_pos ⟨c.1, c.2.1⟩]
  exact ⟨by rw [← rel.len, c.2.2, ho], ρ2, S2, _, R2, rel, q2.noX⟩
theorem passL' : Passes (L2.CX X.prog X.w) X E0 := passL
theorem pm_callK (D : Dx X.prog X.w X.K X.mg X.base k x ps g f fd) (hb : KBinds X.K fd ps ks (permG n m o) (permG n m o)) (ho : o.length = ps.length) (hr : Room k X.A) (hg : Gl X x) (ha : PMA X W (e :: es) t) (hk : PMK X W kws u)
    (hall : (backToKw pos (keywordEach kws X.env)).all (·.1.isSome) = true := by rfl) (hks : (backToKw pos (keywordEach kws X.env)).filterMap (·.1) = ks := by rfl)
    (hdb : (x == ("__debug__" : Str)) = false := by decide) (he : starEach (e :: es) X.env = (false, eval e X.env) :: starEach es X.env := by rfl)
    (hpl : ((backTo pos (starEach (e :: es) X.env)).any (·.1) || (backToKw pos (keywordEach kws X.env)).any (·.1.isNone)) = false := by rfl) :
    PM X W (.Call (.Name x p) (e :: es) kws pos) (mCallKw n m o g t u) :=
  pe_imp (pe_callK D.ok hr hg D.gl D.kp hb passL' ha hk hall hks hdb he hpl) (ck_imp ho)
theorem pm_callK0 (D : Dx X.prog X.w X.K X.mg X.base k x ps g f fd) (hb : KBinds X.K fd ps ks (permG n m o) (permG n m o)) (ho : o.length = ps.length) (hr : Room k X.A) (hg : Gl X x) (hk : PMK X W kws u)
    (hall : (backToKw pos (keywordEach kws X.env)).all (·.1.isSome) = true := by rfl) (hks : (backToKw pos (keywordEach kws X.env)).filterMap (·.1) = ks := by rfl)
    (hdb : (x == ("__debug__" : Str)) = false := by decide)
    (hpl : ((backTo pos (starEach [] X.env)).any (·.1) || (backToKw pos (keywordEach kws X.env)).any (·.1.isNone)) = false := by rfl) :
    PM X W (.Call (.Name x p) [] kws pos) (mCallKw n m o g maN u) := by
  refine pe_imp (pe_callK0 D.ok hr hg D.gl D.kp hb passL' hk hall hks hdb hpl) fun σ H Q h => ?_
  have h2 := ck_imp (X := X) (W := W) (t := maN) (mg := X.mg) (ps := ps) ho σ H Q h
  obtain ⟨ρ, Γ, S, R, G, q⟩ := h2
  exact q ρ H [] R.refl R rfl
end
/-! ### a def of which nothing is told -/
def mBadF : MF := fun _ _ => .bad
theorem bad_ok {P : Program} {w : World} {K : PySem.W.Frag} {mg : Str → Option Value} {base : Heap} {k n : Nat} {f : Addr} {fd : FuncData} {ps : List Str} (hn : ps.length = n) : FnOk P w K mg base (L2.CX P w) k f fd ps (spM ⟨K, P, w⟩ mg n mBadF) :=
  ⟨fun vs H Q E h => h.1.trans hn.symm, fun A outer s H args us vs Q E hr e0 hb r h => by
    obtain ⟨_, _, _, _, _, _, q⟩ := h
    exact q.elim⟩
/-- what is told of a def that raises nothing -/
theorem fn_up {P : Program} {w : World} {K : PySem.W.Frag} {mg : Str → Option Value} {base : Heap} {k : Nat} {f : Addr} {fd : FuncData} {ps : List Str} {sp sp' : Sp} (F : FnOk P w K mg base L2.CX0 k f fd ps sp) (h : ∀ vs H Q E, sp' vs H Q E → sp vs H Q E) : FnOk P w K mg base (L2.CX P w) k f fd ps sp' := by
  refine ⟨fun vs H Q E q => F.len vs H Q E (h _ _ _ _ q), fun A outer s H args us vs Q E hr e0 hb r q => ?_⟩
  refine codeAny_mono (F.run A outer s H args us vs Q E hr e0 hb r (h _ _ _ _ q)) fun r s' hq => ?_
  cases r with
  | ok fl => cases fl <;> exact hq
  | error e => exact (show False from hq).elim
/-! ### sets of tuples of ints -/
def tIntsOf : Va → Option (List Int)
  | .tup xs => intsOf xs
  | _ => none
section
variable {X : Cx} {W : XW}
def mSet0 : ME := fun _ S => .ok (.ref S.length) (S ++ [.setT []])
theorem RS.setNew {K : KX} {ρ : List Addr} {S : Sto} {H : Hp} (R : RS K ρ S H) {p : Addr} (hp : H p = none) : Ext ρ (ρ ++ [p]) H (upd H p (SetTO K.P K.w p [])) ∧ RS K (ρ ++ [p]) (S ++ [.setT []]) (upd H p (SetTO K.P K.w p [])) := by
  have hp' := R.fresh hp
  have E : Ext ρ (ρ ++ [p]) H (upd H p (SetTO K.P K.w p [])) := ⟨R.nt, ⟨[p], rfl⟩, fun b u h _ => by rw [upd_ne (ne_of_none h hp)]; exact h, fun b h n => by
    rcases List.mem_append.mp h with h | h
    · exact absurd h n
    · rw [List.mem_singleton.mp h]; exact hp⟩
  refine ⟨E, by simp [R.len], ?_, fun n a u h1 h2 => ?_⟩
  · refine List.nodup_append.mpr ⟨R.nd, by simp, fun x hx y hy z => hp' ?_⟩
    rw [← List.mem_singleton.mp hy, ← z]
    exact hx
  · by_cases hn : n < ρ.length
    · rw [List.getElem?_append_left hn] at h1
      rw [List.getElem?_append_left (by rw [← R.len]; exact hn)] at h2
      refine (R.at_ n a u h1 h2).ext E ?_
      have : a ≠ p := fun z => hp' (by rw [← z]; exact List.mem_of_getElem? h1)
      rw [upd_ne this]
    · have hn' : n = ρ.length := by
        have := (List.getElem?_eq_some_iff.mp h1).1
        simp at this
        omega
      subst hn'
      rw [List.getElem?_append_right (Nat.le_refl _), Nat.sub_self] at h1
      rw [List.getElem?_append_right (by rw [R.len]; exact Nat.le_refl _), R.len, Nat.sub_self] at h2
      cases h1
      cases h2
      exact ⟨[], upd_same, .nil, fun p hp => by cases hp⟩
theorem pm_set0 {x : Str} {p pos : Pos} (hg : Gl X x) (hm : X.mg x = none) (hv : bootBuiltins x = some (.type "set")) (hn : x ≠ "__name__" := by decide) (hdb : (x == ("__debug__" : Str)) = false := by decide) : PM X W (.Call (.Name x p) [] [] pos) mSet0 := by
  refine pe_imp (pe_callTy0 cr_set0T hg hm hv hn hdb) fun σ H Q ⟨ρ, Γ, S, R, G, q⟩ => ?_
  refine ⟨rfl, fun p hp => ?_⟩
  obtain ⟨E, R2⟩ := R.setNew hp
  exact q _ _ _ E R2 (R.last p)
/-- in a set: that it is no member -/
def inSet : F2 := fun v w S => match tIntsOf v, w with
  | some k, .ref n => match S[n]? with
    | some (.setT ks) => if k ∈ ks then none else some (.bl false, S)
    | _ => none
  | _, _ => none
theorem oInSet (un : X.A.units + 64 < cLine) : OpP X (compareOp .In) inSet := by
  refine ⟨_, op_outT un, fun ρ S H v w x y Q R rv rw a => ?_⟩
  unfold inSet at a
  cases e : tIntsOf v with
  | none => rw [e] at a; exact a.elim
  | some k =>
    rw [e] at a
    cases v with
    | tup xs =>
      obtain ⟨b, ws, rfl, h1, h2⟩ := rv
      have hk := ints_of h2 e
      cases w with
      | ref n =>
        obtain ⟨c, hc, rfl⟩ := rw
        simp only at a
        cases es : S[n]? with
        | none => rw [es] at a; exact a.elim
        | some o =>
          cases o with
          | lst _ => rw [es] at a; exact a.elim
          | raw _ => rw [es] at a; exact a.elim
          | setT ks =>
            rw [es] at a
            simp only at a
            obtain ⟨L, h3, h4, h5⟩ := R.at_ n c _ hc es
            by_cases m : k ∈ ks
            · rw [if_pos m] at a; exact a.elim
            · rw [if_neg m] at a
              exact ⟨b, c, k, L, rfl, rfl, by rw [← hk]; exact h1, h3, h5, fun z => m (h4.mem_iff.mp z), a ρ H _ R.refl R rfl⟩
      | _ => exact a.elim
    | _ => cases e
def mAddS (o : ME) (t : MA) : ME := fun Γ S => (o Γ S).bind fun ov S1 => match ov with
  | .ref n => match S1[n]? with
    | some (.setT _) => (t Γ S1).bind fun vs S2 => match vs, S2[n]? with
      | [v], some (.setT ks) => match tIntsOf v with
        | some k => if k ∉ ks ∧ ks.length + 1 < 64 then .ok .non (S2.set n (.setT (k :: ks))) else .bad
        | none => .bad
      | _, _ => .bad
    | _ => .bad
  | _ => .bad
theorem RS.putS {K : KX} {ρ : List Addr} {S : Sto} {H : Hp} (R : RS K ρ S H) {n : Nat} {a : Addr} {o : Ob} {ks : List (List Int)} {L : List (Addr × List Int)} (ha : ρ[n]? = some a) (hs : S[n]? = some o) (hL : (L.map (·.2)).Perm ks) (h : ∀ p ∈ L, SqT K.K H p.1 (p.2.map V.int)) :
    Ext ρ ρ H (upd H a (SetTO K.P K.w a L)) ∧ RS K ρ (S.set n (.setT ks)) (upd H a (SetTO K.P K.w a L)) := by
  have am := List.mem_of_getElem? ha
  have E : Ext ρ ρ H (upd H a (SetTO K.P K.w a L)) := ⟨R.nt, ⟨[], by simp⟩, fun b u h hb => by rw [upd_ne (fun z => hb (by rw [z]; exact am))]; exact h, fun b h n => absurd h n⟩
  refine ⟨E, by simp [R.len], R.nd, fun m b u h1 h2 => ?_⟩
  by_cases e : n = m
  · subst e
    cases ha.symm.trans h1
    rw [List.getElem?_set_self (List.getElem?_eq_some_iff.mp hs).1] at h2
    cases h2
    exact ⟨L, upd_same, hL, fun p hp => E.sqt (h p hp)⟩
  · rw [List.getElem?_set_ne e] at h2
    refine (R.at_ m b u h1 h2).ext E ?_
    have : b ≠ a := fun z => by
      subst z
      have hm := (List.getElem?_eq_some_iff.mp h1)
      have hn := (List.getElem?_eq_some_iff.mp ha)
      exact nd_get R.nd e (hn.2.trans hm.2.symm)
    rw [upd_ne this]
theorem pm_addS {o e : Expr} {es : List Expr} {mo : ME} {t : MA} {apos cpos : Pos} (un : X.A.units + 64 < cLine) (ho : PM X W o mo) (ht : PMA X W (e :: es) t)
    (hbase : attributeBase o "add" X.env (eval o X.env) = eval o X.env := by rfl)
    (hfew : ((backTo cpos (starEach (e :: es) X.env)).all (fun x => !x.1) && (backToKw cpos (keywordEach [] X.env)).all (fun x => x.1.isSome) && decide ((e :: es).length + ([] : List Keyword).length + (if ([] : List Keyword).isEmpty then 0 else 1) < 30)) = true := by rfl)
    (hline : (apos.endLine == cpos.line) = true := by rfl) (hstar : starEach (e :: es) X.env = (false, eval e X.env) :: starEach es X.env := by rfl) (hplain : (backTo cpos (starEach es X.env)).any (·.1) = false := by rfl) :
    PM X W (.Call (.Attribute o "add" apos) (e :: es) [] cpos) (mAddS mo t) := by
  refine pe_imp (pe_addT un ho ht hbase hfew hline hstar hplain) fun σ H Q ⟨ρ, Γ, S, R, G, q⟩ => ?_
  refine ⟨ρ, Γ, S, R, G, q.bind fun ov S1 ρ1 H1 x E1 R1 rx q1 => ?_⟩
  cases ov with
  | ref n =>
    obtain ⟨a, ha, rfl⟩ := rx
    cases e : S1[n]? with
    | none => simp only [e] at q1; exact q1.elim
    | some ob =>
      cases ob with
      | lst _ => simp only [e] at q1; exact q1.elim
      | raw _ => simp only [e] at q1; exact q1.elim
      | setT ks1 =>
        simp only [e] at q1
        obtain ⟨L1, h1, _, h2⟩ := R1.at_ n a _ ha e
        refine ⟨⟨a, L1, rfl, h1, h2⟩, ρ1, Γ, S1, R1, G.ext E1, q1.bind fun vs S2 ρ2 H2 ys E2 R2 ry q2 => ?_⟩
        match vs, ry, q2 with
        | [], _, q2 => exact q2.elim
        | _ :: _ :: _, _, q2 => exact q2.elim
        | [v], ry, q2 =>
          obtain ⟨y, rfl, r1⟩ := one_of ry rfl
          have ha2 := E2.get ha
          cases e2 : S2[n]? with
          | none => simp only [e2] at q2; exact q2.elim
          | some ob =>
            cases ob with
            | lst _ => simp only [e2] at q2; exact q2.elim
            | raw _ => simp only [e2] at q2; exact q2.elim
            | setT ks =>
              simp only [e2] at q2
              obtain ⟨L, h3, h4, h5⟩ := R2.at_ n a _ ha2 e2
              cases ek : tIntsOf v with
              | none => simp only [ek] at q2; exact q2.elim
              | some k =>
                simp only [ek] at q2
                cases v with
                | tup xs =>
                  obtain ⟨b, ws, rfl, h6, h7⟩ := r1
                  have hk := ints_of h7 ek
                  by_cases c : k ∉ ks ∧ ks.length + 1 < 64
                  · rw [if_pos c] at q2
                    have hb : SqT (kxOf X).K H2 b (k.map V.int) := by rw [← hk]; exact h6
                    refine ⟨a, b, k, L, rfl, rfl, h3, hb, h5, fun z => c.1 (h4.mem_iff.mp z), ?_, fun L' pm => ?_⟩
                    · have := h4.length_eq
                      rw [List.length_map] at this
                      omega
                    · have hL' : (L'.map (fun p : Addr × List Int => p.2)).Perm (k :: ks) := (pm.map (fun p : Addr × List Int => p.2)).trans (List.Perm.cons k h4)
                      have hall : ∀ p ∈ L', SqT (kxOf X).K H2 p.1 (p.2.map V.int) := fun p hp => by
                        rcases List.mem_cons.mp (pm.mem_iff.mp hp) with z | z
                        · rw [z]; exact hb
                        · exact h5 p z
                      obtain ⟨E3, R3⟩ := R2.putS ha2 e2 hL' hall
                      exact q2 ρ2 _ _ E3 R3 rfl
                  · rw [if_neg c] at q2
                    exact q2.elim
                | _ => cases ek
  | _ => exact q1.elim
end
end PM

namespace PM
open PySem PySem.Spec PyProof.Rows L2 Q2
/-! ### sorted: of data -/
abbrev dle {β : Type} (k : β → PyData) : β → β → Bool := PySem.W.dataLe false k
def alikeB (ds : List PyData) : Bool := ds.all fun d => ds.all fun e => PySem.W.alike d e
def sortB (ds : List PyData) : Bool := (ds.all fun d => match d with
    | .tuple (_ :: _) => true
    | _ => false) || ds.all fun d => match d with
    | .none => false
    | .tuple _ => false
    | _ => true
theorem alike_of {ds : List PyData} (h : alikeB ds = true) : PySem.W.AllAlike ds := fun d hd e he => List.all_eq_true.mp (List.all_eq_true.mp h d hd) e he
theorem sort_of {ds : List PyData} (h : sortB ds = true) : PySem.W.Sortable ds := by
  unfold sortB at h
  rcases Bool.or_eq_true_iff.mp h with h | h
  · refine .inl fun d hd => ?_
    have := List.all_eq_true.mp h d hd
    cases d with
    | tuple xs =>
      cases xs with
      | nil => cases this
      | cons x r => exact ⟨x, r, rfl⟩
    | _ => cases this
  · refine .inr fun d hd => ?_
    have := List.all_eq_true.mp h d hd
    cases d with
    | none => cases this
    | tuple xs => cases this
    | _ => exact ⟨(fun z => by cases z), fun xs z => by cases z⟩
def sortable (ds : List PyData) : Bool := alikeB ds && sortB ds && ds.all fun d => decide (d.depth ≤ 40)
def sortPs (ps : List (Va × PyData)) : List Va := (ps.mergeSort (dle (·.2))).map (·.1)
def datsV (S : Sto) : List Va → Option (List (Va × PyData))
  | [] => some []
  | v :: r => match datOf S v, datsV S r with
    | some d, some ps => some ((v, d) :: ps)
    | _, _ => none
def fSort : FL := fL1 fun v S => match seqOf S v with
  | some xs => match datsV S xs with
    | some ps => if sortable (ps.map (·.2)) = true then mkL S (sortPs ps) else none
    | none => none
  | none => none
section
variable {X : Cx}
theorem eachV {K : KX} {H : Hp} : ∀ {bs : List (V × PyData)} {us : List Value}, Vals (bs.map (·.1)) us → PySem.W.EachIs (fun v (b : V × PyData) => RelV b.1 v) us bs
  | [], _, .nil => .nil
  | b :: bs, _, .cons r t => .cons r (eachV (K := K) (H := H) t)
theorem valsE : ∀ {bs : List (V × PyData)} {us : List Value}, PySem.W.EachIs (fun v (b : V × PyData) => RelV b.1 v) us bs → Vals (bs.map (·.1)) us
  | _, _, .nil => .nil
  | _, _, .cons h t => .cons h (valsE t)
theorem each_imp {α β : Type} {R R' : α → β → Prop} : ∀ {as : List α} {bs : List β}, PySem.W.EachIs R as bs → (∀ a b, b ∈ bs → R a b → R' a b) → PySem.W.EachIs R' as bs
  | _, _, .nil, _ => .nil
  | _, _, .cons h t, k => .cons (k _ _ (List.mem_cons_self ..) h) (each_imp t fun a b hb => k a b (List.mem_cons_of_mem _ hb))
def rSortD (K : PySem.W.Frag) : List V → Hp → VK → Prop := fun vs H Q => ∃ (a : Addr) (bs : List (V × PyData)), vs = [V.ref a] ∧ (SqL K H a (bs.map (·.1)) ∨ SqT K H a (bs.map (·.1))) ∧ (∀ b ∈ bs, Dp K H b.1 b.2) ∧
  PySem.W.AllAlike (bs.map (·.2)) ∧ PySem.W.Sortable (bs.map (·.2)) ∧ (∀ b ∈ bs, b.2.depth ≤ 40) ∧ ∀ p, H p = none → Q (.ref p) (upd H p (.lst ((bs.mergeSort (dle (·.2))).map (·.1))))
theorem cr_sortD (un : X.A.units + 64 < cLine) : CallR X (.builtin "sorted") (rSortD X.K) := by
  intro pins s σ H vs us Q I r h
  obtain ⟨a, bs, rfl, hs, ht, ha, ho, hd, q⟩ := h
  obtain rfl := Vals.ref1 r
  obtain ⟨its, rv, seq, hz⟩ := raw_seq I hs
  rw [List.length_map] at hz
  have ea := eachV (K := kxOf X) (H := H) rv
  refine sorted_plain (bs := bs) (enc := (·.2)) seq ea (each_imp ea fun v b hb hr => (ht b hb).reads I _ _ _ hr) ha ho hz (fun p hp => ?_) fun out hl e => ?_
  · have := hd p hp
    show X.A.units + 2 + p.2.depth < cLine
    omega
  · obtain ⟨ep, he⟩ := PyProof.Rows.sortedAll_at s.heap its (List.toArray out)
    refine ⟨.ref _, upd H (s.heap.objs.size + 1) (.lst ((bs.mergeSort (dle (·.2))).map (·.1))), I.laid (t' := s.toks) (fun _ _ => PyProof.Rows.sortedAll_old) (Nat.le_succ _) ⟨?_, out, ep, valsE e, he⟩, rfl, q _ (I.hok.fresh (Nat.le_succ _))⟩
    rw [List.length_map, List.length_mergeSort]
    exact hz
theorem dats_get {K : KX} {ρ : List Addr} {S : Sto} {H : Hp} (R : RS K ρ S H) : ∀ {xs : List Va} {ws : List V} {ps : List (Va × PyData)}, Rvs K ρ H xs ws → datsV S xs = some ps →
    ∃ ts : List (Va × V × PyData), ts.map (·.1) = xs ∧ ts.map (·.2.1) = ws ∧ ts.map (fun t => (t.1, t.2.2)) = ps ∧ ∀ t ∈ ts, Rv K ρ H t.1 t.2.1 ∧ Dp K.K H t.2.1 t.2.2
  | [], _, ps, h, e => by
    cases h
    cases e
    exact ⟨[], rfl, rfl, rfl, fun t h => absurd h (List.not_mem_nil)⟩
  | x :: xs, _, ps, h, e => by
    obtain ⟨w, r, rfl, h1, h2⟩ := h
    unfold datsV at e
    cases e1 : datOf S x with
    | none => rw [e1] at e; cases e
    | some d =>
      cases e2 : datsV S xs with
      | none => rw [e1, e2] at e; cases e
      | some ps' =>
        rw [e1, e2] at e
        cases e
        obtain ⟨ts, a, b, c, g⟩ := dats_get R h2 e2
        refine ⟨(x, w, d) :: ts, by simp [a], by simp [b], by simp [c], fun t ht => ?_⟩
        rcases List.mem_cons.mp ht with z | z
        · subst z
          exact ⟨h1, (dat_of R h1 e1).1⟩
        · exact g t z
theorem Rvs.map {K : KX} {ρ : List Addr} {H : Hp} {α : Type} {f : α → Va} {g : α → V} : ∀ {ts : List α}, (∀ t ∈ ts, Rv K ρ H (f t) (g t)) → Rvs K ρ H (ts.map f) (ts.map g)
  | [], _ => rfl
  | t :: ts, h => Rvs.cons (h t (List.mem_cons_self ..)) (Rvs.map fun x hx => h x (List.mem_cons_of_mem _ hx))
theorem cSort (un : X.A.units + 64 < cLine) : CallP X (.builtin "sorted") fSort := by
  refine ⟨_, cr_sortD un, callM1 fun ρ S H v x Q R r a => ?_⟩
  cases e : seqOf S v with
  | none => simp only [e] at a; exact a.elim
  | some xs =>
    simp only [e] at a
    obtain ⟨p, ws, rfl, h1, h2⟩ := seq_of R r e
    cases e2 : datsV S xs with
    | none => simp only [e2] at a; exact a.elim
    | some ps =>
      simp only [e2] at a
      obtain ⟨ts, t1, t2, t3, g⟩ := dats_get R h2 e2
      obtain ⟨c, a⟩ := ans_if a
      unfold sortable at c
      rw [Bool.and_eq_true, Bool.and_eq_true] at c
      have es : ps.map (·.2) = (ts.map (·.2)).map (·.2) := by rw [← t3]; simp [List.map_map, Function.comp_def]
      have ew : (ts.map (·.2)).map (·.1) = ws := by rw [← t2]; simp [List.map_map, Function.comp_def]
      have m1 : (ts.mergeSort (dle (fun t => t.2.2))).map (fun t => (t.1, t.2.2)) = ps.mergeSort (dle (·.2)) := by
        rw [← t3]
        exact List.map_mergeSort fun a _ b _ => rfl
      have m2 : (ts.mergeSort (dle (fun t => t.2.2))).map (·.2) = (ts.map (·.2)).mergeSort (dle (·.2)) := List.map_mergeSort fun a _ b _ => rfl
      refine ⟨p, ts.map (·.2), rfl, by rw [ew]; exact h1, fun b hb => ?_, by rw [← es]; exact alike_of c.1.1, by rw [← es]; exact sort_of c.1.2, fun b hb => ?_, ?_⟩
      · obtain ⟨t, ht, rfl⟩ := List.mem_map.mp hb
        exact (g t ht).2
      · refine of_decide_eq_true (List.all_eq_true.mp c.2 b.2 ?_)
        rw [es]
        exact List.mem_map_of_mem hb
      · refine (mkL_ans R a ?_).2
        unfold sortPs
        rw [← m1, ← m2, List.map_map, List.map_map]
        refine Rvs.map fun t ht => ?_
        exact (g t ((List.mergeSort_perm _ _).mem_iff.mp ht)).1
end
/-- in: a list of data, or a set that has it not -/
def inF : F2 := orF2 (inD false) inSet
theorem oInF {X : Cx} (hu : X.A.units + 65 < cLine) : OpP X (compareOp .In) inF := (oIn hu).or (oInSet (by omega))
/-! ### isinstance(x, (A, B)) -/
def kitAnyB (k : String) : List String → Option Bool
  | [] => some false
  | c :: r => match kitB k c with
    | some true => some true
    | some false => kitAnyB k r
    | none => none
theorem kitAny_of {K : PySem.W.Frag} {k : String} {b : Bool} : ∀ {ts : List String}, kitAnyB k ts = some b → PySem.W.kitAny K (.type k) (ts.map Value.type) = some b
  | [], h => h
  | c :: r, h => by
    unfold kitAnyB at h
    show (match PySem.W.kitOne K (.type k) (.type c) with
      | some true => some true
      | some false => PySem.W.kitAny K (.type k) (r.map Value.type)
      | none => none) = some b
    cases e : kitB k c with
    | none => rw [e] at h; cases h
    | some q =>
      rw [e] at h
      rw [kit_ty e]
      cases q with
      | true => exact h
      | false => exact kitAny_of h
def mIsiT (a : ME) (ts : List String) : ME := fun Γ S => (a Γ S).bind fun v S1 => match kindV S1 v with
  | some k => match kitAnyB k ts with
    | some b => .ok (.bl b) S1
    | none => .bad
  | none => .bad
theorem pairedTy : ∀ ts : List String, Paired ClsV (ts.map V.ty) (ts.map Value.type)
  | [] => .nil
  | t :: ts => .cons (.ty t) (pairedTy ts)
theorem pm_isiT {X : Cx} {W : XW} {x : Str} {e : Expr} {es : List Expr} {ma : ME} {ts : List String} {n : Nat} {p pos tpos : Pos} (hg : Gl X x) (hm : X.mg x = none) (hv : bootBuiltins x = some (.builtin "isinstance")) (ha : PM X W e ma) (ht : PA X es fun _ H Q => Q (ts.map V.ty) H) (hl : ts.length ≤ sizeLine)
    (hn : x ≠ "__name__" := by decide) (hdb : (x == ("__debug__" : Str)) = false := by decide)
    (he : starEach [e, .Tuple es n tpos] X.env = (false, eval e X.env) :: starEach [.Tuple es n tpos] X.env := by rfl) (he2 : starEach [.Tuple es n tpos] X.env = (false, eval (.Tuple es n tpos) X.env) :: starEach [] X.env := by rfl) (hpl : (backTo pos (starEach [.Tuple es n tpos] X.env)).any (·.1) = false := by rfl) :
    PM X W (.Call (.Name x p) [e, .Tuple es n tpos] [] pos) (mIsiT ma ts) := by
  refine pe_imp (pe_callB call_isiT hg hm hv (pa_cons ha (pa_cons (pe_tup ht) pa_nil he2) he) hn hdb he hpl) fun σ H Q ⟨ρ, Γ, S, R, G, q⟩ => ?_
  refine ⟨ρ, Γ, S, R, G, q.bind fun v S1 ρ1 H1 y E1 R1 rx q1 => ?_⟩
  refine ⟨by rw [List.length_map]; exact hl, fun l hl' => ?_⟩
  cases e1 : kindV S1 v with
  | none => simp only [e1] at q1; exact q1.elim
  | some k =>
    simp only [e1] at q1
    cases e2 : kitAnyB k ts with
    | none => simp only [e2] at q1; exact q1.elim
    | some b =>
      simp only [e2] at q1
      obtain ⟨E2, R2⟩ := R1.own (o := .tup (ts.map V.ty)) hl'
      exact ⟨y, l, ts.map V.ty, .type k, ts.map Value.type, b, rfl, upd_same, pairedTy ts, tyx_of R2 (rx.ext E2) e1, kitAny_of e2, q1 ρ1 _ _ E2 R2 rfl⟩
end PM

namespace PM
open PySem PySem.Spec PyProof.Rows L2 Q2
section
variable {X : Cx} {W : XW}
/-! ### xs[::-1], a list -/
def mRevSl (a : ME) : ME := fun Γ S => (a Γ S).bind fun v S1 => match lstOf S1 v with
  | some xs => lift (mkL S1 xs.reverse)
  | none => .bad
theorem pm_revSl {e : Expr} {ma : ME} {k : Nat} {p1 p2 p3 pos : Pos} (ha : PM X W e ma) : PM X W (.Subscript e (.Slice none none (some (.UnaryOp .USub (.Constant (.int 1) k p1) p2)) p3) pos) (mRevSl ma) := by
  refine pe_imp (pe_revL ha) fun σ H Q ⟨ρ, Γ, S, R, G, q⟩ => ?_
  refine ⟨ρ, Γ, S, R, G, q.bind fun v S1 ρ1 H1 x E1 R1 rx q1 => ?_⟩
  cases e : lstOf S1 v with
  | none => simp only [e] at q1; exact q1.elim
  | some xs =>
    simp only [e] at q1
    obtain ⟨p, ws, rfl, h1, h2⟩ := lst_of R1 rx e
    exact ⟨p, ws.reverse.reverse, rfl, by rw [List.reverse_reverse]; exact h1, by rw [List.reverse_reverse]; exact (mkL_ans R1 q1.ans h2.rev).2⟩
/-! ### xs.extend(ys), both lists of the store -/
def mExt (o : ME) (t : MA) : ME := fun Γ S => (o Γ S).bind fun ov S1 => match ov with
  | .ref n => match S1[n]? with
    | some (.lst _) => (t Γ S1).bind fun vs S2 => match vs, S2[n]? with
      | [.ref m], some (.lst xs) => match S2[m]? with
        | some (.lst ys) => if xs.length + ys.length ≤ sizeLine then .ok .non (S2.set n (.lst (xs ++ ys))) else .bad
        | _ => .bad
      | _, _ => .bad
    | _ => .bad
  | _ => .bad
theorem pm_extend {o e : Expr} {es : List Expr} {mo : ME} {t : MA} {apos cpos : Pos} (ho : PM X W o mo) (ht : PMA X W (e :: es) t)
    (hbase : attributeBase o "extend" X.env (eval o X.env) = eval o X.env := by rfl)
    (hfew : ((backTo cpos (starEach (e :: es) X.env)).all (fun x => !x.1) && (backToKw cpos (keywordEach [] X.env)).all (fun x => x.1.isSome)
      && decide ((e :: es).length + ([] : List Keyword).length + (if ([] : List Keyword).isEmpty then 0 else 1) < 30)) = true := by rfl)
    (hline : (apos.endLine == cpos.line) = true := by rfl) (hs : starEach (e :: es) X.env = (false, eval e X.env) :: starEach es X.env := by rfl) (hplain : (backTo cpos (starEach es X.env)).any (·.1) = false := by rfl) :
    PM X W (.Call (.Attribute o "extend" apos) (e :: es) [] cpos) (mExt mo t) := by
  refine pe_imp (pe_bm PySem.F.plainAttrs_list PySem.F.slot_list_extend PySem.F.type_list_extend mt_extend ho ht hbase hfew hline hs hplain) fun σ H Q ⟨ρ, Γ, S, R, G, q⟩ => ?_
  refine ⟨ρ, Γ, S, R, G, q.bind fun ov S1 ρ1 H1 x E1 R1 rx q1 => ?_⟩
  cases ov with
  | ref n =>
    obtain ⟨a, ha, rfl⟩ := rx
    cases e : S1[n]? with
    | none => simp only [e] at q1; exact q1.elim
    | some ob =>
      cases ob with
      | setT _ => simp only [e] at q1; exact q1.elim
      | raw _ => simp only [e] at q1; exact q1.elim
      | lst xs1 =>
        simp only [e] at q1
        obtain ⟨_, ws1, h1, _⟩ := R1.at_ n a _ ha e
        refine ⟨.inl ⟨rfl, ws1, SqL.of h1⟩, ρ1, Γ, S1, R1, G.ext E1, q1.bind fun vs S2 ρ2 H2 ys E2 R2 ry q2 => ?_⟩
        cases vs with
        | nil => exact q2.elim
        | cons v r =>
          cases r with
          | cons _ _ => cases v <;> exact q2.elim
          | nil =>
            obtain ⟨y, rfl, r1⟩ := one_of ry rfl
            have ha2 := E2.get ha
            cases v with
            | ref m =>
              obtain ⟨b, hb, rfl⟩ := r1
              cases e2 : S2[n]? with
              | none => simp only [e2] at q2; exact q2.elim
              | some ob =>
                cases ob with
                | setT _ => simp only [e2] at q2; exact q2.elim
                | raw _ => simp only [e2] at q2; exact q2.elim
                | lst xs =>
                  cases e3 : S2[m]? with
                  | none => simp only [e2, e3] at q2; exact q2.elim
                  | some ob =>
                    cases ob with
                    | setT _ => simp only [e2, e3] at q2; exact q2.elim
                    | raw _ => simp only [e2, e3] at q2; exact q2.elim
                    | lst zs =>
                      simp only [e2, e3] at q2
                      obtain ⟨_, ws, h4, h5⟩ := R2.at_ n a _ ha2 e2
                      obtain ⟨_, us, h6, h7⟩ := R2.at_ m b _ hb e3
                      by_cases hl : xs.length + zs.length ≤ sizeLine
                      · rw [if_pos hl] at q2
                        refine ⟨a, b, ws, us, rfl, rfl, h4, h6, by rw [← h5.len, ← h7.len]; exact hl, ?_⟩
                        obtain ⟨E3, R3⟩ := R2.put ha2 e2 (by rw [List.length_append]; exact hl) (h5.app h7)
                        exact q2 ρ2 _ _ E3 R3 rfl
                      · rw [if_neg hl] at q2
                        exact q2.elim
            | _ => exact q2.elim
  | _ => exact q1.elim
/-! ### o[i] op= e, a list -/
def sAugSub (f : F2) (o i m : ME) : MS := fun Γ S => thenS Γ (o Γ S) fun ov S1 => thenS Γ (i Γ S1) fun iv S2 => match ov, iv with
  | .ref n, .int k => match S2[n]? with
    | some (.lst xs) => match L2.atI xs k with
      | some x => thenS Γ (m Γ S2) fun v S3 => thenS Γ (lift (f x v S3)) fun z S4 => match S4[n]? with
        | some (.lst ys) => match ixN ys.length k with
          | some j => .nx Γ (S4.set n (.lst (ys.set j z)))
          | none => .bad
        | _ => .bad
      | none => .bad
    | _ => .bad
  | _, _ => .bad
theorem get_list : PGet X (rIxL X.K) := by
  intro pins s σ H x y v u Q I rx ry h
  obtain ⟨p, xs, i, z, rfl, rfl, hq, he, q⟩ := h
  cases rx
  obtain ⟨t, rfl⟩ := ry
  obtain ⟨its, r, pl, hz⟩ := I.list hq
  obtain ⟨j, h1, h2, h3, h4, h5⟩ := atI_get he
  obtain ⟨w, ew, rw'⟩ := r.get h2
  have hl := r.length
  have hn := line63
  have fin : EP X pins σ Q w s := ⟨z, H, I, rw', q⟩
  by_cases h0 : 0 ≤ i
  · have hj : i.toNat = j := by
      rw [seqIndex_of h0 h5] at h1
      exact Option.some.inj h1
    exact wpAny_getItem_list pl.isList h0 (by omega) (by rw [hj]; simpa using ew) fin
  · have hj : (i + (its.toArray.size : Int)).toNat = j := by
      rw [seqIndex_neg (by omega) h4] at h1
      rw [List.size_toArray, ← hl]
      exact Option.some.inj h1
    exact wpAny_getItem_list_neg pl.isList (by omega) (by rw [List.size_toArray] <;> omega) (by omega) (by rw [hj]; simpa using ew) fin
theorem pms_augSub {o i e : Expr} {mo mi m : ME} {op : Operator} {f : F2} {tpos pos : Pos} (hf : IpP X op f) (ho : PM X W o mo) (hi : PM X W i mi) (h : PM X W e m)
    (ha : ∀ ov iv new, augStore i ov iv new = (do holding [new, ov, iv] (setItem ov iv new); release [new, ov, iv] []; pure .next) := by intros; rfl) : PMS X W (.AugAssign (.Subscript o i tpos) op e pos) (sAugSub f mo mi m) := by
  obtain ⟨r, hr, hm⟩ := hf
  refine ps_imp (ps_augS (pos := pos) ho hi get_list h hr set_list ha) fun D σ H ⟨ρ, Γ, S, R, G, q⟩ => ?_
  refine ⟨ρ, Γ, S, R, G, AftS.bind G q fun ov S1 ρ1 H1 x E1 R1 rx q1 => ?_⟩
  refine ⟨ρ1, Γ, S1, R1, G.ext E1, AftS.bind (G.ext E1) q1 fun iv S2 ρ2 H2 y E2 R2 ry q2 => ?_⟩
  cases ov with
  | ref n =>
    cases iv with
    | int k =>
      obtain ⟨a, ha, rfl⟩ := rx.ext E2
      cases ry
      cases e1 : S2[n]? with
      | none => simp only [e1] at q2; exact q2.elim
      | some ob =>
        cases ob with
        | setT _ => simp only [e1] at q2; exact q2.elim
        | raw _ => simp only [e1] at q2; exact q2.elim
        | lst xs =>
          simp only [e1] at q2
          obtain ⟨hl, ws, h1, h2⟩ := R2.at_ n a _ ha e1
          cases e2 : L2.atI xs k with
          | none => simp only [e2] at q2; exact q2.elim
          | some x =>
            simp only [e2] at q2
            obtain ⟨u, h3, r3⟩ := h2.atI e2
            have G2 := (G.ext E1).ext E2
            refine ⟨a, ws, k, u, rfl, rfl, SqL.of h1, h3, ρ2, Γ, S2, R2, G2, AftS.bind G2 q2 fun v S3 ρ3 H3 y E3 R3 ry q3 => ?_⟩
            refine hm ρ3 S3 H3 x v u y _ R3 (r3.ext E3) ry ?_
            cases e3 : f x v S3 with
            | none => rw [e3] at q3; exact q3.elim
            | some p =>
              obtain ⟨z, S4⟩ := p
              rw [e3] at q3
              intro ρ4 H4 z' E4 R4 rz
              have q3 : AftS (kxOf X) W D ρ3 H3 (match S4[n]? with
                | some (.lst ys) => match ixN ys.length k with
                  | some j => .nx Γ (S4.set n (.lst (ys.set j z)))
                  | none => .bad
                | _ => .bad) := q3
              have ha4 := E4.get (E3.get ha)
              cases e4 : S4[n]? with
              | none => simp only [e4] at q3; exact q3.elim
              | some ob =>
                cases ob with
                | setT _ => simp only [e4] at q3; exact q3.elim
                | raw _ => simp only [e4] at q3; exact q3.elim
                | lst ys =>
                  simp only [e4] at q3
                  obtain ⟨hl4, ws4, h5, h6⟩ := R4.at_ n a _ ha4 e4
                  cases e5 : ixN ys.length k with
                  | none => simp only [e5] at q3; exact q3.elim
                  | some j =>
                    simp only [e5] at q3
                    refine ⟨a, ws4, k, j, rfl, rfl, h5, by rw [← h6.len]; exact e5, ?_⟩
                    obtain ⟨E5, R5⟩ := R4.put ha4 e4 (by rw [List.length_set]; exact hl4) (h6.set j rz)
                    exact q3 ρ4 _ σ (E4.trans E5) R5 (((G2.ext E3).ext E4).ext E5)
    | _ => exact q2.elim
  | _ => exact q2.elim
end
end PM

namespace PM
open PySem PySem.Spec PyProof.Rows L2 Q2
/-! ### comprehensions of two clauses: the list stands in the store from the start -/
def putG (n : Nat) (v : Va) (S : Sto) : Option Sto := match S[n]? with
  | some (.lst xs) => if xs.length < sizeLine then some (S.set n (.lst (xs ++ [v]))) else none
  | _ => none
def compG (n : Nat) (it : ItV) (g : MG) (mt : MT) (me : ME) (Γ : En) : Nat → Nat → Sto → Res Unit
  | 0, i, S => match it.get i S with
    | some none => .ok () S
    | _ => .bad
  | k + 1, i, S => match it.get i S with
    | some none => .ok () S
    | none => .bad
    | some (some x) => (g x Γ S).bindN fun Γ1 S1 => (mt Γ1 S1).bindN fun b S2 => if b = true then (me Γ1 S2).bindN fun y S3 => match putG n y S3 with
        | some S4 => compG n it g mt me Γ k (i + 1) S4
        | none => .bad
        else compG n it g mt me Γ k (i + 1) S2
def comp2G (n : Nat) (it : ItV) (g : MG) (mt : MT) (mi1 : MI) (g1 : MG) (mt1 : MT) (me : ME) (vs1 : List Nat) (Γ : En) : Nat → Nat → Sto → Res Unit
  | 0, i, S => match it.get i S with
    | some none => .ok () S
    | _ => .bad
  | k + 1, i, S => match it.get i S with
    | some none => .ok () S
    | none => .bad
    | some (some x) => (g x Γ S).bindN fun Γ1 S1 => (mt Γ1 S1).bindN fun b S2 => if b = true then (mi1 Γ1 S2).bindN fun it1 S3 => (compG n it1 g1 mt1 me (wipeE Γ1 vs1) (it1.fuel S3) 0 S3).bindN fun _ S4 => comp2G n it g mt mi1 g1 mt1 me vs1 Γ k (i + 1) S4
        else comp2G n it g mt mi1 g1 mt1 me vs1 Γ k (i + 1) S2
def mLc2 (mi : MI) (g : MG) (mt : MT) (mi1 : MI) (g1 : MG) (mt1 : MT) (me : ME) (vs vs1 : List Nat) : ME := fun Γ S => (mi Γ S).bind fun it S1 => (comp2G S1.length it g mt mi1 g1 mt1 me vs1 (wipeE Γ vs) (it.fuel S1) 0 (S1 ++ [.lst []])).bindN fun _ S2 => .ok (.ref S1.length) S2
section
variable {X : Cx} {W : XW}
theorem lc2_imp {K : KX} {mi mi1 : MI} {g g1 : MG} {mt mt1 : MT} {me : ME} {us us1 vs vs1 : List Nat} (sub : ∀ i ∈ us, i ∈ vs) (sub1 : ∀ i ∈ us1, i ∈ vs1) (σ : L2.St) (H : Hp) (Q : VK) (h : tM K W (mLc2 mi g mt mi1 g1 mt1 me vs vs1) σ H Q) :
    tLc2 (tMI K W mi) (tMG K WF us g) (tMT K WF mt) (tMI K WF mi1) (tMG K WF us1 g1) (tMT K WF mt1) (tM K WF me) vs vs1 σ H Q := by
  obtain ⟨ρ, Γ, S, R, G, q⟩ := h
  refine ⟨ρ, Γ, S, R, G, q.bind fun it S1 ρ1 H1 J E1 R1 hJ q1 => ?_⟩
  intro D nD
  obtain ⟨E2, R2⟩ := R1.new (xs := []) (ws := []) nD (Nat.zero_le _) rfl
  generalize hn : S1.length = n at q1
  have hD0 : (ρ1 ++ [D])[n]? = some D := by rw [← hn, ← R1.len, List.getElem?_append_right (Nat.le_refl _), Nat.sub_self]; rfl
  refine ⟨fun i m H' => ∃ ρ' S', Ext (ρ1 ++ [D]) ρ' (upd H1 D (.lst [])) H' ∧ RS K ρ' S' H' ∧ Aft K W σ (Rv K) Q ρ1 H1 ((comp2G n it g mt mi1 g1 mt1 me vs1 (wipeE Γ vs) m i S').bindN fun _ S2 => .ok (.ref n) S2), ⟨_, _, _, R2.refl, R2, q1⟩, ?_⟩
  rintro i m H' ⟨ρ', S', E', R', q'⟩
  have EE := E2.trans E'
  have hD := E'.get hD0
  have stop : J.stop i H' → Aft K W σ (Rv K) Q ρ1 H1 (Res.ok (.ref n) S') → J.stop i H' ∧ Q (.ref D) H' := fun h1 h2 => ⟨h1, h2 ρ' H' (.ref D) EE R' ⟨D, hD, rfl⟩⟩
  have go := hJ ρ' S' H' EE R' i
  cases m with
  | zero =>
    unfold comp2G at q'
    cases e : it.get i S' with
    | none => rw [e] at q'; exact q'.elim
    | some o =>
      cases o with
      | some x => rw [e] at q'; exact q'.elim
      | none =>
        rw [e] at q' go
        exact .inl (stop go q')
  | succ k =>
    unfold comp2G at q'
    cases e : it.get i S' with
    | none => rw [e] at q'; exact q'.elim
    | some o =>
      cases o with
      | none =>
        rw [e] at q' go
        exact .inl (stop go q')
      | some x =>
        rw [e] at q' go
        refine .inr ⟨go.1, fun H2 => ∃ ρ2 S2, Ext (ρ1 ++ [D]) ρ2 (upd H1 D (.lst [])) H2 ∧ RS K ρ2 S2 H2 ∧ Aft K W σ (Rv K) Q ρ1 H1 ((comp2G n it g mt mi1 g1 mt1 me vs1 (wipeE Γ vs) k (i + 1) S2).bindN fun _ S2 => .ok (.ref n) S2), fun H2 h => ⟨k, Nat.lt_succ_self k, h⟩, fun y H2 hy => ?_⟩
        obtain ⟨E3, R3, r3⟩ := go.2 y H2 hy
        have G3 : RE K ρ' H2 (wipeE Γ vs) (L2.wipe σ vs) := (((G.ext E1).ext EE).ext E3).wipe vs
        have q' : Aft K W σ (Rv K) Q ρ1 H1 (((g x (wipeE Γ vs) S').bindN fun Γ1 S1 => (mt Γ1 S1).bindN fun b S2 => if b = true then (mi1 Γ1 S2).bindN fun it1 S3 => (compG n it1 g1 mt1 me (wipeE Γ1 vs1) (it1.fuel S3) 0 S3).bindN fun _ S4 => comp2G n it g mt mi1 g1 mt1 me vs1 (wipeE Γ vs) k (i + 1) S4
          else comp2G n it g mt mi1 g1 mt1 me vs1 (wipeE Γ vs) k (i + 1) S2).bindN fun _ S2 => .ok (.ref n) S2) := q'
        refine ⟨ρ', wipeE Γ vs, S', x, R3, G3, r3, ?_⟩
        cases eg : g x (wipeE Γ vs) S' with
        | bad => rw [eg] at q'; exact q'.elim
        | ex a b c d => rw [eg] at q'; exact q'.elim
        | ok Γ4 S4 =>
          rw [eg, bindN_ok] at q'
          rintro ρ4 H4 σ4 E4 R4 ⟨G4, ag⟩
          refine ⟨(ag vs sub).trans (wipe_wipe σ vs), ρ4, Γ4, S4, R4, G4, ?_⟩
          cases et : mt Γ4 S4 with
          | bad => rw [et] at q'; exact q'.elim
          | ex a b c d => rw [et] at q'; exact q'.elim
          | ok b S5 =>
            rw [et, bindN_ok] at q'
            rintro ρ5 H5 b' E5 R5 rfl
            have E15 : Ext (ρ1 ++ [D]) ρ5 (upd H1 D (.lst [])) H5 := ((E'.trans E3).trans E4).trans E5
            cases b' with
            | false => exact iteF ⟨ρ5, S5, E15, R5, q'⟩
            | true =>
              refine iteT ⟨ρ5, Γ4, S5, R5, G4.ext E5, ?_⟩
              rw [if_pos rfl] at q'
              cases em : mi1 Γ4 S5 with
              | bad => rw [em] at q'; exact q'.elim
              | ex a b c d => rw [em] at q'; exact q'.elim
              | ok it1 S6 =>
                rw [em, bindN_ok] at q'
                intro ρ6 H6 J1 E6 R6 hJ1
                have G6 := (G4.ext E5).ext E6
                refine ⟨fun j kk H' => ∃ ρ' S', Ext ρ6 ρ' H6 H' ∧ RS K ρ' S' H' ∧ Aft K W σ (Rv K) Q ρ1 H1 (((compG n it1 g1 mt1 me (wipeE Γ4 vs1) kk j S').bindN fun _ S4 => comp2G n it g mt mi1 g1 mt1 me vs1 (wipeE Γ vs) k (i + 1) S4).bindN fun _ S2 => .ok (.ref n) S2), ⟨_, ρ6, S6, R6.refl, R6, q'⟩, ?_⟩
                rintro j kk H7 ⟨ρ7, S7, E7, R7, q7⟩
                have E17 : Ext (ρ1 ++ [D]) ρ7 (upd H1 D (.lst [])) H7 := (E15.trans E6).trans E7
                have go1 := hJ1 ρ7 S7 H7 E7 R7 j
                cases kk with
                | zero =>
                  unfold compG at q7
                  cases e1 : it1.get j S7 with
                  | none => rw [e1] at q7; exact q7.elim
                  | some o =>
                    cases o with
                    | some x => rw [e1] at q7; exact q7.elim
                    | none =>
                      rw [e1] at q7 go1
                      exact .inl ⟨go1, ρ7, S7, E17, R7, q7⟩
                | succ k1 =>
                  unfold compG at q7
                  cases e1 : it1.get j S7 with
                  | none => rw [e1] at q7; exact q7.elim
                  | some o =>
                    cases o with
                    | none =>
                      rw [e1] at q7 go1
                      exact .inl ⟨go1, ρ7, S7, E17, R7, q7⟩
                    | some x1 =>
                      rw [e1] at q7 go1
                      refine .inr ⟨go1.1, fun H2 => ∃ ρ2 S2, Ext ρ6 ρ2 H6 H2 ∧ RS K ρ2 S2 H2 ∧ Aft K W σ (Rv K) Q ρ1 H1 (((compG n it1 g1 mt1 me (wipeE Γ4 vs1) k1 (j + 1) S2).bindN fun _ S4 => comp2G n it g mt mi1 g1 mt1 me vs1 (wipeE Γ vs) k (i + 1) S4).bindN fun _ S2 => .ok (.ref n) S2), fun H2 h => ⟨k1, Nat.lt_succ_self k1, h⟩, fun y1 H8 hy1 => ?_⟩
                      obtain ⟨E8, R8, r8⟩ := go1.2 y1 H8 hy1
                      have G8 : RE K ρ7 H8 (wipeE Γ4 vs1) (L2.wipe σ4 vs1) := ((G6.ext E7).ext E8).wipe vs1
                      have q7 : Aft K W σ (Rv K) Q ρ1 H1 ((((g1 x1 (wipeE Γ4 vs1) S7).bindN fun Γ1 S1 => (mt1 Γ1 S1).bindN fun b S2 => if b = true then (me Γ1 S2).bindN fun y S3 => match putG n y S3 with
                        | some S4 => compG n it1 g1 mt1 me (wipeE Γ4 vs1) k1 (j + 1) S4
                        | none => .bad
                        else compG n it1 g1 mt1 me (wipeE Γ4 vs1) k1 (j + 1) S2).bindN fun _ S4 => comp2G n it g mt mi1 g1 mt1 me vs1 (wipeE Γ vs) k (i + 1) S4).bindN fun _ S2 => .ok (.ref n) S2) := q7
                      refine ⟨ρ7, wipeE Γ4 vs1, S7, x1, R8, G8, r8, ?_⟩
                      cases eg1 : g1 x1 (wipeE Γ4 vs1) S7 with
                      | bad => rw [eg1] at q7; exact q7.elim
                      | ex a b c d => rw [eg1] at q7; exact q7.elim
                      | ok Γ9 S9 =>
                        rw [eg1, bindN_ok] at q7
                        rintro ρ9 H9 σ9 E9 R9 ⟨G9, ag9⟩
                        refine ⟨(ag9 vs1 sub1).trans (wipe_wipe σ4 vs1), ρ9, Γ9, S9, R9, G9, ?_⟩
                        cases et1 : mt1 Γ9 S9 with
                        | bad => rw [et1] at q7; exact q7.elim
                        | ex a b c d => rw [et1] at q7; exact q7.elim
                        | ok b1 S10 =>
                          rw [et1, bindN_ok] at q7
                          rintro ρ10 H10 b1' E10 R10 rfl
                          have E710 : Ext ρ6 ρ10 H6 H10 := ((E7.trans E8).trans E9).trans E10
                          cases b1' with
                          | false => exact iteF ⟨ρ10, S10, E710, R10, q7⟩
                          | true =>
                            refine iteT ⟨ρ10, Γ9, S10, R10, G9.ext E10, ?_⟩
                            rw [if_pos rfl] at q7
                            cases ee : me Γ9 S10 with
                            | bad => rw [ee] at q7; exact q7.elim
                            | ex a b c d => rw [ee] at q7; exact q7.elim
                            | ok z S11 =>
                              rw [ee, bindN_ok] at q7
                              intro ρ11 H11 z' E11 R11 rz
                              have hD11 : ρ11[n]? = some D := ((E15.trans E6).trans (E710.trans E11)).get hD0
                              cases ep : putG n z S11 with
                              | none => simp only [ep] at q7; exact q7.elim
                              | some S12 =>
                                simp only [ep] at q7
                                unfold putG at ep
                                cases es : S11[n]? with
                                | none => rw [es] at ep; cases ep
                                | some ob =>
                                  rw [es] at ep
                                  cases ob with
                                  | setT _ => cases ep
                                  | raw _ => cases ep
                                  | lst xs =>
                                    simp only at ep
                                    by_cases hl : xs.length < sizeLine
                                    · rw [if_pos hl] at ep
                                      cases ep
                                      obtain ⟨_, ws, hw, rw'⟩ := R11.at_ n D _ hD11 es
                                      obtain ⟨E12, R12⟩ := R11.put hD11 es (xs := xs ++ [z]) (ws := ws ++ [z']) (by rw [List.length_append]; exact hl) (rw'.app (Rvs.cons rz Rvs.nil))
                                      exact ⟨ws, hw, by rw [← rw'.len]; exact hl, ρ11, _, (E710.trans E11).trans E12, R12, q7⟩
                                    · rw [if_neg hl] at ep
                                      cases ep
section
variable {elt tg iter tg1 iter1 : Expr} {ifs ifs1 : List Expr} {scope : Scope} {own : List (Str × Nat)} {vs1 us us1 : List Nat} {pos : Pos} {mi mi1 : MI} {g g1 : MG} {mt mt1 : MT} {me : ME}
theorem pm_lc2 (hc : X.calm = true) (hN : X.N.Nodup) (hi : PMI X W tg iter mi) (ok : BlkOk X.N X.env.scope scope own) (hv : ∀ i ∈ vs1, i ∈ own.map (·.2)) (sub : ∀ i ∈ us, i ∈ own.map (·.2)) (sub1 : ∀ i ∈ us1, i ∈ vs1)
    (hg : ∀ (s : Shared) (H : Hp) (C : Addr) (cl : List (Str × Addr)) (fp : List Addr), PMG (X.blk s H scope (compEnvC scope cl C X.env) fp) WF us tg g) (ht : ∀ (s : Shared) (H : Hp) (C : Addr) (cl : List (Str × Addr)) (fp : List Addr), PMTs (X.blk s H scope (compEnvC scope cl C X.env) fp) WF ifs mt)
    (hi1 : ∀ (s : Shared) (H : Hp) (C : Addr) (cl : List (Str × Addr)) (fp : List Addr), PMI (X.blk s H scope (compEnvC scope cl C X.env) fp) WF tg1 iter1 mi1)
    (hg1 : ∀ (s : Shared) (H : Hp) (C : Addr) (cl : List (Str × Addr)) (fp : List Addr), PMG (X.blk s H scope (compEnvC scope cl C X.env) fp) WF us1 tg1 g1) (ht1 : ∀ (s : Shared) (H : Hp) (C : Addr) (cl : List (Str × Addr)) (fp : List Addr), PMTs (X.blk s H scope (compEnvC scope cl C X.env) fp) WF ifs1 mt1)
    (he : ∀ (s : Shared) (H : Hp) (C : Addr) (cl : List (Str × Addr)) (fp : List Addr), PM (X.blk s H scope (compEnvC scope cl C X.env) fp) WF elt me) (hs : ∀ x, foldedSetIterable iter X.env x = pure x := by intro _; rfl) (hs1 : ∀ env x, foldedSetIterable iter1 env x = pure x := by intro _ _; rfl) :
    PM X W (.ListComp elt [⟨tg, iter, ifs, 0⟩, ⟨tg1, iter1, ifs1, 0⟩] scope pos) (mLc2 mi g mt mi1 g1 mt1 me (own.map (·.2)) vs1) :=
  pe_imp (pe_lc2 (g := tMG (kxOf X) WF us g) (tt := tMT (kxOf X) WF mt) (wi1 := tMI (kxOf X) WF mi1) (g1 := tMG (kxOf X) WF us1 g1) (tt1 := tMT (kxOf X) WF mt1) (te := tM (kxOf X) WF me) hc hN hi ok hv hg ht hi1 hg1 ht1 he hs hs1) (lc2_imp sub sub1)
theorem pms_lc2 {i : Nat} {y : Str} {py spos : Pos} (hc : X.calm = true) (hN : X.N.Nodup) (hy : X.N[i]? = some y) (hyl : X.env.scope.names.lookup y = some .local)
    (hsw : swapsWith (.ListComp elt [⟨tg, iter, ifs, 0⟩, ⟨tg1, iter1, ifs1, 0⟩] scope pos) (some (.Name y py)) spos.line X.env = pure true) (hi : PMI X W tg iter mi) (ok : BlkOk X.N X.env.scope scope own) (hv : ∀ i ∈ vs1, i ∈ own.map (·.2)) (sub : ∀ i ∈ us, i ∈ own.map (·.2)) (sub1 : ∀ i ∈ us1, i ∈ vs1)
    (hg : ∀ (s : Shared) (H : Hp) (C : Addr) (cl : List (Str × Addr)) (fp : List Addr), PMG (X.blk s H scope (compEnvC scope cl C X.env) fp) WF us tg g) (ht : ∀ (s : Shared) (H : Hp) (C : Addr) (cl : List (Str × Addr)) (fp : List Addr), PMTs (X.blk s H scope (compEnvC scope cl C X.env) fp) WF ifs mt)
    (hi1 : ∀ (s : Shared) (H : Hp) (C : Addr) (cl : List (Str × Addr)) (fp : List Addr), PMI (X.blk s H scope (compEnvC scope cl C X.env) fp) WF tg1 iter1 mi1)
    (hg1 : ∀ (s : Shared) (H : Hp) (C : Addr) (cl : List (Str × Addr)) (fp : List Addr), PMG (X.blk s H scope (compEnvC scope cl C X.env) fp) WF us1 tg1 g1) (ht1 : ∀ (s : Shared) (H : Hp) (C : Addr) (cl : List (Str × Addr)) (fp : List Addr), PMTs (X.blk s H scope (compEnvC scope cl C X.env) fp) WF ifs1 mt1)
    (he : ∀ (s : Shared) (H : Hp) (C : Addr) (cl : List (Str × Addr)) (fp : List Addr), PM (X.blk s H scope (compEnvC scope cl C X.env) fp) WF elt me) (hs : ∀ x, foldedSetIterable iter X.env x = pure x := by intro _; rfl) (hs1 : ∀ env x, foldedSetIterable iter1 env x = pure x := by intro _ _; rfl) :
    PMS X W (.Assign [.Name y py] (.ListComp elt [⟨tg, iter, ifs, 0⟩, ⟨tg1, iter1, ifs1, 0⟩] scope pos) spos) (sSet i (mLc2 mi g mt mi1 g1 mt1 me (own.map (·.2)) vs1)) :=
  pms_set (ps_imp (ps_setLc2 (g := tMG (kxOf X) WF us g) (tt := tMT (kxOf X) WF mt) (wi1 := tMI (kxOf X) WF mi1) (g1 := tMG (kxOf X) WF us1 g1) (tt1 := tMT (kxOf X) WF mt1) (te := tM (kxOf X) WF me) hc hN hy hyl hsw hi ok hv hg ht hi1 hg1 ht1 he hs hs1) fun D σ H h => lc2_imp sub sub1 σ H _ h)
end
end
end PM

namespace PM
open PySem PySem.Spec PyProof.Rows L2 Q2 RZ
section
variable {X : Cx} {W : XW}
/-! ### zip of two lists, of two tuples -/
def zipT2 (v w : Va) (S : Sto) : Res ItV := match v, w with
  | .tup xs, .tup ys => .ok (.zipT xs ys) S
  | _, _ => .bad
def zipOf (v w : Va) (S : Sto) : Res ItV := match lstOf S v, lstOf S w with
  | some _, some _ => .ok (.zip v w) S
  | _, _ => zipT2 v w S
def mZip (t : MA) : MI := fun Γ S => (t Γ S).bind fun vs S1 => match vs with
  | [v, w] => zipOf v w S1
  | _ => .bad
theorem pair_yld {K : KX} {ρ : List Addr} {S : Sto} {H H' : Hp} {x y : Va} {u v z : V} {T : Addr} (R : RS K ρ S H) (hx : Rv K ρ H x u) (hy : Rv K ρ H y v) (e : z = .ref T) (nT : H T = none) (e2 : H' = upd H T (.tup [u, v])) : Ext ρ ρ H H' ∧ RS K ρ S H' ∧ Rv K ρ H' (.tup [x, y]) z := by
  subst e
  subst e2
  obtain ⟨E, R2⟩ := R.own (o := .tup [u, v]) nT
  exact ⟨E, R2, T, [u, v], rfl, SqT.of upd_same, Rvs.cons (hx.ext E) (Rvs.cons (hy.ext E) rfl)⟩
theorem pmi_zip {e e2 : Expr} {t : MA} {p pos tpos : Pos} {elts : List Expr} {kk : Nat} (hg : Gl X "zip") (hm : X.mg "zip" = none) (ha : PMA X W [e, e2] t)
    (hs : starEach [e, e2] X.env = (false, eval e X.env) :: starEach [e2] X.env := by rfl) (hpl : (backTo pos (starEach [e2] X.env)).any (·.1) = false := by rfl) :
    PMI X W (.Tuple elts kk tpos) (.Call (.Name "zip" p) [e, e2] [] pos) (mZip t) := by
  refine pi_imp (pi_zipA hg hm ha hs hpl) fun σ H R' ⟨ρ, Γ, S, R, G, q⟩ => ?_
  refine ⟨ρ, Γ, S, R, G, q.bind fun vs S1 ρ1 H1 ws E1 R1 rx q1 => ?_⟩
  match vs, rx, q1 with
  | [], _, q1 => exact q1.elim
  | [_], _, q1 => exact q1.elim
  | _ :: _ :: _ :: _, _, q1 => exact q1.elim
  | [v, w], rx, q1 =>
    obtain ⟨x, y, rfl, r1, r2⟩ := two_of rx rfl
    have q1 : Aft (kxOf X) W σ (ItOk (kxOf X)) R' ρ1 H1 (zipOf v w S1) := q1
    unfold zipOf at q1
    have tupCase : (∀ xs ys, lstOf S1 v = some xs → lstOf S1 w = some ys → False) → ∃ xs ys, v = .tup xs ∧ w = .tup ys ∧ Aft (kxOf X) W σ (ItOk (kxOf X)) R' ρ1 H1 (.ok (.zipT xs ys) S1) := by
      intro hno
      have q2 : Aft (kxOf X) W σ (ItOk (kxOf X)) R' ρ1 H1 (zipT2 v w S1) := by
        cases ea : lstOf S1 v with
        | none => simp only [ea] at q1; exact q1
        | some xs =>
          cases eb : lstOf S1 w with
          | none => simp only [ea, eb] at q1; exact q1
          | some ys => exact (hno xs ys ea eb).elim
      cases v with
      | tup xs =>
        cases w with
        | tup ys => exact ⟨xs, ys, rfl, rfl, q2⟩
        | _ => exact q2.elim
      | _ => exact q2.elim
    by_cases hl : ∃ xs ys, lstOf S1 v = some xs ∧ lstOf S1 w = some ys
    · obtain ⟨xs, ys, ea, eb⟩ := hl
      simp only [ea, eb] at q1
      obtain ⟨a, us, rfl, h1, h2⟩ := lst_of R1 r1 ea
      obtain ⟨b, zs, rfl, h3, h4⟩ := lst_of R1 r2 eb
      refine ⟨a, b, us, zs, rfl, .inl ⟨h1, h3, q1 ρ1 H1 (Itz X.K a b) R1.refl R1 fun ρ' S' H' E' R'' i => ?_⟩⟩
      cases ea' : lstOf S' v with
      | none => simp only [ItV.get, ea']
      | some xs' =>
        cases eb' : lstOf S' w with
        | none => simp only [ItV.get, ea', eb']
        | some ys' =>
          obtain ⟨a', us', e1, h1', h2'⟩ := lst_of R'' (r1.ext E') ea'
          cases e1
          obtain ⟨b', zs', e2, h3', h4'⟩ := lst_of R'' (r2.ext E') eb'
          cases e2
          cases ex : xs'[i]? with
          | none =>
            simp only [ItV.get, ea', eb', ex, pair2]
            refine ⟨us', zs', h1', h3', .inl ?_⟩
            rw [← h2'.len]
            exact List.getElem?_eq_none_iff.mp ex
          | some x =>
            cases ey : ys'[i]? with
            | none =>
              simp only [ItV.get, ea', eb', ex, ey, pair2]
              refine ⟨us', zs', h1', h3', .inr ?_⟩
              rw [← h4'.len]
              exact List.getElem?_eq_none_iff.mp ey
            | some y =>
              obtain ⟨u, hu, ru⟩ := h2'.get ex
              obtain ⟨z, hz, rz⟩ := h4'.get ey
              simp only [ItV.get, ea', eb', ex, ey, pair2]
              refine ⟨⟨us', zs', u, z, h1', h3', hu, hz⟩, fun v' H'' hy => ?_⟩
              obtain ⟨T, p1, p2, e3, e4, e5, e6, e7⟩ := hy
              have k1 := e6 _ h1'
              have k2 := e7 _ h3'
              rw [hu] at k1
              rw [hz] at k2
              cases k1
              cases k2
              exact pair_yld R'' ru rz e3 e4 e5
    · obtain ⟨xs, ys, rfl, rfl, q2⟩ := tupCase fun xs ys h1 h2 => hl ⟨xs, ys, h1, h2⟩
      obtain ⟨a, us, rfl, h1, h2⟩ := r1
      obtain ⟨b, zs, rfl, h3, h4⟩ := r2
      refine ⟨a, b, us, zs, rfl, .inr ⟨h1, h3, q2 ρ1 H1 (ItzT X.K a b) R1.refl R1 fun ρ' S' H' E' R'' i => ?_⟩⟩
      have h1' := E'.sqt (K := kxOf X) h1
      have h3' := E'.sqt (K := kxOf X) h3
      have h2' := Rvs.ext E' h2
      have h4' := Rvs.ext E' h4
      cases ex : xs[i]? with
      | none =>
        simp only [ItV.get, ex, pair2]
        refine ⟨us, zs, h1', h3', .inl ?_⟩
        rw [← h2.len]
        exact List.getElem?_eq_none_iff.mp ex
      | some x =>
        cases ey : ys[i]? with
        | none =>
          simp only [ItV.get, ex, ey, pair2]
          refine ⟨us, zs, h1', h3', .inr ?_⟩
          rw [← h4.len]
          exact List.getElem?_eq_none_iff.mp ey
        | some y =>
          obtain ⟨u, hu, ru⟩ := h2'.get ex
          obtain ⟨z, hz, rz⟩ := h4'.get ey
          simp only [ItV.get, ex, ey, pair2]
          refine ⟨⟨us, zs, u, z, h1', h3', hu, hz⟩, fun v' H'' hy => ?_⟩
          obtain ⟨T, p1, p2, e3, e4, e5, e6, e7⟩ := hy
          have k1 := e6 _ h1'
          have k2 := e7 _ h3'
          rw [hu] at k1
          rw [hz] at k2
          cases k1
          cases k2
          exact pair_yld R'' ru rz e3 e4 e5
end
section
variable {X : Cx}
/-! ### x *= e -/
theorem iop_mulW : OpR X (inplaceOp .Mult) (rI CMulW fun i j => .int (i * j)) := opI fun _ _ _ _ _ _ _ hc q => imul_int q hc.ok
theorem ipMul : IpP X .Mult mulI := by
  have h : OpP X (inplaceOp .Mult) mulI := opI2 (rI_or iop_mul iop_mulW) (fun i j h => or_dec (p := (-(2 ^ 64) < i ∧ i < 2 ^ 64) ∨ (-(2 ^ 64) < j ∧ j < 2 ^ 64)) (q := i.natAbs.log2 + j.natAbs.log2 < 1000000) (by unfold mulC at h; exact h)) fun _ _ _ _ => rfl
  exact h
end
/-! ### xs.pop(i) -/
theorem Rvs.erase {K : KX} {ρ : List Addr} {H : Hp} {xs : List Va} {ws : List V} (h : Rvs K ρ H xs ws) (k : Nat) : Rvs K ρ H (xs.eraseIdx k) (ws.eraseIdx k) := by
  rw [List.eraseIdx_eq_take_drop_succ, List.eraseIdx_eq_take_drop_succ]
  exact (h.take k).app (h.drop (k + 1))
def mPopAt (o : ME) (t : MA) : ME := fun Γ S => (o Γ S).bind fun ov S1 => match ov with
  | .ref n => match S1[n]? with
    | some (.lst _) => (t Γ S1).bind fun vs S2 => match vs, S2[n]? with
      | [.int i], some (.lst xs) => match seqIndex? i xs.length with
        | some k => match xs[k]? with
          | some y => if -(2 ^ 63) ≤ i ∧ i < 2 ^ 63 then .ok y (S2.set n (.lst (xs.eraseIdx k))) else .bad
          | none => .bad
        | none => .bad
      | _, _ => .bad
    | _ => .bad
  | _ => .bad
theorem pm_popAt {X : Cx} {W : XW} {o e : Expr} {es : List Expr} {mo : ME} {t : MA} {apos cpos : Pos} (ho : PM X W o mo) (ht : PMA X W (e :: es) t)
    (hbase : attributeBase o "pop" X.env (eval o X.env) = eval o X.env := by rfl)
    (hfew : ((backTo cpos (starEach (e :: es) X.env)).all (fun x => !x.1) && (backToKw cpos (keywordEach [] X.env)).all (fun x => x.1.isSome)
      && decide ((e :: es).length + ([] : List Keyword).length + (if ([] : List Keyword).isEmpty then 0 else 1) < 30)) = true := by rfl)
    (hline : (apos.endLine == cpos.line) = true := by rfl) (hs : starEach (e :: es) X.env = (false, eval e X.env) :: starEach es X.env := by rfl) (hplain : (backTo cpos (starEach es X.env)).any (·.1) = false := by rfl) :
    PM X W (.Call (.Attribute o "pop" apos) (e :: es) [] cpos) (mPopAt mo t) := by
  refine pe_imp (pe_bm PySem.F.plainAttrs_list PySem.F.slot_list_pop PySem.F.type_list_pop mt_popAt ho ht hbase hfew hline hs hplain) fun σ H Q ⟨ρ, Γ, S, R, G, q⟩ => ?_
  refine ⟨ρ, Γ, S, R, G, q.bind fun ov S1 ρ1 H1 x E1 R1 rx q1 => ?_⟩
  cases ov with
  | ref n =>
    obtain ⟨a, ha, rfl⟩ := rx
    cases e : S1[n]? with
    | none => simp only [e] at q1; exact q1.elim
    | some ob =>
      cases ob with
      | setT _ => simp only [e] at q1; exact q1.elim
      | raw _ => simp only [e] at q1; exact q1.elim
      | lst xs1 =>
        simp only [e] at q1
        obtain ⟨_, ws1, h1, _⟩ := R1.at_ n a _ ha e
        refine ⟨.inl ⟨rfl, ws1, SqL.of h1⟩, ρ1, Γ, S1, R1, G.ext E1, q1.bind fun vs S2 ρ2 H2 ys E2 R2 ry q2 => ?_⟩
        cases vs with
        | nil => exact q2.elim
        | cons v r =>
          cases r with
          | cons _ _ => cases v <;> exact q2.elim
          | nil =>
            obtain ⟨y, rfl, r1⟩ := one_of ry rfl
            have ha2 := E2.get ha
            cases v with
            | int i =>
              cases r1
              cases e2 : S2[n]? with
              | none => simp only [e2] at q2; exact q2.elim
              | some ob =>
                cases ob with
                | setT _ => simp only [e2] at q2; exact q2.elim
                | raw _ => simp only [e2] at q2; exact q2.elim
                | lst xs =>
                  simp only [e2] at q2
                  obtain ⟨hl, ws, h4, h5⟩ := R2.at_ n a _ ha2 e2
                  cases e3 : seqIndex? i xs.length with
                  | none => simp only [e3] at q2; exact q2.elim
                  | some k =>
                    simp only [e3] at q2
                    cases e4 : xs[k]? with
                    | none => simp only [e4] at q2; exact q2.elim
                    | some z =>
                      simp only [e4] at q2
                      by_cases hb : -(2 ^ 63) ≤ i ∧ i < 2 ^ 63
                      · rw [if_pos hb] at q2
                        obtain ⟨u, hu, ru⟩ := h5.get e4
                        refine ⟨a, ws, i, k, u, rfl, rfl, h4, hb.1, hb.2, by rw [← h5.len]; exact e3, hu, ?_⟩
                        obtain ⟨E3, R3⟩ := R2.put ha2 e2 (Nat.le_trans (List.length_eraseIdx_le xs k) hl) (h5.erase k)
                        exact q2 ρ2 _ _ E3 R3 (ru.ext E3)
                      · rw [if_neg hb] at q2
                        exact q2.elim
            | _ => exact q2.elim
  | _ => exact q1.elim
/-! ### f() -/
theorem pm_call0 {X : Cx} {W : XW} {k : Nat} {x : Str} {g : MF} {f : Addr} {fd : FuncData} {p pos : Pos} (D : Dx X.prog X.w X.K X.mg X.base k x [] g f fd) (tk : Takes X (wx X.mg W)) (hr : Room k X.A) (hg : Gl X x)
    (hdb : (x == ("__debug__" : Str)) = false := by decide) : PM X W (.Call (.Name x p) [] [] pos) (mCall g maN) := by
  have h : PE X (.Call (.Name x p) [] [] pos) (tCallS (spM ⟨X.K, X.prog, X.w⟩ X.mg 0 g) (WE (wx X.mg W)) tNil) := by
    refine ⟨fun pins s σ H Q I h => ?_⟩
    refine wpAny_Call_Name_kw (ld_glob I hg D.gl ?_ hdb)
    exact PySem.W.callWith_K0 I.kIn D.kp (run_fnS (us := []) D.ok hr D.bd (passAt tk σ) I .nil h)
  refine pe_imp h fun σ H Q ⟨ρ, Γ, S, R, G, q⟩ => ?_
  have q : Aft (kxOf X) W σ (Rv (kxOf X)) Q ρ H (g [] S) := q
  exact ⟨rfl, ρ, S, [], R, rfl, q.call⟩
end PM

namespace PM
open PySem PySem.Spec PyProof.Rows L2
/-- the binary figures of a number as signs -/
def binL (n : Nat) : List Nat := (Nat.toDigits 2 n).map Char.toNat
theorem binL_ne (n : Nat) : (binL n).isEmpty = false := by
  unfold binL
  cases e : Nat.toDigits 2 n with
  | nil => exact absurd e Nat.toDigits_ne_nil
  | cons x y => rfl
theorem bf_give {a : Int} {t : Tok} (h0 : 0 ≤ a) (hl : (binL a.natAbs).length ≤ sizeLine) : ∀ u, Meets (Builtin.«int.__format__» ⟨[.int a t, .str (Str.ofString "b") u], []⟩) (fun _ R s => ∀ t' k, R (.ok (.ret (.str (⟨(binL a.natAbs).toArray⟩ : PySem.Str) t'))) { s with toks := k }) := by
  intro u
  apply W.KPc.meets_of
  intro prog w A R s hh hQ
  unfold Builtin.«int.__format__»
  refine wpAny_bind (wpAny_of_eq (a := (_, _)) rfl ?_)
  refine wpAny_bind (wpAny_of_eq (a := _) rfl ?_)
  kxf_if
  refine wpAny_bind (wpAny_typeNameOf (T := "str") (typeIs_str _ _ _) (by decide) fun _ => ?_)
  refine wpAny_bind (wpAny_of_eq (a := some _) rfl ?_)
  kxf_if
  kxf_if
  refine wpAny_bind (wpAny_typeNameOfCut_int ?_)
  repeat kxf_if
  have hd : decide (a < 0) = false := decide_eq_false (by omega)
  have key : ∀ X : PySem.Str, X = (⟨(binL a.natAbs).toArray⟩ : PySem.Str) → wpAny (model prog w) A (retStr X) s hh R := fun X e => by
    refine W.KXf.ret_text e ?_ hQ
    rw [e]
    exact hl
  refine key _ ?_
  rw [hd]
  have he := binL_ne a.natAbs
  show (⟨(List.replicate ((-1 : Int) - (((0 : Nat) : Int) + ((0 : Nat) : Int) + ((0 : Nat) : Int)) - (if (binL a.natAbs).isEmpty = true then [] else List.replicate ((0 : Int).toNat - (binL a.natAbs).length) 48 ++ binL a.natAbs).length).toNat 32 ++ [] ++ [] ++ List.replicate 0 32 ++ (if (binL a.natAbs).isEmpty = true then [] else List.replicate ((0 : Int).toNat - (binL a.natAbs).length) 48 ++ binL a.natAbs) ++ [] ++ List.replicate 0 32).toArray⟩ : PySem.Str) = _
  rw [he]
  have e1 : (0 : Int).toNat - (binL a.natAbs).length = 0 := by simp
  have e2 : ((-1 : Int) - (((0 : Nat) : Int) + ((0 : Nat) : Int) + ((0 : Nat) : Int)) - ((if false = true then [] else List.replicate 0 48 ++ binL a.natAbs : List Nat).length : Int)).toNat = 0 := by omega
  rw [e1, e2]
  simp
/-- {x:b} of a number that is none below 0 -/
def tFmtB (te : TE) : TE := fun σ H Q => te σ H fun x H1 => ∃ i : Int, x = .int i ∧ 0 ≤ i ∧ (binL i.natAbs).length ≤ sizeLine ∧ Q (.str (⟨(binL i.natAbs).toArray⟩ : PySem.Str)) H1
theorem pe_fmtB {X : Cx} {e : Expr} {te : TE} {j : Nat} {pos p2 p3 : Pos} (he : PE X e te) : PE X (.FormattedValue e (-1) (some (.JoinedStr [.Constant (.str (Str.ofString "b")) j p2] p3)) pos) (tFmtB te) := by
  refine ⟨fun pins s σ H Q I h => ?_⟩
  refine wpAny_FormattedValue_spec (thn (he.run pins s σ H _ I h) fun v s1 hv => ?_)
  obtain ⟨x, H1, I1, r1, i, rfl, h0, hl, q⟩ := hv
  obtain ⟨t, rfl⟩ := r1
  refine thn ((pe_joined1 (pos := p3) (pe_str (X := X) (x := Str.ofString "b") (j := j) (pos := p2))).run pins s1 σ H1 (fun y H2 => y = .str (Str.ofString "b") ∧ H2 = H1) I1 ⟨rfl, rfl⟩) fun v s2 hv => ?_
  obtain ⟨y, H2, I2, r2, rfl, rfl⟩ := hv
  obtain ⟨t2, rfl⟩ := r2
  exact ⟨_, _, rfl, W.KXf.field_int rfl (by decide) (by decide) (bf_give h0 hl) fun t' k => ⟨.str _, _, I2.tok _, ⟨_, rfl⟩, q⟩⟩
end PM

namespace PM
open PySem PySem.Spec PyProof.Rows L2 PySem.NumText PySem.Calls
/-- signs 0 and 1, read with base 4 -/
def Bits (l : List Nat) : Prop := ∀ z ∈ l, z = 48 ∨ z = 49
def num4 (l : List Nat) : Nat := l.foldl (fun n z => n * 4 + (z - 48)) 0
section
variable {l : List Nat} {z : Nat}
theorem Bits.tl (h : Bits (z :: l)) : Bits l := fun y hy => h y (List.mem_cons_of_mem _ hy)
theorem Bits.hd (h : Bits (z :: l)) : z = 48 ∨ z = 49 := h z (List.mem_cons_self ..)
theorem step4 (h : z = 48 ∨ z = 49) (ds : Array Nat) (b : Bool) : PySem.NumText.step 4 (ds, b) z = some (ds.push (z - 48), true) := by
  rcases h with rfl | rfl <;> rfl
theorem steps4 : ∀ (l : List Nat) (ds : Array Nat) (b : Bool), Bits l → l ≠ [] → l.foldlM (PySem.NumText.step 4) (ds, b) = some (l.foldl (fun out z => out.push (z - 48)) ds, true)
  | [], _, _, _, n => absurd rfl n
  | [z], ds, b, h, _ => by
    simp only [List.foldlM_cons, step4 h.hd]
    rfl
  | z :: y :: r, ds, b, h, _ => by
    rw [List.foldlM_cons, step4 h.hd]
    exact steps4 (y :: r) _ true h.tl (by simp)
theorem figs4 (h : Bits l) (n : l ≠ []) : digits? 4 l = some (l.foldl (fun out z => out.push (z - 48)) #[]) := by
  unfold digits?
  rw [steps4 l _ _ h n]
  rfl
theorem fold4 : ∀ (l : List Nat) (ds : Array Nat), (l.foldl (fun out z => out.push (z - 48)) ds).foldl (fun n d => n * 4 + d) 0 = l.foldl (fun n z => n * 4 + (z - 48)) (ds.foldl (fun n d => n * 4 + d) 0)
  | [], _ => rfl
  | z :: r, ds => by
    rw [List.foldl_cons, fold4 r, List.foldl_cons]
    exact congrArg (fun n => r.foldl _ n) (by simp)
theorem noBlank (h : Bits l) : l.dropWhile blank = l := by
  cases l with
  | nil => rfl
  | cons z r => exact dropWhile_of (by rcases h.hd with rfl | rfl <;> decide)
theorem noSign (h : Bits l) : sign l = (false, l) := by
  cases l with
  | nil => rfl
  | cons z r => exact sign_of (by rcases h.hd with rfl | rfl <;> decide) (by rcases h.hd with rfl | rfl <;> decide)
theorem base4 (h : Bits l) : based 4 l = (4, false, l) := by
  match l, h with
  | [], _ => rfl
  | [z], h => rcases h.hd with rfl | rfl <;> rfl
  | z :: y :: r, h => rcases h.hd with rfl | rfl <;> rcases h.tl.hd with rfl | rfl <;> rfl
theorem read4 (h : Bits l) (n : l ≠ []) : (int_private% "readNumeral") 0 4 l = (int_private% "Numeral.value") ((num4 l : Nat) : Int) := by
  have hr : Bits l.reverse := fun y hy => h y (List.mem_reverse.mp hy)
  refine (readNumeral_eq 0 4 l).trans ?_
  rw [noBlank h, noSign h]
  show judge 0 false (based 4 l).1 (based 4 l).2.1 (digits? (based 4 l).1 ((List.dropWhile blank (based 4 l).2.2.reverse).reverse)) = _
  rw [base4 h]
  show judge 0 false 4 false (digits? 4 ((List.dropWhile blank l.reverse).reverse)) = _
  rw [noBlank hr, List.reverse_reverse, figs4 h n]
  show (int_private% "Numeral.value") ((Array.foldl (fun n d => n * 4 + d) 0 (l.foldl (fun out z => out.push (z - 48)) (#[] : Array Nat)) : Nat) : Int) = _
  rw [fold4]
  rfl
theorem seen4 {x : PySem.Str} (h : Bits x.cps.toList) : numTextOf x = x.cps.toList ∧ numSeenOf x = x.cps.toList := by
  have lt : ∀ y ∈ x.cps.toList, y < 128 ∧ y ≠ 0 := fun y hy => by rcases h y hy with rfl | rfl <;> decide
  have e1 : numTextOf x = x.cps.toList := by
    unfold numTextOf
    rw [if_pos]
    rw [← Array.all_toList]
    exact List.all_eq_true.mpr fun y hy => by simpa using (lt y hy).1
  refine ⟨e1, ?_⟩
  unfold numSeenOf
  rw [e1]
  exact takeWhile_all fun y hy => by simpa using (lt y hy).2
structure Kept (p : Prop) : Prop where
  get : p
theorem new4 {x : PySem.Str} {u t : Tok} (hl : x.length ≤ 640) (h : Bits x.cps.toList) (n : x.cps.toList ≠ []) : Gives (Builtin.«int.__new__» ⟨[.type "int", .str x u, .int 4 t], []⟩) (.int ((num4 x.cps.toList : Nat) : Int)) := by
  obtain ⟨e1, e2⟩ := seen4 h
  have k : Kept ((numSeenOf x).length ≤ 640 ∧ (int_private% "readNumeral") 0 4 (numSeenOf x) = (int_private% "Numeral.value") ((num4 x.cps.toList : Nat) : Int) ∧ ((numSeenOf x).length == (numTextOf x).length) = true) := by
    rw [e1, e2]
    exact ⟨by rw [Array.length_toList]; exact hl, read4 h n, beq_self_eq_true _⟩
  refine .of_wp fun M A E s Q hQ => ?_
  obtain ⟨hp, g, d, tk, os⟩ := s
  have g1 := F.conv_sub_int
  have g2 := F.madeHere_int
  have g3 : typeOf (.str x u) = pure (.type "str") := rfl
  clear hl h n e1 e2
  repeat (any_goals (first
    | assumption
    | ((with_reducible show wpAny _ _ ((int_private% "intFromText") _ _ _) _ _ _); refine Hx.wp_textB k.get.1 k.get.2.1 k.get.2.2 ?_)
    | wp_step))
  all_goals first | exact ⟨_, rfl, hQ⟩ | skip
end
/-- int(text, 4) of a text of signs 0 and 1 -/
def rInt4 : List V → Hp → VK → Prop := fun xs H Q => ∃ l : List Nat, xs = [.str (⟨l.toArray⟩ : PySem.Str), .int 4] ∧ l ≠ [] ∧ l.length ≤ 640 ∧ Bits l ∧ Q (.int ((num4 l : Nat) : Int)) H
theorem cr_int4 {X : Cx} : CallR X (.type "int") rInt4 := by
  intro pins s σ H xs us Q I r h
  obtain ⟨l, rfl, n, hl, hb, q⟩ := h
  obtain ⟨u, w', rfl, r1, r2⟩ := vals2 r
  obtain ⟨t1, rfl⟩ := r1
  obtain ⟨t2, rfl⟩ := r2
  have e : (⟨l.toArray⟩ : PySem.Str).cps.toList = l := rfl
  have g := new4 (x := (⟨l.toArray⟩ : PySem.Str)) (u := t1) (t := t2) (by simpa [PySem.Str.length] using hl) hb n
  rw [e] at g
  exact callType_new F.called_int F.newNe_int (Hx.typeCall_int_2 _ _) (Hx.newCall_int_2 _ _) (fun obj => F.initArgs_range_2 obj _ _) F.entry_int_new g.meets (show (Made.int ((num4 l : Nat) : Int)).post _ s from ⟨rfl, .int ((num4 l : Nat) : Int), H, I.tok _, ⟨_, rfl⟩, q⟩)
end PM

namespace PM
open PySem PySem.Spec PyProof.Rows L2 Q2
section
variable {X : Cx} {W : XW}
/-! ### f'{x:b}', int(text, 4), x.bit_length() -/
def binF : F1 := fun v S => match v with
  | .int i => if 0 ≤ i ∧ (binL i.natAbs).length ≤ 640 then some (.str (⟨(binL i.natAbs).toArray⟩ : PySem.Str), S) else none
  | _ => none
theorem pm_binF {e : Expr} {m : ME} {j : Nat} {pos p2 p3 p4 : Pos} (h : PM X W e m) : PM X W (.JoinedStr [.FormattedValue e (-1) (some (.JoinedStr [.Constant (.str (Str.ofString "b")) j p2] p3)) pos] p4) (m1 binF m) := by
  refine pe_imp (pe_joined1 (pe_fmtB h)) fun σ H Q ⟨ρ, Γ, S, R, G, q⟩ => ?_
  refine ⟨ρ, Γ, S, R, G, q.bind fun v S1 ρ1 H1 x E1 R1 rx q1 => ?_⟩
  have q1 := q1.ans
  cases v with
  | int i =>
    cases rx
    have q1 : Ans (kxOf X) Q ρ1 H1 (if 0 ≤ i ∧ (binL i.natAbs).length ≤ 640 then some (.str (⟨(binL i.natAbs).toArray⟩ : PySem.Str), S1) else none) := q1
    obtain ⟨hl, a⟩ := ans_if q1
    exact ⟨i, rfl, hl.1, Nat.le_trans hl.2 (show 640 ≤ 2 ^ 24 by decide), a ρ1 H1 _ R1.refl R1 rfl⟩
  | _ => exact q1.elim
def isBits (l : List Nat) : Bool := l.all fun z => z == 48 || z == 49
def int4V (v w : Va) (S : Sto) : Option (Va × Sto) := match v with
  | .str z => match w with
    | .int i => if i = 4 ∧ z.cps.toList ≠ [] ∧ z.cps.toList.length ≤ 640 ∧ isBits z.cps.toList = true then some (.int ((num4 z.cps.toList : Nat) : Int), S) else none
    | _ => none
  | _ => none
def fInt4 : FL := fL2 int4V
theorem cInt4 : CallP X (.type "int") fInt4 := by
  refine ⟨_, cr_int4, callM2 fun ρ S H v w x y Q R r r' a => ?_⟩
  cases v with
  | str z =>
    cases w with
    | int i =>
      cases r
      cases r'
      have a : Ans (kxOf X) Q ρ H (if i = 4 ∧ z.cps.toList ≠ [] ∧ z.cps.toList.length ≤ 640 ∧ isBits z.cps.toList = true then some (.int ((num4 z.cps.toList : Nat) : Int), S) else none) := a
      obtain ⟨⟨e4, h1, h2, h3⟩, b⟩ := ans_if a
      subst e4
      refine ⟨z.cps.toList, rfl, h1, h2, fun y hy => ?_, b ρ H _ R.refl R rfl⟩
      have := List.all_eq_true.mp h3 y hy
      simpa using this
    | _ => exact a.elim
  | _ => exact a.elim
def bitsI : F1 := fun v S => match v with
  | .int i => some (.int (Builtin.Int.intBits i : Nat), S)
  | _ => none
theorem pm_bits {o : Expr} {m : ME} {apos pos : Pos} (h : PM X W o m) (hbase : attributeBase o "bit_length" X.env (eval o X.env) = eval o X.env := by rfl) (hline : (apos.endLine == pos.line) = true := by rfl) : PM X W (.Call (.Attribute o "bit_length" apos) [] [] pos) (m1 bitsI m) := by
  refine pe_imp (pe_bits h hbase hline) fun σ H Q ⟨ρ, Γ, S, R, G, q⟩ => ?_
  refine ⟨ρ, Γ, S, R, G, q.bind fun v S1 ρ1 H1 x E1 R1 rx q1 => ?_⟩
  have q1 := q1.ans
  cases v with
  | int i =>
    cases rx
    exact ⟨i, rfl, q1 ρ1 H1 _ R1.refl R1 rfl⟩
  | _ => exact q1.elim
/-! ### a comprehension in another one -/
theorem re_look {env : Env} {x : Str} : ∀ {l : List (Str × NameKind)}, (l.lookup x = some .cell ∨ l.lookup x = some .free) → ((l.map fun (n, k) => if (k == NameKind.free && env.scope.kind == .function && env.kindOf n == some .cell) then (n, NameKind.cell) else (n, k)).lookup x = some .cell ∨ (l.map fun (n, k) => if (k == NameKind.free && env.scope.kind == .function && env.kindOf n == some .cell) then (n, NameKind.cell) else (n, k)).lookup x = some .free)
  | [], h => by rcases h with h | h <;> cases h
  | (n, k) :: r, h => by
    simp only [List.map_cons]
    by_cases e : x == n
    · have h0 : k = .cell ∨ k = .free := by
        rcases h with h | h
        · simp only [List.lookup_cons, e] at h
          exact .inl (Option.some.inj h)
        · simp only [List.lookup_cons, e] at h
          exact .inr (Option.some.inj h)
      split
      · exact .inl (by simp only [List.lookup_cons, e])
      · rcases h0 with rfl | rfl
        · exact .inl (by simp only [List.lookup_cons, e])
        · exact .inr (by simp only [List.lookup_cons, e])
    · have e' : (x == n) = false := by simpa using e
      have h0 : r.lookup x = some .cell ∨ r.lookup x = some .free := by simpa only [List.lookup_cons, e'] using h
      have ih := re_look (env := env) h0
      split
      · simpa only [List.lookup_cons, e'] using ih
      · simpa only [List.lookup_cons, e'] using ih
theorem blk_in {X : Cx} {s : Shared} {H : Hp} {sco scope : Scope} {C : Addr} {cl : List (Str × Addr)} {fp : List Addr} {N : List Str} {own : List (Str × Nat)} (h : blkC N sco scope own = true) (hN : (X.blk s H sco (compEnvC sco cl C X.env) fp).N = N := by rfl) : BlkOk (X.blk s H sco (compEnvC sco cl C X.env) fp).N (X.blk s H sco (compEnvC sco cl C X.env) fp).env.scope scope own := by
  rw [hN]
  have b := blkOk_by h
  exact ⟨b.kind, b.uniq, b.ix, fun y hy e => re_look (b.free y hy e), b.own⟩
end
end PM

namespace LZ
open PySem PySem.Spec PyProof.Rows L2
/-- pairs at new places -/
def putP : Hp → List Addr → List (V × V) → Hp
  | H, a :: as, p :: ps => putP (upd H a (.tup [p.1, p.2])) as ps
  | H, _, _ => H
theorem putP_off : ∀ (as : List Addr) (ps : List (V × V)) (H : Hp) {b : Addr}, b ∉ as → putP H as ps b = H b
  | [], _, _, _, _ => rfl
  | _ :: _, [], _, _, _ => rfl
  | a :: as, p :: ps, H, b, h => by
    have h1 : b ≠ a := fun q => h (by rw [q]; exact List.mem_cons_self ..)
    show putP (upd H a (.tup [p.1, p.2])) as ps b = H b
    rw [putP_off as ps _ fun q => h (List.mem_cons_of_mem _ q), upd_ne h1]
theorem putP_at : ∀ (as : List Addr) (ps : List (V × V)) (H : Hp), as.Nodup → ∀ (j : Nat) (a : Addr) (p : V × V), as[j]? = some a → ps[j]? = some p → putP H as ps a = some (.tup [p.1, p.2])
  | [], _, _, _, j, a, p, h, _ => by simp at h
  | _ :: _, [], _, _, j, a, p, _, h => by simp at h
  | a :: as, p :: ps, H, nd, 0, b, q, h1, h2 => by
    cases h1
    cases h2
    show putP (upd H a (.tup [p.1, p.2])) as ps a = _
    rw [putP_off as ps _ (List.nodup_cons.mp nd).1, upd_same]
  | a :: as, p :: ps, H, nd, j + 1, b, q, h1, h2 => putP_at as ps _ (List.nodup_cons.mp nd).2 j b q (by simpa using h1) (by simpa using h2)
section
variable {X : Cx}
theorem pairs_laid {pins : List (Addr × Obj)} {σ : L2.St} {H : Hp} {s : Shared} {h' : Heap} {tk : Nat} {ps : List (V × V)} {xs ys : List Value} {acc : Array Value} {c : Nat} {as : List Addr} {q : Addr} (I : Inv X pins σ H s) (hz : ps.length ≤ sizeLine) (v1 : Vals (ps.map (·.1)) xs) (v2 : Vals (ps.map (·.2)) ys)
    (hk : ∀ b o, s.heap.get? b = some o → h'.get? b = some o) (hq : s.heap.objs.size ≤ q) (hS : h'.get? q = some { cls := .type "list", dict := none, data := .seq acc c, slots := #[] }) (hl : as.length = ps.length) (up : as.Pairwise (· < ·)) (lo : ∀ a ∈ as, q < a)
    (hp : ∀ (j : Nat) (a : Addr), as[j]? = some a → ∃ x y, xs[j]? = some x ∧ ys[j]? = some y ∧ IsPair h' a x y) (ha : acc.toList = as.map Value.ref) :
    ∃ H' : Hp, (∀ b o, H b = some o → H' b = some o) ∧ H q = none ∧ (∀ t ∈ as, H t = none) ∧ q ∉ as ∧ H' q = some (.lst (as.map V.ref)) ∧ (∀ (j : Nat) (a : Addr) (p : V × V), as[j]? = some a → ps[j]? = some p → H' a = some (.tup [p.1, p.2])) ∧ Inv X pins σ H' { s with heap := h', toks := tk } := by
  have nq : q ∉ as := fun z => Nat.lt_irrefl _ (lo _ z)
  have nd : as.Nodup := up.imp fun h => Nat.ne_of_lt h
  have fr : ∀ t ∈ as, H t = none := fun t ht => I.hok.fresh (Nat.le_trans hq (Nat.le_of_lt (lo t ht)))
  have fq : H q = none := I.hok.fresh hq
  have at_ := putP_at as ps (upd H q (.lst (as.map V.ref))) nd
  have off : ∀ b, b ∉ as → b ≠ q → putP (upd H q (.lst (as.map V.ref))) as ps b = H b := fun b h1 h2 => by rw [putP_off as ps _ h1, upd_ne h2]
  have low : ∀ b o, s.heap.get? b = some o → b ∉ as ∧ b ≠ q := fun b o e => ⟨fun z => absurd (Nat.lt_of_lt_of_le (Heap.lt_size e) hq) (Nat.not_lt.mpr (Nat.le_of_lt (lo b z))), Nat.ne_of_lt (Nat.lt_of_lt_of_le (Heap.lt_size e) hq)⟩
  have kp : ∀ b u, H b = some u → (putP (upd H q (.lst (as.map V.ref))) as ps) b = some u := fun b u e => by
    rw [off b (fun z => by rw [fr b z] at e; cases e) (fun z => by rw [z, fq] at e; cases e)]
    exact e
  have eq_ : putP (upd H q (.lst (as.map V.ref))) as ps q = some (.lst (as.map V.ref)) := by rw [putP_off as ps _ nq, upd_same]
  refine ⟨putP (upd H q (.lst (as.map V.ref))) as ps, kp, fq, fr, nq, eq_, at_, ?_⟩
  refine I.call' (ch := []) rfl ⟨fun b o e _ _ _ => hk b o e, fun b o e _ _ _ => ⟨o.slots, hk b o e⟩, fun b o e n _ => ?_, fun b o e _ => ⟨o, hk b o e⟩, fun b us e => kp b _ e, fun b o u e => kp b _ e, fun b us e => ⟨#[], by rw [kp b _ e]; simp⟩⟩ (fun b u e => ?_) I.bare fun b z => by simp at z
  · obtain ⟨z1, z2⟩ := low b o e
    rw [off b z1 z2]
    exact n
  · by_cases hb : b ∈ as
    · obtain ⟨j, hj⟩ := List.mem_iff_getElem?.mp hb
      have hlt := (List.getElem?_eq_some_iff.mp hj).1
      have hpj : ps[j]? = some ps[j] := List.getElem?_eq_getElem (by omega)
      rw [at_ j b _ hj hpj] at e
      cases e
      obtain ⟨x, y, e1, e2, e3⟩ := hp j b hj
      obtain ⟨x', f1, f2⟩ := v1.get (i := j) (x := ps[j].1) (by rw [List.getElem?_map, hpj]; rfl)
      obtain ⟨y', g1, g2⟩ := v2.get (i := j) (x := ps[j].2) (by rw [List.getElem?_map, hpj]; rfl)
      cases f1.symm.trans e1
      cases g1.symm.trans e2
      exact ⟨by show 2 ≤ sizeLine; decide, [_, _], .cons f2 (.cons g2 .nil), ⟨_, e3, rfl, _, rfl⟩⟩
    · by_cases hb2 : b = q
      · subst hb2
        rw [eq_] at e
        cases e
        refine ⟨by rw [List.length_map]; omega, acc.toList, c, by rw [ha]; exact vals_refs as, ?_⟩
        rw [Array.toArray_toList]
        exact hS
      · rw [off b hb hb2] at e
        exact (I.hok b u e).stay (fun d v _ y => hk d v y) (fun d y => kp d _ y) fun d us y => kp d _ y
/-- list(zip(e, e2)) of two lists, one as long as the other -/
def tLZip (K : PySem.W.Frag) (ta : TA) : TE := fun σ H Q => ta σ H fun vs H1 => ∃ (a b : Addr) (ps : List (V × V)), vs = [.ref a, .ref b] ∧ SqL K H1 a (ps.map (·.1)) ∧ SqL K H1 b (ps.map (·.2)) ∧
  ∀ (H' : Hp) (q : Addr) (as : List Addr), (∀ b o, H1 b = some o → H' b = some o) → H1 q = none → (∀ t ∈ as, H1 t = none) → q ∉ as → H' q = some (.lst (as.map V.ref)) → as.length = ps.length → (∀ (j : Nat) (a : Addr) (p : V × V), as[j]? = some a → ps[j]? = some p → H' a = some (.tup [p.1, p.2])) → Q (.ref q) H'
theorem pe_listZip {e e2 : Expr} {ta : TA} {p p2 pos pos2 : Pos} (hc : X.calm = true) (hg : Gl X "list") (hm : X.mg "list" = none) (hg2 : Gl X "zip") (hm2 : X.mg "zip" = none) (ha : PA X [e, e2] ta)
    (hs : starEach [e, e2] X.env = (false, eval e X.env) :: starEach [e2] X.env := by rfl) (hpl : (backTo pos2 (starEach [e2] X.env)).any (·.1) = false := by rfl)
    (na : starEach [Expr.Call (.Name "zip" p2) [e, e2] [] pos2] X.env = (false, eval (.Call (.Name "zip" p2) [e, e2] [] pos2) X.env) :: starEach [] X.env := by rfl) :
    PE X (.Call (.Name "list" p) [.Call (.Name "zip" p2) [e, e2] [] pos2] [] pos) (tLZip X.K ta) := by
  refine ⟨fun pins s σ H Q I h => ?_⟩
  refine Call_ (ld_blt I hg hm boot_list (PyProof.Rows.callWith_type1 (args_cons ?_ na) na))
  refine Call_ (ld_blt I hg2 hm2 PyProof.Rows.boot_zip (PyProof.Rows.callWith_type1 (thn (ha.run pos2 pins s σ H _ I h) fun us s1 ⟨vs, H1, I1, r1, q1⟩ => ?_) hs hpl))
  obtain ⟨a, b, ps, ex, sa, sb, q1⟩ := q1
  subst ex
  cases r1 with
  | cons r rr =>
    cases rr with
    | cons r' rr =>
      cases rr
      cases r
      cases r'
      obtain ⟨xs, v1, g1, z1⟩ := I1.list sa
      obtain ⟨ys, v2, g2, z2⟩ := I1.list sb
      refine call_zip_2 g1.isList g2.isList fun h' c1 c2 c3 c4 c5 c6 kp => args_nil ?_
      have lx := v1.length
      have ly := v2.length
      rw [List.length_map] at lx ly z1
      have gx : h'.IsList a xs.toArray := g1.isList.at fun o e => kp _ _ e
      have gy : h'.IsList b ys.toArray := g2.isList.at fun o e => kp _ _ e
      refine list_zip (s := { s1 with heap := h' }) (I1.ok.hd hc) (PySem.W.ktu_apart s1.heap.objs.size a b g1.lt g2.lt) (by simp; omega) (by simp; omega) c1 c2 ⟨_, _, c3⟩ c4 c5 gx gy fun h2 tk c' acc as kp2 d1 d2 d3 d4 d5 d6 => ?_
      have hq : s1.heap.objs.size ≤ h'.objs.size := by rw [c6]; exact Nat.le_add_right _ _
      have all : ∀ b o, s1.heap.get? b = some o → h2.get? b = some o := fun b o e => by
        have hb := Heap.lt_size e
        exact kp2 b o (Nat.ne_of_lt (Nat.lt_of_lt_of_le hb (Nat.le_add_right _ _))) (Nat.ne_of_lt (Nat.lt_of_lt_of_le hb (Nat.le_add_right _ _))) (Nat.ne_of_lt hb) (Nat.ne_of_lt (Nat.lt_of_lt_of_le hb (Nat.le_add_right _ _))) (kp _ _ e)
      obtain ⟨H', k1, k2, k3, k4, k5, k6, J⟩ := pairs_laid (tk := tk) I1 z1 v1 v2 all hq d1 (by rw [d2]; simp; omega) d3 d4 (fun j t e => by
        obtain ⟨x, y, e1, e2, e3⟩ := d5 j t e
        exact ⟨x, y, by simpa using e1, by simpa using e2, e3⟩) d6
      exact ⟨.ref h'.objs.size, H', J, rfl, q1 H' h'.objs.size as k1 k2 k3 k4 k5 (by rw [d2]; simp; omega) k6⟩
end
end LZ
namespace PM
open PySem PySem.Spec PyProof.Rows L2 Q2
/-- a list and what it holds are new -/
theorem RS.newIn {K : KX} {ρ : List Addr} {S : Sto} {H H' : Hp} (R : RS K ρ S H) {q : Addr} {xs : List Va} {ws : List V} (kp : ∀ b o, H b = some o → H' b = some o) (fq : H q = none) (hl : xs.length ≤ sizeLine) (hq : H' q = some (.lst ws)) (h : Rvs K (ρ ++ [q]) H' xs ws) : Ext ρ (ρ ++ [q]) H H' ∧ RS K (ρ ++ [q]) (S ++ [.lst xs]) H' := by
  have hq' := R.fresh fq
  have E : Ext ρ (ρ ++ [q]) H H' := ⟨R.nt, ⟨[q], rfl⟩, fun b u e _ => kp b u e, fun b hb n => by
    rcases List.mem_append.mp hb with hb | hb
    · exact absurd hb n
    · rw [List.mem_singleton.mp hb]; exact fq⟩
  refine ⟨E, by simp [R.len], ?_, fun n a u h1 h2 => ?_⟩
  · refine List.nodup_append.mpr ⟨R.nd, by simp, fun x hx y hy z => hq' ?_⟩
    rw [← List.mem_singleton.mp hy, ← z]
    exact hx
  · by_cases hn : n < ρ.length
    · rw [List.getElem?_append_left hn] at h1
      rw [List.getElem?_append_left (by rw [← R.len]; exact hn)] at h2
      have ro := R.at_ n a u h1 h2
      obtain ⟨o, e, _⟩ := ro.nt
      exact ro.ext E (by rw [e, kp _ _ e])
    · have hn' : n = ρ.length := by
        have := (List.getElem?_eq_some_iff.mp h1).1
        simp at this
        omega
      subst hn'
      rw [List.getElem?_append_right (Nat.le_refl _), Nat.sub_self] at h1
      rw [List.getElem?_append_right (by rw [R.len]; exact Nat.le_refl _), R.len, Nat.sub_self] at h2
      cases h1
      cases h2
      exact ⟨hl, ws, hq, h⟩
def zipP : List Va → List Va → List Va
  | x :: xs, y :: ys => .tup [x, y] :: zipP xs ys
  | _, _ => []
theorem zipP_len : ∀ {xs ys : List Va}, xs.length = ys.length → (zipP xs ys).length = xs.length
  | [], [], _ => rfl
  | x :: xs, y :: ys, h => by
    show (zipP xs ys).length + 1 = xs.length + 1
    rw [zipP_len (by simpa using h)]
def mLZip (t : MA) : ME := fun Γ S => (t Γ S).bind fun vs S1 => match vs with
  | [v, w] => match lstOf S1 v, lstOf S1 w with
    | some xs, some ys => if xs.length = ys.length ∧ xs.length ≤ sizeLine then .ok (.ref S1.length) (S1 ++ [.lst (zipP xs ys)]) else .bad
    | _, _ => .bad
  | _ => .bad
theorem lst_sq {K : KX} {ρ : List Addr} {S : Sto} {H : Hp} {v : Va} {xs : List Va} {u : V} (R : RS K ρ S H) (r : Rv K ρ H v u) (h : lstOf S v = some xs) : ∃ a ws, u = .ref a ∧ SqL K.K H a ws ∧ Rvs K ρ H xs ws := by
  cases v with
  | ref n =>
    obtain ⟨a, h1, rfl⟩ := r
    unfold lstOf at h
    simp only at h
    cases e : S[n]? with
    | none => rw [e] at h; cases h
    | some o =>
      rw [e] at h
      cases o with
      | lst ys =>
        cases h
        obtain ⟨_, ws, h3, h4⟩ := R.at_ n a _ h1 e
        exact ⟨a, ws, rfl, SqL.of h3, h4⟩
      | setT _ => cases h
      | raw _ => cases h
  | rol ys =>
    cases h
    obtain ⟨a, ws, rfl, h1, h2⟩ := r
    exact ⟨a, ws, rfl, h1.sq, h2⟩
  | _ => cases h
theorem zip_rel {K : KX} {ρ ρ' : List Addr} {H H' : Hp} (E : Ext ρ ρ' H H') : ∀ {xs ys : List Va} {ps : List (V × V)} {as : List Addr}, Rvs K ρ H xs (ps.map (·.1)) → Rvs K ρ H ys (ps.map (·.2)) → as.length = ps.length → (∀ (j : Nat) (a : Addr) (p : V × V), as[j]? = some a → ps[j]? = some p → H' a = some (.tup [p.1, p.2])) → Rvs K ρ' H' (zipP xs ys) (as.map V.ref)
  | [], _, [], [], _, _, _, _ => rfl
  | x :: xs, y :: ys, p :: ps, a :: as, h1, h2, hl, hp => by
    obtain ⟨w, r, e1, r1, t1⟩ := h1
    obtain ⟨w', r', e2, r2, t2⟩ := h2
    cases e1
    cases e2
    refine Rvs.cons ⟨a, [p.1, p.2], rfl, SqT.of (hp 0 a p rfl rfl), Rvs.cons (r1.ext E) (Rvs.cons (r2.ext E) rfl)⟩ (zip_rel E t1 t2 (by simpa using hl) fun j b q e1 e2 => hp (j + 1) b q (by simpa using e1) (by simpa using e2))
  | [], _, p :: ps, _, h1, _, _, _ => by cases h1
  | x :: xs, _, [], _, h1, _, _, _ => by obtain ⟨w, r, e, _⟩ := h1; cases e
  | _, [], p :: ps, _, _, h2, _, _ => by cases h2
  | _, y :: ys, [], _, _, h2, _, _ => by obtain ⟨w, r, e, _⟩ := h2; cases e
  | _, _, p :: ps, [], _, _, hl, _ => by simp at hl
  | _, _, [], a :: as, _, _, hl, _ => by simp at hl
theorem pm_listZip {X : Cx} {W : XW} {e e2 : Expr} {t : MA} {p p2 pos pos2 : Pos} (hc : X.calm = true) (hg : Gl X "list") (hm : X.mg "list" = none) (hg2 : Gl X "zip") (hm2 : X.mg "zip" = none) (ha : PMA X W [e, e2] t)
    (hs : starEach [e, e2] X.env = (false, eval e X.env) :: starEach [e2] X.env := by rfl) (hpl : (backTo pos2 (starEach [e2] X.env)).any (·.1) = false := by rfl)
    (na : starEach [Expr.Call (.Name "zip" p2) [e, e2] [] pos2] X.env = (false, eval (.Call (.Name "zip" p2) [e, e2] [] pos2) X.env) :: starEach [] X.env := by rfl) :
    PM X W (.Call (.Name "list" p) [.Call (.Name "zip" p2) [e, e2] [] pos2] [] pos) (mLZip t) := by
  refine pe_imp (LZ.pe_listZip hc hg hm hg2 hm2 ha hs hpl na) fun σ H Q ⟨ρ, Γ, S, R, G, q⟩ => ?_
  refine ⟨ρ, Γ, S, R, G, q.bind fun vs S1 ρ1 H1 ws E1 R1 rx q1 => ?_⟩
  match vs, rx, q1 with
  | [], _, q1 => exact q1.elim
  | [_], _, q1 => exact q1.elim
  | _ :: _ :: _ :: _, _, q1 => exact q1.elim
  | [v, w], rx, q1 =>
    obtain ⟨x, y, rfl, r1, r2⟩ := two_of rx rfl
    cases ev : lstOf S1 v with
    | none => simp only [ev] at q1; exact q1.elim
    | some xs =>
      cases ew : lstOf S1 w with
      | none => simp only [ev, ew] at q1; exact q1.elim
      | some ys =>
        simp only [ev, ew] at q1
        by_cases hl : xs.length = ys.length ∧ xs.length ≤ sizeLine
        · rw [if_pos hl] at q1
          obtain ⟨a, us, rfl, s1, t1⟩ := lst_sq R1 r1 ev
          obtain ⟨b, zs, rfl, s2, t2⟩ := lst_sq R1 r2 ew
          have l1 := t1.len
          have l2 := t2.len
          have e1 : (us.zip zs).map (·.1) = us := by rw [List.map_fst_zip]; omega
          have e2 : (us.zip zs).map (·.2) = zs := by rw [List.map_snd_zip]; omega
          refine ⟨a, b, us.zip zs, rfl, by rw [e1]; exact s1, by rw [e2]; exact s2, fun H' q as k1 k2 k3 k4 k5 k6 k7 => ?_⟩
          have E0 : Ext ρ1 (ρ1 ++ [q]) H1 H' := ⟨R1.nt, ⟨[q], rfl⟩, fun b u e _ => k1 b u e, fun b hb n => by
            rcases List.mem_append.mp hb with hb | hb
            · exact absurd hb n
            · rw [List.mem_singleton.mp hb]; exact k2⟩
          have rel := zip_rel E0 (xs := xs) (ys := ys) (ps := us.zip zs) (as := as) (by rw [e1]; exact t1) (by rw [e2]; exact t2) k6 k7
          obtain ⟨E, R2⟩ := R1.newIn k1 k2 (xs := zipP xs ys) (by rw [zipP_len hl.1]; exact hl.2) k5 rel
          exact q1 _ _ _ E R2 (R1.last q)
        · rw [if_neg hl] at q1
          exact q1.elim
end PM

namespace Q2
open PySem PySem.Spec PyProof.Rows L2
section
variable {prog : Program} {w : World} {A : Around} {E : Value → Shared → Prop} {s : Shared}
theorem sliceApplied_rev2 {sl : Addr} {tk : Tok} {Q : Int × Int × Nat → Shared → Prop} (hs : s.heap.IsSliceOf sl .none .none (.int (-1) tk)) (h : Q (1, -1, 2) s) :
    wpAny (model prog w) A (Builtin.Slice.sliceApplied (.ref sl) (pure ((2 : Nat) : Int))) Q E s := by
  obtain ⟨os, hos, hcs, hds⟩ := id hs
  unfold Builtin.Slice.sliceApplied Builtin.Slice.sliceFields
  refine wpAny_bind (wpAny_bind (wpAny_field hos hds (x := .none) rfl (wpAny_bind (wpAny_field hos hds (x := .none) rfl (wpAny_bind (wpAny_field hos hds (x := .int (-1) tk) rfl (wpAny_pure ?_)))))))
  refine wpAny_bind (slicePart_int ?_)
  show wpAny _ _ (if ((-1 : Int) == 0) = true then _ else _) _ _ s
  rw [if_neg (by decide)]
  refine wpAny_bind (slicePart_none (wpAny_bind (slicePart_none (wpAny_bind (wpAny_pure ?_)))))
  show wpAny _ _ (match Builtin.Slice.sliceAdjust none none (-1) ((2 : Nat) : Int) with | (lo, hi) => pure (lo, (-1 : Int), Builtin.Slice.slicePlaces lo hi (-1))) _ _ s
  rw [show Builtin.Slice.sliceAdjust none none (-1) ((2 : Nat) : Int) = (1, -1) by decide]
  show wpAny _ _ (pure ((1 : Int), (-1 : Int), Builtin.Slice.slicePlaces 1 (-1) (-1))) _ _ s
  rw [show Builtin.Slice.slicePlaces 1 (-1) (-1) = 2 by decide]
  exact wpAny_pure h
theorem getItem_tuple_rev2 {t sl : Addr} {u v : Value} {tk : Tok} {Q : Value → Shared → Prop} (ht : IsTup s.heap t #[u, v]) (hs : s.heap.IsSliceOf sl .none .none (.int (-1) tk))
    (h : Q (.ref s.heap.objs.size) { s with heap := s.heap.push { cls := .type "tuple", data := .seq #[v, u] } }) : wpAny (model prog w) A (getItem (.ref t) (.ref sl)) Q E s := by
  have hdrop : sizeOk (.seq #[v, u]) := by
    show 2 ≤ sizeLine
    decide
  obtain ⟨os, hos, hcs, hds⟩ := id hs
  have hTs : s.TypeIs (.ref sl) "slice" := ⟨os, hos, hcs⟩
  unfold getItem
  try with_reducible refine wpAny_holding ?_
  first | refine wpAny_bind (wpAny_pure ?_) | skip
  refine wpAny_bind (wpAny_sequenceKey ht.typeIs (by decide) ?_)
  refine wpAny_bind (wpAny_callSpecial?_slot (name := Str.ofString "__getitem__") ht.typeIs PyProof.Rows.slot_tuple_getitem
    (wpAny_call_entry PyProof.Rows.slot_tuple_getitem ht.typeIs entry_tuple_getitem ?_ (args_tuple_getitem _ _)))
  show wpAny _ _ (Builtin.Tuple.tupleItemsOf (.ref t) >>= _) _ _ s
  refine wpAny_bind (tupleItemsOf_ ht ?_)
  refine wpAny_bind (wpAny_typeOf hTs ?_)
  rw [if_pos (by decide)]
  refine wpAny_bind (sliceApplied_rev2 hs ?_)
  show wpAny _ _ (if ((1 : Int) == 0 && (-1 : Int) == 1 && (2 : Nat) == 2) = true then _ else _) _ _ s
  rw [if_neg (by decide)]
  have pick : ((List.range 2).filterMap fun (k : Nat) => (#[u, v] : Array Value)[((1 : Int) + (k : Int) * (-1)).toNat]?).toArray = #[v, u] := rfl
  rw [pick]
  first
    | exact wpAny_bind (m := Builtin.Tuple.tupleExact _) (wpAny_newObj_type (wpAny_pure ⟨_, rfl, wpAny_pure h⟩) hdrop)
    | exact wpAny_bind (m := Builtin.Tuple.tupleExact _) (wpAny_newObj_type (wpAny_bind (wpAny_pure (wpAny_pure ⟨_, rfl, wpAny_pure h⟩))) hdrop)
    | exact wpAny_bind (wpAny_bind (m := Builtin.Tuple.tupleExact _) (wpAny_newObj_type (wpAny_pure (wpAny_pure ⟨_, rfl, wpAny_pure h⟩)) hdrop))
    | exact wpAny_bind (wpAny_bind (m := Builtin.Tuple.tupleExact _) (wpAny_newObj_type (wpAny_pure ⟨_, rfl, wpAny_pure h⟩) hdrop))
end
section
variable {X : Cx}
/-- t[::-1] of a pair -/
def tRevT (K : PySem.W.Frag) (te : TE) : TE := fun σ H Q => te σ H fun x H1 => ∃ a p q, x = .ref a ∧ SqT K H1 a [p, q] ∧ ∀ r, H1 r = none → Q (.ref r) (upd H1 r (.tup [q, p]))
theorem pe_revT {e : Expr} {te : TE} {k : Nat} {p1 p2 p3 pos : Pos} (he : PE X e te) : PE X (.Subscript e (.Slice none none (some (.UnaryOp .USub (.Constant (.int 1) k p1) p2)) p3) pos) (tRevT X.K te) := by
  refine ⟨fun pins s σ H Q I h => ?_⟩
  refine Subscript_ (thn (he.run pins s σ H _ I h) fun v s1 ⟨x, H1, I1, r1, q1⟩ => ?_)
  obtain ⟨a, xp, xq, ex, hx, q⟩ := q1
  subst ex
  cases r1
  have hst : PO X (some (.UnaryOp .USub (.Constant (.int 1) k p1) p2)) (tPart (tUn (rU fun i => .int (-i)) (tC (.int 1)))) := po_some (pe_un un_neg pe_int)
  refine wpAny_Slice (thn (po_none.run pins s1 σ H1 (fun o H2 => o = none ∧ H2 = H1) I1 ⟨rfl, rfl⟩) fun vl s2 ⟨l, H2, I2, pl, el, e2⟩ => ?_)
  subst el e2
  refine thn (po_none.run pins s2 σ H2 (fun o H3 => o = none ∧ H3 = H2) I2 ⟨rfl, rfl⟩) fun vu s3 ⟨u, H3, I3, pu, eu, e3⟩ => ?_
  subst eu e3
  refine thn (hst.run pins s3 σ H3 (fun o H4 => o = some (-1) ∧ H4 = H3) I3 ⟨1, rfl, -1, rfl, rfl, rfl⟩) fun vs s4 ⟨o, H4, I4, ps, eo, e4⟩ => ?_
  subst eo e4
  have I5 : Inv X pins σ H4 { s4 with heap := s4.heap.push { cls := .type "slice", data := .fields #[vl, vu, vs] } } := I4.kept (t' := s4.toks) fun b ob q => Heap.get?_push_of_some _ q
  obtain ⟨its, r, ht, hz⟩ := I5.tuple hx
  cases pl
  cases pu
  cases ps

  cases r with
  | cons r1 rr =>
    rename_i u1 us
    cases rr with
    | cons r2 rr2 =>
      rename_i u2 us2
      cases rr2
      show wpAny (model X.prog X.w) X.A (subscriptTail e (.Slice none none (some (.UnaryOp .USub (.Constant (.int 1) k p1) p2)) p3) (.ref a) (.ref s4.heap.objs.size)) (EP X pins σ Q) X.xe { s4 with heap := s4.heap.push { cls := .type "slice", data := .fields #[.none, .none, .int (-1) _] } }
      refine tail_any (ops := [.ref a, .ref s4.heap.objs.size]) ht.typeIs (PyProof.Rows.slot_tuple_getitem.lookup) ?_ (by with_unfolding_all rfl)
      refine getItem_tuple_rev2 (u := u1) (v := u2) ht (Heap.IsSliceOf.new _ .none .none _) ?_
      refine ⟨.ref _, _, I5.laid (t' := s4.toks) (o := .tup [xq, xp]) (fun b ob q => Heap.get?_push_of_some _ q) (Nat.le_refl _) ?_, rfl, q _ (I5.hok.fresh (Nat.le_refl _))⟩
      exact ⟨by show 2 ≤ sizeLine; decide, [u2, u1], .cons r2 (.cons r1 .nil), IsTup.new _ _⟩
end
end Q2

namespace PM
open PySem PySem.Spec PyProof.Rows L2 Q2
/-! ### t[::-1] of a pair -/
def mRevT (m : ME) : ME := fun Γ S => (m Γ S).bind fun v S1 => match v with
  | .tup xs => match xs with
    | [x, y] => .ok (.tup [y, x]) S1
    | _ => .bad
  | _ => .bad
theorem pm_revT {X : Cx} {W : XW} {e : Expr} {m : ME} {k : Nat} {p1 p2 p3 pos : Pos} (h : PM X W e m) : PM X W (.Subscript e (.Slice none none (some (.UnaryOp .USub (.Constant (.int 1) k p1) p2)) p3) pos) (mRevT m) := by
  refine pe_imp (pe_revT h) fun σ H Q ⟨ρ, Γ, S, R, G, q⟩ => ?_
  refine ⟨ρ, Γ, S, R, G, q.bind fun v S1 ρ1 H1 x E1 R1 rx q1 => ?_⟩
  cases v with
  | tup xs =>
    match xs, rx, q1 with
    | [], _, q1 => exact q1.elim
    | [_], _, q1 => exact q1.elim
    | _ :: _ :: _ :: _, _, q1 => exact q1.elim
    | [u, v], rx, q1 =>
      obtain ⟨a, ws, rfl, h1, w1, _, rfl, r1, w2, _, rfl, r2, rfl⟩ := rx
      refine ⟨a, w1, w2, rfl, h1, fun p hp => ?_⟩
      obtain ⟨E, R2⟩ := R1.own (o := .tup [w2, w1]) hp
      exact q1 ρ1 _ _ E R2 ⟨p, [w2, w1], rfl, SqT.of upd_same, Rvs.cons (r2.ext E) (Rvs.cons (r1.ext E) rfl)⟩
  | _ => exact q1.elim
end PM

namespace PM
open PySem PySem.Spec PyProof.Rows L2 Q2
def top (i : Nat) : Stmt := PySem.Challenge.pw_planesplits_k40_codes_and_cells.main.body.getD i (.Pass ⟨0, 0, 0, 0⟩)
abbrev s_is_integer : Stmt := top 6
abbrev s_is_coordinate : Stmt := top 7
abbrev s_is_point : Stmt := top 8
abbrev s_check_number : Stmt := top 9
abbrev s_check_figures : Stmt := top 12
abbrev s_is_place : Stmt := top 13
abbrev s_check_place : Stmt := top 14
abbrev s_is_cell : Stmt := top 15
abbrev s_check_cell : Stmt := top 16
abbrev s_cell_at : Stmt := top 17
abbrev s_cell_of_place : Stmt := top 18
abbrev s_cell_of_both : Stmt := top 19
abbrev s_code_at : Stmt := top 20
abbrev s_place_at : Stmt := top 21
abbrev s_codes_of : Stmt := top 22
abbrev s_code_of : Stmt := top 24
abbrev s_check_code : Stmt := top 25
abbrev s_place_of : Stmt := top 26
abbrev s_stretch_of : Stmt := top 27
abbrev s_common_cell : Stmt := top 28
abbrev s_law_mixed : Stmt := top 30
abbrev s_law_source : Stmt := top 31
abbrev s_law_take : Stmt := top 32
abbrev s_law_pick : Stmt := top 33
abbrev s_law_code : Stmt := top 34
abbrev s_law_common : Stmt := top 35
abbrev s_law_all_right : Stmt := top 36
abbrev s_law_right : Stmt := top 37
abbrev s_law : Stmt := top 38
end PM

namespace PM
open PySem PySem.Spec PyProof.Rows L2 PySem.NumText PySem.Calls
/-- signs 0 and 1, read with base 2 -/
def num2 (l : List Nat) : Nat := l.foldl (fun n z => n * 2 + (z - 48)) 0
section
variable {l : List Nat} {z : Nat}
theorem step2 (h : z = 48 ∨ z = 49) (ds : Array Nat) (b : Bool) : PySem.NumText.step 2 (ds, b) z = some (ds.push (z - 48), true) := by
  rcases h with rfl | rfl <;> rfl
theorem steps2 : ∀ (l : List Nat) (ds : Array Nat) (b : Bool), Bits l → l ≠ [] → l.foldlM (PySem.NumText.step 2) (ds, b) = some (l.foldl (fun out z => out.push (z - 48)) ds, true)
  | [], _, _, _, n => absurd rfl n
  | [z], ds, b, h, _ => by
    simp only [List.foldlM_cons, step2 h.hd]
    rfl
  | z :: y :: r, ds, b, h, _ => by
    rw [List.foldlM_cons, step2 h.hd]
    exact steps2 (y :: r) _ true h.tl (by simp)
theorem figs2 (h : Bits l) (n : l ≠ []) : digits? 2 l = some (l.foldl (fun out z => out.push (z - 48)) #[]) := by
  unfold digits?
  rw [steps2 l _ _ h n]
  rfl
theorem fold2 : ∀ (l : List Nat) (ds : Array Nat), (l.foldl (fun out z => out.push (z - 48)) ds).foldl (fun n d => n * 2 + d) 0 = l.foldl (fun n z => n * 2 + (z - 48)) (ds.foldl (fun n d => n * 2 + d) 0)
  | [], _ => rfl
  | z :: r, ds => by
    rw [List.foldl_cons, fold2 r, List.foldl_cons]
    exact congrArg (fun n => r.foldl _ n) (by simp)
theorem base2 (h : Bits l) : based 2 l = (2, false, l) := by
  match l, h with
  | [], _ => rfl
  | [z], h => rcases h.hd with rfl | rfl <;> rfl
  | z :: y :: r, h => rcases h.hd with rfl | rfl <;> rcases h.tl.hd with rfl | rfl <;> rfl
theorem read2 (h : Bits l) (n : l ≠ []) : (int_private% "readNumeral") 0 2 l = (int_private% "Numeral.value") ((num2 l : Nat) : Int) := by
  have hr : Bits l.reverse := fun y hy => h y (List.mem_reverse.mp hy)
  refine (readNumeral_eq 0 2 l).trans ?_
  rw [noBlank h, noSign h]
  show judge 0 false (based 2 l).1 (based 2 l).2.1 (digits? (based 2 l).1 ((List.dropWhile blank (based 2 l).2.2.reverse).reverse)) = _
  rw [base2 h]
  show judge 0 false 2 false (digits? 2 ((List.dropWhile blank l.reverse).reverse)) = _
  rw [noBlank hr, List.reverse_reverse, figs2 h n]
  show (int_private% "Numeral.value") ((Array.foldl (fun n d => n * 2 + d) 0 (l.foldl (fun out z => out.push (z - 48)) (#[] : Array Nat)) : Nat) : Int) = _
  rw [fold2]
  rfl
theorem new2 {x : PySem.Str} {u t : Tok} (hl : x.length ≤ 640) (h : Bits x.cps.toList) (n : x.cps.toList ≠ []) : Gives (Builtin.«int.__new__» ⟨[.type "int", .str x u, .int 2 t], []⟩) (.int ((num2 x.cps.toList : Nat) : Int)) := by
  obtain ⟨e1, e2⟩ := seen4 h
  have k : Kept ((numSeenOf x).length ≤ 640 ∧ (int_private% "readNumeral") 0 2 (numSeenOf x) = (int_private% "Numeral.value") ((num2 x.cps.toList : Nat) : Int) ∧ ((numSeenOf x).length == (numTextOf x).length) = true) := by
    rw [e1, e2]
    exact ⟨by rw [Array.length_toList]; exact hl, read2 h n, beq_self_eq_true _⟩
  refine .of_wp fun M A E s Q hQ => ?_
  obtain ⟨hp, g, d, tk, os⟩ := s
  have g1 := F.conv_sub_int
  have g2 := F.madeHere_int
  have g3 : typeOf (.str x u) = pure (.type "str") := rfl
  clear hl h n e1 e2
  repeat (any_goals (first
    | assumption
    | ((with_reducible show wpAny _ _ ((int_private% "intFromText") _ _ _) _ _ _); refine Hx.wp_textB k.get.1 k.get.2.1 k.get.2.2 ?_)
    | wp_step))
  all_goals first | exact ⟨_, rfl, hQ⟩ | skip
end
/-- int(text, 2) of a text of signs 0 and 1 -/
def rInt2 : List V → Hp → VK → Prop := fun xs H Q => ∃ l : List Nat, xs = [.str (⟨l.toArray⟩ : PySem.Str), .int 2] ∧ l ≠ [] ∧ l.length ≤ 640 ∧ Bits l ∧ Q (.int ((num2 l : Nat) : Int)) H
theorem cr_int2 {X : Cx} : CallR X (.type "int") rInt2 := by
  intro pins s σ H xs us Q I r h
  obtain ⟨l, rfl, n, hl, hb, q⟩ := h
  obtain ⟨u, w', rfl, r1, r2⟩ := vals2 r
  obtain ⟨t1, rfl⟩ := r1
  obtain ⟨t2, rfl⟩ := r2
  have e : (⟨l.toArray⟩ : PySem.Str).cps.toList = l := rfl
  have g := new2 (x := (⟨l.toArray⟩ : PySem.Str)) (u := t1) (t := t2) (by simpa [PySem.Str.length] using hl) hb n
  rw [e] at g
  exact callType_new F.called_int F.newNe_int (Hx.typeCall_int_2 _ _) (Hx.newCall_int_2 _ _) (fun obj => F.initArgs_range_2 obj _ _) F.entry_int_new g.meets (show (Made.int ((num2 l : Nat) : Int)).post _ s from ⟨rfl, .int ((num2 l : Nat) : Int), H, I.tok _, ⟨_, rfl⟩, q⟩)
end PM

namespace PM
open PySem PySem.Spec PyProof.Rows L2 Q2
def int2V (v w : Va) (S : Sto) : Option (Va × Sto) := match v with
  | .str z => match w with
    | .int i => if i = 2 ∧ z.cps.toList ≠ [] ∧ z.cps.toList.length ≤ 640 ∧ isBits z.cps.toList = true then some (.int ((num2 z.cps.toList : Nat) : Int), S) else none
    | _ => none
  | _ => none
def fInt2 : FL := fL2 int2V
theorem cInt2 : CallP X (.type "int") fInt2 := by
  refine ⟨_, cr_int2, callM2 fun ρ S H v w x y Q R r r' a => ?_⟩
  cases v with
  | str z =>
    cases w with
    | int i =>
      cases r
      cases r'
      have a : Ans (kxOf X) Q ρ H (if i = 2 ∧ z.cps.toList ≠ [] ∧ z.cps.toList.length ≤ 640 ∧ isBits z.cps.toList = true then some (.int ((num2 z.cps.toList : Nat) : Int), S) else none) := a
      obtain ⟨⟨e2, h1, h2, h3⟩, b⟩ := ans_if a
      subst e2
      refine ⟨z.cps.toList, rfl, h1, h2, fun y hy => ?_, b ρ H _ R.refl R rfl⟩
      have := List.all_eq_true.mp h3 y hy
      simpa using this
    | _ => exact a.elim
  | _ => exact a.elim
end PM

namespace Q2
open PySem PySem.Spec PyProof.Rows L2 PySem.Builtin PySem.Builtin.Str
/-- every other sign of a text, from a on -/
def every2 (a : Int) (z : PySem.Str) : PySem.Str := ⟨((strSliceIndices (some a) none 2 z.length).filterMap (z.cps[·]?)).toArray⟩
def tSl2 (a : Int) (te : TE) : TE := fun σ H Q => te σ H fun x H1 => ∃ z : PySem.Str, x = .str z ∧ (every2 a z).length ≤ sizeLine ∧ Q (.str (every2 a z)) H1
theorem made2 (z : PySem.Str) (t : Tok) (a : Int) (u1 u2 : Tok) : sliceMade z t (some (a, u1)) none (some (2, u2)) = Made.str (every2 a z) := by
  unfold sliceMade
  rw [if_neg (by simp)]
  rfl
theorem pe_sl2 {X : Cx} {e : Expr} {te : TE} {a : Int} {k1 k2 : Nat} {p1 p2 p3 pos : Pos} (he : PE X e te) : PE X (.Subscript e (.Slice (some (.Constant (.int a) k1 p1)) none (some (.Constant (.int 2) k2 p2)) p3) pos) (tSl2 a te) := by
  refine ⟨fun pins s σ H Q I h => ?_⟩
  refine Subscript_ (thn (he.run pins s σ H _ I h) fun v s1 ⟨x, H1, I1, r1, q1⟩ => ?_)
  obtain ⟨z, ex, hl, q⟩ := q1
  subst ex
  obtain ⟨t, rfl⟩ := r1
  have hlo : PO X (some (.Constant (.int a) k1 p1)) (tPart (tC (.int a))) := po_some pe_int
  have hst : PO X (some (.Constant (.int 2) k2 p2)) (tPart (tC (.int 2))) := po_some pe_int
  refine wpAny_Slice (thn (hlo.run pins s1 σ H1 (fun o H2 => o = some a ∧ H2 = H1) I1 ⟨a, rfl, rfl, rfl⟩) fun vl s2 ⟨l, H2, I2, pl, el, e2⟩ => ?_)
  subst el e2
  refine thn (po_none.run pins s2 σ H2 (fun o H3 => o = none ∧ H3 = H2) I2 ⟨rfl, rfl⟩) fun vu s3 ⟨u, H3, I3, pu, eu, e3⟩ => ?_
  subst eu e3
  refine thn (hst.run pins s3 σ H3 (fun o H4 => o = some 2 ∧ H4 = H3) I3 ⟨2, rfl, rfl, rfl⟩) fun vs s4 ⟨o, H4, I4, ps, eo, e4⟩ => ?_
  subst eo e4
  have I5 : Inv X pins σ H4 { s4 with heap := s4.heap.push { cls := .type "slice", data := .fields #[vl, vu, vs] } } := I4.kept (t' := s4.toks) fun b ob q => Heap.get?_push_of_some _ q
  cases pl
  cases pu
  cases ps

  show wpAny (model X.prog X.w) X.A (subscriptTail e (.Slice (some (.Constant (.int a) k1 p1)) none (some (.Constant (.int 2) k2 p2)) p3) (.str z t) (.ref s4.heap.objs.size)) (EP X pins σ Q) X.xe { s4 with heap := s4.heap.push { cls := .type "slice", data := .fields #[.int a _, .none, .int 2 _] } }
  refine tail_any (ops := [.str z t, .ref s4.heap.objs.size]) (typeIs_str _ z t) (F.slot_str_getitem.lookup) ?_ (by with_unfolding_all rfl)
  refine PySem.wpAny_getItem_str_slice (l := some (a, _)) (u := none) (st := some (2, _)) ⟨_, Heap.get?_push_size _ rfl, rfl, rfl⟩ rfl ?_
  rw [made2]
  exact ⟨hl, ⟨.str _, _, I5.tok _, ⟨_, rfl⟩, q⟩⟩
end Q2

namespace PM
open PySem PySem.Spec PyProof.Rows L2 Q2
/-! ### t[a::2], t.zfill(n) of a text -/
def sl2F (a : Int) : F1 := fun v S => match v with
  | .str z => if (every2 a z).length ≤ sizeLine then some (.str (every2 a z), S) else none
  | _ => none
theorem pm_sl2 {X : Cx} {W : XW} {e : Expr} {m : ME} {a : Int} {k1 k2 : Nat} {p1 p2 p3 pos : Pos} (h : PM X W e m) : PM X W (.Subscript e (.Slice (some (.Constant (.int a) k1 p1)) none (some (.Constant (.int 2) k2 p2)) p3) pos) (m1 (sl2F a) m) := by
  refine pe_imp (pe_sl2 h) fun σ H Q ⟨ρ, Γ, S, R, G, q⟩ => ?_
  refine ⟨ρ, Γ, S, R, G, q.bind fun v S1 ρ1 H1 x E1 R1 rx q1 => ?_⟩
  have q1 := q1.ans
  cases v with
  | str z =>
    cases rx
    have q1 : Ans (kxOf X) Q ρ1 H1 (if (every2 a z).length ≤ sizeLine then some (.str (every2 a z), S1) else none) := q1
    obtain ⟨hl, b⟩ := ans_if q1
    exact ⟨z, rfl, hl, b ρ1 H1 _ R1.refl R1 rfl⟩
  | _ => exact q1.elim
def mZf (o : ME) (t : MA) : ME := fun Γ S => (o Γ S).bind fun ov S1 => match ov with
  | .str z => (t Γ S1).bind fun vs S2 => match vs with
    | [.int i] => if PadOk i = true then .ok (.str (Txt.zfill z i)) S2 else .bad
    | _ => .bad
  | _ => .bad
theorem pm_zfill {X : Cx} {W : XW} {o e : Expr} {es : List Expr} {mo : ME} {t : MA} {apos cpos : Pos} (ho : PM X W o mo) (ht : PMA X W (e :: es) t)
    (hbase : attributeBase o "zfill" X.env (eval o X.env) = eval o X.env := by rfl)
    (hfew : ((backTo cpos (starEach (e :: es) X.env)).all (fun x => !x.1) && (backToKw cpos (keywordEach [] X.env)).all (fun x => x.1.isSome)
      && decide ((e :: es).length + ([] : List Keyword).length + (if ([] : List Keyword).isEmpty then 0 else 1) < 30)) = true := by rfl)
    (hline : (apos.endLine == cpos.line) = true := by rfl) (hs : starEach (e :: es) X.env = (false, eval e X.env) :: starEach es X.env := by rfl) (hplain : (backTo cpos (starEach es X.env)).any (·.1) = false := by rfl) :
    PM X W (.Call (.Attribute o "zfill" apos) (e :: es) [] cpos) (mZf mo t) := by
  refine pe_imp (pe_bm PySem.F.plainAttrs_str PySem.F.slot_str_zfill PySem.F.type_str_zfill mt_zfill ho ht hbase hfew hline hs hplain) fun σ H Q ⟨ρ, Γ, S, R, G, q⟩ => ?_
  refine ⟨ρ, Γ, S, R, G, q.bind fun ov S1 ρ1 H1 x E1 R1 rx q1 => ?_⟩
  cases ov with
  | str z =>
    cases rx
    refine ⟨?_, ρ1, Γ, S1, R1, G.ext E1, q1.bind fun vs S2 ρ2 H2 ys E2 R2 ry q2 => ?_⟩
    · rfl
    · cases vs with
      | nil => exact q2.elim
      | cons v r =>
        cases r with
        | cons _ _ => cases v <;> exact q2.elim
        | nil =>
          obtain ⟨y, rfl, r1⟩ := one_of ry rfl
          cases v with
          | int i =>
            cases r1
            have q3 : Aft (kxOf X) W σ (Rv (kxOf X)) Q ρ2 H2 (if PadOk i = true then Res.ok (Va.str (Txt.zfill z i)) S2 else Res.bad) := q2
            by_cases hp : PadOk i = true
            · rw [if_pos hp] at q3
              exact ⟨z, i, rfl, rfl, hp, q3 ρ2 H2 _ R2.refl R2 rfl⟩
            · rw [if_neg hp] at q3
              exact q3.elim
          | _ => exact q2.elim
  | _ => exact q1.elim
end PM

namespace PM
open PySem PySem.Spec PyProof.Rows L2 Q2
/-! ### << of great numbers -/
@[irreducible] def shlCW (i j : Int) : Bool := decide (0 ≤ j ∧ (Builtin.Int.intBits i : Int) + j ≤ 2 ^ 27)
def shlW : F2 := fI2 shlCW fun i j => .int (i * 2 ^ j.toNat)
theorem oShlW {X : Cx} : OpP X (binaryOp .LShift) shlW := opI2 op_shlW (fun i j h => of_decide_eq_true (p := 0 ≤ j ∧ (Builtin.Int.intBits i : Int) + j ≤ 2 ^ 27) (by unfold shlCW at h; exact h)) fun _ _ _ _ => rfl
end PM

namespace PM
open PySem PySem.Spec PyProof.Rows L2 Q2
/-! ### weakest conditions -/
def Wp {α : Type} (r : Res α) (Q : α → Sto → Prop) : Prop := match r with
  | .ok a S => Q a S
  | _ => False
structure Po where
  nx : En → Sto → Prop
  rt : Va → Sto → Prop
  bk : En → Sto → Prop := fun _ _ => False
  ct : En → Sto → Prop := fun _ _ => False
def Ws (r : Rs) (P : Po) : Prop := match r with
  | .nx Γ S => P.nx Γ S
  | .rt v S => P.rt v S
  | .bk Γ S => P.bk Γ S
  | .ct Γ S => P.ct Γ S
  | _ => False
def Wo (o : Option (Va × Sto)) (Q : Va → Sto → Prop) : Prop := match o with
  | some (v, S) => Q v S
  | none => False
section
variable {α β : Type} {Q Q' : α → Sto → Prop} {Γ : En} {S : Sto} {P : Po}
theorem Wp.mono {r : Res α} (h : Wp r Q) (hq : ∀ a S, Q a S → Q' a S) : Wp r Q' := by
  cases r with
  | ok a S => exact hq a S h
  | bad => exact h
  | ex c f v S => exact h
theorem Wp.bind {r : Res α} {k : α → Sto → Res β} {R : β → Sto → Prop} (h : Wp r fun a S => Wp (k a S) R) : Wp (r.bind k) R := by
  cases r with
  | ok a S => exact h
  | bad => exact h
  | ex c f v S => exact h
theorem Wp.bindN {r : Res α} {k : α → Sto → Res β} {R : β → Sto → Prop} (h : Wp r fun a S => Wp (k a S) R) : Wp (r.bindN k) R := by
  cases r with
  | ok a S => exact h
  | bad => exact h
  | ex c f v S => exact h
theorem Wp.noX {r : Res α} (h : Wp r Q) : Wp (noX r) Q := by
  cases r with
  | ok a S => exact h
  | bad => exact h
  | ex c f v S => exact h
theorem Wp.thenS {r : Res α} {k : α → Sto → Rs} (h : Wp r fun a S => Ws (k a S) P) : Ws (PM.thenS Γ r k) P := by
  cases r with
  | ok a S => exact h
  | bad => exact h
  | ex c f v S => exact h
theorem Wp.lift {o : Option (Va × Sto)} {Q : Va → Sto → Prop} (h : Wo o Q) : Wp (PM.lift o) Q := by
  cases o with
  | none => exact h
  | some p => exact h
theorem Wp.ok {a : α} (h : Q a S) : Wp (.ok a S) Q := h
theorem Wp.eq {r : Res α} {a : α} (e : r = .ok a S) (h : Q a S) : Wp r Q := by rw [e]; exact h
theorem Wp.get {r : Res α} (h : Wp r Q) : ∃ a S', r = .ok a S' ∧ Q a S' := by
  cases r with
  | ok a S => exact ⟨a, S, rfl, h⟩
  | bad => exact h.elim
  | ex c f v S => exact h.elim
theorem Wo.eq {o : Option (Va × Sto)} {v : Va} {Q : Va → Sto → Prop} (e : o = some (v, S)) (h : Q v S) : Wo o Q := by rw [e]; exact h
end
section
variable {Q : Va → Sto → Prop} {QL : List Va → Sto → Prop} {QB : Bool → Sto → Prop} {Γ : En} {S : Sto} {P : Po}
theorem w_var {i : Nat} {v : Va} (h : Γ[i]? = some (some v)) (q : Q v S) : Wp (mV i Γ S) Q := by
  unfold mV
  rw [h]
  exact q
theorem w_c {v : Va} (q : Q v S) : Wp (mC v Γ S) Q := q
theorem w_m1 {f : F1} {a : ME} (h : Wp (a Γ S) fun v S1 => Wo (f v S1) Q) : Wp (m1 f a Γ S) Q := Wp.bind (h.mono fun _ _ h => Wp.lift h)
theorem w_m2 {f : F2} {a b : ME} (h : Wp (a Γ S) fun v S1 => Wp (b Γ S1) fun w S2 => Wo (f v w S2) Q) : Wp (m2 f a b Γ S) Q := Wp.bind (h.mono fun _ _ h => Wp.bind (h.mono fun _ _ h => Wp.lift h))
theorem w_maN (q : QL [] S) : Wp (maN Γ S) QL := q
theorem w_maC {a : ME} {t : MA} (h : Wp (a Γ S) fun v S1 => Wp (t Γ S1) fun vs S2 => QL (v :: vs) S2) : Wp (maC a t Γ S) QL := Wp.bind (h.mono fun _ _ h => Wp.bind h)
theorem w_mL {f : FL} {t : MA} (h : Wp (t Γ S) fun vs S1 => Wo (f vs S1) Q) : Wp (mL f t Γ S) Q := Wp.bind (h.mono fun _ _ h => Wp.lift h)
theorem w_call {g : MF} {t : MA} (h : Wp (t Γ S) fun vs S1 => Wp (g vs S1) Q) : Wp (mCall g t Γ S) Q := Wp.bind h
theorem w_callKw {n m : Nat} {o : List Nat} {g : MF} {t u : MA} (h : Wp (t Γ S) fun vs S1 => Wp (u Γ S1) fun ws S2 => (vs.length = n ∧ ws.length = m ∧ (permL o (vs ++ ws)).length = o.length) ∧ Wp (g (permL o (vs ++ ws)) S2) Q) : Wp (mCallKw n m o g t u Γ S) Q :=
  Wp.bindN (h.mono fun _ _ h => Wp.bindN (h.mono fun _ _ h => by rw [if_pos h.1]; exact h.2.noX))
theorem w_mtOf {a : ME} (h : Wp (a Γ S) fun v S1 => ∃ b, v = .bl b ∧ QB b S1) : Wp (mtOf a Γ S) QB := Wp.bind (h.mono fun _ _ h => by obtain ⟨b, rfl, q⟩ := h; exact q)
theorem w_mtTru {a : ME} (h : Wp (a Γ S) fun v S1 => ∃ b, tru S1 v = some b ∧ QB b S1) : Wp (mtTru a Γ S) QB := Wp.bind (h.mono fun _ _ h => by obtain ⟨b, e, q⟩ := h; simp only [e]; exact q)
theorem w_mtNot {a : MT} (h : Wp (a Γ S) fun b S1 => QB (!b) S1) : Wp (mtNot a Γ S) QB := Wp.bind h
theorem w_mtAnd {a b : MT} (h : Wp (a Γ S) fun c S1 => if c = true then Wp (b Γ S1) QB else QB false S1) : Wp (mtAnd a b Γ S) QB := Wp.bind (h.mono fun c _ h => by
  cases c with
  | true => exact h
  | false => exact h)
theorem w_mtOr {a b : MT} (h : Wp (a Γ S) fun c S1 => if c = true then QB true S1 else Wp (b Γ S1) QB) : Wp (mtOr a b Γ S) QB := Wp.bind (h.mono fun c _ h => by
  cases c with
  | true => exact h
  | false => exact h)
theorem w_meAnd {a b : ME} (h : Wp (a Γ S) fun v S1 => ∃ c, v = .bl c ∧ if c = true then Wp (b Γ S1) Q else Q (.bl false) S1) : Wp (meAnd a b Γ S) Q := Wp.bind (h.mono fun _ _ h => by
  obtain ⟨c, rfl, h⟩ := h
  cases c with
  | true => exact h
  | false => exact h)
theorem w_meOr {a b : ME} (h : Wp (a Γ S) fun v S1 => ∃ c, v = .bl c ∧ if c = true then Q (.bl true) S1 else Wp (b Γ S1) Q) : Wp (meOr a b Γ S) Q := Wp.bind (h.mono fun _ _ h => by
  obtain ⟨c, rfl, h⟩ := h
  cases c with
  | true => exact h
  | false => exact h)
theorem w_mNot {a : ME} (h : Wp (a Γ S) fun v S1 => ∃ c, v = .bl c ∧ Q (.bl (!c)) S1) : Wp (mNot a Γ S) Q := Wp.bind (h.mono fun _ _ h => by
  obtain ⟨c, rfl, h⟩ := h
  exact h)
theorem w_isN {a : ME} (h : Wp (a Γ S) fun v S1 => Q (.bl (isNonV v)) S1) : Wp (mIsN a Γ S) Q := Wp.bind h
theorem w_notN {a : ME} (h : Wp (a Γ S) fun v S1 => Q (.bl (!isNonV v)) S1) : Wp (mNotN a Γ S) Q := Wp.bind h
theorem w_if {c : MT} {a b : ME} (h : Wp (c Γ S) fun k S1 => if k = true then Wp (a Γ S1) Q else Wp (b Γ S1) Q) : Wp (mIf c a b Γ S) Q := Wp.bind (h.mono fun c _ h => by
  cases c with
  | true => exact h
  | false => exact h)
theorem w_isiT {a : ME} {ts : List String} (h : Wp (a Γ S) fun v S1 => ∃ k b, kindV S1 v = some k ∧ kitAnyB k ts = some b ∧ Q (.bl b) S1) : Wp (mIsiT a ts Γ S) Q := Wp.bind (h.mono fun _ _ h => by
  obtain ⟨k, b, h1, h2, q⟩ := h
  simp only [h1, h2]
  exact q)
theorem w_chain {f g : F2} {a b c : ME} (h : Wp (a Γ S) fun v S1 => Wp (b Γ S1) fun w S2 => Wo (f v w S2) fun z S3 => ∃ k, z = .bl k ∧ if k = true then Wp (c Γ S3) fun u S4 => Wo (g w u S4) Q else Q (.bl false) S3) : Wp (mChain f g a b c Γ S) Q :=
  Wp.bind (h.mono fun _ _ h => Wp.bind (h.mono fun _ _ h => Wp.bind (Wp.mono (Wp.lift h) fun _ _ h => by
    obtain ⟨k, rfl, h⟩ := h
    cases k with
    | true => exact Wp.bind (Wp.mono h fun _ _ h => Wp.lift h)
    | false => exact h)))
/-! ### statements -/
theorem ws_seq {a b : MS} (h : Ws (a Γ S) { P with nx := fun Γ' S' => Ws (b Γ' S') P }) : Ws (sSeq a b Γ S) P := by
  unfold sSeq
  cases e : a Γ S <;> rw [e] at h <;> exact h
theorem ws_nil (h : P.nx Γ S) : Ws (sNil Γ S) P := h
theorem ws_expr {m : ME} (h : Wp (m Γ S) fun _ S1 => P.nx Γ S1) : Ws (sExpr m Γ S) P := Wp.thenS h
theorem ws_ret {m : ME} (h : Wp (m Γ S) P.rt) : Ws (sRet m Γ S) P := Wp.thenS h
theorem ws_if {c : MT} {a b : MS} (h : Wp (c Γ S) fun k S1 => if k = true then Ws (a Γ S1) P else Ws (b Γ S1) P) : Ws (sIf c a b Γ S) P := Wp.thenS (h.mono fun c _ h => by
  cases c with
  | true => exact h
  | false => exact h)
theorem ws_set {i : Nat} {m : ME} (h : Wp (m Γ S) fun v S1 => P.nx (Γ.set i (some v)) S1) : Ws (sSet i m Γ S) P := Wp.thenS h
theorem ws_par {i j : Nat} {t : MA} (h : Wp (t Γ S) fun vs S1 => ∃ v w, vs = [v, w] ∧ P.nx ((Γ.set i (some v)).set j (some w)) S1) : Ws (sPar i j t Γ S) P := Wp.thenS (h.mono fun _ _ h => by
  obtain ⟨v, w, rfl, h⟩ := h
  exact h)
theorem ws_par3 {i j l : Nat} {t : MA} (h : Wp (t Γ S) fun vs S1 => ∃ u v w, vs = [u, v, w] ∧ P.nx (((Γ.set i (some u)).set j (some v)).set l (some w)) S1) : Ws (sPar3 i j l t Γ S) P := Wp.thenS (h.mono fun _ _ h => by
  obtain ⟨u, v, w, rfl, h⟩ := h
  exact h)
theorem ws_aug {i : Nat} {f : F2} {m : ME} {x : Va} (hx : Γ[i]? = some (some x)) (h : Wp (m Γ S) fun v S1 => Wo (f x v S1) fun z S2 => P.nx (Γ.set i (some z)) S2) : Ws (sAug i f m Γ S) P := by
  unfold sAug
  rw [hx]
  exact Wp.thenS (h.mono fun _ _ h => Wp.thenS (Wp.lift h))
theorem ws_augSub {f : F2} {o i m : ME} (h : Wp (o Γ S) fun ov S1 => Wp (i Γ S1) fun iv S2 => ∃ n k xs x, ov = .ref n ∧ iv = .int k ∧ S2[n]? = some (.lst xs) ∧ L2.atI xs k = some x ∧ Wp (m Γ S2) fun v S3 => Wo (f x v S3) fun z S4 => ∃ ys j, S4[n]? = some (.lst ys) ∧ ixN ys.length k = some j ∧ P.nx Γ (S4.set n (.lst (ys.set j z)))) : Ws (sAugSub f o i m Γ S) P :=
  Wp.thenS (h.mono fun _ _ h => Wp.thenS (h.mono fun _ S2 h => by
    obtain ⟨n, k, xs, x, rfl, rfl, e1, e2, h⟩ := h
    simp only [e1, e2]
    refine Wp.thenS (h.mono fun _ _ h => Wp.thenS (Wp.mono (Wp.lift h) fun _ S4 h => ?_))
    obtain ⟨ys, j, e3, e4, h⟩ := h
    simp only [e3, e4]
    exact h))
theorem ws_asg {m : ME} {g : MG} (h : Wp (m Γ S) fun v S1 => Wp (g v Γ S1) fun Γ1 S2 => P.nx Γ1 S2) : Ws (sAsg m g Γ S) P := Wp.thenS (h.mono fun _ _ h => Wp.thenS h)
theorem ws_cnt (h : P.ct Γ S) : Ws (sCnt Γ S) P := h
theorem ws_brk (h : P.bk Γ S) : Ws (sBrk Γ S) P := h
theorem ws_for {mi : MI} {g : MG} {b : MS} (h : Wp (mi Γ S) fun it S1 => Ws (loopF it g b (it.fuel S1) 0 Γ S1) P) : Ws (sFor mi g b Γ S) P := Wp.thenS h
/-! ### targets -/
section
variable {QE : En → Sto → Prop} {v : Va}
theorem wg_v {i : Nat} (q : QE (Γ.set i (some v)) S) : Wp (gV i v Γ S) QE := q
theorem wg_t {n : Nat} {t : MGs} {xs : List Va} (h : xs.length = n) (q : Wp (t xs Γ S) QE) : Wp (gT n t (.tup xs) Γ S) QE := by
  unfold gT
  simp only
  rw [if_pos h]
  exact q.noX
theorem wg_n (q : QE Γ S) : Wp (gsN [] Γ S) QE := q
theorem wg_c {g : MG} {t : MGs} {r : List Va} (q : Wp (g v Γ S) fun Γ1 S1 => Wp (t r Γ1 S1) QE) : Wp (gsC g t (v :: r) Γ S) QE := Wp.bind (q.noX.mono fun _ _ h => h.noX)
theorem wg_sub {o i : ME} (h : Wp (o Γ S) fun ov S1 => Wp (i Γ S1) fun iv S2 => ∃ n k xs j, ov = .ref n ∧ iv = .int k ∧ S2[n]? = some (.lst xs) ∧ ixN xs.length k = some j ∧ QE Γ (S2.set n (.lst (xs.set j v)))) : Wp (gSubM o i v Γ S) QE :=
  Wp.bind (h.mono fun _ _ h => Wp.bind (h.mono fun _ _ h => by
    obtain ⟨n, k, xs, j, rfl, rfl, e1, e2, q⟩ := h
    simp only [e1, e2]
    exact q))
end
/-! ### methods -/
theorem w_app {o : ME} {t : MA} (h : Wp (o Γ S) fun ov S1 => ∃ n ys, ov = .ref n ∧ S1[n]? = some (.lst ys) ∧ Wp (t Γ S1) fun vs S2 => ∃ v xs, vs = [v] ∧ S2[n]? = some (.lst xs) ∧ xs.length < sizeLine ∧ Q .non (S2.set n (.lst (xs ++ [v])))) : Wp (mApp o t Γ S) Q :=
  Wp.bind (h.mono fun _ _ h => by
    obtain ⟨n, ys, rfl, e1, h⟩ := h
    simp only [e1]
    refine Wp.bind (h.mono fun _ _ h => ?_)
    obtain ⟨v, xs, rfl, e2, hl, q⟩ := h
    simp only [e2]
    rw [if_pos hl]
    exact q)
theorem w_ext {o : ME} {t : MA} (h : Wp (o Γ S) fun ov S1 => ∃ n ys, ov = .ref n ∧ S1[n]? = some (.lst ys) ∧ Wp (t Γ S1) fun vs S2 => ∃ m xs zs, vs = [.ref m] ∧ S2[n]? = some (.lst xs) ∧ S2[m]? = some (.lst zs) ∧ xs.length + zs.length ≤ sizeLine ∧ Q .non (S2.set n (.lst (xs ++ zs)))) : Wp (mExt o t Γ S) Q :=
  Wp.bind (h.mono fun _ _ h => by
    obtain ⟨n, ys, rfl, e1, h⟩ := h
    simp only [e1]
    refine Wp.bind (h.mono fun _ _ h => ?_)
    obtain ⟨m, xs, zs, rfl, e2, e3, hl, q⟩ := h
    simp only [e2, e3]
    rw [if_pos hl]
    exact q)
theorem w_revSl {a : ME} (h : Wp (a Γ S) fun v S1 => ∃ xs, lstOf S1 v = some xs ∧ xs.length ≤ sizeLine ∧ Q (.ref S1.length) (S1 ++ [.lst xs.reverse])) : Wp (mRevSl a Γ S) Q := Wp.bind (h.mono fun _ S1 h => by
  obtain ⟨xs, e, hl, q⟩ := h
  simp only [e]
  unfold mkL
  rw [if_pos (by rw [List.length_reverse]; exact hl)]
  exact q)
theorem w_pop {o : ME} (h : Wp (o Γ S) fun ov S1 => ∃ n xs v, ov = .ref n ∧ S1[n]? = some (.lst xs) ∧ xs[xs.length - 1]? = some v ∧ Q v (S1.set n (.lst xs.dropLast))) : Wp (mPop o Γ S) Q :=
  Wp.bind (h.mono fun _ _ h => by
    obtain ⟨n, xs, v, rfl, e1, e2, q⟩ := h
    simp only [e1, e2]
    exact q)
theorem w_set0 (q : Q (.ref S.length) (S ++ [.setT []])) : Wp (mSet0 Γ S) Q := q
theorem w_addS {o : ME} {t : MA} (h : Wp (o Γ S) fun ov S1 => ∃ n ks1, ov = .ref n ∧ S1[n]? = some (.setT ks1) ∧ Wp (t Γ S1) fun vs S2 => ∃ v ks k, vs = [v] ∧ S2[n]? = some (.setT ks) ∧ tIntsOf v = some k ∧ k ∉ ks ∧ ks.length + 1 < 64 ∧ Q .non (S2.set n (.setT (k :: ks)))) : Wp (mAddS o t Γ S) Q :=
  Wp.bind (h.mono fun _ _ h => by
    obtain ⟨n, ks1, rfl, e1, h⟩ := h
    simp only [e1]
    refine Wp.bind (h.mono fun _ _ h => ?_)
    obtain ⟨v, ks, k, rfl, e2, e3, h1, h2, q⟩ := h
    simp only [e2, e3]
    rw [if_pos ⟨h1, h2⟩]
    exact q)
theorem w_lrng1 {m : ME} (h : Wp (m Γ S) fun v S1 => ∃ j, v = .int j ∧ (-(2 ^ 62) ≤ j ∧ j ≤ 2 ^ 24) ∧ Wo (mkL S1 (rgA 0 j)) Q) : Wp (mLRng1 m Γ S) Q :=
  Wp.bind (h.mono fun _ _ h => by
    obtain ⟨j, rfl, c, h⟩ := h
    simp only
    rw [if_pos (show lrOk j = true by unfold lrOk; exact decide_eq_true c)]
    exact Wp.lift h)
theorem w_sl {f : FS} {a : ME} {lo hi : Option ME} (h : Wp (a Γ S) fun v S1 => Wp (mOpt lo Γ S1) fun l S2 => Wp (mOpt hi Γ S2) fun u S3 => Wo (f v l u S3) Q) : Wp (mSl f a lo hi Γ S) Q :=
  Wp.bind (h.mono fun _ _ h => Wp.bind (h.mono fun _ _ h => Wp.bind (h.mono fun _ _ h => Wp.lift h)))
theorem w_optN {QO : Option Int → Sto → Prop} (q : QO none S) : Wp (mOpt none Γ S) QO := q
theorem w_optS {QO : Option Int → Sto → Prop} {m : ME} (h : Wp (m Γ S) fun v S1 => ∃ i, v = .int i ∧ QO (some i) S1) : Wp (mOpt (some m) Γ S) QO := Wp.bind (h.mono fun _ _ h => by
  obtain ⟨i, rfl, q⟩ := h
  exact q)
/-! ### what is walked -/
section
variable {QI : ItV → Sto → Prop}
theorem w_walk {m : ME} (h : Wp (m Γ S) fun v S1 => (∃ n xs, v = .ref n ∧ S1[n]? = some (.lst xs) ∧ QI (.ref n) S1) ∨ ∃ xs, (v = .tup xs ∨ v = .rol xs) ∧ QI (.itm xs) S1) : Wp (mWalk m Γ S) QI := Wp.bind (h.mono fun _ _ h => by
  rcases h with ⟨n, xs, rfl, e, q⟩ | ⟨xs, rfl | rfl, q⟩
  · simp only [e]
    exact q
  · exact q
  · exact q)
theorem w_enum {t : MA} (h : Wp (t Γ S) fun vs S1 => ∃ v, vs = [v] ∧ ((∃ n xs, v = .ref n ∧ S1[n]? = some (.lst xs) ∧ QI (.enm n) S1) ∨ ∃ xs, (v = .tup xs ∨ v = .rol xs) ∧ QI (.enmI xs) S1)) : Wp (mEnum t Γ S) QI := Wp.bind (h.mono fun _ _ h => by
  obtain ⟨v, rfl, h⟩ := h
  rcases h with ⟨n, xs, rfl, e, q⟩ | ⟨xs, rfl | rfl, q⟩
  · simp only [e]
    exact q
  · exact q
  · exact q)
theorem rngOk_of {i j : Int} (h : -(2 ^ 62) ≤ i ∧ i < 2 ^ 62 ∧ -(2 ^ 62) ≤ j ∧ j < 2 ^ 62) : rngOk i j = true := by unfold rngOk; exact decide_eq_true h
theorem w_rng1 {t : MA} (h : Wp (t Γ S) fun vs S1 => ∃ j, vs = [.int j] ∧ (-(2 ^ 62) ≤ j ∧ j < 2 ^ 62) ∧ QI (.rng 0 1 j.toNat) S1) : Wp (mRng1 t Γ S) QI := Wp.bind (h.mono fun _ _ h => by
  obtain ⟨j, rfl, c, q⟩ := h
  simp only
  rw [if_pos (rngOk_of (i := 0) (j := j) ⟨by decide, by decide, c⟩)]
  exact q)
theorem w_rng2 {t : MA} (h : Wp (t Γ S) fun vs S1 => ∃ i j, vs = [.int i, .int j] ∧ (-(2 ^ 62) ≤ i ∧ i < 2 ^ 62 ∧ -(2 ^ 62) ≤ j ∧ j < 2 ^ 62) ∧ QI (.rng i 1 (j - i).toNat) S1) : Wp (mRng2 t Γ S) QI := Wp.bind (h.mono fun _ _ h => by
  obtain ⟨i, j, rfl, c, q⟩ := h
  simp only
  rw [if_pos (rngOk_of c)]
  exact q)
theorem w_rev1 {m : ME} (h : Wp (m Γ S) fun v S1 => ∃ j, v = .int j ∧ (-(2 ^ 62) ≤ j ∧ j < 2 ^ 62) ∧ QI (.rng (j.toNat - 1 : Int) (-1) j.toNat) S1) : Wp (mRev1 m Γ S) QI := Wp.bind (h.mono fun _ _ h => by
  obtain ⟨j, rfl, c, q⟩ := h
  simp only
  rw [if_pos (rngOk_of (i := 0) (j := j) ⟨by decide, by decide, c⟩)]
  exact q)
end
/-! ### loops -/
theorem loop_it {it : ItV} {g : MG} {b : MS} (n : Nat) (x : Nat → Va) (Inv : Nat → En → Sto → Prop) (hgo : ∀ i Γ S, i < n → Inv i Γ S → it.get i S = some (some (x i))) (hst : ∀ Γ S, Inv n Γ S → it.get n S = some none)
    (hs : ∀ i Γ S, i < n → Inv i Γ S → Wp (g (x i) Γ S) fun Γ1 S1 => Ws (b Γ1 S1) { nx := Inv (i + 1), ct := Inv (i + 1), bk := P.nx, rt := P.rt }) (hd : ∀ Γ S, Inv n Γ S → P.nx Γ S) :
    ∀ (k i : Nat) (Γ : En) (S : Sto), i ≤ n → n ≤ i + k → Inv i Γ S → Ws (loopF it g b k i Γ S) P
  | 0, i, Γ, S, h1, h2, h => by
    have e : i = n := by omega
    subst e
    unfold loopF
    rw [hst Γ S h]
    exact hd Γ S h
  | k + 1, i, Γ, S, h1, h2, h => by
    by_cases hlt : i < n
    · unfold loopF
      rw [hgo i Γ S hlt h]
      refine Wp.thenS ((hs i Γ S hlt h).mono fun Γ1 S1 q => ?_)
      cases e : b Γ1 S1 with
      | bad => rw [e] at q; exact q
      | nx Γ2 S2 => rw [e] at q; exact loop_it n x Inv hgo hst hs hd k (i + 1) Γ2 S2 hlt (by omega) q
      | ct Γ2 S2 => rw [e] at q; exact loop_it n x Inv hgo hst hs hd k (i + 1) Γ2 S2 hlt (by omega) q
      | bk Γ2 S2 => rw [e] at q; exact q
      | rt v S2 => rw [e] at q; exact q
      | ex a b c d f => rw [e] at q; exact q
    · have e : i = n := by omega
      subst e
      unfold loopF
      rw [hst Γ S h]
      exact hd Γ S h
/-- over a list that stands still -/
theorem loop_list {m : Nat} {xs : List Va} {g : MG} {b : MS} (Inv : Nat → En → Sto → Prop) (hl : ∀ i Γ S, i ≤ xs.length → Inv i Γ S → S[m]? = some (.lst xs)) (h0 : Inv 0 Γ S)
    (hs : ∀ i x Γ S, xs[i]? = some x → Inv i Γ S → Wp (g x Γ S) fun Γ1 S1 => Ws (b Γ1 S1) { nx := Inv (i + 1), ct := Inv (i + 1), bk := P.nx, rt := P.rt }) (hd : ∀ Γ S, Inv xs.length Γ S → P.nx Γ S) :
    Ws (loopF (.ref m) g b ((ItV.ref m).fuel S) 0 Γ S) P := by
  have hf : (ItV.ref m).fuel S = xs.length := by simp only [ItV.fuel, hl 0 Γ S (Nat.zero_le _) h0]
  rw [hf]
  refine loop_it xs.length (fun i => xs.getD i .non) (fun i Γ S => i ≤ xs.length ∧ Inv i Γ S) (fun i Γ S hi h => ?_) (fun Γ S h => ?_) (fun i Γ S hi h => ?_) (fun Γ S h => hd Γ S h.2) xs.length 0 Γ S (Nat.zero_le _) (by omega) ⟨Nat.zero_le _, h0⟩
  · simp only [ItV.get, hl i Γ S h.1 h.2, List.getD_eq_getElem?_getD, List.getElem?_eq_getElem hi, Option.getD_some]
  · simp only [ItV.get, hl _ Γ S h.1 h.2, List.getElem?_eq_none (Nat.le_refl _)]
  · have e : xs[i]? = some (xs.getD i .non) := by rw [List.getD_eq_getElem?_getD, List.getElem?_eq_getElem hi]; rfl
    refine (hs i _ Γ S e h.2).mono fun Γ1 S1 q => ?_
    cases e : b Γ1 S1 with
    | bad => rw [e] at q; exact q
    | nx Γ2 S2 => rw [e] at q; exact ⟨hi, q⟩
    | ct Γ2 S2 => rw [e] at q; exact ⟨hi, q⟩
    | bk Γ2 S2 => rw [e] at q; exact q
    | rt v S2 => rw [e] at q; exact q
    | ex a b c d f => rw [e] at q; exact q
theorem loop_itm {xs : List Va} {g : MG} {b : MS} (Inv : Nat → En → Sto → Prop) (h0 : Inv 0 Γ S)
    (hs : ∀ i x Γ S, xs[i]? = some x → Inv i Γ S → Wp (g x Γ S) fun Γ1 S1 => Ws (b Γ1 S1) { nx := Inv (i + 1), ct := Inv (i + 1), bk := P.nx, rt := P.rt }) (hd : ∀ Γ S, Inv xs.length Γ S → P.nx Γ S) :
    Ws (loopF (.itm xs) g b ((ItV.itm xs).fuel S) 0 Γ S) P := by
  refine loop_it xs.length (fun i => xs.getD i .non) Inv (fun i Γ S hi h => ?_) (fun Γ S h => ?_) (fun i Γ S hi h => ?_) (fun Γ S h => hd Γ S h) _ 0 Γ S (Nat.zero_le _) (by show xs.length ≤ 0 + xs.length; omega) h0
  · simp only [ItV.get, List.getD_eq_getElem?_getD, List.getElem?_eq_getElem hi, Option.getD_some]
  · simp only [ItV.get, List.getElem?_eq_none (Nat.le_refl _)]
  · exact hs i _ Γ S (by rw [List.getD_eq_getElem?_getD, List.getElem?_eq_getElem hi]; rfl) h
theorem loop_rng {lo c : Int} {n : Nat} {g : MG} {b : MS} (Inv : Nat → En → Sto → Prop) (h0 : Inv 0 Γ S)
    (hs : ∀ i Γ S, i < n → Inv i Γ S → Wp (g (.int (lo + (i : Nat) * c)) Γ S) fun Γ1 S1 => Ws (b Γ1 S1) { nx := Inv (i + 1), ct := Inv (i + 1), bk := P.nx, rt := P.rt }) (hd : ∀ Γ S, Inv n Γ S → P.nx Γ S) :
    Ws (loopF (.rng lo c n) g b ((ItV.rng lo c n).fuel S) 0 Γ S) P :=
  loop_it n (fun i => .int (lo + (i : Nat) * c)) Inv (fun i Γ S hi h => by simp only [ItV.get, if_pos hi]) (fun Γ S h => by simp only [ItV.get, if_neg (Nat.lt_irrefl _)]) (fun i Γ S hi h => hs i Γ S hi h) hd _ 0 Γ S (Nat.zero_le _) (by show n ≤ 0 + n; omega) h0
theorem loop_enm {m : Nat} {xs : List Va} {g : MG} {b : MS} (Inv : Nat → En → Sto → Prop) (hl : ∀ i Γ S, i ≤ xs.length → Inv i Γ S → S[m]? = some (.lst xs)) (h0 : Inv 0 Γ S)
    (hs : ∀ i x Γ S, xs[i]? = some x → Inv i Γ S → Wp (g (.tup [.int (i : Nat), x]) Γ S) fun Γ1 S1 => Ws (b Γ1 S1) { nx := Inv (i + 1), ct := Inv (i + 1), bk := P.nx, rt := P.rt }) (hd : ∀ Γ S, Inv xs.length Γ S → P.nx Γ S) :
    Ws (loopF (.enm m) g b ((ItV.enm m).fuel S) 0 Γ S) P := by
  have hf : (ItV.enm m).fuel S = xs.length := by simp only [ItV.fuel, hl 0 Γ S (Nat.zero_le _) h0]
  rw [hf]
  refine loop_it xs.length (fun i => pairE i (xs.getD i .non)) (fun i Γ S => i ≤ xs.length ∧ Inv i Γ S) (fun i Γ S hi h => ?_) (fun Γ S h => ?_) (fun i Γ S hi h => ?_) (fun Γ S h => hd Γ S h.2) xs.length 0 Γ S (Nat.zero_le _) (by omega) ⟨Nat.zero_le _, h0⟩
  · simp only [ItV.get, hl i Γ S h.1 h.2, List.getD_eq_getElem?_getD, List.getElem?_eq_getElem hi, Option.getD_some, Option.map_some]
  · simp only [ItV.get, hl _ Γ S h.1 h.2, List.getElem?_eq_none (Nat.le_refl _), Option.map_none]
  · have e : xs[i]? = some (xs.getD i .non) := by rw [List.getD_eq_getElem?_getD, List.getElem?_eq_getElem hi]; rfl
    refine (hs i _ Γ S e h.2).mono fun Γ1 S1 q => ?_
    cases e : b Γ1 S1 with
    | bad => rw [e] at q; exact q
    | nx Γ2 S2 => rw [e] at q; exact ⟨hi, q⟩
    | ct Γ2 S2 => rw [e] at q; exact ⟨hi, q⟩
    | bk Γ2 S2 => rw [e] at q; exact q
    | rt v S2 => rw [e] at q; exact q
    | ex a b c d f => rw [e] at q; exact q
theorem loop_enmI {xs : List Va} {g : MG} {b : MS} (Inv : Nat → En → Sto → Prop) (h0 : Inv 0 Γ S)
    (hs : ∀ i x Γ S, xs[i]? = some x → Inv i Γ S → Wp (g (.tup [.int (i : Nat), x]) Γ S) fun Γ1 S1 => Ws (b Γ1 S1) { nx := Inv (i + 1), ct := Inv (i + 1), bk := P.nx, rt := P.rt }) (hd : ∀ Γ S, Inv xs.length Γ S → P.nx Γ S) :
    Ws (loopF (.enmI xs) g b ((ItV.enmI xs).fuel S) 0 Γ S) P := by
  refine loop_it xs.length (fun i => pairE i (xs.getD i .non)) Inv (fun i Γ S hi h => ?_) (fun Γ S h => ?_) (fun i Γ S hi h => ?_) (fun Γ S h => hd Γ S h) _ 0 Γ S (Nat.zero_le _) (by show xs.length ≤ 0 + xs.length; omega) h0
  · simp only [ItV.get, List.getD_eq_getElem?_getD, List.getElem?_eq_getElem hi, Option.getD_some, Option.map_some]
  · simp only [ItV.get, List.getElem?_eq_none (Nat.le_refl _), Option.map_none]
  · exact hs i _ Γ S (by rw [List.getD_eq_getElem?_getD, List.getElem?_eq_getElem hi]; rfl) h
/-- while, by a measure -/
theorem ws_while {c : MT} {b : MS} {fuel : Nat} (Inv : En → Sto → Prop) (μ : En → Sto → Nat) (h0 : Inv Γ S) (hf : μ Γ S < fuel)
    (hs : ∀ Γ S, Inv Γ S → Wp (c Γ S) fun k S1 => if k = true then Ws (b Γ S1) { nx := fun Γ' S' => Inv Γ' S' ∧ μ Γ' S' < μ Γ S, ct := fun Γ' S' => Inv Γ' S' ∧ μ Γ' S' < μ Γ S, bk := P.nx, rt := P.rt } else P.nx Γ S1) : Ws (sWhile fuel c b Γ S) P := by
  unfold sWhile
  induction fuel generalizing Γ S with
  | zero => omega
  | succ k ih =>
    unfold loopW
    refine Wp.thenS ((hs Γ S h0).mono fun z S1 q => ?_)
    cases z with
    | false => exact q
    | true =>
      rw [if_pos rfl] at q ⊢
      cases e : b Γ S1 with
      | bad => rw [e] at q; exact q
      | nx Γ2 S2 => rw [e] at q; exact ih q.1 (by have := q.2; omega)
      | ct Γ2 S2 => rw [e] at q; exact ih q.1 (by have := q.2; omega)
      | bk Γ2 S2 => rw [e] at q; exact q
      | rt v S2 => rw [e] at q; exact q
      | ex a b c d f => rw [e] at q; exact q
/-! ### comprehensions -/
theorem w_lc {mi : MI} {g : MG} {mt : MT} {me : ME} {vs : List Nat} (h : Wp (mi Γ S) fun it S1 => Wp (compF it g mt me (wipeE Γ vs) (it.fuel S1) 0 [] S1) fun acc S2 => Q (.ref S2.length) (S2 ++ [.lst acc])) : Wp (mLc mi g mt me vs Γ S) Q :=
  Wp.bind (h.mono fun _ _ h => Wp.bindN h)
theorem comp_it {it : ItV} {g : MG} {mt : MT} {me : ME} (n : Nat) (x : Nat → Va) (Inv : Nat → List Va → Sto → Prop) (hn : n < sizeLine) (hgo : ∀ i acc S, i < n → Inv i acc S → it.get i S = some (some (x i))) (hst : ∀ acc S, Inv n acc S → it.get n S = some none)
    (hs : ∀ i acc S, i < n → Inv i acc S → Wp (g (x i) Γ S) fun Γ1 S1 => Wp (mt Γ1 S1) fun k S2 => if k = true then Wp (me Γ1 S2) fun y S3 => Inv (i + 1) (acc ++ [y]) S3 else Inv (i + 1) acc S2) (hd : ∀ acc S, Inv n acc S → QL acc S) :
    ∀ (k i : Nat) (acc : List Va) (S : Sto), i ≤ n → n ≤ i + k → acc.length ≤ i → Inv i acc S → Wp (compF it g mt me Γ k i acc S) QL
  | 0, i, acc, S, h1, h2, h3, h => by
    have e : i = n := by omega
    subst e
    unfold compF
    rw [hst acc S h]
    exact hd acc S h
  | k + 1, i, acc, S, h1, h2, h3, h => by
    by_cases hlt : i < n
    · unfold compF
      rw [hgo i acc S hlt h]
      refine Wp.bindN ((hs i acc S hlt h).mono fun Γ1 S1 q => Wp.bindN (q.mono fun z S2 q => ?_))
      cases z with
      | false => exact comp_it n x Inv hn hgo hst hs hd k (i + 1) acc S2 hlt (by omega) (by omega) q
      | true =>
        refine Wp.bindN (Wp.mono q fun y S3 q => ?_)
        show Wp (if acc.length < sizeLine then _ else _) _
        rw [if_pos (by omega)]
        exact comp_it n x Inv hn hgo hst hs hd k (i + 1) (acc ++ [y]) S3 hlt (by omega) (by rw [List.length_append]; show acc.length + 1 ≤ _; omega) q
    · have e : i = n := by omega
      subst e
      unfold compF
      rw [hst acc S h]
      exact hd acc S h
theorem comp_list {m : Nat} {xs : List Va} {g : MG} {mt : MT} {me : ME} (Inv : Nat → List Va → Sto → Prop) (hn : xs.length < sizeLine) (hl : ∀ i acc S, i ≤ xs.length → Inv i acc S → S[m]? = some (.lst xs)) (h0 : Inv 0 [] S)
    (hs : ∀ i x acc S, xs[i]? = some x → Inv i acc S → Wp (g x Γ S) fun Γ1 S1 => Wp (mt Γ1 S1) fun k S2 => if k = true then Wp (me Γ1 S2) fun y S3 => Inv (i + 1) (acc ++ [y]) S3 else Inv (i + 1) acc S2) (hd : ∀ acc S, Inv xs.length acc S → QL acc S) :
    Wp (compF (.ref m) g mt me Γ ((ItV.ref m).fuel S) 0 [] S) QL := by
  have hf : (ItV.ref m).fuel S = xs.length := by simp only [ItV.fuel, hl 0 [] S (Nat.zero_le _) h0]
  rw [hf]
  refine comp_it xs.length (fun i => xs.getD i .non) (fun i acc S => i ≤ xs.length ∧ Inv i acc S) hn (fun i acc S hi h => ?_) (fun acc S h => ?_) (fun i acc S hi h => ?_) (fun acc S h => hd acc S h.2) xs.length 0 [] S (Nat.zero_le _) (by omega) (Nat.le_refl _) ⟨Nat.zero_le _, h0⟩
  · simp only [ItV.get, hl i acc S h.1 h.2, List.getD_eq_getElem?_getD, List.getElem?_eq_getElem hi, Option.getD_some]
  · simp only [ItV.get, hl _ acc S h.1 h.2, List.getElem?_eq_none (Nat.le_refl _)]
  · refine (hs i _ acc S (by rw [List.getD_eq_getElem?_getD, List.getElem?_eq_getElem hi]; rfl) h.2).mono fun Γ1 S1 q => q.mono fun k S2 q => ?_
    cases k with
    | true => exact Wp.mono q fun y S3 q => ⟨hi, q⟩
    | false => exact ⟨hi, q⟩
theorem comp_enm {m : Nat} {xs : List Va} {g : MG} {mt : MT} {me : ME} (Inv : Nat → List Va → Sto → Prop) (hn : xs.length < sizeLine) (hl : ∀ i acc S, i ≤ xs.length → Inv i acc S → S[m]? = some (.lst xs)) (h0 : Inv 0 [] S)
    (hs : ∀ i x acc S, xs[i]? = some x → Inv i acc S → Wp (g (.tup [.int (i : Nat), x]) Γ S) fun Γ1 S1 => Wp (mt Γ1 S1) fun k S2 => if k = true then Wp (me Γ1 S2) fun y S3 => Inv (i + 1) (acc ++ [y]) S3 else Inv (i + 1) acc S2) (hd : ∀ acc S, Inv xs.length acc S → QL acc S) :
    Wp (compF (.enm m) g mt me Γ ((ItV.enm m).fuel S) 0 [] S) QL := by
  have hf : (ItV.enm m).fuel S = xs.length := by simp only [ItV.fuel, hl 0 [] S (Nat.zero_le _) h0]
  rw [hf]
  refine comp_it xs.length (fun i => pairE i (xs.getD i .non)) (fun i acc S => i ≤ xs.length ∧ Inv i acc S) hn (fun i acc S hi h => ?_) (fun acc S h => ?_) (fun i acc S hi h => ?_) (fun acc S h => hd acc S h.2) xs.length 0 [] S (Nat.zero_le _) (by omega) (Nat.le_refl _) ⟨Nat.zero_le _, h0⟩
  · simp only [ItV.get, hl i acc S h.1 h.2, List.getD_eq_getElem?_getD, List.getElem?_eq_getElem hi, Option.getD_some, Option.map_some]
  · simp only [ItV.get, hl _ acc S h.1 h.2, List.getElem?_eq_none (Nat.le_refl _), Option.map_none]
  · refine (hs i _ acc S (by rw [List.getD_eq_getElem?_getD, List.getElem?_eq_getElem hi]; rfl) h.2).mono fun Γ1 S1 q => q.mono fun k S2 q => ?_
    cases k with
    | true => exact Wp.mono q fun y S3 q => ⟨hi, q⟩
    | false => exact ⟨hi, q⟩
theorem comp_enmI {xs : List Va} {g : MG} {mt : MT} {me : ME} (Inv : Nat → List Va → Sto → Prop) (hn : xs.length < sizeLine) (h0 : Inv 0 [] S)
    (hs : ∀ i x acc S, xs[i]? = some x → Inv i acc S → Wp (g (.tup [.int (i : Nat), x]) Γ S) fun Γ1 S1 => Wp (mt Γ1 S1) fun k S2 => if k = true then Wp (me Γ1 S2) fun y S3 => Inv (i + 1) (acc ++ [y]) S3 else Inv (i + 1) acc S2) (hd : ∀ acc S, Inv xs.length acc S → QL acc S) :
    Wp (compF (.enmI xs) g mt me Γ ((ItV.enmI xs).fuel S) 0 [] S) QL := by
  refine comp_it xs.length (fun i => pairE i (xs.getD i .non)) Inv hn (fun i acc S hi h => ?_) (fun acc S h => ?_) (fun i acc S hi h => ?_) hd _ 0 [] S (Nat.zero_le _) (by show xs.length ≤ 0 + xs.length; omega) (Nat.le_refl _) h0
  · simp only [ItV.get, List.getD_eq_getElem?_getD, List.getElem?_eq_getElem hi, Option.getD_some, Option.map_some]
  · simp only [ItV.get, List.getElem?_eq_none (Nat.le_refl _), Option.map_none]
  · exact hs i _ acc S (by rw [List.getD_eq_getElem?_getD, List.getElem?_eq_getElem hi]; rfl) h
theorem comp_itm {xs : List Va} {g : MG} {mt : MT} {me : ME} (Inv : Nat → List Va → Sto → Prop) (hn : xs.length < sizeLine) (h0 : Inv 0 [] S)
    (hs : ∀ i x acc S, xs[i]? = some x → Inv i acc S → Wp (g x Γ S) fun Γ1 S1 => Wp (mt Γ1 S1) fun k S2 => if k = true then Wp (me Γ1 S2) fun y S3 => Inv (i + 1) (acc ++ [y]) S3 else Inv (i + 1) acc S2) (hd : ∀ acc S, Inv xs.length acc S → QL acc S) :
    Wp (compF (.itm xs) g mt me Γ ((ItV.itm xs).fuel S) 0 [] S) QL := by
  refine comp_it xs.length (fun i => xs.getD i .non) Inv hn (fun i acc S hi h => ?_) (fun acc S h => ?_) (fun i acc S hi h => ?_) hd _ 0 [] S (Nat.zero_le _) (by show xs.length ≤ 0 + xs.length; omega) (Nat.le_refl _) h0
  · simp only [ItV.get, List.getD_eq_getElem?_getD, List.getElem?_eq_getElem hi, Option.getD_some]
  · simp only [ItV.get, List.getElem?_eq_none (Nat.le_refl _)]
  · exact hs i _ acc S (by rw [List.getD_eq_getElem?_getD, List.getElem?_eq_getElem hi]; rfl) h
theorem comp_rng {lo c : Int} {n : Nat} {g : MG} {mt : MT} {me : ME} (Inv : Nat → List Va → Sto → Prop) (hn : n < sizeLine) (h0 : Inv 0 [] S)
    (hs : ∀ i acc S, i < n → Inv i acc S → Wp (g (.int (lo + (i : Nat) * c)) Γ S) fun Γ1 S1 => Wp (mt Γ1 S1) fun k S2 => if k = true then Wp (me Γ1 S2) fun y S3 => Inv (i + 1) (acc ++ [y]) S3 else Inv (i + 1) acc S2) (hd : ∀ acc S, Inv n acc S → QL acc S) :
    Wp (compF (.rng lo c n) g mt me Γ ((ItV.rng lo c n).fuel S) 0 [] S) QL :=
  comp_it n (fun i => .int (lo + (i : Nat) * c)) Inv hn (fun i acc S hi h => by simp only [ItV.get, if_pos hi]) (fun acc S h => by simp only [ItV.get, if_neg (Nat.lt_irrefl _)]) hs hd _ 0 [] S (Nat.zero_le _) (by show n ≤ 0 + n; omega) (Nat.le_refl _) h0
end
/-! ### defs -/
def runF (r : Rs) : Res Va := match r with
  | .nx _ S' => .ok .non S'
  | .rt v S' => .ok v S'
  | .ex c f v _ S' => .ex c f v S'
  | _ => .bad
theorem w_run {r : Rs} {Q : Va → Sto → Prop} (h : Ws r { nx := fun _ S => Q .non S, rt := Q }) : Wp (runF r) Q := by
  cases r with
  | nx Γ S => exact h
  | rt v S => exact h
  | _ => exact h.elim
theorem w_fn {n : Nat} {b : MS} {as : List Va} {S : Sto} {Q : Va → Sto → Prop} (Γ : En) (e : as.map some ++ List.replicate (n - as.length) none = Γ) (h : Ws (b Γ S) { nx := fun _ S => Q .non S, rt := Q }) : Wp (fnM n b as S) Q := by
  have : fnM n b as S = runF (b (as.map some ++ List.replicate (n - as.length) none) S) := by unfold fnM runF; rfl
  rw [this, e]
  exact w_run h
theorem w_fn1 {k : Nat} {b : MS} {x : Va} {S : Sto} {Q : Va → Sto → Prop} (h : Ws (b (some x :: List.replicate k none) S) { nx := fun _ S => Q .non S, rt := Q }) : Wp (fnM (k + 1) b [x] S) Q := w_fn _ rfl h
theorem w_fn2 {k : Nat} {b : MS} {x y : Va} {S : Sto} {Q : Va → Sto → Prop} (h : Ws (b (some x :: some y :: List.replicate k none) S) { nx := fun _ S => Q .non S, rt := Q }) : Wp (fnM (k + 2) b [x, y] S) Q := w_fn _ rfl h
theorem w_fn3 {k : Nat} {b : MS} {x y z : Va} {S : Sto} {Q : Va → Sto → Prop} (h : Ws (b (some x :: some y :: some z :: List.replicate k none) S) { nx := fun _ S => Q .non S, rt := Q }) : Wp (fnM (k + 3) b [x, y, z] S) Q := w_fn _ rfl h
theorem w_fn4 {k : Nat} {b : MS} {x y z u : Va} {S : Sto} {Q : Va → Sto → Prop} (h : Ws (b (some x :: some y :: some z :: some u :: List.replicate k none) S) { nx := fun _ S => Q .non S, rt := Q }) : Wp (fnM (k + 4) b [x, y, z, u] S) Q := w_fn _ rfl h
theorem w_fn5 {k : Nat} {b : MS} {x y z u v : Va} {S : Sto} {Q : Va → Sto → Prop} (h : Ws (b (some x :: some y :: some z :: some u :: some v :: List.replicate k none) S) { nx := fun _ S => Q .non S, rt := Q }) : Wp (fnM (k + 5) b [x, y, z, u, v] S) Q := w_fn _ rfl h
theorem w_fn6 {k : Nat} {b : MS} {x y z u v t : Va} {S : Sto} {Q : Va → Sto → Prop} (h : Ws (b (some x :: some y :: some z :: some u :: some v :: some t :: List.replicate k none) S) { nx := fun _ S => Q .non S, rt := Q }) : Wp (fnM (k + 6) b [x, y, z, u, v, t] S) Q := w_fn _ rfl h
theorem ite_t {A B : Prop} (h : A) : if true = true then A else B := by rw [if_pos rfl]; exact h
theorem ite_f {A B : Prop} (h : B) : if false = true then A else B := by rw [if_neg (by decide)]; exact h
theorem ite_d {p A B : Prop} {_ : Decidable p} (h1 : p → A) (h2 : ¬ p → B) : if decide p = true then A else B := by
  by_cases h : p
  · rw [if_pos (decide_eq_true h)]; exact h1 h
  · rw [if_neg (by simpa using h)]; exact h2 h
/-! ### the operators on ints -/
section
variable {S : Sto} {Q : Va → Sto → Prop} {i j : Int}
theorem wo_add (q : Q (.int (i + j)) S) : Wo (fAdd (.int i) (.int j) S) Q := q
theorem wo_addI (q : Q (.int (i + j)) S) : Wo (addI (.int i) (.int j) S) Q := q
theorem wo_sub (q : Q (.int (i - j)) S) : Wo (subI (.int i) (.int j) S) Q := q
theorem wo_fI2 {C : Int → Int → Bool} {g : Int → Int → Va} (h : C i j = true) (q : Q (g i j) S) : Wo (fI2 C g (.int i) (.int j) S) Q := by
  rw [fI2_int, if_pos h]
  exact q
theorem mulC_l (h : -18446744073709551616 < i ∧ i < 18446744073709551616) : mulC i j = true := by
  unfold mulC
  rw [Bool.or_eq_true]
  exact .inl (decide_eq_true (.inl ⟨by have := h.1; omega, by have := h.2; omega⟩))
theorem mulC_r (h : -18446744073709551616 < j ∧ j < 18446744073709551616) : mulC i j = true := by
  unfold mulC
  rw [Bool.or_eq_true]
  exact .inl (decide_eq_true (.inr ⟨by have := h.1; omega, by have := h.2; omega⟩))
theorem mulC_w {a b : Nat} (ha : i.natAbs < 2 ^ a) (hb : j.natAbs < 2 ^ b) (h0 : 0 < a) (h1 : 0 < b) (h : a + b ≤ 1000000) : mulC i j = true := by
  unfold mulC
  rw [Bool.or_eq_true]
  exact .inr (decide_eq_true (wide_mul ha hb h0 h1 h))
theorem wo_mul (h : mulC i j = true) (q : Q (.int (i * j)) S) : Wo (fMul (.int i) (.int j) S) Q := by
  rw [fMul_int i j S h]
  exact q
theorem wo_mul_l (h : -18446744073709551616 < i ∧ i < 18446744073709551616) (q : Q (.int (i * j)) S) : Wo (fMul (.int i) (.int j) S) Q := wo_mul (mulC_l h) q
theorem wo_mul_r (h : -18446744073709551616 < j ∧ j < 18446744073709551616) (q : Q (.int (i * j)) S) : Wo (fMul (.int i) (.int j) S) Q := wo_mul (mulC_r h) q
theorem wo_mod (h : 0 < j) (q : Q (.int (i % j)) S) : Wo (modI (.int i) (.int j) S) Q := wo_fI2 (by unfold modC; exact decide_eq_true h) q
theorem log_lt {n b : Nat} (h : n < 2 ^ b) (hb : 0 < b) : n.log2 < b := by
  by_cases h0 : n = 0
  · subst h0; simpa using hb
  · exact (Nat.log2_lt h0).2 h
theorem wo_div (h : 0 < j ∧ j < 1000000000000000000000000000000000000000000) (q : Q (.int (i / j)) S) : Wo (divI (.int i) (.int j) S) Q :=
  wo_fI2 (by unfold divC; exact decide_eq_true ⟨h.1, Nat.lt_of_lt_of_le (log_lt (b := 200) (Nat.lt_of_lt_of_le (by omega : j.natAbs < 1000000000000000000000000000000000000000000) (by decide)) (by decide)) (by decide)⟩) q
theorem wo_pow (h : 0 ≤ j ∧ j ≤ 1000000 ∧ -18446744073709551616 < i ∧ i < 18446744073709551616) (q : Q (.int (i ^ j.toNat)) S) : Wo (powI (.int i) (.int j) S) Q := by
  refine wo_fI2 ?_ q
  unfold powC
  rw [Bool.or_eq_true]
  exact .inl (decide_eq_true ⟨h.1, h.2.1, by omega⟩)
theorem wo_shl (h : 0 ≤ j ∧ j ≤ 1000000 ∧ -18446744073709551616 < i ∧ i < 18446744073709551616) (q : Q (.int (i * 2 ^ j.toNat)) S) : Wo (shlI (.int i) (.int j) S) Q := wo_fI2 (by unfold shlC; exact decide_eq_true ⟨h.1, h.2.1, by omega⟩) q
theorem wo_shr (h : 0 ≤ j) (q : Q (.int (i / 2 ^ j.toNat)) S) : Wo (shrI (.int i) (.int j) S) Q := wo_fI2 (by unfold shrC; exact decide_eq_true h) q
theorem wo_and (q : Q (.int (Builtin.bitAnd i j)) S) : Wo (andI (.int i) (.int j) S) Q := q
theorem wo_or (q : Q (.int (Builtin.bitOr i j)) S) : Wo (orI (.int i) (.int j) S) Q := q
theorem wo_xor (q : Q (.int (Builtin.bitXor i j)) S) : Wo (xorI (.int i) (.int j) S) Q := q
theorem wo_lt (q : Q (.bl (decide (i < j))) S) : Wo (ltI (.int i) (.int j) S) Q := q
theorem wo_le (q : Q (.bl (decide (i ≤ j))) S) : Wo (leI (.int i) (.int j) S) Q := q
theorem wo_gt (q : Q (.bl (decide (j < i))) S) : Wo (gtI (.int i) (.int j) S) Q := q
theorem wo_ge (q : Q (.bl (decide (j ≤ i))) S) : Wo (geI (.int i) (.int j) S) Q := q
theorem wo_neg (q : Q (.int (-i)) S) : Wo (negI (.int i) S) Q := q
theorem dat_int (S : Sto) (i : Int) : datOf S (.int i) = some (.int i) := by
  unfold datOf toD
  simp only
  rw [if_pos (by rfl)]
theorem beqD (i j : Int) : (i == j) = decide (i = j) := by
  by_cases h : i = j
  · subst h; simp
  · simp [h]
theorem wo_eqI (q : Q (.bl (decide (i = j))) S) : Wo (fEq (.int i) (.int j) S) Q := by
  unfold fEq
  rw [dat_int, dat_int]
  have e : PyData.eqv (.int i) (.int j) = decide (i = j) := by simp [PyData.eqv, beqD]
  simp only [e]
  exact q
theorem wo_neI (q : Q (.bl (decide (i ≠ j))) S) : Wo (fNe (.int i) (.int j) S) Q := by
  unfold fNe
  rw [dat_int, dat_int]
  have e : (!PyData.eqv (.int i) (.int j)) = decide (i ≠ j) := by simp [PyData.eqv, beqD]
  simp only [e]
  exact q
theorem wo_int (q : Q (.int i) S) : Wo (fInt [.int i] S) Q := q
theorem wo_intB {b : Bool} (q : Q (.int (if b = true then 1 else 0)) S) : Wo (fInt [.bl b] S) Q := q
theorem wo_abs (q : Q (.int (if i < 0 then -i else i)) S) : Wo (fAbs [.int i] S) Q := q
theorem wo_max2 (q : Q (.int (max i j)) S) : Wo (fMax [.int i, .int j] S) Q := by
  have e : (if j > i then j else i) = max i j := by omega
  show Q (.int (if j > i then j else i)) S
  rw [e]
  exact q
theorem wo_min2 (q : Q (.int (min i j)) S) : Wo (fMin [.int i, .int j] S) Q := by
  have e : (if j < i then j else i) = min i j := by omega
  show Q (.int (if j < i then j else i)) S
  rw [e]
  exact q
theorem wo_tup {vs : List Va} (h : vs.length ≤ sizeLine) (q : Q (.tup vs) S) : Wo (fTup vs S) Q := by
  unfold fTup
  rw [if_pos h]
  exact q
theorem wo_lst {vs : List Va} (h : vs.length ≤ sizeLine) (q : Q (.ref S.length) (S ++ [.lst vs])) : Wo (fLst vs S) Q := by
  unfold fLst
  rw [if_pos h]
  exact q
theorem wo_mkL {vs : List Va} (h : vs.length ≤ sizeLine) (q : Q (.ref S.length) (S ++ [.lst vs])) : Wo (mkL S vs) Q := by
  unfold mkL
  rw [if_pos h]
  exact q
theorem wo_isi {v : Va} {k T : String} {b : Bool} (h1 : kindV S v = some k) (h2 : kitB k T = some b) (q : Q (.bl b) S) : Wo (fIsi [v, .ty T] S) Q := by
  show Wo (match kindV S v, Va.ty T with
    | some k, .ty T => match kitB k T with
      | some b => some (.bl b, S)
      | none => none
    | _, _ => none) Q
  rw [h1]
  simp only [h2]
  exact q
theorem wo_ixL {v x : Va} {xs : List Va} (h1 : lstOf S v = some xs) (h2 : L2.atI xs i = some x) (q : Q x S) : Wo (fIx v (.int i) S) Q := by
  rw [fIx_lst h1 h2]
  exact q
theorem wo_ixT {x : Va} {xs : List Va} (h2 : L2.atI xs i = some x) (q : Q x S) : Wo (fIx (.tup xs) (.int i) S) Q := by
  rw [fIx_tup h2]
  exact q
theorem wo_len {v : Va} {xs : List Va} (h : seqOf S v = some xs) (q : Q (.int xs.length) S) : Wo (fLen [v] S) Q := by
  have e : lenQ [v] S = some (.int xs.length, S) := by
    show (match seqOf S v with
      | some xs => some (Va.int xs.length, S)
      | none => none) = _
    rw [h]
  unfold fLen orFL
  rw [e]
  exact q
theorem lst_ref {n : Nat} {xs : List Va} (h : S[n]? = some (.lst xs)) : lstOf S (.ref n) = some xs := by
  unfold lstOf
  simp only [h]
theorem wo_addL {v w : Va} {xs ys : List Va} (h : lstOf S v = some xs) (h' : lstOf S w = some ys) (hl : (xs ++ ys).length ≤ sizeLine) (q : Q (.ref S.length) (S ++ [.lst (xs ++ ys)])) : Wo (fAdd v w S) Q := by
  rw [fAdd_lst h h']
  exact wo_mkL hl q
theorem wo_addT {x : Va} {xs ys : List Va} (h : (x :: xs).length + ys.length ≤ sizeLine) (q : Q (.tup (x :: xs ++ ys)) S) : Wo (fAdd (.tup (x :: xs)) (.tup ys) S) Q := by
  rw [fAdd_tup h]
  exact q
theorem wo_eq {v w : Va} {d e : PyData} (h1 : datOf S v = some d) (h2 : datOf S w = some e) (q : Q (.bl (PyData.eqv d e)) S) : Wo (fEq v w S) Q := by
  unfold fEq
  rw [h1, h2]
  exact q
theorem wo_ne {v w : Va} {d e : PyData} (h1 : datOf S v = some d) (h2 : datOf S w = some e) (q : Q (.bl (!PyData.eqv d e)) S) : Wo (fNe v w S) Q := by
  unfold fNe
  rw [h1, h2]
  exact q
theorem wo_in {v w : Va} {d : PyData} {ds : List PyData} (h1 : datOf S v = some d) (h2 : datsOf S w = some ds) (q : Q (.bl (ds.any fun z => PyData.eqv z d)) S) : Wo (inD false v w S) Q := by
  unfold inD
  rw [h1, h2]
  exact q
theorem wo_notIn {v w : Va} {d : PyData} {ds : List PyData} (h1 : datOf S v = some d) (h2 : datsOf S w = some ds) (q : Q (.bl (!ds.any fun z => PyData.eqv z d)) S) : Wo (inD true v w S) Q := by
  unfold inD
  rw [h1, h2]
  exact q
end
end PM

namespace PM
open PySem PySem.Spec PyProof.Rows L2 Q2
/-! ### values that read as data -/
structure Rd (S : Sto) (n : Nat) (v : Va) (d : PyData) : Prop where
  rd : ∀ m, n < m → toD S m v = some d
  lay : d.canLay0 = true
  dp : d.depth ≤ n
section
variable {S : Sto} {n : Nat} {v : Va} {d : PyData}
theorem Rd.dat (h : Rd S n v d) (hn : n < 64) : datOf S v = some d := by
  unfold datOf
  rw [h.rd 64 hn]
  simp only
  rw [if_pos]
  unfold SeqAt.shaped
  rw [h.lay, Bool.true_and]
  exact decide_eq_true (Nat.le_trans h.dp (Nat.le_of_lt hn))
theorem pos_of {n m : Nat} (h : n < m) : ∃ k, m = k + 1 := ⟨m - 1, by omega⟩
theorem Rd.int {i : Int} : Rd S 0 (.int i) (.int i) := ⟨fun m h => by obtain ⟨k, rfl⟩ := pos_of h; rfl, rfl, Nat.le_refl _⟩
theorem Rd.bl {b : Bool} : Rd S 0 (.bl b) (.bool b) := ⟨fun m h => by obtain ⟨k, rfl⟩ := pos_of h; rfl, rfl, Nat.le_refl _⟩
theorem Rd.non : Rd S 0 .non .none := ⟨fun m h => by obtain ⟨k, rfl⟩ := pos_of h; rfl, rfl, Nat.le_refl _⟩
theorem Rd.str {z : Str} (h : PyData.strOk z = true) : Rd S 0 (.str z) (.str z) := ⟨fun m h => by obtain ⟨k, rfl⟩ := pos_of h; rfl, h, Nat.le_refl _⟩
theorem Rd.le {m : Nat} (h : Rd S n v d) (hm : n ≤ m) : Rd S m v d := ⟨fun k hk => h.rd k (by omega), h.lay, Nat.le_trans h.dp hm⟩
inductive RdA (S : Sto) (n : Nat) : List Va → List PyData → Prop
  | nil : RdA S n [] []
  | cons {v : Va} {d : PyData} {vs : List Va} {ds : List PyData} : Rd S n v d → RdA S n vs ds → RdA S n (v :: vs) (d :: ds)
theorem RdA.mapM {vs : List Va} {ds : List PyData} (h : RdA S n vs ds) {m : Nat} (hm : n < m) : vs.mapM (toD S m) = some ds := by
  induction h with
  | nil => rfl
  | cons h _ ih =>
    rw [List.mapM_cons, h.rd m hm, ih]
    rfl
theorem RdA.lay {vs : List Va} {ds : List PyData} (h : RdA S n vs ds) : PyData.canLayAll0 ds = true := by
  induction h with
  | nil => rfl
  | cons h _ ih => simp only [PyData.canLayAll0, h.lay, ih, Bool.and_self]
theorem RdA.dp {vs : List Va} {ds : List PyData} (h : RdA S n vs ds) : PyData.depthAll ds ≤ n := by
  induction h with
  | nil => simp [PyData.depthAll]
  | cons h _ ih =>
    have := h.dp
    simp only [PyData.depthAll]
    omega
theorem RdA.map {α : Type} {f : α → Va} {g : α → PyData} : ∀ {l : List α}, (∀ a ∈ l, Rd S n (f a) (g a)) → RdA S n (l.map f) (l.map g)
  | [], _ => .nil
  | a :: l, h => .cons (h a (List.mem_cons_self ..)) (RdA.map fun b hb => h b (List.mem_cons_of_mem _ hb))
theorem Rd.tup {vs : List Va} {ds : List PyData} (h : RdA S n vs ds) : Rd S (n + 1) (.tup vs) (.tuple ds) := by
  refine ⟨fun m hm => ?_, h.lay, ?_⟩
  · obtain ⟨k, rfl⟩ := pos_of hm
    show (vs.mapM (toD S k)).map PyData.tuple = _
    rw [h.mapM (by omega)]
    rfl
  · have := h.dp
    simp only [PyData.depth]
    omega
theorem Rd.rol {vs : List Va} {ds : List PyData} (h : RdA S n vs ds) : Rd S (n + 1) (.rol vs) (.list ds) := by
  refine ⟨fun m hm => ?_, h.lay, ?_⟩
  · obtain ⟨k, rfl⟩ := pos_of hm
    show (vs.mapM (toD S k)).map PyData.list = _
    rw [h.mapM (by omega)]
    rfl
  · have := h.dp
    simp only [PyData.depth]
    omega
theorem Rd.ref {k : Nat} {vs : List Va} {ds : List PyData} (e : S[k]? = some (.lst vs)) (h : RdA S n vs ds) : Rd S (n + 1) (.ref k) (.list ds) := by
  refine ⟨fun m hm => ?_, h.lay, ?_⟩
  · obtain ⟨j, rfl⟩ := pos_of hm
    show (match S[k]? with
      | some (.lst xs) => (xs.mapM (toD S j)).map PyData.list
      | _ => none) = _
    rw [e]
    simp only
    rw [h.mapM (by omega)]
    rfl
  · have := h.dp
    simp only [PyData.depth]
    omega
theorem Rd.dats {ds : List PyData} (h : Rd S n v (.list ds)) (hn : n < 64) : datsOf S v = some ds := by
  unfold datsOf
  rw [h.dat hn]
end
/-! ### equality of data is equality -/
def EqD {α : Type} (f : α → PyData) : Prop := ∀ a b, PyData.eqv (f a) (f b) = true ↔ a = b
theorem EqD.int : EqD PyData.int := fun a b => by simp [PyData.eqv]
theorem EqD.str : EqD PyData.str := fun a b => by simp [PyData.eqv]
section
variable {α β γ : Type} {f : α → PyData} {g : β → PyData} {h : γ → PyData}
theorem EqD.all (hf : EqD f) : ∀ xs ys : List α, PyData.eqvAll (xs.map f) (ys.map f) = true ↔ xs = ys
  | [], [] => by simp [PyData.eqvAll]
  | [], _ :: _ => by simp [PyData.eqvAll]
  | _ :: _, [] => by simp [PyData.eqvAll]
  | x :: xs, y :: ys => by
    simp only [List.map_cons, PyData.eqvAll, Bool.and_eq_true, List.cons.injEq]
    rw [hf x y, hf.all xs ys]
theorem EqD.list (hf : EqD f) : EqD fun xs : List α => PyData.list (xs.map f) := fun a b => by
  simp only [PyData.eqv]
  exact hf.all a b
theorem EqD.tup (hf : EqD f) : EqD fun xs : List α => PyData.tuple (xs.map f) := fun a b => by
  simp only [PyData.eqv]
  exact hf.all a b
theorem EqD.pair (hf : EqD f) (hg : EqD g) : EqD fun p : α × β => PyData.tuple [f p.1, g p.2] := fun a b => by
  simp only [PyData.eqv, PyData.eqvAll, Bool.and_eq_true, Bool.and_true]
  rw [hf, hg]
  exact ⟨fun h => Prod.ext h.1 h.2, fun h => by rw [h]; exact ⟨rfl, rfl⟩⟩
theorem EqD.trip (hf : EqD f) (hg : EqD g) (hh : EqD h) : EqD fun p : α × β × γ => PyData.tuple [f p.1, g p.2.1, h p.2.2] := fun a b => by
  simp only [PyData.eqv, PyData.eqvAll, Bool.and_eq_true, Bool.and_true]
  rw [hf, hg, hh]
  exact ⟨fun h => Prod.ext h.1 (Prod.ext h.2.1 h.2.2), fun h => by rw [h]; exact ⟨rfl, rfl, rfl⟩⟩
theorem EqD.any (hf : EqD f) [DecidableEq α] (a : α) (l : List α) : ((l.map f).any fun z => PyData.eqv z (f a)) = decide (a ∈ l) := by
  induction l with
  | nil => rfl
  | cons x l ih =>
    simp only [List.map_cons, List.any_cons, ih]
    by_cases e : x = a
    · rw [(hf x a).mpr e]
      simp [e]
    · have : PyData.eqv (f x) (f a) = false := by
        cases q : PyData.eqv (f x) (f a) with
        | false => rfl
        | true => exact absurd ((hf x a).mp q) e
      rw [this]
      have e' : ¬ a = x := fun z => e z.symm
      simp [e']
theorem EqD.dec (hf : EqD f) [DecidableEq α] (a b : α) : PyData.eqv (f a) (f b) = decide (a = b) := by
  by_cases e : a = b
  · rw [(hf a b).mpr e, decide_eq_true e]
  · rw [decide_eq_false e]
    cases q : PyData.eqv (f a) (f b) with
    | false => rfl
    | true => exact absurd ((hf a b).mp q) e
end
section
variable {α : Type} {f : α → PyData} [DecidableEq α] {S : Sto} {Q : Va → Sto → Prop} {v w : Va} {a b : α} {l : List α} {m n : Nat}
theorem wo_eqD (hf : EqD f) (h1 : Rd S m v (f a)) (h2 : Rd S n w (f b)) (hm : m < 64) (hn : n < 64) (q : Q (.bl (decide (a = b))) S) : Wo (fEq v w S) Q := wo_eq (h1.dat hm) (h2.dat hn) (by rw [hf.dec]; exact q)
theorem wo_neD (hf : EqD f) (h1 : Rd S m v (f a)) (h2 : Rd S n w (f b)) (hm : m < 64) (hn : n < 64) (q : Q (.bl (decide (a ≠ b))) S) : Wo (fNe v w S) Q := wo_ne (h1.dat hm) (h2.dat hn) (by rw [hf.dec]; rw [← decide_not]; exact q)
theorem wo_inD (hf : EqD f) (h1 : Rd S m v (f a)) (h2 : Rd S n w (.list (l.map f))) (hm : m < 64) (hn : n < 64) (q : Q (.bl (decide (a ∈ l))) S) : Wo (inF v w S) Q := by
  have h : Wo (inD false v w S) fun z S' => S' = S ∧ z = .bl (decide (a ∈ l)) := wo_in (h1.dat hm) (h2.dats hn) (by rw [hf.any]; exact ⟨rfl, rfl⟩)
  unfold inF orF2
  cases e : inD false v w S with
  | none => rw [e] at h; exact h.elim
  | some p =>
    obtain ⟨z, S'⟩ := p
    rw [e] at h
    obtain ⟨h3, h4⟩ := h
    subst h3
    subst h4
    exact q
omit [DecidableEq α] in
theorem wo_inSet {k : List Int} {ks : List (List Int)} {j : Nat} (h1 : tIntsOf v = some k) (h2 : S[j]? = some (.setT ks)) (h3 : k ∉ ks) (q : Q (.bl false) S) : Wo (inF v (.ref j) S) Q := by
  have h : inD false v (.ref j) S = none := by
    unfold inD datsOf
    have : datOf S (.ref j) = none := by
      unfold datOf
      have : toD S 64 (.ref j) = none := by
        show (match S[j]? with
          | some (.lst xs) => (xs.mapM (toD S 63)).map PyData.list
          | _ => none) = _
        rw [h2]
      rw [this]
    rw [this]
    cases datOf S v <;> rfl
  unfold inF orF2
  rw [h]
  unfold inSet
  rw [h1]
  simp only [h2]
  rw [if_neg h3]
  exact q
theorem wo_notInD (hf : EqD f) (h1 : Rd S m v (f a)) (h2 : Rd S n w (.list (l.map f))) (hm : m < 64) (hn : n < 64) (q : Q (.bl (decide (a ∉ l))) S) : Wo (inD true v w S) Q := wo_notIn (h1.dat hm) (h2.dats hn) (by rw [hf.any]; rw [← decide_not]; exact q)
end
/-! ### pairs and triples of ints -/
abbrev ptV (p : Int × Int) : Va := .tup [.int p.1, .int p.2]
abbrev clV (p : Int × Int × Int) : Va := .tup [.int p.1, .int p.2.1, .int p.2.2]
abbrev ptP (p : Int × Int) : PyData := .tuple [.int p.1, .int p.2]
abbrev clP (p : Int × Int × Int) : PyData := .tuple [.int p.1, .int p.2.1, .int p.2.2]
theorem ptE : EqD ptP := EqD.pair EqD.int EqD.int
theorem clE : EqD clP := EqD.trip EqD.int EqD.int EqD.int
section
variable {S : Sto}
theorem ptR {p : Int × Int} : Rd S 1 (ptV p) (ptP p) := Rd.tup (.cons Rd.int (.cons Rd.int .nil))
theorem clR {p : Int × Int × Int} : Rd S 1 (clV p) (clP p) := Rd.tup (.cons Rd.int (.cons Rd.int (.cons Rd.int .nil)))
theorem ptsR {k : Nat} {l : List (Int × Int)} (h : S[k]? = some (.lst (l.map ptV))) : Rd S 2 (.ref k) (.list (l.map ptP)) := Rd.ref h (RdA.map fun a _ => ptR)
theorem clsR {k : Nat} {l : List (Int × Int × Int)} (h : S[k]? = some (.lst (l.map clV))) : Rd S 2 (.ref k) (.list (l.map clP)) := Rd.ref h (RdA.map fun a _ => clR)
end
/-! ### stores -/
theorem get_set {S : Sto} {n : Nat} {o p : Ob} (h : S[n]? = some o) : (S.set n p)[n]? = some p := List.getElem?_set_self (List.getElem?_eq_some_iff.mp h).1
theorem get_ne {S : Sto} {n m : Nat} {o p : Ob} (hn : n ≠ m) (h : S[m]? = some o) : (S.set n p)[m]? = some o := by rw [List.getElem?_set_ne hn]; exact h
theorem get_app {S T : Sto} {n : Nat} {o : Ob} (h : S[n]? = some o) : (S ++ T)[n]? = some o := by rw [List.getElem?_append_left (List.getElem?_eq_some_iff.mp h).1]; exact h
theorem get_last {S : Sto} {o : Ob} : (S ++ [o])[S.length]? = some o := by rw [List.getElem?_append_right (Nat.le_refl _), Nat.sub_self]; rfl
theorem lt_get {S : Sto} {n : Nat} {o : Ob} (h : S[n]? = some o) : n < S.length := (List.getElem?_eq_some_iff.mp h).1
theorem seq_ref {S : Sto} {n : Nat} {xs : List Va} (h : S[n]? = some (.lst xs)) : seqOf S (.ref n) = some xs := lst_ref h
/-- all stands but what lies at n -/
def Kp (n : Nat) (S S' : Sto) : Prop := S.length ≤ S'.length ∧ ∀ i o, i ≠ n → S[i]? = some o → S'[i]? = some o
/-- all stands -/
def Gr (S S' : Sto) : Prop := ∃ T, S' = S ++ T
theorem Gr.refl (S : Sto) : Gr S S := ⟨[], by simp⟩
theorem Gr.trans {S S1 S2 : Sto} (a : Gr S S1) (b : Gr S1 S2) : Gr S S2 := by
  obtain ⟨T, rfl⟩ := a
  obtain ⟨U, rfl⟩ := b
  exact ⟨T ++ U, by rw [List.append_assoc]⟩
theorem Gr.app (S T : Sto) : Gr S (S ++ T) := ⟨T, rfl⟩
theorem Gr.get {S S' : Sto} (g : Gr S S') {n : Nat} {o : Ob} (h : S[n]? = some o) : S'[n]? = some o := by
  obtain ⟨T, rfl⟩ := g
  exact get_app h
theorem Gr.len {S S' : Sto} (g : Gr S S') : S.length ≤ S'.length := by
  obtain ⟨T, rfl⟩ := g
  simp
theorem Kp.refl (n : Nat) (S : Sto) : Kp n S S := ⟨Nat.le_refl _, fun _ _ _ h => h⟩
theorem Kp.trans {n : Nat} {S S1 S2 : Sto} (a : Kp n S S1) (b : Kp n S1 S2) : Kp n S S2 := ⟨Nat.le_trans a.1 b.1, fun i o hi h => b.2 i o hi (a.2 i o hi h)⟩
theorem Gr.kp {n : Nat} {S S' : Sto} (g : Gr S S') : Kp n S S' := ⟨g.len, fun _ _ _ h => g.get h⟩
theorem Kp.set (n : Nat) (S : Sto) (o : Ob) : Kp n S (S.set n o) := ⟨by simp, fun i p hi h => get_ne (fun z => hi z.symm) h⟩
theorem Kp.get {n : Nat} {S S' : Sto} (k : Kp n S S') {i : Nat} {o : Ob} (hi : i ≠ n) (h : S[i]? = some o) : S'[i]? = some o := k.2 i o hi h
theorem at_nat {xs : List Va} {i : Int} (h0 : 0 ≤ i) (h1 : i < xs.length) : ∃ x, L2.atI xs i = some x ∧ xs[i.toNat]? = some x ∧ x ∈ xs := by
  have h : i.toNat < xs.length := by omega
  refine ⟨xs[i.toNat], ?_, List.getElem?_eq_getElem h, List.getElem_mem h⟩
  unfold L2.atI L2.ixN
  rw [if_pos h0, if_pos h1]
  exact List.getElem?_eq_getElem h
/-! ### branches -/
theorem ite_nd {p A B : Prop} {_ : Decidable p} (h1 : ¬ p → A) (h2 : p → B) : if (!decide p) = true then A else B := by
  by_cases h : p
  · rw [if_neg (by simp [h])]; exact h2 h
  · rw [if_pos (by simp [h])]; exact h1 h
theorem ite_nt {A B : Prop} (h : B) : if (!true) = true then A else B := by rw [if_neg (by decide)]; exact h
theorem ite_nf {A B : Prop} (h : A) : if (!false) = true then A else B := by rw [if_pos (by decide)]; exact h
theorem kind_ref {S : Sto} {n : Nat} {xs : List Va} (h : S[n]? = some (.lst xs)) : kindV S (.ref n) = some "list" := by
  unfold kindV
  simp only [h]
theorem kb_int_int : kitB "int" "int" = some true := by decide +kernel
theorem kb_int_bool : kitB "int" "bool" = some false := by decide +kernel
theorem kb_int_str : kitB "int" "str" = some false := by decide +kernel
theorem kb_int_list : kitB "int" "list" = some false := by decide +kernel
theorem kb_int_tuple : kitB "int" "tuple" = some false := by decide +kernel
theorem kb_bool_int : kitB "bool" "int" = some true := by decide +kernel
theorem kb_bool_bool : kitB "bool" "bool" = some true := by decide +kernel
theorem kb_bool_str : kitB "bool" "str" = some false := by decide +kernel
theorem kb_bool_list : kitB "bool" "list" = some false := by decide +kernel
theorem kb_bool_tuple : kitB "bool" "tuple" = some false := by decide +kernel
theorem kb_str_int : kitB "str" "int" = some false := by decide +kernel
theorem kb_str_bool : kitB "str" "bool" = some false := by decide +kernel
theorem kb_str_str : kitB "str" "str" = some true := by decide +kernel
theorem kb_str_list : kitB "str" "list" = some false := by decide +kernel
theorem kb_str_tuple : kitB "str" "tuple" = some false := by decide +kernel
theorem kb_list_int : kitB "list" "int" = some false := by decide +kernel
theorem kb_list_bool : kitB "list" "bool" = some false := by decide +kernel
theorem kb_list_str : kitB "list" "str" = some false := by decide +kernel
theorem kb_list_list : kitB "list" "list" = some true := by decide +kernel
theorem kb_list_tuple : kitB "list" "tuple" = some false := by decide +kernel
theorem kb_tuple_int : kitB "tuple" "int" = some false := by decide +kernel
theorem kb_tuple_bool : kitB "tuple" "bool" = some false := by decide +kernel
theorem kb_tuple_str : kitB "tuple" "str" = some false := by decide +kernel
theorem kb_tuple_list : kitB "tuple" "list" = some false := by decide +kernel
theorem kb_tuple_tuple : kitB "tuple" "tuple" = some true := by decide +kernel
theorem kb_NoneType_int : kitB "NoneType" "int" = some false := by decide +kernel
theorem kb_NoneType_bool : kitB "NoneType" "bool" = some false := by decide +kernel
theorem kb_NoneType_str : kitB "NoneType" "str" = some false := by decide +kernel
theorem kb_NoneType_list : kitB "NoneType" "list" = some false := by decide +kernel
theorem kb_NoneType_tuple : kitB "NoneType" "tuple" = some false := by decide +kernel
theorem ka_tuple : kitAnyB "tuple" ["list", "tuple"] = some true := by decide +kernel
theorem ka_list : kitAnyB "list" ["list", "tuple"] = some true := by decide +kernel
/-! ### loops, whatever is walked -/
def IsSeq (S : Sto) (v : Va) (xs : List Va) : Prop := (∃ k, v = .ref k ∧ S[k]? = some (.lst xs)) ∨ v = .tup xs ∨ v = .rol xs
theorem IsSeq.ref {S : Sto} {k : Nat} {xs : List Va} (h : S[k]? = some (.lst xs)) : IsSeq S (.ref k) xs := .inl ⟨k, rfl, h⟩
theorem IsSeq.seq {S : Sto} {v : Va} {xs : List Va} (h : IsSeq S v xs) : seqOf S v = some xs := by
  rcases h with ⟨k, rfl, h⟩ | rfl | rfl
  · exact seq_ref h
  · rfl
  · rfl
theorem IsSeq.gr {S S' : Sto} (g : Gr S S') {v : Va} {xs : List Va} (h : IsSeq S v xs) : IsSeq S' v xs := by
  rcases h with ⟨k, rfl, h⟩ | h
  · exact .inl ⟨k, rfl, g.get h⟩
  · exact .inr h
theorem IsSeq.dat {S : Sto} {v : Va} {xs : List Va} (h : IsSeq S v xs) {i : Int} {x : Va} (e : L2.atI xs i = some x) {Q : Va → Sto → Prop} (q : Q x S) : Wo (fIx v (.int i) S) Q := by
  rcases h with ⟨k, rfl, h⟩ | rfl | rfl
  · exact wo_ixL (lst_ref h) e q
  · exact wo_ixT e q
  · exact wo_ixL rfl e q
theorem IsSeq.len {S : Sto} {v : Va} {xs : List Va} (h : IsSeq S v xs) {Q : Va → Sto → Prop} (q : Q (.int xs.length) S) : Wo (fLen [v] S) Q := wo_len h.seq q
theorem IsSeq.isi {S : Sto} {v : Va} {xs : List Va} (h : IsSeq S v xs) : ∃ k, kindV S v = some k ∧ kitAnyB k ["list", "tuple"] = some true := by
  rcases h with ⟨k, rfl, h⟩ | rfl | rfl
  · exact ⟨_, kind_ref h, ka_list⟩
  · exact ⟨_, rfl, ka_tuple⟩
  · exact ⟨_, rfl, ka_list⟩
section
variable {Γ : En} {S : Sto} {P : Po} {Q : Va → Sto → Prop}
theorem ws_forW {m : ME} {g : MG} {b : MS} (v : Va) (xs : List Va) (Inv : Nat → En → Sto → Prop) (hm : Wp (m Γ S) fun w S1 => w = v ∧ Inv 0 Γ S1) (hl : ∀ i Γ S, Inv i Γ S → IsSeq S v xs)
    (hs : ∀ i x Γ S, xs[i]? = some x → Inv i Γ S → Wp (g x Γ S) fun Γ1 S1 => Ws (b Γ1 S1) { nx := Inv (i + 1), ct := Inv (i + 1), bk := P.nx, rt := P.rt }) (hd : ∀ Γ S, Inv xs.length Γ S → P.nx Γ S) : Ws (sFor (mWalk m) g b Γ S) P := by
  refine ws_for (w_walk (hm.mono fun w S1 h => ?_))
  obtain ⟨rfl, h0⟩ := h
  rcases hl _ _ _ h0 with ⟨k, rfl, h⟩ | rfl | rfl
  · refine .inl ⟨k, xs, rfl, h, loop_list Inv (fun i Γ S _ h => ?_) h0 hs hd⟩
    rcases hl _ _ _ h with ⟨k', e, h⟩ | e | e
    · cases e; exact h
    · cases e
    · cases e
  · exact .inr ⟨xs, .inl rfl, loop_itm Inv h0 hs hd⟩
  · exact .inr ⟨xs, .inr rfl, loop_itm Inv h0 hs hd⟩
theorem ws_forE {m : ME} {g : MG} {b : MS} (v : Va) (xs : List Va) (Inv : Nat → En → Sto → Prop) (hm : Wp (m Γ S) fun w S1 => w = v ∧ Inv 0 Γ S1) (hl : ∀ i Γ S, Inv i Γ S → IsSeq S v xs)
    (hs : ∀ i x Γ S, xs[i]? = some x → Inv i Γ S → Wp (g (.tup [.int (i : Nat), x]) Γ S) fun Γ1 S1 => Ws (b Γ1 S1) { nx := Inv (i + 1), ct := Inv (i + 1), bk := P.nx, rt := P.rt }) (hd : ∀ Γ S, Inv xs.length Γ S → P.nx Γ S) : Ws (sFor (mEnum (maC m maN)) g b Γ S) P := by
  refine ws_for (w_enum (w_maC (hm.mono fun w S1 h => w_maN ⟨_, rfl, ?_⟩)))
  obtain ⟨rfl, h0⟩ := h
  rcases hl _ _ _ h0 with ⟨k, rfl, h⟩ | rfl | rfl
  · refine .inl ⟨k, xs, rfl, h, loop_enm Inv (fun i Γ S _ h => ?_) h0 hs hd⟩
    rcases hl _ _ _ h with ⟨k', e, h⟩ | e | e
    · cases e; exact h
    · cases e
    · cases e
  · exact .inr ⟨xs, .inl rfl, loop_enmI Inv h0 hs hd⟩
  · exact .inr ⟨xs, .inr rfl, loop_enmI Inv h0 hs hd⟩
theorem ws_forR {m : ME} {g : MG} {b : MS} (n : Int) (hn : -(2 ^ 62) ≤ n ∧ n < 2 ^ 62) (Inv : Nat → En → Sto → Prop) (hm : Wp (m Γ S) fun w S1 => w = .int n ∧ Inv 0 Γ S1)
    (hs : ∀ i Γ S, i < n.toNat → Inv i Γ S → Wp (g (.int (i : Nat)) Γ S) fun Γ1 S1 => Ws (b Γ1 S1) { nx := Inv (i + 1), ct := Inv (i + 1), bk := P.nx, rt := P.rt }) (hd : ∀ Γ S, Inv n.toNat Γ S → P.nx Γ S) : Ws (sFor (mRng1 (maC m maN)) g b Γ S) P := by
  refine ws_for (w_rng1 (w_maC (hm.mono fun w S1 h => w_maN ⟨n, ?_, hn, ?_⟩)))
  · rw [h.1]
  · refine loop_rng Inv h.2 (fun i Γ S hi h => ?_) hd
    have e : (0 : Int) + (i : Nat) * 1 = (i : Nat) := by omega
    rw [e]
    exact hs i Γ S hi h
theorem ws_forR2 {m m' : ME} {g : MG} {b : MS} (l n : Int) (hl : -(2 ^ 62) ≤ l ∧ l < 2 ^ 62) (hn : -(2 ^ 62) ≤ n ∧ n < 2 ^ 62) (Inv : Nat → En → Sto → Prop) (hm : Wp (m Γ S) fun w S1 => w = .int l ∧ Wp (m' Γ S1) fun w S2 => w = .int n ∧ Inv 0 Γ S2)
    (hs : ∀ i Γ S, i < (n - l).toNat → Inv i Γ S → Wp (g (.int (l + (i : Nat))) Γ S) fun Γ1 S1 => Ws (b Γ1 S1) { nx := Inv (i + 1), ct := Inv (i + 1), bk := P.nx, rt := P.rt }) (hd : ∀ Γ S, Inv (n - l).toNat Γ S → P.nx Γ S) : Ws (sFor (mRng2 (maC m (maC m' maN))) g b Γ S) P := by
  refine ws_for (w_rng2 (w_maC (hm.mono fun w S1 h => w_maC (h.2.mono fun w' S2 h' => w_maN ⟨l, n, ?_, ⟨hl.1, hl.2, hn.1, hn.2⟩, ?_⟩))))
  · rw [h.1, h'.1]
  · refine loop_rng Inv h'.2 (fun i Γ S hi h => ?_) hd
    have e : l + (i : Nat) * 1 = l + (i : Nat) := by omega
    rw [e]
    exact hs i Γ S hi h
theorem w_lcW {m : ME} {g : MG} {mt : MT} {me : ME} {vs : List Nat} (v : Va) (xs : List Va) (Inv : Nat → List Va → Sto → Prop) (hn : xs.length < sizeLine) (hm : Wp (m Γ S) fun w S1 => w = v ∧ Inv 0 [] S1) (hl : ∀ i acc S, Inv i acc S → IsSeq S v xs)
    (hs : ∀ i x acc S, xs[i]? = some x → Inv i acc S → Wp (g x (wipeE Γ vs) S) fun Γ1 S1 => Wp (mt Γ1 S1) fun k S2 => if k = true then Wp (me Γ1 S2) fun y S3 => Inv (i + 1) (acc ++ [y]) S3 else Inv (i + 1) acc S2) (hd : ∀ acc S, Inv xs.length acc S → Q (.ref S.length) (S ++ [.lst acc])) : Wp (mLc (mWalk m) g mt me vs Γ S) Q := by
  refine w_lc (w_walk (hm.mono fun w S1 h => ?_))
  obtain ⟨rfl, h0⟩ := h
  rcases hl _ _ _ h0 with ⟨k, rfl, h⟩ | rfl | rfl
  · refine .inl ⟨k, xs, rfl, h, comp_list Inv hn (fun i Γ S _ h => ?_) h0 hs hd⟩
    rcases hl _ _ _ h with ⟨k', e, h⟩ | e | e
    · cases e; exact h
    · cases e
    · cases e
  · exact .inr ⟨xs, .inl rfl, comp_itm Inv hn h0 hs hd⟩
  · exact .inr ⟨xs, .inr rfl, comp_itm Inv hn h0 hs hd⟩
theorem w_lcE {m : ME} {g : MG} {mt : MT} {me : ME} {vs : List Nat} (v : Va) (xs : List Va) (Inv : Nat → List Va → Sto → Prop) (hn : xs.length < sizeLine) (hm : Wp (m Γ S) fun w S1 => w = v ∧ Inv 0 [] S1) (hl : ∀ i acc S, Inv i acc S → IsSeq S v xs)
    (hs : ∀ i x acc S, xs[i]? = some x → Inv i acc S → Wp (g (.tup [.int (i : Nat), x]) (wipeE Γ vs) S) fun Γ1 S1 => Wp (mt Γ1 S1) fun k S2 => if k = true then Wp (me Γ1 S2) fun y S3 => Inv (i + 1) (acc ++ [y]) S3 else Inv (i + 1) acc S2) (hd : ∀ acc S, Inv xs.length acc S → Q (.ref S.length) (S ++ [.lst acc])) : Wp (mLc (mEnum (maC m maN)) g mt me vs Γ S) Q := by
  refine w_lc (w_enum (w_maC (hm.mono fun w S1 h => w_maN ⟨_, rfl, ?_⟩)))
  obtain ⟨rfl, h0⟩ := h
  rcases hl _ _ _ h0 with ⟨k, rfl, h⟩ | rfl | rfl
  · refine .inl ⟨k, xs, rfl, h, comp_enm Inv hn (fun i Γ S _ h => ?_) h0 hs hd⟩
    rcases hl _ _ _ h with ⟨k', e, h⟩ | e | e
    · cases e; exact h
    · cases e
    · cases e
  · exact .inr ⟨xs, .inl rfl, comp_enmI Inv hn h0 hs hd⟩
  · exact .inr ⟨xs, .inr rfl, comp_enmI Inv hn h0 hs hd⟩
theorem w_lcR {m : ME} {g : MG} {mt : MT} {me : ME} {vs : List Nat} (n : Int) (hn : -(2 ^ 62) ≤ n ∧ n < 2 ^ 24) (Inv : Nat → List Va → Sto → Prop) (hm : Wp (m Γ S) fun w S1 => w = .int n ∧ Inv 0 [] S1)
    (hs : ∀ i acc S, i < n.toNat → Inv i acc S → Wp (g (.int (i : Nat)) (wipeE Γ vs) S) fun Γ1 S1 => Wp (mt Γ1 S1) fun k S2 => if k = true then Wp (me Γ1 S2) fun y S3 => Inv (i + 1) (acc ++ [y]) S3 else Inv (i + 1) acc S2) (hd : ∀ acc S, Inv n.toNat acc S → Q (.ref S.length) (S ++ [.lst acc])) : Wp (mLc (mRng1 (maC m maN)) g mt me vs Γ S) Q := by
  refine w_lc (w_rng1 (w_maC (hm.mono fun w S1 h => w_maN ⟨n, ?_, ⟨hn.1, by omega⟩, ?_⟩)))
  · rw [h.1]
  · refine comp_rng Inv (by show n.toNat < 2 ^ 24; omega) h.2 (fun i acc S hi h => ?_) hd
    have e : (0 : Int) + (i : Nat) * 1 = (i : Nat) := by omega
    rw [e]
    exact hs i acc S hi h
end
theorem map_at {α β : Type} {f : α → β} {l : List α} {i : Nat} {x : β} (h : (l.map f)[i]? = some x) : ∃ p, l[i]? = some p ∧ x = f p := by
  rw [List.getElem?_map] at h
  cases e : l[i]? with
  | none => rw [e] at h; cases h
  | some p => rw [e] at h; cases h; exact ⟨p, rfl, rfl⟩
theorem take_at {α : Type} {l : List α} {i : Nat} {x : α} (h : l[i]? = some x) : l.take (i + 1) = l.take i ++ [x] := by
  obtain ⟨hi, e⟩ := List.getElem?_eq_some_iff.mp h
  rw [List.take_succ, h]
  rfl
theorem app_set {S T : Sto} {o p : Ob} : (S ++ o :: T).set S.length p = S ++ p :: T := by
  rw [List.set_append_right _ _ (Nat.le_refl _), Nat.sub_self]
  rfl
theorem app_at {S T : Sto} {o : Ob} : (S ++ o :: T)[S.length]? = some o := by
  rw [List.getElem?_append_right (Nat.le_refl _), Nat.sub_self]
  rfl
section
variable {Γ : En} {S : Sto} {P : Po} {Q : Va → Sto → Prop} {α : Type}
/-- [h(x) for x in l if p(x)], nothing is changed -/
theorem w_comp {m : ME} {g : MG} {mt : MT} {me : ME} {vs : List Nat} (v : Va) (l : List α) (enc : α → Va) (p : α → Bool) (h : α → Va) (hn : l.length < sizeLine) (hv : IsSeq S v (l.map enc)) (hm : Wp (m Γ S) fun w S1 => w = v ∧ S1 = S)
    (hs : ∀ q S', q ∈ l → Gr S S' → Wp (g (enc q) (wipeE Γ vs) S') fun Γ1 S1 => Wp (mt Γ1 S1) fun k S2 => k = p q ∧ if p q = true then Wp (me Γ1 S2) fun y S3 => y = h q ∧ Gr S S3 else Gr S S2) (hd : ∀ S2, Gr S S2 → Q (.ref S2.length) (S2 ++ [.lst ((l.filter p).map h)])) : Wp (mLc (mWalk m) g mt me vs Γ S) Q := by
  refine w_lcW v (l.map enc) (fun i acc S' => acc = ((l.take i).filter p).map h ∧ Gr S S') (by rw [List.length_map]; exact hn) (hm.mono fun w S1 h => ?_) (fun i acc S' h => hv.gr h.2) (fun i x acc S' hx h => ?_) (fun acc S' h => ?_)
  · obtain ⟨rfl, rfl⟩ := h
    exact ⟨rfl, by simp, Gr.refl _⟩
  · obtain ⟨rfl, g⟩ := h
    obtain ⟨q, hq, rfl⟩ := map_at hx
    refine (hs q S' (List.mem_of_getElem? hq) g).mono fun Γ1 S1 h => h.mono fun k S2 h => ?_
    obtain ⟨rfl, h⟩ := h
    rw [take_at hq, List.filter_append, List.map_append]
    by_cases e : p q = true
    · rw [if_pos e] at h
      rw [if_pos e]
      refine Wp.mono h fun y S3 h => ?_
      obtain ⟨rfl, g⟩ := h
      exact ⟨by simp [e], g⟩
    · rw [if_neg e] at h
      rw [if_neg e]
      exact ⟨by simp [e], h⟩
  · obtain ⟨rfl, g⟩ := h
    rw [List.length_map, List.take_length]
    exact hd S' g
end
section
variable {Γ : En} {S : Sto} {Q : Va → Sto → Prop} {α : Type}
/-- [x for i, x in enumerate(l) if i != n] -/
theorem w_others {m : ME} {mt : MT} {me : ME} {a b : Nat} (v : Va) (l : List α) (enc : α → Va) (n : Nat) (hn : l.length < sizeLine) (hv : IsSeq S v (l.map enc)) (hm : Wp (m Γ S) fun w S1 => w = v ∧ S1 = S)
    (ht : ∀ (i : Nat) (q : α) S', Gr S S' → Wp (mt (((wipeE Γ [a, b]).set a (some (.int i))).set b (some (enc q))) S') fun k S2 => k = decide (i ≠ n) ∧ S2 = S') (he : ∀ (i : Nat) (q : α) S', Wp (me (((wipeE Γ [a, b]).set a (some (.int i))).set b (some (enc q))) S') fun y S2 => y = enc q ∧ S2 = S') (hd : ∀ S2, Gr S S2 → Q (.ref S2.length) (S2 ++ [.lst ((l.eraseIdx n).map enc)])) : Wp (mLc (mEnum (maC m maN)) (gT 2 (gsC (gV a) (gsC (gV b) gsN))) mt me [a, b] Γ S) Q := by
  refine w_lcE v (l.map enc) (fun i acc S' => acc = ((l.take i).eraseIdx n).map enc ∧ Gr S S') (by rw [List.length_map]; exact hn) (hm.mono fun w S1 h => ?_) (fun i acc S' h => hv.gr h.2) (fun i x acc S' hx h => ?_) (fun acc S' h => ?_)
  · obtain ⟨rfl, rfl⟩ := h
    exact ⟨rfl, by simp, Gr.refl _⟩
  · obtain ⟨rfl, g⟩ := h
    obtain ⟨q, hq, rfl⟩ := map_at hx
    have hlt := (List.getElem?_eq_some_iff.mp hq).1
    refine wg_t rfl (wg_c (wg_v (wg_c (wg_v (wg_n ?_)))))
    refine (ht i q S' g).mono fun k S2 h => ?_
    obtain ⟨rfl, rfl⟩ := h
    rw [take_at hq]
    have hlen : (l.take i).length = i := by rw [List.length_take]; omega
    by_cases e : i = n
    · rw [if_neg (by simp [e])]
      refine ⟨?_, g⟩
      subst e
      rw [List.eraseIdx_append_of_length_le (by rw [hlen]; exact Nat.le_refl _), hlen, Nat.sub_self]
      rw [List.eraseIdx_of_length_le (by rw [hlen]; exact Nat.le_refl _)]
      simp
    · rw [if_pos (by simp [e])]
      refine (he i q _).mono fun y S3 h => ?_
      obtain ⟨rfl, rfl⟩ := h
      refine ⟨?_, g⟩
      by_cases e2 : n < i
      · rw [List.eraseIdx_append_of_lt_length (by rw [hlen]; exact e2), List.map_append]
        rfl
      · rw [List.eraseIdx_of_length_le (by rw [hlen]; omega), List.eraseIdx_of_length_le (by rw [List.length_append, hlen]; simp; omega), List.map_append]
        rfl
  · obtain ⟨rfl, g⟩ := h
    rw [List.length_map, List.take_length]
    exact hd S' g
end
/-! ### sorted -/
section
variable {S : Sto} {Q : Va → Sto → Prop} {α : Type} {enc : α → Va} {g : α → PyData} {n : Nat}
theorem dats_map (hn : n < 64) : ∀ {l : List α}, (∀ p ∈ l, Rd S n (enc p) (g p)) → datsV S (l.map enc) = some (l.map fun p => (enc p, g p))
  | [], _ => rfl
  | a :: l, h => by
    show (match datOf S (enc a), datsV S (l.map enc) with
      | some d, some ps => some ((enc a, d) :: ps)
      | _, _ => none) = _
    rw [(h a (List.mem_cons_self ..)).dat hn, dats_map hn fun b hb => h b (List.mem_cons_of_mem _ hb)]
    rfl
theorem wo_sort {v : Va} {l : List α} (hv : IsSeq S v (l.map enc)) (hR : ∀ p ∈ l, Rd S n (enc p) (g p)) (hn : n < 64) (hs : sortable (l.map g) = true) (hl : l.length ≤ sizeLine) (q : Q (.ref S.length) (S ++ [.lst ((l.mergeSort (dle g)).map enc)])) : Wo (fSort [v] S) Q := by
  have e : fSort [v] S = mkL S ((l.mergeSort (dle g)).map enc) := by
    show (match seqOf S v with
      | some xs => match datsV S xs with
        | some ps => if sortable (ps.map (fun q : Va × PyData => q.2)) = true then mkL S (sortPs ps) else none
        | none => none
      | none => none) = _
    rw [hv.seq]
    simp only
    rw [dats_map hn hR]
    simp only
    have e1 : (l.map fun p => (enc p, g p)).map (fun q : Va × PyData => q.2) = l.map g := by simp [List.map_map, Function.comp_def]
    rw [e1, if_pos hs]
    unfold sortPs
    have e2 : (l.mergeSort (dle g)).map (fun p => (enc p, g p)) = (l.map fun p => (enc p, g p)).mergeSort (dle fun q : Va × PyData => q.2) := List.map_mergeSort fun a _ b _ => rfl
    rw [← e2, List.map_map]
    rfl
  rw [e]
  exact wo_mkL (by rw [List.length_map, List.length_mergeSort]; exact hl) q
theorem sortable_of {l : List α} (h1 : ∀ a b, PySem.W.alike (g a) (g b) = true) (h2 : ∀ a, ∃ x r, g a = .tuple (x :: r)) (h3 : ∀ a, (g a).depth ≤ 40) : sortable (l.map g) = true := by
  unfold sortable
  rw [Bool.and_eq_true, Bool.and_eq_true]
  refine ⟨⟨?_, ?_⟩, ?_⟩
  · refine List.all_eq_true.mpr fun d hd => List.all_eq_true.mpr fun e he => ?_
    obtain ⟨a, _, rfl⟩ := List.mem_map.mp hd
    obtain ⟨b, _, rfl⟩ := List.mem_map.mp he
    exact h1 a b
  · refine Bool.or_eq_true_iff.mpr (.inl (List.all_eq_true.mpr fun d hd => ?_))
    obtain ⟨a, _, rfl⟩ := List.mem_map.mp hd
    obtain ⟨x, r, e⟩ := h2 a
    rw [e]
  · refine List.all_eq_true.mpr fun d hd => ?_
    obtain ⟨a, _, rfl⟩ := List.mem_map.mp hd
    exact decide_eq_true (h3 a)
end
theorem sortablePts (l : List (Int × Int)) : sortable (l.map ptP) = true := sortable_of (fun a b => by simp [PySem.W.alike, PySem.W.alikeAll]) (fun a => ⟨_, _, rfl⟩) fun a => by
  have : (ptP a).depth = 1 := depth_pt a.1 a.2
  omega
theorem wo_sl31 {S : Sto} {Q : Va → Sto → Prop} {x y z : Va} (q : Q (.tup [y, z]) S) : Wo (fSl (.tup [x, y, z]) (some 1) none S) Q := q
/-! ### a list so many times; the first ones -/
theorem wo_rep {S : Sto} {Q : Va → Sto → Prop} {n : Nat} {k : Int} {xs : List Va} (h : S[n]? = some (.lst xs)) (hk : 0 ≤ k ∧ k ≤ 16777216) (hl : xs.length * k.toNat ≤ 16777216) (q : Q (.ref S.length) (S ++ [.lst (List.replicate k.toNat xs).flatten])) : Wo (fMul (.ref n) (.int k) S) Q := by
  have e : fMul (.ref n) (.int k) S = some (.ref S.length, S ++ [.lst (List.replicate k.toNat xs).flatten]) := by
    unfold fMul orF2 mulI fI2
    simp only
    show (match S[n]? with
      | some (.lst xs) => if -(2 ^ 63) ≤ k ∧ k < 2 ^ 63 ∧ xs.length * k.toNat ≤ sizeLine then mkL S (List.replicate k.toNat xs).flatten else none
      | _ => none) = _
    rw [h]
    simp only
    rw [if_pos ⟨by omega, by omega, hl⟩]
    unfold mkL
    rw [if_pos]
    show (List.replicate k.toNat xs).flatten.length ≤ 16777216
    rw [List.length_flatten, List.map_replicate, List.sum_replicate_nat]
    rw [Nat.mul_comm] at hl
    exact hl
  rw [e]
  exact q
theorem wo_slTo {S : Sto} {Q : Va → Sto → Prop} {v : Va} {k : Int} {xs : List Va} (h : lstOf S v = some xs) (hk : 0 ≤ k) (hl : xs.length ≤ 16777216) (q : Q (.ref S.length) (S ++ [.lst (xs.take k.toNat)])) : Wo (fSl v none (some k) S) Q := by
  have e : fSl v none (some k) S = some (.ref S.length, S ++ [.lst (xs.take k.toNat)]) := by
    have e1 : cutA xs none (some k) = xs.take k.toNat := by
      have e0 : HT.sIx xs.length xs.length (some k) = min k.toNat xs.length := by
        unfold HT.sIx
        simp only
        rw [if_neg (by omega)]
      have e2 : HT.sIx xs.length 0 none = 0 := rfl
      unfold cutA
      rw [e0, e2, Nat.sub_zero, List.drop_zero]
      by_cases z : k.toNat ≤ xs.length
      · rw [Nat.min_eq_left z]
      · rw [Nat.min_eq_right (by omega), List.take_length, List.take_of_length_le (by omega)]
    have e3 : slL v none (some k) S = some (.ref S.length, S ++ [.lst (xs.take k.toNat)]) := by
      unfold slL
      rw [h]
      simp only
      rw [e1]
      unfold mkL
      rw [if_pos]
      have := List.length_take_le' k.toNat xs
      show _ ≤ 16777216
      omega
    unfold fSl
    rw [e3]
  rw [e]
  exact q
theorem dec_t {α : Type} {p : Prop} {_ : Decidable p} {a b : α} (h : p) : (if decide p = true then a else b) = a := by rw [if_pos (decide_eq_true h)]
theorem dec_f {α : Type} {p : Prop} {_ : Decidable p} {a b : α} (h : ¬ p) : (if decide p = true then a else b) = b := by rw [if_neg (by simpa using h)]
/-! ### what stood stands -/
def Lo (S S' : Sto) : Prop := S.length ≤ S'.length ∧ ∀ (i : Nat) (o : Ob), S[i]? = some o → S'[i]? = some o
theorem Lo.refl (S : Sto) : Lo S S := ⟨Nat.le_refl _, fun _ _ h => h⟩
theorem Lo.trans {S S1 S2 : Sto} (a : Lo S S1) (b : Lo S1 S2) : Lo S S2 := ⟨Nat.le_trans a.1 b.1, fun i o h => b.2 i o (a.2 i o h)⟩
theorem Gr.lo {S S' : Sto} (g : Gr S S') : Lo S S' := ⟨g.len, fun _ _ h => g.get h⟩
theorem Lo.gr {S S1 S2 : Sto} (a : Lo S S1) (g : Gr S1 S2) : Lo S S2 := a.trans g.lo
theorem Lo.get {S S' : Sto} (a : Lo S S') {i : Nat} {o : Ob} (h : S[i]? = some o) : S'[i]? = some o := a.2 i o h
theorem Lo.set {S S' : Sto} (a : Lo S S') {i : Nat} (hi : S.length ≤ i) (o : Ob) : Lo S (S'.set i o) := ⟨by simpa using a.1, fun j p h => get_ne (fun z => by have := lt_get h; omega) (a.2 j p h)⟩
theorem wo_tupR {S : Sto} {Q : Va → Sto → Prop} {k : Nat} {xs : List Va} (h : S[k]? = some (.lst xs)) (q : Q (.tup xs) S) : Wo (tupL [.ref k] S) Q := by
  have e : tupL [.ref k] S = some (.tup xs, S) := by
    show (match lstOf S (.ref k) with
      | some xs => some (Va.tup xs, S)
      | none => none) = _
    rw [lst_ref h]
  rw [e]
  exact q
theorem ws_merge {c : Bool} {a b : Rs} {P : Po} (N : En → Sto → Prop) (ha : c = true → Ws a { nx := N, rt := fun _ _ => False }) (hb : c = false → Ws b { nx := N, rt := fun _ _ => False }) (hN : ∀ Γ S, N Γ S → P.nx Γ S) : if c = true then Ws a P else Ws b P := by
  have up : ∀ r : Rs, Ws r { nx := N, rt := fun _ _ => False } → Ws r P := fun r h => by
    cases r with
    | nx Γ S => exact hN Γ S h
    | _ => exact h.elim
  cases c with
  | true => exact up a (ha rfl)
  | false => exact up b (hb rfl)
end PM

namespace PM
open PySem PySem.Spec PyProof.Rows L2 Q2
/-! ### a, b = a list -/
def gTL (n : Nat) (t : MGs) : MG := fun v Γ S => match lstOf S v with
  | some xs => if xs.length = n then noX (t xs Γ S) else .bad
  | none => .bad
theorem pmg_lst {X : Cx} {W : XW} {es : List Expr} {t : MGs} {pos : Pos} {vs : List Nat} {k n : Nat} (hc : X.calm = true) (h : PMGs X W vs es t) (hn : (assignEach es X.env).length = n := by rfl) (hst : (assignEach es X.env).findIdx? (·.1) = none := by rfl) : PMG X W vs (.Tuple es k pos) (gTL n t) := by
  refine pg_imp (pg_lst hc h hn hst) fun w σ H Q ⟨ρ, Γ, S, v, R, G, r, q⟩ => ?_
  unfold gTL at q
  cases e : lstOf S v with
  | none => rw [e] at q; exact q.elim
  | some xs =>
    rw [e] at q
    simp only at q
    obtain ⟨a, ws, rfl, h1, h2⟩ := lst_of R r e
    by_cases hl : xs.length = n
    · rw [if_pos hl] at q
      exact ⟨a, ws, rfl, h1, by rw [← h2.len]; exact hl, ρ, Γ, S, xs, R, G, h2, q.noX⟩
    · rw [if_neg hl] at q
      exact q.elim
theorem wg_tl {Γ : En} {S : Sto} {QE : En → Sto → Prop} {n : Nat} {t : MGs} {v : Va} {xs : List Va} (e : lstOf S v = some xs) (h : xs.length = n) (q : Wp (t xs Γ S) QE) : Wp (gTL n t v Γ S) QE := by
  unfold gTL
  rw [e]
  simp only
  rw [if_pos h]
  exact q.noX
end PM

namespace PM
open PySem PySem.Spec PyProof.Rows L2 Q2
def b_is_integer : MS :=
  (sRet (meAnd (mL fIsi (maC (mV 0) (maC (mC (.ty "int")) maN))) (mNot (mL fIsi (maC (mV 0) (maC (mC (.ty "bool")) maN))))))
def m_is_integer : MF := fnM 1 b_is_integer
def b_is_coordinate : MS :=
  (sRet (meAnd (mCall m_is_integer (maC (mV 0) maN)) (mChain leI leI (m1 negI (mC (.int 1000000000000000000000000000000))) (mV 0) (mC (.int 1000000000000000000000000000000)))))
def m_is_coordinate : MF := fnM 1 b_is_coordinate
def b_is_point : MS :=
  (sSeq (sIf (mtOr (mtNot (mtOf (mL fIsi (maC (mV 0) (maC (mC (.ty "tuple")) maN))))) (mtOf (m2 fNe (mL fLen (maC (mV 0) maN)) (mC (.int 2))))) (sRet (mC (.bl false))) sNil)
    (sRet (meAnd (mCall m_is_coordinate (maC (m2 fIx (mV 0) (mC (.int 0))) maN)) (mCall m_is_coordinate (maC (m2 fIx (mV 0) (mC (.int 1))) maN)))))
def m_is_point : MF := fnM 1 b_is_point
def b_check_number : MS :=
  (sIf (mtOr (mtNot (mtOf (mL fIsi (maC (mV 0) (maC (mC (.ty "int")) maN))))) (mtOr (mtOf (mL fIsi (maC (mV 0) (maC (mC (.ty "bool")) maN)))) (mtNot (mtOf (mChain leI leI (mV 1) (mV 0) (mV 2)))))) sNever sNil)
def m_check_number : MF := fnM 4 b_check_number
def b_check_figures : MS :=
  (sExpr (mCall m_check_number (maC (mV 0) (maC (mC (.int 0)) (maC (mC (.int 40)) (maC (mC (.str "figures")) maN))))))
def m_check_figures : MF := fnM 1 b_check_figures
def b_is_place : MS :=
  (sSeq (sIf (mtNot (mtOf (mCall m_is_point (maC (mV 0) maN)))) (sRet (mC (.bl false))) sNil)
    (sSeq (sSet 2 (m2 shlI (mC (.int 1)) (mV 1)))
    (sRet (meAnd (mChain leI ltI (mC (.int 0)) (m2 fIx (mV 0) (mC (.int 0))) (mV 2)) (mChain leI ltI (mC (.int 0)) (m2 fIx (mV 0) (mC (.int 1))) (mV 2))))))
def m_is_place : MF := fnM 3 b_is_place
def b_check_place : MS :=
  (sIf (mtNot (mtOf (mCall m_is_place (maC (mV 0) (maC (mV 1) maN))))) sNever sNil)
def m_check_place : MF := fnM 3 b_check_place
def b_is_cell : MS :=
  (sSeq (sIf (mtOr (mtNot (mtOf (mL fIsi (maC (mV 0) (maC (mC (.ty "tuple")) maN))))) (mtOf (m2 fNe (mL fLen (maC (mV 0) maN)) (mC (.int 3))))) (sRet (mC (.bl false))) sNil)
    (sSeq (sIf (mtNot (mtOf (mL fAll (maC (mLc (mWalk (mV 0)) (gV 2) mtYes (mCall m_is_integer (maC (mV 2) maN)) [2]) maN)))) (sRet (mC (.bl false))) sNil)
    (sSeq (sAsg (mV 0) (gT 3 (gsC (gV 3) (gsC (gV 4) (gsC (gV 5) gsN)))))
    (sSeq (sIf (mtNot (mtOf (mChain leI leI (mC (.int 0)) (mV 3) (mV 1)))) (sRet (mC (.bl false))) sNil)
    (sSeq (sSet 6 (m2 shlI (mC (.int 1)) (mV 3)))
    (sRet (meAnd (mChain leI ltI (mC (.int 0)) (mV 4) (mV 6)) (mChain leI ltI (mC (.int 0)) (mV 5) (mV 6)))))))))
def m_is_cell : MF := fnM 7 b_is_cell
def b_check_cell : MS :=
  (sIf (mtNot (mtOf (mCall m_is_cell (maC (mV 0) (maC (mV 1) maN))))) sNever sNil)
def m_check_cell : MF := fnM 2 b_check_cell
def b_cell_at : MS :=
  (sSeq (sSet 3 (m2 subI (mV 0) (mV 1)))
    (sRet (mL fTup (maC (mV 1) (maC (m2 shrI (m2 fIx (mV 2) (mC (.int 0))) (mV 3)) (maC (m2 shrI (m2 fIx (mV 2) (mC (.int 1))) (mV 3)) maN))))))
def m_cell_at : MF := fnM 4 b_cell_at
def b_cell_of_place : MS :=
  (sRet (mL fTup (maC (mV 0) (maC (m2 fIx (mV 1) (mC (.int 0))) (maC (m2 fIx (mV 1) (mC (.int 1))) maN)))))
def m_cell_of_place : MF := fnM 2 b_cell_of_place
def b_cell_of_both : MS :=
  (sSeq (sAsg (mV 1) (gT 3 (gsC (gV 3) (gsC (gV 4) (gsC (gV 5) gsN)))))
    (sSeq (sAsg (mCall m_cell_at (maC (mV 0) (maC (mV 3) (maC (mV 2) maN)))) (gT 3 (gsC (gV 6) (gsC (gV 7) (gsC (gV 8) gsN)))))
    (sSeq (sSet 9 (m1 bitsI (m2 orI (m2 xorI (mV 4) (mV 7)) (m2 xorI (mV 5) (mV 8)))))
    (sRet (mL fTup (maC (m2 subI (mV 3) (mV 9)) (maC (m2 shrI (mV 4) (mV 9)) (maC (m2 shrI (mV 5) (mV 9)) maN))))))))
def m_cell_of_both : MF := fnM 10 b_cell_of_both
def b_code_at : MS :=
  (sSeq (sAsg (mV 0) (gT 2 (gsC (gV 1) (gsC (gV 2) gsN))))
    (sRet (m2 fAdd (mL fInt4 (maC (m1 binF (mV 1)) (maC (mC (.int 4)) maN))) (m2 fMul (mC (.int 2)) (mL fInt4 (maC (m1 binF (mV 2)) (maC (mC (.int 4)) maN)))))))
def m_code_at : MF := fnM 3 b_code_at
def b_place_at : MS :=
  (sSeq (sSet 1 (mZf (m1 binF (mV 0)) (maC (m2 fMul (mC (.int 2)) (mC (.int 40))) maN)))
    (sRet (mL fTup (maC (mL fInt2 (maC (m1 (sl2F 1) (mV 1)) (maC (mC (.int 2)) maN))) (maC (mL fInt2 (maC (m1 (sl2F 0) (mV 1)) (maC (mC (.int 2)) maN))) maN)))))
def m_place_at : MF := fnM 2 b_place_at
def b_codes_of : MS :=
  (sSeq (sSet 2 (m2 fMul (mC (.int 2)) (m2 subI (mV 0) (m2 fIx (mV 1) (mC (.int 0))))))
    (sSeq (sSet 3 (m2 shlW (mCall m_code_at (maC (mL fTup (maC (m2 fIx (mV 1) (mC (.int 1))) (maC (m2 fIx (mV 1) (mC (.int 2))) maN))) maN)) (mV 2)))
    (sRet (mL fTup (maC (mV 3) (maC (m2 subI (m2 fAdd (mV 3) (m2 shlI (mC (.int 1)) (mV 2))) (mC (.int 1))) maN))))))
def m_codes_of : MF := fnM 4 b_codes_of
def b_code_of : MS :=
  (sSeq (sExpr (mCall m_check_figures (maC (mV 0) maN)))
    (sSeq (sExpr (mCall m_check_place (maC (mV 1) (maC (mV 0) (maC (mC (.str "place")) maN)))))
    (sRet (mCall m_code_at (maC (mV 1) maN)))))
def m_code_of : MF := fnM 2 b_code_of
def b_check_code : MS :=
  (sExpr (mCall m_check_number (maC (mV 0) (maC (mC (.int 0)) (maC (m2 subI (m2 shlI (mC (.int 1)) (m2 fMul (mC (.int 2)) (mV 1))) (mC (.int 1))) (maC (mC (.str "code")) maN))))))
def m_check_code : MF := fnM 2 b_check_code
def b_place_of : MS :=
  (sSeq (sExpr (mCall m_check_figures (maC (mV 0) maN)))
    (sSeq (sExpr (mCall m_check_code (maC (mV 1) (maC (mV 0) maN))))
    (sRet (mCall m_place_at (maC (mV 1) maN)))))
def m_place_of : MF := fnM 2 b_place_of
def b_stretch_of : MS :=
  (sSeq (sExpr (mCall m_check_figures (maC (mV 0) maN)))
    (sSeq (sExpr (mCall m_check_cell (maC (mV 1) (maC (mV 0) maN))))
    (sRet (mCall m_codes_of (maC (mV 0) (maC (mV 1) maN))))))
def m_stretch_of : MF := fnM 2 b_stretch_of
def b_common_cell : MS :=
  (sSeq (sExpr (mCall m_check_figures (maC (mV 0) maN)))
    (sSeq (sExpr (mCall m_check_place (maC (mV 1) (maC (mV 0) (maC (mC (.str "place")) maN)))))
    (sSeq (sExpr (mCall m_check_place (maC (mV 2) (maC (mV 0) (maC (mC (.str "other")) maN)))))
    (sRet (mCall m_cell_of_both (maC (mV 0) (maC (mCall m_cell_of_place (maC (mV 0) (maC (mV 1) maN))) (maC (mV 2) maN))))))))
def m_common_cell : MF := fnM 3 b_common_cell
def b_law_mixed : MS :=
  (sSeq (sSet 2 (m2 modI (mL fInt (maC (m2 fMul (m2 fAdd (m2 modI (mL fInt (maC (mV 0) maN)) (mC (.int 2147483646))) (mC (.int 1))) (m2 fAdd (m2 fMul (mV 1) (mC (.int 7901))) (mC (.int 104723)))) maN)) (mC (.int 2147483647))))
    (sSeq (sSet 2 (m2 modI (mL fInt (maC (m2 fMul (m2 fAdd (mV 2) (m2 fMul (m2 modI (mL fInt (maC (m2 divI (mV 0) (mC (.int 2147483646))) maN)) (mC (.int 1000003))) (m2 fAdd (mV 1) (mC (.int 37))))) (mC (.int 48271))) maN)) (mC (.int 2147483629))))
    (sSeq (sSet 2 (m2 modI (mL fInt (maC (m2 fMul (mV 2) (m2 fAdd (m2 fAdd (m2 divI (mV 2) (mC (.int 1019))) (mC (.int 69621))) (mV 1))) maN)) (mC (.int 2147483587))))
    (sRet (m2 modI (mL fInt (maC (m2 fMul (mV 2) (m2 fAdd (m2 divI (mV 2) (mC (.int 2003))) (mC (.int 40692)))) maN)) (mC (.int 2147483563)))))))
def m_law_mixed : MF := fnM 3 b_law_mixed
def b_law_source : MS :=
  (sSeq (sSet 0 (mIf (mtOf (m2 geI (mV 0) (mC (.int 0)))) (mV 0) (m2 subI (m2 subI (mC (.int 0)) (m2 fMul (mC (.int 7)) (mV 0))) (mC (.int 3)))))
    (sRet (mL fLst (maC (m2 fMul (mV 0) (mL fInt (maC (m2 geI (mV 0) (m2 powI (mC (.int 10)) (mC (.int 18)))) maN))) (maC (mV 0) (maC (mC (.int 0)) maN))))))
def m_law_source : MF := fnM 1 b_law_source
def b_law_take : MS :=
  (sSeq (sIf (mtOf (m2 gtI (m2 fIx (mV 0) (mC (.int 0))) (mC (.int 0)))) (sSeq (sSet 2 (m2 modI (mL fInt (maC (m2 fIx (mV 0) (mC (.int 0))) maN)) (mV 1)))
    (sSeq (sAsg (m2 divI (m2 fIx (mV 0) (mC (.int 0))) (mV 1)) (gSubM (mV 0) (mC (.int 0))))
    (sRet (mV 2)))) sNil)
    (sSeq (sAsg (m2 fAdd (m2 fIx (mV 0) (mC (.int 2))) (mC (.int 1))) (gSubM (mV 0) (mC (.int 2))))
    (sRet (m2 modI (mL fInt (maC (mCall m_law_mixed (maC (m2 fIx (mV 0) (mC (.int 1))) (maC (m2 fIx (mV 0) (mC (.int 2))) maN))) maN)) (mV 1)))))
def m_law_take : MF := fnM 3 b_law_take
def b_law_pick : MS :=
  (sRet (m2 fIx (mV 1) (mCall m_law_take (maC (mV 0) (maC (mL fLen (maC (mV 1) maN)) maN)))))
def m_law_pick : MF := fnM 2 b_law_pick
def b_law_code : MS :=
  (sSeq (sSet 2 (mC (.int 0)))
    (sSeq (sFor (mRng1 (maC (mV 0) maN)) (gV 3) (sSeq (sSet 4 (m2 subI (m2 subI (mV 0) (mC (.int 1))) (mV 3)))
    (sSet 2 (m2 fAdd (m2 fAdd (m2 fMul (mC (.int 4)) (mV 2)) (m2 modI (mL fInt (maC (m2 shrI (m2 fIx (mV 1) (mC (.int 0))) (mV 4)) maN)) (mC (.int 2)))) (m2 fMul (mC (.int 2)) (m2 modI (mL fInt (maC (m2 shrI (m2 fIx (mV 1) (mC (.int 1))) (mV 4)) maN)) (mC (.int 2))))))))
    (sRet (mV 2))))
def m_law_code : MF := fnM 5 b_law_code
def b_law_common : MS :=
  (sSeq (sFor (mRng1 (maC (m2 fAdd (mV 0) (mC (.int 1))) maN)) (gV 3) (sSeq (sSet 4 (mL tupL (maC (mLc (mWalk (mV 1)) (gV 5) mtYes (m2 shrI (mV 5) (mV 3)) [5]) maN)))
    (sIf (mtOf (m2 fEq (mV 4) (mL tupL (maC (mLc (mWalk (mV 2)) (gV 5) mtYes (m2 shrI (mV 5) (mV 3)) [5]) maN)))) (sRet (m2 fAdd (mL fTup (maC (m2 subI (mV 0) (mV 3)) maN)) (mV 4))) sNil)))
    (sRet (mC .non)))
def m_law_common : MF := fnM 6 b_law_common
def b_law_all_right : MS :=
  (sSeq (sPar 1 2 (maC (m2 shlI (mC (.int 1)) (mV 0)) (maC (mL fLst maN) maN)))
    (sSeq (sFor (mRng1 (maC (mV 1) maN)) (gV 3) (sFor (mRng1 (maC (mV 1) maN)) (gV 4) (sSeq (sExpr (mApp (mV 2) (maC (mCall m_code_of (maC (mV 0) (maC (mL fTup (maC (mV 3) (maC (mV 4) maN))) maN))) maN)))
    (sIf (mtOr (mtOf (m2 fNe (m2 fIx (mV 2) (m1 negI (mC (.int 1)))) (mCall m_law_code (maC (mV 0) (maC (mL fTup (maC (mV 3) (maC (mV 4) maN))) maN))))) (mtOf (m2 fNe (mCall m_place_of (maC (mV 0) (maC (m2 fIx (mV 2) (m1 negI (mC (.int 1)))) maN))) (mL fTup (maC (mV 3) (maC (mV 4) maN)))))) (sRet (mC (.bl false))) sNil))))
    (sSeq (sIf (mtOf (m2 fNe (mL fSort (maC (mV 2) maN)) (mLRng1 (m2 fMul (mV 1) (mV 1))))) (sRet (mC (.bl false))) sNil)
    (sSeq (sFor (mRng1 (maC (m2 fAdd (mV 0) (mC (.int 1))) maN)) (gV 5) (sFor (mRng1 (maC (m2 shlI (mC (.int 1)) (m2 fMul (mC (.int 2)) (mV 5))) maN)) (gV 6) (sSeq (sPar 7 8 (maC (m2 shrI (mV 6) (mV 5)) (maC (m2 modI (mL fInt (maC (mV 6) maN)) (m2 shlI (mC (.int 1)) (mV 5))) maN)))
    (sSeq (sPar 9 10 (maC (m2 shrI (mV 1) (mV 5)) (maC (mL fLst maN) maN)))
    (sSeq (sFor (mRng2 (maC (m2 fMul (mV 9) (mV 7)) (maC (m2 fAdd (m2 fMul (mV 9) (mV 7)) (mV 9)) maN))) (gV 3) (sSeq (sSet 11 (m2 fAdd (m2 fMul (mV 1) (mV 3)) (m2 fMul (mV 9) (mV 8))))
    (sSet 10 (m2 fAdd (mV 10) (mSl fSl (mV 2) (some (mV 11)) (some (m2 fAdd (mV 11) (mV 9))))))))
    (sSeq (sIf (mtOf (m2 fNe (mCall m_stretch_of (maC (mV 0) (maC (mL fTup (maC (mV 5) (maC (mV 7) (maC (mV 8) maN)))) maN))) (mL fTup (maC (mL fMin (maC (mV 10) maN)) (maC (mL fMax (maC (mV 10) maN)) maN))))) (sRet (mC (.bl false))) sNil)
    (sIf (mtOf (m2 fNe (m2 subI (mL fMax (maC (mV 10) maN)) (mL fMin (maC (mV 10) maN))) (m2 subI (mL fLen (maC (mV 10) maN)) (mC (.int 1))))) (sRet (mC (.bl false))) sNil)))))))
    (sRet (mC (.bl true)))))))
def m_law_all_right : MF := fnM 12 b_law_all_right
def b_law_right : MS :=
  (sSeq (sSet 1 (mCall m_law_pick (maC (mV 0) (maC (mL fLst (maC (mC (.int 1)) (maC (mC (.int 2)) (maC (mC (.int 3)) (maC (mC (.int 5)) (maC (mC (.int 17)) (maC (mC (.int 39)) (maC (mC (.int 40)) (maC (mCall m_law_take (maC (mV 0) (maC (mC (.int 41)) maN))) maN))))))))) maN))))
    (sSeq (sSet 2 (m2 shlI (mC (.int 1)) (mV 1)))
    (sSeq (sAsg (mLc (mRng1 (maC (mC (.int 2)) maN)) (gV 5) mtYes (mL fTup (maC (mCall m_law_take (maC (mV 0) (maC (mV 2) maN))) (maC (mCall m_law_take (maC (mV 0) (maC (mV 2) maN))) maN))) [5]) (gTL 2 (gsC (gV 3) (gsC (gV 4) gsN))))
    (sSeq (sIf (mtOf (m2 fEq (mCall m_law_take (maC (mV 0) (maC (mC (.int 2)) maN))) (mC (.int 0)))) (sSeq (sSet 6 (m2 shlI (mC (.int 1)) (mCall m_law_take (maC (mV 0) (maC (m2 fAdd (mV 1) (mC (.int 1))) maN)))))
    (sSet 4 (mL tupL (maC (mLc (mWalk (mV 3)) (gV 7) mtYes (mL fMin (maC (m2 subI (mV 2) (mC (.int 1))) (maC (m2 fAdd (m2 fMul (m2 divI (mV 7) (mV 6)) (mV 6)) (mCall m_law_take (maC (mV 0) (maC (mV 6) maN)))) maN))) [7]) maN)))) sNil)
    (sSeq (sSet 8 (mCall m_law_code (maC (mV 1) (maC (mV 3) maN))))
    (sSeq (sIf (mtOr (mtOf (m2 fNe (mCall m_code_of (maC (mV 1) (maC (mV 3) maN))) (mV 8))) (mtOf (m2 fNe (mCall m_place_of (maC (mV 1) (maC (mV 8) maN))) (mV 3)))) (sRet (mC (.bl false))) sNil)
    (sSeq (sIf (mtOf (m2 fNe (mCallKw 0 2 [1, 0] m_code_of maN (maC (mV 4) (maC (mV 1) maN))) (mCall m_law_code (maC (mV 1) (maC (mV 4) maN))))) (sRet (mC (.bl false))) sNil)
    (sSeq (sIf (mtOf (m2 fNe (mCallKw 0 2 [1, 0] m_place_of maN (maC (mV 8) (maC (mV 1) maN))) (mV 3))) (sRet (mC (.bl false))) sNil)
    (sSeq (sIf (mtOf (m2 fNe (mCall m_common_cell (maC (mV 1) (maC (mV 3) (maC (mV 4) maN)))) (mCall m_law_common (maC (mV 1) (maC (mV 3) (maC (mV 4) maN)))))) (sRet (mC (.bl false))) sNil)
    (sSeq (sIf (mtOf (m2 fNe (mCall m_common_cell (maC (mV 1) (maC (mV 3) (maC (mV 3) maN)))) (m2 fAdd (mL fTup (maC (mV 1) maN)) (mV 3)))) (sRet (mC (.bl false))) sNil)
    (sSeq (sSet 9 (mCall m_law_take (maC (mV 0) (maC (m2 fAdd (mV 1) (mC (.int 1))) maN))))
    (sSeq (sSet 10 (mL fTup (maC (mV 9) (maC (m2 shrI (m2 fIx (mV 3) (mC (.int 0))) (m2 subI (mV 1) (mV 9))) (maC (m2 shrI (m2 fIx (mV 3) (mC (.int 1))) (m2 subI (mV 1) (mV 9))) maN)))))
    (sSeq (sSet 11 (m2 shlI (mC (.int 1)) (m2 subI (mV 1) (mV 9))))
    (sSeq (sSet 12 (mCall m_law_code (maC (mV 1) (maC (mL fTup (maC (m2 fMul (m2 fIx (mV 10) (mC (.int 1))) (mV 11)) (maC (m2 fMul (m2 fIx (mV 10) (mC (.int 2))) (mV 11)) maN))) maN))))
    (sSeq (sSet 13 (mCall m_law_code (maC (mV 1) (maC (mL fTup (maC (m2 subI (m2 fAdd (m2 fMul (m2 fIx (mV 10) (mC (.int 1))) (mV 11)) (mV 11)) (mC (.int 1))) (maC (m2 subI (m2 fAdd (m2 fMul (m2 fIx (mV 10) (mC (.int 2))) (mV 11)) (mV 11)) (mC (.int 1))) maN))) maN))))
    (sSeq (sIf (mtOr (mtOf (m2 fNe (mCall m_stretch_of (maC (mV 1) (maC (mV 10) maN))) (mL fTup (maC (mV 12) (maC (mV 13) maN))))) (mtOf (m2 fNe (m2 subI (mV 13) (mV 12)) (m2 subI (m2 fMul (mV 11) (mV 11)) (mC (.int 1)))))) (sRet (mC (.bl false))) sNil)
    (sSeq (sIf (mtOf (m2 fNe (mCall m_common_cell (maC (mV 1) (maC (mV 4) (maC (mV 3) maN)))) (mCallKw 0 3 [2, 1, 0] m_common_cell maN (maC (mV 4) (maC (mV 3) (maC (mV 1) maN)))))) (sRet (mC (.bl false))) sNil)
    (sRet (mChain leI leI (mV 12) (mV 8) (mV 13))))))))))))))))))))
def m_law_right : MF := fnM 14 b_law_right
def b_law : MS :=
  (sSeq (sFor (mWalk (m2 fAdd (mSl fSl (mV 0) none (some (mC (.int 4)))) (mL fLst (maC (mC (.int 0)) maN)))) (gV 1) (sSeq (sSet 2 (mCall m_law_source (maC (mV 1) maN)))
    (sFor (mRng1 (maC (mC (.int 10)) maN)) (gV 3) (sIf (mtNot (mtOf (mCall m_law_right (maC (mV 2) maN)))) (sRet (mC (.bl false))) sNil))))
    (sRet (m2 fEq (mLc (mRng1 (maC (mC (.int 4)) maN)) (gV 4) (mtNot (mtOf (mCall m_law_all_right (maC (mV 4) maN)))) (mV 4) [4]) (mL fLst maN))))
def m_law : MF := fnM 5 b_law
end PM

namespace PM
open PySem PySem.Spec PyProof.Rows L2 Q2
structure Top (P : Program) (w : World) (K : PySem.W.Frag) (mg : Str → Option Value) (base : Heap) where
  f_is_integer : Addr
  fd_is_integer : FuncData
  F_is_integer : FnP K "is_integer" s_is_integer f_is_integer fd_is_integer
  b_is_integer : Binds K fd_is_integer ["value"] []
  m_is_integer : mg "is_integer" = some (.ref f_is_integer)
  f_is_coordinate : Addr
  fd_is_coordinate : FuncData
  F_is_coordinate : FnP K "is_coordinate" s_is_coordinate f_is_coordinate fd_is_coordinate
  b_is_coordinate : Binds K fd_is_coordinate ["value"] []
  m_is_coordinate : mg "is_coordinate" = some (.ref f_is_coordinate)
  f_is_point : Addr
  fd_is_point : FuncData
  F_is_point : FnP K "is_point" s_is_point f_is_point fd_is_point
  b_is_point : Binds K fd_is_point ["value"] []
  m_is_point : mg "is_point" = some (.ref f_is_point)
  f_check_number : Addr
  fd_check_number : FuncData
  F_check_number : FnP K "check_number" s_check_number f_check_number fd_check_number
  b_check_number : Binds K fd_check_number ["value", "least", "most", "name"] []
  m_check_number : mg "check_number" = some (.ref f_check_number)
  f_check_figures : Addr
  fd_check_figures : FuncData
  F_check_figures : FnP K "check_figures" s_check_figures f_check_figures fd_check_figures
  b_check_figures : Binds K fd_check_figures ["value"] []
  m_check_figures : mg "check_figures" = some (.ref f_check_figures)
  f_is_place : Addr
  fd_is_place : FuncData
  F_is_place : FnP K "is_place" s_is_place f_is_place fd_is_place
  b_is_place : Binds K fd_is_place ["value", "figures"] []
  m_is_place : mg "is_place" = some (.ref f_is_place)
  f_check_place : Addr
  fd_check_place : FuncData
  F_check_place : FnP K "check_place" s_check_place f_check_place fd_check_place
  b_check_place : Binds K fd_check_place ["value", "figures", "name"] []
  m_check_place : mg "check_place" = some (.ref f_check_place)
  f_is_cell : Addr
  fd_is_cell : FuncData
  F_is_cell : FnP K "is_cell" s_is_cell f_is_cell fd_is_cell
  b_is_cell : Binds K fd_is_cell ["value", "figures"] []
  m_is_cell : mg "is_cell" = some (.ref f_is_cell)
  f_check_cell : Addr
  fd_check_cell : FuncData
  F_check_cell : FnP K "check_cell" s_check_cell f_check_cell fd_check_cell
  b_check_cell : Binds K fd_check_cell ["value", "figures"] []
  m_check_cell : mg "check_cell" = some (.ref f_check_cell)
  f_cell_at : Addr
  fd_cell_at : FuncData
  F_cell_at : FnP K "cell_at" s_cell_at f_cell_at fd_cell_at
  b_cell_at : Binds K fd_cell_at ["figures", "level", "place"] []
  m_cell_at : mg "cell_at" = some (.ref f_cell_at)
  f_cell_of_place : Addr
  fd_cell_of_place : FuncData
  F_cell_of_place : FnP K "cell_of_place" s_cell_of_place f_cell_of_place fd_cell_of_place
  b_cell_of_place : Binds K fd_cell_of_place ["figures", "place"] []
  m_cell_of_place : mg "cell_of_place" = some (.ref f_cell_of_place)
  f_cell_of_both : Addr
  fd_cell_of_both : FuncData
  F_cell_of_both : FnP K "cell_of_both" s_cell_of_both f_cell_of_both fd_cell_of_both
  b_cell_of_both : Binds K fd_cell_of_both ["figures", "cell", "place"] []
  m_cell_of_both : mg "cell_of_both" = some (.ref f_cell_of_both)
  f_code_at : Addr
  fd_code_at : FuncData
  F_code_at : FnP K "code_at" s_code_at f_code_at fd_code_at
  b_code_at : Binds K fd_code_at ["place"] []
  m_code_at : mg "code_at" = some (.ref f_code_at)
  f_place_at : Addr
  fd_place_at : FuncData
  F_place_at : FnP K "place_at" s_place_at f_place_at fd_place_at
  b_place_at : Binds K fd_place_at ["code"] []
  m_place_at : mg "place_at" = some (.ref f_place_at)
  f_codes_of : Addr
  fd_codes_of : FuncData
  F_codes_of : FnP K "codes_of" s_codes_of f_codes_of fd_codes_of
  b_codes_of : Binds K fd_codes_of ["figures", "cell"] []
  m_codes_of : mg "codes_of" = some (.ref f_codes_of)
  f_code_of : Addr
  fd_code_of : FuncData
  F_code_of : FnP K "code_of" s_code_of f_code_of fd_code_of
  b_code_of : Binds K fd_code_of ["figures", "place"] []
  m_code_of : mg "code_of" = some (.ref f_code_of)
  f_check_code : Addr
  fd_check_code : FuncData
  F_check_code : FnP K "check_code" s_check_code f_check_code fd_check_code
  b_check_code : Binds K fd_check_code ["value", "figures"] []
  m_check_code : mg "check_code" = some (.ref f_check_code)
  f_place_of : Addr
  fd_place_of : FuncData
  F_place_of : FnP K "place_of" s_place_of f_place_of fd_place_of
  b_place_of : Binds K fd_place_of ["figures", "code"] []
  m_place_of : mg "place_of" = some (.ref f_place_of)
  f_stretch_of : Addr
  fd_stretch_of : FuncData
  F_stretch_of : FnP K "stretch_of" s_stretch_of f_stretch_of fd_stretch_of
  b_stretch_of : Binds K fd_stretch_of ["figures", "square"] []
  m_stretch_of : mg "stretch_of" = some (.ref f_stretch_of)
  f_common_cell : Addr
  fd_common_cell : FuncData
  F_common_cell : FnP K "common_cell" s_common_cell f_common_cell fd_common_cell
  b_common_cell : Binds K fd_common_cell ["figures", "place", "other"] []
  m_common_cell : mg "common_cell" = some (.ref f_common_cell)
  f_law_mixed : Addr
  fd_law_mixed : FuncData
  F_law_mixed : FnP K "_law_mixed" s_law_mixed f_law_mixed fd_law_mixed
  b_law_mixed : Binds K fd_law_mixed ["_law_cell", "_law_draw"] []
  m_law_mixed : mg "_law_mixed" = some (.ref f_law_mixed)
  f_law_source : Addr
  fd_law_source : FuncData
  F_law_source : FnP K "_law_source" s_law_source f_law_source fd_law_source
  b_law_source : Binds K fd_law_source ["_law_cell"] []
  m_law_source : mg "_law_source" = some (.ref f_law_source)
  f_law_take : Addr
  fd_law_take : FuncData
  F_law_take : FnP K "_law_take" s_law_take f_law_take fd_law_take
  b_law_take : Binds K fd_law_take ["_law_source_here", "_law_bound"] []
  m_law_take : mg "_law_take" = some (.ref f_law_take)
  f_law_pick : Addr
  fd_law_pick : FuncData
  F_law_pick : FnP K "_law_pick" s_law_pick f_law_pick fd_law_pick
  b_law_pick : Binds K fd_law_pick ["_law_source_here", "_law_some"] []
  m_law_pick : mg "_law_pick" = some (.ref f_law_pick)
  f_law_code : Addr
  fd_law_code : FuncData
  F_law_code : FnP K "_law_code" s_law_code f_law_code fd_law_code
  b_law_code : Binds K fd_law_code ["_law_size", "_law_spot"] []
  m_law_code : mg "_law_code" = some (.ref f_law_code)
  f_law_common : Addr
  fd_law_common : FuncData
  F_law_common : FnP K "_law_common" s_law_common f_law_common fd_law_common
  b_law_common : Binds K fd_law_common ["_law_size", "_law_one", "_law_second"] []
  m_law_common : mg "_law_common" = some (.ref f_law_common)
  f_law_all_right : Addr
  fd_law_all_right : FuncData
  F_law_all_right : FnP K "_law_all_right" s_law_all_right f_law_all_right fd_law_all_right
  b_law_all_right : Binds K fd_law_all_right ["_law_size"] []
  m_law_all_right : mg "_law_all_right" = some (.ref f_law_all_right)
  f_law_right : Addr
  fd_law_right : FuncData
  F_law_right : FnP K "_law_right" s_law_right f_law_right fd_law_right
  b_law_right : Binds K fd_law_right ["_law_source_here"] []
  m_law_right : mg "_law_right" = some (.ref f_law_right)
  f_law : Addr
  fd_law : FuncData
  F_law : FnP K "law" s_law f_law fd_law
  b_law : Binds K fd_law ["_law_script"] []
  m_law : mg "law" = some (.ref f_law)
  t_FARTHEST_COORDINATE : Tok
  c_FARTHEST_COORDINATE : mg "FARTHEST_COORDINATE" = some (.int 1000000000000000000000000000000 t_FARTHEST_COORDINATE)
  t_MOST_FIGURES : Tok
  c_MOST_FIGURES : mg "MOST_FIGURES" = some (.int 40 t_MOST_FIGURES)
  n_all : mg "all" = none
  n_bool : mg "bool" = none
  n_int : mg "int" = none
  n_isinstance : mg "isinstance" = none
  n_len : mg "len" = none
  n_list : mg "list" = none
  n_max : mg "max" = none
  n_min : mg "min" = none
  n_range : mg "range" = none
  n_sorted : mg "sorted" = none
  n_tuple : mg "tuple" = none
section
variable {P : Program} {w : World} {K : PySem.W.Frag} {mg : Str → Option Value} {base : Heap}
theorem hu65 {A : Around} {k : Nat} (hr : Room k A) : A.units + 65 < cLine := by have := hr.un; omega
theorem KB0 (Z : Top P w K mg base) : KBinds K Z.fd_common_cell ["figures", "place", "other"] ["other", "place", "figures"] (permG 0 3 [2, 1, 0]) (permG 0 3 [2, 1, 0]) :=
  kbn_of Z.F_common_cell 0 3 [2, 1, 0] (by decide) fun _ _ _ _ _ _ us ws hu hw => match us, ws, hu, hw with | [], [_, _, _], _, _ => rfl
theorem KB1 (Z : Top P w K mg base) : KBinds K Z.fd_place_of ["figures", "code"] ["code", "figures"] (permG 0 2 [1, 0]) (permG 0 2 [1, 0]) :=
  kbn_of Z.F_place_of 0 2 [1, 0] (by decide) fun _ _ _ _ _ _ us ws hu hw => match us, ws, hu, hw with | [], [_, _], _, _ => rfl
theorem KB2 (Z : Top P w K mg base) : KBinds K Z.fd_code_of ["figures", "place"] ["place", "figures"] (permG 0 2 [1, 0]) (permG 0 2 [1, 0]) :=
  kbn_of Z.F_code_of 0 2 [1, 0] (by decide) fun _ _ _ _ _ _ us ws hu hw => match us, ws, hu, hw with | [], [_, _], _, _ => rfl
abbrev N_is_integer : List Str := ["value"]
theorem sc_is_integer : FnScope N_is_integer ["value"] (defScope s_is_integer) := ⟨rfl, rfl, rfl, by decide +kernel, rfl, by decide +kernel, by decide +kernel⟩
theorem d_is_integer (Z : Top P w K mg base) : Dx P w K mg base 1 "is_integer" ["value"] m_is_integer Z.f_is_integer Z.fd_is_integer :=
  ⟨fn_ok (N := N_is_integer) (ps := ["value"]) (k := 0) (m := b_is_integer) Z.F_is_integer sc_is_integer fun cdv A outer s H E W hr tk => by
      have PO := passes_of (X := cxOf (L2.CX P w) P w K mg base N_is_integer "is_integer" (defScope s_is_integer) Z.f_is_integer cdv A outer s H E) rfl
      exact (pmss_one (pms_ret (pm_and (pm_callB cIsi (by rfl) Z.n_isinstance (by decide +kernel) (pma_cons (pm_var (pv 0)) (pma_cons (pm_const (w := .ty "int") (pe_bltn (v := .ty "int") (by rfl) Z.n_int (by decide +kernel) rfl) (fun _ _ => rfl)) pma_nil))) (pm_one (pm_not (pm_callB cIsi (by rfl) Z.n_isinstance (by decide +kernel) (pma_cons (pm_var (pv 0)) (pma_cons (pm_const (w := .ty "bool") (pe_bltn (v := .ty "bool") (by rfl) Z.n_bool (by decide +kernel) rfl) (fun _ _ => rfl)) pma_nil)))))))), Z.F_is_integer.kp, Z.b_is_integer, Z.m_is_integer⟩
abbrev N_is_coordinate : List Str := ["value"]
theorem sc_is_coordinate : FnScope N_is_coordinate ["value"] (defScope s_is_coordinate) := ⟨rfl, rfl, rfl, by decide +kernel, rfl, by decide +kernel, by decide +kernel⟩
theorem d_is_coordinate (Z : Top P w K mg base) : Dx P w K mg base 2 "is_coordinate" ["value"] m_is_coordinate Z.f_is_coordinate Z.fd_is_coordinate :=
  ⟨fn_ok (N := N_is_coordinate) (ps := ["value"]) (k := 1) (m := b_is_coordinate) Z.F_is_coordinate sc_is_coordinate fun cdv A outer s H E W hr tk => by
      have PO := passes_of (X := cxOf (L2.CX P w) P w K mg base N_is_coordinate "is_coordinate" (defScope s_is_coordinate) Z.f_is_coordinate cdv A outer s H E) rfl
      exact (pmss_one (pms_ret (pm_and (pm_call (d_is_integer Z) tk (hr.mono (by decide)) (by rfl) (pma_cons (pm_var (pv 0)) pma_nil) rfl (hn := ArgN.len (n := 1) (.cons .nil))) (pm_one (pm_chain oLe oLe (pm_neg (pm_const (w := .int 1000000000000000000000000000000) (pe_glob (v := .int 1000000000000000000000000000000) (by rfl) Z.c_FARTHEST_COORDINATE ⟨_, rfl⟩) (fun _ _ => rfl))) (pm_var (pv 0)) (pm_const (w := .int 1000000000000000000000000000000) (pe_glob (v := .int 1000000000000000000000000000000) (by rfl) Z.c_FARTHEST_COORDINATE ⟨_, rfl⟩) (fun _ _ => rfl))))))), Z.F_is_coordinate.kp, Z.b_is_coordinate, Z.m_is_coordinate⟩
abbrev N_is_point : List Str := ["value"]
theorem sc_is_point : FnScope N_is_point ["value"] (defScope s_is_point) := ⟨rfl, rfl, rfl, by decide +kernel, rfl, by decide +kernel, by decide +kernel⟩
theorem d_is_point (Z : Top P w K mg base) : Dx P w K mg base 3 "is_point" ["value"] m_is_point Z.f_is_point Z.fd_is_point :=
  ⟨fn_ok (N := N_is_point) (ps := ["value"]) (k := 2) (m := b_is_point) Z.F_is_point sc_is_point fun cdv A outer s H E W hr tk => by
      have PO := passes_of (X := cxOf (L2.CX P w) P w K mg base N_is_point "is_point" (defScope s_is_point) Z.f_is_point cdv A outer s H E) rfl
      exact (pmss_cons (pms_if (PW.pt (pmw_or (pmt_not (pmt_val (pm_callB cIsi (by rfl) Z.n_isinstance (by decide +kernel) (pma_cons (pm_var (pv 0)) (pma_cons (pm_const (w := .ty "tuple") (pe_bltn (v := .ty "tuple") (by rfl) Z.n_tuple (by decide +kernel) rfl) (fun _ _ => rfl)) pma_nil))))) (pmw_or1 (pmt_cmp (oNe hr.units) (pm_callB cLen (by rfl) Z.n_len PySem.boot_len (pma_cons (pm_var (pv 0)) pma_nil)) pm_int (nomark _))))) (pmss_one (pms_ret pm_bl)) pmss_nil)
        (pmss_one (pms_ret (pm_and (pm_call (d_is_coordinate Z) tk (hr.mono (by decide)) (by rfl) (pma_cons (pm_ix iIx (pm_var (pv 0)) pm_int (fun _ _ => rfl)) pma_nil) rfl (hn := ArgN.len (n := 1) (.cons .nil))) (pm_one (pm_call (d_is_coordinate Z) tk (hr.mono (by decide)) (by rfl) (pma_cons (pm_ix iIx (pm_var (pv 0)) pm_int (fun _ _ => rfl)) pma_nil) rfl (hn := ArgN.len (n := 1) (.cons .nil)))))))), Z.F_is_point.kp, Z.b_is_point, Z.m_is_point⟩
abbrev N_check_number : List Str := ["value", "least", "most", "name"]
theorem sc_check_number : FnScope N_check_number ["value", "least", "most", "name"] (defScope s_check_number) := ⟨rfl, rfl, rfl, by decide +kernel, rfl, by decide +kernel, by decide +kernel⟩
theorem d_check_number (Z : Top P w K mg base) : Dx P w K mg base 1 "check_number" ["value", "least", "most", "name"] m_check_number Z.f_check_number Z.fd_check_number :=
  ⟨fn_ok (N := N_check_number) (ps := ["value", "least", "most", "name"]) (k := 0) (m := b_check_number) Z.F_check_number sc_check_number fun cdv A outer s H E W hr tk => by
      have PO := passes_of (X := cxOf (L2.CX P w) P w K mg base N_check_number "check_number" (defScope s_check_number) Z.f_check_number cdv A outer s H E) rfl
      exact (pmss_one (pms_if (PW.pt (pmw_or (pmt_not (pmt_val (pm_callB cIsi (by rfl) Z.n_isinstance (by decide +kernel) (pma_cons (pm_var (pv 0)) (pma_cons (pm_const (w := .ty "int") (pe_bltn (v := .ty "int") (by rfl) Z.n_int (by decide +kernel) rfl) (fun _ _ => rfl)) pma_nil))))) (pmw_or (pmt_val (pm_callB cIsi (by rfl) Z.n_isinstance (by decide +kernel) (pma_cons (pm_var (pv 0)) (pma_cons (pm_const (w := .ty "bool") (pe_bltn (v := .ty "bool") (by rfl) Z.n_bool (by decide +kernel) rfl) (fun _ _ => rfl)) pma_nil)))) (pmw_or1 (pmt_not (pmt_chain oLe oLe (pm_var (pv 1)) (pm_var (pv 0)) (pm_var (pv 2)))))))) pmss_never pmss_nil)), Z.F_check_number.kp, Z.b_check_number, Z.m_check_number⟩
abbrev N_check_figures : List Str := ["value"]
theorem sc_check_figures : FnScope N_check_figures ["value"] (defScope s_check_figures) := ⟨rfl, rfl, rfl, by decide +kernel, rfl, by decide +kernel, by decide +kernel⟩
theorem d_check_figures (Z : Top P w K mg base) : Dx P w K mg base 2 "check_figures" ["value"] m_check_figures Z.f_check_figures Z.fd_check_figures :=
  ⟨fn_ok (N := N_check_figures) (ps := ["value"]) (k := 1) (m := b_check_figures) Z.F_check_figures sc_check_figures fun cdv A outer s H E W hr tk => by
      have PO := passes_of (X := cxOf (L2.CX P w) P w K mg base N_check_figures "check_figures" (defScope s_check_figures) Z.f_check_figures cdv A outer s H E) rfl
      exact (pmss_one (pms_expr (pm_call (d_check_number Z) tk (hr.mono (by decide)) (by rfl) (pma_cons (pm_var (pv 0)) (pma_cons pm_int (pma_cons (pm_const (w := .int 40) (pe_glob (v := .int 40) (by rfl) Z.c_MOST_FIGURES ⟨_, rfl⟩) (fun _ _ => rfl)) (pma_cons pm_str pma_nil)))) rfl (hn := ArgN.len (n := 4) (.cons (.cons (.cons (.cons .nil)))))))), Z.F_check_figures.kp, Z.b_check_figures, Z.m_check_figures⟩
abbrev N_is_place : List Str := ["value", "figures", "side"]
theorem sc_is_place : FnScope N_is_place ["value", "figures"] (defScope s_is_place) := ⟨rfl, rfl, rfl, by decide +kernel, rfl, by decide +kernel, by decide +kernel⟩
theorem d_is_place (Z : Top P w K mg base) : Dx P w K mg base 4 "is_place" ["value", "figures"] m_is_place Z.f_is_place Z.fd_is_place :=
  ⟨fn_ok (N := N_is_place) (ps := ["value", "figures"]) (k := 3) (m := b_is_place) Z.F_is_place sc_is_place fun cdv A outer s H E W hr tk => by
      have PO := passes_of (X := cxOf (L2.CX P w) P w K mg base N_is_place "is_place" (defScope s_is_place) Z.f_is_place cdv A outer s H E) rfl
      exact (pmss_cons (pms_if (pmt_not (pmt_val (pm_call (d_is_point Z) tk (hr.mono (by decide)) (by rfl) (pma_cons (pm_var (pv 0)) pma_nil) rfl (hn := ArgN.len (n := 1) (.cons .nil))))) (pmss_one (pms_ret pm_bl)) pmss_nil)
        (pmss_cons (pms_set (ps_set (i := 2) sc_is_place.nd rfl (.inl rfl) (pm_op oShl pm_int (pm_var (pv 1)))))
        (pmss_one (pms_ret (pm_and (pm_chain oLe oLtI pm_int (pm_ix iIx (pm_var (pv 0)) pm_int (fun _ _ => rfl)) (pm_var (pv 2))) (pm_one (pm_chain oLe oLtI pm_int (pm_ix iIx (pm_var (pv 0)) pm_int (fun _ _ => rfl)) (pm_var (pv 2))))))))), Z.F_is_place.kp, Z.b_is_place, Z.m_is_place⟩
abbrev N_check_place : List Str := ["value", "figures", "name"]
theorem sc_check_place : FnScope N_check_place ["value", "figures", "name"] (defScope s_check_place) := ⟨rfl, rfl, rfl, by decide +kernel, rfl, by decide +kernel, by decide +kernel⟩
theorem d_check_place (Z : Top P w K mg base) : Dx P w K mg base 5 "check_place" ["value", "figures", "name"] m_check_place Z.f_check_place Z.fd_check_place :=
  ⟨fn_ok (N := N_check_place) (ps := ["value", "figures", "name"]) (k := 4) (m := b_check_place) Z.F_check_place sc_check_place fun cdv A outer s H E W hr tk => by
      have PO := passes_of (X := cxOf (L2.CX P w) P w K mg base N_check_place "check_place" (defScope s_check_place) Z.f_check_place cdv A outer s H E) rfl
      exact (pmss_one (pms_if (pmt_not (pmt_val (pm_call (d_is_place Z) tk (hr.mono (by decide)) (by rfl) (pma_cons (pm_var (pv 0)) (pma_cons (pm_var (pv 1)) pma_nil)) rfl (hn := ArgN.len (n := 2) (.cons (.cons .nil)))))) pmss_never pmss_nil)), Z.F_check_place.kp, Z.b_check_place, Z.m_check_place⟩
abbrev N_is_cell : List Str := ["value", "figures", "entry", "level", "i", "j", "many"]
theorem sc_is_cell : FnScope N_is_cell ["value", "figures"] (defScope s_is_cell) := ⟨rfl, rfl, rfl, by decide +kernel, rfl, by decide +kernel, by decide +kernel⟩
theorem d_is_cell (Z : Top P w K mg base) : Dx P w K mg base 2 "is_cell" ["value", "figures"] m_is_cell Z.f_is_cell Z.fd_is_cell :=
  ⟨fn_ok (N := N_is_cell) (ps := ["value", "figures"]) (k := 1) (m := b_is_cell) Z.F_is_cell sc_is_cell fun cdv A outer s H E W hr tk => by
      have PO := passes_of (X := cxOf (L2.CX P w) P w K mg base N_is_cell "is_cell" (defScope s_is_cell) Z.f_is_cell cdv A outer s H E) rfl
      exact (pmss_cons (pms_if (PW.pt (pmw_or (pmt_not (pmt_val (pm_callB cIsi (by rfl) Z.n_isinstance (by decide +kernel) (pma_cons (pm_var (pv 0)) (pma_cons (pm_const (w := .ty "tuple") (pe_bltn (v := .ty "tuple") (by rfl) Z.n_tuple (by decide +kernel) rfl) (fun _ _ => rfl)) pma_nil))))) (pmw_or1 (pmt_cmp (oNe hr.units) (pm_callB cLen (by rfl) Z.n_len PySem.boot_len (pma_cons (pm_var (pv 0)) pma_nil)) pm_int (nomark _))))) (pmss_one (pms_ret pm_bl)) pmss_nil)
        (pmss_cons (pms_if (pmt_not (pmt_val (pm_callB (cAll rfl) (by rfl) Z.n_all (by decide +kernel) (pma_cons (pm_lc (own := [("entry", 2)]) rfl sc_is_cell.nd (pmi_any (pm_var (pv 0))) (blkOk_by (own := [("entry", 2)]) (N := N_is_cell) (sc := defScope s_is_cell) (by decide +kernel)) (by decide) (fun _ _ _ _ _ => (pmg_name (pg_name (i := 2) sc_is_cell.nd rfl (Or.inl rfl)))) (fun _ _ _ _ _ => pmts_nil) (fun _ _ _ _ _ => (pm_call (d_is_integer Z) takesF (hr.mono (by decide)) (by rfl) (pma_cons (pm_var (pv 2)) pma_nil) rfl (hn := ArgN.len (n := 1) (.cons .nil))))) pma_nil)))) (pmss_one (pms_ret pm_bl)) pmss_nil)
        (pmss_cons (pms_asg (pm_var (pv 0)) (pmg_tup rfl (pmgs_cons (pmg_name (pg_name (i := 3) sc_is_cell.nd rfl (.inl rfl))) (pmgs_cons (pmg_name (pg_name (i := 4) sc_is_cell.nd rfl (.inl rfl))) (pmgs_cons (pmg_name (pg_name (i := 5) sc_is_cell.nd rfl (.inl rfl))) pmgs_nil)))))
        (pmss_cons (pms_if (pmt_not (pmt_chain oLe oLe pm_int (pm_var (pv 3)) (pm_var (pv 1)))) (pmss_one (pms_ret pm_bl)) pmss_nil)
        (pmss_cons (pms_set (ps_set (i := 6) sc_is_cell.nd rfl (.inl rfl) (pm_op oShl pm_int (pm_var (pv 3)))))
        (pmss_one (pms_ret (pm_and (pm_chain oLe oLtI pm_int (pm_var (pv 4)) (pm_var (pv 6))) (pm_one (pm_chain oLe oLtI pm_int (pm_var (pv 5)) (pm_var (pv 6)))))))))))), Z.F_is_cell.kp, Z.b_is_cell, Z.m_is_cell⟩
abbrev N_check_cell : List Str := ["value", "figures"]
theorem sc_check_cell : FnScope N_check_cell ["value", "figures"] (defScope s_check_cell) := ⟨rfl, rfl, rfl, by decide +kernel, rfl, by decide +kernel, by decide +kernel⟩
theorem d_check_cell (Z : Top P w K mg base) : Dx P w K mg base 3 "check_cell" ["value", "figures"] m_check_cell Z.f_check_cell Z.fd_check_cell :=
  ⟨fn_ok (N := N_check_cell) (ps := ["value", "figures"]) (k := 2) (m := b_check_cell) Z.F_check_cell sc_check_cell fun cdv A outer s H E W hr tk => by
      have PO := passes_of (X := cxOf (L2.CX P w) P w K mg base N_check_cell "check_cell" (defScope s_check_cell) Z.f_check_cell cdv A outer s H E) rfl
      exact (pmss_one (pms_if (pmt_not (pmt_val (pm_call (d_is_cell Z) tk (hr.mono (by decide)) (by rfl) (pma_cons (pm_var (pv 0)) (pma_cons (pm_var (pv 1)) pma_nil)) rfl (hn := ArgN.len (n := 2) (.cons (.cons .nil)))))) pmss_never pmss_nil)), Z.F_check_cell.kp, Z.b_check_cell, Z.m_check_cell⟩
abbrev N_cell_at : List Str := ["figures", "level", "place", "shift"]
theorem sc_cell_at : FnScope N_cell_at ["figures", "level", "place"] (defScope s_cell_at) := ⟨rfl, rfl, rfl, by decide +kernel, rfl, by decide +kernel, by decide +kernel⟩
theorem d_cell_at (Z : Top P w K mg base) : Dx P w K mg base 1 "cell_at" ["figures", "level", "place"] m_cell_at Z.f_cell_at Z.fd_cell_at :=
  ⟨fn_ok (N := N_cell_at) (ps := ["figures", "level", "place"]) (k := 0) (m := b_cell_at) Z.F_cell_at sc_cell_at fun cdv A outer s H E W hr tk => by
      have PO := passes_of (X := cxOf (L2.CX P w) P w K mg base N_cell_at "cell_at" (defScope s_cell_at) Z.f_cell_at cdv A outer s H E) rfl
      exact (pmss_cons (pms_set (ps_set (i := 3) sc_cell_at.nd rfl (.inl rfl) (pm_op oSub (pm_var (pv 0)) (pm_var (pv 1)))))
        (pmss_one (pms_ret (pm_tup (pma_cons (pm_var (pv 1)) (pma_cons (pm_op oShr (pm_ix iIx (pm_var (pv 2)) pm_int (fun _ _ => rfl)) (pm_var (pv 3))) (pma_cons (pm_op oShr (pm_ix iIx (pm_var (pv 2)) pm_int (fun _ _ => rfl)) (pm_var (pv 3))) pma_nil))))))), Z.F_cell_at.kp, Z.b_cell_at, Z.m_cell_at⟩
abbrev N_cell_of_place : List Str := ["figures", "place"]
theorem sc_cell_of_place : FnScope N_cell_of_place ["figures", "place"] (defScope s_cell_of_place) := ⟨rfl, rfl, rfl, by decide +kernel, rfl, by decide +kernel, by decide +kernel⟩
theorem d_cell_of_place (Z : Top P w K mg base) : Dx P w K mg base 1 "cell_of_place" ["figures", "place"] m_cell_of_place Z.f_cell_of_place Z.fd_cell_of_place :=
  ⟨fn_ok (N := N_cell_of_place) (ps := ["figures", "place"]) (k := 0) (m := b_cell_of_place) Z.F_cell_of_place sc_cell_of_place fun cdv A outer s H E W hr tk => by
      have PO := passes_of (X := cxOf (L2.CX P w) P w K mg base N_cell_of_place "cell_of_place" (defScope s_cell_of_place) Z.f_cell_of_place cdv A outer s H E) rfl
      exact (pmss_one (pms_ret (pm_tup (pma_cons (pm_var (pv 0)) (pma_cons (pm_ix iIx (pm_var (pv 1)) pm_int (fun _ _ => rfl)) (pma_cons (pm_ix iIx (pm_var (pv 1)) pm_int (fun _ _ => rfl)) pma_nil)))))), Z.F_cell_of_place.kp, Z.b_cell_of_place, Z.m_cell_of_place⟩
abbrev N_cell_of_both : List Str := ["figures", "cell", "place", "level", "i", "j", "same", "i2", "j2", "up"]
theorem sc_cell_of_both : FnScope N_cell_of_both ["figures", "cell", "place"] (defScope s_cell_of_both) := ⟨rfl, rfl, rfl, by decide +kernel, rfl, by decide +kernel, by decide +kernel⟩
theorem d_cell_of_both (Z : Top P w K mg base) : Dx P w K mg base 2 "cell_of_both" ["figures", "cell", "place"] m_cell_of_both Z.f_cell_of_both Z.fd_cell_of_both :=
  ⟨fn_ok (N := N_cell_of_both) (ps := ["figures", "cell", "place"]) (k := 1) (m := b_cell_of_both) Z.F_cell_of_both sc_cell_of_both fun cdv A outer s H E W hr tk => by
      have PO := passes_of (X := cxOf (L2.CX P w) P w K mg base N_cell_of_both "cell_of_both" (defScope s_cell_of_both) Z.f_cell_of_both cdv A outer s H E) rfl
      exact (pmss_cons (pms_asg (pm_var (pv 1)) (pmg_tup rfl (pmgs_cons (pmg_name (pg_name (i := 3) sc_cell_of_both.nd rfl (.inl rfl))) (pmgs_cons (pmg_name (pg_name (i := 4) sc_cell_of_both.nd rfl (.inl rfl))) (pmgs_cons (pmg_name (pg_name (i := 5) sc_cell_of_both.nd rfl (.inl rfl))) pmgs_nil)))))
        (pmss_cons (pms_asg (pm_call (d_cell_at Z) tk (hr.mono (by decide)) (by rfl) (pma_cons (pm_var (pv 0)) (pma_cons (pm_var (pv 3)) (pma_cons (pm_var (pv 2)) pma_nil))) rfl (hn := ArgN.len (n := 3) (.cons (.cons (.cons .nil))))) (pmg_tup rfl (pmgs_cons (pmg_name (pg_name (i := 6) sc_cell_of_both.nd rfl (.inl rfl))) (pmgs_cons (pmg_name (pg_name (i := 7) sc_cell_of_both.nd rfl (.inl rfl))) (pmgs_cons (pmg_name (pg_name (i := 8) sc_cell_of_both.nd rfl (.inl rfl))) pmgs_nil)))))
        (pmss_cons (pms_set (ps_set (i := 9) sc_cell_of_both.nd rfl (.inl rfl) (pm_bits (pm_op oOr (pm_op oXor (pm_var (pv 4)) (pm_var (pv 7))) (pm_op oXor (pm_var (pv 5)) (pm_var (pv 8)))))))
        (pmss_one (pms_ret (pm_tup (pma_cons (pm_op oSub (pm_var (pv 3)) (pm_var (pv 9))) (pma_cons (pm_op oShr (pm_var (pv 4)) (pm_var (pv 9))) (pma_cons (pm_op oShr (pm_var (pv 5)) (pm_var (pv 9))) pma_nil))))))))), Z.F_cell_of_both.kp, Z.b_cell_of_both, Z.m_cell_of_both⟩
abbrev N_code_at : List Str := ["place", "x", "y"]
theorem sc_code_at : FnScope N_code_at ["place"] (defScope s_code_at) := ⟨rfl, rfl, rfl, by decide +kernel, rfl, by decide +kernel, by decide +kernel⟩
theorem d_code_at (Z : Top P w K mg base) : Dx P w K mg base 1 "code_at" ["place"] m_code_at Z.f_code_at Z.fd_code_at :=
  ⟨fn_ok (N := N_code_at) (ps := ["place"]) (k := 0) (m := b_code_at) Z.F_code_at sc_code_at fun cdv A outer s H E W hr tk => by
      have PO := passes_of (X := cxOf (L2.CX P w) P w K mg base N_code_at "code_at" (defScope s_code_at) Z.f_code_at cdv A outer s H E) rfl
      exact (pmss_cons (pms_asg (pm_var (pv 0)) (pmg_tup rfl (pmgs_cons (pmg_name (pg_name (i := 1) sc_code_at.nd rfl (.inl rfl))) (pmgs_cons (pmg_name (pg_name (i := 2) sc_code_at.nd rfl (.inl rfl))) pmgs_nil))))
        (pmss_one (pms_ret (pm_op oAdd (pm_callTy cInt4 (by rfl) Z.n_int (by decide +kernel) (pma_cons (pm_binF (pm_var (pv 1))) (pma_cons pm_int pma_nil))) (pm_op oMul pm_int (pm_callTy cInt4 (by rfl) Z.n_int (by decide +kernel) (pma_cons (pm_binF (pm_var (pv 2))) (pma_cons pm_int pma_nil)))))))), Z.F_code_at.kp, Z.b_code_at, Z.m_code_at⟩
abbrev N_place_at : List Str := ["code", "text"]
theorem sc_place_at : FnScope N_place_at ["code"] (defScope s_place_at) := ⟨rfl, rfl, rfl, by decide +kernel, rfl, by decide +kernel, by decide +kernel⟩
theorem d_place_at (Z : Top P w K mg base) : Dx P w K mg base 1 "place_at" ["code"] m_place_at Z.f_place_at Z.fd_place_at :=
  ⟨fn_ok (N := N_place_at) (ps := ["code"]) (k := 0) (m := b_place_at) Z.F_place_at sc_place_at fun cdv A outer s H E W hr tk => by
      have PO := passes_of (X := cxOf (L2.CX P w) P w K mg base N_place_at "place_at" (defScope s_place_at) Z.f_place_at cdv A outer s H E) rfl
      exact (pmss_cons (pms_set (ps_set (i := 1) sc_place_at.nd rfl (.inl rfl) (pm_zfill (pm_binF (pm_var (pv 0))) (pma_cons (pm_op oMul pm_int (pm_const (w := .int 40) (pe_glob (v := .int 40) (by rfl) Z.c_MOST_FIGURES ⟨_, rfl⟩) (fun _ _ => rfl))) pma_nil))))
        (pmss_one (pms_ret (pm_tup (pma_cons (pm_callTy cInt2 (by rfl) Z.n_int (by decide +kernel) (pma_cons (pm_sl2 (a := 1) (pm_var (pv 1))) (pma_cons pm_int pma_nil))) (pma_cons (pm_callTy cInt2 (by rfl) Z.n_int (by decide +kernel) (pma_cons (pm_sl2 (a := 0) (pm_var (pv 1))) (pma_cons pm_int pma_nil))) pma_nil)))))), Z.F_place_at.kp, Z.b_place_at, Z.m_place_at⟩
abbrev N_codes_of : List Str := ["figures", "cell", "shift", "first"]
theorem sc_codes_of : FnScope N_codes_of ["figures", "cell"] (defScope s_codes_of) := ⟨rfl, rfl, rfl, by decide +kernel, rfl, by decide +kernel, by decide +kernel⟩
theorem d_codes_of (Z : Top P w K mg base) : Dx P w K mg base 2 "codes_of" ["figures", "cell"] m_codes_of Z.f_codes_of Z.fd_codes_of :=
  ⟨fn_ok (N := N_codes_of) (ps := ["figures", "cell"]) (k := 1) (m := b_codes_of) Z.F_codes_of sc_codes_of fun cdv A outer s H E W hr tk => by
      have PO := passes_of (X := cxOf (L2.CX P w) P w K mg base N_codes_of "codes_of" (defScope s_codes_of) Z.f_codes_of cdv A outer s H E) rfl
      exact (pmss_cons (pms_set (ps_set (i := 2) sc_codes_of.nd rfl (.inl rfl) (pm_op oMul pm_int (pm_op oSub (pm_var (pv 0)) (pm_ix iIx (pm_var (pv 1)) pm_int (fun _ _ => rfl))))))
        (pmss_cons (pms_set (ps_set (i := 3) sc_codes_of.nd rfl (.inl rfl) (pm_op oShlW (pm_call (d_code_at Z) tk (hr.mono (by decide)) (by rfl) (pma_cons (pm_tup (pma_cons (pm_ix iIx (pm_var (pv 1)) pm_int (fun _ _ => rfl)) (pma_cons (pm_ix iIx (pm_var (pv 1)) pm_int (fun _ _ => rfl)) pma_nil))) pma_nil) rfl (hn := ArgN.len (n := 1) (.cons .nil))) (pm_var (pv 2)))))
        (pmss_one (pms_ret (pm_tup (pma_cons (pm_var (pv 3)) (pma_cons (pm_op oSub (pm_op oAdd (pm_var (pv 3)) (pm_op oShl pm_int (pm_var (pv 2)))) pm_int) pma_nil))))))), Z.F_codes_of.kp, Z.b_codes_of, Z.m_codes_of⟩
abbrev N_code_of : List Str := ["figures", "place"]
theorem sc_code_of : FnScope N_code_of ["figures", "place"] (defScope s_code_of) := ⟨rfl, rfl, rfl, by decide +kernel, rfl, by decide +kernel, by decide +kernel⟩
theorem d_code_of (Z : Top P w K mg base) : Dx P w K mg base 6 "code_of" ["figures", "place"] m_code_of Z.f_code_of Z.fd_code_of :=
  ⟨fn_ok (N := N_code_of) (ps := ["figures", "place"]) (k := 5) (m := b_code_of) Z.F_code_of sc_code_of fun cdv A outer s H E W hr tk => by
      have PO := passes_of (X := cxOf (L2.CX P w) P w K mg base N_code_of "code_of" (defScope s_code_of) Z.f_code_of cdv A outer s H E) rfl
      exact (pmss_cons (pms_expr (pm_call (d_check_figures Z) tk (hr.mono (by decide)) (by rfl) (pma_cons (pm_var (pv 0)) pma_nil) rfl (hn := ArgN.len (n := 1) (.cons .nil))))
        (pmss_cons (pms_expr (pm_call (d_check_place Z) tk (hr.mono (by decide)) (by rfl) (pma_cons (pm_var (pv 1)) (pma_cons (pm_var (pv 0)) (pma_cons pm_str pma_nil))) rfl (hn := ArgN.len (n := 3) (.cons (.cons (.cons .nil))))))
        (pmss_one (pms_ret (pm_call (d_code_at Z) tk (hr.mono (by decide)) (by rfl) (pma_cons (pm_var (pv 1)) pma_nil) rfl (hn := ArgN.len (n := 1) (.cons .nil))))))), Z.F_code_of.kp, Z.b_code_of, Z.m_code_of⟩
abbrev N_check_code : List Str := ["value", "figures"]
theorem sc_check_code : FnScope N_check_code ["value", "figures"] (defScope s_check_code) := ⟨rfl, rfl, rfl, by decide +kernel, rfl, by decide +kernel, by decide +kernel⟩
theorem d_check_code (Z : Top P w K mg base) : Dx P w K mg base 2 "check_code" ["value", "figures"] m_check_code Z.f_check_code Z.fd_check_code :=
  ⟨fn_ok (N := N_check_code) (ps := ["value", "figures"]) (k := 1) (m := b_check_code) Z.F_check_code sc_check_code fun cdv A outer s H E W hr tk => by
      have PO := passes_of (X := cxOf (L2.CX P w) P w K mg base N_check_code "check_code" (defScope s_check_code) Z.f_check_code cdv A outer s H E) rfl
      exact (pmss_one (pms_expr (pm_call (d_check_number Z) tk (hr.mono (by decide)) (by rfl) (pma_cons (pm_var (pv 0)) (pma_cons pm_int (pma_cons (pm_op oSub (pm_op oShl pm_int (pm_op oMul pm_int (pm_var (pv 1)))) pm_int) (pma_cons pm_str pma_nil)))) rfl (hn := ArgN.len (n := 4) (.cons (.cons (.cons (.cons .nil)))))))), Z.F_check_code.kp, Z.b_check_code, Z.m_check_code⟩
abbrev N_place_of : List Str := ["figures", "code"]
theorem sc_place_of : FnScope N_place_of ["figures", "code"] (defScope s_place_of) := ⟨rfl, rfl, rfl, by decide +kernel, rfl, by decide +kernel, by decide +kernel⟩
theorem d_place_of (Z : Top P w K mg base) : Dx P w K mg base 3 "place_of" ["figures", "code"] m_place_of Z.f_place_of Z.fd_place_of :=
  ⟨fn_ok (N := N_place_of) (ps := ["figures", "code"]) (k := 2) (m := b_place_of) Z.F_place_of sc_place_of fun cdv A outer s H E W hr tk => by
      have PO := passes_of (X := cxOf (L2.CX P w) P w K mg base N_place_of "place_of" (defScope s_place_of) Z.f_place_of cdv A outer s H E) rfl
      exact (pmss_cons (pms_expr (pm_call (d_check_figures Z) tk (hr.mono (by decide)) (by rfl) (pma_cons (pm_var (pv 0)) pma_nil) rfl (hn := ArgN.len (n := 1) (.cons .nil))))
        (pmss_cons (pms_expr (pm_call (d_check_code Z) tk (hr.mono (by decide)) (by rfl) (pma_cons (pm_var (pv 1)) (pma_cons (pm_var (pv 0)) pma_nil)) rfl (hn := ArgN.len (n := 2) (.cons (.cons .nil)))))
        (pmss_one (pms_ret (pm_call (d_place_at Z) tk (hr.mono (by decide)) (by rfl) (pma_cons (pm_var (pv 1)) pma_nil) rfl (hn := ArgN.len (n := 1) (.cons .nil))))))), Z.F_place_of.kp, Z.b_place_of, Z.m_place_of⟩
abbrev N_stretch_of : List Str := ["figures", "square"]
theorem sc_stretch_of : FnScope N_stretch_of ["figures", "square"] (defScope s_stretch_of) := ⟨rfl, rfl, rfl, by decide +kernel, rfl, by decide +kernel, by decide +kernel⟩
theorem d_stretch_of (Z : Top P w K mg base) : Dx P w K mg base 4 "stretch_of" ["figures", "square"] m_stretch_of Z.f_stretch_of Z.fd_stretch_of :=
  ⟨fn_ok (N := N_stretch_of) (ps := ["figures", "square"]) (k := 3) (m := b_stretch_of) Z.F_stretch_of sc_stretch_of fun cdv A outer s H E W hr tk => by
      have PO := passes_of (X := cxOf (L2.CX P w) P w K mg base N_stretch_of "stretch_of" (defScope s_stretch_of) Z.f_stretch_of cdv A outer s H E) rfl
      exact (pmss_cons (pms_expr (pm_call (d_check_figures Z) tk (hr.mono (by decide)) (by rfl) (pma_cons (pm_var (pv 0)) pma_nil) rfl (hn := ArgN.len (n := 1) (.cons .nil))))
        (pmss_cons (pms_expr (pm_call (d_check_cell Z) tk (hr.mono (by decide)) (by rfl) (pma_cons (pm_var (pv 1)) (pma_cons (pm_var (pv 0)) pma_nil)) rfl (hn := ArgN.len (n := 2) (.cons (.cons .nil)))))
        (pmss_one (pms_ret (pm_call (d_codes_of Z) tk (hr.mono (by decide)) (by rfl) (pma_cons (pm_var (pv 0)) (pma_cons (pm_var (pv 1)) pma_nil)) rfl (hn := ArgN.len (n := 2) (.cons (.cons .nil)))))))), Z.F_stretch_of.kp, Z.b_stretch_of, Z.m_stretch_of⟩
abbrev N_common_cell : List Str := ["figures", "place", "other"]
theorem sc_common_cell : FnScope N_common_cell ["figures", "place", "other"] (defScope s_common_cell) := ⟨rfl, rfl, rfl, by decide +kernel, rfl, by decide +kernel, by decide +kernel⟩
theorem d_common_cell (Z : Top P w K mg base) : Dx P w K mg base 6 "common_cell" ["figures", "place", "other"] m_common_cell Z.f_common_cell Z.fd_common_cell :=
  ⟨fn_ok (N := N_common_cell) (ps := ["figures", "place", "other"]) (k := 5) (m := b_common_cell) Z.F_common_cell sc_common_cell fun cdv A outer s H E W hr tk => by
      have PO := passes_of (X := cxOf (L2.CX P w) P w K mg base N_common_cell "common_cell" (defScope s_common_cell) Z.f_common_cell cdv A outer s H E) rfl
      exact (pmss_cons (pms_expr (pm_call (d_check_figures Z) tk (hr.mono (by decide)) (by rfl) (pma_cons (pm_var (pv 0)) pma_nil) rfl (hn := ArgN.len (n := 1) (.cons .nil))))
        (pmss_cons (pms_expr (pm_call (d_check_place Z) tk (hr.mono (by decide)) (by rfl) (pma_cons (pm_var (pv 1)) (pma_cons (pm_var (pv 0)) (pma_cons pm_str pma_nil))) rfl (hn := ArgN.len (n := 3) (.cons (.cons (.cons .nil))))))
        (pmss_cons (pms_expr (pm_call (d_check_place Z) tk (hr.mono (by decide)) (by rfl) (pma_cons (pm_var (pv 2)) (pma_cons (pm_var (pv 0)) (pma_cons pm_str pma_nil))) rfl (hn := ArgN.len (n := 3) (.cons (.cons (.cons .nil))))))
        (pmss_one (pms_ret (pm_call (d_cell_of_both Z) tk (hr.mono (by decide)) (by rfl) (pma_cons (pm_var (pv 0)) (pma_cons (pm_call (d_cell_of_place Z) tk (hr.mono (by decide)) (by rfl) (pma_cons (pm_var (pv 0)) (pma_cons (pm_var (pv 1)) pma_nil)) rfl (hn := ArgN.len (n := 2) (.cons (.cons .nil)))) (pma_cons (pm_var (pv 2)) pma_nil))) rfl (hn := ArgN.len (n := 3) (.cons (.cons (.cons .nil)))))))))), Z.F_common_cell.kp, Z.b_common_cell, Z.m_common_cell⟩
abbrev N_law_mixed : List Str := ["_law_cell", "_law_draw", "_law_figure"]
theorem sc_law_mixed : FnScope N_law_mixed ["_law_cell", "_law_draw"] (defScope s_law_mixed) := ⟨rfl, rfl, rfl, by decide +kernel, rfl, by decide +kernel, by decide +kernel⟩
theorem d_law_mixed (Z : Top P w K mg base) : Dx P w K mg base 1 "_law_mixed" ["_law_cell", "_law_draw"] m_law_mixed Z.f_law_mixed Z.fd_law_mixed :=
  ⟨fn_ok (N := N_law_mixed) (ps := ["_law_cell", "_law_draw"]) (k := 0) (m := b_law_mixed) Z.F_law_mixed sc_law_mixed fun cdv A outer s H E W hr tk => by
      have PO := passes_of (X := cxOf (L2.CX P w) P w K mg base N_law_mixed "_law_mixed" (defScope s_law_mixed) Z.f_law_mixed cdv A outer s H E) rfl
      exact (pmss_cons (pms_set (ps_set (i := 2) sc_law_mixed.nd rfl (.inl rfl) (pm_op oMod (pm_callTy cInt (by rfl) Z.n_int (by decide +kernel) (pma_cons (pm_op oMul (pm_op oAdd (pm_op oMod (pm_callTy cInt (by rfl) Z.n_int (by decide +kernel) (pma_cons (pm_var (pv 0)) pma_nil)) pm_int) pm_int) (pm_op oAdd (pm_op oMul (pm_var (pv 1)) pm_int) pm_int)) pma_nil)) pm_int)))
        (pmss_cons (pms_set (ps_set (i := 2) sc_law_mixed.nd rfl (.inl rfl) (pm_op oMod (pm_callTy cInt (by rfl) Z.n_int (by decide +kernel) (pma_cons (pm_op oMul (pm_op oAdd (pm_var (pv 2)) (pm_op oMul (pm_op oMod (pm_callTy cInt (by rfl) Z.n_int (by decide +kernel) (pma_cons (pm_op oDiv (pm_var (pv 0)) pm_int) pma_nil)) pm_int) (pm_op oAdd (pm_var (pv 1)) pm_int))) pm_int) pma_nil)) pm_int)))
        (pmss_cons (pms_set (ps_set (i := 2) sc_law_mixed.nd rfl (.inl rfl) (pm_op oMod (pm_callTy cInt (by rfl) Z.n_int (by decide +kernel) (pma_cons (pm_op oMul (pm_var (pv 2)) (pm_op oAdd (pm_op oAdd (pm_op oDiv (pm_var (pv 2)) pm_int) pm_int) (pm_var (pv 1)))) pma_nil)) pm_int)))
        (pmss_one (pms_ret (pm_op oMod (pm_callTy cInt (by rfl) Z.n_int (by decide +kernel) (pma_cons (pm_op oMul (pm_var (pv 2)) (pm_op oAdd (pm_op oDiv (pm_var (pv 2)) pm_int) pm_int)) pma_nil)) pm_int)))))), Z.F_law_mixed.kp, Z.b_law_mixed, Z.m_law_mixed⟩
abbrev N_law_source : List Str := ["_law_cell"]
theorem sc_law_source : FnScope N_law_source ["_law_cell"] (defScope s_law_source) := ⟨rfl, rfl, rfl, by decide +kernel, rfl, by decide +kernel, by decide +kernel⟩
theorem d_law_source (Z : Top P w K mg base) : Dx P w K mg base 1 "_law_source" ["_law_cell"] m_law_source Z.f_law_source Z.fd_law_source :=
  ⟨fn_ok (N := N_law_source) (ps := ["_law_cell"]) (k := 0) (m := b_law_source) Z.F_law_source sc_law_source fun cdv A outer s H E W hr tk => by
      have PO := passes_of (X := cxOf (L2.CX P w) P w K mg base N_law_source "_law_source" (defScope s_law_source) Z.f_law_source cdv A outer s H E) rfl
      exact (pmss_cons (pms_set (ps_set (i := 0) sc_law_source.nd rfl (.inl rfl) (pm_if (pmt_cmp oGe (pm_var (pv 0)) pm_int (nomark _)) (pm_var (pv 0)) (pm_op oSub (pm_op oSub pm_int (pm_op oMul pm_int (pm_var (pv 0)))) pm_int))))
        (pmss_one (pms_ret (pm_lst (pma_cons (pm_op oMul (pm_var (pv 0)) (pm_callTy cInt (by rfl) Z.n_int (by decide +kernel) (pma_cons (pm_cmp oGe (pm_var (pv 0)) (pm_op oPow pm_int pm_int) (nomark _)) pma_nil))) (pma_cons (pm_var (pv 0)) (pma_cons pm_int pma_nil))))))), Z.F_law_source.kp, Z.b_law_source, Z.m_law_source⟩
abbrev N_law_take : List Str := ["_law_source_here", "_law_bound", "_law_drawn"]
theorem sc_law_take : FnScope N_law_take ["_law_source_here", "_law_bound"] (defScope s_law_take) := ⟨rfl, rfl, rfl, by decide +kernel, rfl, by decide +kernel, by decide +kernel⟩
theorem d_law_take (Z : Top P w K mg base) : Dx P w K mg base 2 "_law_take" ["_law_source_here", "_law_bound"] m_law_take Z.f_law_take Z.fd_law_take :=
  ⟨fn_ok (N := N_law_take) (ps := ["_law_source_here", "_law_bound"]) (k := 1) (m := b_law_take) Z.F_law_take sc_law_take fun cdv A outer s H E W hr tk => by
      have PO := passes_of (X := cxOf (L2.CX P w) P w K mg base N_law_take "_law_take" (defScope s_law_take) Z.f_law_take cdv A outer s H E) rfl
      exact (pmss_cons (pms_if (pmt_cmp oGtI (pm_ix iIx (pm_var (pv 0)) pm_int (fun _ _ => rfl)) pm_int (nomark _)) (pmss_cons (pms_set (ps_set (i := 2) sc_law_take.nd rfl (.inl rfl) (pm_op oMod (pm_callTy cInt (by rfl) Z.n_int (by decide +kernel) (pma_cons (pm_ix iIx (pm_var (pv 0)) pm_int (fun _ _ => rfl)) pma_nil)) (pm_var (pv 1)))))
        (pmss_cons (pms_asg (pm_op oDiv (pm_ix iIx (pm_var (pv 0)) pm_int (fun _ _ => rfl)) (pm_var (pv 1))) (pmg_sub (pm_var (pv 0)) pm_int))
        (pmss_one (pms_ret (pm_var (pv 2)))))) pmss_nil)
        (pmss_cons (pms_asg (pm_op oAdd (pm_ix iIx (pm_var (pv 0)) pm_int (fun _ _ => rfl)) pm_int) (pmg_sub (pm_var (pv 0)) pm_int))
        (pmss_one (pms_ret (pm_op oMod (pm_callTy cInt (by rfl) Z.n_int (by decide +kernel) (pma_cons (pm_call (d_law_mixed Z) tk (hr.mono (by decide)) (by rfl) (pma_cons (pm_ix iIx (pm_var (pv 0)) pm_int (fun _ _ => rfl)) (pma_cons (pm_ix iIx (pm_var (pv 0)) pm_int (fun _ _ => rfl)) pma_nil)) rfl (hn := ArgN.len (n := 2) (.cons (.cons .nil)))) pma_nil)) (pm_var (pv 1))))))), Z.F_law_take.kp, Z.b_law_take, Z.m_law_take⟩
abbrev N_law_pick : List Str := ["_law_source_here", "_law_some"]
theorem sc_law_pick : FnScope N_law_pick ["_law_source_here", "_law_some"] (defScope s_law_pick) := ⟨rfl, rfl, rfl, by decide +kernel, rfl, by decide +kernel, by decide +kernel⟩
theorem d_law_pick (Z : Top P w K mg base) : Dx P w K mg base 3 "_law_pick" ["_law_source_here", "_law_some"] m_law_pick Z.f_law_pick Z.fd_law_pick :=
  ⟨fn_ok (N := N_law_pick) (ps := ["_law_source_here", "_law_some"]) (k := 2) (m := b_law_pick) Z.F_law_pick sc_law_pick fun cdv A outer s H E W hr tk => by
      have PO := passes_of (X := cxOf (L2.CX P w) P w K mg base N_law_pick "_law_pick" (defScope s_law_pick) Z.f_law_pick cdv A outer s H E) rfl
      exact (pmss_one (pms_ret (pm_ix iIx (pm_var (pv 1)) (pm_call (d_law_take Z) tk (hr.mono (by decide)) (by rfl) (pma_cons (pm_var (pv 0)) (pma_cons (pm_callB cLen (by rfl) Z.n_len PySem.boot_len (pma_cons (pm_var (pv 1)) pma_nil)) pma_nil)) rfl (hn := ArgN.len (n := 2) (.cons (.cons .nil)))) (fun _ _ => rfl)))), Z.F_law_pick.kp, Z.b_law_pick, Z.m_law_pick⟩
abbrev N_law_code : List Str := ["_law_size", "_law_spot", "_law_found", "_law_turn", "_law_level"]
theorem sc_law_code : FnScope N_law_code ["_law_size", "_law_spot"] (defScope s_law_code) := ⟨rfl, rfl, rfl, by decide +kernel, rfl, by decide +kernel, by decide +kernel⟩
theorem d_law_code (Z : Top P w K mg base) : Dx P w K mg base 1 "_law_code" ["_law_size", "_law_spot"] m_law_code Z.f_law_code Z.fd_law_code :=
  ⟨fn_ok (N := N_law_code) (ps := ["_law_size", "_law_spot"]) (k := 0) (m := b_law_code) Z.F_law_code sc_law_code fun cdv A outer s H E W hr tk => by
      have PO := passes_of (X := cxOf (L2.CX P w) P w K mg base N_law_code "_law_code" (defScope s_law_code) Z.f_law_code cdv A outer s H E) rfl
      exact (pmss_cons (pms_set (ps_set (i := 2) sc_law_code.nd rfl (.inl rfl) pm_int))
        (pmss_cons (pms_for PO rfl (pmi_range1 (by rfl) Z.n_range (pma_cons (pm_var (pv 0)) pma_nil)) (pmg_name (pg_name (i := 3) sc_law_code.nd rfl (.inl rfl))) (pmss_cons (pms_set (ps_set (i := 4) sc_law_code.nd rfl (.inl rfl) (pm_op oSub (pm_op oSub (pm_var (pv 0)) pm_int) (pm_var (pv 3)))))
        (pmss_one (pms_set (ps_set (i := 2) sc_law_code.nd rfl (.inl rfl) (pm_op oAdd (pm_op oAdd (pm_op oMul pm_int (pm_var (pv 2))) (pm_op oMod (pm_callTy cInt (by rfl) Z.n_int (by decide +kernel) (pma_cons (pm_op oShr (pm_ix iIx (pm_var (pv 1)) pm_int (fun _ _ => rfl)) (pm_var (pv 4))) pma_nil)) pm_int)) (pm_op oMul pm_int (pm_op oMod (pm_callTy cInt (by rfl) Z.n_int (by decide +kernel) (pma_cons (pm_op oShr (pm_ix iIx (pm_var (pv 1)) pm_int (fun _ _ => rfl)) (pm_var (pv 4))) pma_nil)) pm_int))))))))
        (pmss_one (pms_ret (pm_var (pv 2)))))), Z.F_law_code.kp, Z.b_law_code, Z.m_law_code⟩
abbrev N_law_common : List Str := ["_law_size", "_law_one", "_law_second", "_law_turn", "_law_cell", "_law_value"]
theorem sc_law_common : FnScope N_law_common ["_law_size", "_law_one", "_law_second"] (defScope s_law_common) := ⟨rfl, rfl, rfl, by decide +kernel, rfl, by decide +kernel, by decide +kernel⟩
theorem d_law_common (Z : Top P w K mg base) : Dx P w K mg base 1 "_law_common" ["_law_size", "_law_one", "_law_second"] m_law_common Z.f_law_common Z.fd_law_common :=
  ⟨fn_ok (N := N_law_common) (ps := ["_law_size", "_law_one", "_law_second"]) (k := 0) (m := b_law_common) Z.F_law_common sc_law_common fun cdv A outer s H E W hr tk => by
      have PO := passes_of (X := cxOf (L2.CX P w) P w K mg base N_law_common "_law_common" (defScope s_law_common) Z.f_law_common cdv A outer s H E) rfl
      exact (pmss_cons (pms_for PO rfl (pmi_range1 (by rfl) Z.n_range (pma_cons (pm_op oAdd (pm_var (pv 0)) pm_int) pma_nil)) (pmg_name (pg_name (i := 3) sc_law_common.nd rfl (.inr rfl))) (pmss_cons (pms_set (ps_set (i := 4) sc_law_common.nd rfl (.inl rfl) (pm_callTy cTup (by rfl) Z.n_tuple (by decide +kernel) (pma_cons (pm_lc (own := [("_law_value", 5)]) rfl sc_law_common.nd (pmi_any (pm_var (pv 1))) (blkOk_by (own := [("_law_value", 5)]) (N := N_law_common) (sc := defScope s_law_common) (by decide +kernel)) (by decide) (fun _ _ _ _ _ => (pmg_name (pg_name (i := 5) sc_law_common.nd rfl (Or.inl rfl)))) (fun _ _ _ _ _ => pmts_nil) (fun _ _ _ _ _ => (pm_op oShr (pm_var (pv 5)) (pm_var (pv 3))))) pma_nil))))
        (pmss_one (pms_if (pmt_cmp (oEq hr.units) (pm_var (pv 4)) (pm_callTy cTup (by rfl) Z.n_tuple (by decide +kernel) (pma_cons (pm_lc (own := [("_law_value", 5)]) rfl sc_law_common.nd (pmi_any (pm_var (pv 2))) (blkOk_by (own := [("_law_value", 5)]) (N := N_law_common) (sc := defScope s_law_common) (by decide +kernel)) (by decide) (fun _ _ _ _ _ => (pmg_name (pg_name (i := 5) sc_law_common.nd rfl (Or.inl rfl)))) (fun _ _ _ _ _ => pmts_nil) (fun _ _ _ _ _ => (pm_op oShr (pm_var (pv 5)) (pm_var (pv 3))))) pma_nil)) (nomark _)) (pmss_one (pms_ret (pm_op oAdd (pm_tup (pma_cons (pm_op oSub (pm_var (pv 0)) (pm_var (pv 3))) pma_nil)) (pm_var (pv 4))))) pmss_nil))))
        (pmss_one (pms_ret pm_non))), Z.F_law_common.kp, Z.b_law_common, Z.m_law_common⟩
abbrev N_law_all_right : List Str := ["_law_size", "_law_side", "_law_codes", "_law_x", "_law_y", "_law_level", "_law_number", "_law_i", "_law_j", "_law_wide", "_law_mine", "_law_begun"]
theorem sc_law_all_right : FnScope N_law_all_right ["_law_size"] (defScope s_law_all_right) := ⟨rfl, rfl, rfl, by decide +kernel, rfl, by decide +kernel, by decide +kernel⟩
theorem d_law_all_right (Z : Top P w K mg base) : Dx P w K mg base 7 "_law_all_right" ["_law_size"] m_law_all_right Z.f_law_all_right Z.fd_law_all_right :=
  ⟨fn_ok (N := N_law_all_right) (ps := ["_law_size"]) (k := 6) (m := b_law_all_right) Z.F_law_all_right sc_law_all_right fun cdv A outer s H E W hr tk => by
      have PO := passes_of (X := cxOf (L2.CX P w) P w K mg base N_law_all_right "_law_all_right" (defScope s_law_all_right) Z.f_law_all_right cdv A outer s H E) rfl
      exact (pmss_cons (pms_par (ps_par (i := 1) (j := 2) rfl sc_law_all_right.nd rfl rfl (by decide) rfl rfl (pma_cons (pm_op oShl pm_int (pm_var (pv 0))) (pma_cons (pm_lst pma_nil) pma_nil)) rfl))
        (pmss_cons (pms_for PO rfl (pmi_range1 (by rfl) Z.n_range (pma_cons (pm_var (pv 1)) pma_nil)) (pmg_name (pg_name (i := 3) sc_law_all_right.nd rfl (.inl rfl))) (pmss_one (pms_for PO rfl (pmi_range1 (by rfl) Z.n_range (pma_cons (pm_var (pv 1)) pma_nil)) (pmg_name (pg_name (i := 4) sc_law_all_right.nd rfl (.inl rfl))) (pmss_cons (pms_expr (pm_append (pm_var (pv 2)) (pma_cons (pm_call (d_code_of Z) tk (hr.mono (by decide)) (by rfl) (pma_cons (pm_var (pv 0)) (pma_cons (pm_tup (pma_cons (pm_var (pv 3)) (pma_cons (pm_var (pv 4)) pma_nil))) pma_nil)) rfl (hn := ArgN.len (n := 2) (.cons (.cons .nil)))) pma_nil)))
        (pmss_one (pms_if (PW.pt (pmw_or (pmt_cmp (oNe hr.units) (pm_ix iIx (pm_var (pv 2)) (pm_neg pm_int) (fun _ _ => rfl)) (pm_call (d_law_code Z) tk (hr.mono (by decide)) (by rfl) (pma_cons (pm_var (pv 0)) (pma_cons (pm_tup (pma_cons (pm_var (pv 3)) (pma_cons (pm_var (pv 4)) pma_nil))) pma_nil)) rfl (hn := ArgN.len (n := 2) (.cons (.cons .nil)))) (nomark _)) (pmw_or1 (pmt_cmp (oNe hr.units) (pm_call (d_place_of Z) tk (hr.mono (by decide)) (by rfl) (pma_cons (pm_var (pv 0)) (pma_cons (pm_ix iIx (pm_var (pv 2)) (pm_neg pm_int) (fun _ _ => rfl)) pma_nil)) rfl (hn := ArgN.len (n := 2) (.cons (.cons .nil)))) (pm_tup (pma_cons (pm_var (pv 3)) (pma_cons (pm_var (pv 4)) pma_nil))) (nomark _))))) (pmss_one (pms_ret pm_bl)) pmss_nil))))))
        (pmss_cons (pms_if (pmt_cmp (oNe hr.units) (pm_callB (cSort hr.units) (by rfl) Z.n_sorted (by decide +kernel) (pma_cons (pm_var (pv 2)) pma_nil)) (pm_lrng1 rfl (by rfl) Z.n_list (by rfl) Z.n_range (pm_op oMul (pm_var (pv 1)) (pm_var (pv 1)))) (nomark _)) (pmss_one (pms_ret pm_bl)) pmss_nil)
        (pmss_cons (pms_for PO rfl (pmi_range1 (by rfl) Z.n_range (pma_cons (pm_op oAdd (pm_var (pv 0)) pm_int) pma_nil)) (pmg_name (pg_name (i := 5) sc_law_all_right.nd rfl (.inl rfl))) (pmss_one (pms_for PO rfl (pmi_range1 (by rfl) Z.n_range (pma_cons (pm_op oShl pm_int (pm_op oMul pm_int (pm_var (pv 5)))) pma_nil)) (pmg_name (pg_name (i := 6) sc_law_all_right.nd rfl (.inl rfl))) (pmss_cons (pms_par (ps_par (i := 7) (j := 8) rfl sc_law_all_right.nd rfl rfl (by decide) rfl rfl (pma_cons (pm_op oShr (pm_var (pv 6)) (pm_var (pv 5))) (pma_cons (pm_op oMod (pm_callTy cInt (by rfl) Z.n_int (by decide +kernel) (pma_cons (pm_var (pv 6)) pma_nil)) (pm_op oShl pm_int (pm_var (pv 5)))) pma_nil)) rfl))
        (pmss_cons (pms_par (ps_par (i := 9) (j := 10) rfl sc_law_all_right.nd rfl rfl (by decide) rfl rfl (pma_cons (pm_op oShr (pm_var (pv 1)) (pm_var (pv 5))) (pma_cons (pm_lst pma_nil) pma_nil)) rfl))
        (pmss_cons (pms_for PO rfl (pmi_range2 (by rfl) Z.n_range (pma_cons (pm_op oMul (pm_var (pv 9)) (pm_var (pv 7))) (pma_cons (pm_op oAdd (pm_op oMul (pm_var (pv 9)) (pm_var (pv 7))) (pm_var (pv 9))) pma_nil))) (pmg_name (pg_name (i := 3) sc_law_all_right.nd rfl (.inl rfl))) (pmss_cons (pms_set (ps_set (i := 11) sc_law_all_right.nd rfl (.inl rfl) (pm_op oAdd (pm_op oMul (pm_var (pv 1)) (pm_var (pv 3))) (pm_op oMul (pm_var (pv 9)) (pm_var (pv 8))))))
        (pmss_one (pms_set (ps_set (i := 10) sc_law_all_right.nd rfl (.inl rfl) (pm_op oAdd (pm_var (pv 10)) (pm_slice sSl (pm_var (pv 2)) (pm_var (pv 11)) (pm_op oAdd (pm_var (pv 11)) (pm_var (pv 9))))))))))
        (pmss_cons (pms_if (pmt_cmp (oNe hr.units) (pm_call (d_stretch_of Z) tk (hr.mono (by decide)) (by rfl) (pma_cons (pm_var (pv 0)) (pma_cons (pm_tup (pma_cons (pm_var (pv 5)) (pma_cons (pm_var (pv 7)) (pma_cons (pm_var (pv 8)) pma_nil)))) pma_nil)) rfl (hn := ArgN.len (n := 2) (.cons (.cons .nil)))) (pm_tup (pma_cons (pm_callB (cMin rfl) (by rfl) Z.n_min (by decide +kernel) (pma_cons (pm_var (pv 10)) pma_nil)) (pma_cons (pm_callB (cMax rfl) (by rfl) Z.n_max (by decide +kernel) (pma_cons (pm_var (pv 10)) pma_nil)) pma_nil))) (nomark _)) (pmss_one (pms_ret pm_bl)) pmss_nil)
        (pmss_one (pms_if (pmt_cmp (oNe hr.units) (pm_op oSub (pm_callB (cMax rfl) (by rfl) Z.n_max (by decide +kernel) (pma_cons (pm_var (pv 10)) pma_nil)) (pm_callB (cMin rfl) (by rfl) Z.n_min (by decide +kernel) (pma_cons (pm_var (pv 10)) pma_nil))) (pm_op oSub (pm_callB cLen (by rfl) Z.n_len PySem.boot_len (pma_cons (pm_var (pv 10)) pma_nil)) pm_int) (nomark _)) (pmss_one (pms_ret pm_bl)) pmss_nil)))))))))
        (pmss_one (pms_ret pm_bl)))))), Z.F_law_all_right.kp, Z.b_law_all_right, Z.m_law_all_right⟩
abbrev N_law_right : List Str := ["_law_source_here", "_law_size", "_law_side", "_law_one", "_law_second", "_law_turn", "_law_near", "_law_value", "_law_number_so", "_law_level", "_law_cell", "_law_wide", "_law_first", "_law_last"]
theorem sc_law_right : FnScope N_law_right ["_law_source_here"] (defScope s_law_right) := ⟨rfl, rfl, rfl, by decide +kernel, rfl, by decide +kernel, by decide +kernel⟩
theorem d_law_right (Z : Top P w K mg base) : Dx P w K mg base 7 "_law_right" ["_law_source_here"] m_law_right Z.f_law_right Z.fd_law_right :=
  ⟨fn_ok (N := N_law_right) (ps := ["_law_source_here"]) (k := 6) (m := b_law_right) Z.F_law_right sc_law_right fun cdv A outer s H E W hr tk => by
      have PO := passes_of (X := cxOf (L2.CX P w) P w K mg base N_law_right "_law_right" (defScope s_law_right) Z.f_law_right cdv A outer s H E) rfl
      exact (pmss_cons (pms_set (ps_set (i := 1) sc_law_right.nd rfl (.inl rfl) (pm_call (d_law_pick Z) tk (hr.mono (by decide)) (by rfl) (pma_cons (pm_var (pv 0)) (pma_cons (pm_lst (pma_cons pm_int (pma_cons pm_int (pma_cons pm_int (pma_cons pm_int (pma_cons pm_int (pma_cons pm_int (pma_cons pm_int (pma_cons (pm_call (d_law_take Z) tk (hr.mono (by decide)) (by rfl) (pma_cons (pm_var (pv 0)) (pma_cons pm_int pma_nil)) rfl (hn := ArgN.len (n := 2) (.cons (.cons .nil)))) pma_nil))))))))) pma_nil)) rfl (hn := ArgN.len (n := 2) (.cons (.cons .nil))))))
        (pmss_cons (pms_set (ps_set (i := 2) sc_law_right.nd rfl (.inr rfl) (pm_op oShl pm_int (pm_var (pv 1)))))
        (pmss_cons (pms_asg (pm_lc (own := [("_law_turn", 5)]) rfl sc_law_right.nd (pmi_range1 (by rfl) Z.n_range (pma_cons pm_int pma_nil)) (blkOk_by (own := [("_law_turn", 5)]) (N := N_law_right) (sc := defScope s_law_right) (by decide +kernel)) (by decide) (fun _ _ _ _ _ => (pmg_name (pg_name (i := 5) sc_law_right.nd rfl (Or.inl rfl)))) (fun _ _ _ _ _ => pmts_nil) (fun _ _ _ _ _ => (pm_tup (pma_cons (pm_call (d_law_take Z) takesF (hr.mono (by decide)) (by rfl) (pma_cons (pm_var (pv 0)) (pma_cons (pm_var (pv 2)) pma_nil)) rfl (hn := ArgN.len (n := 2) (.cons (.cons .nil)))) (pma_cons (pm_call (d_law_take Z) takesF (hr.mono (by decide)) (by rfl) (pma_cons (pm_var (pv 0)) (pma_cons (pm_var (pv 2)) pma_nil)) rfl (hn := ArgN.len (n := 2) (.cons (.cons .nil)))) pma_nil))))) (pmg_lst rfl (pmgs_cons (pmg_name (pg_name (i := 3) sc_law_right.nd rfl (.inl rfl))) (pmgs_cons (pmg_name (pg_name (i := 4) sc_law_right.nd rfl (.inl rfl))) pmgs_nil))))
        (pmss_cons (pms_if (pmt_cmp (oEq hr.units) (pm_call (d_law_take Z) tk (hr.mono (by decide)) (by rfl) (pma_cons (pm_var (pv 0)) (pma_cons pm_int pma_nil)) rfl (hn := ArgN.len (n := 2) (.cons (.cons .nil)))) pm_int (nomark _)) (pmss_cons (pms_set (ps_set (i := 6) sc_law_right.nd rfl (.inr rfl) (pm_op oShl pm_int (pm_call (d_law_take Z) tk (hr.mono (by decide)) (by rfl) (pma_cons (pm_var (pv 0)) (pma_cons (pm_op oAdd (pm_var (pv 1)) pm_int) pma_nil)) rfl (hn := ArgN.len (n := 2) (.cons (.cons .nil)))))))
        (pmss_one (pms_set (ps_set (i := 4) sc_law_right.nd rfl (.inl rfl) (pm_callTy cTup (by rfl) Z.n_tuple (by decide +kernel) (pma_cons (pm_lc (own := [("_law_value", 7)]) rfl sc_law_right.nd (pmi_any (pm_var (pv 3))) (blkOk_by (own := [("_law_value", 7)]) (N := N_law_right) (sc := defScope s_law_right) (by decide +kernel)) (by decide) (fun _ _ _ _ _ => (pmg_name (pg_name (i := 7) sc_law_right.nd rfl (Or.inl rfl)))) (fun _ _ _ _ _ => pmts_nil) (fun _ _ _ _ _ => (pm_callB (cMin rfl) (by rfl) Z.n_min (by decide +kernel) (pma_cons (pm_op oSub (pm_var (pv 2)) pm_int) (pma_cons (pm_op oAdd (pm_op oMul (pm_op oDiv (pm_var (pv 7)) (pm_var (pv 6))) (pm_var (pv 6))) (pm_call (d_law_take Z) takesF (hr.mono (by decide)) (by rfl) (pma_cons (pm_var (pv 0)) (pma_cons (pm_var (pv 6)) pma_nil)) rfl (hn := ArgN.len (n := 2) (.cons (.cons .nil))))) pma_nil))))) pma_nil)))))) pmss_nil)
        (pmss_cons (pms_set (ps_set (i := 8) sc_law_right.nd rfl (.inl rfl) (pm_call (d_law_code Z) tk (hr.mono (by decide)) (by rfl) (pma_cons (pm_var (pv 1)) (pma_cons (pm_var (pv 3)) pma_nil)) rfl (hn := ArgN.len (n := 2) (.cons (.cons .nil))))))
        (pmss_cons (pms_if (PW.pt (pmw_or (pmt_cmp (oNe hr.units) (pm_call (d_code_of Z) tk (hr.mono (by decide)) (by rfl) (pma_cons (pm_var (pv 1)) (pma_cons (pm_var (pv 3)) pma_nil)) rfl (hn := ArgN.len (n := 2) (.cons (.cons .nil)))) (pm_var (pv 8)) (nomark _)) (pmw_or1 (pmt_cmp (oNe hr.units) (pm_call (d_place_of Z) tk (hr.mono (by decide)) (by rfl) (pma_cons (pm_var (pv 1)) (pma_cons (pm_var (pv 8)) pma_nil)) rfl (hn := ArgN.len (n := 2) (.cons (.cons .nil)))) (pm_var (pv 3)) (nomark _))))) (pmss_one (pms_ret pm_bl)) pmss_nil)
        (pmss_cons (pms_if (pmt_cmp (oNe hr.units) (pm_callK0 (n := 0) (m := 2) (o := [1, 0]) (d_code_of Z) (KB2 Z) rfl (hr.mono (by decide)) (by rfl) (pmk_cons (pm_var (pv 4)) (pmk_cons (pm_var (pv 1)) pmk_nil))) (pm_call (d_law_code Z) tk (hr.mono (by decide)) (by rfl) (pma_cons (pm_var (pv 1)) (pma_cons (pm_var (pv 4)) pma_nil)) rfl (hn := ArgN.len (n := 2) (.cons (.cons .nil)))) (nomark _)) (pmss_one (pms_ret pm_bl)) pmss_nil)
        (pmss_cons (pms_if (pmt_cmp (oNe hr.units) (pm_callK0 (n := 0) (m := 2) (o := [1, 0]) (d_place_of Z) (KB1 Z) rfl (hr.mono (by decide)) (by rfl) (pmk_cons (pm_var (pv 8)) (pmk_cons (pm_var (pv 1)) pmk_nil))) (pm_var (pv 3)) (nomark _)) (pmss_one (pms_ret pm_bl)) pmss_nil)
        (pmss_cons (pms_if (pmt_cmp (oNe hr.units) (pm_call (d_common_cell Z) tk (hr.mono (by decide)) (by rfl) (pma_cons (pm_var (pv 1)) (pma_cons (pm_var (pv 3)) (pma_cons (pm_var (pv 4)) pma_nil))) rfl (hn := ArgN.len (n := 3) (.cons (.cons (.cons .nil))))) (pm_call (d_law_common Z) tk (hr.mono (by decide)) (by rfl) (pma_cons (pm_var (pv 1)) (pma_cons (pm_var (pv 3)) (pma_cons (pm_var (pv 4)) pma_nil))) rfl (hn := ArgN.len (n := 3) (.cons (.cons (.cons .nil))))) (nomark _)) (pmss_one (pms_ret pm_bl)) pmss_nil)
        (pmss_cons (pms_if (pmt_cmp (oNe hr.units) (pm_call (d_common_cell Z) tk (hr.mono (by decide)) (by rfl) (pma_cons (pm_var (pv 1)) (pma_cons (pm_var (pv 3)) (pma_cons (pm_var (pv 3)) pma_nil))) rfl (hn := ArgN.len (n := 3) (.cons (.cons (.cons .nil))))) (pm_op oAdd (pm_tup (pma_cons (pm_var (pv 1)) pma_nil)) (pm_var (pv 3))) (nomark _)) (pmss_one (pms_ret pm_bl)) pmss_nil)
        (pmss_cons (pms_set (ps_set (i := 9) sc_law_right.nd rfl (.inl rfl) (pm_call (d_law_take Z) tk (hr.mono (by decide)) (by rfl) (pma_cons (pm_var (pv 0)) (pma_cons (pm_op oAdd (pm_var (pv 1)) pm_int) pma_nil)) rfl (hn := ArgN.len (n := 2) (.cons (.cons .nil))))))
        (pmss_cons (pms_set (ps_set (i := 10) sc_law_right.nd rfl (.inl rfl) (pm_tup (pma_cons (pm_var (pv 9)) (pma_cons (pm_op oShr (pm_ix iIx (pm_var (pv 3)) pm_int (fun _ _ => rfl)) (pm_op oSub (pm_var (pv 1)) (pm_var (pv 9)))) (pma_cons (pm_op oShr (pm_ix iIx (pm_var (pv 3)) pm_int (fun _ _ => rfl)) (pm_op oSub (pm_var (pv 1)) (pm_var (pv 9)))) pma_nil))))))
        (pmss_cons (pms_set (ps_set (i := 11) sc_law_right.nd rfl (.inl rfl) (pm_op oShl pm_int (pm_op oSub (pm_var (pv 1)) (pm_var (pv 9))))))
        (pmss_cons (pms_set (ps_set (i := 12) sc_law_right.nd rfl (.inl rfl) (pm_call (d_law_code Z) tk (hr.mono (by decide)) (by rfl) (pma_cons (pm_var (pv 1)) (pma_cons (pm_tup (pma_cons (pm_op oMul (pm_ix iIx (pm_var (pv 10)) pm_int (fun _ _ => rfl)) (pm_var (pv 11))) (pma_cons (pm_op oMul (pm_ix iIx (pm_var (pv 10)) pm_int (fun _ _ => rfl)) (pm_var (pv 11))) pma_nil))) pma_nil)) rfl (hn := ArgN.len (n := 2) (.cons (.cons .nil))))))
        (pmss_cons (pms_set (ps_set (i := 13) sc_law_right.nd rfl (.inl rfl) (pm_call (d_law_code Z) tk (hr.mono (by decide)) (by rfl) (pma_cons (pm_var (pv 1)) (pma_cons (pm_tup (pma_cons (pm_op oSub (pm_op oAdd (pm_op oMul (pm_ix iIx (pm_var (pv 10)) pm_int (fun _ _ => rfl)) (pm_var (pv 11))) (pm_var (pv 11))) pm_int) (pma_cons (pm_op oSub (pm_op oAdd (pm_op oMul (pm_ix iIx (pm_var (pv 10)) pm_int (fun _ _ => rfl)) (pm_var (pv 11))) (pm_var (pv 11))) pm_int) pma_nil))) pma_nil)) rfl (hn := ArgN.len (n := 2) (.cons (.cons .nil))))))
        (pmss_cons (pms_if (PW.pt (pmw_or (pmt_cmp (oNe hr.units) (pm_call (d_stretch_of Z) tk (hr.mono (by decide)) (by rfl) (pma_cons (pm_var (pv 1)) (pma_cons (pm_var (pv 10)) pma_nil)) rfl (hn := ArgN.len (n := 2) (.cons (.cons .nil)))) (pm_tup (pma_cons (pm_var (pv 12)) (pma_cons (pm_var (pv 13)) pma_nil))) (nomark _)) (pmw_or1 (pmt_cmp (oNe hr.units) (pm_op oSub (pm_var (pv 13)) (pm_var (pv 12))) (pm_op oSub (pm_op oMul (pm_var (pv 11)) (pm_var (pv 11))) pm_int) (nomark _))))) (pmss_one (pms_ret pm_bl)) pmss_nil)
        (pmss_cons (pms_if (pmt_cmp (oNe hr.units) (pm_call (d_common_cell Z) tk (hr.mono (by decide)) (by rfl) (pma_cons (pm_var (pv 1)) (pma_cons (pm_var (pv 4)) (pma_cons (pm_var (pv 3)) pma_nil))) rfl (hn := ArgN.len (n := 3) (.cons (.cons (.cons .nil))))) (pm_callK0 (n := 0) (m := 3) (o := [2, 1, 0]) (d_common_cell Z) (KB0 Z) rfl (hr.mono (by decide)) (by rfl) (pmk_cons (pm_var (pv 4)) (pmk_cons (pm_var (pv 3)) (pmk_cons (pm_var (pv 1)) pmk_nil)))) (nomark _)) (pmss_one (pms_ret pm_bl)) pmss_nil)
        (pmss_one (pms_ret (pm_chain oLe oLe (pm_var (pv 12)) (pm_var (pv 8)) (pm_var (pv 13)))))))))))))))))))))), Z.F_law_right.kp, Z.b_law_right, Z.m_law_right⟩
abbrev N_law : List Str := ["_law_script", "_law_cell", "_law_source_here", "_law_turn", "_law_size"]
theorem sc_law : FnScope N_law ["_law_script"] (defScope s_law) := ⟨rfl, rfl, rfl, by decide +kernel, rfl, by decide +kernel, by decide +kernel⟩
theorem d_law (Z : Top P w K mg base) : Dx P w K mg base 8 "law" ["_law_script"] m_law Z.f_law Z.fd_law :=
  ⟨fn_ok (N := N_law) (ps := ["_law_script"]) (k := 7) (m := b_law) Z.F_law sc_law fun cdv A outer s H E W hr tk => by
      have PO := passes_of (X := cxOf (L2.CX P w) P w K mg base N_law "law" (defScope s_law) Z.f_law cdv A outer s H E) rfl
      exact (pmss_cons (pms_for PO rfl (pmi_any (pm_op oAdd (pm_slice sSl (pm_var (pv 0)) True.intro pm_int) (pm_lst (pma_cons pm_int pma_nil)))) (pmg_name (pg_name (i := 1) sc_law.nd rfl (.inl rfl))) (pmss_cons (pms_set (ps_set (i := 2) sc_law.nd rfl (.inl rfl) (pm_call (d_law_source Z) tk (hr.mono (by decide)) (by rfl) (pma_cons (pm_var (pv 1)) pma_nil) rfl (hn := ArgN.len (n := 1) (.cons .nil)))))
        (pmss_one (pms_for PO rfl (pmi_range1 (by rfl) Z.n_range (pma_cons pm_int pma_nil)) (pmg_name (pg_name (i := 3) sc_law.nd rfl (.inl rfl))) (pmss_one (pms_if (pmt_not (pmt_val (pm_call (d_law_right Z) tk (hr.mono (by decide)) (by rfl) (pma_cons (pm_var (pv 2)) pma_nil) rfl (hn := ArgN.len (n := 1) (.cons .nil))))) (pmss_one (pms_ret pm_bl)) pmss_nil))))))
        (pmss_one (pms_ret (pm_cmp (oEq hr.units) (pm_lc (own := [("_law_size", 4)]) rfl sc_law.nd (pmi_range1 (by rfl) Z.n_range (pma_cons pm_int pma_nil)) (blkOk_by (own := [("_law_size", 4)]) (N := N_law) (sc := defScope s_law) (by decide +kernel)) (by decide) (fun _ _ _ _ _ => (pmg_name (pg_name (i := 4) sc_law.nd rfl (Or.inl rfl)))) (fun _ _ _ _ _ => (pmts_one (pmt_not (pmt_val (pm_call (d_law_all_right Z) takesF (hr.mono (by decide)) (by rfl) (pma_cons (pm_var (pv 4)) pma_nil) rfl (hn := ArgN.len (n := 1) (.cons .nil))))))) (fun _ _ _ _ _ => (pm_var (pv 4)))) (pm_lst pma_nil) (nomark _))))), Z.F_law.kp, Z.b_law, Z.m_law⟩
end
end PM

namespace PM
open PySem PySem.Spec PyProof.Rows L2 Q2
local macro_rules | `(tactic| walk_at "fn") => `(tactic| (first | refine w_fn1 ?_ | refine w_fn2 ?_ | refine w_fn3 ?_ | refine w_fn4 ?_ | refine w_fn5 ?_ | refine w_fn6 ?_); dsimp only [List.replicate])
local macro_rules | `(tactic| walk_at "kb") => `(tactic| with_reducible first | exact kb_int_int | exact kb_int_bool | exact kb_int_str | exact kb_int_list | exact kb_int_tuple | exact kb_bool_int | exact kb_bool_bool | exact kb_bool_str | exact kb_bool_list | exact kb_bool_tuple | exact kb_str_int | exact kb_str_bool | exact kb_str_str | exact kb_str_list | exact kb_str_tuple | exact kb_list_int | exact kb_list_bool | exact kb_list_str | exact kb_list_list | exact kb_list_tuple | exact kb_tuple_int | exact kb_tuple_bool | exact kb_tuple_str | exact kb_tuple_list | exact kb_tuple_tuple | exact kb_NoneType_int | exact kb_NoneType_bool | exact kb_NoneType_str | exact kb_NoneType_list | exact kb_NoneType_tuple)
local macro_rules | `(tactic| walk_at "go1") => `(tactic| first
  | ((with_reducible refine w_var (v := ?v) ?h ?_); case h => exact rfl)
  | with_reducible first
  | refine w_c ?_ | refine w_m2 ?_ | refine w_m1 ?_ | refine w_maC ?_ | refine w_maN ?_ | refine w_mL ?_ | refine w_call ?_
  | refine w_mtOf ?_ | refine w_mtNot ?_ | refine w_mtAnd ?_ | refine w_mtOr ?_ | refine w_meAnd ?_ | refine w_meOr ?_ | refine w_mNot ?_
  | refine ws_seq ?_ | (refine ws_set ?_) | refine ws_ret ?_ | refine ws_if ?_ | refine ws_expr ?_ | refine ws_nil ?_ | refine ws_asg ?_
  | refine wo_int ?_ | refine wo_add ?_ | refine wo_addI ?_ | refine wo_sub ?_ | refine wo_lt ?_ | refine wo_le ?_ | refine wo_gt ?_ | refine wo_ge ?_
  | refine wo_max2 ?_ | refine wo_min2 ?_ | refine wo_abs ?_ | refine wo_neg ?_ | refine wo_eqI ?_ | refine wo_neI ?_ | refine wo_intB ?_ | refine wo_ixT rfl ?_ | refine ws_brk ?_ | refine ws_cnt ?_ | refine w_if ?_ | refine ws_par ?_ | refine ws_par3 ?_ | (refine ⟨_, _, rfl, ?_⟩) | (refine ⟨_, _, _, rfl, ?_⟩) | refine w_isN ?_ | refine w_notN ?_ | refine ite_t ?_ | refine ite_f ?_ | refine ite_nt ?_ | refine ite_nf ?_ | refine w_chain ?_ | refine w_isiT ?_ | refine wg_sub ?_ | (refine ⟨_, rfl, ?_⟩) | refine wg_v ?_ | refine wg_c ?_ | refine wg_n ?_ | refine w_sl ?_ | refine w_optS ?_ | refine w_optN ?_ | refine wo_sl31 ?_)
local macro_rules | `(tactic| walk_at "go2") => `(tactic| first
  | walk_at "go1"
  | ((with_reducible refine wo_mod ?h ?_); case h => omega) | ((with_reducible refine wo_div ?h ?_); case h => omega) | ((with_reducible refine wo_mul_l ?h ?_); case h => omega) | ((with_reducible refine wo_mul_r ?h ?_); case h => omega)
  | ((with_reducible refine wo_shr ?h ?_); case h => omega) | ((with_reducible refine wo_shl ?h ?_); case h => omega) | ((with_reducible refine wo_pow ?h ?_); case h => omega)
  | ((with_reducible refine ite_d ?a ?b); (case b => exact fun h => absurd (by omega) h); intro _)
  | ((with_reducible refine ite_d ?a ?b); (case a => exact fun h => absurd h (by omega)); intro _)
  | ((with_reducible refine ite_d ?a ?b) <;> intro _)
  | ((with_reducible refine ⟨_, _, ?xs, ?j, rfl, rfl, ?h, ?e, ?_⟩); (case h => assumption); (case e => exact rfl))
  | ((with_reducible refine ite_nd ?a ?b); (case b => exact fun h => absurd h (by omega)); intro _)
  | ((with_reducible refine ite_nd ?a ?b); (case a => exact fun h => absurd (by omega) h); intro _)
  | ((with_reducible refine ite_nd ?a ?b) <;> intro _)
  | ((with_reducible refine wg_t ?h ?_); case h => exact rfl)
  | ((with_reducible refine wo_addL (xs := ?xs) (ys := ?ys) (lst_ref ?h1) (lst_ref ?h2) ?h3 ?_); (case h1 => first | assumption | exact get_app (by assumption)); (case h2 => first | assumption | exact get_app (by assumption)); (case h3 => (show _ ≤ 2 ^ 24; simp only [List.length_append, List.length_cons, List.length_nil, List.length_map]; omega)))
  | ((with_reducible refine wo_isi (k := ?k) (b := ?b) ?h1 ?h2 ?_); (case h1 => first | exact rfl | exact kind_ref (by assumption)); (case h2 => walk_at "kb"))
  | ((with_reducible refine wo_len (xs := ?xs) ?h ?_); (case h => first | exact rfl | exact seq_ref (by assumption)))
  | ((with_reducible refine wo_ixL (xs := ?xs) (x := ?x) ?h1 ?h2 ?_); (case h1 => exact lst_ref (by assumption)); (case h2 => exact rfl))
  | ((with_reducible refine wo_tup ?h ?_); case h => (simp only [List.length_cons, List.length_nil]; decide)) | ((with_reducible refine wo_lst ?h ?_); case h => (simp only [List.length_cons, List.length_nil]; decide)))
local macro_rules | `(tactic| walk_at "go") => `(tactic| (repeat' walk_at "go2") <;> try dsimp only [List.set_cons_zero, List.set_cons_succ])

def Src (S : Sto) (n : Nat) : Prop := ∃ a b c : Int, S[n]? = some (.lst [.int a, .int b, .int c])
structure Mv (n : Nat) (S S' : Sto) : Prop where
  src : Src S' n
  kp : Kp n S S'
theorem Mv.refl {n : Nat} {S : Sto} (h : Src S n) : Mv n S S := ⟨h, Kp.refl n S⟩
theorem Mv.trans {n : Nat} {S S1 S2 : Sto} (a : Mv n S S1) (b : Mv n S1 S2) : Mv n S S2 := ⟨b.src, a.kp.trans b.kp⟩
theorem Gr.mv {n : Nat} {S S' : Sto} (h : Src S n) (g : Gr S S') : Mv n S S' := ⟨by obtain ⟨a, b, c, h⟩ := h; exact ⟨a, b, c, g.get h⟩, g.kp⟩
theorem Mv.get {n : Nat} {S S' : Sto} (m : Mv n S S') {i : Nat} {o : Ob} (hi : i ≠ n) (h : S[i]? = some o) : S'[i]? = some o := m.kp.get hi h
theorem Src.lt {n : Nat} {S : Sto} (h : Src S n) : n < S.length := by obtain ⟨a, b, c, h⟩ := h; exact lt_get h
theorem mv_set {S : Sto} {n : Nat} (h : Src S n) (a b c : Int) : Mv n S (S.set n (.lst [.int a, .int b, .int c])) := ⟨by obtain ⟨_, _, _, h⟩ := h; exact ⟨a, b, c, get_set h⟩, Kp.set n S _⟩
theorem sp_mixed {S : Sto} {i j : Int} : Wp (m_law_mixed [.int i, .int j] S) (fun v S' => S' = S ∧ ∃ r : Int, v = .int r) := by
  walk_at "fn"
  unfold b_law_mixed
  walk_at "go"
  exact ⟨rfl, _, rfl⟩
theorem sp_take {S : Sto} {n : Nat} {B : Int} (h : Src S n) (hB : 0 < B ∧ B < 1000000000000000000000000000000) : Wp (m_law_take [.ref n, .int B] S) (fun v S' => ∃ r : Int, v = .int r ∧ 0 ≤ r ∧ r < B ∧ Mv n S S') := by
  have hs := h
  obtain ⟨a, b, c, h⟩ := h
  have := hB.1
  have g : (S.set n (.lst [.int a, .int b, .int (c + 1)]))[n]? = some (.lst [.int a, .int b, .int (c + 1)]) := get_set h
  walk_at "fn"
  unfold b_law_take
  walk_at "go"
  · exact ⟨Int.emod_nonneg _ (by omega), Int.emod_lt_of_pos _ (by omega), mv_set hs _ _ _⟩
  · refine sp_mixed.mono ?_
    rintro v S' ⟨rfl, r, rfl⟩
    walk_at "go"
    exact ⟨Int.emod_nonneg _ (by omega), Int.emod_lt_of_pos _ (by omega), mv_set hs _ _ _⟩
theorem sp_source {S : Sto} {i : Int} : Wp (m_law_source [.int i] S) (fun v S' => v = .ref S.length ∧ Src S' S.length ∧ Gr S S') := by
  walk_at "fn"
  unfold b_law_source
  walk_at "go"
  all_goals exact ⟨rfl, ⟨_, _, _, get_last⟩, Gr.app _ _⟩
theorem sp_pick {S : Sto} {n k : Nat} {xs : List Va} (h : Src S n) (hk : S[k]? = some (.lst xs)) (hn : k ≠ n) (hx : 0 < xs.length) (hl : xs.length < 1000000000) : Wp (m_law_pick [.ref n, .ref k] S) (fun v S' => v ∈ xs ∧ Mv n S S') := by
  walk_at "fn"
  unfold b_law_pick
  walk_at "go"
  refine (sp_take h (by omega)).mono ?_
  rintro v S' ⟨r, rfl, h0, h1, m⟩
  obtain ⟨x, e, _, hx⟩ := at_nat h0 h1
  exact wo_ixL (lst_ref (m.get hn hk)) e ⟨hx, m⟩
end PM

namespace PM
open PySem PySem.Spec PyProof.Rows L2 Q2
local macro_rules | `(tactic| walk_at "fn") => `(tactic| (first | refine w_fn1 ?_ | refine w_fn2 ?_ | refine w_fn3 ?_ | refine w_fn4 ?_ | refine w_fn5 ?_ | refine w_fn6 ?_); dsimp only [List.replicate])
local macro_rules | `(tactic| walk_at "kb") => `(tactic| with_reducible first | exact kb_int_int | exact kb_int_bool | exact kb_int_str | exact kb_int_list | exact kb_int_tuple | exact kb_bool_int | exact kb_bool_bool | exact kb_bool_str | exact kb_bool_list | exact kb_bool_tuple | exact kb_str_int | exact kb_str_bool | exact kb_str_str | exact kb_str_list | exact kb_str_tuple | exact kb_list_int | exact kb_list_bool | exact kb_list_str | exact kb_list_list | exact kb_list_tuple | exact kb_tuple_int | exact kb_tuple_bool | exact kb_tuple_str | exact kb_tuple_list | exact kb_tuple_tuple | exact kb_NoneType_int | exact kb_NoneType_bool | exact kb_NoneType_str | exact kb_NoneType_list | exact kb_NoneType_tuple)
local macro_rules | `(tactic| walk_at "go1") => `(tactic| first
  | ((with_reducible refine w_var (v := ?v) ?h ?_); case h => exact rfl)
  | with_reducible first
  | refine w_c ?_ | refine w_m2 ?_ | refine w_m1 ?_ | refine w_maC ?_ | refine w_maN ?_ | refine w_mL ?_ | refine w_call ?_
  | refine w_mtOf ?_ | refine w_mtNot ?_ | refine w_mtAnd ?_ | refine w_mtOr ?_ | refine w_meAnd ?_ | refine w_meOr ?_ | refine w_mNot ?_
  | refine ws_seq ?_ | (refine ws_set ?_) | refine ws_ret ?_ | refine ws_if ?_ | refine ws_expr ?_ | refine ws_nil ?_ | refine ws_asg ?_
  | refine wo_int ?_ | refine wo_add ?_ | refine wo_addI ?_ | refine wo_sub ?_ | refine wo_lt ?_ | refine wo_le ?_ | refine wo_gt ?_ | refine wo_ge ?_
  | refine wo_max2 ?_ | refine wo_min2 ?_ | refine wo_abs ?_ | refine wo_neg ?_ | refine wo_eqI ?_ | refine wo_neI ?_ | refine wo_intB ?_ | refine wo_ixT rfl ?_ | refine ws_brk ?_ | refine ws_cnt ?_ | refine w_if ?_ | refine ws_par ?_ | refine ws_par3 ?_ | (refine ⟨_, _, rfl, ?_⟩) | (refine ⟨_, _, _, rfl, ?_⟩) | refine w_isN ?_ | refine w_notN ?_ | refine ite_t ?_ | refine ite_f ?_ | refine ite_nt ?_ | refine ite_nf ?_ | refine w_chain ?_ | refine w_isiT ?_ | refine wg_sub ?_ | (refine ⟨_, rfl, ?_⟩) | refine wg_v ?_ | refine wg_c ?_ | refine wg_n ?_ | refine w_sl ?_ | refine w_optS ?_ | refine w_optN ?_ | refine wo_sl31 ?_)
local macro_rules | `(tactic| walk_at "go2") => `(tactic| first
  | walk_at "go1"
  | ((with_reducible refine wo_mod ?h ?_); case h => omega) | ((with_reducible refine wo_div ?h ?_); case h => omega) | ((with_reducible refine wo_mul_l ?h ?_); case h => omega) | ((with_reducible refine wo_mul_r ?h ?_); case h => omega)
  | ((with_reducible refine wo_shr ?h ?_); case h => omega) | ((with_reducible refine wo_shl ?h ?_); case h => omega) | ((with_reducible refine wo_pow ?h ?_); case h => omega)
  | ((with_reducible refine ite_d ?a ?b); (case b => exact fun h => absurd (by omega) h); intro _)
  | ((with_reducible refine ite_d ?a ?b); (case a => exact fun h => absurd h (by omega)); intro _)
  | ((with_reducible refine ite_d ?a ?b) <;> intro _)
  | ((with_reducible refine ⟨_, _, ?xs, ?j, rfl, rfl, ?h, ?e, ?_⟩); (case h => assumption); (case e => exact rfl))
  | ((with_reducible refine ite_nd ?a ?b); (case b => exact fun h => absurd h (by omega)); intro _)
  | ((with_reducible refine ite_nd ?a ?b); (case a => exact fun h => absurd (by omega) h); intro _)
  | ((with_reducible refine ite_nd ?a ?b) <;> intro _)
  | ((with_reducible refine wg_t ?h ?_); case h => exact rfl)
  | ((with_reducible refine wo_addL (xs := ?xs) (ys := ?ys) (lst_ref ?h1) (lst_ref ?h2) ?h3 ?_); (case h1 => first | assumption | exact get_app (by assumption)); (case h2 => first | assumption | exact get_app (by assumption)); (case h3 => (show _ ≤ 2 ^ 24; simp only [List.length_append, List.length_cons, List.length_nil, List.length_map]; omega)))
  | ((with_reducible refine wo_isi (k := ?k) (b := ?b) ?h1 ?h2 ?_); (case h1 => first | exact rfl | exact kind_ref (by assumption)); (case h2 => walk_at "kb"))
  | ((with_reducible refine wo_len (xs := ?xs) ?h ?_); (case h => first | exact rfl | exact seq_ref (by assumption)))
  | ((with_reducible refine wo_ixL (xs := ?xs) (x := ?x) ?h1 ?h2 ?_); (case h1 => exact lst_ref (by assumption)); (case h2 => exact rfl))
  | ((with_reducible refine wo_tup ?h ?_); case h => (simp only [List.length_cons, List.length_nil]; decide)) | ((with_reducible refine wo_lst ?h ?_); case h => (simp only [List.length_cons, List.length_nil]; decide)))
local macro_rules | `(tactic| walk_at "go") => `(tactic| (repeat' walk_at "go2") <;> try dsimp only [List.set_cons_zero, List.set_cons_succ])

abbrev Far : Int := 1000000000000000000000000000000
def nearP (p : Int × Int) : Prop := -Far ≤ p.1 ∧ p.1 ≤ Far ∧ -Far ≤ p.2 ∧ p.2 ≤ Far
theorem sp_is_integer {S : Sto} {i : Int} : Wp (m_is_integer [.int i] S) (fun v S' => v = .bl true ∧ S' = S) := by
  walk_at "fn"
  unfold b_is_integer
  walk_at "go"
  exact ⟨rfl, rfl⟩
theorem sp_is_coordinate {S : Sto} {i : Int} (h : -Far ≤ i ∧ i ≤ Far) : Wp (m_is_coordinate [.int i] S) (fun v S' => v = .bl true ∧ S' = S) := by
  walk_at "fn"
  unfold b_is_coordinate
  walk_at "go"
  refine sp_is_integer.mono ?_
  rintro v S' ⟨rfl, rfl⟩
  have h1 := h.1
  have h2 := h.2
  walk_at "go"
  exact ⟨by rw [decide_eq_true h.2], rfl⟩
theorem sp_is_point {S : Sto} {p : Int × Int} (h : nearP p) : Wp (m_is_point [ptV p] S) (fun v S' => v = .bl true ∧ S' = S) := by
  walk_at "fn"
  unfold b_is_point
  walk_at "go"
  · next h => exact absurd rfl h
  · refine (sp_is_coordinate ⟨h.1, h.2.1⟩).mono ?_
    rintro v S' ⟨rfl, rfl⟩
    walk_at "go"
    exact sp_is_coordinate ⟨h.2.2.1, h.2.2.2⟩
theorem sp_check_number {S : Sto} {i a b : Int} {z : Str} (h : a ≤ i ∧ i ≤ b) : Wp (m_check_number [.int i, .int a, .int b, .str z] S) (fun v S' => S' = S) := by
  have h1 := h.1
  have h2 := h.2
  walk_at "fn"
  unfold b_check_number
  walk_at "go"
theorem sp_check_figures {S : Sto} {i : Int} (h : 0 ≤ i ∧ i ≤ 40) : Wp (m_check_figures [.int i] S) (fun v S' => S' = S) := by
  walk_at "fn"
  unfold b_check_figures
  walk_at "go"
  refine (sp_check_number h).mono ?_
  rintro v S' rfl
  walk_at "go"
def inSq (f : Int) (p : Int × Int) : Prop := 0 ≤ p.1 ∧ p.1 < 2 ^ f.toNat ∧ 0 ≤ p.2 ∧ p.2 < 2 ^ f.toNat
theorem pow40 {n : Nat} (h : n ≤ 40) : (2 : Int) ^ n ≤ 1099511627776 ∧ 0 < (2 : Int) ^ n := by
  have h1 : (2 : Nat) ^ n ≤ 2 ^ 40 := Nat.pow_le_pow_right (by decide) h
  have h2 : 0 < (2 : Nat) ^ n := Nat.pow_pos (by decide)
  have e : (2 : Int) ^ n = ((2 ^ n : Nat) : Int) := by simp
  rw [e]
  have : (2 : Nat) ^ 40 = 1099511627776 := by decide
  omega
theorem inSq.near {f : Int} {p : Int × Int} (hf : f ≤ 40) (h : inSq f p) : nearP p := by
  have := (pow40 (n := f.toNat) (by omega)).1
  obtain ⟨a, b, c, d⟩ := h
  unfold nearP
  refine ⟨?_, ?_, ?_, ?_⟩ <;> (simp only [Far]; omega)
theorem sp_is_place {S : Sto} {p : Int × Int} {f : Int} (hf : 0 ≤ f ∧ f ≤ 40) (h : inSq f p) : Wp (m_is_place [ptV p, .int f] S) (fun v S' => v = .bl true ∧ S' = S) := by
  obtain ⟨hf0, hf1⟩ := hf
  obtain ⟨a, b, c, d⟩ := h
  walk_at "fn"
  unfold b_is_place
  walk_at "go"
  refine (sp_is_point (inSq.near hf1 ⟨a, b, c, d⟩)).mono ?_
  rintro v S' ⟨rfl, rfl⟩
  walk_at "go"
  exact ⟨by rw [decide_eq_true (by omega)], rfl⟩
def cellOf (f l : Int) (p : Int × Int) : Int × Int × Int := (l, p.1 / 2 ^ (f - l).toNat, p.2 / 2 ^ (f - l).toNat)
theorem sp_cell_at {S : Sto} {f l : Int} {p : Int × Int} (h : l ≤ f) : Wp (m_cell_at [.int f, .int l, ptV p] S) (fun v S' => v = clV (cellOf f l p) ∧ S' = S) := by
  walk_at "fn"
  unfold b_cell_at
  walk_at "go"
  exact ⟨rfl, rfl⟩
theorem sp_check_place {S : Sto} {p : Int × Int} {f : Int} {z : Str} (hf : 0 ≤ f ∧ f ≤ 40) (h : inSq f p) : Wp (m_check_place [ptV p, .int f, .str z] S) (fun v S' => S' = S) := by
  walk_at "fn"
  unfold b_check_place
  walk_at "go"
  refine (sp_is_place hf h).mono ?_
  rintro v S' ⟨rfl, rfl⟩
  walk_at "go"
end PM

namespace PM
open PySem PySem.Spec PyProof.Rows L2 Q2
/-! ### cells that are split -/
abbrev Cl := Int × Int × Int
abbrev Pt := Int × Int
def cN (f k : Nat) (p : Pt) : Cl := ((k : Int), p.1 / 2 ^ (f - k), p.2 / 2 ^ (f - k))
theorem cN_is (f k : Nat) (h : k ≤ f) (p : Pt) : cellOf f k p = cN f k p := by
  have e : ((f : Int) - (k : Int)).toNat = f - k := by omega
  unfold cellOf cN
  rw [e]
end PM

namespace PM
open PySem PySem.Spec PyProof.Rows L2 Q2
/-! ### codes of places -/
/-- the binary figures of a number read with base 4 -/
def spr (n : Nat) : Nat := num4 (binL n)
theorem num4_app (l : List Nat) (z : Nat) : num4 (l ++ [z]) = num4 l * 4 + (z - 48) := by
  unfold num4
  rw [List.foldl_append]
  rfl
theorem dig2 {b : Nat} (h : b < 2) : (Nat.digitChar b).toNat = 48 + b := by
  match b, h with
  | 0, _ => rfl
  | 1, _ => rfl
theorem binL_lt {n : Nat} (h : n < 2) : binL n = [48 + n] := by
  unfold binL
  rw [Nat.toDigits_of_lt_base h]
  simp [dig2 h]
theorem binL_ge {n : Nat} (h : 2 ≤ n) : binL n = binL (n / 2) ++ [48 + n % 2] := by
  unfold binL
  rw [Nat.toDigits_of_base_le (by decide) h]
  simp [dig2 (Nat.mod_lt n (by decide : 2 > 0))]
theorem spr_eq (n : Nat) : spr n = 4 * spr (n / 2) + n % 2 := by
  by_cases h : n < 2
  · have e : n / 2 = 0 := by omega
    unfold spr
    rw [e, binL_lt h, binL_lt (by decide : 0 < 2)]
    simp [num4]
    omega
  · unfold spr
    rw [binL_ge (by omega), num4_app]
    omega
theorem binL_bits : ∀ (n : Nat), Bits (binL n) := by
  intro n
  induction n using Nat.strongRecOn with
  | ind n ih =>
    by_cases h : n < 2
    · rw [binL_lt h]
      intro z hz
      rw [List.mem_singleton.mp hz]
      omega
    · rw [binL_ge (by omega)]
      intro z hz
      rcases List.mem_append.mp hz with hz | hz
      · exact ih (n / 2) (by omega) z hz
      · rw [List.mem_singleton.mp hz]
        omega
theorem binL_len : ∀ (k n : Nat), n < 2 ^ k → (binL n).length ≤ k + 1
  | 0, n, h => by
    rw [binL_lt (by omega)]
    simp
  | k + 1, n, h => by
    by_cases z : n < 2
    · rw [binL_lt z]; simp
    · rw [binL_ge (by omega), List.length_append]
      have := binL_len k (n / 2) (by rw [Nat.pow_succ] at h; omega)
      simp
      omega
theorem spr_pow (m : Nat) : ∀ n : Nat, spr n / 4 ^ m = spr (n / 2 ^ m) := by
  induction m with
  | zero => intro n; simp
  | succ m ih =>
    intro n
    rw [Nat.pow_succ, Nat.mul_comm, ← Nat.div_div_eq_div_mul, spr_eq n, Nat.pow_succ, Nat.mul_comm (2 ^ m), ← Nat.div_div_eq_div_mul]
    have : (4 * spr (n / 2) + n % 2) / 4 = spr (n / 2) := by omega
    rw [this, ih]
def cod (p : Pt) : Nat := spr p.1.toNat + 2 * spr p.2.toNat
theorem cod_pow (m : Nat) : ∀ x y : Nat, (spr x + 2 * spr y) / 4 ^ m = spr (x / 2 ^ m) + 2 * spr (y / 2 ^ m) := by
  induction m with
  | zero => intro x y; simp
  | succ m ih =>
    intro x y
    have e4 : (4 : Nat) ^ (m + 1) = 4 * 4 ^ m := by rw [Nat.pow_succ, Nat.mul_comm]
    have e2 : (2 : Nat) ^ (m + 1) = 2 * 2 ^ m := by rw [Nat.pow_succ, Nat.mul_comm]
    rw [e4, e2, ← Nat.div_div_eq_div_mul, ← Nat.div_div_eq_div_mul, ← Nat.div_div_eq_div_mul, spr_eq x, spr_eq y]
    have : (4 * spr (x / 2) + x % 2 + 2 * (4 * spr (y / 2) + y % 2)) / 4 = spr (x / 2) + 2 * spr (y / 2) := by omega
    rw [this, ih]
theorem cod_inj : ∀ (k x y u v : Nat), x < 2 ^ k → y < 2 ^ k → u < 2 ^ k → v < 2 ^ k → spr x + 2 * spr y = spr u + 2 * spr v → x = u ∧ y = v
  | 0, x, y, u, v, h1, h2, h3, h4, _ => by omega
  | k + 1, x, y, u, v, h1, h2, h3, h4, e => by
    rw [spr_eq x, spr_eq y, spr_eq u, spr_eq v] at e
    rw [Nat.pow_succ] at h1 h2 h3 h4
    have := cod_inj k (x / 2) (y / 2) (u / 2) (v / 2) (by omega) (by omega) (by omega) (by omega) (by omega)
    omega
theorem toNat_pow {x : Int} (h : 0 ≤ x) (m : Nat) : x / 2 ^ m = ((x.toNat / 2 ^ m : Nat) : Int) := by
  obtain ⟨n, rfl⟩ : ∃ n : Nat, x = n := ⟨x.toNat, by omega⟩
  rw [Int.toNat_natCast]
  simp
theorem lt_two_pow {n k : Nat} (h : n < 2 ^ k) (m : Nat) : n / 2 ^ m < 2 ^ k := Nat.lt_of_le_of_lt (Nat.div_le_self _ _) h
/-- equal figures ahead: the same cell -/
theorem same_cell {f k : Nat} {p q : Pt} (hp : inSq f p) (hq : inSq f q) : cN f k p = cN f k q ↔ cod p / 4 ^ (f - k) = cod q / 4 ^ (f - k) := by
  obtain ⟨p1, p2, p3, p4⟩ := hp
  obtain ⟨q1, q2, q3, q4⟩ := hq
  rw [Int.toNat_natCast] at p2 p4 q2 q4
  have b1 : p.1.toNat < 2 ^ f := by have : ((p.1.toNat : Nat) : Int) < ((2 ^ f : Nat) : Int) := by simp; omega
                                    exact Int.ofNat_lt.mp this
  have b2 : p.2.toNat < 2 ^ f := by have : ((p.2.toNat : Nat) : Int) < ((2 ^ f : Nat) : Int) := by simp; omega
                                    exact Int.ofNat_lt.mp this
  have b3 : q.1.toNat < 2 ^ f := by have : ((q.1.toNat : Nat) : Int) < ((2 ^ f : Nat) : Int) := by simp; omega
                                    exact Int.ofNat_lt.mp this
  have b4 : q.2.toNat < 2 ^ f := by have : ((q.2.toNat : Nat) : Int) < ((2 ^ f : Nat) : Int) := by simp; omega
                                    exact Int.ofNat_lt.mp this
  unfold cod
  rw [cod_pow, cod_pow]
  unfold cN
  rw [toNat_pow p1, toNat_pow p3, toNat_pow q1, toNat_pow q3]
  simp only [Prod.mk.injEq, true_and]
  constructor
  · rintro ⟨h1, h2⟩
    rw [Int.ofNat_inj.mp h1, Int.ofNat_inj.mp h2]
  · intro h
    obtain ⟨h1, h2⟩ := cod_inj f _ _ _ _ (lt_two_pow b1 _) (lt_two_pow b2 _) (lt_two_pow b3 _) (lt_two_pow b4 _) h
    exact ⟨by rw [h1], by rw [h2]⟩
theorem cod_lt {f : Nat} {p : Pt} (hp : inSq f p) : cod p < 4 ^ f := by
  have h : cN f 0 p = cN f 0 (0, 0) := by
    obtain ⟨p1, p2, p3, p4⟩ := hp
    rw [Int.toNat_natCast] at p2 p4
    unfold cN
    simp only [Nat.sub_zero, Int.zero_ediv]
    rw [Int.ediv_eq_zero_of_lt p1 p2, Int.ediv_eq_zero_of_lt p3 p4]
  have hz : inSq f (0, 0) := by
    unfold inSq
    rw [Int.toNat_natCast]
    have : (0 : Int) < 2 ^ f := Int.pow_pos (by decide)
    exact ⟨Int.le_refl _, this, Int.le_refl _, this⟩
  have := (same_cell hp hz).mp h
  have e : cod (0, 0) = 0 := rfl
  rw [e, Nat.sub_zero, Nat.zero_div] at this
  exact (Nat.div_eq_zero_iff_lt (Nat.pow_pos (by decide))).mp this
/-! ### the last level at which two places are in one cell -/
def lvl (f : Nat) (p q : Pt) : Int := (f : Int) - (((Builtin.Int.intBits ((cod p ^^^ cod q : Nat) : Int) : Nat) : Int) + 1) / 2
theorem bits_le (n j : Nat) : Builtin.Int.intBits (n : Int) ≤ j ↔ n < 2 ^ j := by
  unfold Builtin.Int.intBits
  by_cases h : n = 0
  · subst h
    simp [Nat.pow_pos]
  · rw [if_neg (by simp; omega)]
    show n.log2 + 1 ≤ j ↔ _
    rw [Nat.succ_le_iff]
    exact Nat.log2_lt h
theorem and_m2 (a b : Nat) : (a &&& b) % 2 = (a % 2) &&& (b % 2) := by have := @Nat.and_mod_two_pow a b 1; simpa using this
theorem or_m2 (a b : Nat) : (a ||| b) % 2 = (a % 2) ||| (b % 2) := by have := @Nat.or_mod_two_pow a b 1; simpa using this
theorem xor_m2 (a b : Nat) : (a ^^^ b) % 2 = (a % 2) ^^^ (b % 2) := by have := @Nat.xor_mod_two_pow a b 1; simpa using this
theorem or_xor : ∀ a b : Nat, a ||| b = (a ^^^ b) + (a &&& b) := by
  intro a
  induction a using Nat.strongRecOn with
  | ind a ih =>
    intro b
    by_cases h : a = 0
    · subst h; simp
    · have e := ih (a / 2) (by omega) (b / 2)
      rw [← Nat.or_div_two, ← Nat.xor_div_two, ← Nat.and_div_two] at e
      have c : (a ||| b) % 2 = (a ^^^ b) % 2 + (a &&& b) % 2 := by
        rw [and_m2, or_m2, xor_m2]
        rcases Nat.mod_two_eq_zero_or_one a with x | x <;> rcases Nat.mod_two_eq_zero_or_one b with y | y <;> rw [x, y] <;> rfl
      omega
theorem xor_nat (a b : Nat) : Builtin.bitXor (a : Int) (b : Int) = ((a ^^^ b : Nat) : Int) := by
  have h1 : Builtin.bitAnd (a : Int) (b : Int) = ((a &&& b : Nat) : Int) := by
    unfold Builtin.bitAnd
    rw [decide_eq_true (show (0 : Int) ≤ a by omega), decide_eq_true (show (0 : Int) ≤ b by omega)]
    rfl
  have h2 : Builtin.bitOr (a : Int) (b : Int) = ((a ||| b : Nat) : Int) := by
    have n1 : Builtin.bitNot (Builtin.bitNot (a : Int)) = a := by unfold Builtin.bitNot; omega
    have n2 : Builtin.bitNot (Builtin.bitNot (b : Int)) = b := by unfold Builtin.bitNot; omega
    unfold Builtin.bitOr Builtin.bitAnd
    rw [decide_eq_false (show ¬ (0 : Int) ≤ Builtin.bitNot a by unfold Builtin.bitNot; omega), decide_eq_false (show ¬ (0 : Int) ≤ Builtin.bitNot b by unfold Builtin.bitNot; omega)]
    simp only [n1, n2, Int.toNat_natCast]
    unfold Builtin.bitNot
    omega
  unfold Builtin.bitXor
  rw [h1, h2, or_xor]
  omega
theorem xor_lt (a b m : Nat) : a ^^^ b < 2 ^ (2 * m) ↔ a / 4 ^ m = b / 4 ^ m := by
  have e : (4 : Nat) ^ m = 2 ^ (2 * m) := by rw [Nat.pow_mul]
  rw [e, ← Nat.div_eq_zero_iff_lt (Nat.pow_pos (by decide)), ← Nat.shiftRight_eq_div_pow, ← Nat.shiftRight_eq_div_pow, ← Nat.shiftRight_eq_div_pow, Nat.shiftRight_xor_distrib]
  constructor
  · intro h
    have e : a >>> (2 * m) ^^^ b >>> (2 * m) ^^^ b >>> (2 * m) = 0 ^^^ b >>> (2 * m) := by rw [h]
    rw [Nat.xor_assoc, Nat.xor_self] at e
    simpa using e
  · intro h
    rw [h, Nat.xor_self]
theorem lvl_le (f : Nat) (p q : Pt) : lvl f p q ≤ f := by
  unfold lvl
  omega
theorem lvl_iff {f j : Nat} {p q : Pt} (hp : inSq f p) (hq : inSq f q) (hj : j ≤ f) : (j : Int) ≤ lvl f p q ↔ cN f j p = cN f j q := by
  rw [same_cell hp hq, ← xor_lt, ← bits_le]
  unfold lvl
  omega
theorem lvl_ge {f : Nat} {p q : Pt} (hp : inSq f p) (hq : inSq f q) : 0 ≤ lvl f p q := by
  refine (lvl_iff (j := 0) hp hq (Nat.zero_le _)).mpr ?_
  obtain ⟨p1, p2, p3, p4⟩ := hp
  obtain ⟨q1, q2, q3, q4⟩ := hq
  rw [Int.toNat_natCast] at p2 p4 q2 q4
  unfold cN
  rw [Nat.sub_zero, Int.ediv_eq_zero_of_lt p1 p2, Int.ediv_eq_zero_of_lt p3 p4, Int.ediv_eq_zero_of_lt q1 q2, Int.ediv_eq_zero_of_lt q3 q4]
theorem lvl_comm (f : Nat) (p q : Pt) : lvl f p q = lvl f q p := by
  unfold lvl
  rw [Nat.xor_comm]
end PM

namespace PM
open PySem PySem.Spec PyProof.Rows L2 Q2
/-! ### a code's figures taken apart -/
/-- so many figures of a number, the least one last -/
def dg : Nat → Nat → List Nat
  | 0, _ => []
  | k + 1, n => dg k (n / 2) ++ [48 + n % 2]
theorem dg_zero : ∀ k, dg k 0 = List.replicate k 48
  | 0 => rfl
  | k + 1 => by
    show dg k (0 / 2) ++ [48] = _
    rw [Nat.zero_div, dg_zero k, List.replicate_succ']
theorem dg_len : ∀ k n, (dg k n).length = k
  | 0, _ => rfl
  | k + 1, n => by
    show (dg k (n / 2) ++ [48 + n % 2]).length = _
    rw [List.length_append, dg_len k]
    rfl
theorem dg_bits : ∀ k n, Bits (dg k n)
  | 0, _ => fun z h => absurd h List.not_mem_nil
  | k + 1, n => fun z h => by
    rcases List.mem_append.mp h with h | h
    · exact dg_bits k _ z h
    · rw [List.mem_singleton.mp h]
      omega
theorem binL_le : ∀ (k n : Nat), 1 ≤ k → n < 2 ^ k → (binL n).length ≤ k
  | 0, n, h, _ => by omega
  | k + 1, n, _, h => by
    by_cases z : n < 2
    · rw [binL_lt z]; simp
    · rw [binL_ge (by omega), List.length_append]
      rw [Nat.pow_succ] at h
      have : 1 ≤ k := by
        rcases Nat.eq_zero_or_pos k with e | e
        · subst e; simp at h; omega
        · exact e
      have := binL_le k (n / 2) this (by omega)
      simp
      omega
theorem pad_dg : ∀ (k n : Nat), 1 ≤ k → n < 2 ^ k → List.replicate (k - (binL n).length) 48 ++ binL n = dg k n
  | 0, n, h, _ => by omega
  | k + 1, n, _, h => by
    show _ = dg k (n / 2) ++ [48 + n % 2]
    by_cases z : n < 2
    · rw [binL_lt z]
      have e : n / 2 = 0 := by omega
      rw [e, dg_zero, Nat.mod_eq_of_lt z]
      simp
    · rw [binL_ge (by omega), List.length_append]
      rw [Nat.pow_succ] at h
      have hk : 1 ≤ k := by
        rcases Nat.eq_zero_or_pos k with e | e
        · subst e; simp at h; omega
        · exact e
      have ih := pad_dg k (n / 2) hk (by omega)
      rw [← ih, List.append_assoc]
      simp
theorem fm_congr {α β : Type} {f g : α → Option β} : ∀ {l : List α}, (∀ a ∈ l, f a = g a) → l.filterMap f = l.filterMap g
  | [], _ => rfl
  | a :: l, h => by
    rw [List.filterMap_cons, List.filterMap_cons, h a (List.mem_cons_self ..), fm_congr fun b hb => h b (List.mem_cons_of_mem _ hb)]
/-- every other sign -/
def odds : Nat → List Nat → List Nat := fun m l => ((List.range m).map fun (k : Nat) => (1 + 2 * (k : Int)).toNat).filterMap (l[·]?)
def evens : Nat → List Nat → List Nat := fun m l => ((List.range m).map fun (k : Nat) => (0 + 2 * (k : Int)).toNat).filterMap (l[·]?)
theorem odds_succ (m : Nat) (l : List Nat) (a b : Nat) (hl : l.length = 2 * m) : odds (m + 1) (l ++ [a] ++ [b]) = odds m l ++ [b] := by
  unfold odds
  rw [List.range_succ, List.map_append, List.filterMap_append]
  congr 1
  · refine fm_congr fun i hi => ?_
    obtain ⟨k, hk, rfl⟩ := List.mem_map.mp hi
    have := List.mem_range.mp hk
    rw [List.append_assoc, List.getElem?_append_left (by omega)]
  · have e : (1 + 2 * ((m : Nat) : Int)).toNat = l.length + 1 := by omega
    simp only [List.map_cons, List.map_nil, List.filterMap_cons, List.filterMap_nil]
    rw [e, List.append_assoc, List.getElem?_append_right (by omega)]
    simp
theorem evens_succ (m : Nat) (l : List Nat) (a b : Nat) (hl : l.length = 2 * m) : evens (m + 1) (l ++ [a] ++ [b]) = evens m l ++ [a] := by
  unfold evens
  rw [List.range_succ, List.map_append, List.filterMap_append]
  congr 1
  · refine fm_congr fun i hi => ?_
    obtain ⟨k, hk, rfl⟩ := List.mem_map.mp hi
    have := List.mem_range.mp hk
    rw [List.append_assoc, List.getElem?_append_left (by omega)]
  · have e : (0 + 2 * ((m : Nat) : Int)).toNat = l.length := by omega
    simp only [List.map_cons, List.map_nil, List.filterMap_cons, List.filterMap_nil]
    rw [e, List.append_assoc, List.getElem?_append_right (by omega)]
    simp
theorem num2_app (l : List Nat) (z : Nat) : num2 (l ++ [z]) = num2 l * 2 + (z - 48) := by
  unfold num2
  rw [List.foldl_append]
  rfl
theorem apart : ∀ (m x y : Nat), x < 2 ^ m → y < 2 ^ m → num2 (odds m (dg (2 * m) (spr x + 2 * spr y))) = x ∧ num2 (evens m (dg (2 * m) (spr x + 2 * spr y))) = y
  | 0, x, y, hx, hy => by
    have : x = 0 := by simp at hx; omega
    have : y = 0 := by simp at hy; omega
    subst x y
    exact ⟨rfl, rfl⟩
  | m + 1, x, y, hx, hy => by
    rw [Nat.pow_succ] at hx hy
    have e1 : (spr x + 2 * spr y) / 2 / 2 = spr (x / 2) + 2 * spr (y / 2) := by rw [spr_eq x, spr_eq y]; omega
    have e2 : (spr x + 2 * spr y) % 2 = x % 2 := by rw [spr_eq x, spr_eq y]; omega
    have e3 : (spr x + 2 * spr y) / 2 % 2 = y % 2 := by rw [spr_eq x, spr_eq y]; omega
    have e : dg (2 * (m + 1)) (spr x + 2 * spr y) = dg (2 * m) (spr (x / 2) + 2 * spr (y / 2)) ++ [48 + y % 2] ++ [48 + x % 2] := by
      show dg (2 * m) ((spr x + 2 * spr y) / 2 / 2) ++ [48 + (spr x + 2 * spr y) / 2 % 2] ++ [48 + (spr x + 2 * spr y) % 2] = _
      rw [e1, e2, e3]
    obtain ⟨h1, h2⟩ := apart m (x / 2) (y / 2) (by omega) (by omega)
    rw [e, odds_succ _ _ _ _ (dg_len _ _), evens_succ _ _ _ _ (dg_len _ _), num2_app, num2_app, h1, h2]
    omega
theorem odds_bits {m : Nat} {l : List Nat} (h : Bits l) : Bits (odds m l) := fun z hz => by
  obtain ⟨i, _, e⟩ := List.mem_filterMap.mp hz
  exact h z (List.mem_of_getElem? e)
theorem evens_bits {m : Nat} {l : List Nat} (h : Bits l) : Bits (evens m l) := fun z hz => by
  obtain ⟨i, _, e⟩ := List.mem_filterMap.mp hz
  exact h z (List.mem_of_getElem? e)
theorem odds_len {m : Nat} {l : List Nat} : (odds m l).length ≤ m := by
  unfold odds
  refine Nat.le_trans (List.length_filterMap_le _ _) ?_
  simp
theorem evens_len {m : Nat} {l : List Nat} : (evens m l).length ≤ m := by
  unfold evens
  refine Nat.le_trans (List.length_filterMap_le _ _) ?_
  simp
theorem odds_ne {m : Nat} {l : List Nat} (hl : l.length = 2 * (m + 1)) : odds (m + 1) l ≠ [] := fun z => by
  have h : l[1]? ≠ none := by rw [Ne, List.getElem?_eq_none_iff]; omega
  have := (List.filterMap_eq_nil_iff.mp z) 1 (List.mem_map.mpr ⟨0, by simp, rfl⟩)
  exact h this
theorem evens_ne {m : Nat} {l : List Nat} (hl : l.length = 2 * (m + 1)) : evens (m + 1) l ≠ [] := fun z => by
  have h : l[0]? ≠ none := by rw [Ne, List.getElem?_eq_none_iff]; omega
  have := (List.filterMap_eq_nil_iff.mp z) 0 (List.mem_map.mpr ⟨0, by simp, rfl⟩)
  exact h this
theorem every_odd {l : List Nat} (hl : l.length = 80) : every2 1 (⟨l.toArray⟩ : PySem.Str) = ⟨(odds 40 l).toArray⟩ := by
  have e : (⟨l.toArray⟩ : PySem.Str).length = 80 := by simpa [PySem.Str.length] using hl
  have e2 : Builtin.Str.strSliceIndices (some 1) none 2 80 = (List.range 40).map fun (k : Nat) => (1 + 2 * (k : Int)).toNat := rfl
  unfold every2 odds
  rw [e, e2]
  congr 2
  refine fm_congr fun i _ => ?_
  simp
theorem every_even {l : List Nat} (hl : l.length = 80) : every2 0 (⟨l.toArray⟩ : PySem.Str) = ⟨(evens 40 l).toArray⟩ := by
  have e : (⟨l.toArray⟩ : PySem.Str).length = 80 := by simpa [PySem.Str.length] using hl
  have e2 : Builtin.Str.strSliceIndices (some 0) none 2 80 = (List.range 40).map fun (k : Nat) => (0 + 2 * (k : Int)).toNat := rfl
  unfold every2 evens
  rw [e, e2]
  congr 2
  refine fm_congr fun i _ => ?_
  simp
section
variable {S : Sto} {Q : Va → Sto → Prop} {Γ : En}
theorem zfill_bin {n : Nat} (h : n < 2 ^ 80) : Txt.zfill (⟨(binL n).toArray⟩ : PySem.Str) 80 = ⟨(dg 80 n).toArray⟩ := by
  have hl := binL_le 80 n (by decide) h
  have e : (⟨(binL n).toArray⟩ : PySem.Str).length = (binL n).length := by simp [PySem.Str.length]
  have p := pad_dg 80 n (by decide) h
  unfold Txt.zfill
  rw [e]
  by_cases z : (binL n).length = 80
  · rw [if_pos (by omega)]
    rw [z] at p
    simp only [Nat.sub_self, List.replicate_zero, List.nil_append] at p
    rw [p]
  · rw [if_neg (by omega), ← p]
    obtain ⟨y, ys, eb⟩ : ∃ y ys, binL n = y :: ys := by
      cases hb : binL n with
      | nil => exact absurd hb (by have := binL_ne n; intro q; rw [q] at this; cases this)
      | cons y ys => exact ⟨y, ys, rfl⟩
    have hy : y = 48 ∨ y = 49 := binL_bits n y (by rw [eb]; exact List.mem_cons_self ..)
    rw [eb]
    show zfilled (⟨(y :: ys).toArray⟩ : PySem.Str) _ = _
    unfold zfilled
    have e0 : (⟨(y :: ys).toArray⟩ : PySem.Str).cps[0]? = some y := by simp
    rw [e0]
    rcases hy with rfl | rfl <;> (simp [Builtin.Str.padded])
end
end PM

namespace PM
open PySem PySem.Spec PyProof.Rows L2 Q2
theorem or_nat (a b : Nat) : Builtin.bitOr (a : Int) (b : Int) = ((a ||| b : Nat) : Int) := by
  have n1 : Builtin.bitNot (Builtin.bitNot (a : Int)) = a := by unfold Builtin.bitNot; omega
  have n2 : Builtin.bitNot (Builtin.bitNot (b : Int)) = b := by unfold Builtin.bitNot; omega
  unfold Builtin.bitOr Builtin.bitAnd
  rw [decide_eq_false (show ¬ (0 : Int) ≤ Builtin.bitNot a by unfold Builtin.bitNot; omega), decide_eq_false (show ¬ (0 : Int) ≤ Builtin.bitNot b by unfold Builtin.bitNot; omega)]
  simp only [n1, n2, Int.toNat_natCast]
  unfold Builtin.bitNot
  omega
theorem xor_lt2 (a b m : Nat) : a ^^^ b < 2 ^ m ↔ a / 2 ^ m = b / 2 ^ m := by
  rw [← Nat.div_eq_zero_iff_lt (Nat.pow_pos (by decide)), ← Nat.shiftRight_eq_div_pow, ← Nat.shiftRight_eq_div_pow, ← Nat.shiftRight_eq_div_pow, Nat.shiftRight_xor_distrib]
  constructor
  · intro h
    have e : a >>> m ^^^ b >>> m ^^^ b >>> m = 0 ^^^ b >>> m := by rw [h]
    rw [Nat.xor_assoc, Nat.xor_self] at e
    simpa using e
  · intro h
    rw [h, Nat.xor_self]
theorem or_lt2 (a b m : Nat) : a ||| b < 2 ^ m ↔ a < 2 ^ m ∧ b < 2 ^ m :=
  ⟨fun h => ⟨Nat.lt_of_le_of_lt Nat.left_le_or h, Nat.lt_of_le_of_lt Nat.right_le_or h⟩, fun h => Nat.or_lt_two_pow h.1 h.2⟩
/-- how many figures two places must lose to be one -/
def upN (p q : Pt) : Nat := Builtin.Int.intBits (Builtin.bitOr (Builtin.bitXor p.1 q.1) (Builtin.bitXor p.2 q.2))
theorem up_iff {p q : Pt} (h1 : 0 ≤ p.1) (h2 : 0 ≤ p.2) (h3 : 0 ≤ q.1) (h4 : 0 ≤ q.2) (t : Nat) : upN p q ≤ t ↔ p.1 / 2 ^ t = q.1 / 2 ^ t ∧ p.2 / 2 ^ t = q.2 / 2 ^ t := by
  obtain ⟨p1, p2⟩ := p
  obtain ⟨q1, q2⟩ := q
  obtain ⟨a, rfl⟩ : ∃ n : Nat, p1 = n := ⟨p1.toNat, by simp only at h1; omega⟩
  obtain ⟨b, rfl⟩ : ∃ n : Nat, p2 = n := ⟨p2.toNat, by simp only at h2; omega⟩
  obtain ⟨c, rfl⟩ : ∃ n : Nat, q1 = n := ⟨q1.toNat, by simp only at h3; omega⟩
  obtain ⟨d, rfl⟩ : ∃ n : Nat, q2 = n := ⟨q2.toNat, by simp only at h4; omega⟩
  unfold upN
  simp only [xor_nat, or_nat]
  rw [bits_le, or_lt2, xor_lt2, xor_lt2]
  have e : ∀ n : Nat, (n : Int) / 2 ^ t = ((n / 2 ^ t : Nat) : Int) := fun n => by simp
  rw [e, e, e, e]
  omega
theorem up_comm (p q : Pt) (h1 : 0 ≤ p.1) (h2 : 0 ≤ p.2) (h3 : 0 ≤ q.1) (h4 : 0 ≤ q.2) : upN p q = upN q p := by
  have a := up_iff h1 h2 h3 h4
  have b := up_iff h3 h4 h1 h2
  have c := (a (upN q p)).mpr (by have := (b _).mp (Nat.le_refl _); exact ⟨this.1.symm, this.2.symm⟩)
  have d := (b (upN p q)).mpr (by have := (a _).mp (Nat.le_refl _); exact ⟨this.1.symm, this.2.symm⟩)
  omega
theorem inSq.nat {f : Nat} {p : Pt} (h : inSq f p) : 0 ≤ p.1 ∧ 0 ≤ p.2 ∧ p.1.toNat < 2 ^ f ∧ p.2.toNat < 2 ^ f := by
  obtain ⟨p1, p2, p3, p4⟩ := h
  rw [Int.toNat_natCast] at p2 p4
  refine ⟨p1, p3, ?_, ?_⟩
  · have : ((p.1.toNat : Nat) : Int) < ((2 ^ f : Nat) : Int) := by simp; omega
    exact Int.ofNat_lt.mp this
  · have : ((p.2.toNat : Nat) : Int) < ((2 ^ f : Nat) : Int) := by simp; omega
    exact Int.ofNat_lt.mp this
theorem inSq.int {f : Nat} {p : Pt} (h : inSq f p) : 0 ≤ p.1 ∧ p.1 < 2 ^ f ∧ 0 ≤ p.2 ∧ p.2 < 2 ^ f := by
  obtain ⟨p1, p2, p3, p4⟩ := h
  rw [Int.toNat_natCast] at p2 p4
  exact ⟨p1, p2, p3, p4⟩
theorem inSq_mk {f : Nat} {x y : Int} (h1 : 0 ≤ x) (h2 : x < 2 ^ f) (h3 : 0 ≤ y) (h4 : y < 2 ^ f) : inSq f (x, y) := by
  unfold inSq
  rw [Int.toNat_natCast]
  exact ⟨h1, h2, h3, h4⟩
theorem up_le {f : Nat} {p q : Pt} (hp : inSq f p) (hq : inSq f q) : upN p q ≤ f := by
  obtain ⟨a1, a2, a3, a4⟩ := hp.int
  obtain ⟨b1, b2, b3, b4⟩ := hq.int
  refine (up_iff a1 a3 b1 b3 f).mpr ?_
  rw [Int.ediv_eq_zero_of_lt a1 a2, Int.ediv_eq_zero_of_lt a3 a4, Int.ediv_eq_zero_of_lt b1 b2, Int.ediv_eq_zero_of_lt b3 b4]
  exact ⟨rfl, rfl⟩
theorem up_self (p : Pt) (h1 : 0 ≤ p.1) (h2 : 0 ≤ p.2) : upN p p = 0 := Nat.le_zero.mp ((up_iff h1 h2 h1 h2 0).mpr ⟨rfl, rfl⟩)
def comC (f : Nat) (p q : Pt) : Cl := ((f : Int) - (upN p q : Nat), p.1 / 2 ^ upN p q, p.2 / 2 ^ upN p q)
/-! ### the codes of a cell -/
theorem spr_zero : spr 0 = 0 := rfl
theorem spr_at : ∀ (m a b : Nat), b < 2 ^ m → spr (a * 2 ^ m + b) = spr a * 4 ^ m + spr b
  | 0, a, b, h => by
    have : b = 0 := by simp at h; omega
    subst this
    simp [spr_zero]
  | m + 1, a, b, h => by
    rw [Nat.pow_succ] at h
    have e1 : (a * 2 ^ (m + 1) + b) / 2 = a * 2 ^ m + b / 2 := by rw [Nat.pow_succ, ← Nat.mul_assoc]; omega
    have e2 : (a * 2 ^ (m + 1) + b) % 2 = b % 2 := by rw [Nat.pow_succ, ← Nat.mul_assoc]; omega
    rw [spr_eq, e1, e2, spr_at m a (b / 2) (by omega), spr_eq b, Nat.pow_succ 4, ← Nat.mul_assoc]
    omega
theorem spr_ones : ∀ m : Nat, 3 * spr (2 ^ m - 1) + 1 = 4 ^ m
  | 0 => rfl
  | m + 1 => by
    have h : 0 < 2 ^ m := Nat.pow_pos (by decide)
    have e1 : (2 ^ (m + 1) - 1) / 2 = 2 ^ m - 1 := by rw [Nat.pow_succ]; omega
    have e2 : (2 ^ (m + 1) - 1) % 2 = 1 := by rw [Nat.pow_succ]; omega
    have := spr_ones m
    rw [spr_eq, e1, e2, Nat.pow_succ]
    omega
/-- the least code of a cell -/
theorem cod_first (m a b : Nat) : spr (a * 2 ^ m) + 2 * spr (b * 2 ^ m) = (spr a + 2 * spr b) * 4 ^ m := by
  have h1 := spr_at m a 0 (Nat.pow_pos (by decide))
  have h2 := spr_at m b 0 (Nat.pow_pos (by decide))
  rw [Nat.add_zero, spr_zero, Nat.add_zero] at h1 h2
  rw [h1, h2, Nat.add_mul, Nat.mul_assoc]
theorem cod_last (m a b : Nat) : spr (a * 2 ^ m + (2 ^ m - 1)) + 2 * spr (b * 2 ^ m + (2 ^ m - 1)) = (spr a + 2 * spr b) * 4 ^ m + (4 ^ m - 1) := by
  have hp : 0 < 2 ^ m := Nat.pow_pos (by decide)
  rw [spr_at m a _ (by omega), spr_at m b _ (by omega), Nat.add_mul, Nat.mul_assoc]
  have := spr_ones m
  omega
theorem spr_lt : ∀ (k x : Nat), x < 2 ^ k → spr x + 2 * spr x < 4 ^ k
  | 0, x, h => by
    have : x = 0 := by simp at h; omega
    subst this
    decide
  | k + 1, x, h => by
    rw [Nat.pow_succ] at h
    have := spr_lt k (x / 2) (by omega)
    rw [spr_eq x, Nat.pow_succ]
    omega
theorem codN_lt {k x y : Nat} (hx : x < 2 ^ k) (hy : y < 2 ^ k) : spr x + 2 * spr y < 4 ^ k := by
  have h1 := spr_lt k x hx
  have h2 := spr_lt k y hy
  omega
theorem pow4 (m : Nat) : (4 : Nat) ^ m = 2 ^ (2 * m) := by rw [Nat.pow_mul]
theorem pow4_80 {f : Nat} (h : f ≤ 40) : (4 : Nat) ^ f ≤ 1208925819614629174706176 := by
  have h1 : (4 : Nat) ^ f ≤ 4 ^ 40 := Nat.pow_le_pow_right (by decide) h
  have : (4 : Nat) ^ 40 = 1208925819614629174706176 := by decide
  omega
end PM

namespace PM
open PySem PySem.Spec PyProof.Rows L2 Q2
local macro_rules | `(tactic| walk_at "fn") => `(tactic| (first | refine w_fn1 ?_ | refine w_fn2 ?_ | refine w_fn3 ?_ | refine w_fn4 ?_ | refine w_fn5 ?_ | refine w_fn6 ?_); dsimp only [List.replicate])
local macro_rules | `(tactic| walk_at "kb") => `(tactic| with_reducible first | exact kb_int_int | exact kb_int_bool | exact kb_int_str | exact kb_int_list | exact kb_int_tuple | exact kb_bool_int | exact kb_bool_bool | exact kb_bool_str | exact kb_bool_list | exact kb_bool_tuple | exact kb_str_int | exact kb_str_bool | exact kb_str_str | exact kb_str_list | exact kb_str_tuple | exact kb_list_int | exact kb_list_bool | exact kb_list_str | exact kb_list_list | exact kb_list_tuple | exact kb_tuple_int | exact kb_tuple_bool | exact kb_tuple_str | exact kb_tuple_list | exact kb_tuple_tuple | exact kb_NoneType_int | exact kb_NoneType_bool | exact kb_NoneType_str | exact kb_NoneType_list | exact kb_NoneType_tuple)
local macro_rules | `(tactic| walk_at "go1") => `(tactic| first
  | ((with_reducible refine w_var (v := ?v) ?h ?_); case h => exact rfl)
  | with_reducible first
  | refine w_c ?_ | refine w_m2 ?_ | refine w_m1 ?_ | refine w_maC ?_ | refine w_maN ?_ | refine w_mL ?_ | refine w_call ?_
  | refine w_mtOf ?_ | refine w_mtNot ?_ | refine w_mtAnd ?_ | refine w_mtOr ?_ | refine w_meAnd ?_ | refine w_meOr ?_ | refine w_mNot ?_
  | refine ws_seq ?_ | (refine ws_set ?_) | refine ws_ret ?_ | refine ws_if ?_ | refine ws_expr ?_ | refine ws_nil ?_ | refine ws_asg ?_
  | refine wo_int ?_ | refine wo_add ?_ | refine wo_addI ?_ | refine wo_sub ?_ | refine wo_lt ?_ | refine wo_le ?_ | refine wo_gt ?_ | refine wo_ge ?_
  | refine wo_max2 ?_ | refine wo_min2 ?_ | refine wo_abs ?_ | refine wo_neg ?_ | refine wo_eqI ?_ | refine wo_neI ?_ | refine wo_intB ?_ | refine wo_ixT rfl ?_ | refine ws_brk ?_ | refine ws_cnt ?_ | refine w_if ?_ | refine ws_par ?_ | refine ws_par3 ?_ | (refine ⟨_, _, rfl, ?_⟩) | (refine ⟨_, _, _, rfl, ?_⟩) | refine w_isN ?_ | refine w_notN ?_ | refine ite_t ?_ | refine ite_f ?_ | refine ite_nt ?_ | refine ite_nf ?_ | refine w_chain ?_ | refine w_isiT ?_ | refine wg_sub ?_ | (refine ⟨_, rfl, ?_⟩) | refine wg_v ?_ | refine wg_c ?_ | refine wg_n ?_ | refine w_sl ?_ | refine w_optS ?_ | refine w_optN ?_ | refine wo_sl31 ?_)
local macro_rules | `(tactic| walk_at "go2") => `(tactic| first
  | walk_at "go1"
  | ((with_reducible refine wo_mod ?h ?_); case h => omega) | ((with_reducible refine wo_div ?h ?_); case h => omega) | ((with_reducible refine wo_mul_l ?h ?_); case h => omega) | ((with_reducible refine wo_mul_r ?h ?_); case h => omega)
  | ((with_reducible refine wo_shr ?h ?_); case h => omega) | ((with_reducible refine wo_shl ?h ?_); case h => omega) | ((with_reducible refine wo_pow ?h ?_); case h => omega)
  | ((with_reducible refine ite_d ?a ?b); (case b => exact fun h => absurd (by omega) h); intro _)
  | ((with_reducible refine ite_d ?a ?b); (case a => exact fun h => absurd h (by omega)); intro _)
  | ((with_reducible refine ite_d ?a ?b) <;> intro _)
  | ((with_reducible refine ⟨_, _, ?xs, ?j, rfl, rfl, ?h, ?e, ?_⟩); (case h => assumption); (case e => exact rfl))
  | ((with_reducible refine ite_nd ?a ?b); (case b => exact fun h => absurd h (by omega)); intro _)
  | ((with_reducible refine ite_nd ?a ?b); (case a => exact fun h => absurd (by omega) h); intro _)
  | ((with_reducible refine ite_nd ?a ?b) <;> intro _)
  | ((with_reducible refine wg_t ?h ?_); case h => exact rfl)
  | ((with_reducible refine wo_addL (xs := ?xs) (ys := ?ys) (lst_ref ?h1) (lst_ref ?h2) ?h3 ?_); (case h1 => first | assumption | exact get_app (by assumption)); (case h2 => first | assumption | exact get_app (by assumption)); (case h3 => (show _ ≤ 2 ^ 24; simp only [List.length_append, List.length_cons, List.length_nil, List.length_map]; omega)))
  | ((with_reducible refine wo_isi (k := ?k) (b := ?b) ?h1 ?h2 ?_); (case h1 => first | exact rfl | exact kind_ref (by assumption)); (case h2 => walk_at "kb"))
  | ((with_reducible refine wo_len (xs := ?xs) ?h ?_); (case h => first | exact rfl | exact seq_ref (by assumption)))
  | ((with_reducible refine wo_ixL (xs := ?xs) (x := ?x) ?h1 ?h2 ?_); (case h1 => exact lst_ref (by assumption)); (case h2 => exact rfl))
  | ((with_reducible refine wo_tup ?h ?_); case h => (simp only [List.length_cons, List.length_nil]; decide)) | ((with_reducible refine wo_lst ?h ?_); case h => (simp only [List.length_cons, List.length_nil]; decide)))
local macro_rules | `(tactic| walk_at "go") => `(tactic| (repeat' walk_at "go2") <;> try dsimp only [List.set_cons_zero, List.set_cons_succ])

section
variable {S : Sto} {Q : Va → Sto → Prop} {Γ : En}
theorem wo_binF {i : Int} {k : Nat} (h0 : 0 ≤ i) (h : i.toNat < 2 ^ k) (hk : k ≤ 600) (q : Q (.str (⟨(binL i.toNat).toArray⟩ : PySem.Str)) S) : Wo (binF (.int i) S) Q := by
  have e : i.natAbs = i.toNat := by omega
  unfold binF
  simp only
  rw [e, if_pos ⟨h0, by have := binL_len k i.toNat h; omega⟩]
  exact q
theorem binL_ne' (n : Nat) : binL n ≠ [] := by
  have := binL_ne n
  intro z
  rw [z] at this
  cases this
theorem isBits_of {l : List Nat} (h : Bits l) : isBits l = true := List.all_eq_true.mpr fun z hz => by rcases h z hz with rfl | rfl <;> rfl
theorem wo_int4 {n k : Nat} (h : n < 2 ^ k) (hk : k ≤ 600) (q : Q (.int ((spr n : Nat) : Int)) S) : Wo (fInt4 [.str (⟨(binL n).toArray⟩ : PySem.Str), .int 4] S) Q := by
  show Wo (if (4 : Int) = 4 ∧ binL n ≠ [] ∧ (binL n).length ≤ 640 ∧ isBits (binL n) = true then some (.int ((num4 (binL n) : Nat) : Int), S) else none) Q
  rw [if_pos ⟨rfl, binL_ne' n, by have := binL_len k n h; omega, isBits_of (binL_bits n)⟩]
  exact q
theorem wo_int2 {l : List Nat} (h : Bits l) (hn : l ≠ []) (hl : l.length ≤ 640) (q : Q (.int ((num2 l : Nat) : Int)) S) : Wo (fInt2 [.str (⟨l.toArray⟩ : PySem.Str), .int 2] S) Q := by
  show Wo (if (2 : Int) = 2 ∧ l ≠ [] ∧ l.length ≤ 640 ∧ isBits l = true then some (.int ((num2 l : Nat) : Int), S) else none) Q
  rw [if_pos ⟨rfl, hn, hl, isBits_of h⟩]
  exact q
theorem wo_bits {i : Int} (q : Q (.int (Builtin.Int.intBits i : Nat)) S) : Wo (bitsI (.int i) S) Q := q
theorem wo_shlW {i : Int} {j : Nat} {n : Nat} (h : i.natAbs < 2 ^ n) (hn : n + j ≤ 134217728) (q : Q (.int (i * 2 ^ j)) S) : Wo (shlW (.int i) (.int j) S) Q := by
  refine wo_fI2 (by unfold shlCW; exact decide_eq_true (shl_ok h hn)) ?_
  rw [Int.toNat_natCast]
  exact q
theorem w_zf {o : ME} {t : MA} (h : Wp (o Γ S) fun v S1 => ∃ z, v = .str z ∧ Wp (t Γ S1) fun vs S2 => ∃ i, vs = [.int i] ∧ PadOk i = true ∧ Q (.str (Txt.zfill z i)) S2) : Wp (mZf o t Γ S) Q := Wp.bind (h.mono fun v S1 h => by
  obtain ⟨z, rfl, h⟩ := h
  refine Wp.bind (h.mono fun vs S2 h => ?_)
  obtain ⟨i, rfl, hp, q⟩ := h
  simp only
  rw [if_pos hp]
  exact q)
theorem wo_odd {l : List Nat} (hl : l.length = 80) (q : Q (.str (⟨(odds 40 l).toArray⟩ : PySem.Str)) S) : Wo (sl2F 1 (.str (⟨l.toArray⟩ : PySem.Str)) S) Q := by
  unfold sl2F
  simp only
  rw [every_odd hl, if_pos]
  · exact q
  · have := odds_len (m := 40) (l := l)
    show (odds 40 l).toArray.size ≤ 2 ^ 24
    rw [List.size_toArray]
    omega
theorem wo_even {l : List Nat} (hl : l.length = 80) (q : Q (.str (⟨(evens 40 l).toArray⟩ : PySem.Str)) S) : Wo (sl2F 0 (.str (⟨l.toArray⟩ : PySem.Str)) S) Q := by
  unfold sl2F
  simp only
  rw [every_even hl, if_pos]
  · exact q
  · have := evens_len (m := 40) (l := l)
    show (evens 40 l).toArray.size ≤ 2 ^ 24
    rw [List.size_toArray]
    omega
end
theorem sp_code_at {S : Sto} {f : Nat} {p : Pt} (hf : f ≤ 40) (h : inSq f p) : Wp (m_code_at [ptV p] S) (fun v S' => v = .int (cod p) ∧ S' = S) := by
  obtain ⟨h1, h2, h3, h4⟩ := h.nat
  walk_at "fn"
  unfold b_code_at
  walk_at "go"
  refine wo_binF h1 h3 (by omega) ?_
  walk_at "go"
  refine wo_int4 h3 (by omega) ?_
  walk_at "go"
  refine wo_binF h2 h4 (by omega) ?_
  walk_at "go"
  refine wo_int4 h4 (by omega) ?_
  walk_at "go"
  refine ⟨?_, rfl⟩
  unfold cod
  congr 1
theorem pt_int {f : Nat} {p : Pt} (h : inSq f p) : p = (((p.1.toNat : Nat) : Int), ((p.2.toNat : Nat) : Int)) := by
  obtain ⟨h1, h2, _, _⟩ := h.nat
  exact Prod.ext (by simp only; omega) (by simp only; omega)
theorem sp_place_at {S : Sto} {f : Nat} {p : Pt} (hf : f ≤ 40) (h : inSq f p) : Wp (m_place_at [.int (cod p)] S) (fun v S' => v = ptV p ∧ S' = S) := by
  obtain ⟨h1, h2, h3, h4⟩ := h.nat
  have g3 : p.1.toNat < 2 ^ 40 := Nat.lt_of_lt_of_le h3 (Nat.pow_le_pow_right (by decide) hf)
  have g4 : p.2.toNat < 2 ^ 40 := Nat.lt_of_lt_of_le h4 (Nat.pow_le_pow_right (by decide) hf)
  have hc : cod p < 2 ^ 80 := by have := codN_lt g3 g4; rw [pow4] at this; exact this
  obtain ⟨e1, e2⟩ := apart 40 p.1.toNat p.2.toNat g3 g4
  have ez := zfill_bin hc
  have hb := dg_bits 80 (cod p)
  have hl := dg_len 80 (cod p)
  have ed : dg (2 * 40) (spr p.1.toNat + 2 * spr p.2.toNat) = dg 80 (cod p) := rfl
  rw [ed] at e1 e2
  generalize dg 80 (cod p) = l at ez hb hl e1 e2
  have n1 : odds 40 l ≠ [] := odds_ne (m := 39) (by omega)
  have n2 : evens 40 l ≠ [] := evens_ne (m := 39) (by omega)
  have b1 := odds_bits (m := 40) hb
  have b2 := evens_bits (m := 40) hb
  have l1 := odds_len (m := 40) (l := l)
  have l2 := evens_len (m := 40) (l := l)
  have eo := fun Q S => wo_odd (S := S) (Q := Q) hl
  have ee := fun Q S => wo_even (S := S) (Q := Q) hl
  generalize odds 40 l = o at n1 b1 l1 e1 eo
  generalize evens 40 l = u at n2 b2 l2 e2 ee
  have i1 := fun Q S => wo_int2 (S := S) (Q := Q) b1 n1 (by omega)
  have i2 := fun Q S => wo_int2 (S := S) (Q := Q) b2 n2 (by omega)
  have pk : PadOk (2 * 40) = true := by decide +kernel
  have ez2 : Txt.zfill (⟨(binL ((cod p : Nat) : Int).toNat).toArray⟩ : PySem.Str) (2 * 40) = ⟨l.toArray⟩ := by rw [Int.toNat_natCast]; exact ez
  walk_at "fn"
  unfold b_place_at
  refine ws_seq (ws_set (w_zf (w_m1 (w_var rfl ?_))))
  refine wo_binF (k := 80) (by omega) (by rw [Int.toNat_natCast]; exact hc) (by decide) ?_
  refine ⟨_, rfl, ?_⟩
  walk_at "go"
  refine ⟨pk, ?_⟩
  rw [ez2]
  refine ws_ret (w_mL (w_maC (w_mL (w_maC (w_m1 (w_var rfl (eo _ _ ?_)))))))
  refine w_maC (w_c (w_maN (i1 _ _ ?_)))
  refine w_maC (w_mL (w_maC (w_m1 (w_var rfl (ee _ _ ?_)))))
  refine w_maC (w_c (w_maN (i2 _ _ ?_)))
  refine w_maN (wo_tup (by show 2 ≤ 2 ^ 24; decide) ?_)
  refine ⟨?_, rfl⟩
  rw [e1, e2, Int.toNat_of_nonneg h1, Int.toNat_of_nonneg h2]
theorem sp_code_of {S : Sto} {f : Nat} {p : Pt} (hf : f ≤ 40) (h : inSq f p) : Wp (m_code_of [.int f, ptV p] S) (fun v S' => v = .int (cod p) ∧ S' = S) := by
  walk_at "fn"
  unfold b_code_of
  walk_at "go"
  refine (sp_check_figures ⟨by omega, by omega⟩).mono ?_
  rintro _ S1 rfl
  walk_at "go"
  refine (sp_check_place ⟨by omega, by omega⟩ h).mono ?_
  rintro _ S1 rfl
  walk_at "go"
  exact sp_code_at hf h
theorem sp_check_code {S : Sto} {f : Nat} {p : Pt} (hf : f ≤ 40) (h : inSq f p) : Wp (m_check_code [.int (cod p), .int f] S) (fun v S' => S' = S) := by
  have hc := cod_lt h
  have hp := pow4_80 hf
  walk_at "fn"
  unfold b_check_code
  walk_at "go"
  have e : (1 : Int) * 2 ^ (2 * (f : Int)).toNat = ((4 ^ f : Nat) : Int) := by
    have : (2 * (f : Int)).toNat = 2 * f := by omega
    rw [this, Int.one_mul, pow4]
    simp
  rw [e]
  refine (sp_check_number ⟨by omega, by omega⟩).mono ?_
  rintro _ S1 rfl
  walk_at "go"
theorem sp_place_of {S : Sto} {f : Nat} {p : Pt} (hf : f ≤ 40) (h : inSq f p) : Wp (m_place_of [.int f, .int (cod p)] S) (fun v S' => v = ptV p ∧ S' = S) := by
  walk_at "fn"
  unfold b_place_of
  walk_at "go"
  refine (sp_check_figures ⟨by omega, by omega⟩).mono ?_
  rintro _ S1 rfl
  walk_at "go"
  refine (sp_check_code hf h).mono ?_
  rintro _ S1 rfl
  walk_at "go"
  exact sp_place_at hf h
theorem sp_cell_of_place {S : Sto} {f : Int} {p : Pt} : Wp (m_cell_of_place [.int f, ptV p] S) (fun v S' => v = clV (f, p) ∧ S' = S) := by
  walk_at "fn"
  unfold b_cell_of_place
  walk_at "go"
  exact ⟨rfl, rfl⟩
theorem sp_cell_of_both {S : Sto} {f : Nat} {p q : Pt} : Wp (m_cell_of_both [.int f, clV (f, p), ptV q] S) (fun v S' => v = clV (comC f p q) ∧ S' = S) := by
  walk_at "fn"
  unfold b_cell_of_both
  walk_at "go"
  refine (sp_cell_at (Int.le_refl _)).mono ?_
  rintro _ S1 ⟨rfl, rfl⟩
  have e : cellOf (f : Int) f q = ((f : Int), q.1, q.2) := by unfold cellOf; simp
  rw [e]
  walk_at "go"
  refine wo_xor ?_
  walk_at "go"
  refine wo_xor ?_
  refine wo_or ?_
  refine wo_bits ?_
  walk_at "go"
  refine ⟨?_, rfl⟩
  unfold comC upN
  simp only [Int.toNat_natCast]
theorem sp_common_cell {S : Sto} {f : Nat} {p q : Pt} (hf : f ≤ 40) (hp : inSq f p) (hq : inSq f q) : Wp (m_common_cell [.int f, ptV p, ptV q] S) (fun v S' => v = clV (comC f p q) ∧ S' = S) := by
  walk_at "fn"
  unfold b_common_cell
  walk_at "go"
  refine (sp_check_figures ⟨by omega, by omega⟩).mono ?_
  rintro _ S1 rfl
  walk_at "go"
  refine (sp_check_place ⟨by omega, by omega⟩ hp).mono ?_
  rintro _ S1 rfl
  walk_at "go"
  refine (sp_check_place ⟨by omega, by omega⟩ hq).mono ?_
  rintro _ S1 rfl
  walk_at "go"
  refine sp_cell_of_place.mono ?_
  rintro _ S1 ⟨rfl, rfl⟩
  walk_at "go"
  exact sp_cell_of_both
/-! ### cells -/
def inCl (f : Nat) (c : Cl) : Prop := ∃ l : Nat, c.1 = l ∧ l ≤ f ∧ inSq l (c.2.1, c.2.2)
theorem sp_is_cell {S : Sto} {f : Nat} {c : Cl} (hf : f ≤ 40) (h : inCl f c) : Wp (m_is_cell [clV c, .int f] S) (fun v S' => v = .bl true ∧ Gr S S') := by
  obtain ⟨l, h1, h2, h3⟩ := h
  obtain ⟨a, b, d, e⟩ := h3.int
  simp only at a b d e
  have hp := pow40 (n := l) (by omega)
  have hq : (2 : Int) ^ c.1.toNat = 2 ^ l := by rw [h1]; simp
  walk_at "fn"
  unfold b_is_cell
  walk_at "go"
  · next h => exact absurd rfl h
  refine w_comp (clV c) [c.1, c.2.1, c.2.2] Va.int (fun _ => true) (fun _ => .bl true) (by show 3 < 2 ^ 24; decide) (.inr (.inl rfl)) ?_ ?_ ?_
  · walk_at "go"
    exact ⟨rfl, rfl⟩
  · intro q S1 _ g1
    walk_at "go"
    refine ⟨rfl, ?_⟩
    rw [if_pos rfl]
    walk_at "go"
    refine sp_is_integer.mono ?_
    rintro _ S2 ⟨rfl, rfl⟩
    exact ⟨rfl, g1⟩
  · intro S2 g2
    refine Wo.eq (v := .bl true) (S := S2 ++ [Ob.lst [.bl true, .bl true, .bl true]]) ?_ ?_
    · show (match (lstOf (S2 ++ [Ob.lst [.bl true, .bl true, .bl true]]) (.ref S2.length)).bind boolsOf with
        | some ns => some (Va.bl (ns.all id), S2 ++ [Ob.lst [.bl true, .bl true, .bl true]])
        | none => none) = _
      rw [lst_ref get_last]
      rfl
    have g3 := g2.trans (Gr.app S2 [Ob.lst [.bl true, .bl true, .bl true]])
    generalize S2 ++ [Ob.lst [.bl true, .bl true, .bl true]] = S3 at g3 ⊢
    walk_at "go"
    exact ⟨by rw [decide_eq_true (by omega)], g3⟩
theorem sp_check_cell {S : Sto} {f : Nat} {c : Cl} (hf : f ≤ 40) (h : inCl f c) : Wp (m_check_cell [clV c, .int f] S) (fun v S' => Gr S S') := by
  walk_at "fn"
  unfold b_check_cell
  walk_at "go"
  refine (sp_is_cell hf h).mono ?_
  rintro v S' ⟨rfl, g⟩
  walk_at "go"
  exact g
def strC (f : Nat) (c : Cl) : Int × Int := (((cod (c.2.1, c.2.2) * 4 ^ (f - c.1.toNat) : Nat) : Int), ((cod (c.2.1, c.2.2) * 4 ^ (f - c.1.toNat) + (4 ^ (f - c.1.toNat) - 1) : Nat) : Int))
theorem sp_codes_of {S : Sto} {f : Nat} {c : Cl} (hf : f ≤ 40) (h : inCl f c) : Wp (m_codes_of [.int f, clV c] S) (fun v S' => v = ptV (strC f c) ∧ S' = S) := by
  obtain ⟨l, h1, h2, h3⟩ := h
  have hc : cod (c.2.1, c.2.2) < 2 ^ 80 := by
    have := cod_lt h3
    have hp : (4 : Nat) ^ l ≤ 4 ^ 40 := Nat.pow_le_pow_right (by decide) (by omega)
    have : (4 : Nat) ^ 40 = 2 ^ 80 := by decide
    omega
  walk_at "fn"
  unfold b_codes_of
  walk_at "go"
  refine (sp_code_at (show l ≤ 40 by omega) h3).mono ?_
  rintro _ S1 ⟨rfl, rfl⟩
  walk_at "go"
  have e : 2 * ((f : Int) - c.1) = ((2 * (f - c.1.toNat) : Nat) : Int) := by omega
  rw [e]
  refine wo_shlW (n := 80) (by simpa using hc) (by omega) ?_
  walk_at "go"
  refine ⟨?_, rfl⟩
  have e4 : (2 : Int) ^ (2 * (f - c.1.toNat)) = ((4 ^ (f - c.1.toNat) : Nat) : Int) := by rw [pow4]; simp
  have hp : 0 < 4 ^ (f - c.1.toNat) := Nat.pow_pos (by decide)
  unfold strC
  simp only [Int.toNat_natCast]
  rw [e4]
  generalize 4 ^ (f - c.1.toNat) = N at hp
  generalize cod (c.2.1, c.2.2) = C
  have x1 : (C : Int) * (N : Int) = ((C * N : Nat) : Int) := by simp
  rw [x1, Int.one_mul]
  have x2 : ((C * N : Nat) : Int) + (N : Int) - 1 = ((C * N + (N - 1) : Nat) : Int) := by omega
  rw [x2]
theorem sp_stretch_of {S : Sto} {f : Nat} {c : Cl} (hf : f ≤ 40) (h : inCl f c) : Wp (m_stretch_of [.int f, clV c] S) (fun v S' => v = ptV (strC f c) ∧ Gr S S') := by
  walk_at "fn"
  unfold b_stretch_of
  walk_at "go"
  refine (sp_check_figures ⟨by omega, by omega⟩).mono ?_
  rintro _ S1 rfl
  walk_at "go"
  refine (sp_check_cell hf h).mono ?_
  rintro _ S2 g
  walk_at "go"
  refine (sp_codes_of hf h).mono ?_
  rintro _ S3 ⟨rfl, rfl⟩
  exact ⟨rfl, g⟩
end PM

namespace PM
open PySem PySem.Spec PyProof.Rows L2 Q2
local macro_rules | `(tactic| walk_at "fn") => `(tactic| (first | refine w_fn1 ?_ | refine w_fn2 ?_ | refine w_fn3 ?_ | refine w_fn4 ?_ | refine w_fn5 ?_ | refine w_fn6 ?_); dsimp only [List.replicate])
local macro_rules | `(tactic| walk_at "kb") => `(tactic| with_reducible first | exact kb_int_int | exact kb_int_bool | exact kb_int_str | exact kb_int_list | exact kb_int_tuple | exact kb_bool_int | exact kb_bool_bool | exact kb_bool_str | exact kb_bool_list | exact kb_bool_tuple | exact kb_str_int | exact kb_str_bool | exact kb_str_str | exact kb_str_list | exact kb_str_tuple | exact kb_list_int | exact kb_list_bool | exact kb_list_str | exact kb_list_list | exact kb_list_tuple | exact kb_tuple_int | exact kb_tuple_bool | exact kb_tuple_str | exact kb_tuple_list | exact kb_tuple_tuple | exact kb_NoneType_int | exact kb_NoneType_bool | exact kb_NoneType_str | exact kb_NoneType_list | exact kb_NoneType_tuple)
local macro_rules | `(tactic| walk_at "go1") => `(tactic| first
  | ((with_reducible refine w_var (v := ?v) ?h ?_); case h => exact rfl)
  | with_reducible first
  | refine w_c ?_ | refine w_m2 ?_ | refine w_m1 ?_ | refine w_maC ?_ | refine w_maN ?_ | refine w_mL ?_ | refine w_call ?_
  | refine w_mtOf ?_ | refine w_mtNot ?_ | refine w_mtAnd ?_ | refine w_mtOr ?_ | refine w_meAnd ?_ | refine w_meOr ?_ | refine w_mNot ?_
  | refine ws_seq ?_ | (refine ws_set ?_) | refine ws_ret ?_ | refine ws_if ?_ | refine ws_expr ?_ | refine ws_nil ?_ | refine ws_asg ?_
  | refine wo_int ?_ | refine wo_add ?_ | refine wo_addI ?_ | refine wo_sub ?_ | refine wo_lt ?_ | refine wo_le ?_ | refine wo_gt ?_ | refine wo_ge ?_
  | refine wo_max2 ?_ | refine wo_min2 ?_ | refine wo_abs ?_ | refine wo_neg ?_ | refine wo_eqI ?_ | refine wo_neI ?_ | refine wo_intB ?_ | refine wo_ixT rfl ?_ | refine ws_brk ?_ | refine ws_cnt ?_ | refine w_if ?_ | refine ws_par ?_ | refine ws_par3 ?_ | (refine ⟨_, _, rfl, ?_⟩) | (refine ⟨_, _, _, rfl, ?_⟩) | refine w_isN ?_ | refine w_notN ?_ | refine ite_t ?_ | refine ite_f ?_ | refine ite_nt ?_ | refine ite_nf ?_ | refine w_chain ?_ | refine w_isiT ?_ | refine wg_sub ?_ | (refine ⟨_, rfl, ?_⟩) | refine wg_v ?_ | refine wg_c ?_ | refine wg_n ?_ | refine w_sl ?_ | refine w_optS ?_ | refine w_optN ?_ | refine wo_sl31 ?_)
local macro_rules | `(tactic| walk_at "go2") => `(tactic| first
  | walk_at "go1"
  | ((with_reducible refine wo_mod ?h ?_); case h => omega) | ((with_reducible refine wo_div ?h ?_); case h => omega) | ((with_reducible refine wo_mul_l ?h ?_); case h => omega) | ((with_reducible refine wo_mul_r ?h ?_); case h => omega)
  | ((with_reducible refine wo_shr ?h ?_); case h => omega) | ((with_reducible refine wo_shl ?h ?_); case h => omega) | ((with_reducible refine wo_pow ?h ?_); case h => omega)
  | ((with_reducible refine ite_d ?a ?b); (case b => exact fun h => absurd (by omega) h); intro _)
  | ((with_reducible refine ite_d ?a ?b); (case a => exact fun h => absurd h (by omega)); intro _)
  | ((with_reducible refine ite_d ?a ?b) <;> intro _)
  | ((with_reducible refine ⟨_, _, ?xs, ?j, rfl, rfl, ?h, ?e, ?_⟩); (case h => assumption); (case e => exact rfl))
  | ((with_reducible refine ite_nd ?a ?b); (case b => exact fun h => absurd h (by omega)); intro _)
  | ((with_reducible refine ite_nd ?a ?b); (case a => exact fun h => absurd (by omega) h); intro _)
  | ((with_reducible refine ite_nd ?a ?b) <;> intro _)
  | ((with_reducible refine wg_t ?h ?_); case h => exact rfl)
  | ((with_reducible refine wo_addL (xs := ?xs) (ys := ?ys) (lst_ref ?h1) (lst_ref ?h2) ?h3 ?_); (case h1 => first | assumption | exact get_app (by assumption)); (case h2 => first | assumption | exact get_app (by assumption)); (case h3 => (show _ ≤ 2 ^ 24; simp only [List.length_append, List.length_cons, List.length_nil, List.length_map]; omega)))
  | ((with_reducible refine wo_isi (k := ?k) (b := ?b) ?h1 ?h2 ?_); (case h1 => first | exact rfl | exact kind_ref (by assumption)); (case h2 => walk_at "kb"))
  | ((with_reducible refine wo_len (xs := ?xs) ?h ?_); (case h => first | exact rfl | exact seq_ref (by assumption)))
  | ((with_reducible refine wo_ixL (xs := ?xs) (x := ?x) ?h1 ?h2 ?_); (case h1 => exact lst_ref (by assumption)); (case h2 => exact rfl))
  | ((with_reducible refine wo_tup ?h ?_); case h => (simp only [List.length_cons, List.length_nil]; decide)) | ((with_reducible refine wo_lst ?h ?_); case h => (simp only [List.length_cons, List.length_nil]; decide)))
local macro_rules | `(tactic| walk_at "go") => `(tactic| (repeat' walk_at "go2") <;> try dsimp only [List.set_cons_zero, List.set_cons_succ])

/-- the code of the first figures -/
def cdI (f i : Nat) (p : Pt) : Nat := spr (p.1.toNat / 2 ^ (f - i)) + 2 * spr (p.2.toNat / 2 ^ (f - i))
theorem cdI_succ {f i : Nat} (h : i < f) (p : Pt) : cdI f (i + 1) p = 4 * cdI f i p + p.1.toNat / 2 ^ (f - 1 - i) % 2 + 2 * (p.2.toNat / 2 ^ (f - 1 - i) % 2) := by
  have e : f - i = (f - 1 - i) + 1 := by omega
  have e2 : f - (i + 1) = f - 1 - i := by omega
  have d : ∀ x : Nat, x / 2 ^ (f - i) = x / 2 ^ (f - 1 - i) / 2 := fun x => by rw [e, Nat.pow_succ, Nat.div_div_eq_div_mul]
  unfold cdI
  rw [e2, d, d, spr_eq (p.1.toNat / 2 ^ (f - 1 - i)), spr_eq (p.2.toNat / 2 ^ (f - 1 - i))]
  omega
theorem sp_law_code {S : Sto} {f : Nat} {p : Pt} (hf : f ≤ 40) (h : inSq f p) : Wp (m_law_code [.int f, ptV p] S) (fun v S' => v = .int (cod p) ∧ S' = S) := by
  have hh := h.nat
  have h1 := hh.1
  have h2 := hh.2.1
  have h3 := hh.2.2.1
  have h4 := hh.2.2.2
  clear hh
  walk_at "fn"
  unfold b_law_code
  walk_at "go"
  refine ws_forR (f : Int) (by omega) (fun i Γ S' => i ≤ f ∧ S' = S ∧ ∃ z3 z4, Γ = [some (.int f), some (ptV p), some (.int (cdI f i p)), z3, z4]) ?_ ?_ ?_
  · walk_at "go"
    refine ⟨rfl, Nat.zero_le _, rfl, none, none, ?_⟩
    have e : cdI f 0 p = 0 := by
      unfold cdI
      rw [Nat.sub_zero, Nat.div_eq_of_lt h3, Nat.div_eq_of_lt h4]
      rfl
    rw [e]
    rfl
  · rintro i Γ S' hi ⟨hle, rfl, z3, z4, rfl⟩
    have hi' : i < f := by omega
    walk_at "go"
    have key : ((cdI f (i + 1) p : Nat) : Int) = 4 * (cdI f i p : Nat) + p.1 / 2 ^ ((f : Int) - 1 - (i : Nat)).toNat % 2 + 2 * (p.2 / 2 ^ ((f : Int) - 1 - (i : Nat)).toNat % 2) := by
      have en : ((f : Int) - 1 - (i : Nat)).toNat = f - 1 - i := by omega
      rw [cdI_succ hi', en]
      obtain ⟨a, ha⟩ : ∃ n : Nat, p.1 = n := ⟨p.1.toNat, by omega⟩
      obtain ⟨b, hb⟩ : ∃ n : Nat, p.2 = n := ⟨p.2.toNat, by omega⟩
      rw [ha, hb]
      simp
    rw [key]
    exact ⟨hi', rfl, _, _, rfl⟩
  · rintro Γ S' ⟨_, rfl, z3, z4, rfl⟩
    walk_at "go"
    refine ⟨?_, rfl⟩
    unfold cdI cod
    rw [Int.toNat_natCast, Nat.sub_self, Nat.pow_zero, Nat.div_one, Nat.div_one]
theorem sp_law_common {S : Sto} {f : Nat} {p q : Pt} (hf : f ≤ 40) (hp : inSq f p) (hq : inSq f q) : Wp (m_law_common [.int f, ptV p, ptV q] S) (fun v S' => v = clV (comC f p q) ∧ Gr S S') := by
  have a1 := hp.int.1
  have a2 := hp.int.2.1
  have a3 := hp.int.2.2.1
  have a4 := hp.int.2.2.2
  have b1 := hq.int.1
  have b2 := hq.int.2.1
  have b3 := hq.int.2.2.1
  have b4 := hq.int.2.2.2
  have hup := up_le hp hq
  have iff := up_iff a1 a3 b1 b3
  walk_at "fn"
  unfold b_law_common
  walk_at "go"
  refine ws_forR ((f : Int) + 1) (by omega) (fun i Γ S' => i ≤ upN p q ∧ Gr S S' ∧ ∃ z3 z4 z5, Γ = [some (.int f), some (ptV p), some (ptV q), z3, z4, z5]) ?_ ?_ ?_
  · walk_at "go"
    exact ⟨rfl, Nat.zero_le _, Gr.refl _, none, none, none, rfl⟩
  · rintro i Γ S' hi ⟨hle, g, z3, z4, z5, rfl⟩
    have shr : ∀ (r : Pt) (Γ : En) (S1 : Sto) (k : Nat) (Q : Va → Sto → Prop), Gr S S1 → Γ[k]? = some (some (ptV r)) → Γ[3]? = some (some (.int i)) → Γ.length = 6 → k ≠ 5 → (∀ S2 j, Gr S S2 → S2[j]? = some (.lst [.int (r.1 / 2 ^ i), .int (r.2 / 2 ^ i)]) → Q (.ref j) S2) →
        Wp (mLc (mWalk (mV k)) (gV 5) mtYes (m2 shrI (mV 5) (mV 3)) [5] Γ S1) Q := by
      intro r Γ S1 k Q g1 hk h3 hl hk5 hQ
      refine w_comp (ptV r) [r.1, r.2] Va.int (fun _ => true) (fun x => .int (x / 2 ^ i)) (by show 2 < 2 ^ 24; decide) (.inr (.inl rfl)) (w_var hk ⟨rfl, rfl⟩) ?_ ?_
      · intro x S2 _ g2
        have e5 : ((wipeE Γ [5]).set 5 (some (Va.int x)))[5]? = some (some (.int x)) := by
          rw [List.getElem?_set_self]
          rw [wipeE_len, hl]
          decide
        have e3 : ((wipeE Γ [5]).set 5 (some (Va.int x)))[3]? = some (some (.int i)) := by
          rw [List.getElem?_set_ne (by decide), wipeE_get, if_neg (by decide), h3]
        refine wg_v (show Wp (Res.ok true S2) _ from ⟨rfl, ?_⟩)
        rw [if_pos rfl]
        refine w_m2 (w_var e5 (w_var e3 (wo_shr (by omega) ⟨?_, g2⟩)))
        rw [Int.toNat_natCast]
      · intro S2 g2
        exact hQ _ _ ((g1.trans g2).trans (Gr.app _ _)) get_last
    walk_at "go"
    refine shr p _ S' 1 _ g rfl rfl rfl (by decide) fun S1 j1 g1 e1 => ?_
    walk_at "go"
    refine wo_tupR e1 ?_
    walk_at "go"
    refine shr q _ S1 2 _ g1 rfl rfl rfl (by decide) fun S2 j2 g2 e2 => ?_
    walk_at "go"
    refine wo_tupR e2 ?_
    refine wo_eqD ptE (a := (p.1 / 2 ^ i, p.2 / 2 ^ i)) (b := (q.1 / 2 ^ i, q.2 / 2 ^ i)) (ptR (p := (p.1 / 2 ^ i, p.2 / 2 ^ i))) (ptR (p := (q.1 / 2 ^ i, q.2 / 2 ^ i))) (by decide) (by decide) ?_
    walk_at "go"
    · next h =>
      have e : upN p q = i := by
        have := (iff i).mpr ⟨congrArg Prod.fst h, congrArg Prod.snd h⟩
        omega
      refine wo_addT (by show 3 ≤ 2 ^ 24; decide) ⟨?_, g2⟩
      unfold comC
      rw [e]
      rfl
    · next h =>
      refine ⟨?_, g2, _, _, _, rfl⟩
      refine Nat.lt_of_le_of_ne hle fun z => h ?_
      obtain ⟨x, y⟩ := (iff i).mp (by omega)
      rw [x, y]
  · rintro Γ S' ⟨hle, _⟩
    omega
end PM

namespace PM
open PySem PySem.Spec PyProof.Rows L2 Q2
/-! ### small squares -/
def cdAt (k n : Nat) : Nat := spr (n / 2 ^ k) + 2 * spr (n % 2 ^ k)
def cds (k m : Nat) : List Nat := (List.range m).map (cdAt k)
def mineT (k l n t : Nat) : List Nat := ((cds k (4 ^ k)).drop (2 ^ k * (2 ^ (k - l) * (n / 2 ^ l) + t) + 2 ^ (k - l) * (n % 2 ^ l))).take (2 ^ (k - l))
def mineL (k l n m : Nat) : List Nat := (List.range m).flatMap (mineT k l n)
theorem mineL_succ (k l n m : Nat) : mineL k l n (m + 1) = mineL k l n m ++ mineT k l n m := by
  unfold mineL
  rw [List.range_succ, List.flatMap_append]
  simp
def firstN (k l n : Nat) : Nat := (spr (n / 2 ^ l) + 2 * spr (n % 2 ^ l)) * 4 ^ (k - l)
def mineI (k l n : Nat) : List Int := (mineL k l n (2 ^ (k - l))).map fun n : Nat => (n : Int)
def okC (k l n : Nat) : Bool := decide (mineL k l n (2 ^ (k - l)) ≠ [] ∧ minL (mineI k l n) = firstN k l n ∧ maxL (mineI k l n) = ((firstN k l n + (4 ^ (k - l) - 1) : Nat) : Int) ∧ maxL (mineI k l n) - minL (mineI k l n) = ((mineL k l n (2 ^ (k - l))).length : Int) - 1)
def okK (k : Nat) : Bool := (List.range (k + 1)).all fun l => (List.range (4 ^ l)).all fun n => okC k l n
theorem ok_all : okK 0 = true ∧ okK 1 = true ∧ okK 2 = true ∧ okK 3 = true := by decide +kernel
theorem ok_at {k l n : Nat} (hk : k < 4) (hl : l ≤ k) (hn : n < 4 ^ l) : okC k l n = true := by
  obtain ⟨h0, h1, h2, h3⟩ := ok_all
  have h : okK k = true := by
    match k, hk with
    | 0, _ => exact h0
    | 1, _ => exact h1
    | 2, _ => exact h2
    | 3, _ => exact h3
  exact List.all_eq_true.mp (List.all_eq_true.mp h l (List.mem_range.mpr (by omega))) n (List.mem_range.mpr hn)
def permK (k : Nat) : Bool := (cds k (4 ^ k)).isPerm (List.range (4 ^ k))
theorem perm_all : permK 0 = true ∧ permK 1 = true ∧ permK 2 = true ∧ permK 3 = true := by decide +kernel
theorem perm_at {k : Nat} (hk : k < 4) : (cds k (4 ^ k)).Perm (List.range (4 ^ k)) := by
  obtain ⟨h0, h1, h2, h3⟩ := perm_all
  match k, hk with
  | 0, _ => exact List.isPerm_iff.mp h0
  | 1, _ => exact List.isPerm_iff.mp h1
  | 2, _ => exact List.isPerm_iff.mp h2
  | 3, _ => exact List.isPerm_iff.mp h3
/-! ### sorted ints -/
abbrev nP (n : Nat) : PyData := .int (n : Int)
abbrev nV (n : Nat) : Va := .int (n : Int)
theorem nE : EqD nP := fun a b => by simp [PyData.eqv]; omega
theorem nR {S : Sto} {n : Nat} : Rd S 0 (nV n) (nP n) := Rd.int
theorem nsR {S : Sto} {k : Nat} {l : List Nat} (h : S[k]? = some (.lst (l.map nV))) : Rd S 1 (.ref k) (.list (l.map nP)) := Rd.ref h (RdA.map fun a _ => nR)
theorem sortableN (l : List Nat) : sortable (l.map nP) = true := by
  unfold sortable
  rw [Bool.and_eq_true, Bool.and_eq_true]
  refine ⟨⟨?_, ?_⟩, ?_⟩
  · refine List.all_eq_true.mpr fun d hd => List.all_eq_true.mpr fun e he => ?_
    obtain ⟨a, _, rfl⟩ := List.mem_map.mp hd
    obtain ⟨b, _, rfl⟩ := List.mem_map.mp he
    rfl
  · refine Bool.or_eq_true_iff.mpr (.inr (List.all_eq_true.mpr fun d hd => ?_))
    obtain ⟨a, _, rfl⟩ := List.mem_map.mp hd
    rfl
  · refine List.all_eq_true.mpr fun d hd => ?_
    obtain ⟨a, _, rfl⟩ := List.mem_map.mp hd
    rfl
theorem sortN_pw (l : List Nat) : (l.mergeSort (dle nP)).Pairwise fun a b => a ≤ b := by
  have := PySem.W.sort_pairwise (PySem.W.sortLe_total (PyProof.Rows.listOrd PyProof.Rows.itemOrd) false fun b : Nat => PySem.W.keyToks (nP b)) l
  refine List.Pairwise.imp (fun {a b} h => ?_) this
  have h : (!PySem.W.dataLt (nP b) (nP a)) = true := h
  rw [PySem.W.dataLt_int] at h
  by_cases e : a ≤ b
  · exact e
  · rw [decide_eq_true (by omega)] at h
    cases h
theorem sortN_eq {l m : List Nat} (h : l.Perm m) (hm : m.Pairwise fun a b => a ≤ b) : l.mergeSort (dle nP) = m := by
  refine List.Perm.eq_of_pairwise (fun a b _ _ x y => ?_) (sortN_pw l) hm ((List.mergeSort_perm _ _).trans h)
  exact Nat.le_antisymm x y
theorem sorted_cds {k : Nat} (hk : k < 4) : (cds k (4 ^ k)).mergeSort (dle nP) = List.range (4 ^ k) :=
  sortN_eq (perm_at hk) ((List.pairwise_lt_range).imp fun h => Nat.le_of_lt h)
/-! ### the least, the greatest, a cut -/
section
variable {S : Sto} {Q : Va → Sto → Prop}
theorem ints_map : ∀ ns : List Int, intsOf (ns.map Va.int) = some ns
  | [] => rfl
  | n :: ns => by
    show (intsOf (ns.map Va.int)).map (n :: ·) = _
    rw [ints_map ns]
    rfl
theorem wo_maxL {k : Nat} {ns : List Int} (h : S[k]? = some (.lst (ns.map Va.int))) (hn : ns ≠ []) (q : Q (.int (maxL ns)) S) : Wo (fMax [.ref k] S) Q := by
  have e : fMax [.ref k] S = some (.int (maxL ns), S) := by
    show (match (lstOf S (.ref k)).bind intsOf with
      | some (n :: ns) => some (Va.int (maxL (n :: ns)), S)
      | _ => none) = _
    rw [lst_ref h, Option.bind_some, ints_map]
    cases ns with
    | nil => exact absurd rfl hn
    | cons n ns => rfl
  rw [e]
  exact q
theorem wo_minL {k : Nat} {ns : List Int} (h : S[k]? = some (.lst (ns.map Va.int))) (hn : ns ≠ []) (q : Q (.int (minL ns)) S) : Wo (fMin [.ref k] S) Q := by
  have e : fMin [.ref k] S = some (.int (minL ns), S) := by
    show (match (lstOf S (.ref k)).bind intsOf with
      | some (n :: ns) => some (Va.int (minL (n :: ns)), S)
      | _ => none) = _
    rw [lst_ref h, Option.bind_some, ints_map]
    cases ns with
    | nil => exact absurd rfl hn
    | cons n ns => rfl
  rw [e]
  exact q
theorem sl_ref {n : Nat} {lo hi : Option Int} {xs : List Va} (h : S[n]? = some (.lst xs)) (hl : (cutA xs lo hi).length ≤ 16777216) (q : Q (.ref S.length) (S ++ [.lst (cutA xs lo hi)])) : Wo (fSl (.ref n) lo hi S) Q := by
  have e3 : slL (.ref n) lo hi S = some (.ref S.length, S ++ [.lst (cutA xs lo hi)]) := by
    unfold slL
    rw [lst_ref h]
    simp only
    unfold mkL
    rw [if_pos]
    exact hl
  unfold fSl
  rw [e3]
  exact q
theorem cut_both (xs : List Va) (a b : Nat) (hab : a ≤ b) (hb : b ≤ xs.length) : cutA xs (some (a : Int)) (some (b : Int)) = (xs.drop a).take (b - a) := by
  unfold cutA
  rw [HT.sIx_nat, HT.sIx_nat, Nat.min_eq_left hb, Nat.min_eq_left (by omega)]
end
end PM

namespace PM
open PySem PySem.Spec PyProof.Rows L2 Q2
local macro_rules | `(tactic| walk_at "fn") => `(tactic| (first | refine w_fn1 ?_ | refine w_fn2 ?_ | refine w_fn3 ?_ | refine w_fn4 ?_ | refine w_fn5 ?_ | refine w_fn6 ?_); dsimp only [List.replicate])
local macro_rules | `(tactic| walk_at "kb") => `(tactic| with_reducible first | exact kb_int_int | exact kb_int_bool | exact kb_int_str | exact kb_int_list | exact kb_int_tuple | exact kb_bool_int | exact kb_bool_bool | exact kb_bool_str | exact kb_bool_list | exact kb_bool_tuple | exact kb_str_int | exact kb_str_bool | exact kb_str_str | exact kb_str_list | exact kb_str_tuple | exact kb_list_int | exact kb_list_bool | exact kb_list_str | exact kb_list_list | exact kb_list_tuple | exact kb_tuple_int | exact kb_tuple_bool | exact kb_tuple_str | exact kb_tuple_list | exact kb_tuple_tuple | exact kb_NoneType_int | exact kb_NoneType_bool | exact kb_NoneType_str | exact kb_NoneType_list | exact kb_NoneType_tuple)
local macro_rules | `(tactic| walk_at "go1") => `(tactic| first
  | ((with_reducible refine w_var (v := ?v) ?h ?_); case h => exact rfl)
  | with_reducible first
  | refine w_c ?_ | refine w_m2 ?_ | refine w_m1 ?_ | refine w_maC ?_ | refine w_maN ?_ | refine w_mL ?_ | refine w_call ?_
  | refine w_mtOf ?_ | refine w_mtNot ?_ | refine w_mtAnd ?_ | refine w_mtOr ?_ | refine w_meAnd ?_ | refine w_meOr ?_ | refine w_mNot ?_
  | refine ws_seq ?_ | (refine ws_set ?_) | refine ws_ret ?_ | refine ws_if ?_ | refine ws_expr ?_ | refine ws_nil ?_ | refine ws_asg ?_
  | refine wo_int ?_ | refine wo_add ?_ | refine wo_addI ?_ | refine wo_sub ?_ | refine wo_lt ?_ | refine wo_le ?_ | refine wo_gt ?_ | refine wo_ge ?_
  | refine wo_max2 ?_ | refine wo_min2 ?_ | refine wo_abs ?_ | refine wo_neg ?_ | refine wo_eqI ?_ | refine wo_neI ?_ | refine wo_intB ?_ | refine wo_ixT rfl ?_ | refine ws_brk ?_ | refine ws_cnt ?_ | refine w_if ?_ | refine ws_par ?_ | refine ws_par3 ?_ | (refine ⟨_, _, rfl, ?_⟩) | (refine ⟨_, _, _, rfl, ?_⟩) | refine w_isN ?_ | refine w_notN ?_ | refine ite_t ?_ | refine ite_f ?_ | refine ite_nt ?_ | refine ite_nf ?_ | refine w_chain ?_ | refine w_isiT ?_ | refine wg_sub ?_ | (refine ⟨_, rfl, ?_⟩) | refine wg_v ?_ | refine wg_c ?_ | refine wg_n ?_ | refine w_sl ?_ | refine w_optS ?_ | refine w_optN ?_ | refine wo_sl31 ?_)
local macro_rules | `(tactic| walk_at "go2") => `(tactic| first
  | walk_at "go1"
  | ((with_reducible refine wo_mod ?h ?_); case h => omega) | ((with_reducible refine wo_div ?h ?_); case h => omega) | ((with_reducible refine wo_mul_l ?h ?_); case h => omega) | ((with_reducible refine wo_mul_r ?h ?_); case h => omega)
  | ((with_reducible refine wo_shr ?h ?_); case h => omega) | ((with_reducible refine wo_shl ?h ?_); case h => omega) | ((with_reducible refine wo_pow ?h ?_); case h => omega)
  | ((with_reducible refine ite_d ?a ?b); (case b => exact fun h => absurd (by omega) h); intro _)
  | ((with_reducible refine ite_d ?a ?b); (case a => exact fun h => absurd h (by omega)); intro _)
  | ((with_reducible refine ite_d ?a ?b) <;> intro _)
  | ((with_reducible refine ⟨_, _, ?xs, ?j, rfl, rfl, ?h, ?e, ?_⟩); (case h => assumption); (case e => exact rfl))
  | ((with_reducible refine ite_nd ?a ?b); (case b => exact fun h => absurd h (by omega)); intro _)
  | ((with_reducible refine ite_nd ?a ?b); (case a => exact fun h => absurd (by omega) h); intro _)
  | ((with_reducible refine ite_nd ?a ?b) <;> intro _)
  | ((with_reducible refine wg_t ?h ?_); case h => exact rfl)
  | ((with_reducible refine wo_addL (xs := ?xs) (ys := ?ys) (lst_ref ?h1) (lst_ref ?h2) ?h3 ?_); (case h1 => first | assumption | exact get_app (by assumption)); (case h2 => first | assumption | exact get_app (by assumption)); (case h3 => (show _ ≤ 2 ^ 24; simp only [List.length_append, List.length_cons, List.length_nil, List.length_map]; omega)))
  | ((with_reducible refine wo_isi (k := ?k) (b := ?b) ?h1 ?h2 ?_); (case h1 => first | exact rfl | exact kind_ref (by assumption)); (case h2 => walk_at "kb"))
  | ((with_reducible refine wo_len (xs := ?xs) ?h ?_); (case h => first | exact rfl | exact seq_ref (by assumption)))
  | ((with_reducible refine wo_ixL (xs := ?xs) (x := ?x) ?h1 ?h2 ?_); (case h1 => exact lst_ref (by assumption)); (case h2 => exact rfl))
  | ((with_reducible refine wo_tup ?h ?_); case h => (simp only [List.length_cons, List.length_nil]; decide)) | ((with_reducible refine wo_lst ?h ?_); case h => (simp only [List.length_cons, List.length_nil]; decide)))
local macro_rules | `(tactic| walk_at "go") => `(tactic| (repeat' walk_at "go2") <;> try dsimp only [List.set_cons_zero, List.set_cons_succ])

theorem at_last {xs : List Va} {x : Va} : L2.atI (xs ++ [x]) (-1) = some x := by
  unfold L2.atI L2.ixN
  rw [if_neg (by decide), if_pos (by simp; omega)]
  simp only [List.length_append, List.length_cons, List.length_nil]
  have : (-1 + ((xs.length + (0 + 1) : Nat) : Int)).toNat = xs.length := by omega
  rw [this]
  simp
theorem pow_of_lt {k : Nat} (h : k < 4) : 2 ^ k ≤ 8 ∧ 4 ^ k ≤ 64 ∧ (2 : Nat) ^ k * 2 ^ k = 4 ^ k ∧ 0 < 2 ^ k := by
  match k, h with
  | 0, _ => decide
  | 1, _ => decide
  | 2, _ => decide
  | 3, _ => decide
theorem shl1 (k : Nat) : (1 : Int) * 2 ^ ((k : Int)).toNat = ((2 ^ k : Nat) : Int) := by
  rw [Int.one_mul, Int.toNat_natCast]
  simp
theorem cod_at {k x y : Nat} (hy : y < 2 ^ k) : cod ((x : Int), (y : Int)) = cdAt k (2 ^ k * x + y) := by
  have hp : 0 < 2 ^ k := Nat.pow_pos (by decide)
  unfold cod cdAt
  simp only [Int.toNat_natCast]
  rw [Nat.mul_add_div hp, Nat.div_eq_of_lt hy, Nat.add_zero, Nat.mul_add_mod, Nat.mod_eq_of_lt hy]
theorem cds_succ (k m : Nat) : cds k (m + 1) = cds k m ++ [cdAt k m] := by
  unfold cds
  rw [List.range_succ, List.map_append]
  rfl
theorem cds_len (k m : Nat) : (cds k m).length = m := by
  unfold cds
  rw [List.length_map, List.length_range]
theorem sp_all_right {S : Sto} {k : Nat} (hk : k < 4) : Wp (m_law_all_right [.int k] S) (fun v S' => v = .bl true ∧ Lo S S') := by
  obtain ⟨p1, p2, p3, p4⟩ := pow_of_lt hk
  have hk40 : k ≤ 40 := by omega
  walk_at "fn"
  unfold b_law_all_right
  walk_at "go"
  rw [shl1]
  generalize hside : 2 ^ k = side at p1 p3 p4
  generalize hS1 : S ++ [Ob.lst []] = S1
  have lo1 : Lo S S1 := by rw [← hS1]; exact (Gr.app _ _).lo
  have ec1 : S1[S.length]? = some (.lst []) := by rw [← hS1]; exact get_last
  -- the codes
  refine ws_forR (side : Int) (by omega) (fun i Γ S' => i ≤ side ∧ Lo S S' ∧ S'[S.length]? = some (.lst ((cds k (side * i)).map nV)) ∧ ∃ z3 z4, Γ = [some (.int k), some (.int side), some (.ref S.length), z3, z4, none, none, none, none, none, none, none]) ?_ ?_ ?_
  · walk_at "go"
    exact ⟨rfl, Nat.zero_le _, lo1, ec1, none, none, rfl⟩
  · rintro x Γ S2 hx ⟨hx1, lo2, ec2, z3, z4, rfl⟩
    have hx2 : x < side := by omega
    walk_at "go"
    refine ws_forR (side : Int) (by omega) (fun j Γ S' => j ≤ side ∧ Lo S S' ∧ S'[S.length]? = some (.lst ((cds k (side * x + j)).map nV)) ∧ ∃ z4, Γ = [some (.int k), some (.int side), some (.ref S.length), some (.int x), z4, none, none, none, none, none, none, none]) ?_ ?_ ?_
    · walk_at "go"
      exact ⟨rfl, Nat.zero_le _, lo2, ec2, z4, rfl⟩
    · rintro y Γ S3 hy ⟨hy1, lo3, ec3, z4', rfl⟩
      have hy2 : y < side := by omega
      have hsq : inSq k ((x : Int), (y : Int)) := by
        have e : (2 : Int) ^ k = (side : Int) := by rw [← hside]; simp
        exact inSq_mk (by omega) (by omega) (by omega) (by omega)
      have hcod : cod ((x : Int), (y : Int)) = cdAt k (side * x + y) := by rw [← hside]; exact cod_at (by rw [hside]; exact hy2)
      have hm : side * x ≤ side * 7 := Nat.mul_le_mul_left _ (by omega)
      walk_at "go"
      refine w_app ?_
      walk_at "go"
      refine ⟨_, _, rfl, ec3, ?_⟩
      walk_at "go"
      refine (sp_code_of hk40 hsq).mono ?_
      rintro _ S4 ⟨rfl, rfl⟩
      walk_at "go"
      refine ⟨_, _, rfl, ec3, by rw [List.length_map, cds_len]; show _ < 2 ^ 24; omega, ?_⟩
      have e4 : (cds k (side * x + y)).map nV ++ [Va.int (cod ((x : Int), (y : Int)))] = (cds k (side * x + (y + 1))).map nV := by
        rw [hcod, ← Nat.add_assoc, cds_succ, List.map_append]
        rfl
      have el : L2.atI ((cds k (side * x + (y + 1))).map nV) (-1) = some (.int (cod ((x : Int), (y : Int)))) := by rw [← e4]; exact at_last
      rw [e4]
      have lo5 : Lo S (S4.set S.length (.lst ((cds k (side * x + (y + 1))).map nV))) := lo3.set (Nat.le_refl _) _
      have ec5 : (S4.set S.length (.lst ((cds k (side * x + (y + 1))).map nV)))[S.length]? = some (.lst ((cds k (side * x + (y + 1))).map nV)) := get_set ec3
      generalize S4.set S.length (.lst ((cds k (side * x + (y + 1))).map nV)) = S5 at lo5 ec5 ⊢
      walk_at "go"
      refine wo_ixL (lst_ref ec5) el ?_
      walk_at "go"
      refine (sp_law_code hk40 hsq).mono ?_
      rintro _ S6 ⟨rfl, rfl⟩
      walk_at "go"
      refine wo_ixL (lst_ref ec5) el ?_
      walk_at "go"
      refine (sp_place_of hk40 hsq).mono ?_
      rintro _ S6 ⟨rfl, rfl⟩
      walk_at "go"
      refine wo_neD ptE (a := ((x : Int), (y : Int))) (b := ((x : Int), (y : Int))) (ptR (p := ((x : Int), (y : Int)))) (ptR (p := ((x : Int), (y : Int)))) (by decide) (by decide) ?_
      refine ⟨_, rfl, ?_⟩
      rw [dec_f (fun z => z rfl)]
      walk_at "go"
      exact ⟨by omega, lo5, ec5, _, rfl⟩
    · rintro Γ S3 ⟨_, lo3, ec3, z4', rfl⟩
      refine ⟨by omega, lo3, ?_, _, _, rfl⟩
      rw [Int.toNat_natCast] at ec3
      rw [Nat.mul_succ]
      exact ec3
  rintro Γ S2 ⟨_, lo2, ec2, z3, z4, rfl⟩
  rw [Int.toNat_natCast, p3] at ec2
  walk_at "go"
  refine wo_sort (enc := nV) (g := nP) (IsSeq.ref ec2) (fun p _ => nR) (by decide) (sortableN _) (by rw [cds_len]; show _ ≤ 2 ^ 24; omega) ?_
  rw [sorted_cds hk]
  walk_at "go"
  refine w_lrng1 ?_
  walk_at "go"
  have hss : (side : Int) * side = ((4 ^ k : Nat) : Int) := by rw [← p3]; simp
  rw [hss]
  refine ⟨by omega, ?_⟩
  have hrg : rgA 0 ((4 ^ k : Nat) : Int) = (List.range (4 ^ k)).map nV := by
    unfold rgA
    rw [Int.sub_zero, Int.toNat_natCast]
    simp only [Int.zero_add]
  rw [hrg]
  refine wo_mkL (by rw [List.length_map, List.length_range]; show _ ≤ 2 ^ 24; omega) ?_
  refine wo_neD (EqD.list nE) (nsR (get_app get_last)) (nsR get_last) (by decide) (by decide) ?_
  refine ⟨_, rfl, ?_⟩
  rw [dec_f (fun z => z rfl)]
  have lo3 := lo2.gr ((Gr.app S2 [Ob.lst ((List.range (4 ^ k)).map nV)]).trans (Gr.app (S2 ++ [Ob.lst ((List.range (4 ^ k)).map nV)]) [Ob.lst ((List.range (4 ^ k)).map nV)]))
  have ec3 := ((Gr.app S2 [Ob.lst ((List.range (4 ^ k)).map nV)]).trans (Gr.app (S2 ++ [Ob.lst ((List.range (4 ^ k)).map nV)]) [Ob.lst ((List.range (4 ^ k)).map nV)])).get ec2
  generalize S2 ++ [Ob.lst ((List.range (4 ^ k)).map nV)] ++ [Ob.lst ((List.range (4 ^ k)).map nV)] = S3 at lo3 ec3 ⊢
  generalize S.length = c at ec3 ⊢
  clear ec2 lo2 hS1 ec1 lo1
  walk_at "go"
  -- the cells
  refine ws_forR ((k : Int) + 1) (by omega) (fun l Γ S' => Gr S3 S' ∧ ∃ z3 z4 z5 z6 z7 z8 z9 z10 z11, Γ = [some (.int k), some (.int side), some (.ref c), z3, z4, z5, z6, z7, z8, z9, z10, z11]) ?_ ?_ ?_
  · walk_at "go"
    exact ⟨rfl, Gr.refl _, _, _, _, _, _, _, _, _, _, rfl⟩
  · rintro l Γ S4 hl ⟨g4, z3, z4, z5, z6, z7, z8, z9, z10, z11, rfl⟩
    have hl2 : l ≤ k := by omega
    obtain ⟨l1, l2, l3, l4⟩ := pow_of_lt (k := l) (by omega)
    have e4l : (1 : Int) * 2 ^ (2 * (l : Int)).toNat = ((4 ^ l : Nat) : Int) := by
      have : (2 * (l : Int)).toNat = 2 * l := by omega
      rw [this, Int.one_mul, pow4]
      simp
    have ewd : (side : Int) / 2 ^ ((l : Int)).toNat = ((2 ^ (k - l) : Nat) : Int) := by
      rw [Int.toNat_natCast, ← hside]
      have : (2 : Nat) ^ k = 2 ^ (k - l) * 2 ^ l := by rw [← Nat.pow_add]; congr 1; omega
      rw [this, show ((2 : Int) ^ l) = ((2 ^ l : Nat) : Int) by simp, ← Int.natCast_ediv, Nat.mul_div_cancel _ (Nat.pow_pos (by decide))]
    obtain ⟨w1, w2, w3, w4⟩ := pow_of_lt (k := k - l) (by omega)
    have hws : 2 ^ (k - l) * 2 ^ l = side := by rw [← hside, ← Nat.pow_add]; congr 1; omega
    generalize hw : 2 ^ (k - l) = w at *
    walk_at "go"
    refine ws_forR ((4 ^ l : Nat) : Int) (by omega) (fun n Γ S' => Gr S3 S' ∧ ∃ z3 z4 z6 z7 z8 z9 z10 z11, Γ = [some (.int k), some (.int side), some (.ref c), z3, z4, some (.int l), z6, z7, z8, z9, z10, z11]) ?_ ?_ ?_
    · walk_at "go"
      refine ⟨?_, g4, _, _, _, _, _, _, _, _, rfl⟩
      rw [e4l]
    · rintro n Γ S5 hn ⟨g5, z3, z4, z6, z7, z8, z9, z10, z11, rfl⟩
      have hn2 : n < 4 ^ l := by omega
      have hi : n / 2 ^ l < 2 ^ l := by rw [Nat.div_lt_iff_lt_mul l4, l3]; exact hn2
      have hj : n % 2 ^ l < 2 ^ l := Nat.mod_lt _ l4
      have ok := ok_at hk hl2 hn2
      have ei : (n : Int) / 2 ^ ((l : Int)).toNat = ((n / 2 ^ l : Nat) : Int) := by rw [Int.toNat_natCast]; simp
      have ej : (n : Int) % (1 * 2 ^ ((l : Int)).toNat) = ((n % 2 ^ l : Nat) : Int) := by rw [shl1]; simp
      have hsl : 0 < (1 : Int) * 2 ^ ((l : Int)).toNat := by rw [shl1]; omega
      walk_at "go"
      rw [ei, ej, ewd]
      have g6 := g5.trans (Gr.app S5 [Ob.lst []])
      have e6 : (S5 ++ [Ob.lst []])[S5.length]? = some (.lst ((mineL k l n 0).map nV)) := get_last
      generalize S5 ++ [Ob.lst []] = S6 at g6 e6 ⊢
      generalize S5.length = r at e6 ⊢
      have hwi : w * (n / 2 ^ l) ≤ 56 := by
        have := Nat.mul_le_mul_left w (show n / 2 ^ l ≤ 2 ^ l - 1 by omega)
        rw [Nat.mul_sub, hws] at this
        omega
      have emul : ∀ a b : Nat, (a : Int) * (b : Int) = ((a * b : Nat) : Int) := fun a b => by simp
      refine ws_forR2 ((w * (n / 2 ^ l) : Nat) : Int) ((w * (n / 2 ^ l) + w : Nat) : Int) (by omega) (by omega) (fun t Γ S' => t ≤ w ∧ Gr S3 S' ∧ ∃ r z3 z11, S'[r]? = some (.lst ((mineL k l n t).map nV)) ∧ (mineL k l n t).length ≤ 64 * t ∧ Γ = [some (.int k), some (.int side), some (.ref c), z3, z4, some (.int l), some (.int n), some (.int ((n / 2 ^ l : Nat) : Int)), some (.int ((n % 2 ^ l : Nat) : Int)), some (.int (w : Nat)), some (.ref r), z11]) ?_ ?_ ?_
      · walk_at "go"
        rw [emul]
        refine ⟨rfl, ?_⟩
        walk_at "go"
        rw [emul]
        exact ⟨congrArg Va.int (by omega), Nat.zero_le _, g6, r, z3, z11, e6, Nat.zero_le _, rfl⟩
      · rintro t Γ S7 ht ⟨ht1, g7, r', z3', z11', e7, hlen, rfl⟩
        have ht2 : t < w := by omega
        have hb1 : w * (n / 2 ^ l) + t + 1 ≤ side := by
          have := Nat.mul_le_mul_left w (show n / 2 ^ l + 1 ≤ 2 ^ l by omega)
          rw [Nat.mul_add, hws] at this
          omega
        have hb2 : side * (w * (n / 2 ^ l) + t) + w * (n % 2 ^ l) + w ≤ 4 ^ k := by
          have h1 := Nat.mul_le_mul_left side hb1
          have h2 := Nat.mul_le_mul_left w (show n % 2 ^ l + 1 ≤ 2 ^ l by omega)
          rw [Nat.mul_add, hws] at h2
          rw [Nat.mul_add, p3] at h1
          omega
        have ec7 := g7.get ec3
        have eb : (side : Int) * (((w * (n / 2 ^ l) : Nat) : Int) + (t : Int)) + (w : Int) * ((n % 2 ^ l : Nat) : Int) = ((side * (w * (n / 2 ^ l) + t) + w * (n % 2 ^ l) : Nat) : Int) := by
          rw [← Int.natCast_add, emul, emul, ← Int.natCast_add]
        walk_at "go"
        rw [eb]
        refine sl_ref ec7 ?_ ?_
        · unfold cutA
          refine Nat.le_trans (List.length_take_le' ..) ?_
          rw [List.length_drop, List.length_map, cds_len]
          omega
        have ecut : cutA ((cds k (4 ^ k)).map nV) (some ((side * (w * (n / 2 ^ l) + t) + w * (n % 2 ^ l) : Nat) : Int)) (some (((side * (w * (n / 2 ^ l) + t) + w * (n % 2 ^ l) : Nat) : Int) + (w : Nat))) = (mineT k l n t).map nV := by
          have e2 : (((side * (w * (n / 2 ^ l) + t) + w * (n % 2 ^ l) : Nat) : Int) + (w : Nat)) = ((side * (w * (n / 2 ^ l) + t) + w * (n % 2 ^ l) + w : Nat) : Int) := by omega
          rw [e2, cut_both _ _ _ (by omega) (by rw [List.length_map, cds_len]; exact hb2)]
          unfold mineT
          rw [hw, hside, ← List.map_drop, ← List.map_take]
          congr 2
          omega
        rw [ecut]
        have htl : (mineT k l n t).length ≤ 64 := by
          unfold mineT
          refine Nat.le_trans (List.length_take_le' ..) ?_
          rw [List.length_drop, cds_len]
          omega
        refine wo_addL (lst_ref (get_app e7)) (lst_ref get_last) (by rw [List.length_append, List.length_map, List.length_map]; show _ ≤ 2 ^ 24; omega) ?_
        refine ⟨by omega, (g7.trans (Gr.app _ _)).trans (Gr.app _ _), _, _, _, ?_, ?_, rfl⟩
        · rw [get_last, mineL_succ, List.map_append]
        · rw [mineL_succ, List.length_append]
          omega
      · rintro Γ S7 ⟨_, g7, r', z3', z11', e7, hlen, rfl⟩
        have et : (((w * (n / 2 ^ l) + w : Nat) : Int) - ((w * (n / 2 ^ l) : Nat) : Int)).toNat = 2 ^ (k - l) := by rw [hw]; omega
        rw [et] at e7 hlen
        obtain ⟨hne, ok1, ok2, ok3⟩ := of_decide_eq_true ok
        have hneI : mineI k l n ≠ [] := fun z => hne (List.map_eq_nil_iff.mp z)
        have emI : (mineL k l n (2 ^ (k - l))).map nV = (mineI k l n).map Va.int := by
          unfold mineI
          rw [List.map_map]
          rfl
        have e7' : S7[r']? = some (.lst ((mineI k l n).map Va.int)) := by rw [e7, emI]
        have ok4 : maxL (mineI k l n) - minL (mineI k l n) = (((mineI k l n).map Va.int).length : Int) - 1 := by
          rw [ok3]
          unfold mineI
          simp
        have hin : inCl k ((l : Int), ((n / 2 ^ l : Nat) : Int), ((n % 2 ^ l : Nat) : Int)) := by
          have e : (2 : Int) ^ l = ((2 ^ l : Nat) : Int) := by simp
          exact ⟨l, rfl, hl2, inSq_mk (Int.natCast_nonneg _) (by rw [e]; exact Int.ofNat_lt.mpr hi) (Int.natCast_nonneg _) (by rw [e]; exact Int.ofNat_lt.mpr hj)⟩
        walk_at "go"
        refine (sp_stretch_of hk40 hin).mono ?_
        rintro _ S8 ⟨rfl, g8⟩
        have e8 := g8.get e7'
        have es : strC k ((l : Int), ((n / 2 ^ l : Nat) : Int), ((n % 2 ^ l : Nat) : Int)) = (minL (mineI k l n), maxL (mineI k l n)) := by
          rw [ok1, ok2]
          unfold strC firstN cod
          simp only [Int.toNat_natCast]
        walk_at "go"
        refine wo_minL e8 hneI ?_
        walk_at "go"
        refine wo_maxL e8 hneI ?_
        walk_at "go"
        rw [es]
        refine wo_neD ptE (ptR (p := (minL (mineI k l n), maxL (mineI k l n)))) (ptR (p := (minL (mineI k l n), maxL (mineI k l n)))) (by decide) (by decide) ?_
        refine ⟨_, rfl, ?_⟩
        rw [dec_f (fun z => z rfl)]
        walk_at "go"
        refine wo_maxL e8 hneI ?_
        walk_at "go"
        refine wo_minL e8 hneI ?_
        walk_at "go"
        exact ⟨g7.trans g8, _, _, _, _, _, _, _, _, rfl⟩
    · rintro Γ S5 ⟨g5, z3, z4, z6, z7, z8, z9, z10, z11, rfl⟩
      exact ⟨g5, _, _, _, _, _, _, _, _, _, rfl⟩
  · rintro Γ S4 ⟨g4, z3, z4, z5, z6, z7, z8, z9, z10, z11, rfl⟩
    walk_at "go"
    exact ⟨rfl, lo3.gr g4⟩
end PM

namespace PM
open PySem PySem.Spec PyProof.Rows L2 Q2
local macro_rules | `(tactic| walk_at "fn") => `(tactic| (first | refine w_fn1 ?_ | refine w_fn2 ?_ | refine w_fn3 ?_ | refine w_fn4 ?_ | refine w_fn5 ?_ | refine w_fn6 ?_); dsimp only [List.replicate])
local macro_rules | `(tactic| walk_at "kb") => `(tactic| with_reducible first | exact kb_int_int | exact kb_int_bool | exact kb_int_str | exact kb_int_list | exact kb_int_tuple | exact kb_bool_int | exact kb_bool_bool | exact kb_bool_str | exact kb_bool_list | exact kb_bool_tuple | exact kb_str_int | exact kb_str_bool | exact kb_str_str | exact kb_str_list | exact kb_str_tuple | exact kb_list_int | exact kb_list_bool | exact kb_list_str | exact kb_list_list | exact kb_list_tuple | exact kb_tuple_int | exact kb_tuple_bool | exact kb_tuple_str | exact kb_tuple_list | exact kb_tuple_tuple | exact kb_NoneType_int | exact kb_NoneType_bool | exact kb_NoneType_str | exact kb_NoneType_list | exact kb_NoneType_tuple)
local macro_rules | `(tactic| walk_at "go1") => `(tactic| first
  | ((with_reducible refine w_var (v := ?v) ?h ?_); case h => exact rfl)
  | with_reducible first
  | refine w_c ?_ | refine w_m2 ?_ | refine w_m1 ?_ | refine w_maC ?_ | refine w_maN ?_ | refine w_mL ?_ | refine w_call ?_
  | refine w_mtOf ?_ | refine w_mtNot ?_ | refine w_mtAnd ?_ | refine w_mtOr ?_ | refine w_meAnd ?_ | refine w_meOr ?_ | refine w_mNot ?_
  | refine ws_seq ?_ | (refine ws_set ?_) | refine ws_ret ?_ | refine ws_if ?_ | refine ws_expr ?_ | refine ws_nil ?_ | refine ws_asg ?_
  | refine wo_int ?_ | refine wo_add ?_ | refine wo_addI ?_ | refine wo_sub ?_ | refine wo_lt ?_ | refine wo_le ?_ | refine wo_gt ?_ | refine wo_ge ?_
  | refine wo_max2 ?_ | refine wo_min2 ?_ | refine wo_abs ?_ | refine wo_neg ?_ | refine wo_eqI ?_ | refine wo_neI ?_ | refine wo_intB ?_ | refine wo_ixT rfl ?_ | refine ws_brk ?_ | refine ws_cnt ?_ | refine w_if ?_ | refine ws_par ?_ | refine ws_par3 ?_ | (refine ⟨_, _, rfl, ?_⟩) | (refine ⟨_, _, _, rfl, ?_⟩) | refine w_isN ?_ | refine w_notN ?_ | refine ite_t ?_ | refine ite_f ?_ | refine ite_nt ?_ | refine ite_nf ?_ | refine w_chain ?_ | refine w_isiT ?_ | refine wg_sub ?_ | (refine ⟨_, rfl, ?_⟩) | refine wg_v ?_ | refine wg_c ?_ | refine wg_n ?_ | refine w_sl ?_ | refine w_optS ?_ | refine w_optN ?_ | refine wo_sl31 ?_)
local macro_rules | `(tactic| walk_at "go2") => `(tactic| first
  | walk_at "go1"
  | ((with_reducible refine wo_mod ?h ?_); case h => omega) | ((with_reducible refine wo_div ?h ?_); case h => omega) | ((with_reducible refine wo_mul_l ?h ?_); case h => omega) | ((with_reducible refine wo_mul_r ?h ?_); case h => omega)
  | ((with_reducible refine wo_shr ?h ?_); case h => omega) | ((with_reducible refine wo_shl ?h ?_); case h => omega) | ((with_reducible refine wo_pow ?h ?_); case h => omega)
  | ((with_reducible refine ite_d ?a ?b); (case b => exact fun h => absurd (by omega) h); intro _)
  | ((with_reducible refine ite_d ?a ?b); (case a => exact fun h => absurd h (by omega)); intro _)
  | ((with_reducible refine ite_d ?a ?b) <;> intro _)
  | ((with_reducible refine ⟨_, _, ?xs, ?j, rfl, rfl, ?h, ?e, ?_⟩); (case h => assumption); (case e => exact rfl))
  | ((with_reducible refine ite_nd ?a ?b); (case b => exact fun h => absurd h (by omega)); intro _)
  | ((with_reducible refine ite_nd ?a ?b); (case a => exact fun h => absurd (by omega) h); intro _)
  | ((with_reducible refine ite_nd ?a ?b) <;> intro _)
  | ((with_reducible refine wg_t ?h ?_); case h => exact rfl)
  | ((with_reducible refine wo_addL (xs := ?xs) (ys := ?ys) (lst_ref ?h1) (lst_ref ?h2) ?h3 ?_); (case h1 => first | assumption | exact get_app (by assumption)); (case h2 => first | assumption | exact get_app (by assumption)); (case h3 => (show _ ≤ 2 ^ 24; simp only [List.length_append, List.length_cons, List.length_nil, List.length_map]; omega)))
  | ((with_reducible refine wo_isi (k := ?k) (b := ?b) ?h1 ?h2 ?_); (case h1 => first | exact rfl | exact kind_ref (by assumption)); (case h2 => walk_at "kb"))
  | ((with_reducible refine wo_len (xs := ?xs) ?h ?_); (case h => first | exact rfl | exact seq_ref (by assumption)))
  | ((with_reducible refine wo_ixL (xs := ?xs) (x := ?x) ?h1 ?h2 ?_); (case h1 => exact lst_ref (by assumption)); (case h2 => exact rfl))
  | ((with_reducible refine wo_tup ?h ?_); case h => (simp only [List.length_cons, List.length_nil]; decide)) | ((with_reducible refine wo_lst ?h ?_); case h => (simp only [List.length_cons, List.length_nil]; decide)))
local macro_rules | `(tactic| walk_at "go") => `(tactic| (repeat' walk_at "go2") <;> try dsimp only [List.set_cons_zero, List.set_cons_succ])

theorem Mv.gr {n : Nat} {S0 S S' : Sto} (m : Mv n S0 S) (g : Gr S S') : Mv n S0 S' := m.trans (g.mv m.src)
theorem sp_takeM {S0 S : Sto} {n : Nat} {B : Int} (m : Mv n S0 S) (hB : 0 < B ∧ B < 1000000000000000000000000000000) : Wp (m_law_take [.ref n, .int B] S) (fun v S' => ∃ r : Int, v = .int r ∧ 0 ≤ r ∧ r < B ∧ Mv n S0 S' ∧ Mv n S S') := by
  refine (sp_take m.src hB).mono ?_
  rintro v S' ⟨r, rfl, h0, h1, m'⟩
  exact ⟨r, rfl, h0, h1, m.trans m', m'⟩
theorem comC_self {f : Nat} {p : Pt} (h : inSq f p) : comC f p p = ((f : Int), p.1, p.2) := by
  have e := up_self p h.int.1 h.int.2.2.1
  unfold comC
  rw [e]
  simp
theorem comC_comm {f : Nat} {p q : Pt} (h : inSq f p) (h' : inSq f q) : comC f p q = comC f q p := by
  have e := up_comm p q h.int.1 h.int.2.2.1 h'.int.1 h'.int.2.2.1
  have u := (up_iff h.int.1 h.int.2.2.1 h'.int.1 h'.int.2.2.1 (upN p q)).mp (Nat.le_refl _)
  unfold comC
  rw [← e, u.1, u.2]
theorem pow_cast (m : Nat) : ((2 : Int) ^ m) = ((2 ^ m : Nat) : Int) := by simp
theorem inSq_nat {f x y : Nat} (hx : x < 2 ^ f) (hy : y < 2 ^ f) : inSq f ((x : Int), (y : Int)) :=
  inSq_mk (Int.natCast_nonneg _) (by rw [pow_cast]; exact Int.ofNat_lt.mpr hx) (Int.natCast_nonneg _) (by rw [pow_cast]; exact Int.ofNat_lt.mpr hy)
theorem wo_neI0 {S : Sto} {Q : Va → Sto → Prop} {i j : Int} (e : i = j) (q : Q (.bl false) S) : Wo (fNe (.int i) (.int j) S) Q := by
  refine wo_neI ?_
  rw [decide_eq_false (fun z => z e)]
  exact q
theorem wo_neD0 {α : Type} [DecidableEq α] {f : α → PyData} {S : Sto} {Q : Va → Sto → Prop} {v w : Va} {a : α} {m n : Nat} (hf : EqD f) (h1 : Rd S m v (f a)) (h2 : Rd S n w (f a)) (hm : m < 64) (hn : n < 64) (q : Q (.bl false) S) : Wo (fNe v w S) Q := by
  refine wo_neD hf h1 h2 hm hn ?_
  rw [decide_eq_false (fun z => z rfl)]
  exact q
def b_law_right_2 : MS :=
    (sSeq (sSet 8 (mCall m_law_code (maC (mV 1) (maC (mV 3) maN))))
    (sSeq (sIf (mtOr (mtOf (m2 fNe (mCall m_code_of (maC (mV 1) (maC (mV 3) maN))) (mV 8))) (mtOf (m2 fNe (mCall m_place_of (maC (mV 1) (maC (mV 8) maN))) (mV 3)))) (sRet (mC (.bl false))) sNil)
    (sSeq (sIf (mtOf (m2 fNe (mCallKw 0 2 [1, 0] m_code_of maN (maC (mV 4) (maC (mV 1) maN))) (mCall m_law_code (maC (mV 1) (maC (mV 4) maN))))) (sRet (mC (.bl false))) sNil)
    (sSeq (sIf (mtOf (m2 fNe (mCallKw 0 2 [1, 0] m_place_of maN (maC (mV 8) (maC (mV 1) maN))) (mV 3))) (sRet (mC (.bl false))) sNil)
    (sSeq (sIf (mtOf (m2 fNe (mCall m_common_cell (maC (mV 1) (maC (mV 3) (maC (mV 4) maN)))) (mCall m_law_common (maC (mV 1) (maC (mV 3) (maC (mV 4) maN)))))) (sRet (mC (.bl false))) sNil)
    (sSeq (sIf (mtOf (m2 fNe (mCall m_common_cell (maC (mV 1) (maC (mV 3) (maC (mV 3) maN)))) (m2 fAdd (mL fTup (maC (mV 1) maN)) (mV 3)))) (sRet (mC (.bl false))) sNil)
    (sSeq (sSet 9 (mCall m_law_take (maC (mV 0) (maC (m2 fAdd (mV 1) (mC (.int 1))) maN))))
    (sSeq (sSet 10 (mL fTup (maC (mV 9) (maC (m2 shrI (m2 fIx (mV 3) (mC (.int 0))) (m2 subI (mV 1) (mV 9))) (maC (m2 shrI (m2 fIx (mV 3) (mC (.int 1))) (m2 subI (mV 1) (mV 9))) maN)))))
    (sSeq (sSet 11 (m2 shlI (mC (.int 1)) (m2 subI (mV 1) (mV 9))))
    (sSeq (sSet 12 (mCall m_law_code (maC (mV 1) (maC (mL fTup (maC (m2 fMul (m2 fIx (mV 10) (mC (.int 1))) (mV 11)) (maC (m2 fMul (m2 fIx (mV 10) (mC (.int 2))) (mV 11)) maN))) maN))))
    (sSeq (sSet 13 (mCall m_law_code (maC (mV 1) (maC (mL fTup (maC (m2 subI (m2 fAdd (m2 fMul (m2 fIx (mV 10) (mC (.int 1))) (mV 11)) (mV 11)) (mC (.int 1))) (maC (m2 subI (m2 fAdd (m2 fMul (m2 fIx (mV 10) (mC (.int 2))) (mV 11)) (mV 11)) (mC (.int 1))) maN))) maN))))
    (sSeq (sIf (mtOr (mtOf (m2 fNe (mCall m_stretch_of (maC (mV 1) (maC (mV 10) maN))) (mL fTup (maC (mV 12) (maC (mV 13) maN))))) (mtOf (m2 fNe (m2 subI (mV 13) (mV 12)) (m2 subI (m2 fMul (mV 11) (mV 11)) (mC (.int 1)))))) (sRet (mC (.bl false))) sNil)
    (sSeq (sIf (mtOf (m2 fNe (mCall m_common_cell (maC (mV 1) (maC (mV 4) (maC (mV 3) maN)))) (mCallKw 0 3 [2, 1, 0] m_common_cell maN (maC (mV 4) (maC (mV 3) (maC (mV 1) maN)))))) (sRet (mC (.bl false))) sNil)
    (sRet (mChain leI leI (mV 12) (mV 8) (mV 13))))))))))))))))
/-- what the law asks of one square and two places -/
theorem sp_rest {S0 S : Sto} {n : Nat} {f x y : Nat} {q : Pt} {z5 z6 z7 : Option Va} (hf : f ≤ 40) (hx : x < 2 ^ f) (hy : y < 2 ^ f) (hq : inSq f q) (m0 : Mv n S0 S) (B : MS) (hB : B = b_law_right_2) :
    Ws (B [some (.ref n), some (.int f), some (.int ((2 ^ f : Nat) : Int)), some (ptV ((x : Int), (y : Int))), some (ptV q), z5, z6, z7, none, none, none, none, none, none] S) { nx := fun _ S' => Va.non = .bl true ∧ Mv n S0 S', rt := fun v S' => v = .bl true ∧ Mv n S0 S' } := by
  subst hB
  have hp : inSq f ((x : Int), (y : Int)) := inSq_nat hx hy
  have h40 := pow40 hf
  rw [pow_cast] at h40
  generalize hpp : (((x : Int), (y : Int)) : Pt) = p at hp
  unfold b_law_right_2
  walk_at "go"
  refine (sp_law_code hf hp).mono ?_
  rintro _ S1 ⟨rfl, rfl⟩
  walk_at "go"
  refine (sp_code_of hf hp).mono ?_
  rintro _ S1 ⟨rfl, rfl⟩
  walk_at "go"
  refine (sp_place_of hf hp).mono ?_
  rintro _ S1 ⟨rfl, rfl⟩
  walk_at "go"
  refine wo_neD0 ptE (a := p) ptR ptR (by decide) (by decide) ⟨_, rfl, ite_f ?_⟩
  walk_at "go"
  refine w_callKw ?_
  walk_at "go"
  refine ⟨⟨rfl, rfl, rfl⟩, ?_⟩
  refine Wp.mono (show Wp (m_code_of [.int f, ptV q] S1) _ from sp_code_of hf hq) ?_
  rintro _ S2 ⟨rfl, rfl⟩
  walk_at "go"
  refine (sp_law_code hf hq).mono ?_
  rintro _ S2 ⟨rfl, rfl⟩
  walk_at "go"
  refine w_callKw ?_
  walk_at "go"
  refine ⟨⟨rfl, rfl, rfl⟩, ?_⟩
  refine Wp.mono (show Wp (m_place_of [.int f, .int (cod p)] S2) _ from sp_place_of hf hp) ?_
  rintro _ S3 ⟨rfl, rfl⟩
  walk_at "go"
  refine wo_neD0 ptE (a := p) ptR ptR (by decide) (by decide) ⟨_, rfl, ite_f ?_⟩
  walk_at "go"
  refine (sp_common_cell hf hp hq).mono ?_
  rintro _ S4 ⟨rfl, rfl⟩
  walk_at "go"
  refine (sp_law_common hf hp hq).mono ?_
  rintro _ S5 ⟨rfl, g5⟩
  have m5 := m0.gr g5
  clear g5 m0
  walk_at "go"
  refine wo_neD0 clE (a := comC f p q) clR clR (by decide) (by decide) ⟨_, rfl, ite_f ?_⟩
  walk_at "go"
  refine (sp_common_cell hf hp hp).mono ?_
  rintro _ S6 ⟨rfl, rfl⟩
  walk_at "go"
  refine wo_addT (by show 3 ≤ 2 ^ 24; decide) ?_
  refine wo_neD0 clE (a := ((f : Int), p.1, p.2)) (by rw [comC_self hp]; exact clR) (clR (p := ((f : Int), p.1, p.2))) (by decide) (by decide) ⟨_, rfl, ite_f ?_⟩
  walk_at "go"
  refine (sp_takeM m5 ⟨by omega, by omega⟩).mono ?_
  rintro _ S7 ⟨l', rfl, hl0, hl1, m7, -⟩
  obtain ⟨l, rfl⟩ : ∃ l : Nat, l' = l := ⟨l'.toNat, by omega⟩
  have hl : l ≤ f := by omega
  have efl : (f : Int) - (l : Nat) = ((f - l : Nat) : Int) := by omega
  walk_at "go"
  rw [efl]
  simp only [Int.toNat_natCast]
  subst hpp
  have hm40 := pow40 (n := f - l) (by omega)
  rw [pow_cast] at hm40
  have hda : ∀ t : Nat, (t : Int) / 2 ^ (f - l) = ((t / 2 ^ (f - l) : Nat) : Int) := fun t => by rw [pow_cast]; exact (Int.natCast_ediv _ _).symm
  have hwf : 2 ^ l * 2 ^ (f - l) = 2 ^ f := by rw [← Nat.pow_add]; congr 1; omega
  have hA : x / 2 ^ (f - l) < 2 ^ l := by rw [Nat.div_lt_iff_lt_mul (Nat.pow_pos (by decide)), hwf]; exact hx
  have hB : y / 2 ^ (f - l) < 2 ^ l := by rw [Nat.div_lt_iff_lt_mul (Nat.pow_pos (by decide)), hwf]; exact hy
  have hsN : spr x + 2 * spr y = cod ((x : Int), (y : Int)) := rfl
  have hco := cod_pow (f - l) x y
  rw [hsN] at hco
  simp only [hda]
  rw [Int.one_mul, pow_cast (f - l)]
  have hl40 := pow40 (n := l) (by omega)
  rw [pow_cast] at hl40
  have hwf' : ((2 ^ l : Nat) : Int) * ((2 ^ (f - l) : Nat) : Int) = ((2 ^ f : Nat) : Int) := by rw [← hwf]; simp
  generalize hm : f - l = m at *
  generalize hAA : x / 2 ^ m = A at *
  generalize hBB : y / 2 ^ m = C at *
  have hw0 : 0 < 2 ^ m := Nat.pow_pos (by decide)
  generalize hW : (2 : Nat) ^ m = W at *
  have eA : (A : Int) * (W : Int) = ((A * W : Nat) : Int) := by simp
  have eB : (C : Int) * (W : Int) = ((C * W : Nat) : Int) := by simp
  have lA : A * W + W ≤ 2 ^ f := by rw [← hwf, ← Nat.succ_mul]; exact Nat.mul_le_mul_right W hA
  have lB : C * W + W ≤ 2 ^ f := by rw [← hwf, ← Nat.succ_mul]; exact Nat.mul_le_mul_right W hB
  have i1 : inSq f (((A * W : Nat) : Int), ((C * W : Nat) : Int)) := inSq_nat (by omega) (by omega)
  have i2 : inSq f (((A * W + (W - 1) : Nat) : Int), ((C * W + (W - 1) : Nat) : Int)) := inSq_nat (by omega) (by omega)
  have i3 : inCl f ((l : Int), (A : Int), (C : Int)) := ⟨l, rfl, hl, inSq_nat hA hB⟩
  have c1 : cod (((A * W : Nat) : Int), ((C * W : Nat) : Int)) = cod ((A : Int), (C : Int)) * 4 ^ m := by
    have := cod_first m A C
    rw [hW] at this
    exact this
  have c2 : cod (((A * W + (W - 1) : Nat) : Int), ((C * W + (W - 1) : Nat) : Int)) = cod ((A : Int), (C : Int)) * 4 ^ m + (4 ^ m - 1) := by
    have := cod_last m A C
    rw [hW] at this
    exact this
  have c3 : strC f ((l : Int), (A : Int), (C : Int)) = (((cod ((A : Int), (C : Int)) * 4 ^ m : Nat) : Int), ((cod ((A : Int), (C : Int)) * 4 ^ m + (4 ^ m - 1) : Nat) : Int)) := by
    unfold strC
    simp only [Int.toNat_natCast]
    rw [hm]
  have h4 : 0 < 4 ^ m := Nat.pow_pos (by decide)
  have hWW : (W : Int) * (W : Int) = ((4 ^ m : Nat) : Int) := by
    rw [← hW, pow4]
    have : 2 ^ m * 2 ^ m = 2 ^ (2 * m) := by rw [← Nat.pow_add]; congr 1; omega
    rw [← this]
    simp
  have hc1 : cod ((A : Int), (C : Int)) * 4 ^ m ≤ cod ((x : Int), (y : Int)) := by
    have : cod ((A : Int), (C : Int)) = cod ((x : Int), (y : Int)) / 4 ^ m := by rw [hco]; rfl
    rw [this]
    exact Nat.div_mul_le_self _ _
  have hc2 : cod ((x : Int), (y : Int)) ≤ cod ((A : Int), (C : Int)) * 4 ^ m + (4 ^ m - 1) := by
    have : cod ((A : Int), (C : Int)) = cod ((x : Int), (y : Int)) / 4 ^ m := by rw [hco]; rfl
    rw [this, Nat.mul_comm]
    have := Nat.div_add_mod (cod ((x : Int), (y : Int))) (4 ^ m)
    have := Nat.mod_lt (cod ((x : Int), (y : Int))) h4
    omega
  clear hco hsN hda
  have hA40 : (A : Int) ≤ 1099511627776 := by omega
  have hC40 : (C : Int) ≤ 1099511627776 := by omega
  walk_at "go"
  rw [eA, eB]
  refine (sp_law_code hf i1).mono ?_
  rintro _ S8 ⟨rfl, rfl⟩
  walk_at "go"
  have eA2 : ((A * W : Nat) : Int) + (W : Int) - 1 = ((A * W + (W - 1) : Nat) : Int) := by omega
  have eB2 : ((C * W : Nat) : Int) + (W : Int) - 1 = ((C * W + (W - 1) : Nat) : Int) := by omega
  rw [eA, eB, eA2, eB2]
  refine (sp_law_code hf i2).mono ?_
  rintro _ S8 ⟨rfl, rfl⟩
  walk_at "go"
  refine (sp_stretch_of hf i3).mono ?_
  rintro _ S9 ⟨rfl, g9⟩
  have m9 := m7.gr g9
  rw [c3, c1, c2]
  walk_at "go"
  refine wo_neD0 ptE (a := (((cod ((A : Int), (C : Int)) * 4 ^ m : Nat) : Int), ((cod ((A : Int), (C : Int)) * 4 ^ m + (4 ^ m - 1) : Nat) : Int))) ptR (ptR (p := (((cod ((A : Int), (C : Int)) * 4 ^ m : Nat) : Int), ((cod ((A : Int), (C : Int)) * 4 ^ m + (4 ^ m - 1) : Nat) : Int)))) (by decide) (by decide) ⟨_, rfl, ite_f ?_⟩
  generalize hK : cod ((A : Int), (C : Int)) * 4 ^ m = K at *
  walk_at "go"
  refine (sp_common_cell hf hq hp).mono ?_
  rintro _ S10 ⟨rfl, rfl⟩
  walk_at "go"
  refine w_callKw ?_
  walk_at "go"
  refine ⟨⟨rfl, rfl, rfl⟩, ?_⟩
  refine Wp.mono (show Wp (m_common_cell [.int f, ptV ((x : Int), (y : Int)), ptV q] S10) _ from sp_common_cell hf hp hq) ?_
  rintro _ S11 ⟨rfl, rfl⟩
  walk_at "go"
  refine wo_neD0 clE (a := comC f q ((x : Int), (y : Int))) clR (by rw [comC_comm hp hq]; exact clR) (by decide) (by decide) ⟨_, rfl, ite_f ?_⟩
  walk_at "go"
  exact ⟨by rw [decide_eq_true (by omega)], m9⟩
theorem sp_right {S : Sto} {n : Nat} (h : Src S n) : Wp (m_law_right [.ref n] S) (fun v S' => v = .bl true ∧ Mv n S S') := by
  have hlt := h.lt
  have m0 := Mv.refl h
  walk_at "fn"
  unfold b_law_right
  walk_at "go"
  refine (sp_takeM m0 (by decide)).mono ?_
  rintro _ S1 ⟨r, rfl, hr0, hr1, m1, -⟩
  walk_at "go"
  have m2 := m1.gr (Gr.app S1 [Ob.lst [.int 1, .int 2, .int 3, .int 5, .int 17, .int 39, .int 40, .int r]])
  have hk := m1.kp.1
  refine (sp_pick (n := n) (k := S1.length) m2.src get_last (by omega) (by simp) (by simp)).mono ?_
  rintro v S2 ⟨hv, m3⟩
  have m3 := m2.trans m3
  obtain ⟨f, rfl, hf⟩ : ∃ f : Nat, v = .int f ∧ f ≤ 40 := by
    simp only [List.mem_cons, List.not_mem_nil, or_false] at hv
    rcases hv with rfl | rfl | rfl | rfl | rfl | rfl | rfl | rfl
    · exact ⟨1, rfl, by decide⟩
    · exact ⟨2, rfl, by decide⟩
    · exact ⟨3, rfl, by decide⟩
    · exact ⟨5, rfl, by decide⟩
    · exact ⟨17, rfl, by decide⟩
    · exact ⟨39, rfl, by decide⟩
    · exact ⟨40, rfl, by decide⟩
    · exact ⟨r.toNat, by rw [Int.toNat_of_nonneg hr0], by omega⟩
  have h40 := pow40 hf
  rw [pow_cast] at h40
  walk_at "go"
  rw [shl1]
  clear m2 hk hr0 hr1 m1 hv
  refine w_lcR 2 (by decide) (fun i acc S' => Mv n S S' ∧ ∃ l : List Pt, l.length = i ∧ acc = l.map ptV ∧ ∀ p ∈ l, inSq f p) ?_ ?_ ?_
  · walk_at "go"
    exact ⟨rfl, m3, [], rfl, rfl, fun p hp => absurd hp List.not_mem_nil⟩
  · rintro i acc S3 hi ⟨m4, l, hl, rfl, hsq⟩
    refine wg_v ?_
    show Wp (Res.ok true S3) _
    refine Wp.ok ?_
    rw [if_pos rfl]
    walk_at "go"
    refine (sp_takeM m4 ⟨by omega, by omega⟩).mono ?_
    rintro _ S4 ⟨a, rfl, ha0, ha1, m5, -⟩
    walk_at "go"
    refine (sp_takeM m5 ⟨by omega, by omega⟩).mono ?_
    rintro _ S5 ⟨b, rfl, hb0, hb1, m6, -⟩
    walk_at "go"
    refine ⟨m6, l ++ [(a, b)], by simp [hl], by simp, fun p hp => ?_⟩
    rcases List.mem_append.mp hp with z | z
    · exact hsq p z
    · rw [List.mem_singleton.mp z]
      exact inSq_mk ha0 (by rw [pow_cast]; exact ha1) hb0 (by rw [pow_cast]; exact hb1)
  rintro acc S3 ⟨m4, l, hl, rfl, hsq⟩
  obtain ⟨p, q, rfl⟩ : ∃ p q, l = [p, q] := by
    match l, hl with
    | [p, q], _ => exact ⟨p, q, rfl⟩
  have hp := hsq p (by simp)
  have hq := hsq q (by simp)
  clear hsq hl
  have m5 := m4.gr (Gr.app S3 [Ob.lst ([p, q].map ptV)])
  refine wg_tl (lst_ref get_last) rfl ?_
  generalize S3 ++ [Ob.lst ([p, q].map ptV)] = S4 at m5 ⊢
  obtain ⟨x, y, rfl, hx, hy⟩ : ∃ x y : Nat, p = ((x : Int), (y : Int)) ∧ x < 2 ^ f ∧ y < 2 ^ f := by
    obtain ⟨h1, h2, h3, h4⟩ := hp.nat
    exact ⟨p.1.toNat, p.2.toNat, Prod.ext (Int.toNat_of_nonneg h1).symm (Int.toNat_of_nonneg h2).symm, h3, h4⟩
  refine wg_c (wg_v (wg_c (wg_v (wg_n ?_))))
  walk_at "go"
  refine (sp_takeM m5 (by decide)).mono ?_
  rintro _ S5 ⟨c, rfl, hc0, hc1, m6, -⟩
  refine w_c (wo_eqI ⟨_, rfl, ?_⟩)
  have rest : ∀ (q : Pt) (z5 z6 z7 : Option Va) (S' : Sto), inSq f q → Mv n S S' → Ws (b_law_right_2 [some (.ref n), some (.int f), some (.int ((2 ^ f : Nat) : Int)), some (ptV ((x : Int), (y : Int))), some (ptV q), z5, z6, z7, none, none, none, none, none, none] S') { nx := fun _ S' => Va.non = .bl true ∧ Mv n S S', rt := fun v S' => v = .bl true ∧ Mv n S S' } :=
    fun q z5 z6 z7 S' h1 h2 => sp_rest hf hx hy h1 h2 _ rfl
  refine ws_merge (fun Γ S' => ∃ q z6, Γ = [some (.ref n), some (.int f), some (.int ((2 ^ f : Nat) : Int)), some (ptV ((x : Int), (y : Int))), some (ptV q), none, z6, none, none, none, none, none, none, none] ∧ inSq f q ∧ Mv n S S') ?_ ?_ ?_
  · intro _
    walk_at "go"
    refine (sp_takeM m6 ⟨by omega, by omega⟩).mono ?_
    rintro _ S6 ⟨t', rfl, ht0, ht1, m7, -⟩
    obtain ⟨t, rfl⟩ : ∃ t : Nat, t' = t := ⟨t'.toNat, by omega⟩
    have ht40 := pow40 (n := t) (by omega)
    rw [pow_cast] at ht40
    walk_at "go"
    rw [shl1]
    refine w_lcW (ptV ((x : Int), (y : Int))) [.int x, .int y] (fun i acc S' => Mv n S S' ∧ ∃ l : List Int, l.length = i ∧ acc = l.map Va.int ∧ ∀ a ∈ l, 0 ≤ a ∧ a < ((2 ^ f : Nat) : Int)) (by show 2 < 2 ^ 24; decide) ?_ ?_ ?_ ?_
    · walk_at "go"
      exact ⟨rfl, m7, [], rfl, rfl, fun a ha => absurd ha List.not_mem_nil⟩
    · intro i acc S' _
      exact .inr (.inl rfl)
    · rintro i v acc S' hv ⟨m8, l, hl, rfl, hb⟩
      obtain ⟨u, rfl, hu⟩ : ∃ u : Nat, v = .int u ∧ u < 2 ^ f := by
        match i, hv with
        | 0, hv => cases hv; exact ⟨x, rfl, hx⟩
        | 1, hv => cases hv; exact ⟨y, rfl, hy⟩
      refine wg_v ?_
      show Wp (Res.ok true S') _
      refine Wp.ok ?_
      rw [if_pos rfl]
      have hd0 : 0 ≤ (u : Int) / ((2 ^ t : Nat) : Int) := Int.ediv_nonneg (by omega) (by omega)
      have hd1 : (u : Int) / ((2 ^ t : Nat) : Int) ≤ u := Int.ediv_le_self _ (by omega)
      have hmu : 0 ≤ (u : Int) / ((2 ^ t : Nat) : Int) * ((2 ^ t : Nat) : Int) := Int.mul_nonneg hd0 (by omega)
      walk_at "go"
      refine (sp_takeM m8 ⟨by omega, by omega⟩).mono ?_
      rintro _ S7 ⟨e, rfl, he0, he1, m9, -⟩
      walk_at "go"
      refine ⟨m9, l ++ [min (((2 ^ f : Nat) : Int) - 1) ((u : Int) / ((2 ^ t : Nat) : Int) * ((2 ^ t : Nat) : Int) + e)], by simp [hl], by simp, fun a ha => ?_⟩
      rcases List.mem_append.mp ha with z | z
      · exact hb a z
      · rw [List.mem_singleton.mp z]
        omega
    · rintro acc S' ⟨m8, l, hl, rfl, hb⟩
      obtain ⟨a, b, rfl⟩ : ∃ a b, l = [a, b] := by
        match l, hl with
        | [a, b], _ => exact ⟨a, b, rfl⟩
      have ha := hb a (by simp)
      have hb' := hb b (by simp)
      walk_at "go"
      refine wo_tupR get_last ?_
      exact ⟨(a, b), _, rfl, inSq_mk ha.1 (by rw [pow_cast]; exact ha.2) hb'.1 (by rw [pow_cast]; exact hb'.2), m8.gr (Gr.app _ _)⟩
  · intro _
    walk_at "go"
    exact ⟨hq, m6⟩
  · rintro Γ S' ⟨q', z6, rfl, hq', m'⟩
    exact rest q' none z6 none S' hq' m'
end PM

namespace PM
open PySem PySem.Spec PyProof.Rows L2 Q2
local macro_rules | `(tactic| walk_at "fn") => `(tactic| (first | refine w_fn1 ?_ | refine w_fn2 ?_ | refine w_fn3 ?_ | refine w_fn4 ?_ | refine w_fn5 ?_ | refine w_fn6 ?_); dsimp only [List.replicate])
local macro_rules | `(tactic| walk_at "kb") => `(tactic| with_reducible first | exact kb_int_int | exact kb_int_bool | exact kb_int_str | exact kb_int_list | exact kb_int_tuple | exact kb_bool_int | exact kb_bool_bool | exact kb_bool_str | exact kb_bool_list | exact kb_bool_tuple | exact kb_str_int | exact kb_str_bool | exact kb_str_str | exact kb_str_list | exact kb_str_tuple | exact kb_list_int | exact kb_list_bool | exact kb_list_str | exact kb_list_list | exact kb_list_tuple | exact kb_tuple_int | exact kb_tuple_bool | exact kb_tuple_str | exact kb_tuple_list | exact kb_tuple_tuple | exact kb_NoneType_int | exact kb_NoneType_bool | exact kb_NoneType_str | exact kb_NoneType_list | exact kb_NoneType_tuple)
local macro_rules | `(tactic| walk_at "go1") => `(tactic| first
  | ((with_reducible refine w_var (v := ?v) ?h ?_); case h => exact rfl)
  | with_reducible first
  | refine w_c ?_ | refine w_m2 ?_ | refine w_m1 ?_ | refine w_maC ?_ | refine w_maN ?_ | refine w_mL ?_ | refine w_call ?_
  | refine w_mtOf ?_ | refine w_mtNot ?_ | refine w_mtAnd ?_ | refine w_mtOr ?_ | refine w_meAnd ?_ | refine w_meOr ?_ | refine w_mNot ?_
  | refine ws_seq ?_ | (refine ws_set ?_) | refine ws_ret ?_ | refine ws_if ?_ | refine ws_expr ?_ | refine ws_nil ?_ | refine ws_asg ?_
  | refine wo_int ?_ | refine wo_add ?_ | refine wo_addI ?_ | refine wo_sub ?_ | refine wo_lt ?_ | refine wo_le ?_ | refine wo_gt ?_ | refine wo_ge ?_
  | refine wo_max2 ?_ | refine wo_min2 ?_ | refine wo_abs ?_ | refine wo_neg ?_ | refine wo_eqI ?_ | refine wo_neI ?_ | refine wo_intB ?_ | refine wo_ixT rfl ?_ | refine ws_brk ?_ | refine ws_cnt ?_ | refine w_if ?_ | refine ws_par ?_ | refine ws_par3 ?_ | (refine ⟨_, _, rfl, ?_⟩) | (refine ⟨_, _, _, rfl, ?_⟩) | refine w_isN ?_ | refine w_notN ?_ | refine ite_t ?_ | refine ite_f ?_ | refine ite_nt ?_ | refine ite_nf ?_ | refine w_chain ?_ | refine w_isiT ?_ | refine wg_sub ?_ | (refine ⟨_, rfl, ?_⟩) | refine wg_v ?_ | refine wg_c ?_ | refine wg_n ?_ | refine w_sl ?_ | refine w_optS ?_ | refine w_optN ?_ | refine wo_sl31 ?_)
local macro_rules | `(tactic| walk_at "go2") => `(tactic| first
  | walk_at "go1"
  | ((with_reducible refine wo_mod ?h ?_); case h => omega) | ((with_reducible refine wo_div ?h ?_); case h => omega) | ((with_reducible refine wo_mul_l ?h ?_); case h => omega) | ((with_reducible refine wo_mul_r ?h ?_); case h => omega)
  | ((with_reducible refine wo_shr ?h ?_); case h => omega) | ((with_reducible refine wo_shl ?h ?_); case h => omega) | ((with_reducible refine wo_pow ?h ?_); case h => omega)
  | ((with_reducible refine ite_d ?a ?b); (case b => exact fun h => absurd (by omega) h); intro _)
  | ((with_reducible refine ite_d ?a ?b); (case a => exact fun h => absurd h (by omega)); intro _)
  | ((with_reducible refine ite_d ?a ?b) <;> intro _)
  | ((with_reducible refine ⟨_, _, ?xs, ?j, rfl, rfl, ?h, ?e, ?_⟩); (case h => assumption); (case e => exact rfl))
  | ((with_reducible refine ite_nd ?a ?b); (case b => exact fun h => absurd h (by omega)); intro _)
  | ((with_reducible refine ite_nd ?a ?b); (case a => exact fun h => absurd (by omega) h); intro _)
  | ((with_reducible refine ite_nd ?a ?b) <;> intro _)
  | ((with_reducible refine wg_t ?h ?_); case h => exact rfl)
  | ((with_reducible refine wo_addL (xs := ?xs) (ys := ?ys) (lst_ref ?h1) (lst_ref ?h2) ?h3 ?_); (case h1 => first | assumption | exact get_app (by assumption)); (case h2 => first | assumption | exact get_app (by assumption)); (case h3 => (show _ ≤ 2 ^ 24; simp only [List.length_append, List.length_cons, List.length_nil, List.length_map]; omega)))
  | ((with_reducible refine wo_isi (k := ?k) (b := ?b) ?h1 ?h2 ?_); (case h1 => first | exact rfl | exact kind_ref (by assumption)); (case h2 => walk_at "kb"))
  | ((with_reducible refine wo_len (xs := ?xs) ?h ?_); (case h => first | exact rfl | exact seq_ref (by assumption)))
  | ((with_reducible refine wo_ixL (xs := ?xs) (x := ?x) ?h1 ?h2 ?_); (case h1 => exact lst_ref (by assumption)); (case h2 => exact rfl))
  | ((with_reducible refine wo_tup ?h ?_); case h => (simp only [List.length_cons, List.length_nil]; decide)) | ((with_reducible refine wo_lst ?h ?_); case h => (simp only [List.length_cons, List.length_nil]; decide)))
local macro_rules | `(tactic| walk_at "go") => `(tactic| (repeat' walk_at "go2") <;> try dsimp only [List.set_cons_zero, List.set_cons_succ])

theorem law_ok (ns : List Int) (hns : ns.length ≤ 63) : ∃ S', m_law [.rol (ns.map Va.int)] [] = .ok (.bl true) S' := by
  suffices h : Wp (m_law [.rol (ns.map Va.int)] []) (fun v _ => v = .bl true) by
    obtain ⟨v, S', e, rfl⟩ := h.get
    exact ⟨S', e⟩
  walk_at "fn"
  unfold b_law
  walk_at "go"
  refine ws_forW (.ref 2) ((ns.take 4 ++ [0]).map Va.int) (fun i Γ S' => S'[2]? = some (.lst ((ns.take 4 ++ [0]).map Va.int)) ∧ ∃ z1 z2 z3 z4, Γ = [some (.rol (ns.map Va.int)), z1, z2, z3, z4]) ?_ (fun i Γ S' h => IsSeq.ref h.1) ?_ ?_
  · walk_at "go"
    refine wo_slTo (xs := ns.map Va.int) rfl (by decide) (by simp; omega) ?_
    walk_at "go"
    refine wo_addL (lst_ref (get_app get_last)) (lst_ref get_last) (by show _ ≤ 2 ^ 24; simp; omega) ?_
    refine ⟨rfl, ?_, none, none, none, none, rfl⟩
    have : (ns.take 4 ++ [0]).map Va.int = (ns.map Va.int).take (4 : Int).toNat ++ [Va.int 0] := by rw [List.map_append, List.map_take]; rfl
    rw [this]
    rfl
  · rintro i x Γ S0 hx ⟨h2, z1, z2, z3, z4, rfl⟩
    obtain ⟨cell, _, rfl⟩ := map_at hx
    walk_at "go"
    refine sp_source.mono ?_
    rintro _ S1 ⟨rfl, hsrc, g1⟩
    have h2' := g1.get h2
    have hn2 : 2 < S0.length := lt_get h2
    generalize S0.length = n at hsrc hn2 ⊢
    walk_at "go"
    refine ws_forR 10 (by decide) (fun j Γ S' => Src S' n ∧ S'[2]? = some (.lst ((ns.take 4 ++ [0]).map Va.int)) ∧ ∃ z3 z4, Γ = [some (.rol (ns.map Va.int)), some (.int cell), some (.ref n), z3, z4]) ?_ ?_ ?_
    · walk_at "go"
      exact ⟨rfl, hsrc, h2', z3, z4, rfl⟩
    · rintro j Γ S2 hj ⟨src, h3, z3, z4, rfl⟩
      walk_at "go"
      refine (sp_right src).mono ?_
      rintro _ S3 ⟨rfl, m⟩
      walk_at "go"
      exact ⟨m.src, m.get (by omega) h3, _, _, rfl⟩
    · rintro Γ S2 ⟨src, h3, z3, z4, rfl⟩
      exact ⟨h3, _, _, _, _, rfl⟩
  · rintro Γ S2 ⟨_, z1, z2, z3, z4, rfl⟩
    walk_at "go"
    refine w_lcR 4 (by decide) (fun i acc S' => acc = []) ?_ ?_ ?_
    · walk_at "go"
      exact ⟨rfl, rfl⟩
    · rintro i acc S3 hi rfl
      walk_at "go"
      refine (sp_all_right (k := i) (by omega)).mono ?_
      rintro _ S4 ⟨rfl, _⟩
      walk_at "go"
    · rintro acc S3 rfl
      walk_at "go"
      refine wo_eqD (EqD.list nE) (a := []) (b := []) (nsR (l := []) (get_app get_last)) (nsR (l := []) get_last) (by decide) (by decide) ?_
      simp
end PM

namespace PM
open PySem PySem.Spec PyProof.Rows L2 Q2
/-! ### the law, at the top -/
theorem fn_imp {P : Program} {w : World} {K : PySem.W.Frag} {mg : Str → Option Value} {base : Heap} {cx : CXT} {k : Nat} {f : Addr} {fd : FuncData} {ps : List Str} {sp sp' : Sp} (F : FnOk P w K mg base cx k f fd ps sp) (h : ∀ vs H Q E, sp' vs H Q E → sp vs H Q E) : FnOk P w K mg base cx k f fd ps sp' :=
  ⟨fun vs H Q E q => F.len vs H Q E (h _ _ _ _ q), fun A outer s H args us vs Q E hr e0 hb r q => F.run A outer s H args us vs Q E hr e0 hb r (h _ _ _ _ q)⟩
def spTop (K : KX) (g : MF) : Sp := fun vs H Q _ => vs.length = 1 ∧ ∃ as S', Rvs K [] H as vs ∧ g as [] = .ok (.bl true) S' ∧ ∀ H', Q (.bl true) H'
theorem spTop_up {K : KX} {mg : Str → Option Value} {g : MF} : ∀ vs H Q E, spTop K g vs H Q E → spM K mg 1 g vs H Q E := by
  rintro vs H Q E ⟨hl, as, S', r, e, q⟩
  refine ⟨hl, [], [], as, ⟨rfl, List.nodup_nil, fun n a o h _ => by simp at h⟩, r, ?_⟩
  rw [e]
  intro ρ' H' w _ _ rw
  cases rw
  exact q H'
theorem fzl_of {K : PySem.W.Frag} {H : Hp} {a : Addr} {xs : List V} (o : Only H) (h : SqL K H a xs) : FzL K H a xs := by
  rcases h with (h | h) | h
  · rcases o a with z | ⟨_, _, z⟩
    · rw [h] at z; cases z
    · rw [h] at z; cases z
  · exact .inl h
  · exact .inr h
theorem ints_rol {K : KX} {ρ : List Addr} {H : Hp} : ∀ ns : List Int, Rvs K ρ H (ns.map Va.int) (ns.map V.int)
  | [] => rfl
  | n :: ns => Rvs.cons rfl (ints_rol ns)
theorem top_ok {K : KX} {g : MF} (h : ∀ ns : List Int, ns.length ≤ 63 → ∃ S', g [.rol (ns.map Va.int)] [] = .ok (.bl true) S') {H : Hp} {a : Addr} {ns : List Int} (hl : ns.length ≤ 63) (o : Only H) (hs : SqL K.K H a (ns.map V.int)) {E : XK} : spTop K g [.ref a] H (fun v _ => v = .bl true) E := by
  obtain ⟨S', e⟩ := h ns hl
  exact ⟨rfl, [.rol (ns.map Va.int)], S', Rvs.cons (x := .rol (ns.map Va.int)) ⟨a, _, rfl, fzl_of o hs, ints_rol ns⟩ rfl, e, fun _ => rfl⟩
/-- a tuple that stands in the written part -/
theorem tupW {K : KX} {a : Addr} {od : Option Addr} {its : Array Value} {n : Nat} {sl : Array (Option Value)} {xs : List Va} {ws : List V} (h : K.K.lookup a = some ⟨.type "tuple", od, .seq its n, sl⟩) (hl : its.size ≤ sizeLine) (v : Vals ws its.toList) (r : ∀ ρ H, Rvs K ρ H xs ws) : ∀ ρ H, Rv K ρ H (.tup xs) (.ref a) :=
  fun ρ H => ⟨a, ws, rfl, .inr ⟨_, its, n, h, rfl, rfl, hl, v⟩, r ρ H⟩
example {K : KX} {a : Addr} {od : Option Addr} {t1 t2 : Tok} {n : Nat} {sl : Array (Option Value)} (h : K.K.lookup a = some ⟨.type "tuple", od, .seq #[.int 3 t1, .none, .int 2 t2] n, sl⟩) : ∀ ρ H, Rv K ρ H (.tup [.int 3, .non, .int 2]) (.ref a) :=
  tupW (ws := [.int 3, .non, .int 2]) h (Nat.le_of_ble_eq_true rfl) (.cons ⟨_, rfl⟩ (.cons rfl (.cons ⟨_, rfl⟩ .nil))) (fun ρ H => Rvs.cons rfl (Rvs.cons rfl (Rvs.cons rfl rfl)))
end PM

namespace PM
open PySem PySem.Spec PyProof.Rows L2 Q2
theorem all_mk {l : PySem.W.OpenLaw} {w : World} {K : PySem.W.Frag} {h : Heap} {mg : Str → Option Value} {fa : Addr} (X : K.In h) (G : h.Ns mainGlobals mg) (hfa : mg "law" = some (.ref fa))
    {f_is_integer : Addr} {od_is_integer an_is_integer : Option Addr} {sl_is_integer : Array (Option Value)} {oc_is_integer kV_is_integer dc_is_integer pm_is_integer cd_is_integer ct_is_integer : Value}
    {f_is_coordinate : Addr} {od_is_coordinate an_is_coordinate : Option Addr} {sl_is_coordinate : Array (Option Value)} {oc_is_coordinate kV_is_coordinate dc_is_coordinate pm_is_coordinate cd_is_coordinate ct_is_coordinate : Value}
    {f_is_point : Addr} {od_is_point an_is_point : Option Addr} {sl_is_point : Array (Option Value)} {oc_is_point kV_is_point dc_is_point pm_is_point cd_is_point ct_is_point : Value}
    {f_check_number : Addr} {od_check_number an_check_number : Option Addr} {sl_check_number : Array (Option Value)} {oc_check_number kV_check_number dc_check_number pm_check_number cd_check_number ct_check_number : Value}
    {f_check_figures : Addr} {od_check_figures an_check_figures : Option Addr} {sl_check_figures : Array (Option Value)} {oc_check_figures kV_check_figures dc_check_figures pm_check_figures cd_check_figures ct_check_figures : Value}
    {f_is_place : Addr} {od_is_place an_is_place : Option Addr} {sl_is_place : Array (Option Value)} {oc_is_place kV_is_place dc_is_place pm_is_place cd_is_place ct_is_place : Value}
    {f_check_place : Addr} {od_check_place an_check_place : Option Addr} {sl_check_place : Array (Option Value)} {oc_check_place kV_check_place dc_check_place pm_check_place cd_check_place ct_check_place : Value}
    {f_is_cell : Addr} {od_is_cell an_is_cell : Option Addr} {sl_is_cell : Array (Option Value)} {oc_is_cell kV_is_cell dc_is_cell pm_is_cell cd_is_cell ct_is_cell : Value}
    {f_check_cell : Addr} {od_check_cell an_check_cell : Option Addr} {sl_check_cell : Array (Option Value)} {oc_check_cell kV_check_cell dc_check_cell pm_check_cell cd_check_cell ct_check_cell : Value}
    {f_cell_at : Addr} {od_cell_at an_cell_at : Option Addr} {sl_cell_at : Array (Option Value)} {oc_cell_at kV_cell_at dc_cell_at pm_cell_at cd_cell_at ct_cell_at : Value}
    {f_cell_of_place : Addr} {od_cell_of_place an_cell_of_place : Option Addr} {sl_cell_of_place : Array (Option Value)} {oc_cell_of_place kV_cell_of_place dc_cell_of_place pm_cell_of_place cd_cell_of_place ct_cell_of_place : Value}
    {f_cell_of_both : Addr} {od_cell_of_both an_cell_of_both : Option Addr} {sl_cell_of_both : Array (Option Value)} {oc_cell_of_both kV_cell_of_both dc_cell_of_both pm_cell_of_both cd_cell_of_both ct_cell_of_both : Value}
    {f_code_at : Addr} {od_code_at an_code_at : Option Addr} {sl_code_at : Array (Option Value)} {oc_code_at kV_code_at dc_code_at pm_code_at cd_code_at ct_code_at : Value}
    {f_place_at : Addr} {od_place_at an_place_at : Option Addr} {sl_place_at : Array (Option Value)} {oc_place_at kV_place_at dc_place_at pm_place_at cd_place_at ct_place_at : Value}
    {f_codes_of : Addr} {od_codes_of an_codes_of : Option Addr} {sl_codes_of : Array (Option Value)} {oc_codes_of kV_codes_of dc_codes_of pm_codes_of cd_codes_of ct_codes_of : Value}
    {f_code_of : Addr} {od_code_of an_code_of : Option Addr} {sl_code_of : Array (Option Value)} {oc_code_of kV_code_of dc_code_of pm_code_of cd_code_of ct_code_of : Value}
    {f_check_code : Addr} {od_check_code an_check_code : Option Addr} {sl_check_code : Array (Option Value)} {oc_check_code kV_check_code dc_check_code pm_check_code cd_check_code ct_check_code : Value}
    {f_place_of : Addr} {od_place_of an_place_of : Option Addr} {sl_place_of : Array (Option Value)} {oc_place_of kV_place_of dc_place_of pm_place_of cd_place_of ct_place_of : Value}
    {f_stretch_of : Addr} {od_stretch_of an_stretch_of : Option Addr} {sl_stretch_of : Array (Option Value)} {oc_stretch_of kV_stretch_of dc_stretch_of pm_stretch_of cd_stretch_of ct_stretch_of : Value}
    {f_common_cell : Addr} {od_common_cell an_common_cell : Option Addr} {sl_common_cell : Array (Option Value)} {oc_common_cell kV_common_cell dc_common_cell pm_common_cell cd_common_cell ct_common_cell : Value}
    {f_law_mixed : Addr} {od_law_mixed an_law_mixed : Option Addr} {sl_law_mixed : Array (Option Value)} {oc_law_mixed kV_law_mixed dc_law_mixed pm_law_mixed cd_law_mixed ct_law_mixed : Value}
    {f_law_source : Addr} {od_law_source an_law_source : Option Addr} {sl_law_source : Array (Option Value)} {oc_law_source kV_law_source dc_law_source pm_law_source cd_law_source ct_law_source : Value}
    {f_law_take : Addr} {od_law_take an_law_take : Option Addr} {sl_law_take : Array (Option Value)} {oc_law_take kV_law_take dc_law_take pm_law_take cd_law_take ct_law_take : Value}
    {f_law_pick : Addr} {od_law_pick an_law_pick : Option Addr} {sl_law_pick : Array (Option Value)} {oc_law_pick kV_law_pick dc_law_pick pm_law_pick cd_law_pick ct_law_pick : Value}
    {f_law_code : Addr} {od_law_code an_law_code : Option Addr} {sl_law_code : Array (Option Value)} {oc_law_code kV_law_code dc_law_code pm_law_code cd_law_code ct_law_code : Value}
    {f_law_common : Addr} {od_law_common an_law_common : Option Addr} {sl_law_common : Array (Option Value)} {oc_law_common kV_law_common dc_law_common pm_law_common cd_law_common ct_law_common : Value}
    {f_law_all_right : Addr} {od_law_all_right an_law_all_right : Option Addr} {sl_law_all_right : Array (Option Value)} {oc_law_all_right kV_law_all_right dc_law_all_right pm_law_all_right cd_law_all_right ct_law_all_right : Value}
    {f_law_right : Addr} {od_law_right an_law_right : Option Addr} {sl_law_right : Array (Option Value)} {oc_law_right kV_law_right dc_law_right pm_law_right cd_law_right ct_law_right : Value}
    {f_law : Addr} {od_law an_law : Option Addr} {sl_law : Array (Option Value)} {oc_law kV_law dc_law pm_law cd_law ct_law : Value}
    {tk_FARTHEST_COORDINATE : Tok}
    {tk_MOST_FIGURES : Tok}
    (a_is_integer : PySem.W.nsIn K mainGlobals "is_integer" = some (some (.ref f_is_integer))) (l_is_integer : K.lookup f_is_integer = some ⟨oc_is_integer, od_is_integer, .func (PySem.W.fnOf "is_integer" "is_integer" (defArgs s_is_integer) (defBody s_is_integer) (defScope s_is_integer) .none kV_is_integer dc_is_integer pm_is_integer an_is_integer cd_is_integer ct_is_integer), sl_is_integer⟩) (c_is_integer : PySem.W.codeIn K cd_is_integer "is_integer" = true) (k_is_integer : PySem.W.keepIn K (.ref f_is_integer) = true)
    (a_is_coordinate : PySem.W.nsIn K mainGlobals "is_coordinate" = some (some (.ref f_is_coordinate))) (l_is_coordinate : K.lookup f_is_coordinate = some ⟨oc_is_coordinate, od_is_coordinate, .func (PySem.W.fnOf "is_coordinate" "is_coordinate" (defArgs s_is_coordinate) (defBody s_is_coordinate) (defScope s_is_coordinate) .none kV_is_coordinate dc_is_coordinate pm_is_coordinate an_is_coordinate cd_is_coordinate ct_is_coordinate), sl_is_coordinate⟩) (c_is_coordinate : PySem.W.codeIn K cd_is_coordinate "is_coordinate" = true) (k_is_coordinate : PySem.W.keepIn K (.ref f_is_coordinate) = true)
    (a_is_point : PySem.W.nsIn K mainGlobals "is_point" = some (some (.ref f_is_point))) (l_is_point : K.lookup f_is_point = some ⟨oc_is_point, od_is_point, .func (PySem.W.fnOf "is_point" "is_point" (defArgs s_is_point) (defBody s_is_point) (defScope s_is_point) .none kV_is_point dc_is_point pm_is_point an_is_point cd_is_point ct_is_point), sl_is_point⟩) (c_is_point : PySem.W.codeIn K cd_is_point "is_point" = true) (k_is_point : PySem.W.keepIn K (.ref f_is_point) = true)
    (a_check_number : PySem.W.nsIn K mainGlobals "check_number" = some (some (.ref f_check_number))) (l_check_number : K.lookup f_check_number = some ⟨oc_check_number, od_check_number, .func (PySem.W.fnOf "check_number" "check_number" (defArgs s_check_number) (defBody s_check_number) (defScope s_check_number) .none kV_check_number dc_check_number pm_check_number an_check_number cd_check_number ct_check_number), sl_check_number⟩) (c_check_number : PySem.W.codeIn K cd_check_number "check_number" = true) (k_check_number : PySem.W.keepIn K (.ref f_check_number) = true)
    (a_check_figures : PySem.W.nsIn K mainGlobals "check_figures" = some (some (.ref f_check_figures))) (l_check_figures : K.lookup f_check_figures = some ⟨oc_check_figures, od_check_figures, .func (PySem.W.fnOf "check_figures" "check_figures" (defArgs s_check_figures) (defBody s_check_figures) (defScope s_check_figures) .none kV_check_figures dc_check_figures pm_check_figures an_check_figures cd_check_figures ct_check_figures), sl_check_figures⟩) (c_check_figures : PySem.W.codeIn K cd_check_figures "check_figures" = true) (k_check_figures : PySem.W.keepIn K (.ref f_check_figures) = true)
    (a_is_place : PySem.W.nsIn K mainGlobals "is_place" = some (some (.ref f_is_place))) (l_is_place : K.lookup f_is_place = some ⟨oc_is_place, od_is_place, .func (PySem.W.fnOf "is_place" "is_place" (defArgs s_is_place) (defBody s_is_place) (defScope s_is_place) .none kV_is_place dc_is_place pm_is_place an_is_place cd_is_place ct_is_place), sl_is_place⟩) (c_is_place : PySem.W.codeIn K cd_is_place "is_place" = true) (k_is_place : PySem.W.keepIn K (.ref f_is_place) = true)
    (a_check_place : PySem.W.nsIn K mainGlobals "check_place" = some (some (.ref f_check_place))) (l_check_place : K.lookup f_check_place = some ⟨oc_check_place, od_check_place, .func (PySem.W.fnOf "check_place" "check_place" (defArgs s_check_place) (defBody s_check_place) (defScope s_check_place) .none kV_check_place dc_check_place pm_check_place an_check_place cd_check_place ct_check_place), sl_check_place⟩) (c_check_place : PySem.W.codeIn K cd_check_place "check_place" = true) (k_check_place : PySem.W.keepIn K (.ref f_check_place) = true)
    (a_is_cell : PySem.W.nsIn K mainGlobals "is_cell" = some (some (.ref f_is_cell))) (l_is_cell : K.lookup f_is_cell = some ⟨oc_is_cell, od_is_cell, .func (PySem.W.fnOf "is_cell" "is_cell" (defArgs s_is_cell) (defBody s_is_cell) (defScope s_is_cell) .none kV_is_cell dc_is_cell pm_is_cell an_is_cell cd_is_cell ct_is_cell), sl_is_cell⟩) (c_is_cell : PySem.W.codeIn K cd_is_cell "is_cell" = true) (k_is_cell : PySem.W.keepIn K (.ref f_is_cell) = true)
    (a_check_cell : PySem.W.nsIn K mainGlobals "check_cell" = some (some (.ref f_check_cell))) (l_check_cell : K.lookup f_check_cell = some ⟨oc_check_cell, od_check_cell, .func (PySem.W.fnOf "check_cell" "check_cell" (defArgs s_check_cell) (defBody s_check_cell) (defScope s_check_cell) .none kV_check_cell dc_check_cell pm_check_cell an_check_cell cd_check_cell ct_check_cell), sl_check_cell⟩) (c_check_cell : PySem.W.codeIn K cd_check_cell "check_cell" = true) (k_check_cell : PySem.W.keepIn K (.ref f_check_cell) = true)
    (a_cell_at : PySem.W.nsIn K mainGlobals "cell_at" = some (some (.ref f_cell_at))) (l_cell_at : K.lookup f_cell_at = some ⟨oc_cell_at, od_cell_at, .func (PySem.W.fnOf "cell_at" "cell_at" (defArgs s_cell_at) (defBody s_cell_at) (defScope s_cell_at) .none kV_cell_at dc_cell_at pm_cell_at an_cell_at cd_cell_at ct_cell_at), sl_cell_at⟩) (c_cell_at : PySem.W.codeIn K cd_cell_at "cell_at" = true) (k_cell_at : PySem.W.keepIn K (.ref f_cell_at) = true)
    (a_cell_of_place : PySem.W.nsIn K mainGlobals "cell_of_place" = some (some (.ref f_cell_of_place))) (l_cell_of_place : K.lookup f_cell_of_place = some ⟨oc_cell_of_place, od_cell_of_place, .func (PySem.W.fnOf "cell_of_place" "cell_of_place" (defArgs s_cell_of_place) (defBody s_cell_of_place) (defScope s_cell_of_place) .none kV_cell_of_place dc_cell_of_place pm_cell_of_place an_cell_of_place cd_cell_of_place ct_cell_of_place), sl_cell_of_place⟩) (c_cell_of_place : PySem.W.codeIn K cd_cell_of_place "cell_of_place" = true) (k_cell_of_place : PySem.W.keepIn K (.ref f_cell_of_place) = true)
    (a_cell_of_both : PySem.W.nsIn K mainGlobals "cell_of_both" = some (some (.ref f_cell_of_both))) (l_cell_of_both : K.lookup f_cell_of_both = some ⟨oc_cell_of_both, od_cell_of_both, .func (PySem.W.fnOf "cell_of_both" "cell_of_both" (defArgs s_cell_of_both) (defBody s_cell_of_both) (defScope s_cell_of_both) .none kV_cell_of_both dc_cell_of_both pm_cell_of_both an_cell_of_both cd_cell_of_both ct_cell_of_both), sl_cell_of_both⟩) (c_cell_of_both : PySem.W.codeIn K cd_cell_of_both "cell_of_both" = true) (k_cell_of_both : PySem.W.keepIn K (.ref f_cell_of_both) = true)
    (a_code_at : PySem.W.nsIn K mainGlobals "code_at" = some (some (.ref f_code_at))) (l_code_at : K.lookup f_code_at = some ⟨oc_code_at, od_code_at, .func (PySem.W.fnOf "code_at" "code_at" (defArgs s_code_at) (defBody s_code_at) (defScope s_code_at) .none kV_code_at dc_code_at pm_code_at an_code_at cd_code_at ct_code_at), sl_code_at⟩) (c_code_at : PySem.W.codeIn K cd_code_at "code_at" = true) (k_code_at : PySem.W.keepIn K (.ref f_code_at) = true)
    (a_place_at : PySem.W.nsIn K mainGlobals "place_at" = some (some (.ref f_place_at))) (l_place_at : K.lookup f_place_at = some ⟨oc_place_at, od_place_at, .func (PySem.W.fnOf "place_at" "place_at" (defArgs s_place_at) (defBody s_place_at) (defScope s_place_at) .none kV_place_at dc_place_at pm_place_at an_place_at cd_place_at ct_place_at), sl_place_at⟩) (c_place_at : PySem.W.codeIn K cd_place_at "place_at" = true) (k_place_at : PySem.W.keepIn K (.ref f_place_at) = true)
    (a_codes_of : PySem.W.nsIn K mainGlobals "codes_of" = some (some (.ref f_codes_of))) (l_codes_of : K.lookup f_codes_of = some ⟨oc_codes_of, od_codes_of, .func (PySem.W.fnOf "codes_of" "codes_of" (defArgs s_codes_of) (defBody s_codes_of) (defScope s_codes_of) .none kV_codes_of dc_codes_of pm_codes_of an_codes_of cd_codes_of ct_codes_of), sl_codes_of⟩) (c_codes_of : PySem.W.codeIn K cd_codes_of "codes_of" = true) (k_codes_of : PySem.W.keepIn K (.ref f_codes_of) = true)
    (a_code_of : PySem.W.nsIn K mainGlobals "code_of" = some (some (.ref f_code_of))) (l_code_of : K.lookup f_code_of = some ⟨oc_code_of, od_code_of, .func (PySem.W.fnOf "code_of" "code_of" (defArgs s_code_of) (defBody s_code_of) (defScope s_code_of) .none kV_code_of dc_code_of pm_code_of an_code_of cd_code_of ct_code_of), sl_code_of⟩) (c_code_of : PySem.W.codeIn K cd_code_of "code_of" = true) (k_code_of : PySem.W.keepIn K (.ref f_code_of) = true)
    (a_check_code : PySem.W.nsIn K mainGlobals "check_code" = some (some (.ref f_check_code))) (l_check_code : K.lookup f_check_code = some ⟨oc_check_code, od_check_code, .func (PySem.W.fnOf "check_code" "check_code" (defArgs s_check_code) (defBody s_check_code) (defScope s_check_code) .none kV_check_code dc_check_code pm_check_code an_check_code cd_check_code ct_check_code), sl_check_code⟩) (c_check_code : PySem.W.codeIn K cd_check_code "check_code" = true) (k_check_code : PySem.W.keepIn K (.ref f_check_code) = true)
    (a_place_of : PySem.W.nsIn K mainGlobals "place_of" = some (some (.ref f_place_of))) (l_place_of : K.lookup f_place_of = some ⟨oc_place_of, od_place_of, .func (PySem.W.fnOf "place_of" "place_of" (defArgs s_place_of) (defBody s_place_of) (defScope s_place_of) .none kV_place_of dc_place_of pm_place_of an_place_of cd_place_of ct_place_of), sl_place_of⟩) (c_place_of : PySem.W.codeIn K cd_place_of "place_of" = true) (k_place_of : PySem.W.keepIn K (.ref f_place_of) = true)
    (a_stretch_of : PySem.W.nsIn K mainGlobals "stretch_of" = some (some (.ref f_stretch_of))) (l_stretch_of : K.lookup f_stretch_of = some ⟨oc_stretch_of, od_stretch_of, .func (PySem.W.fnOf "stretch_of" "stretch_of" (defArgs s_stretch_of) (defBody s_stretch_of) (defScope s_stretch_of) .none kV_stretch_of dc_stretch_of pm_stretch_of an_stretch_of cd_stretch_of ct_stretch_of), sl_stretch_of⟩) (c_stretch_of : PySem.W.codeIn K cd_stretch_of "stretch_of" = true) (k_stretch_of : PySem.W.keepIn K (.ref f_stretch_of) = true)
    (a_common_cell : PySem.W.nsIn K mainGlobals "common_cell" = some (some (.ref f_common_cell))) (l_common_cell : K.lookup f_common_cell = some ⟨oc_common_cell, od_common_cell, .func (PySem.W.fnOf "common_cell" "common_cell" (defArgs s_common_cell) (defBody s_common_cell) (defScope s_common_cell) .none kV_common_cell dc_common_cell pm_common_cell an_common_cell cd_common_cell ct_common_cell), sl_common_cell⟩) (c_common_cell : PySem.W.codeIn K cd_common_cell "common_cell" = true) (k_common_cell : PySem.W.keepIn K (.ref f_common_cell) = true)
    (a_law_mixed : PySem.W.nsIn K mainGlobals "_law_mixed" = some (some (.ref f_law_mixed))) (l_law_mixed : K.lookup f_law_mixed = some ⟨oc_law_mixed, od_law_mixed, .func (PySem.W.fnOf "_law_mixed" "_law_mixed" (defArgs s_law_mixed) (defBody s_law_mixed) (defScope s_law_mixed) .none kV_law_mixed dc_law_mixed pm_law_mixed an_law_mixed cd_law_mixed ct_law_mixed), sl_law_mixed⟩) (c_law_mixed : PySem.W.codeIn K cd_law_mixed "_law_mixed" = true) (k_law_mixed : PySem.W.keepIn K (.ref f_law_mixed) = true)
    (a_law_source : PySem.W.nsIn K mainGlobals "_law_source" = some (some (.ref f_law_source))) (l_law_source : K.lookup f_law_source = some ⟨oc_law_source, od_law_source, .func (PySem.W.fnOf "_law_source" "_law_source" (defArgs s_law_source) (defBody s_law_source) (defScope s_law_source) .none kV_law_source dc_law_source pm_law_source an_law_source cd_law_source ct_law_source), sl_law_source⟩) (c_law_source : PySem.W.codeIn K cd_law_source "_law_source" = true) (k_law_source : PySem.W.keepIn K (.ref f_law_source) = true)
    (a_law_take : PySem.W.nsIn K mainGlobals "_law_take" = some (some (.ref f_law_take))) (l_law_take : K.lookup f_law_take = some ⟨oc_law_take, od_law_take, .func (PySem.W.fnOf "_law_take" "_law_take" (defArgs s_law_take) (defBody s_law_take) (defScope s_law_take) .none kV_law_take dc_law_take pm_law_take an_law_take cd_law_take ct_law_take), sl_law_take⟩) (c_law_take : PySem.W.codeIn K cd_law_take "_law_take" = true) (k_law_take : PySem.W.keepIn K (.ref f_law_take) = true)
    (a_law_pick : PySem.W.nsIn K mainGlobals "_law_pick" = some (some (.ref f_law_pick))) (l_law_pick : K.lookup f_law_pick = some ⟨oc_law_pick, od_law_pick, .func (PySem.W.fnOf "_law_pick" "_law_pick" (defArgs s_law_pick) (defBody s_law_pick) (defScope s_law_pick) .none kV_law_pick dc_law_pick pm_law_pick an_law_pick cd_law_pick ct_law_pick), sl_law_pick⟩) (c_law_pick : PySem.W.codeIn K cd_law_pick "_law_pick" = true) (k_law_pick : PySem.W.keepIn K (.ref f_law_pick) = true)
    (a_law_code : PySem.W.nsIn K mainGlobals "_law_code" = some (some (.ref f_law_code))) (l_law_code : K.lookup f_law_code = some ⟨oc_law_code, od_law_code, .func (PySem.W.fnOf "_law_code" "_law_code" (defArgs s_law_code) (defBody s_law_code) (defScope s_law_code) .none kV_law_code dc_law_code pm_law_code an_law_code cd_law_code ct_law_code), sl_law_code⟩) (c_law_code : PySem.W.codeIn K cd_law_code "_law_code" = true) (k_law_code : PySem.W.keepIn K (.ref f_law_code) = true)
    (a_law_common : PySem.W.nsIn K mainGlobals "_law_common" = some (some (.ref f_law_common))) (l_law_common : K.lookup f_law_common = some ⟨oc_law_common, od_law_common, .func (PySem.W.fnOf "_law_common" "_law_common" (defArgs s_law_common) (defBody s_law_common) (defScope s_law_common) .none kV_law_common dc_law_common pm_law_common an_law_common cd_law_common ct_law_common), sl_law_common⟩) (c_law_common : PySem.W.codeIn K cd_law_common "_law_common" = true) (k_law_common : PySem.W.keepIn K (.ref f_law_common) = true)
    (a_law_all_right : PySem.W.nsIn K mainGlobals "_law_all_right" = some (some (.ref f_law_all_right))) (l_law_all_right : K.lookup f_law_all_right = some ⟨oc_law_all_right, od_law_all_right, .func (PySem.W.fnOf "_law_all_right" "_law_all_right" (defArgs s_law_all_right) (defBody s_law_all_right) (defScope s_law_all_right) .none kV_law_all_right dc_law_all_right pm_law_all_right an_law_all_right cd_law_all_right ct_law_all_right), sl_law_all_right⟩) (c_law_all_right : PySem.W.codeIn K cd_law_all_right "_law_all_right" = true) (k_law_all_right : PySem.W.keepIn K (.ref f_law_all_right) = true)
    (a_law_right : PySem.W.nsIn K mainGlobals "_law_right" = some (some (.ref f_law_right))) (l_law_right : K.lookup f_law_right = some ⟨oc_law_right, od_law_right, .func (PySem.W.fnOf "_law_right" "_law_right" (defArgs s_law_right) (defBody s_law_right) (defScope s_law_right) .none kV_law_right dc_law_right pm_law_right an_law_right cd_law_right ct_law_right), sl_law_right⟩) (c_law_right : PySem.W.codeIn K cd_law_right "_law_right" = true) (k_law_right : PySem.W.keepIn K (.ref f_law_right) = true)
    (a_law : PySem.W.nsIn K mainGlobals "law" = some (some (.ref f_law))) (l_law : K.lookup f_law = some ⟨oc_law, od_law, .func (PySem.W.fnOf "law" "law" (defArgs s_law) (defBody s_law) (defScope s_law) .none kV_law dc_law pm_law an_law cd_law ct_law), sl_law⟩) (c_law : PySem.W.codeIn K cd_law "law" = true) (k_law : PySem.W.keepIn K (.ref f_law) = true)
    (w_FARTHEST_COORDINATE : PySem.W.nsIn K mainGlobals "FARTHEST_COORDINATE" = some (some (.int 1000000000000000000000000000000 tk_FARTHEST_COORDINATE)))
    (w_MOST_FIGURES : PySem.W.nsIn K mainGlobals "MOST_FIGURES" = some (some (.int 40 tk_MOST_FIGURES)))
    (z_all : PySem.W.nsIn K mainGlobals "all" = some none)
    (z_bool : PySem.W.nsIn K mainGlobals "bool" = some none)
    (z_int : PySem.W.nsIn K mainGlobals "int" = some none)
    (z_isinstance : PySem.W.nsIn K mainGlobals "isinstance" = some none)
    (z_len : PySem.W.nsIn K mainGlobals "len" = some none)
    (z_list : PySem.W.nsIn K mainGlobals "list" = some none)
    (z_max : PySem.W.nsIn K mainGlobals "max" = some none)
    (z_min : PySem.W.nsIn K mainGlobals "min" = some none)
    (z_range : PySem.W.nsIn K mainGlobals "range" = some none)
    (z_sorted : PySem.W.nsIn K mainGlobals "sorted" = some none)
    (z_tuple : PySem.W.nsIn K mainGlobals "tuple" = some none) :
    ∃ fd : FuncData, (∀ (s : Shared) (v : Value), BindsTo s fd ⟨[v], []⟩ [("_law_script", v)]) ∧ ∀ base : Heap, K.In base → base.Ns mainGlobals mg → FnOk l.prog w K mg base (L2.CX l.prog w) 8 fa fd ["_law_script"] (spTop ⟨K, l.prog, w⟩ m_law) := by
  have e := hfa.symm.trans (PySem.W.mg_of X G a_law)
  cases e
  have F_is_integer := fun_mk (st := s_is_integer) l_is_integer c_is_integer k_is_integer
  have b_is_integer := F_is_integer.binds (ps := ["value"]) fun _ _ _ _ _ _ us hl => match us, hl with | [_], _ => rfl
  have F_is_coordinate := fun_mk (st := s_is_coordinate) l_is_coordinate c_is_coordinate k_is_coordinate
  have b_is_coordinate := F_is_coordinate.binds (ps := ["value"]) fun _ _ _ _ _ _ us hl => match us, hl with | [_], _ => rfl
  have F_is_point := fun_mk (st := s_is_point) l_is_point c_is_point k_is_point
  have b_is_point := F_is_point.binds (ps := ["value"]) fun _ _ _ _ _ _ us hl => match us, hl with | [_], _ => rfl
  have F_check_number := fun_mk (st := s_check_number) l_check_number c_check_number k_check_number
  have b_check_number := F_check_number.binds (ps := ["value", "least", "most", "name"]) fun _ _ _ _ _ _ us hl => match us, hl with | [_, _, _, _], _ => rfl
  have F_check_figures := fun_mk (st := s_check_figures) l_check_figures c_check_figures k_check_figures
  have b_check_figures := F_check_figures.binds (ps := ["value"]) fun _ _ _ _ _ _ us hl => match us, hl with | [_], _ => rfl
  have F_is_place := fun_mk (st := s_is_place) l_is_place c_is_place k_is_place
  have b_is_place := F_is_place.binds (ps := ["value", "figures"]) fun _ _ _ _ _ _ us hl => match us, hl with | [_, _], _ => rfl
  have F_check_place := fun_mk (st := s_check_place) l_check_place c_check_place k_check_place
  have b_check_place := F_check_place.binds (ps := ["value", "figures", "name"]) fun _ _ _ _ _ _ us hl => match us, hl with | [_, _, _], _ => rfl
  have F_is_cell := fun_mk (st := s_is_cell) l_is_cell c_is_cell k_is_cell
  have b_is_cell := F_is_cell.binds (ps := ["value", "figures"]) fun _ _ _ _ _ _ us hl => match us, hl with | [_, _], _ => rfl
  have F_check_cell := fun_mk (st := s_check_cell) l_check_cell c_check_cell k_check_cell
  have b_check_cell := F_check_cell.binds (ps := ["value", "figures"]) fun _ _ _ _ _ _ us hl => match us, hl with | [_, _], _ => rfl
  have F_cell_at := fun_mk (st := s_cell_at) l_cell_at c_cell_at k_cell_at
  have b_cell_at := F_cell_at.binds (ps := ["figures", "level", "place"]) fun _ _ _ _ _ _ us hl => match us, hl with | [_, _, _], _ => rfl
  have F_cell_of_place := fun_mk (st := s_cell_of_place) l_cell_of_place c_cell_of_place k_cell_of_place
  have b_cell_of_place := F_cell_of_place.binds (ps := ["figures", "place"]) fun _ _ _ _ _ _ us hl => match us, hl with | [_, _], _ => rfl
  have F_cell_of_both := fun_mk (st := s_cell_of_both) l_cell_of_both c_cell_of_both k_cell_of_both
  have b_cell_of_both := F_cell_of_both.binds (ps := ["figures", "cell", "place"]) fun _ _ _ _ _ _ us hl => match us, hl with | [_, _, _], _ => rfl
  have F_code_at := fun_mk (st := s_code_at) l_code_at c_code_at k_code_at
  have b_code_at := F_code_at.binds (ps := ["place"]) fun _ _ _ _ _ _ us hl => match us, hl with | [_], _ => rfl
  have F_place_at := fun_mk (st := s_place_at) l_place_at c_place_at k_place_at
  have b_place_at := F_place_at.binds (ps := ["code"]) fun _ _ _ _ _ _ us hl => match us, hl with | [_], _ => rfl
  have F_codes_of := fun_mk (st := s_codes_of) l_codes_of c_codes_of k_codes_of
  have b_codes_of := F_codes_of.binds (ps := ["figures", "cell"]) fun _ _ _ _ _ _ us hl => match us, hl with | [_, _], _ => rfl
  have F_code_of := fun_mk (st := s_code_of) l_code_of c_code_of k_code_of
  have b_code_of := F_code_of.binds (ps := ["figures", "place"]) fun _ _ _ _ _ _ us hl => match us, hl with | [_, _], _ => rfl
  have F_check_code := fun_mk (st := s_check_code) l_check_code c_check_code k_check_code
  have b_check_code := F_check_code.binds (ps := ["value", "figures"]) fun _ _ _ _ _ _ us hl => match us, hl with | [_, _], _ => rfl
  have F_place_of := fun_mk (st := s_place_of) l_place_of c_place_of k_place_of
  have b_place_of := F_place_of.binds (ps := ["figures", "code"]) fun _ _ _ _ _ _ us hl => match us, hl with | [_, _], _ => rfl
  have F_stretch_of := fun_mk (st := s_stretch_of) l_stretch_of c_stretch_of k_stretch_of
  have b_stretch_of := F_stretch_of.binds (ps := ["figures", "square"]) fun _ _ _ _ _ _ us hl => match us, hl with | [_, _], _ => rfl
  have F_common_cell := fun_mk (st := s_common_cell) l_common_cell c_common_cell k_common_cell
  have b_common_cell := F_common_cell.binds (ps := ["figures", "place", "other"]) fun _ _ _ _ _ _ us hl => match us, hl with | [_, _, _], _ => rfl
  have F_law_mixed := fun_mk (st := s_law_mixed) l_law_mixed c_law_mixed k_law_mixed
  have b_law_mixed := F_law_mixed.binds (ps := ["_law_cell", "_law_draw"]) fun _ _ _ _ _ _ us hl => match us, hl with | [_, _], _ => rfl
  have F_law_source := fun_mk (st := s_law_source) l_law_source c_law_source k_law_source
  have b_law_source := F_law_source.binds (ps := ["_law_cell"]) fun _ _ _ _ _ _ us hl => match us, hl with | [_], _ => rfl
  have F_law_take := fun_mk (st := s_law_take) l_law_take c_law_take k_law_take
  have b_law_take := F_law_take.binds (ps := ["_law_source_here", "_law_bound"]) fun _ _ _ _ _ _ us hl => match us, hl with | [_, _], _ => rfl
  have F_law_pick := fun_mk (st := s_law_pick) l_law_pick c_law_pick k_law_pick
  have b_law_pick := F_law_pick.binds (ps := ["_law_source_here", "_law_some"]) fun _ _ _ _ _ _ us hl => match us, hl with | [_, _], _ => rfl
  have F_law_code := fun_mk (st := s_law_code) l_law_code c_law_code k_law_code
  have b_law_code := F_law_code.binds (ps := ["_law_size", "_law_spot"]) fun _ _ _ _ _ _ us hl => match us, hl with | [_, _], _ => rfl
  have F_law_common := fun_mk (st := s_law_common) l_law_common c_law_common k_law_common
  have b_law_common := F_law_common.binds (ps := ["_law_size", "_law_one", "_law_second"]) fun _ _ _ _ _ _ us hl => match us, hl with | [_, _, _], _ => rfl
  have F_law_all_right := fun_mk (st := s_law_all_right) l_law_all_right c_law_all_right k_law_all_right
  have b_law_all_right := F_law_all_right.binds (ps := ["_law_size"]) fun _ _ _ _ _ _ us hl => match us, hl with | [_], _ => rfl
  have F_law_right := fun_mk (st := s_law_right) l_law_right c_law_right k_law_right
  have b_law_right := F_law_right.binds (ps := ["_law_source_here"]) fun _ _ _ _ _ _ us hl => match us, hl with | [_], _ => rfl
  have F_law := fun_mk (st := s_law) l_law c_law k_law
  have b_law := F_law.binds (ps := ["_law_script"]) fun _ _ _ _ _ _ us hl => match us, hl with | [_], _ => rfl
  refine ⟨PySem.W.fnOf "law" "law" (defArgs s_law) (defBody s_law) (defScope s_law) .none kV_law dc_law pm_law an_law cd_law ct_law, fun s v => .of_eq rfl, fun base _ _ => ?_⟩
  exact fn_imp (d_law (⟨_, _, F_is_integer, b_is_integer, PySem.W.mg_of X G a_is_integer, _, _, F_is_coordinate, b_is_coordinate, PySem.W.mg_of X G a_is_coordinate, _, _, F_is_point, b_is_point, PySem.W.mg_of X G a_is_point, _, _, F_check_number, b_check_number, PySem.W.mg_of X G a_check_number, _, _, F_check_figures, b_check_figures, PySem.W.mg_of X G a_check_figures, _, _, F_is_place, b_is_place, PySem.W.mg_of X G a_is_place, _, _, F_check_place, b_check_place, PySem.W.mg_of X G a_check_place, _, _, F_is_cell, b_is_cell, PySem.W.mg_of X G a_is_cell, _, _, F_check_cell, b_check_cell, PySem.W.mg_of X G a_check_cell, _, _, F_cell_at, b_cell_at, PySem.W.mg_of X G a_cell_at, _, _, F_cell_of_place, b_cell_of_place, PySem.W.mg_of X G a_cell_of_place, _, _, F_cell_of_both, b_cell_of_both, PySem.W.mg_of X G a_cell_of_both, _, _, F_code_at, b_code_at, PySem.W.mg_of X G a_code_at, _, _, F_place_at, b_place_at, PySem.W.mg_of X G a_place_at, _, _, F_codes_of, b_codes_of, PySem.W.mg_of X G a_codes_of, _, _, F_code_of, b_code_of, PySem.W.mg_of X G a_code_of, _, _, F_check_code, b_check_code, PySem.W.mg_of X G a_check_code, _, _, F_place_of, b_place_of, PySem.W.mg_of X G a_place_of, _, _, F_stretch_of, b_stretch_of, PySem.W.mg_of X G a_stretch_of, _, _, F_common_cell, b_common_cell, PySem.W.mg_of X G a_common_cell, _, _, F_law_mixed, b_law_mixed, PySem.W.mg_of X G a_law_mixed, _, _, F_law_source, b_law_source, PySem.W.mg_of X G a_law_source, _, _, F_law_take, b_law_take, PySem.W.mg_of X G a_law_take, _, _, F_law_pick, b_law_pick, PySem.W.mg_of X G a_law_pick, _, _, F_law_code, b_law_code, PySem.W.mg_of X G a_law_code, _, _, F_law_common, b_law_common, PySem.W.mg_of X G a_law_common, _, _, F_law_all_right, b_law_all_right, PySem.W.mg_of X G a_law_all_right, _, _, F_law_right, b_law_right, PySem.W.mg_of X G a_law_right, _, _, F_law, b_law, PySem.W.mg_of X G a_law, tk_FARTHEST_COORDINATE, PySem.W.mg_of X G w_FARTHEST_COORDINATE, tk_MOST_FIGURES, PySem.W.mg_of X G w_MOST_FIGURES, PySem.W.mg_none_of X G z_all, PySem.W.mg_none_of X G z_bool, PySem.W.mg_none_of X G z_int, PySem.W.mg_none_of X G z_isinstance, PySem.W.mg_none_of X G z_len, PySem.W.mg_none_of X G z_list, PySem.W.mg_none_of X G z_max, PySem.W.mg_none_of X G z_min, PySem.W.mg_none_of X G z_range, PySem.W.mg_none_of X G z_sorted, PySem.W.mg_none_of X G z_tuple⟩ : Top l.prog w K mg base)).ok spTop_up
end PM
open PySem PySem.W PyProof.Rows
set_option maxHeartbeats 0 in
theorem PySem.Challenge.cw_planesplits_k40_codes_and_cells_holds : PySem.Challenge.rw_planesplits_k40_codes_and_cells.Holds := by
  w_on; o_law; k_head; (case hw => w_witness2)
  k_fill
  refine L2.walk_of (l := PySem.Challenge.rw_planesplits_k40_codes_and_cells) (n := 63) (k := 8) (x := "_law_script") (CX := fun w => L2.CX (PySem.Challenge.rw_planesplits_k40_codes_and_cells).prog w) (sp := fun w => PM.spTop ⟨_, (PySem.Challenge.rw_planesplits_k40_codes_and_cells).prog, w⟩ PM.m_law) rfl (by decide) rfl ⟨rfl, by decide, by decide⟩ (fun w h Y => PySem.W.kIn_of Y) ?F (fun _ _ a ns hl o hS => PM.top_ok PM.law_ok hl o hS) (fun _ _ _ _ _ h => by obtain ⟨_, _, _, _, _, _, _, _, _, _, _, _, z⟩ := h; exact z)
  case F =>
    intro w mg fa h KX G hmg
    refine' PM.all_mk KX G hmg ?a_is_integer ?l_is_integer ?c_is_integer ?k_is_integer ?a_is_coordinate ?l_is_coordinate ?c_is_coordinate ?k_is_coordinate ?a_is_point ?l_is_point ?c_is_point ?k_is_point ?a_check_number ?l_check_number ?c_check_number ?k_check_number ?a_check_figures ?l_check_figures ?c_check_figures ?k_check_figures ?a_is_place ?l_is_place ?c_is_place ?k_is_place ?a_check_place ?l_check_place ?c_check_place ?k_check_place ?a_is_cell ?l_is_cell ?c_is_cell ?k_is_cell ?a_check_cell ?l_check_cell ?c_check_cell ?k_check_cell ?a_cell_at ?l_cell_at ?c_cell_at ?k_cell_at ?a_cell_of_place ?l_cell_of_place ?c_cell_of_place ?k_cell_of_place ?a_cell_of_both ?l_cell_of_both ?c_cell_of_both ?k_cell_of_both ?a_code_at ?l_code_at ?c_code_at ?k_code_at ?a_place_at ?l_place_at ?c_place_at ?k_place_at ?a_codes_of ?l_codes_of ?c_codes_of ?k_codes_of ?a_code_of ?l_code_of ?c_code_of ?k_code_of ?a_check_code ?l_check_code ?c_check_code ?k_check_code ?a_place_of ?l_place_of ?c_place_of ?k_place_of ?a_stretch_of ?l_stretch_of ?c_stretch_of ?k_stretch_of ?a_common_cell ?l_common_cell ?c_common_cell ?k_common_cell ?a_law_mixed ?l_law_mixed ?c_law_mixed ?k_law_mixed ?a_law_source ?l_law_source ?c_law_source ?k_law_source ?a_law_take ?l_law_take ?c_law_take ?k_law_take ?a_law_pick ?l_law_pick ?c_law_pick ?k_law_pick ?a_law_code ?l_law_code ?c_law_code ?k_law_code ?a_law_common ?l_law_common ?c_law_common ?k_law_common ?a_law_all_right ?l_law_all_right ?c_law_all_right ?k_law_all_right ?a_law_right ?l_law_right ?c_law_right ?k_law_right ?a_law ?l_law ?c_law ?k_law ?w_FARTHEST_COORDINATE ?w_MOST_FIGURES ?z_all ?z_bool ?z_int ?z_isinstance ?z_len ?z_list ?z_max ?z_min ?z_range ?z_sorted ?z_tuple
    (case a_is_integer => k_is)
    (case l_is_integer => k_is)
    (case c_is_integer => k_is)
    (case k_is_integer => k_is)
    (case a_is_coordinate => k_is)
    (case l_is_coordinate => k_is)
    (case c_is_coordinate => k_is)
    (case k_is_coordinate => k_is)
    (case a_is_point => k_is)
    (case l_is_point => k_is)
    (case c_is_point => k_is)
    (case k_is_point => k_is)
    (case a_check_number => k_is)
    (case l_check_number => k_is)
    (case c_check_number => k_is)
    (case k_check_number => k_is)
    (case a_check_figures => k_is)
    (case l_check_figures => k_is)
    (case c_check_figures => k_is)
    (case k_check_figures => k_is)
    (case a_is_place => k_is)
    (case l_is_place => k_is)
    (case c_is_place => k_is)
    (case k_is_place => k_is)
    (case a_check_place => k_is)
    (case l_check_place => k_is)
    (case c_check_place => k_is)
    (case k_check_place => k_is)
    (case a_is_cell => k_is)
    (case l_is_cell => k_is)
    (case c_is_cell => k_is)
    (case k_is_cell => k_is)
    (case a_check_cell => k_is)
    (case l_check_cell => k_is)
    (case c_check_cell => k_is)
    (case k_check_cell => k_is)
    (case a_cell_at => k_is)
    (case l_cell_at => k_is)
    (case c_cell_at => k_is)
    (case k_cell_at => k_is)
    (case a_cell_of_place => k_is)
    (case l_cell_of_place => k_is)
    (case c_cell_of_place => k_is)
    (case k_cell_of_place => k_is)
    (case a_cell_of_both => k_is)
    (case l_cell_of_both => k_is)
    (case c_cell_of_both => k_is)
    (case k_cell_of_both => k_is)
    (case a_code_at => k_is)
    (case l_code_at => k_is)
    (case c_code_at => k_is)
    (case k_code_at => k_is)
    (case a_place_at => k_is)
    (case l_place_at => k_is)
    (case c_place_at => k_is)
    (case k_place_at => k_is)
    (case a_codes_of => k_is)
    (case l_codes_of => k_is)
    (case c_codes_of => k_is)
    (case k_codes_of => k_is)
    (case a_code_of => k_is)
    (case l_code_of => k_is)
    (case c_code_of => k_is)
    (case k_code_of => k_is)
    (case a_check_code => k_is)
    (case l_check_code => k_is)
    (case c_check_code => k_is)
    (case k_check_code => k_is)
    (case a_place_of => k_is)
    (case l_place_of => k_is)
    (case c_place_of => k_is)
    (case k_place_of => k_is)
    (case a_stretch_of => k_is)
    (case l_stretch_of => k_is)
    (case c_stretch_of => k_is)
    (case k_stretch_of => k_is)
    (case a_common_cell => k_is)
    (case l_common_cell => k_is)
    (case c_common_cell => k_is)
    (case k_common_cell => k_is)
    (case a_law_mixed => k_is)
    (case l_law_mixed => k_is)
    (case c_law_mixed => k_is)
    (case k_law_mixed => k_is)
    (case a_law_source => k_is)
    (case l_law_source => k_is)
    (case c_law_source => k_is)
    (case k_law_source => k_is)
    (case a_law_take => k_is)
    (case l_law_take => k_is)
    (case c_law_take => k_is)
    (case k_law_take => k_is)
    (case a_law_pick => k_is)
    (case l_law_pick => k_is)
    (case c_law_pick => k_is)
    (case k_law_pick => k_is)
    (case a_law_code => k_is)
    (case l_law_code => k_is)
    (case c_law_code => k_is)
    (case k_law_code => k_is)
    (case a_law_common => k_is)
    (case l_law_common => k_is)
    (case c_law_common => k_is)
    (case k_law_common => k_is)
    (case a_law_all_right => k_is)
    (case l_law_all_right => k_is)
    (case c_law_all_right => k_is)
    (case k_law_all_right => k_is)
    (case a_law_right => k_is)
    (case l_law_right => k_is)
    (case c_law_right => k_is)
    (case k_law_right => k_is)
    (case a_law => k_is)
    (case l_law => k_is)
    (case c_law => k_is)
    (case k_law => k_is)
    (case w_FARTHEST_COORDINATE => k_is)
    (case w_MOST_FIGURES => k_is)
    (case z_all => k_is)
    (case z_bool => k_is)
    (case z_int => k_is)
    (case z_isinstance => k_is)
    (case z_len => k_is)
    (case z_list => k_is)
    (case z_max => k_is)
    (case z_min => k_is)
    (case z_range => k_is)
    (case z_sorted => k_is)
    (case z_tuple => k_is)
