import PyProof.Rows.All
import Wide.All
import OpenK.AllK
import Wide.FinOn
import PyProof.EqAt
import PyProof.EqKinds
import PyProof.TupleCall
import HandS.ForMost
import HandS.Wide
import HandS.EndBits
import HandS.IsInst
import HandS.TupAny
import HandS.Exc
import HandS.TryOnly
import HandS.ExcOwn
import HandS.WordsExc
import HandS.Strs
import HandS.SetFor
import HandS.SortInts
import HandS.TupMul
import HandS.More
import HandS.Star
import HandS.Rev
import HandS.Conv
import HandS.Style
import HandS.Evl
import HandS.Walk
import HandS.Zip
import KE.GoesEnum
import HandS.ExcIs
import HandS.FStr
import HandS.Text
import PySem.Challenge.RW_setmend_k30_what_is_a_letter
set_option Elab.async false
set_option linter.all false
set_option maxRecDepth 100000
set_option maxHeartbeats 4000000
namespace My
open PySem PySem.Spec PyProof.Rows L2
/-! ### heaps and the drawing state -/
theorem same_upd {H : Hp} {p : Addr} {o : HO} (h : H p = none) : Same H (upd H p o) := fun b x e => by
  rw [upd_ne (ne_of_none e h)]
  exact e
theorem rd_same {H H' : Hp} {a : Addr} {u : HO} (e : Same H H') (h : Rd H a u) : Rd H' a u := by
  rcases h with h | ⟨o, h⟩
  · exact .inl (e a _ h)
  · exact .inr ⟨o, e a _ h⟩
theorem seqT_same {K : PySem.W.Frag} {H H' : Hp} {a : Addr} {xs : List V} (e : Same H H') (h : SqT K H a xs) : SqT K H' a xs := by
  rcases h with h | h
  · exact .inl (rd_same e h)
  · exact .inr h
theorem int_at {ns : List Int} {i : Nat} {y : V} (h : (ns.map V.int)[i]? = some y) : ∃ z, ns[i]? = some z ∧ y = V.int z := by
  rw [List.getElem?_map] at h
  cases e : ns[i]? with
  | none =>
    rw [e] at h
    cases h
  | some z =>
    rw [e] at h
    exact ⟨z, rfl, (Option.some.inj h).symm⟩
/-! rules whose frame is a comprehension's -/
section
variable {X : Cx} {K : PySem.W.Frag}
theorem ix_tupK (h : X.K = K) : IxR X (rIxT K) := h ▸ ix_tup
theorem ix_listK (h : X.K = K) : IxR X (rIxL K) := h ▸ ix_list
theorem op_in_seqK (h : X.K = K) : OpR X (compareOp .In) (rIn K false) := h ▸ op_in_seq
theorem op_notIn_seqK (h : X.K = K) : OpR X (compareOp .NotIn) (rIn K true) := h ▸ op_notIn_seq
theorem call_isiK' (h : X.K = K) : CallR X (.builtin "isinstance") (rIsi K) := h ▸ call_isi
def rLenQ (K : PySem.W.Frag) : List V → Hp → VK → Prop := fun xs H Q => ∃ p ys, xs = [.ref p] ∧ (SqL K H p ys ∨ SqT K H p ys) ∧ Q (.int ys.length) H
theorem call_len_seqK (h : X.K = K) : CallR X (.builtin "len") (rLenQ K) := h ▸ call_len_seq
end
/-- the law's drawing state: a list of the script, how many were taken, a mixed number, a rest -/
structure StAt (K : PySem.W.Frag) (a st : Addr) (H : Hp) : Prop where
  ex : ∃ i m r : Int, 0 ≤ i ∧ H st = some (.lst [.ref a, .int i, .int m, .int r])
  sc : ∃ ns : List Int, SqL K H a (ns.map V.int)
/-- what drawing may do to the heap -/
structure Go (K : PySem.W.Frag) (st : Addr) (H H' : Hp) : Prop where
  keep : ∀ b o, b ≠ st → H b = some o → H' b = some o
  st : ∀ a, StAt K a st H → StAt K a st H'
section
variable {K : PySem.W.Frag} {st a : Addr} {H H1 H2 H' : Hp}
theorem Go.refl (H : Hp) : Go K st H H := ⟨fun _ _ _ e => e, fun _ h => h⟩
theorem Go.trans (x : Go K st H H1) (y : Go K st H1 H2) : Go K st H H2 := ⟨fun b o hb e => y.keep b o hb (x.keep b o hb e), fun a h => y.st a (x.st a h)⟩
theorem StAt.same (e : Same H H') (h : StAt K a st H) : StAt K a st H' := by
  obtain ⟨⟨i, m, r, hi, hs⟩, ns, hn⟩ := h
  exact ⟨⟨i, m, r, hi, e _ _ hs⟩, ns, e.seq hn⟩
theorem Go.of (e : Same H H') : Go K st H H' := ⟨fun b o _ h => e b o h, fun _ h => h.same e⟩
theorem Go.new {p : Addr} {o : HO} (h : H p = none) : Go K st H (upd H p o) := Go.of (same_upd h)
theorem StAt.ne {b : Addr} {o : HO} (h : StAt K a st H) (e : H b = some o) (hb : ∀ xs, o ≠ .lst xs) : b ≠ st := fun z => by
  obtain ⟨⟨i, m, r, _, hs⟩, _⟩ := h
  rw [z, hs] at e
  exact hb _ (Option.some.inj e).symm
/-- a stored state -/
theorem StAt.upd {i m r : Int} (h : StAt K a st H) (hi : 0 ≤ i) : StAt K a st (upd H st (.lst [.ref a, .int i, .int m, .int r])) := by
  obtain ⟨⟨i0, m0, r0, hi0, hs⟩, ns, hn⟩ := h
  refine ⟨⟨i, m, r, hi, upd_same⟩, ns, ?_⟩
  rcases hn with (hn | ⟨o, hn⟩) | hn
  · have hne : a ≠ st := fun z => by
      rw [z, hs] at hn
      have e := HO.lst.inj (Option.some.inj hn)
      cases ns with
      | nil => cases e
      | cons n r => cases e
    exact .inl (.inl (by rw [upd_ne hne]; exact hn))
  · have hne : a ≠ st := fun z => by
      rw [z, hs] at hn
      cases hn
    exact .inl (.inr ⟨o, by rw [upd_ne hne]; exact hn⟩)
  · exact .inr hn
theorem Go.upd {i m r : Int} (h : StAt K a st H) (hi : 0 ≤ i) : Go K st H (L2.upd H st (.lst [.ref a, .int i, .int m, .int r])) := by
  refine ⟨fun b o hb e => by rw [upd_ne hb]; exact e, fun a' h' => ?_⟩
  have e : a' = a := by
    obtain ⟨⟨i0, m0, r0, hi0, hs⟩, _⟩ := h
    obtain ⟨⟨i1, m1, r1, hi1, hs1⟩, _⟩ := h'
    rw [hs] at hs1
    injection hs1 with e1
    injection e1 with e2
    injection e2 with e3
    injection e3 with e4
    exact e4.symm
  subst e
  exact h'.upd hi
theorem Go.seqT {b : Addr} {xs : List V} (g : Go K st H H') (h : StAt K a st H) (hb : SqT K H b xs) : SqT K H' b xs := by
  rcases hb with (e | ⟨o, e⟩) | e
  · exact .inl (.inl (g.keep b _ (h.ne e (fun _ z => nomatch z)) e))
  · exact .inl (.inr ⟨o, g.keep b _ (h.ne e (fun _ z => nomatch z)) e⟩)
  · exact .inr e
theorem Go.free {p : Addr} (g : Go K st H H') (h : StAt K a st H) (hp : H' p = none) : H p = none := by
  cases e : H p with
  | none => rfl
  | some o =>
    by_cases hq : p = st
    · obtain ⟨⟨i, m, r, _, hs⟩, _⟩ := g.st a h
      rw [hq, hs] at hp
      cases hp
    · rw [g.keep p o hq e] at hp
      cases hp
end
theorem StAt.fresh {K : PySem.W.Frag} {a st p : Addr} {H : Hp} (h : StAt K a st H) (hp : H p = none) : p ≠ st := fun z => by
  obtain ⟨⟨i, m, r, _, hs⟩, _⟩ := h
  rw [z, hs] at hp
  cases hp
/-- a new object may change -/
theorem Go.mut {K : PySem.W.Frag} {st a p : Addr} {H H' : Hp} {o : HO} (g : Go K st H H') (h : StAt K a st H) (hp : H p = none) : Go K st H (L2.upd H' p o) := by
  have hne := h.fresh hp
  refine ⟨fun b u hb e => by rw [upd_ne (ne_of_none e hp)]; exact g.keep b u hb e, fun a' h' => ?_⟩
  obtain ⟨⟨i, m, r, hi, hs⟩, _⟩ := g.st a' h'
  obtain ⟨⟨i0, m0, r0, hi0, hs0⟩, ns, hn⟩ := h'
  refine ⟨⟨i, m, r, hi, by rw [upd_ne hne.symm]; exact hs⟩, ns, ?_⟩
  rcases hn with (hn | ⟨o', hn⟩) | hn
  · have hne' : a' ≠ st := fun z => by
      rw [z, hs0] at hn
      have e := HO.lst.inj (Option.some.inj hn)
      cases ns with
      | nil => cases e
      | cons n r => cases e
    exact .inl (.inl (by rw [upd_ne (ne_of_none hn hp)]; exact g.keep _ _ hne' hn))
  · have hne' : a' ≠ st := fun z => by
      rw [z, hs0] at hn
      cases hn
    exact .inl (.inr ⟨o', by rw [upd_ne (ne_of_none hn hp)]; exact g.keep _ _ hne' hn⟩)
  · exact .inr hn
/-- [f(..) for x in range(n)], each an int of which P holds, drawing meanwhile -/
theorem lc_ints {K : PySem.W.Frag} {st a D : Addr} {H : Hp} {te : TE} {σ : L2.St} {vs : List Nat} {j : Nat} {lo : Int} {n : Nat} {Qd : Hp → Prop} (P : Int → Prop) (hS : StAt K a st H) (hD : H D = none) (hn : n ≤ 10000)
    (hw : ∀ x, wipe ((wipe σ vs).set j (some x)) vs = wipe σ vs)
    (ht : ∀ (i : Nat) (H1 : Hp), i < n → Go K st H H1 → ∀ Q : VK, (∀ (v : Int) (H2 : Hp), P v → Go K st H1 H2 → Q (.int v) H2) → te ((wipe σ vs).set j (some (.int (lo + (i : Int))))) H1 Q)
    (q : ∀ (ns : List Int) (H' : Hp), ns.length = n → (∀ z ∈ ns, P z) → Go K st H H' → H' D = some (.lst (ns.map V.int)) → Qd H') :
    ∃ W : Nat → Nat → Hp → Prop, (∃ m, W 0 m (upd H D (.lst []))) ∧ ∀ i m H, W i m H →
      ((Itr lo n).stop i H ∧ Qd H) ∨ ((Itr lo n).go i H ∧ ∃ Nx : Hp → Prop, (∀ H', Nx H' → ∃ m', m' < m ∧ W (i + 1) m' H') ∧ ∀ x H', (Itr lo n).yld i H x H' → (gName j) x (wipe σ vs) H' fun σ2 H2 => wipe σ2 vs = wipe σ vs ∧ tYes σ2 H2 fun b H3 =>
        if b = true then te σ2 H3 fun y H4 => ∃ acc, H4 D = some (.lst acc) ∧ acc.length < sizeLine ∧ Nx (upd H4 D (.lst (acc ++ [y]))) else Nx H3) := by
  refine lc_range (fun i H' => ∃ ns : List Int, ns.length = i ∧ (∀ z ∈ ns, P z) ∧ Go K st H H' ∧ H' D = some (.lst (ns.map V.int))) ⟨[], rfl, (fun _ z => nomatch z), Go.new hD, upd_same⟩ ?_ ?_
  · rintro i H1 hi ⟨ns, hl, hP, g, hd⟩
    refine ⟨hw _, ?_⟩
    show te ((wipe σ vs).set j (some (.int (lo + (i : Int))))) H1 _
    refine ht i H1 hi g _ fun v H2 hv g2 => ?_
    have hd2 : H2 D = some (.lst (ns.map V.int)) := g2.keep _ _ (hS.fresh hD) hd
    refine ⟨_, hd2, ?_, ns ++ [v], ?_, ?_, (g.trans g2).mut hS hD, ?_⟩
    · rw [List.length_map]
      exact Nat.lt_of_lt_of_le (by omega : ns.length < 10000) (by decide)
    · rw [List.length_append, hl]
      rfl
    · intro z hz
      rcases List.mem_append.mp hz with h | h
      · exact hP z h
      · rw [List.mem_singleton.mp h]
        exact hv
    · rw [upd_same, List.map_append]
      rfl
  · rintro H' ⟨ns, hl, hP, g, hd⟩
    exact q ns H' hl hP g hd
theorem _root_.L2.Same.mut {H H' : Hp} {p : Addr} {o : HO} (e : Same H H') (h : H p = none) : Same H (upd H' p o) := fun b u q => by
  rw [upd_ne (ne_of_none q h)]
  exact e b u q
theorem filt_take {xs : List V} {f : V → Bool} {v : V → V} {i : Nat} {x : V} (h : xs[i]? = some x) : ((xs.take (i + 1)).filter f).map v = ((xs.take i).filter f).map v ++ (if f x = true then [v x] else []) := by
  rw [List.take_add_one, h, List.filter_append, List.map_append]
  congr 1
  show ([x].filter f).map v = _
  by_cases c : f x = true
  · rw [if_pos c, List.filter_cons, if_pos c]
    rfl
  · rw [if_neg c, List.filter_cons, if_neg c]
    rfl
/-- what a comprehension without drawing has made behind i turns -/
def Made (H1 : Hp) (D : Addr) (f : V → Bool) (v : V → V) (xs : List V) (i : Nat) (H' : Hp) : Prop := Same H1 H' ∧ H' D = some (.lst (((xs.take i).filter f).map v))
theorem made_turn {H1 H' : Hp} {D : Addr} {f : V → Bool} {v : V → V} {xs : List V} {i : Nat} {x : V} {tt : TT} {te : TE} {σ2 : L2.St} (hD : H1 D = none) (hz : xs.length ≤ 10000) (hx : xs[i]? = some x) (p : Made H1 D f v xs i H')
    (ht : ∀ H2, Same H1 H2 → ∀ Q : Bool → Hp → Prop, (∀ H3, Same H2 H3 → Q (f x) H3) → tt σ2 H2 Q) (he : f x = true → ∀ H2, Same H1 H2 → ∀ Q : VK, (∀ H3, Same H2 H3 → Q (v x) H3) → te σ2 H2 Q) :
    tt σ2 H' fun b H3 => if b = true then te σ2 H3 fun y H4 => ∃ acc, H4 D = some (.lst acc) ∧ acc.length < sizeLine ∧ Made H1 D f v xs (i + 1) (upd H4 D (.lst (acc ++ [y]))) else Made H1 D f v xs (i + 1) H3 := by
  obtain ⟨sm, hd⟩ := p
  refine ht H' sm _ fun H3 s3 => ?_
  have hd3 := s3 _ _ hd
  by_cases c : f x = true
  · rw [if_pos c]
    refine he c H3 (sm.trans s3) _ fun H4 s4 => ?_
    have hd4 := s4 _ _ hd3
    refine ⟨_, hd4, ?_, (sm.trans (s3.trans s4)).mut hD, ?_⟩
    · rw [List.length_map]
      refine Nat.lt_of_le_of_lt (Nat.le_trans (List.length_filter_le _ _) ?_) (show 10000 < sizeLine by decide)
      rw [List.length_take]
      omega
    · rw [upd_same, filt_take hx, if_pos c]
  · rw [if_neg c]
    refine ⟨sm.trans s3, ?_⟩
    rw [hd3, filt_take hx, if_neg c, List.append_nil]
theorem lc_pureT {K : PySem.W.Frag} {D a : Addr} {H1 : Hp} {σ : L2.St} {vs : List Nat} {j : Nat} {tt : TT} {te : TE} {xs : List V} {Qd : Hp → Prop} (f : V → Bool) (v : V → V) (hD : H1 D = none) (ha : SqT K H1 a xs) (hz : xs.length ≤ 10000)
    (hw : ∀ x, wipe ((wipe σ vs).set j (some x)) vs = wipe σ vs)
    (ht : ∀ x ∈ xs, ∀ H2, Same H1 H2 → ∀ Q : Bool → Hp → Prop, (∀ H3, Same H2 H3 → Q (f x) H3) → tt ((wipe σ vs).set j (some x)) H2 Q) (he : ∀ x ∈ xs, f x = true → ∀ H2, Same H1 H2 → ∀ Q : VK, (∀ H3, Same H2 H3 → Q (v x) H3) → te ((wipe σ vs).set j (some x)) H2 Q)
    (q : ∀ H', Same H1 H' → H' D = some (.lst ((xs.filter f).map v)) → Qd H') :
    ∃ W : Nat → Nat → Hp → Prop, (∃ m, W 0 m (upd H1 D (.lst []))) ∧ ∀ i m H, W i m H →
      ((Itt K a).stop i H ∧ Qd H) ∨ ((Itt K a).go i H ∧ ∃ Nx : Hp → Prop, (∀ H', Nx H' → ∃ m', m' < m ∧ W (i + 1) m' H') ∧ ∀ x H', (Itt K a).yld i H x H' → (gName j) x (wipe σ vs) H' fun σ2 H2 => wipe σ2 vs = wipe σ vs ∧ tt σ2 H2 fun b H3 =>
        if b = true then te σ2 H3 fun y H4 => ∃ acc, H4 D = some (.lst acc) ∧ acc.length < sizeLine ∧ Nx (upd H4 D (.lst (acc ++ [y]))) else Nx H3) :=
  lc_tup (xs := xs) (Made H1 D f v xs) ⟨same_upd hD, upd_same⟩ (fun _ _ _ p => seqT_same p.1 ha) (fun i x H' hx p => ⟨hw x, made_turn hD hz hx p (ht x (List.mem_of_getElem? hx)) (he x (List.mem_of_getElem? hx))⟩)
    fun H' p => q H' p.1 (by rw [p.2, List.take_length])
theorem lc_pureL {K : PySem.W.Frag} {D a : Addr} {H1 : Hp} {σ : L2.St} {vs : List Nat} {j : Nat} {tt : TT} {te : TE} {xs : List V} {Qd : Hp → Prop} (f : V → Bool) (v : V → V) (hD : H1 D = none) (ha : SqL K H1 a xs) (hz : xs.length ≤ 10000)
    (hw : ∀ x, wipe ((wipe σ vs).set j (some x)) vs = wipe σ vs)
    (ht : ∀ x ∈ xs, ∀ H2, Same H1 H2 → ∀ Q : Bool → Hp → Prop, (∀ H3, Same H2 H3 → Q (f x) H3) → tt ((wipe σ vs).set j (some x)) H2 Q) (he : ∀ x ∈ xs, f x = true → ∀ H2, Same H1 H2 → ∀ Q : VK, (∀ H3, Same H2 H3 → Q (v x) H3) → te ((wipe σ vs).set j (some x)) H2 Q)
    (q : ∀ H', Same H1 H' → H' D = some (.lst ((xs.filter f).map v)) → Qd H') :
    ∃ W : Nat → Nat → Hp → Prop, (∃ m, W 0 m (upd H1 D (.lst []))) ∧ ∀ i m H, W i m H →
      ((Itl K a).stop i H ∧ Qd H) ∨ ((Itl K a).go i H ∧ ∃ Nx : Hp → Prop, (∀ H', Nx H' → ∃ m', m' < m ∧ W (i + 1) m' H') ∧ ∀ x H', (Itl K a).yld i H x H' → (gName j) x (wipe σ vs) H' fun σ2 H2 => wipe σ2 vs = wipe σ vs ∧ tt σ2 H2 fun b H3 =>
        if b = true then te σ2 H3 fun y H4 => ∃ acc, H4 D = some (.lst acc) ∧ acc.length < sizeLine ∧ Nx (upd H4 D (.lst (acc ++ [y]))) else Nx H3) :=
  lc_list (xs := xs) (Made H1 D f v xs) ⟨same_upd hD, upd_same⟩ (fun _ _ _ p => p.1.seq ha) (fun i x H' hx p => ⟨hw x, made_turn hD hz hx p (ht x (List.mem_of_getElem? hx)) (he x (List.mem_of_getElem? hx))⟩)
    fun H' p => q H' p.1 (by rw [p.2, List.take_length])
def rgL (lo : Int) (n : Nat) : List V := (List.range n).map fun i : Nat => V.int (lo + (i : Int))
theorem rgL_get {lo : Int} {n i : Nat} (h : i < n) : (rgL lo n)[i]? = some (.int (lo + (i : Int))) := by
  unfold rgL
  rw [List.getElem?_map, List.getElem?_range h]
  rfl
theorem rgL_len (lo : Int) (n : Nat) : (rgL lo n).length = n := by
  unfold rgL
  rw [List.length_map, List.length_range]
theorem lc_pureR {D : Addr} {H1 : Hp} {σ : L2.St} {vs : List Nat} {j : Nat} {tt : TT} {te : TE} {lo : Int} {n : Nat} {Qd : Hp → Prop} (f : V → Bool) (v : V → V) (hD : H1 D = none) (hz : n ≤ 10000)
    (hw : ∀ x, wipe ((wipe σ vs).set j (some x)) vs = wipe σ vs)
    (ht : ∀ i : Nat, i < n → ∀ H2, Same H1 H2 → ∀ Q : Bool → Hp → Prop, (∀ H3, Same H2 H3 → Q (f (.int (lo + (i : Int)))) H3) → tt ((wipe σ vs).set j (some (.int (lo + (i : Int))))) H2 Q)
    (he : ∀ i : Nat, i < n → f (.int (lo + (i : Int))) = true → ∀ H2, Same H1 H2 → ∀ Q : VK, (∀ H3, Same H2 H3 → Q (v (.int (lo + (i : Int)))) H3) → te ((wipe σ vs).set j (some (.int (lo + (i : Int))))) H2 Q)
    (q : ∀ H', Same H1 H' → H' D = some (.lst (((rgL lo n).filter f).map v)) → Qd H') :
    ∃ W : Nat → Nat → Hp → Prop, (∃ m, W 0 m (upd H1 D (.lst []))) ∧ ∀ i m H, W i m H →
      ((Itr lo n).stop i H ∧ Qd H) ∨ ((Itr lo n).go i H ∧ ∃ Nx : Hp → Prop, (∀ H', Nx H' → ∃ m', m' < m ∧ W (i + 1) m' H') ∧ ∀ x H', (Itr lo n).yld i H x H' → (gName j) x (wipe σ vs) H' fun σ2 H2 => wipe σ2 vs = wipe σ vs ∧ tt σ2 H2 fun b H3 =>
        if b = true then te σ2 H3 fun y H4 => ∃ acc, H4 D = some (.lst acc) ∧ acc.length < sizeLine ∧ Nx (upd H4 D (.lst (acc ++ [y]))) else Nx H3) :=
  lc_range (Made H1 D f v (rgL lo n)) ⟨same_upd hD, upd_same⟩ (fun i H' hi p => ⟨hw _, made_turn hD (by rw [rgL_len]; exact hz) (rgL_get hi) p (ht i hi) (he i hi)⟩)
    fun H' p => q H' p.1 (by rw [p.2, List.take_of_length_le (by rw [rgL_len]; exact Nat.le_refl _)])
/-- a set of marks as a list -/
structure SetL (ms : List Int) : Prop where
  up : ms.Pairwise (· < ·)
  bd : ∀ z ∈ ms, 1 ≤ z ∧ z ≤ 96
theorem SetL.len {ms : List Int} (h : SetL ms) : ms.length ≤ 96 := by
  have key : ∀ (l : List Int) (lo : Int), l.Pairwise (· < ·) → (∀ z ∈ l, lo ≤ z ∧ z ≤ 96) → (l.length : Int) ≤ 96 - lo + 1 ∨ l = [] := by
    intro l
    induction l with
    | nil => intro _ _ _; exact .inr rfl
    | cons x r ih =>
      intro lo hp hb
      have hp' := List.pairwise_cons.mp hp
      have hx := hb x List.mem_cons_self
      left
      rcases ih (x + 1) hp'.2 (fun z hz => ⟨hp'.1 z hz, (hb z (List.mem_cons_of_mem _ hz)).2⟩) with h | h
      · rw [List.length_cons]
        omega
      · rw [h]
        show ((0 + 1 : Nat) : Int) ≤ _
        omega
  rcases key ms 1 h.up h.bd with h | h
  · omega
  · rw [h]
    exact Nat.zero_le _
theorem SetL.nil : SetL [] := ⟨.nil, fun _ z => nomatch z⟩
def sp__law_set (K : PySem.W.Frag) : Sp := fun vs H Q _ => ∃ (a st : Addr) (most : Int), vs = [.ref st, .int most] ∧ StAt K a st H ∧ 0 ≤ most ∧ most ≤ 96 ∧
  ∀ (t : Addr) (ms : List Int) H', SetL ms → (ms.length : Int) ≤ most → Go K st H H' → H t = none → H' t = some (.tup (ms.map V.int)) → Q (.ref t) H'
theorem pickI {ns : List Int} {v lo hi : Int} (h : ∀ z ∈ ns, lo ≤ z ∧ z ≤ hi) (h0 : 0 ≤ v) (h1 : v < (ns.length : Int)) : ∃ z, atI (ns.map V.int) v = some (.int z) ∧ lo ≤ z ∧ z ≤ hi := by
  have hlt : v.toNat < ns.length := by omega
  refine ⟨ns[v.toNat], at_of (j := v.toNat) (by omega) ?_, h _ (List.getElem_mem hlt)⟩
  rw [List.getElem?_map, List.getElem?_eq_getElem hlt]
  rfl
theorem nat8000 {n : Int} (h0 : 0 ≤ n) (h : n < 10 ^ 70) : n.natAbs < 2 ^ 8000 := Nat.lt_of_lt_of_le (by omega : n.natAbs < 10 ^ 70) (by decide +kernel)
/-! ### the promises of the drawing defs -/
def sp__law_start (K : PySem.W.Frag) : Sp := fun vs H Q _ => ∃ (a : Addr) (ns : List Int), vs = [.ref a] ∧ SqL K H a (ns.map V.int) ∧
  ∀ st H', H st = none → Same H H' → StAt K a st H' → Q (.ref st) H'
def sp__law_drawn (K : PySem.W.Frag) : Sp := fun vs H Q _ => ∃ (a st : Addr) (n : Int), vs = [.ref st, .int n] ∧ StAt K a st H ∧ 0 < n ∧ n.natAbs < 2 ^ 8000 ∧
  ∀ (v : Int) H', 0 ≤ v → v < n → Go K st H H' → Q (.int v) H'
end My
namespace L2
open PySem PySem.Spec PyProof.Rows
/-! ### isinstance of the error that a suite holds -/
def rIsEx (K : PySem.W.Frag) (cls : Value) (d : Option Addr) (a : Addr) : List V → Hp → VK → Prop := fun xs H Q => ∃ (D : Addr), cls = .ref D ∧ d = none ∧ ExcC K D ∧ rIsE K D a xs H Q
theorem call_isEx {X : Cx} {a : Addr} {oe : Obj} {cls : Value} {d : Option Addr} {pn : List (Addr × Obj)} (hz : Zc cls d oe) (hf : ∃ vs, oe.data = .fields vs) : CallR (X.suite a ((a, oe) :: pn)) (.builtin "isinstance") (rIsEx X.K cls d a) := by
  intro pins s σ H xs us Q I r h
  obtain ⟨D, rfl, rfl, C, h⟩ := h
  exact call_isE C hz hf pins s σ H xs us Q I r h
def rIsExT (K : PySem.W.Frag) (cls : Value) (d : Option Addr) (a : Addr) : List V → Hp → VK → Prop := fun xs H Q => ∃ (D tp : Addr) (cs : List V) (ts : List Value) (b : Bool), cls = .ref D ∧ d = none ∧ ExcC K D ∧ xs = [.ref a, .ref tp] ∧ H tp = some (.tup cs) ∧ Paired ClsV cs ts ∧ PySem.W.kitAny K (.ref D) ts = some b ∧ Q (.bl b) H
theorem call_isExT {X : Cx} {a : Addr} {oe : Obj} {cls : Value} {d : Option Addr} {pn : List (Addr × Obj)} (hz : Zc cls d oe) (hf : ∃ vs, oe.data = .fields vs) : CallR (X.suite a ((a, oe) :: pn)) (.builtin "isinstance") (rIsExT X.K cls d a) := by
  intro pins s σ H xs us Q I r h
  obtain ⟨D, tp, cs, ts, b, rfl, rfl, C, rfl, hT, k, e, q⟩ := h
  obtain ⟨u1, u2, rfl, r1, r2⟩ := vals2 r
  cases (show u2 = Value.ref tp from r2)
  cases (show u1 = Value.ref a from r1)
  obtain ⟨hget, _⟩ := I.pin (a, oe) (List.mem_append.mpr (.inl List.mem_cons_self))
  obtain ⟨vs, hv⟩ := hf
  have J : PySem.W.InstAt s.heap a oe D none := by
    obtain ⟨oc, od, oda, osl⟩ := oe
    obtain ⟨h1, h2⟩ := hz
    dsimp only at h1 h2 hv
    subst h1 h2 hv
    exact ⟨hget, rfl, rfl, trivial⟩
  obtain ⟨_, its, rv, o, h1, h2, n, h3⟩ := (show ObjOk X.prog X.w H s.heap tp (.tup cs) from I.hok tp _ hT)
  have e3 := ClsV.all k rv
  subst e3
  obtain ⟨oc, od, dt, sl⟩ := o
  simp only at h2 h3
  subst h2 h3
  exact PySem.W.kia_tup (PySem.W.handS_kitx_exc C.hg C.hk C.hs C.hd C.ha C.hn C.ht C.hm) I.kIn J h1 e (fun z => nomatch z) fun tk => ⟨.bl b, H, I.kept (t' := tk) fun _ _ z => z, rfl, q⟩
end L2
namespace My
open PySem PySem.Spec PyProof.Rows L2
theorem filt_no {α : Type} (xs : List α) : (xs.filter fun _ => false) = [] := List.filter_eq_nil_iff.mpr fun _ _ h => nomatch h
/-! ### == of lists and tuples of ints -/
theorem dpInts {K : PySem.W.Frag} {H : Hp} : ∀ ns : List Int, DpAll K H (ns.map V.int) (ns.map PyData.int)
  | [] => .nil
  | _ :: r => .cons (.int _) (dpInts r)
theorem lay_ints : ∀ ns : List Int, PyData.canLayAll0 (ns.map PyData.int) = true
  | [] => by simp [PyData.canLayAll0]
  | n :: r => by simp [PyData.canLayAll0, PyData.canLay0, lay_ints r]
theorem depth_ints : ∀ ns : List Int, PyData.depthAll (ns.map PyData.int) ≤ 1
  | [] => by simp [PyData.depthAll]
  | n :: r => by
    have h := depth_ints r
    simp only [List.map_cons, PyData.depthAll, PyData.depth]
    omega
theorem shaped_tup (ns : List Int) : SeqAt.shaped (.tuple (ns.map PyData.int)) = true := by
  have h := depth_ints ns
  show (_ && decide (_ ≤ 64)) = true
  rw [Bool.and_eq_true]
  exact ⟨by simp only [PyData.canLay0]; exact lay_ints ns, decide_eq_true (by simp only [PyData.depth]; omega)⟩
theorem shaped_lst (ns : List Int) : SeqAt.shaped (.list (ns.map PyData.int)) = true := by
  have h := depth_ints ns
  show (_ && decide (_ ≤ 64)) = true
  rw [Bool.and_eq_true]
  exact ⟨by simp only [PyData.canLay0]; exact lay_ints ns, decide_eq_true (by simp only [PyData.depth]; omega)⟩
theorem eqv_ints : ∀ ns ms : List Int, PyData.eqvAll (ns.map PyData.int) (ms.map PyData.int) = decide (ns = ms)
  | [], [] => by simp [PyData.eqvAll]
  | [], m :: r => by simp [PyData.eqvAll]
  | n :: r, [] => by simp [PyData.eqvAll]
  | n :: r, m :: t => by
    simp only [List.map_cons, PyData.eqvAll, PyData.eqv, eqv_ints r t, List.cons.injEq, Bool.decide_and]
    rfl
theorem eqv_tup (ns ms : List Int) : PyData.eqv (.tuple (ns.map PyData.int)) (.tuple (ms.map PyData.int)) = decide (ns = ms) := by
  rw [PyData.eqv]
  exact eqv_ints ns ms
theorem eqv_lst (ns ms : List Int) : PyData.eqv (.list (ns.map PyData.int)) (.list (ms.map PyData.int)) = decide (ns = ms) := by
  rw [PyData.eqv]
  exact eqv_ints ns ms
/-- t != u, t == u: tuples, lists of ints -/
theorem neT {K : PySem.W.Frag} {H : Hp} {a b : Addr} {ns ms : List Int} {Q : VK} (ha : SqT K H a (ns.map V.int)) (hb : SqT K H b (ms.map V.int)) (q : Q (.bl (!decide (ns = ms))) H) : rNeD K (.ref a) (.ref b) H Q :=
  ⟨_, _, .tup ha (dpInts ns), .tup hb (dpInts ms), shaped_tup ns, shaped_tup ms, by rw [eqv_tup]; exact q⟩
theorem eqT {K : PySem.W.Frag} {H : Hp} {a b : Addr} {ns ms : List Int} {Q : VK} (ha : SqT K H a (ns.map V.int)) (hb : SqT K H b (ms.map V.int)) (q : Q (.bl (decide (ns = ms))) H) : rEqD K (.ref a) (.ref b) H Q :=
  ⟨_, _, .tup ha (dpInts ns), .tup hb (dpInts ms), shaped_tup ns, shaped_tup ms, by rw [eqv_tup]; exact q⟩
theorem neL {K : PySem.W.Frag} {H : Hp} {a b : Addr} {ns ms : List Int} {Q : VK} (ha : SqL K H a (ns.map V.int)) (hb : SqL K H b (ms.map V.int)) (q : Q (.bl (!decide (ns = ms))) H) : rNeD K (.ref a) (.ref b) H Q :=
  ⟨_, _, .lst ha (dpInts ns), .lst hb (dpInts ms), shaped_lst ns, shaped_lst ms, by rw [eqv_lst]; exact q⟩
theorem eqL {K : PySem.W.Frag} {H : Hp} {a b : Addr} {ns ms : List Int} {Q : VK} (ha : SqL K H a (ns.map V.int)) (hb : SqL K H b (ms.map V.int)) (q : Q (.bl (decide (ns = ms))) H) : rEqD K (.ref a) (.ref b) H Q :=
  ⟨_, _, .lst ha (dpInts ns), .lst hb (dpInts ms), shaped_lst ns, shaped_lst ms, by rw [eqv_lst]; exact q⟩
theorem eq_of_up : ∀ l1 l2 : List Int, l1.Pairwise (· < ·) → l2.Pairwise (· < ·) → (∀ z, z ∈ l1 ↔ z ∈ l2) → l1 = l2
  | [], [], _, _, _ => rfl
  | [], y :: _, _, _, h => nomatch (h y).mpr List.mem_cons_self
  | x :: _, [], _, _, h => nomatch (h x).mp List.mem_cons_self
  | x :: r, y :: s, h1, h2, h => by
    have p1 := List.pairwise_cons.mp h1
    have p2 := List.pairwise_cons.mp h2
    have e : x = y := by
      rcases List.mem_cons.mp ((h x).mp List.mem_cons_self) with e | e
      · exact e
      · rcases List.mem_cons.mp ((h y).mpr List.mem_cons_self) with f | f
        · exact f.symm
        · have := p2.1 x e
          have := p1.1 y f
          omega
    subst e
    congr 1
    refine eq_of_up r s p1.2 p2.2 fun z => ⟨fun hz => ?_, fun hz => ?_⟩
    · rcases List.mem_cons.mp ((h z).mp (List.mem_cons_of_mem _ hz)) with f | f
      · have := p1.1 z hz
        omega
      · exact f
    · rcases List.mem_cons.mp ((h z).mpr (List.mem_cons_of_mem _ hz)) with f | f
      · have := p2.1 z hz
        omega
      · exact f
theorem marks_up : ((List.range 96).map fun i : Nat => 1 + (i : Int)).Pairwise (· < ·) :=
  List.pairwise_map.mpr (List.pairwise_lt_range.imp fun h => by omega)
theorem mem_marks {z : Int} : z ∈ ((List.range 96).map fun i : Nat => 1 + (i : Int)) ↔ 1 ≤ z ∧ z ≤ 96 := by
  rw [List.mem_map]
  constructor
  · rintro ⟨i, hi, rfl⟩
    have := List.mem_range.mp hi
    omega
  · rintro ⟨h0, h1⟩
    exact ⟨(z - 1).toNat, List.mem_range.mpr (by omega), by omega⟩
theorem ne_len {α : Type} {l : List α} {n : Nat} (h : l.length = n + 1) : l ≠ [] := fun e => by
  rw [e] at h
  cases h
/-- t + u, tuples of ints -/
theorem catA_ints {K : PySem.W.Frag} {H : Hp} {z t : Addr} {zs ns : List Int} {Q : VK} (hz : SqT K H z (zs.map V.int)) (ht : SqT K H t (ns.map V.int)) (hl : zs.length + ns.length ≤ 1000)
    (k : ∀ (w : Addr) (H' : Hp), Same H H' → SqT K H' w ((zs ++ ns).map V.int) → Q (.ref w) H') : rCatA K (.ref z) (.ref t) H Q := by
  refine ⟨z, t, zs.map V.int, ns.map V.int, rfl, rfl, hz, ht, ?_, fun e => ?_, fun _ e => ?_, fun _ _ p hp => k p _ (same_upd hp) (SqT.of ?_)⟩
  · rw [List.length_map, List.length_map]
    exact Nat.le_trans hl (by decide)
  · rw [List.map_eq_nil_iff] at e
    refine k t H (Same.refl H) ?_
    rw [e]
    exact ht
  · rw [List.map_eq_nil_iff] at e
    refine k z H (Same.refl H) ?_
    rw [e, List.append_nil]
    exact hz
  · rw [upd_same, List.map_append]
/-! comprehensions over ints -/
theorem int_filter {ns : List Int} {f : V → Bool} {g : Int → Bool} (h : ∀ z ∈ ns, f (.int z) = g z) : ((ns.map V.int).filter f).map (fun x => x) = (ns.filter g).map V.int := by
  rw [List.map_id']
  induction ns with
  | nil => rfl
  | cons x r ih =>
    have ih' := ih fun z hz => h z (List.mem_cons_of_mem _ hz)
    rw [List.map_cons, List.filter_cons, List.filter_cons, h x List.mem_cons_self]
    by_cases c : g x = true
    · rw [if_pos c, if_pos c, List.map_cons, ih']
    · rw [if_neg c, if_neg c, ih']
theorem rgL_ints (lo : Int) (n : Nat) : rgL lo n = ((List.range n).map fun i : Nat => lo + (i : Int)).map V.int := by
  unfold rgL
  rw [List.map_map]
  rfl
end My
namespace L2
open PySem PySem.Spec PyProof.Rows
/-! ### tuple * 0, tuple * 1 -/
theorem tmul_one (l : Addr) (items : Array Value) (n : Nat) (dd : Option Addr) (sl : Array (Option Value)) (u : Tok) :
    Meets (Builtin.«tuple.__mul__» ⟨[.ref l, .int 1 u], []⟩) (fun _ R s => s.heap.get? l = some { cls := .type "tuple", dict := dd, data := .seq items n, slots := sl } ∧ R (.ok (.ret (Value.ref l))) s) :=
  .of_wp fun prog w A R s h => by
    obtain ⟨hp, g, d, tk, os⟩ := s
    obtain ⟨hl, h⟩ := h
    have f1 := AutoSeq1.idx_int
    have c1 : (items.isEmpty || (1 : Int) == 1) = true := by simp
    wp_walk using wpAny_loadPart' hl
    repeat (first
      | (refine wpAny_ite_false (by decide) ?_; wp_walk using wpAny_loadPart' hl)
      | (refine wpAny_ite_true (by rw [c1]) ?_; wp_walk using wpAny_loadPart' hl))
    exact ⟨_, rfl, h⟩
theorem tmul_zero (l : Addr) (items : Array Value) (n : Nat) (dd : Option Addr) (sl : Array (Option Value)) (u : Tok) (hne : items.isEmpty = false) :
    Meets (Builtin.«tuple.__mul__» ⟨[.ref l, .int 0 u], []⟩) (fun _ R s => s.heap.get? l = some { cls := .type "tuple", dict := dd, data := .seq items n, slots := sl } ∧
      R (.ok (.ret (Value.ref s.heap.objs.size))) { s with heap := s.heap.push { cls := Value.type "tuple", data := Data.seq #[] }, toks := s.toks }) :=
  .of_wp fun prog w A R s h => by
    obtain ⟨hp, g, d, tk, os⟩ := s
    obtain ⟨hl, h⟩ := h
    have f1 := AutoSeq1.idx_int
    have c1 : ¬ ((items.isEmpty || (0 : Int) == 1) = true) := by rw [hne]; decide
    have c2 : (decide ((0 : Int) ≤ 0) || items.isEmpty) = true := rfl
    wp_walk using wpAny_loadPart' hl
    repeat (first
      | (refine wpAny_ite_false (by decide) ?_; wp_walk using wpAny_loadPart' hl)
      | (refine wpAny_ite_false (decide_eq_false c1) ?_; wp_walk using wpAny_loadPart' hl)
      | (refine wpAny_ite_true (decide_eq_true c2) ?_; wp_walk using wpAny_loadPart' hl))
    exact ⟨_, rfl, h⟩
/-- t * k, k from 0 to 1000, t not empty -/
def rTMul (K : PySem.W.Frag) : R2 := fun x y H Q => ∃ l k xs, x = .ref l ∧ y = .int k ∧ SqT K H l xs ∧ xs ≠ [] ∧ 0 ≤ k ∧ k ≤ 1000 ∧ xs.length ≤ 1000 ∧ (k = 1 → Q (.ref l) H) ∧ (k ≠ 1 → ∀ p, H p = none → Q (.ref p) (upd H p (.tup (List.replicate k.toNat xs).flatten)))
section
variable {X : Cx}
theorem op_tmul : OpR X (binaryOp .Mult) (rTMul X.K) := by
  intro pins s σ H x y v u Q I rx ry h
  obtain ⟨l, k, xs, rfl, rfl, hT, hne, h0, h1, hz, q1, q2⟩ := h
  by_cases c2 : 2 ≤ k
  · exact op_repT pins s σ H _ _ v u Q I rx ry ⟨l, k, xs, rfl, rfl, hT, hne, c2, h1, hz, q2 (by omega)⟩
  cases rx
  obtain ⟨t, rfl⟩ := ry
  obtain ⟨its, r, ⟨⟨cls, dd, data, sl⟩, ho, hc, n, hd⟩, hs⟩ := I.tuple hT
  dsimp only at hc hd
  subst hc hd
  have hi : its.toArray.isEmpty = false := by
    cases its with
    | nil =>
      cases r
      exact absurd rfl hne
    | cons a b => rfl
  refine wpAny_binaryOp_repeat_ref (T := "tuple") (U := "int") (by decide) ⟨_, ho, rfl⟩ (fun s' => typeIs_int s' k t) noFill_tuple_mul F.fills_int_mul F.slot_int_rmul repeat_tuple F.slot_int_index.lookup
    (call_meets F.slot_int_rmul (typeIs_int s k t) F.entry_int_rmul (F.args_int_rmul_2 _ _) (int_rmul_tuple k t l its.toArray n dd sl) ⟨ho, rfl, ⟨_, ho, rfl⟩, ?_⟩)
  rcases (by omega : k = 0 ∨ k = 1) with rfl | rfl
  · refine call_meets F.slot_tuple_mul ⟨_, ho, rfl⟩ F.entry_tuple_mul (F.args_tuple_mul_2 _ _) (tmul_zero l its.toArray n dd sl t hi) ⟨ho, ?_⟩
    refine ⟨.ref s.heap.objs.size, _, I.laid (t' := s.toks) (o := .tup []) (fun b ob q => Heap.get?_push_of_some _ q) (Nat.le_refl _) ?_, rfl, q2 (by decide) _ (I.hok.fresh (Nat.le_refl _))⟩
    exact ⟨Nat.zero_le _, [], .nil, IsTup.new _ _⟩
  · refine call_meets F.slot_tuple_mul ⟨_, ho, rfl⟩ F.entry_tuple_mul (F.args_tuple_mul_2 _ _) (tmul_one l its.toArray n dd sl t) ⟨ho, ?_⟩
    exact ⟨.ref l, H, I.tok _, rfl, q1 rfl⟩
end
end L2
namespace My
open PySem PySem.Spec PyProof.Rows L2
theorem tmulH {K : PySem.W.Frag} {H : Hp} {a : Addr} {ns : List Int} {k : Int} {Q : VK} (ha : H a = some (.tup (ns.map V.int))) (hn : ns ≠ []) (hl : ns.length ≤ 1000) (h0 : 0 ≤ k) (h1 : k ≤ 1000)
    (q : ∀ (w : Addr) (H' : Hp), Same H H' → H' w = some (.tup ((List.replicate k.toNat ns).flatten.map V.int)) → Q (.ref w) H') : rTMul K (.ref a) (.int k) H Q := by
  have e : ∀ n : Nat, (List.replicate n (ns.map V.int)).flatten = (List.replicate n ns).flatten.map V.int := fun n => by
    rw [List.map_flatten, List.map_replicate]
  refine ⟨a, k, _, rfl, rfl, SqT.of ha, fun z => hn (List.map_eq_nil_iff.mp z), h0, h1, by rw [List.length_map]; exact hl, fun c => ?_, fun _ p hp => ?_⟩
  · subst c
    refine q a H (Same.refl _) ?_
    rw [ha]
    show _ = some (HO.tup ((ns ++ []).map V.int))
    rw [List.append_nil]
  · rw [e]
    exact q p _ (same_upd hp) upd_same
end My
namespace My
open PySem PySem.Spec PyProof.Rows L2
theorem Go.tup {K : PySem.W.Frag} {a st p : Addr} {H H' : Hp} {xs : List V} (g : Go K st H H') (h : StAt K a st H) (e : H p = some (.tup xs)) : H' p = some (.tup xs) := g.keep p _ (h.ne e (fun _ z => nomatch z)) e
theorem takeA {K : PySem.W.Frag} {H : Hp} {a : Addr} {ns : List Int} {f : Int} {Q : VK} (hS : H a = some (.tup (ns.map V.int))) (h0 : 0 ≤ f) (h1 : f ≤ (ns.length : Int)) (k : ∀ (w : Addr) (H' : Hp), Same H H' → H' w = some (.tup ((ns.take f.toNat).map V.int)) → Q (.ref w) H') : rSlA K (.ref a) none (some f) H Q := by
  obtain ⟨j, rfl⟩ : ∃ j : Nat, f = (j : Int) := ⟨f.toNat, by omega⟩
  have ej : HT.sIx (ns.map V.int).length (ns.map V.int).length (some (j : Int)) = j := by
    rw [HT.sIx_nat, List.length_map]
    omega
  have e0 : HT.sIx (ns.map V.int).length 0 none = 0 := rfl
  refine ⟨a, _, rfl, SqT.of hS, fun c => ?_, fun c p hp => k p _ (same_upd hp) ?_⟩
  · refine k a H (Same.refl _) ?_
    have c2 := c.2
    rw [ej, List.length_map] at c2
    rw [hS, Int.toNat_natCast, c2, List.take_length]
  · rw [upd_same]
    unfold cutV
    rw [ej, e0, List.drop_zero, Nat.sub_zero, Int.toNat_natCast, List.map_take]
/-- t + u of tuples that stand in the heap -/
theorem catH {K : PySem.W.Frag} {H : Hp} {z t : Addr} {zs ns : List Int} {Q : VK} (hz : H z = some (.tup (zs.map V.int))) (ht : H t = some (.tup (ns.map V.int))) (hl : zs.length + ns.length ≤ 1000)
    (k : ∀ (w : Addr) (H' : Hp), Same H H' → H' w = some (.tup ((zs ++ ns).map V.int)) → Q (.ref w) H') : rCatA K (.ref z) (.ref t) H Q := by
  refine ⟨z, t, zs.map V.int, ns.map V.int, rfl, rfl, SqT.of hz, SqT.of ht, ?_, fun e => ?_, fun _ e => ?_, fun _ _ p hp => k p _ (same_upd hp) ?_⟩
  · rw [List.length_map, List.length_map]
    exact Nat.le_trans hl (by decide)
  · rw [List.map_eq_nil_iff] at e
    refine k t H (Same.refl H) ?_
    rw [e]
    exact ht
  · rw [List.map_eq_nil_iff] at e
    refine k z H (Same.refl H) ?_
    rw [e, List.append_nil]
    exact hz
  · rw [upd_same, List.map_append]
end My
namespace Ms
/-! ### Newton's recurrence, off the wheel -/
def sm (f : Nat → Int) : Nat → Int
  | 0 => 0
  | n + 1 => sm f n + f n
theorem sm_congr {f g : Nat → Int} : ∀ {n : Nat}, (∀ i, i < n → f i = g i) → sm f n = sm g n
  | 0, _ => rfl
  | n + 1, h => by
    show sm f n + f n = sm g n + g n
    rw [sm_congr fun i hi => h i (Nat.lt_succ_of_lt hi), h n (Nat.lt_succ_self n)]
theorem sm_add (f g : Nat → Int) : ∀ n, sm (fun i => f i + g i) n = sm f n + sm g n
  | 0 => rfl
  | n + 1 => by
    show sm (fun i => f i + g i) n + (f n + g n) = sm f n + f n + (sm g n + g n)
    rw [sm_add f g n]
    omega
theorem sm_mul (c : Int) (f : Nat → Int) : ∀ n, sm (fun i => c * f i) n = c * sm f n
  | 0 => (Int.mul_zero c).symm
  | n + 1 => by
    show sm (fun i => c * f i) n + c * f n = c * (sm f n + f n)
    rw [sm_mul c f n, Int.mul_add]
theorem sm_first (f : Nat → Int) : ∀ n, sm f (n + 1) = f 0 + sm (fun i => f (i + 1)) n
  | 0 => by
    show 0 + f 0 = f 0 + 0
    omega
  | n + 1 => by
    show sm f (n + 1) + f (n + 1) = f 0 + (sm (fun i => f (i + 1)) n + f (n + 1))
    rw [sm_first f n]
    omega
theorem sm_zero {f : Nat → Int} : ∀ {n : Nat}, (∀ i, i < n → f i = 0) → sm f n = 0
  | 0, _ => rfl
  | n + 1, h => by
    show sm f n + f n = 0
    rw [sm_zero fun i hi => h i (Nat.lt_succ_of_lt hi), h n (Nat.lt_succ_self n)]
    rfl
theorem sm_mod {f g : Nat → Int} : ∀ {n : Nat}, (∀ i, i < n → f i % 97 = g i % 97) → sm f n % 97 = sm g n % 97
  | 0, _ => rfl
  | n + 1, h => by
    have ih := sm_mod (n := n) fun i hi => h i (Nat.lt_succ_of_lt hi)
    have hn := h n (Nat.lt_succ_self n)
    show (sm f n + f n) % 97 = (sm g n + g n) % 97
    omega
/-- sum of s (j) times f (k - j), j from 1 to k -/
def cv (s f : Nat → Int) (k : Nat) : Int := sm (fun i => s (i + 1) * f (k - 1 - i)) k
def NW (f s : Nat → Int) : Prop := ∀ k : Nat, (k : Int) * f k + cv s f k = 0
def bk (f : Nat → Int) : Nat → Int
  | 0 => 0
  | k + 1 => f k
def st (f : Nat → Int) (z : Int) : Nat → Int := fun k => f k - z * bk f k
theorem NW_st {f s : Nat → Int} (h : NW f s) (z : Int) : NW (st f z) (fun i => s i + z ^ i) := by
  intro k
  cases k with
  | zero =>
    show (0 : Int) * _ + 0 = 0
    rw [Int.zero_mul]
    rfl
  | succ K =>
    have h1 : ((K : Int) + 1) * f (K + 1) + cv s f (K + 1) = 0 := h (K + 1)
    have h2 : (K : Int) * f K + cv s f K = 0 := h K
    have e : cv (fun i => s i + z ^ i) (st f z) (K + 1) = cv s f (K + 1) - z * sm (fun i => s (i + 1) * bk f (K - i)) (K + 1) + (sm (fun i => z ^ (i + 1) * f (K - i)) (K + 1) - z * sm (fun i => z ^ (i + 1) * bk f (K - i)) (K + 1)) := by
      unfold cv
      rw [← sm_mul, ← sm_mul]
      have e1 : ∀ (a b : Nat → Int) n, sm a n - sm b n = sm (fun i => a i - b i) n := by
        intro a b n
        induction n with
        | zero => rfl
        | succ n ih =>
          show sm a n + a n - (sm b n + b n) = sm (fun i => a i - b i) n + (a n - b n)
          rw [← ih]
          omega
      rw [e1, e1, ← sm_add]
      refine sm_congr fun i _ => ?_
      show (s (i + 1) + z ^ (i + 1)) * (f (K + 1 - 1 - i) - z * bk f (K + 1 - 1 - i)) = _
      rw [Nat.add_sub_cancel]
      grind
    have t2 : sm (fun i => s (i + 1) * bk f (K - i)) (K + 1) = cv s f K := by
      show sm (fun i => s (i + 1) * bk f (K - i)) K + s (K + 1) * bk f (K - K) = _
      rw [Nat.sub_self]
      show _ + s (K + 1) * 0 = _
      rw [Int.mul_zero, Int.add_zero]
      refine sm_congr fun i hi => ?_
      show s (i + 1) * bk f (K - i) = s (i + 1) * f (K - 1 - i)
      rw [show K - i = (K - 1 - i) + 1 by omega]
      rfl
    have t4 : sm (fun i => z ^ (i + 1) * bk f (K - i)) (K + 1) = sm (fun i => z ^ (i + 1) * f (K - 1 - i)) K := by
      show sm (fun i => z ^ (i + 1) * bk f (K - i)) K + z ^ (K + 1) * bk f (K - K) = _
      rw [Nat.sub_self]
      show _ + z ^ (K + 1) * 0 = _
      rw [Int.mul_zero, Int.add_zero]
      refine sm_congr fun i hi => ?_
      rw [show K - i = (K - 1 - i) + 1 by omega]
      rfl
    have t3 : sm (fun i => z ^ (i + 1) * f (K - i)) (K + 1) = z * f K + z * sm (fun i => z ^ (i + 1) * f (K - 1 - i)) K := by
      rw [sm_first, ← sm_mul]
      congr 1
      · show z ^ 1 * f K = _
        rw [Int.pow_succ, Int.pow_zero, Int.one_mul]
      · refine sm_congr fun i hi => ?_
        rw [show K - (i + 1) = K - 1 - i by omega, Int.pow_succ]
        grind
    show ((K + 1 : Nat) : Int) * (f (K + 1) - z * f K) + _ = 0
    rw [e, t2, t3, t4]
    have e3 : ((K + 1 : Nat) : Int) = (K : Int) + 1 := by omega
    rw [e3]
    grind
def dl : Nat → Int
  | 0 => 1
  | _ + 1 => 0
theorem NW_dl : NW dl (fun _ => 0) := by
  intro k
  have e : cv (fun _ => 0) dl k = 0 := sm_zero fun i _ => Int.zero_mul _
  rw [e]
  cases k with
  | zero => rfl
  | succ k =>
    show _ * 0 + 0 = (0 : Int)
    rw [Int.mul_zero]
    rfl
/-- the sum of the powers -/
def ps : List Int → Nat → Int
  | [], _ => 0
  | z :: r, i => z ^ i + ps r i
theorem ps_append (a b : List Int) (i : Nat) : ps (a ++ b) i = ps a i + ps b i := by
  induction a with
  | nil => show ps b i = 0 + ps b i; omega
  | cons z r ih =>
    show z ^ i + ps (r ++ b) i = z ^ i + ps r i + ps b i
    rw [ih]
    omega
theorem ps_filter (p : Int → Bool) (l : List Int) (i : Nat) : ps l i = ps (l.filter p) i + ps (l.filter fun z => !p z) i := by
  induction l with
  | nil => rfl
  | cons z r ih =>
    rw [List.filter_cons, List.filter_cons]
    cases c : p z with
    | true =>
      rw [if_pos rfl, if_neg (by decide)]
      show z ^ i + ps r i = z ^ i + ps (r.filter p) i + _
      rw [ih]
      omega
    | false =>
      rw [if_neg (by decide), if_pos (by decide)]
      show z ^ i + ps r i = _ + (z ^ i + ps (r.filter fun z => !p z) i)
      rw [ih]
      omega
/-- the row of a set, off the wheel -/
def EG (f : Nat → Int) (ms : List Int) : Nat → Int := ms.foldl st f
def E (ms : List Int) : Nat → Int := EG dl ms
theorem NW_EG : ∀ (ms : List Int) (f s : Nat → Int), NW f s → NW (EG f ms) (fun i => s i + ps ms i)
  | [], f, s, h => by
    have e : (fun i => s i + ps [] i) = s := funext fun i => Int.add_zero _
    rw [e]
    exact h
  | z :: r, f, s, h => by
    have h' := NW_EG r (st f z) _ (NW_st h z)
    have e : (fun i => s i + ps (z :: r) i) = (fun i => s i + z ^ i + ps r i) := funext fun i => (Int.add_assoc _ _ _).symm
    rw [e]
    exact h'
theorem NW_E (ms : List Int) : NW (E ms) (ps ms) := by
  have h := NW_EG ms dl _ NW_dl
  have e : (fun i => (0 : Int) + ps ms i) = ps ms := funext fun i => Int.zero_add _
  rw [e] at h
  exact h
theorem EG_deg : ∀ (ms : List Int) (f : Nat → Int) (d : Nat), (∀ k, d < k → f k = 0) → ∀ k, d + ms.length < k → EG f ms k = 0
  | [], f, d, h, k, hk => h k hk
  | z :: r, f, d, h, k, hk => by
    refine EG_deg r (st f z) (d + 1) (fun j hj => ?_) k (by rw [List.length_cons] at hk; omega)
    show f j - z * bk f j = 0
    rw [h j (by omega)]
    obtain ⟨i, rfl⟩ : ∃ i, j = i + 1 := ⟨j - 1, by omega⟩
    show 0 - z * f i = 0
    rw [h i (by omega), Int.mul_zero]
    rfl
theorem E_deg {ms : List Int} {k : Nat} (h : ms.length < k) : E ms k = 0 := EG_deg ms dl 0 (fun k hk => by obtain ⟨i, rfl⟩ : ∃ i, k = i + 1 := ⟨k - 1, by omega⟩; rfl) k (by omega)
theorem EG_zero : ∀ (ms : List Int) (f : Nat → Int), EG f ms 0 = f 0
  | [], _ => rfl
  | z :: r, f => by
    show EG (st f z) r 0 = f 0
    rw [EG_zero r]
    show f 0 - z * 0 = f 0
    rw [Int.mul_zero, Int.sub_zero]
theorem E_zero (ms : List Int) : E ms 0 = 1 := EG_zero ms dl
/-- on the wheel the sums tell the row, as far as k has an inverse -/
theorem cancel97 (hp : ∀ a b : Int, a * b % 97 = 0 → a % 97 = 0 ∨ b % 97 = 0) {k : Nat} (h0 : 1 ≤ k) (h1 : k ≤ 96) {a b : Int} (h : (k : Int) * a % 97 = (k : Int) * b % 97) : a % 97 = b % 97 := by
  have e : (k : Int) * (a - b) % 97 = 0 := by
    rw [Int.mul_sub]
    omega
  rcases hp _ _ e with e | e
  · omega
  · omega
theorem uniq (hp : ∀ a b : Int, a * b % 97 = 0 → a % 97 = 0 ∨ b % 97 = 0) {f g s t : Nat → Int} {m : Nat} (hm : m ≤ 96) (hf : ∀ k : Nat, k ≤ m → ((k : Int) * f k + cv s f k) % 97 = 0) (hg : ∀ k : Nat, k ≤ m → ((k : Int) * g k + cv t g k) % 97 = 0)
    (h0 : f 0 % 97 = g 0 % 97) (hs : ∀ i, 1 ≤ i → i ≤ m → s i % 97 = t i % 97) : ∀ k, k ≤ m → f k % 97 = g k % 97 := by
  intro k
  induction k using Nat.strongRecOn with
  | ind k ih =>
    intro hk
    cases k with
    | zero => exact h0
    | succ K =>
      have e : cv s f (K + 1) % 97 = cv t g (K + 1) % 97 := by
        refine sm_mod fun i hi => ?_
        show s (i + 1) * f (K + 1 - 1 - i) % 97 = t (i + 1) * g (K + 1 - 1 - i) % 97
        rw [Int.mul_emod, hs (i + 1) (by omega) (by omega), ih (K + 1 - 1 - i) (by omega) (by omega), ← Int.mul_emod]
      have e1 := hf (K + 1) hk
      have e2 := hg (K + 1) hk
      exact cancel97 hp (k := K + 1) (by omega) (by omega) (by omega)
end Ms
namespace Ms
/-! ### rows multiplied -/
def sh (a : Nat → Int) : Nat → Int := fun i => a (i + 1)
def cvl : (Nat → Int) → (Nat → Int) → Nat → Int
  | a, c, 0 => a 0 * c 0
  | a, c, k + 1 => a 0 * c (k + 1) + cvl (sh a) c k
theorem cvl_sm (a c : Nat → Int) : ∀ k, cvl a c k = sm (fun i => a i * c (k - i)) (k + 1)
  | 0 => (Int.zero_add _).symm
  | k + 1 => by
    rw [sm_first]
    show a 0 * c (k + 1) + cvl (sh a) c k = a 0 * c (k + 1 - 0) + _
    rw [cvl_sm (sh a) c k]
    congr 1
    refine sm_congr fun i _ => ?_
    show a (i + 1) * c (k - i) = a (i + 1) * c (k + 1 - (i + 1))
    rw [Nat.add_sub_add_right]
theorem cvl_congr {a b c d : Nat → Int} (k : Nat) (h1 : ∀ i, i ≤ k → a i = b i) (h2 : ∀ i, i ≤ k → c i = d i) : cvl a c k = cvl b d k := by
  rw [cvl_sm, cvl_sm]
  exact sm_congr fun i hi => by rw [h1 i (by omega), h2 (k - i) (by omega)]
theorem cvl_addL (a b c : Nat → Int) : ∀ k, cvl (fun i => a i + b i) c k = cvl a c k + cvl b c k := fun k => by
  rw [cvl_sm, cvl_sm, cvl_sm, ← sm_add]
  exact sm_congr fun i _ => Int.add_mul _ _ _
theorem cvl_addR (a c d : Nat → Int) : ∀ k, cvl a (fun i => c i + d i) k = cvl a c k + cvl a d k := fun k => by
  rw [cvl_sm, cvl_sm, cvl_sm, ← sm_add]
  exact sm_congr fun i _ => Int.mul_add _ _ _
theorem cvl_mulL (x : Int) (a c : Nat → Int) : ∀ k, cvl (fun i => x * a i) c k = x * cvl a c k := fun k => by
  rw [cvl_sm, cvl_sm, ← sm_mul]
  exact sm_congr fun i _ => Int.mul_assoc _ _ _
theorem cvl_assoc (b c : Nat → Int) : ∀ (k : Nat) (a : Nat → Int), cvl (cvl a b) c k = cvl a (cvl b c) k
  | 0, a => Int.mul_assoc _ _ _
  | k + 1, a => by
    show cvl a b 0 * c (k + 1) + cvl (sh (cvl a b)) c k = a 0 * cvl b c (k + 1) + cvl (sh a) (cvl b c) k
    have e : sh (cvl a b) = fun i => a 0 * sh b i + cvl (sh a) b i := funext fun i => rfl
    rw [e, cvl_addL, cvl_mulL, cvl_assoc b c k (sh a)]
    show a 0 * b 0 * c (k + 1) + (a 0 * cvl (sh b) c k + cvl (sh a) (cvl b c) k) = a 0 * (b 0 * c (k + 1) + cvl (sh b) c k) + cvl (sh a) (cvl b c) k
    grind
theorem cvl_right (c : Nat → Int) : ∀ (k : Nat) (a : Nat → Int), cvl a c (k + 1) = cvl a (sh c) k + a (k + 1) * c 0
  | 0, a => rfl
  | k + 1, a => by
    show a 0 * c (k + 2) + cvl (sh a) c (k + 1) = a 0 * sh c (k + 1) + cvl (sh a) (sh c) k + a (k + 2) * c 0
    rw [cvl_right c k (sh a)]
    show a 0 * c (k + 2) + (cvl (sh a) (sh c) k + a (k + 2) * c 0) = a 0 * c (k + 2) + cvl (sh a) (sh c) k + a (k + 2) * c 0
    omega
theorem cvl_comm : ∀ (k : Nat) (a c : Nat → Int), cvl a c k = cvl c a k
  | 0, a, c => Int.mul_comm _ _
  | k + 1, a, c => by
    rw [cvl_right a k c]
    show a 0 * c (k + 1) + cvl (sh a) c k = cvl c (sh a) k + c (k + 1) * a 0
    rw [cvl_comm k (sh a) c, Int.mul_comm (c (k + 1))]
    omega
def dv (a : Nat → Int) : Nat → Int := fun k => (k : Int) * a k
theorem dv_cvl (c : Nat → Int) : ∀ (k : Nat) (a : Nat → Int), (k : Int) * cvl a c k = cvl (dv a) c k + cvl a (dv c) k
  | 0, a => by
    show (0 : Int) * _ = (0 : Int) * a 0 * c 0 + a 0 * ((0 : Int) * c 0)
    grind
  | k + 1, a => by
    have ih := dv_cvl c k (sh a)
    have e : sh (dv a) = fun i => dv (sh a) i + sh a i := funext fun i => by
      show ((i + 1 : Nat) : Int) * a (i + 1) = (i : Int) * a (i + 1) + a (i + 1)
      have : ((i + 1 : Nat) : Int) = (i : Int) + 1 := by omega
      rw [this]
      grind
    show ((k + 1 : Nat) : Int) * (a 0 * c (k + 1) + cvl (sh a) c k) = ((0 : Nat) : Int) * a 0 * c (k + 1) + cvl (sh (dv a)) c k + (a 0 * (((k + 1 : Nat) : Int) * c (k + 1)) + cvl (sh a) (dv c) k)
    rw [e, cvl_addL]
    have e2 : ((k + 1 : Nat) : Int) = (k : Int) + 1 := by omega
    rw [e2]
    have e3 : ((0 : Nat) : Int) = 0 := rfl
    rw [e3]
    grind
/-- the sums from the first on -/
def zs (s : Nat → Int) : Nat → Int
  | 0 => 0
  | i + 1 => s (i + 1)
theorem cv_cvl (s f : Nat → Int) : ∀ k, cv s f k = cvl (zs s) f k
  | 0 => (Int.zero_mul _).symm
  | k + 1 => by
    show cv s f (k + 1) = 0 * f (k + 1) + cvl (sh (zs s)) f k
    rw [Int.zero_mul, Int.zero_add, cvl_sm]
    refine sm_congr fun i _ => ?_
    show s (i + 1) * f (k + 1 - 1 - i) = s (i + 1) * f (k - i)
    rw [Nat.add_sub_cancel]
/-- how far a row is from keeping Newton's recurrence -/
def rs (f s : Nat → Int) : Nat → Int := fun k => (k : Int) * f k + cv s f k
theorem rs_cvl (a c s t : Nat → Int) (k : Nat) : rs (cvl a c) (fun i => s i + t i) k = cvl (rs a s) c k + cvl a (rs c t) k := by
  have e1 : zs (fun i => s i + t i) = fun i => zs s i + zs t i := funext fun i => by
    cases i with
    | zero => rfl
    | succ i => rfl
  have e2 : rs a s = fun i => dv a i + cvl (zs s) a i := funext fun i => by
    show (i : Int) * a i + cv s a i = _
    rw [cv_cvl]
    rfl
  have e3 : rs c t = fun i => dv c i + cvl (zs t) c i := funext fun i => by
    show (i : Int) * c i + cv t c i = _
    rw [cv_cvl]
    rfl
  show (k : Int) * cvl a c k + cv _ (cvl a c) k = _
  rw [cv_cvl, e1, e2, e3, cvl_addL, cvl_addL, cvl_addR, dv_cvl, cvl_assoc a c k (zs s)]
  have e4 : cvl (zs t) (cvl a c) k = cvl a (cvl (zs t) c) k := by
    rw [← cvl_assoc a c k (zs t), ← cvl_assoc (zs t) c k a]
    exact cvl_congr k (fun i _ => cvl_comm i _ _) fun _ _ => rfl
  rw [e4]
  omega
theorem cvl_mod {a b c d : Nat → Int} (k : Nat) (h1 : ∀ i, i ≤ k → a i % 97 = b i % 97) (h2 : ∀ i, i ≤ k → c i % 97 = d i % 97) : cvl a c k % 97 = cvl b d k % 97 := by
  rw [cvl_sm, cvl_sm]
  exact sm_mod fun i hi => by rw [Int.mul_emod, h1 i (by omega), h2 (k - i) (by omega), ← Int.mul_emod]
theorem cvl_zeroL (c : Nat → Int) (k : Nat) : cvl (fun _ => 0) c k = 0 := by
  rw [cvl_sm]
  exact sm_zero fun _ _ => Int.zero_mul _
theorem cvl_zeroR (a : Nat → Int) (k : Nat) : cvl a (fun _ => 0) k = 0 := by
  rw [cvl_sm]
  exact sm_zero fun _ _ => Int.mul_zero _
/-- the row by the differences of the sums, multiplied by the one's row, begins as the other's -/
theorem quotient (hp : ∀ a b : Int, a * b % 97 = 0 → a % 97 = 0 ∨ b % 97 = 0) {A B : List Int} {c t : Nat → Int} {m : Nat} (hm : m ≤ 96) (h0 : c 0 % 97 = 1) (hc : ∀ k, k ≤ m → rs c t k % 97 = 0) (ht : ∀ i, 1 ≤ i → i ≤ m → (ps A i + t i) % 97 = ps B i % 97) :
    ∀ k, k ≤ m → cvl (E A) c k % 97 = E B k % 97 := by
  refine uniq hp hm (f := cvl (E A) c) (g := E B) (s := fun i => ps A i + t i) (t := ps B) (fun k hk => ?_) (fun k _ => by rw [NW_E B k]; rfl) ?_ ht
  · show rs (cvl (E A) c) (fun i => ps A i + t i) k % 97 = 0
    rw [rs_cvl]
    have e1 : cvl (rs (E A) (ps A)) c k = 0 := by
      rw [show rs (E A) (ps A) = fun _ => 0 from funext fun i => NW_E A i]
      exact cvl_zeroL c k
    have e2 : cvl (E A) (rs c t) k % 97 = cvl (E A) (fun _ => 0) k % 97 := cvl_mod k (fun _ _ => rfl) fun i hi => hc i (by omega)
    rw [cvl_zeroR] at e2
    omega
  · show E A 0 * c 0 % 97 = E B 0 % 97
    rw [E_zero, E_zero, Int.one_mul, h0]
    rfl
end Ms
namespace My
open PySem PySem.Spec PyProof.Rows L2
/-- a comprehension over any walk, without ifs, without drawing: item i is F i -/
theorem lc_F {J : It} {n : Nat} {G : Hp → Prop} {Y : Nat → Hp → V → Hp → Prop} (w : Walk J n G Y) {te : TE} {g : TG} {vs : List Nat} {σ : L2.St} {H1 : Hp} {D : Addr} {Qd : Hp → Prop} (F : Nat → V) (hz : n ≤ 10000) (hD : H1 D = none) (hG : ∀ H, Same H1 H → G H)
    (ht : ∀ i x H H', i < n → Same H1 H → Y i H x H' → ∀ Q : VK, (∀ H3, Same H H3 → Q (F i) H3) → g x (wipe σ vs) H' fun σ2 H2 => wipe σ2 vs = wipe σ vs ∧ te σ2 H2 Q)
    (k : ∀ H', Same H1 H' → H' D = some (.lst ((List.range n).map F)) → Qd H') :
    ∃ W : Nat → Nat → Hp → Prop, (∃ m, W 0 m (upd H1 D (.lst []))) ∧ ∀ i m H, W i m H →
      (J.stop i H ∧ Qd H) ∨ (J.go i H ∧ ∃ Nx : Hp → Prop, (∀ H', Nx H' → ∃ m', m' < m ∧ W (i + 1) m' H') ∧ ∀ x H', J.yld i H x H' → g x (wipe σ vs) H' fun σ2 H2 => wipe σ2 vs = wipe σ vs ∧ tYes σ2 H2 fun b H3 =>
        if b = true then te σ2 H3 fun y H4 => ∃ acc, H4 D = some (.lst acc) ∧ acc.length < sizeLine ∧ Nx (upd H4 D (.lst (acc ++ [y]))) else Nx H3) := by
  refine lc_it w (fun i H' => Same H1 H' ∧ H' D = some (.lst ((List.range i).map F))) ⟨same_upd hD, upd_same⟩ (fun i H _ p => hG H p.1) ?_ ?_
  · rintro i x H H' hi ⟨sm, hd⟩ y
    refine ht i x H H' hi sm y _ fun H3 s3 => ?_
    refine ⟨_, s3 _ _ hd, ?_, (sm.trans s3).mut hD, ?_⟩
    · rw [List.length_map, List.length_range]
      exact Nat.lt_of_lt_of_le (by omega : i < 10001) (by decide)
    · rw [upd_same, List.range_succ, List.map_append]
      rfl
  · rintro H' ⟨sm, hd⟩
    exact k H' sm hd
/-- the same with an if: items i of which f i holds -/
theorem lc_FT {J : It} {n : Nat} {G : Hp → Prop} {Y : Nat → Hp → V → Hp → Prop} (w : Walk J n G Y) {tt : TT} {te : TE} {g : TG} {vs : List Nat} {σ : L2.St} {H1 : Hp} {D : Addr} {Qd : Hp → Prop} (f : Nat → Bool) (F : Nat → V) (hz : n ≤ 10000) (hD : H1 D = none) (hG : ∀ H, Same H1 H → G H)
    (ht : ∀ i x H H', i < n → Same H1 H → Y i H x H' → ∀ Q : L2.St → Bool → Hp → Prop, (∀ σ2 H3, Same H H3 → (f i = true → ∀ Q2 : VK, (∀ H4, Same H3 H4 → Q2 (F i) H4) → te σ2 H3 Q2) → Q σ2 (f i) H3) → g x (wipe σ vs) H' fun σ2 H2 => wipe σ2 vs = wipe σ vs ∧ tt σ2 H2 (Q σ2))
    (k : ∀ H', Same H1 H' → H' D = some (.lst (((List.range n).filter f).map F)) → Qd H') :
    ∃ W : Nat → Nat → Hp → Prop, (∃ m, W 0 m (upd H1 D (.lst []))) ∧ ∀ i m H, W i m H →
      (J.stop i H ∧ Qd H) ∨ (J.go i H ∧ ∃ Nx : Hp → Prop, (∀ H', Nx H' → ∃ m', m' < m ∧ W (i + 1) m' H') ∧ ∀ x H', J.yld i H x H' → g x (wipe σ vs) H' fun σ2 H2 => wipe σ2 vs = wipe σ vs ∧ tt σ2 H2 fun b H3 =>
        if b = true then te σ2 H3 fun y H4 => ∃ acc, H4 D = some (.lst acc) ∧ acc.length < sizeLine ∧ Nx (upd H4 D (.lst (acc ++ [y]))) else Nx H3) := by
  refine lc_it w (fun i H' => Same H1 H' ∧ H' D = some (.lst (((List.range i).filter f).map F))) ⟨same_upd hD, upd_same⟩ (fun i H _ p => hG H p.1) ?_ ?_
  · rintro i x H H' hi ⟨sm, hd⟩ y
    refine ht i x H H' hi sm y _ fun σ2 H3 s3 he => ?_
    have hd3 := s3 _ _ hd
    have er : (List.range (i + 1)).filter f = (List.range i).filter f ++ (if f i = true then [i] else []) := by
      rw [List.range_succ, List.filter_append, List.filter_cons]
      rfl
    by_cases c : f i = true
    · rw [if_pos c] at er ⊢
      refine he c _ fun H4 s4 => ⟨_, s4 _ _ hd3, ?_, (sm.trans (s3.trans s4)).mut hD, ?_⟩
      · rw [List.length_map]
        refine Nat.lt_of_le_of_lt (List.length_filter_le _ _) ?_
        rw [List.length_range]
        exact Nat.lt_of_lt_of_le (by omega : i < 10001) (by decide)
      · rw [upd_same, er, List.map_append]
        rfl
    · rw [if_neg c] at er ⊢
      refine ⟨sm.trans s3, ?_⟩
      rw [hd3, er, List.append_nil]
  · rintro H' ⟨sm, hd⟩
    exact k H' sm hd
end My
namespace Mz
open PySem PySem.Spec PyProof.Rows L2
/-! ### zip of a list or a tuple with a list or a tuple -/
/-- a list (true) or a tuple (false) -/
def Sq (K : PySem.W.Frag) (H : Hp) : Bool → Addr → List V → Prop
  | true => SqL K H
  | false => SqT K H
def Wk (h : Heap) : Bool → Addr → Addr → Nat → Prop
  | true => fun it l i => h.IsListIter it l i
  | false => fun it l i => h.IsTupleIter it l i
def Im (h : Heap) : Bool → Addr → Array Value → Prop
  | true => fun l m => h.IsList l m
  | false => fun l m => h.IsTuple l m
theorem drw {P : Program} {w : World} {A : Around} (hh : A.handled = none) {it l : Addr} (ne : l ≠ it) (m : Array Value) : ∀ p : Bool, Draws P w A it [it, l] m.size (fun i v => m[i]? = some v) (fun i h => Wk h p it l i ∧ Im h p l m)
  | true => Draws.list hh it l ne m
  | false => Draws.tuple hh it l ne m
theorem Wk.live {h : Heap} {p : Bool} {it l : Addr} {i : Nat} (x : Wk h p it l i) : ∃ o, h.get? it = some o ∧ ∀ v, o.data ≠ .cell v := by
  cases p with
  | false =>
    obtain ⟨o, e, _, d⟩ := x
    exact ⟨o, e, fun v z => by rw [d] at z; exact nomatch z⟩
  | true =>
    obtain ⟨o, e, _, d⟩ := x
    exact ⟨o, e, fun v z => by rw [d] at z; exact nomatch z⟩
theorem Wk.on {h h' : Heap} {p : Bool} {it l : Addr} {i : Nat} (x : Wk h p it l i) (k : ∀ o, h.get? it = some o → h'.get? it = some o) : Wk h' p it l i := by
  cases p with
  | false => exact Heap.IsTupleIter.at x k
  | true => exact Heap.IsListIter.at x k
theorem stands {X : Cx} {pins : List (Addr × Obj)} {σ : L2.St} {H : Hp} {s : Shared} {a : Addr} {xs : List V} (I : Inv X pins σ H s) {p : Bool} (h : Sq X.K H p a xs) : ∃ its, Vals xs its ∧ Im s.heap p a its.toArray ∧ a < s.heap.objs.size := by
  cases p with
  | false =>
    obtain ⟨its, rv, q, _⟩ := I.tuple h
    obtain ⟨o, ho, _⟩ := id q
    exact ⟨its, rv, q, Heap.lt_size ho⟩
  | true =>
    obtain ⟨its, rv, q, _⟩ := I.list h
    exact ⟨its, rv, q.isList, q.lt⟩
theorem one {X : Cx} {pins : List (Addr × Obj)} {σ : L2.St} {H : Hp} {s : Shared} {a : Addr} {xs ys : List V} (I : Inv X pins σ H s) {p : Bool} (h : Sq X.K H p a xs) (h' : Sq X.K H p a ys) : xs = ys := by
  cases p with
  | false => exact I.tuple_inj h h'
  | true => exact I.list_inj h h'
/-- both as they stand at each turn, the items in new pairs -/
def It2 (K : PySem.W.Frag) (p q : Bool) (a b : Addr) : It where
  go i H := ∃ (xs ys : List V) (x y : V), (Sq K H p a xs ∧ Sq K H q b ys) ∧ xs[i]? = some x ∧ ys[i]? = some y
  yld i H v H' := ∃ (T : Addr) (x y : V), v = .ref T ∧ H T = none ∧ H' = upd H T (.tup [x, y]) ∧ (∀ xs, Sq K H p a xs → xs[i]? = some x) ∧ ∀ ys, Sq K H q b ys → ys[i]? = some y
  stop i H := ∃ xs ys : List V, (Sq K H p a xs ∧ Sq K H q b ys) ∧ i ≤ xs.length ∧ i ≤ ys.length ∧ (i = xs.length ∨ i = ys.length)
theorem turn2 {P : Program} {w : World} {K : PySem.W.Frag} {es : List Expr} {k : Nat} {tp : Pos} {a b z U O j1 j2 : Addr} {p q : Bool} (S : ZipSep2 z U O j1 j2 [j1, a] [j2, b]) (n1 : a ≠ j1) (n2 : b ≠ j2) :
    Turn P w K (.Tuple es k tp) (It2 K p q a b) [z, U, O, j1, j2] z (fun i h => (IsZip h z U O .none ∧ IsTupOf2 h U (.ref j1) (.ref j2) ∧ ∃ x y, IsTupOf2 h O x y) ∧ Wk h p j1 a i ∧ Wk h q j2 b i) where
  mem := List.mem_cons_self
  obj := by
    rintro i h ⟨⟨f1, f2, x, y, f3⟩, f4, f5⟩ c hc
    rcases (by simpa using hc : c = z ∨ c = U ∨ c = O ∨ c = j1 ∨ c = j2) with e | e | e | e | e <;> subst e
    · exact ⟨_, f1, (fun _ y => nomatch y)⟩
    · exact ⟨_, f2, (fun _ y => nomatch y)⟩
    · exact ⟨_, f3, (fun _ y => nomatch y)⟩
    · exact f4.live
    · exact f5.live
  keep := by
    rintro i h h' ⟨⟨f1, f2, x, y, f3⟩, f4, f5⟩ kk
    exact ⟨⟨kk _ (by simp) _ f1, kk _ (by simp) _ f2, x, y, kk _ (by simp) _ f3⟩, f4.on (kk _ (by simp)), f5.on (kk _ (by simp))⟩
  item := by
    rintro X rfl rfl rfl calm i pins s σ H E I fr ⟨⟨f1, f2, x0, y0, f3⟩, f4, f5⟩ ⟨xs, ys, x, y, ⟨g1, g2⟩, gx, gy⟩
    obtain ⟨m1, r1, p1, _⟩ := stands I g1
    obtain ⟨m2, r2, p2, _⟩ := stands I g2
    obtain ⟨u1, k1, t1⟩ := r1.get gx
    obtain ⟨u2, k2, t2⟩ := r2.get gy
    have c1 : i < m1.toArray.size := by
      rw [List.size_toArray]
      exact (List.getElem?_eq_some_iff.mp k1).1
    have c2 : i < m2.toArray.size := by
      rw [List.size_toArray]
      exact (List.getElem?_eq_some_iff.mp k2).1
    have zl : z < s.heap.objs.size := Heap.lt_size f1
    refine wpAny_pyNext_zipD2_item S (drw (A := X.A.in1) (show X.A.in1.handled = none from I.ok.hd calm) n1 m1.toArray p) (drw (A := X.A.in1) (show X.A.in1.handled = none from I.ok.hd calm) n2 m2.toArray q) f1 f2 f3 ⟨f4, p1⟩ ⟨f5, p2⟩ c1 c2 fun v1 v2 h1 tk w1 w2 z1 O1 s1 s2 T1 _ kk => ?_
    have e1 : v1 = u1 := by
      rw [show m1.toArray[i]? = m1[i]? by simp, k1] at w1
      exact (Option.some.inj w1).symm
    have e2 : v2 = u2 := by
      rw [show m2.toArray[i]? = m2[i]? by simp, k2] at w2
      exact (Option.some.inj w2).symm
    subst e1 e2
    refine ⟨_, rfl, wpAny_letOwnedTupleGo_zip (s := { s with heap := h1, toks := tk }) z1 fun h2 z2 sb => ?_⟩
    have T2 := (sb.2 _ (Nat.ne_of_gt zl)).trans T1
    have nw : ObjOk X.prog X.w (upd H s.heap.objs.size (.tup [x, y])) h2 s.heap.objs.size (.tup [x, y]) := ⟨by show 2 ≤ sizeLine; decide, [v1, v2], .cons t1 (.cons t2 .nil), _, T2, rfl, _, rfl⟩
    have fz : ∀ c ∈ [z, U, O, j1, j2], c < s.heap.objs.size := fun c hc => by
      rcases (by simpa using hc : c = z ∨ c = U ∨ c = O ∨ c = j1 ∨ c = j2) with e | e | e | e | e <;> subst e
      · exact zl
      · exact Heap.lt_size f2
      · exact Heap.lt_size f3
      · exact Heap.lt_size f4.live.choose_spec.1
      · exact Heap.lt_size f5.live.choose_spec.1
    have J := I.turnedNew (t' := tk) (ch := [z, U, O, j1, j2]) (fun c o hc e => (sb.2 c fun ez => hc (by rw [ez]; simp)).trans (kk c o (fun ez => hc (by rw [ez]; simp)) (fun ez => hc (by rw [ez]; simp)) (fun ez => hc (by rw [ez]; simp)) (fun ez => hc (by rw [ez]; simp)) e)) fr (Nat.le_refl _) nw
    refine ⟨.ref s.heap.objs.size, _, J, rfl, ⟨_, x, y, rfl, I.hok.fresh (Nat.le_refl _), rfl, fun l hl => one I hl g1 ▸ gx, fun l hl => one I hl g2 ▸ gy⟩, ⟨⟨z2, ?_, v1, v2, ?_⟩, ?_, ?_⟩, fun c hc => ?_⟩
    · exact (sb.2 _ S.TIz).trans (kk _ _ S.TIz S.TITO S.TIi1 S.TIi2 f2)
    · exact (sb.2 _ S.TOz).trans O1
    · exact s1.1.on fun o e => (sb.2 _ S.zi1.symm).trans e
    · exact s2.1.on fun o e => (sb.2 _ S.zi2.symm).trans e
    · rw [upd_ne (Nat.ne_of_lt (fz c hc))]
      exact (fr c hc).1
  done := by
    rintro X rfl rfl rfl calm i pins s σ H E I fr ⟨⟨f1, f2, x0, y0, f3⟩, f4, f5⟩ ⟨xs, ys, ⟨g1, g2⟩, b1, b2, be⟩
    obtain ⟨m1, r1, p1, _⟩ := stands I g1
    obtain ⟨m2, r2, p2, _⟩ := stands I g2
    have l1 : m1.toArray.size = xs.length := by rw [List.size_toArray, r1.length]
    have l2 : m2.toArray.size = ys.length := by rw [List.size_toArray, r2.length]
    refine wpAny_pyNext_zipD2_end S (drw (A := X.A.in1) (show X.A.in1.handled = none from I.ok.hd calm) n1 m1.toArray p) (drw (A := X.A.in1) (show X.A.in1.handled = none from I.ok.hd calm) n2 m2.toArray q) f1 f2 f3 ⟨f4, p1⟩ ⟨f5, p2⟩ (by rw [l1]; exact b1) (by rw [l2]; exact b2) (by rw [l1, l2]; exact be) fun h1 tk kk => ⟨rfl, ?_⟩
    exact I.turnedL (t' := tk) (ch := [z, U, O, j1, j2]) (fun c o hc e => kk c o (fun ez => hc (by rw [ez]; simp)) (fun ez => hc (by rw [ez]; simp)) (fun ez => hc (by rw [ez]; simp)) (fun ez => hc (by rw [ez]; simp)) e) fr
  self := fun A i s Q E st h => wpAny_pyIter_zip st.1.1 h
theorem walk2 {K : PySem.W.Frag} {p q : Bool} {a b : Addr} {xs ys : List V} {n : Nat} (hn : n = min xs.length ys.length) : Walk (It2 K p q a b) n (fun H => Sq K H p a xs ∧ Sq K H q b ys) (YPair (fun i => xs[i]?) (fun i => ys[i]?)) where
  goes i H hi G := ⟨xs, ys, xs[i]'(by omega), ys[i]'(by omega), G, List.getElem?_eq_getElem _, List.getElem?_eq_getElem _⟩
  stops H G := ⟨xs, ys, G, by omega, by omega, by omega⟩
  yields := by
    rintro i H v H' hi G ⟨T, x, y, rfl, fr, e, g1, g2⟩
    exact ⟨T, x, y, rfl, fr, e, g1 xs G.1, g2 ys G.2⟩
def iZip2 (K : PySem.W.Frag) (p q : Bool) (ta : TA) : TI := fun σ H R => ta σ H fun vs H1 => ∃ a b xs ys, vs = [.ref a, .ref b] ∧ Sq K H1 p a xs ∧ Sq K H1 q b ys ∧ R (It2 K p q a b) H1
theorem begins {s : Shared} : ∀ (p : Bool) (a : Addr) (m : Array Value), ∃ o, Begins (.ref a) o (fun h => Im h p a m) ∧ ∀ h b, h.get? b = some o → Wk h p b a 0
  | true, a, m => ⟨_, begins_list a m, fun h b e => ⟨_, e, rfl, rfl⟩⟩
  | false, a, m => ⟨_, begins_tuple a m, fun h b e => ⟨_, e, rfl, rfl⟩⟩
theorem pi_zip2 {X : Cx} {e e2 : Expr} {ta : TA} {l pos tpos : Pos} {es : List Expr} {k : Nat} {p q : Bool} (hg : Gl X "zip") (hm : X.mg "zip" = none) (ha : PA X [e, e2] ta)
    (hs : starEach [e, e2] X.env = (false, eval e X.env) :: starEach [e2] X.env := by rfl) (hpl : (backTo pos (starEach [e2] X.env)).any (·.1) = false := by rfl) :
    PI X (.Tuple es k tpos) (.Call (.Name "zip" l) [e, e2] [] pos) (iZip2 X.K p q ta) where
  run pins s σ H R I h := by
    refine Call_ (ld_blt I hg hm PyProof.Rows.boot_zip (PyProof.Rows.callWith_type1 (thn (ha.run pos pins s σ H _ I h) ?_) hs hpl))
    rintro us s1 ⟨vs, H1, J, rr, a, b, xs, ys, rfl, g1, g2, R1⟩
    obtain ⟨u1, u2, rfl, c1, c2⟩ := vals2 rr
    cases (show u1 = Value.ref a from c1)
    cases (show u2 = Value.ref b from c2)
    obtain ⟨m1, _, p1, l1⟩ := stands J g1
    obtain ⟨m2, _, p2, l2⟩ := stands J g2
    obtain ⟨o1, B1, w1⟩ := begins (s := s1) p a m1.toArray
    obtain ⟨o2, B2, w2⟩ := begins (s := s1) q b m2.toArray
    refine zip_begins2 B1 B2 p1 p2 fun h' z1 U1 O1 k1 k2 _ kk => wpAny_pyIter_zip z1 ?_
    have J2 : Inv X pins σ H1 { s1 with heap := h' } := J.kept (t' := s1.toks) kk
    refine ⟨s1.heap.objs.size + 4, [s1.heap.objs.size + 4, s1.heap.objs.size + 2, s1.heap.objs.size + 3, s1.heap.objs.size, s1.heap.objs.size + 1], _, _, H1, rfl, J2, turn2 (zip_sep2 (N := s1.heap.objs.size) (fp1 := [a]) (fp2 := [b]) (fun c hc => ?_) fun c hc => ?_) (Nat.ne_of_lt l1) (Nat.ne_of_lt (Nat.lt_succ_of_lt l2)), ⟨⟨z1, U1, _, _, O1⟩, w1 _ _ k1, w2 _ _ k2⟩, fun c hc => ?_, R1⟩
    · rw [List.mem_singleton.mp hc]
      exact l1
    · rw [List.mem_singleton.mp hc]
      exact l2
    · have le : s1.heap.objs.size ≤ c := by
        rcases (by simpa using hc : c = s1.heap.objs.size + 4 ∨ c = s1.heap.objs.size + 2 ∨ c = s1.heap.objs.size + 3 ∨ c = s1.heap.objs.size ∨ c = s1.heap.objs.size + 1) with e | e | e | e | e <;> subst e
        · exact Nat.le_add_right _ 4
        · exact Nat.le_add_right _ 2
        · exact Nat.le_add_right _ 3
        · exact Nat.le_refl _
        · exact Nat.le_add_right _ 1
      exact J.fpOk le (J.hok.fresh le)
end Mz
namespace My
open PySem PySem.Spec PyProof.Rows L2
/-- a comprehension over any walk, without ifs, without drawing: of item i P holds -/
theorem lc_P {J : It} {n : Nat} {G : Hp → Prop} {Y : Nat → Hp → V → Hp → Prop} (w : Walk J n G Y) {te : TE} {g : TG} {vs : List Nat} {σ : L2.St} {H1 : Hp} {D : Addr} {Qd : Hp → Prop} (P : Nat → V → Hp → Prop) (hz : n ≤ 10000) (hD : H1 D = none) (hG : ∀ H, Same H1 H → G H)
    (hP : ∀ i v H H' acc, P i v H → H D = some (.lst acc) → (∀ b o, b ≠ D → H b = some o → H' b = some o) → P i v H')
    (ht : ∀ i x H H', i < n → Same H1 H → Y i H x H' → ∀ Q : VK, (∀ v H3, Same H H3 → P i v H3 → Q v H3) → g x (wipe σ vs) H' fun σ2 H2 => wipe σ2 vs = wipe σ vs ∧ te σ2 H2 Q)
    (k : ∀ ws H', Same H1 H' → H' D = some (.lst ws) → ws.length = n → (∀ i v, ws[i]? = some v → P i v H') → Qd H') :
    ∃ W : Nat → Nat → Hp → Prop, (∃ m, W 0 m (upd H1 D (.lst []))) ∧ ∀ i m H, W i m H →
      (J.stop i H ∧ Qd H) ∨ (J.go i H ∧ ∃ Nx : Hp → Prop, (∀ H', Nx H' → ∃ m', m' < m ∧ W (i + 1) m' H') ∧ ∀ x H', J.yld i H x H' → g x (wipe σ vs) H' fun σ2 H2 => wipe σ2 vs = wipe σ vs ∧ tYes σ2 H2 fun b H3 =>
        if b = true then te σ2 H3 fun y H4 => ∃ acc, H4 D = some (.lst acc) ∧ acc.length < sizeLine ∧ Nx (upd H4 D (.lst (acc ++ [y]))) else Nx H3) := by
  refine lc_it w (fun i H' => ∃ ws, Same H1 H' ∧ H' D = some (.lst ws) ∧ ws.length = i ∧ ∀ j v, ws[j]? = some v → P j v H') ⟨[], same_upd hD, upd_same, rfl, (fun _ _ z => nomatch z)⟩ (fun i H _ ⟨_, p, _⟩ => hG H p) ?_ ?_
  · rintro i x H H' hi ⟨ws, sm, hd, hl, hp⟩ y
    refine ht i x H H' hi sm y _ fun v H3 s3 pv => ?_
    have hd3 := s3 _ _ hd
    refine ⟨_, hd3, Nat.lt_of_lt_of_le (by omega : ws.length < 10001) (by decide), ws ++ [v], (sm.trans s3).mut hD, upd_same, by rw [List.length_append, hl]; rfl, fun j u hj => ?_⟩
    have up : ∀ j u, P j u H3 → P j u (upd H3 D (.lst (ws ++ [v]))) := fun j u hu => hP j u H3 _ _ hu hd3 fun b o hb e => by rw [upd_ne hb]; exact e
    rcases Nat.lt_trichotomy j i with c | c | c
    · rw [List.getElem?_append_left (by omega)] at hj
      exact up j u (hP j u H H3 _ (hp j u hj) hd fun b o _ e => s3 b o e)
    · subst c
      rw [List.getElem?_append_right (by omega), hl, Nat.sub_self] at hj
      cases hj
      exact up j v pv
    · rw [List.getElem?_eq_none (by rw [List.length_append, hl]; exact c)] at hj
      cases hj
  · rintro H' ⟨ws, sm, hd, hl, hp⟩
    exact k ws H' sm hd hl hp
end My
namespace My
open PySem PySem.Spec PyProof.Rows L2
/-! ### rows as functions -/
def gd (l : List Int) : Nat → Int := fun i => l.getD i 0
def sg (l : List Int) : Nat → Int := fun i => l.getD (i - 1) 0
theorem gd_get {l : List Int} {i : Nat} {z : Int} (h : l[i]? = some z) : gd l i = z := by
  unfold gd
  rw [List.getD_eq_getElem?_getD, h]
  rfl
theorem get_gd {l : List Int} {i : Nat} (h : i < l.length) : l[i]? = some (gd l i) := by
  rw [gd_get (List.getElem?_eq_getElem h)]
  exact List.getElem?_eq_getElem h
theorem gd_out {l : List Int} {i : Nat} (h : l.length ≤ i) : gd l i = 0 := by
  unfold gd
  rw [List.getD_eq_getElem?_getD, List.getElem?_eq_none h]
  rfl
theorem gd_app {l r : List Int} {i : Nat} (h : i < l.length) : gd (l ++ r) i = gd l i := by
  unfold gd
  rw [List.getD_eq_getElem?_getD, List.getD_eq_getElem?_getD, List.getElem?_append_left h]
theorem gd_last (l : List Int) (z : Int) : gd (l ++ [z]) l.length = z := gd_get (by
  rw [List.getElem?_append_right (Nat.le_refl _), Nat.sub_self]
  rfl)
theorem gd_rev {l : List Int} {n j : Nat} (h : l.length = n + 1) (hj : j ≤ n) : l.reverse.getD j 0 = gd l (n - j) := by
  unfold gd
  rw [List.getD_eq_getElem?_getD, List.getD_eq_getElem?_getD, List.getElem?_reverse (by omega), h]
  congr 2
theorem sum_range (f : Nat → Int) : ∀ n, ((List.range n).map f).sum = Ms.sm f n
  | 0 => rfl
  | n + 1 => by
    rw [List.range_succ, List.map_append, List.sum_append, sum_range f n]
    show _ + (f n + 0) = Ms.sm f n + f n
    rw [Int.add_zero]
def ofF (n : Nat) (f : Nat → Int) : List Int := (List.range n).map f
theorem ofF_len (n : Nat) (f : Nat → Int) : (ofF n f).length = n := by
  unfold ofF
  rw [List.length_map, List.length_range]
theorem ofF_get {n i : Nat} (f : Nat → Int) (h : i < n) : (ofF n f)[i]? = some (f i) := by
  unfold ofF
  rw [List.getElem?_map, List.getElem?_range h]
  rfl
theorem gd_ofF {n i : Nat} (f : Nat → Int) (h : i < n) : gd (ofF n f) i = f i := gd_get (ofF_get f h)
theorem ofF_gd {l : List Int} {n : Nat} (h : l.length = n) : ofF n (gd l) = l := by
  refine List.ext_getElem? fun k => ?_
  by_cases c : k < n
  · rw [ofF_get _ c, get_gd (by omega)]
  · rw [List.getElem?_eq_none (by rw [ofF_len]; omega), List.getElem?_eq_none (by omega)]
theorem ofF_congr {n : Nat} {f g : Nat → Int} (h : ∀ i, i < n → f i = g i) : ofF n f = ofF n g :=
  List.map_congr_left fun i hi => h i (List.mem_range.mp hi)
theorem ofF_vals (n : Nat) (f : Nat → Int) : (List.range n).map (fun i => V.int (f i)) = (ofF n f).map V.int := by
  unfold ofF
  rw [List.map_map]
  rfl
theorem ofF_set {n i : Nat} (f : Nat → Int) (v : Int) (h : i < n) : (ofF n f).set i v = ofF n fun k => if k = i then v else f k := by
  refine List.ext_getElem? fun k => ?_
  by_cases c : k < n
  · rw [List.getElem?_set, ofF_get (fun k => if k = i then v else f k) c]
    show _ = some (if k = i then v else f k)
    by_cases e : k = i
    · rw [if_pos e.symm, if_pos (by rw [ofF_len]; omega), if_pos e]
    · rw [if_neg (fun z => e z.symm), ofF_get _ c, if_neg e]
  · rw [List.getElem?_eq_none (by rw [List.length_set, ofF_len]; omega), List.getElem?_eq_none (by rw [ofF_len]; omega)]
theorem mem_ofF {n : Nat} {f : Nat → Int} {z : Int} (h : z ∈ ofF n f) : ∃ i, i < n ∧ z = f i := by
  obtain ⟨i, hi, rfl⟩ := List.mem_map.mp h
  exact ⟨i, List.mem_range.mp hi, rfl⟩
/-! rows multiplied, step by step -/
def co (f g : Nat → Int) (j i : Nat) : Int := if j ≤ i then f j * g (i - j) else 0
def part (f g : Nat → Int) (j i : Nat) : Int := Ms.sm (fun j => co f g j i) j
theorem sm_tail {f : Nat → Int} {n : Nat} : ∀ m, (∀ k, n ≤ k → k < n + m → f k = 0) → Ms.sm f (n + m) = Ms.sm f n
  | 0, _ => rfl
  | m + 1, h => by
    show Ms.sm f (n + m) + f (n + m) = _
    rw [sm_tail m fun k h1 h2 => h k h1 (by omega), h (n + m) (by omega) (by omega), Int.add_zero]
theorem part_full {f g : Nat → Int} {J i : Nat} (h : ∀ j, J ≤ j → j ≤ i → f j = 0) : part f g J i = Ms.cvl f g i := by
  rw [Ms.cvl_sm]
  have e : Ms.sm (fun j => f j * g (i - j)) (i + 1) = Ms.sm (fun j => co f g j i) (i + 1) := Ms.sm_congr fun j hj => by
    show _ = if j ≤ i then _ else _
    rw [if_pos (by omega)]
  rw [e]
  unfold part
  by_cases c : J ≤ i + 1
  · have := sm_tail (f := fun j => co f g j i) (n := J) (i + 1 - J) fun k h1 h2 => by
      show (if k ≤ i then f k * g (i - k) else 0) = 0
      rw [if_pos (by omega), h k h1 (by omega), Int.zero_mul]
    rw [show J + (i + 1 - J) = i + 1 by omega] at this
    exact this.symm
  · have := sm_tail (f := fun j => co f g j i) (n := i + 1) (J - (i + 1)) fun k h1 h2 => by
      show (if k ≤ i then f k * g (i - k) else 0) = 0
      rw [if_neg (by omega)]
    rw [show i + 1 + (J - (i + 1)) = J by omega] at this
    exact this
/-- behind j full turns and k steps of the next -/
def stepF (f g : Nat → Int) (j k : Nat) : Nat → Int := fun i => (part f g j i + (if j ≤ i ∧ i < j + k then f j * g (i - j) else 0)) % 97
theorem stepF_next {n j k : Nat} {f g : Nat → Int} : (ofF n fun i => if i = j + k then (stepF f g j k (j + k) + f j * g k) % 97 else stepF f g j k i) = ofF n (stepF f g j (k + 1)) := by
  refine ofF_congr fun i hi => ?_
  by_cases c : i = j + k
  · subst c
    rw [if_pos rfl]
    unfold stepF
    rw [if_neg (by omega), if_pos (by omega), show j + k - j = k by omega]
    omega
  · rw [if_neg c]
    unfold stepF
    congr 2
    by_cases d : j ≤ i ∧ i < j + k
    · rw [if_pos d, if_pos (by omega)]
    · rw [if_neg d, if_neg (by omega)]
theorem stepF_zero {n : Nat} {f g : Nat → Int} {j : Nat} : ofF n (stepF f g j 0) = ofF n fun i => part f g j i % 97 := ofF_congr fun i _ => by
  unfold stepF
  rw [if_neg (by omega), Int.add_zero]
theorem stepF_end {n j k : Nat} {f g : Nat → Int} (h : ∀ i, i < n → j + k ≤ i → g (i - j) = 0) : ofF n (stepF f g j k) = ofF n fun i => part f g (j + 1) i % 97 := ofF_congr fun i hi => by
  unfold stepF
  show _ = (part f g j i + (if j ≤ i then f j * g (i - j) else 0)) % 97
  congr 2
  by_cases c : j ≤ i
  · rw [if_pos c]
    by_cases d : i < j + k
    · rw [if_pos ⟨c, d⟩]
    · rw [if_neg (by omega), h i hi (by omega), Int.mul_zero]
  · rw [if_neg c, if_neg (by omega)]
def timesL (xs ys : List Int) (n : Nat) : List Int := ofF n fun i => Ms.cvl (gd xs) (gd ys) i % 97
/-- a set's row, told on -/
def rowE (ms : List Int) (n : Nat) : List Int := ofF n fun i => Ms.E ms i % 97
theorem gd_rowE {ms : List Int} {n i : Nat} (h : ms.length < n) : gd (rowE ms n) i = Ms.E ms i % 97 := by
  by_cases c : i < n
  · exact gd_ofF _ c
  · rw [gd_out (by unfold rowE; rw [ofF_len]; omega), Ms.E_deg (by omega)]
    rfl
theorem cvl_two (f : Nat → Int) (z : Int) : ∀ k, Ms.cvl f (gd [1, 0 - z]) k = Ms.st f z k
  | 0 => by
    show f 0 * 1 = f 0 - z * 0
    omega
  | k + 1 => by
    rw [Ms.cvl_comm]
    show 1 * f (k + 1) + Ms.cvl (Ms.sh (gd [1, 0 - z])) f k = f (k + 1) - z * f k
    have e : Ms.cvl (Ms.sh (gd [1, 0 - z])) f k = (0 - z) * f k := by
      cases k with
      | zero => rfl
      | succ k =>
        show (0 - z) * f (k + 1) + Ms.cvl (Ms.sh (Ms.sh (gd [1, 0 - z]))) f k = _
        have e0 : Ms.sh (Ms.sh (gd [1, 0 - z])) = fun _ => 0 := funext fun i => show gd [1, 0 - z] (i + 1 + 1) = 0 from gd_out (by show 2 ≤ i + 1 + 1; omega)
        rw [e0, Ms.cvl_zeroL, Int.add_zero]
    rw [e]
    grind
theorem E_snoc (ms : List Int) (z : Int) : Ms.E (ms ++ [z]) = Ms.st (Ms.E ms) z := by
  unfold Ms.E Ms.EG
  rw [List.foldl_append]
  rfl
theorem times_row {ms : List Int} {z : Int} {n m : Nat} (h : ms.length < n) : timesL (rowE ms n) [1, 0 - z] m = rowE (ms ++ [z]) m := by
  refine ofF_congr fun i _ => ?_
  rw [E_snoc, ← cvl_two]
  exact Ms.cvl_mod i (fun j _ => by rw [gd_rowE h, Int.emod_emod]) fun _ _ => rfl
theorem rowE_bd (ms : List Int) (n : Nat) : ∀ z ∈ rowE ms n, 0 ≤ z ∧ z ≤ 96 := by
  intro z hz
  obtain ⟨i, _, rfl⟩ := mem_ofF hz
  have := Int.emod_nonneg (Ms.E ms i) (show (97 : Int) ≠ 0 by decide)
  have := Int.emod_lt_of_pos (Ms.E ms i) (show (0 : Int) < 97 by decide)
  omega
theorem rowE_len (ms : List Int) (n : Nat) : (rowE ms n).length = n := ofF_len _ _
theorem rowE_more {ms : List Int} {n k : Nat} (h : ms.length < n) : rowE ms n ++ List.replicate k 0 = rowE ms (n + k) := by
  refine List.ext_getElem? fun i => ?_
  rcases Nat.lt_or_ge i n with c | c
  · rw [List.getElem?_append_left (by rw [rowE_len]; exact c)]
    unfold rowE
    rw [ofF_get _ c, ofF_get _ (by omega)]
  · rw [List.getElem?_append_right (by rw [rowE_len]; exact c), rowE_len]
    by_cases d : i < n + k
    · unfold rowE
      rw [ofF_get _ d, List.getElem?_replicate, if_pos (by omega), Ms.E_deg (by omega)]
      rfl
    · rw [List.getElem?_eq_none (by rw [List.length_replicate]; omega), List.getElem?_eq_none (by rw [rowE_len]; omega)]
theorem rowE_take {ms : List Int} {n k : Nat} (h : k ≤ n) : (rowE ms n).take k = rowE ms k := by
  unfold rowE ofF
  rw [← List.map_take, List.take_range, Nat.min_eq_left h]
def minI (x y : Int) : Int := if y < x then y else x
theorem minI_eq {x y : Int} : minI x y = x ∧ x ≤ y ∨ minI x y = y ∧ y < x := by
  unfold minI
  by_cases c : y < x
  · exact .inr ⟨if_pos c, c⟩
  · exact .inl ⟨if_neg c, by omega⟩
/-- the row by sums, as far as i -/
structure Rb (ts : List Int) (i : Nat) (row : List Int) : Prop where
  len : row.length = i + 1
  bd : ∀ z ∈ row, 0 ≤ z ∧ z ≤ 96
  hd : gd row 0 = 1
  kp : ∀ k, k ≤ i → Ms.rs (gd row) (sg ts) k % 97 = 0
theorem Rb.one (ts : List Int) : Rb ts 0 [1] := ⟨rfl, fun z hz => by rw [List.mem_singleton.mp hz]; decide, rfl, fun k hk => by
  have e : k = 0 := by omega
  subst e
  show ((0 : Nat) : Int) * gd [1] 0 % 97 = 0
  rfl⟩
theorem rs_congr {f g s : Nat → Int} {k : Nat} (h : ∀ i, i ≤ k → f i = g i) : Ms.rs f s k = Ms.rs g s k := by
  unfold Ms.rs Ms.cv
  rw [h k (Nat.le_refl _)]
  congr 1
  exact Ms.sm_congr fun i hi => by rw [h _ (by omega)]
theorem Rb.next {ts row : List Int} {i : Nat} (h : Rb ts i row) {t g : Int} (ht : t = Ms.cv (sg ts) (gd row) (i + 1)) (hg : (1 + (i : Int)) * g % 97 = 1) : Rb ts (i + 1) (row ++ [-t * g % 97]) := by
  have hl := h.len
  refine ⟨by rw [List.length_append, h.len]; rfl, fun z hz => ?_, ?_, fun k hk => ?_⟩
  · rcases List.mem_append.mp hz with hz | hz
    · exact h.bd z hz
    · rw [List.mem_singleton.mp hz]
      have := Int.emod_nonneg (-t * g) (show (97 : Int) ≠ 0 by decide)
      have := Int.emod_lt_of_pos (-t * g) (show (0 : Int) < 97 by decide)
      omega
  · rw [gd_app (by omega)]
    exact h.hd
  · rcases Nat.lt_or_eq_of_le hk with c | c
    · rw [rs_congr (g := gd row) fun j hj => gd_app (by omega)]
      exact h.kp k (by omega)
    · subst c
      have e1 : gd (row ++ [-t * g % 97]) (i + 1) = -t * g % 97 := by
        have := gd_last row (-t * g % 97)
        rwa [hl] at this
      have e2 : Ms.cv (sg ts) (gd (row ++ [-t * g % 97])) (i + 1) = t := by
        rw [ht]
        unfold Ms.cv
        exact Ms.sm_congr fun j hj => by rw [gd_app (by omega)]
      show (((i + 1 : Nat) : Int) * gd (row ++ [-t * g % 97]) (i + 1) + Ms.cv (sg ts) (gd (row ++ [-t * g % 97])) (i + 1)) % 97 = 0
      rw [e1, e2]
      have e3 : ((i + 1 : Nat) : Int) = 1 + (i : Int) := by omega
      rw [e3]
      obtain ⟨u, hu⟩ : ∃ u, (1 + (i : Int)) * g = 1 + 97 * u := ⟨(1 + (i : Int)) * g / 97, by omega⟩
      obtain ⟨v, hv⟩ : ∃ v, -t * g % 97 = -t * g + 97 * v := ⟨-(-t * g / 97), by omega⟩
      rw [hv]
      have e4 : (1 + (i : Int)) * (-t * g + 97 * v) + t = 97 * ((1 + (i : Int)) * v - t * u) := by
        have : (1 + (i : Int)) * (-t * g) = -t * ((1 + (i : Int)) * g) := by grind
        rw [Int.mul_add, this, hu]
        grind
      rw [e4]
      omega
def RowBy (ts row : List Int) : Prop := Rb ts ts.length row
end My
namespace My
open PySem PySem.Spec PyProof.Rows L2
theorem lc_G {K : PySem.W.Frag} {st a : Addr} {J : It} {n : Nat} {G : Hp → Prop} {Y : Nat → Hp → V → Hp → Prop} (w : Walk J n G Y) {te : TE} {g : TG} {vs : List Nat} {σ : L2.St} {H1 : Hp} {D : Addr} {Qd : Hp → Prop} (P : Nat → V → Hp → Prop) (hS : StAt K a st H1) (hz : n ≤ 10000) (hD : H1 D = none) (hG : ∀ H, Go K st H1 H → G H)
    (hP : ∀ i v H H', P i v H → (∀ b o, b ≠ D → b ≠ st → H b = some o → H' b = some o) → P i v H')
    (ht : ∀ i x H H', i < n → Go K st H1 H → (∃ acc, H D = some (.lst acc)) → Y i H x H' → ∀ Q : VK, (∀ v H3, Go K st H H3 → P i v H3 → Q v H3) → g x (wipe σ vs) H' fun σ2 H2 => wipe σ2 vs = wipe σ vs ∧ te σ2 H2 Q)
    (k : ∀ ws H', Go K st H1 H' → H' D = some (.lst ws) → ws.length = n → (∀ i v, ws[i]? = some v → P i v H') → Qd H') :
    ∃ W : Nat → Nat → Hp → Prop, (∃ m, W 0 m (upd H1 D (.lst []))) ∧ ∀ i m H, W i m H →
      (J.stop i H ∧ Qd H) ∨ (J.go i H ∧ ∃ Nx : Hp → Prop, (∀ H', Nx H' → ∃ m', m' < m ∧ W (i + 1) m' H') ∧ ∀ x H', J.yld i H x H' → g x (wipe σ vs) H' fun σ2 H2 => wipe σ2 vs = wipe σ vs ∧ tYes σ2 H2 fun b H3 =>
        if b = true then te σ2 H3 fun y H4 => ∃ acc, H4 D = some (.lst acc) ∧ acc.length < sizeLine ∧ Nx (upd H4 D (.lst (acc ++ [y]))) else Nx H3) := by
  have hne := hS.fresh hD
  refine lc_it w (fun i H' => ∃ ws, Go K st H1 H' ∧ H' D = some (.lst ws) ∧ ws.length = i ∧ ∀ j v, ws[j]? = some v → P j v H') ⟨[], Go.new hD, upd_same, rfl, (fun _ _ z => nomatch z)⟩ (fun i H _ ⟨_, p, _⟩ => hG H p) ?_ ?_
  · rintro i x H H' hi ⟨ws, gg, hd, hl, hp⟩ y
    refine ht i x H H' hi gg ⟨_, hd⟩ y _ fun v H3 g3 pv => ?_
    have hd3 := g3.keep _ _ hne hd
    refine ⟨_, hd3, Nat.lt_of_lt_of_le (by omega : ws.length < 10001) (by decide), ws ++ [v], (gg.trans g3).mut hS hD, upd_same, by rw [List.length_append, hl]; rfl, fun j u hj => ?_⟩
    have up : ∀ j u, P j u H3 → P j u (upd H3 D (.lst (ws ++ [v]))) := fun j u hu => hP j u H3 _ hu fun b o hb _ e => by rw [upd_ne hb]; exact e
    rcases Nat.lt_trichotomy j i with c | c | c
    · rw [List.getElem?_append_left (by omega)] at hj
      exact up j u (hP j u H H3 (hp j u hj) fun b o _ hs e => g3.keep b o hs e)
    · subst c
      rw [List.getElem?_append_right (by omega), hl, Nat.sub_self] at hj
      cases hj
      exact up j v pv
    · rw [List.getElem?_eq_none (by rw [List.length_append, hl]; exact c)] at hj
      cases hj
  · rintro H' ⟨ws, gg, hd, hl, hp⟩
    exact k ws H' gg hd hl hp
theorem pick_ints : ∀ ws : List V, (∀ (i : Nat) (v : V), ws[i]? = some v → ∃ z : Int, v = .int z) → ∃ ts : List Int, ws = ts.map V.int
  | [], _ => ⟨[], rfl⟩
  | v :: ws, h => by
    obtain ⟨z, rfl⟩ := h 0 v rfl
    obtain ⟨ts, rfl⟩ := pick_ints ws fun i u hu => h (i + 1) u hu
    exact ⟨z :: ts, rfl⟩
end My
namespace My
open PySem PySem.Spec PyProof.Rows L2
/-- a thing whose kind is known -/
inductive Known (H : Hp) : V → Prop where
  | non : Known H .non
  | bl (b : Bool) : Known H (.bl b)
  | int (i : Int) : Known H (.int i)
  | str (z : Str) : Known H (.str z)
  | lst {a : Addr} {xs : List V} (e : H a = some (.lst xs)) : Known H (.ref a)
  | tup {a : Addr} {xs : List V} (e : H a = some (.tup xs)) : Known H (.ref a)
  | dK {a : Addr} {kvs : List (Key × V)} (e : H a = some (.dK kvs)) : Known H (.ref a)
theorem Known.same {H H' : Hp} {v : V} (s : Same H H') (h : Known H v) : Known H' v := by
  cases h with
  | non => exact .non
  | bl b => exact .bl b
  | int i => exact .int i
  | str z => exact .str z
  | lst e => exact .lst (s _ _ e)
  | tup e => exact .tup (s _ _ e)
  | dK e => exact .dK (s _ _ e)
/-- no tuple -/
inductive NoTup (H : Hp) : V → Prop where
  | non : NoTup H .non
  | bl (b : Bool) : NoTup H (.bl b)
  | int (i : Int) : NoTup H (.int i)
  | str (z : Str) : NoTup H (.str z)
  | lst {a : Addr} {xs : List V} (e : H a = some (.lst xs)) : NoTup H (.ref a)
  | dK {a : Addr} {kvs : List (Key × V)} (e : H a = some (.dK kvs)) : NoTup H (.ref a)
theorem NoTup.same {H H' : Hp} {v : V} (s : Same H H') (h : NoTup H v) : NoTup H' v := by
  cases h with
  | non => exact .non
  | bl b => exact .bl b
  | int i => exact .int i
  | str z => exact .str z
  | lst e => exact .lst (s _ _ e)
  | dK e => exact .dK (s _ _ e)
def wholeB : V → Bool
  | .int i => decide (0 ≤ i)
  | _ => false
def restB : V → Bool
  | .int i => decide (0 ≤ i) && decide (i < 97)
  | _ => false
/-- whether a thing is a letter -/
inductive LetK (H : Hp) : V → Bool → Prop where
  | other {v : V} (h : NoTup H v) : LetK H v false
  | len {a : Addr} {xs : List V} (h : H a = some (.tup xs)) (n : xs.length ≠ 4) : LetK H (.ref a) false
  | told {a : Addr} {t d c s : V} (h : H a = some (.tup [t, d, c, s])) (hs : NoTup H s) : LetK H (.ref a) false
  | many {a s : Addr} {t d c : V} {xs : List V} (h : H a = some (.tup [t, d, c, .ref s])) (hs : H s = some (.tup xs)) (n : 96 < xs.length) : LetK H (.ref a) false
  | four {a s : Addr} {t d c : V} {xs : List V} {b : Bool} (h : H a = some (.tup [t, d, c, .ref s])) (hs : H s = some (.tup xs)) (n : xs.length ≤ 96) (kt : Known H t) (kd : Known H d) (kc : Known H c) (kx : ∀ x ∈ xs, Known H x)
      (e : b = (wholeB t && (wholeB d && (c :: xs).all restB))) : LetK H (.ref a) b
theorem LetK.same {H H' : Hp} {v : V} {b : Bool} (s : Same H H') (h : LetK H v b) : LetK H' v b := by
  cases h with
  | other h => exact .other (h.same s)
  | len h n => exact .len (s _ _ h) n
  | told h hs => exact .told (s _ _ h) (hs.same s)
  | many h hs n => exact .many (s _ _ h) (s _ _ hs) n
  | four h hs n kt kd kc kx e => exact .four (s _ _ h) (s _ _ hs) n (kt.same s) (kd.same s) (kc.same s) (fun x hx => (kx x hx).same s) e
def sp_is_whole : Sp := fun vs H Q _ => ∃ v : V, vs = [v] ∧ Known H v ∧ Q (.bl (wholeB v)) H
def sp_is_rest : Sp := fun vs H Q _ => ∃ v : V, vs = [v] ∧ Known H v ∧ Q (.bl (restB v)) H
def sp_is_letter : Sp := fun vs H Q _ => ∃ (v : V) (b : Bool), vs = [v] ∧ LetK H v b ∧ ∀ H', Same H H' → Q (.bl b) H'
def sp_refuse_unless_letter (C : Addr) : Sp := fun vs H Q E => ∃ (v : V) (b : Bool), vs = [v] ∧ LetK H v b ∧ (b = false → ∀ H', Same H H' → E (.ref C) none H') ∧ (b = true → ∀ H', Same H H' → Q .non H')
def sp_written (C : Addr) : Sp := fun vs H Q E => ∃ (v : V), vs = [v] ∧ LetK H v false ∧ ∀ H', Same H H' → E (.ref C) none H'
end My
namespace My
open PySem PySem.Spec PyProof.Rows L2
theorem takeV {K : PySem.W.Frag} {H : Hp} {a : Addr} {xs : List V} {j : Nat} {Q : VK} (hS : H a = some (.tup xs)) (hj : j ≤ xs.length) (k : ∀ (w : Addr) (H' : Hp), Same H H' → H' w = some (.tup (xs.take j)) → Q (.ref w) H') : rSlA K (.ref a) none (some (j : Int)) H Q := by
  have e0 : HT.sIx xs.length 0 none = 0 := rfl
  have e1 : HT.sIx xs.length xs.length (some (j : Int)) = j := by
    rw [HT.sIx_nat]
    omega
  refine ⟨a, _, rfl, SqT.of hS, fun c => ?_, fun c p hp => k p _ (same_upd hp) ?_⟩
  · refine k a H (Same.refl _) ?_
    have c2 := c.2
    rw [e1] at c2
    rw [hS, List.take_of_length_le (by omega)]
  · rw [upd_same]
    unfold cutV
    rw [e0, e1, List.drop_zero, Nat.sub_zero]
theorem dropV {K : PySem.W.Frag} {H : Hp} {a : Addr} {xs : List V} {j : Nat} {Q : VK} (hS : H a = some (.tup xs)) (hj : j ≤ xs.length) (k : ∀ (w : Addr) (H' : Hp), Same H H' → H' w = some (.tup (xs.drop j)) → Q (.ref w) H') : rSlA K (.ref a) (some (j : Int)) none H Q := by
  have ej : HT.sIx xs.length 0 (some (j : Int)) = j := by
    rw [HT.sIx_nat]
    omega
  have e1 : HT.sIx xs.length xs.length none = xs.length := rfl
  refine ⟨a, _, rfl, SqT.of hS, fun c => ?_, fun c p hp => k p _ (same_upd hp) ?_⟩
  · refine k a H (Same.refl _) ?_
    have c1 := c.1
    rw [ej] at c1
    rw [hS, c1, List.drop_zero]
  · rw [upd_same]
    unfold cutV
    rw [ej, e1, List.take_of_length_le (by rw [List.length_drop]; exact Nat.le_refl _)]
theorem catV {K : PySem.W.Frag} {H : Hp} {z t : Addr} {xs ys : List V} {Q : VK} (hz : H z = some (.tup xs)) (ht : H t = some (.tup ys)) (hl : xs.length + ys.length ≤ 1000)
    (k : ∀ (w : Addr) (H' : Hp), Same H H' → H' w = some (.tup (xs ++ ys)) → Q (.ref w) H') : rCatA K (.ref z) (.ref t) H Q := by
  refine ⟨z, t, xs, ys, rfl, rfl, SqT.of hz, SqT.of ht, Nat.le_trans hl (by decide), fun e => ?_, fun _ e => ?_, fun _ _ p hp => k p _ (same_upd hp) upd_same⟩
  · refine k t H (Same.refl _) ?_
    rw [ht, e, List.nil_append]
  · refine k z H (Same.refl _) ?_
    rw [hz, e, List.append_nil]
def sp__law_letter (K : PySem.W.Frag) : Sp := fun vs H Q _ => ∃ (a st : Addr), vs = [.ref st] ∧ StAt K a st H ∧ ∀ (r s : Addr) (t d c : Int) (xs : List Int) H', Go K st H H' → H' r = some (.tup [.int t, .int d, .int c, .ref s]) → H' s = some (.tup (xs.map V.int)) →
  xs.length ≤ 96 → 0 ≤ t → 0 ≤ d → 0 ≤ c → c < 97 → (∀ z ∈ xs, 0 ≤ z ∧ z < 97) → Q (.ref r) H'
def sp__law_odd_number (K : PySem.W.Frag) : Sp := fun vs H Q _ => ∃ (a st : Addr) (most : V), vs = [.ref st, most] ∧ StAt K a st H ∧ (most = .non ∨ most = .int 96) ∧ ∀ (v : V) H', Go K st H H' → Known H' v → (most = .non → wholeB v = false) → (most = .int 96 → restB v = false) → Q v H'
def sp__law_odd (K : PySem.W.Frag) : Sp := fun vs H Q _ => ∃ (a st r s : Addr) (t d c : Int) (xs : List Int), vs = [.ref st, .ref r] ∧ StAt K a st H ∧ H r = some (.tup [.int t, .int d, .int c, .ref s]) ∧ H s = some (.tup (xs.map V.int)) ∧
  xs.length ≤ 96 ∧ ∀ (v : V) H', Go K st H H' → LetK H' v false → Q v H'
def sp__law_refused : Sp := fun vs H Q _ => ∃ (v : V), vs = [v] ∧ LetK H v false ∧ ∀ H', Same H H' → Q (.bl true) H'
def sp_law (K : PySem.W.Frag) : Sp := fun vs H Q _ => ∃ (a : Addr) (ns : List Int), vs = [.ref a] ∧ SqL K H a (ns.map V.int) ∧ ns.length ≤ 63 ∧ ∀ H', Q (.bl true) H'
end My
namespace My
open PySem PySem.Spec PyProof.Rows L2
/-! ### the text -/
def topS (i : Nat) : Stmt := PySem.Challenge.pw_setmend_k30_what_is_a_letter.main.body.getD i (.Pass ⟨0, 0, 0, 0⟩)
abbrev s_is_whole : Stmt := topS 16
theorem sc_is_whole : FnScope ["thing"] ["thing"] (defScope s_is_whole) := ⟨rfl, rfl, rfl, by decide +kernel, rfl, by decide +kernel, by decide +kernel⟩
abbrev s_is_rest : Stmt := topS 17
theorem sc_is_rest : FnScope ["thing"] ["thing"] (defScope s_is_rest) := ⟨rfl, rfl, rfl, by decide +kernel, rfl, by decide +kernel, by decide +kernel⟩
abbrev s_is_letter : Stmt := topS 18
theorem sc_is_letter : FnScope ["thing", "turn", "deeds", "count", "told", "number"] ["thing"] (defScope s_is_letter) := ⟨rfl, rfl, rfl, by decide +kernel, rfl, by decide +kernel, by decide +kernel⟩
abbrev s_refuse_unless_letter : Stmt := topS 19
theorem sc_refuse_unless_letter : FnScope ["thing"] ["thing"] (defScope s_refuse_unless_letter) := ⟨rfl, rfl, rfl, by decide +kernel, rfl, by decide +kernel, by decide +kernel⟩
abbrev s_written : Stmt := topS 20
theorem sc_written : FnScope ["letter", "turn", "deeds", "count", "told", "number"] ["letter"] (defScope s_written) := ⟨rfl, rfl, rfl, by decide +kernel, rfl, by decide +kernel, by decide +kernel⟩
abbrev s__law_start : Stmt := topS 22
theorem sc__law_start : FnScope ["_law_script", "_law_mixed", "_law_cell"] ["_law_script"] (defScope s__law_start) := ⟨rfl, rfl, rfl, by decide +kernel, rfl, by decide +kernel, by decide +kernel⟩
abbrev s__law_drawn : Stmt := topS 23
theorem sc__law_drawn : FnScope ["_law_state", "_law_many", "_law_found", "_law_cell"] ["_law_state", "_law_many"] (defScope s__law_drawn) := ⟨rfl, rfl, rfl, by decide +kernel, rfl, by decide +kernel, by decide +kernel⟩
abbrev s__law_letter : Stmt := topS 24
theorem sc__law_letter : FnScope ["_law_state", "_law_some", "_law_many", "_law_told", "_law_k"] ["_law_state"] (defScope s__law_letter) := ⟨rfl, rfl, rfl, by decide +kernel, rfl, by decide +kernel, by decide +kernel⟩
abbrev s__law_odd_number : Stmt := topS 26
theorem sc__law_odd_number : FnScope ["_law_state", "_law_most", "_law_far", "_law_high"] ["_law_state", "_law_most"] (defScope s__law_odd_number) := ⟨rfl, rfl, rfl, by decide +kernel, rfl, by decide +kernel, by decide +kernel⟩
abbrev s__law_odd : Stmt := topS 27
theorem sc__law_odd : FnScope ["_law_state", "_law_letter_here", "_law_way", "_law_turn", "_law_deeds", "_law_count", "_law_told", "_law_at"] ["_law_state", "_law_letter_here"] (defScope s__law_odd) := ⟨rfl, rfl, rfl, by decide +kernel, rfl, by decide +kernel, by decide +kernel⟩
abbrev s__law_refused : Stmt := topS 28
theorem sc__law_refused : FnScope ["_law_thing", "e", "_law_other"] ["_law_thing"] (defScope s__law_refused) := ⟨rfl, rfl, rfl, by decide +kernel, rfl, by decide +kernel, by decide +kernel⟩
abbrev s_law : Stmt := topS 29
theorem sc_law : FnScope ["_law_script", "_law_state", "_law_turn", "_law_letter_here", "_law_odd_here"] ["_law_script"] (defScope s_law) := ⟨rfl, rfl, rfl, by decide +kernel, rfl, by decide +kernel, by decide +kernel⟩
structure Ad where
  f_is_whole : Addr
  d_is_whole : FuncData
  f_is_rest : Addr
  d_is_rest : FuncData
  f_is_letter : Addr
  d_is_letter : FuncData
  f_refuse_unless_letter : Addr
  d_refuse_unless_letter : FuncData
  f_written : Addr
  d_written : FuncData
  f__law_start : Addr
  d__law_start : FuncData
  f__law_drawn : Addr
  d__law_drawn : FuncData
  f__law_letter : Addr
  d__law_letter : FuncData
  f__law_odd_number : Addr
  d__law_odd_number : FuncData
  f__law_odd : Addr
  d__law_odd : FuncData
  f__law_refused : Addr
  d__law_refused : FuncData
  f_law : Addr
  d_law : FuncData
  e_MendError : Addr
  e_NoSet : Addr
  e_NoMark : Addr
  e_NoInverse : Addr
  e_NoCount : Addr
  e_NoHand : Addr
  e_NoLetter : Addr
  e_NoText : Addr
  e_Held : Addr
  e_NotHeld : Addr
  e_Unlike : Addr
  e_Late : Addr
  t_WHEEL : Nat
  t_MOST_SUMS : Nat
structure Txt (K : PySem.W.Frag) (mg : Str → Option Value) (A : Ad) : Prop where
  F_is_whole : Fun K "is_whole" "is_whole" s_is_whole A.f_is_whole A.d_is_whole
  k_is_whole : PySem.W.keepIn K (.ref A.f_is_whole) = true
  g_is_whole : mg "is_whole" = some (.ref A.f_is_whole)
  b_is_whole : Binds K A.d_is_whole ["thing"] []
  F_is_rest : Fun K "is_rest" "is_rest" s_is_rest A.f_is_rest A.d_is_rest
  k_is_rest : PySem.W.keepIn K (.ref A.f_is_rest) = true
  g_is_rest : mg "is_rest" = some (.ref A.f_is_rest)
  b_is_rest : Binds K A.d_is_rest ["thing"] []
  F_is_letter : Fun K "is_letter" "is_letter" s_is_letter A.f_is_letter A.d_is_letter
  k_is_letter : PySem.W.keepIn K (.ref A.f_is_letter) = true
  g_is_letter : mg "is_letter" = some (.ref A.f_is_letter)
  b_is_letter : Binds K A.d_is_letter ["thing"] []
  F_refuse_unless_letter : Fun K "refuse_unless_letter" "refuse_unless_letter" s_refuse_unless_letter A.f_refuse_unless_letter A.d_refuse_unless_letter
  k_refuse_unless_letter : PySem.W.keepIn K (.ref A.f_refuse_unless_letter) = true
  g_refuse_unless_letter : mg "refuse_unless_letter" = some (.ref A.f_refuse_unless_letter)
  b_refuse_unless_letter : Binds K A.d_refuse_unless_letter ["thing"] []
  F_written : Fun K "written" "written" s_written A.f_written A.d_written
  k_written : PySem.W.keepIn K (.ref A.f_written) = true
  g_written : mg "written" = some (.ref A.f_written)
  b_written : Binds K A.d_written ["letter"] []
  F__law_start : Fun K "_law_start" "_law_start" s__law_start A.f__law_start A.d__law_start
  k__law_start : PySem.W.keepIn K (.ref A.f__law_start) = true
  g__law_start : mg "_law_start" = some (.ref A.f__law_start)
  b__law_start : Binds K A.d__law_start ["_law_script"] []
  F__law_drawn : Fun K "_law_drawn" "_law_drawn" s__law_drawn A.f__law_drawn A.d__law_drawn
  k__law_drawn : PySem.W.keepIn K (.ref A.f__law_drawn) = true
  g__law_drawn : mg "_law_drawn" = some (.ref A.f__law_drawn)
  b__law_drawn : Binds K A.d__law_drawn ["_law_state", "_law_many"] []
  F__law_letter : Fun K "_law_letter" "_law_letter" s__law_letter A.f__law_letter A.d__law_letter
  k__law_letter : PySem.W.keepIn K (.ref A.f__law_letter) = true
  g__law_letter : mg "_law_letter" = some (.ref A.f__law_letter)
  b__law_letter : Binds K A.d__law_letter ["_law_state"] []
  F__law_odd_number : Fun K "_law_odd_number" "_law_odd_number" s__law_odd_number A.f__law_odd_number A.d__law_odd_number
  k__law_odd_number : PySem.W.keepIn K (.ref A.f__law_odd_number) = true
  g__law_odd_number : mg "_law_odd_number" = some (.ref A.f__law_odd_number)
  b__law_odd_number : Binds K A.d__law_odd_number ["_law_state", "_law_most"] []
  F__law_odd : Fun K "_law_odd" "_law_odd" s__law_odd A.f__law_odd A.d__law_odd
  k__law_odd : PySem.W.keepIn K (.ref A.f__law_odd) = true
  g__law_odd : mg "_law_odd" = some (.ref A.f__law_odd)
  b__law_odd : Binds K A.d__law_odd ["_law_state", "_law_letter_here"] []
  F__law_refused : Fun K "_law_refused" "_law_refused" s__law_refused A.f__law_refused A.d__law_refused
  k__law_refused : PySem.W.keepIn K (.ref A.f__law_refused) = true
  g__law_refused : mg "_law_refused" = some (.ref A.f__law_refused)
  b__law_refused : Binds K A.d__law_refused ["_law_thing"] []
  F_law : Fun K "law" "law" s_law A.f_law A.d_law
  k_law : PySem.W.keepIn K (.ref A.f_law) = true
  g_law : mg "law" = some (.ref A.f_law)
  b_law : Binds K A.d_law ["_law_script"] []
  c_WHEEL : mg "WHEEL" = some (.int 97 A.t_WHEEL)
  c_MOST_SUMS : mg "MOST_SUMS" = some (.int 96 A.t_MOST_SUMS)
  z_ValueError : mg "ValueError" = none
  z_all : mg "all" = none
  z_bool : mg "bool" = none
  z_int : mg "int" = none
  z_isinstance : mg "isinstance" = none
  z_len : mg "len" = none
  z_list : mg "list" = none
  z_range : mg "range" = none
  z_tuple : mg "tuple" = none
  g_MendError : mg "MendError" = some (.ref A.e_MendError)
  g_NoSet : mg "NoSet" = some (.ref A.e_NoSet)
  g_NoMark : mg "NoMark" = some (.ref A.e_NoMark)
  g_NoInverse : mg "NoInverse" = some (.ref A.e_NoInverse)
  g_NoCount : mg "NoCount" = some (.ref A.e_NoCount)
  g_NoHand : mg "NoHand" = some (.ref A.e_NoHand)
  g_NoLetter : mg "NoLetter" = some (.ref A.e_NoLetter)
  g_NoText : mg "NoText" = some (.ref A.e_NoText)
  g_Held : mg "Held" = some (.ref A.e_Held)
  g_NotHeld : mg "NotHeld" = some (.ref A.e_NotHeld)
  g_Unlike : mg "Unlike" = some (.ref A.e_Unlike)
  g_Late : mg "Late" = some (.ref A.e_Late)
  x_NoLetter : PySem.W.excIn K A.e_NoLetter [.type "ValueError", .type "Exception", .type "BaseException", .type "object"] "ValueError.__new__" = true
  k_NoLetter : PySem.W.keepIn K (.ref A.e_NoLetter) = true
  bb_NoLetter : PySem.W.subIn K (.ref A.e_NoLetter) (.type "BaseException") = some true
  tt_NoLetter : PySem.W.typeIn K (.ref A.e_NoLetter) = some (.type "type")
  kv : PySem.W.kitOne K (.ref A.e_NoLetter) (.type "ValueError") = some true
  ko : PySem.W.kitOne K (.ref A.e_NoLetter) (.ref A.e_NoLetter) = some true
  kt : PySem.W.kitAny K (.ref A.e_NoLetter) [.ref A.e_Held, .ref A.e_Late, .ref A.e_NoCount, .ref A.e_NoHand, .ref A.e_NoInverse, .ref A.e_NoMark, .ref A.e_NoSet, .ref A.e_NoText, .ref A.e_NotHeld, .ref A.e_Unlike] = some false
  q1_NoLetter : PySem.W.findIn K (.ref A.e_NoLetter) "__getattribute__" = some (some (.builtin "BaseException.__getattribute__"))
  q2_NoLetter : PySem.W.findIn K (.ref A.e_NoLetter) "__getattr__" = some none
  q3_NoLetter : PySem.W.subIn K (.ref A.e_NoLetter) (.type "BaseException") = some true
  q4_NoLetter : PySem.W.hasDictIn K A.e_NoLetter = true
  q5_NoLetter : PySem.W.findIn K (.ref A.e_NoLetter) "__class__" = some (some (.builtin "object.__class__"))
  q6_NoLetter : PySem.W.specialIn K (.builtin "object.__class__") "__get__" = some (some (.builtin "getset_descriptor.__get__"))
  q7_NoLetter : PySem.W.takesIn K (.builtin "object.__class__") = some true
  q8_NoLetter : PySem.W.mroIn K A.e_NoLetter (.type "object") = some true
  s_NoLetter_MendError : PySem.W.subIn K (.ref A.e_NoLetter) (.ref A.e_MendError) = some true
  h1_MendError : PySem.W.subIn K (.ref A.e_MendError) (.type "BaseException") = some true
  h2_MendError : PySem.W.hasDictIn K A.e_MendError = true
  h3_MendError : PySem.W.typeIn K (.ref A.e_MendError) = some (.type "type")
theorem Txt.ec_NoLetter {K : PySem.W.Frag} {mg : Str → Option Value} {A : Ad} (T : Txt K mg A) : ExcC K A.e_NoLetter := ⟨T.q1_NoLetter, T.q2_NoLetter, T.q3_NoLetter, T.q4_NoLetter, T.q5_NoLetter, T.q6_NoLetter, T.q7_NoLetter, T.q8_NoLetter⟩
theorem Txt.ex_NoLetter_MendError {K : PySem.W.Frag} {mg : Str → Option Value} {A : Ad} (T : Txt K mg A) : PySem.W.exmOne K (.ref A.e_NoLetter) (.ref A.e_MendError) = some true := PySem.W.exm_ref T.h1_MendError T.h2_MendError T.h3_MendError T.s_NoLetter_MendError
section
variable {P : Program} {w : World} {K : PySem.W.Frag} {mg : Str → Option Value} {base : Heap} {A : Ad}
/-! ### is_whole: slots 0 thing -/

theorem ok_is_whole (T : Txt K mg A) : FnOk P w K mg base CX0 1 A.f_is_whole A.d_is_whole ["thing"] (sp_is_whole ) := by
  refine T.F_is_whole.ok sc_is_whole (fun vs H Q E h => by first | (obtain ⟨_, rfl, _⟩ := h; rfl) | (obtain ⟨_, _, rfl, _⟩ := h; rfl) | (obtain ⟨_, _, _, rfl, _⟩ := h; rfl) | (obtain ⟨_, _, _, _, rfl, _⟩ := h; rfl) | (obtain ⟨_, _, _, _, _, rfl, _⟩ := h; rfl) | (obtain ⟨_, _, _, _, _, _, rfl, _⟩ := h; rfl) | (obtain ⟨_, _, _, _, _, _, _, rfl, _⟩ := h; rfl) | (obtain ⟨_, _, _, _, _, _, _, _, rfl, _⟩ := h; rfl) | (obtain ⟨_, _, _, _, _, _, _, _, _, rfl, _⟩ := h; rfl)) (fun cdv AA outer s H vs Q E hr h => ?_)
  refine ⟨_, (pss_one (ps_ret (pe_and (pe_callB call_isi (by rfl) T.z_isinstance (show bootBuiltins "isinstance" = some (.builtin "isinstance") by decide +kernel) (pa_cons (pv 0) (pa_cons (pe_bltn (v := .ty "int") (by rfl) T.z_int (by decide +kernel) rfl) pa_nil))) (pe_and (pe_not (pe_callB call_isi (by rfl) T.z_isinstance (show bootBuiltins "isinstance" = some (.builtin "isinstance") by decide +kernel) (pa_cons (pv 0) (pa_cons (pe_bltn (v := .ty "bool") (by rfl) T.z_bool (by decide +kernel) rfl) pa_nil)))) (pe_one (pe_cmpR op_ge (pv 0) pe_int (nomark _))))))), ?_⟩
  obtain ⟨v, rfl, hk, q⟩ := h
  cases hk with
  | non => exact ⟨_, rfl, _, _, _, _, false, rfl, .ty "int", .base .non, kit_ty (by decide +kernel), _, rfl, iteF q⟩
  | str z => exact ⟨_, rfl, _, _, _, _, false, rfl, .ty "int", .base (.str _), kit_ty (by decide +kernel), _, rfl, iteF q⟩
  | lst e => exact ⟨_, rfl, _, _, _, _, false, rfl, .ty "int", .base (.lst e), kit_ty (by decide +kernel), _, rfl, iteF q⟩
  | tup e => exact ⟨_, rfl, _, _, _, _, false, rfl, .ty "int", .base (.tup e), kit_ty (by decide +kernel), _, rfl, iteF q⟩
  | dK e => exact ⟨_, rfl, _, _, _, _, false, rfl, .ty "int", .base (.dK e), kit_ty (by decide +kernel), _, rfl, iteF q⟩
  | bl b =>
    refine ⟨_, rfl, _, _, _, _, true, rfl, .ty "int", .base (.bl _), kit_ty (by decide +kernel), _, rfl, iteT ?_⟩
    refine ⟨_, rfl, _, _, _, _, true, rfl, .ty "bool", .base (.bl _), kit_ty (by decide +kernel), _, rfl, ?_⟩
    exact ⟨_, rfl, iteF q⟩
  | int i =>
    refine ⟨_, rfl, _, _, _, _, true, rfl, .ty "int", .base (.int _), kit_ty (by decide +kernel), _, rfl, iteT ?_⟩
    refine ⟨_, rfl, _, _, _, _, false, rfl, .ty "bool", .base (.int _), kit_ty (by decide +kernel), _, rfl, ?_⟩
    exact ⟨_, rfl, iteT ⟨_, rfl, _, _, rfl, rfl, q⟩⟩
/-! ### is_rest: slots 0 thing -/

theorem ok_is_rest (T : Txt K mg A) : FnOk P w K mg base CX0 2 A.f_is_rest A.d_is_rest ["thing"] (sp_is_rest ) := by
  refine T.F_is_rest.ok sc_is_rest (fun vs H Q E h => by first | (obtain ⟨_, rfl, _⟩ := h; rfl) | (obtain ⟨_, _, rfl, _⟩ := h; rfl) | (obtain ⟨_, _, _, rfl, _⟩ := h; rfl) | (obtain ⟨_, _, _, _, rfl, _⟩ := h; rfl) | (obtain ⟨_, _, _, _, _, rfl, _⟩ := h; rfl) | (obtain ⟨_, _, _, _, _, _, rfl, _⟩ := h; rfl) | (obtain ⟨_, _, _, _, _, _, _, rfl, _⟩ := h; rfl) | (obtain ⟨_, _, _, _, _, _, _, _, rfl, _⟩ := h; rfl) | (obtain ⟨_, _, _, _, _, _, _, _, _, rfl, _⟩ := h; rfl)) (fun cdv AA outer s H vs Q E hr h => ?_)
  refine ⟨_, (pss_one (ps_ret (pe_and (pe_call (ok_is_whole T) (hr.mono (by decide)) (by rfl) T.g_is_whole T.k_is_whole T.b_is_whole .nil pass0 (pa_cons (pv 0) pa_nil)) (pe_one (pe_cmpR op_lt (pv 0) (pe_glob (v := .int 97) rfl T.c_WHEEL ⟨_, rfl⟩) (nomark _)))))), ?_⟩
  obtain ⟨v, rfl, hk, q⟩ := h
  refine ⟨_, rfl, v, rfl, hk, _, rfl, ?_⟩
  cases hk with
  | int i =>
    by_cases c : 0 ≤ i
    · have e : wholeB (.int i) = true := decide_eq_true c
      rw [e]
      have e2 : restB (.int i) = decide (i < 97) := by
        show (decide (0 ≤ i) && decide (i < 97)) = _
        rw [decide_eq_true c, Bool.true_and]
      rw [e2] at q
      exact iteT ⟨_, rfl, _, _, rfl, rfl, q⟩
    · have e : wholeB (.int i) = false := decide_eq_false c
      rw [e]
      have e2 : restB (.int i) = false := by
        show (decide (0 ≤ i) && decide (i < 97)) = _
        rw [decide_eq_false c, Bool.false_and]
      rw [e2] at q
      exact iteF q
  | non => exact iteF q
  | bl b => exact iteF q
  | str z => exact iteF q
  | lst e => exact iteF q
  | tup e => exact iteF q
  | dK e => exact iteF q
/-! ### is_letter: slots 0 thing, 1 turn, 2 deeds, 3 count, 4 told, 5 number -/

theorem ok_is_letter (T : Txt K mg A) : FnOk P w K mg base CX0 3 A.f_is_letter A.d_is_letter ["thing"] (sp_is_letter ) := by
  refine T.F_is_letter.ok sc_is_letter (fun vs H Q E h => by first | (obtain ⟨_, rfl, _⟩ := h; rfl) | (obtain ⟨_, _, rfl, _⟩ := h; rfl) | (obtain ⟨_, _, _, rfl, _⟩ := h; rfl) | (obtain ⟨_, _, _, _, rfl, _⟩ := h; rfl) | (obtain ⟨_, _, _, _, _, rfl, _⟩ := h; rfl) | (obtain ⟨_, _, _, _, _, _, rfl, _⟩ := h; rfl) | (obtain ⟨_, _, _, _, _, _, _, rfl, _⟩ := h; rfl) | (obtain ⟨_, _, _, _, _, _, _, _, rfl, _⟩ := h; rfl) | (obtain ⟨_, _, _, _, _, _, _, _, _, rfl, _⟩ := h; rfl)) (fun cdv AA outer s H vs Q E hr h => ?_)
  refine ⟨_, (pss_cons (ps_if (PW.pt (pw_or (pt_not (pt_val (pe_callB call_isi (by rfl) T.z_isinstance (show bootBuiltins "isinstance" = some (.builtin "isinstance") by decide +kernel) (pa_cons (pv 0) (pa_cons (pe_bltn (v := .ty "tuple") (by rfl) T.z_tuple (by decide +kernel) rfl) pa_nil))))) (pw_or1 (pt_cmpR op_ne (pe_callB call_len_seq (by rfl) T.z_len PySem.boot_len (pa_cons (pv 0) pa_nil)) pe_int (nomark _))))) (pss_one (ps_ret pe_bl)) pss_nil)
      (pss_cons (ps_asg (pv 0) (pg_tup rfl (pgs_cons (pg_name (i := 1) sc_is_letter.nd rfl (.inl rfl)) (pgs_cons (pg_name (i := 2) sc_is_letter.nd rfl (.inl rfl)) (pgs_cons (pg_name (i := 3) sc_is_letter.nd rfl (.inl rfl)) (pgs_cons (pg_name (i := 4) sc_is_letter.nd rfl (.inl rfl)) pgs_nil))))))
      (pss_cons (ps_if (PW.pt (pw_or (pt_not (pt_val (pe_callB call_isi (by rfl) T.z_isinstance (show bootBuiltins "isinstance" = some (.builtin "isinstance") by decide +kernel) (pa_cons (pv 4) (pa_cons (pe_bltn (v := .ty "tuple") (by rfl) T.z_tuple (by decide +kernel) rfl) pa_nil))))) (pw_or1 (pt_cmpR op_gt (pe_callB call_len_seq (by rfl) T.z_len PySem.boot_len (pa_cons (pv 4) pa_nil)) (pe_glob (v := .int 96) rfl T.c_MOST_SUMS ⟨_, rfl⟩) (nomark _))))) (pss_one (ps_ret pe_bl)) pss_nil)
      (pss_one (ps_ret (pe_and (pe_call (ok_is_whole T) (hr.mono (by decide)) (by rfl) T.g_is_whole T.k_is_whole T.b_is_whole .nil pass0 (pa_cons (pv 1) pa_nil)) (pe_and (pe_call (ok_is_whole T) (hr.mono (by decide)) (by rfl) T.g_is_whole T.k_is_whole T.b_is_whole .nil pass0 (pa_cons (pv 2) pa_nil)) (pe_one (pe_callB (cr_all rfl) (by rfl) T.z_all (by decide +kernel) (pa_cons (pe_lc (own := [("number", 5)]) (g := gName 5)  rfl sc_is_letter.nd (pi_list (pe_lst (pa_cons (pv 3) (StX.pa_star (pv 4) pa_nil)))) (blkOk_by (own := [("number", 5)]) (N := ["thing", "turn", "deeds", "count", "told", "number"]) (sc := defScope s_is_letter) (by decide +kernel)) (fun _ _ _ _ _ => pg_name (i := 5) sc_is_letter.nd rfl (Or.inl rfl)) (fun _ _ _ _ _ => pts_nil) (fun _ _ _ _ _ => (pe_call (ok_is_rest T) (hr.mono (by decide)) (by rfl) T.g_is_rest T.k_is_rest T.b_is_rest .nil pass0 (pa_cons (pv 5) pa_nil)))) pa_nil)))))))))), ?_⟩
  obtain ⟨v, b, rfl, hk, q⟩ := h
  cases hk with
  | other hn =>
    cases hn with
    | non => exact ⟨_, rfl, _, _, _, _, false, rfl, .ty "tuple", .base .non, kit_ty (by decide +kernel), _, rfl, iteT (q _ (Same.refl _))⟩
    | bl b => exact ⟨_, rfl, _, _, _, _, false, rfl, .ty "tuple", .base (.bl _), kit_ty (by decide +kernel), _, rfl, iteT (q _ (Same.refl _))⟩
    | int i => exact ⟨_, rfl, _, _, _, _, false, rfl, .ty "tuple", .base (.int _), kit_ty (by decide +kernel), _, rfl, iteT (q _ (Same.refl _))⟩
    | str z => exact ⟨_, rfl, _, _, _, _, false, rfl, .ty "tuple", .base (.str _), kit_ty (by decide +kernel), _, rfl, iteT (q _ (Same.refl _))⟩
    | lst e => exact ⟨_, rfl, _, _, _, _, false, rfl, .ty "tuple", .base (.lst e), kit_ty (by decide +kernel), _, rfl, iteT (q _ (Same.refl _))⟩
    | dK e => exact ⟨_, rfl, _, _, _, _, false, rfl, .ty "tuple", .base (.dK e), kit_ty (by decide +kernel), _, rfl, iteT (q _ (Same.refl _))⟩
  | len h n =>
    refine ⟨_, rfl, _, _, _, _, true, rfl, .ty "tuple", .base (.tup h), kit_ty (by decide +kernel), _, rfl, iteF ?_⟩
    refine ⟨_, rfl, _, _, rfl, .inr (SqT.of h), rfl, _, rfl, ite2 (fun _ => q _ (Same.refl _)) (fun c => ?_)⟩
    refine absurd ?_ c
    rw [Bool.not_eq_true', decide_eq_false_iff_not]
    intro z
    have := V.int.inj z
    omega
  | told h hs =>
    refine ⟨_, rfl, _, _, _, _, true, rfl, .ty "tuple", .base (.tup h), kit_ty (by decide +kernel), _, rfl, iteF ?_⟩
    refine ⟨_, rfl, _, _, rfl, .inr (SqT.of h), rfl, _, rfl, iteNS rfl ?_⟩
    refine ⟨_, rfl, _, _, rfl, SqT.of h, rfl, _, _, rfl, _, _, rfl, _, _, rfl, _, _, rfl, rfl, ?_⟩
    cases hs with
    | non => exact ⟨_, rfl, _, _, _, _, false, rfl, .ty "tuple", .base .non, kit_ty (by decide +kernel), _, rfl, iteT (q _ (Same.refl _))⟩
    | bl b => exact ⟨_, rfl, _, _, _, _, false, rfl, .ty "tuple", .base (.bl _), kit_ty (by decide +kernel), _, rfl, iteT (q _ (Same.refl _))⟩
    | int i => exact ⟨_, rfl, _, _, _, _, false, rfl, .ty "tuple", .base (.int _), kit_ty (by decide +kernel), _, rfl, iteT (q _ (Same.refl _))⟩
    | str z => exact ⟨_, rfl, _, _, _, _, false, rfl, .ty "tuple", .base (.str _), kit_ty (by decide +kernel), _, rfl, iteT (q _ (Same.refl _))⟩
    | lst e => exact ⟨_, rfl, _, _, _, _, false, rfl, .ty "tuple", .base (.lst e), kit_ty (by decide +kernel), _, rfl, iteT (q _ (Same.refl _))⟩
    | dK e => exact ⟨_, rfl, _, _, _, _, false, rfl, .ty "tuple", .base (.dK e), kit_ty (by decide +kernel), _, rfl, iteT (q _ (Same.refl _))⟩
  | many h hs n =>
    refine ⟨_, rfl, _, _, _, _, true, rfl, .ty "tuple", .base (.tup h), kit_ty (by decide +kernel), _, rfl, iteF ?_⟩
    refine ⟨_, rfl, _, _, rfl, .inr (SqT.of h), rfl, _, rfl, iteNS rfl ?_⟩
    refine ⟨_, rfl, _, _, rfl, SqT.of h, rfl, _, _, rfl, _, _, rfl, _, _, rfl, _, _, rfl, rfl, ?_⟩
    refine ⟨_, rfl, _, _, _, _, true, rfl, .ty "tuple", .base (.tup hs), kit_ty (by decide +kernel), _, rfl, iteF ?_⟩
    refine ⟨_, rfl, _, _, rfl, .inr (SqT.of hs), _, _, rfl, rfl, _, rfl, ite2 (fun _ => q _ (Same.refl _)) (fun c => absurd (decide_eq_true (by omega)) c)⟩
  | @four a s t d c xs b h hs n kt kd kc kx e =>
    refine ⟨_, rfl, _, _, _, _, true, rfl, .ty "tuple", .base (.tup h), kit_ty (by decide +kernel), _, rfl, iteF ?_⟩
    refine ⟨_, rfl, _, _, rfl, .inr (SqT.of h), rfl, _, rfl, iteNS rfl ?_⟩
    refine ⟨_, rfl, _, _, rfl, SqT.of h, rfl, _, _, rfl, _, _, rfl, _, _, rfl, _, _, rfl, rfl, ?_⟩
    refine ⟨_, rfl, _, _, _, _, true, rfl, .ty "tuple", .base (.tup hs), kit_ty (by decide +kernel), _, rfl, iteF ?_⟩
    refine ⟨_, rfl, _, _, rfl, .inr (SqT.of hs), _, _, rfl, rfl, _, rfl, ite2 (fun c => absurd (of_decide_eq_true c) (by omega)) (fun _ => ?_)⟩
    refine ⟨_, rfl, t, rfl, kt, _, rfl, ?_⟩
    cases et : wholeB t with
    | false =>
      rw [et, Bool.false_and] at e
      rw [e] at q
      exact iteF (q _ (Same.refl _))
    | true =>
      rw [et, Bool.true_and] at e
      refine iteT ⟨_, rfl, d, rfl, kd, _, rfl, ?_⟩
      cases ed : wholeB d with
      | false =>
        rw [ed, Bool.false_and] at e
        rw [e] at q
        exact iteF (q _ (Same.refl _))
      | true =>
        rw [ed, Bool.true_and] at e
        refine iteT ⟨_, rfl, _, rfl, s, _, rfl, .inl (SqT.of hs), ?_, fun l hl => ?_⟩
        · rw [List.append_nil, List.length_cons]
          exact Nat.le_trans (by omega : _ ≤ 97) (by decide)
        have s1 := same_upd (o := .lst (c :: (xs ++ []))) hl
        have hl1 := upd_same (H := H) (a := l) (o := .lst (c :: (xs ++ [])))
        generalize upd H l (.lst (c :: (xs ++ []))) = H1 at s1 hl1
        rw [List.append_nil] at hl1
        refine ⟨l, rfl, ⟨_, SqL.of hl1⟩, fun D hD => lc_F (walk_list (K := K) (a := l) (xs := c :: xs)) (fun i => V.bl (restB ((c :: xs).getD i .non))) (by rw [List.length_cons]; omega) hD (fun _ s2 => SqL.of (s2 _ _ hl1)) ?_ fun H2 s2 hd => ?_⟩
        · rintro i v H3 H4 hi s3 ⟨rfl, hv⟩ Q' q'
          rw [List.getD_eq_getElem?_getD, hv] at q'
          have kv : Known H4 v := by
            rcases List.mem_cons.mp (List.mem_of_getElem? hv) with e2 | e2
            · rw [e2]
              exact kc.same (s1.trans s3)
            · exact (kx v e2).same (s1.trans s3)
          exact ⟨rfl, _, rfl, v, rfl, kv, q' _ (Same.refl _)⟩
        have eb : (List.range (c :: xs).length).map (fun i => V.bl (restB ((c :: xs).getD i .non))) = ((c :: xs).map restB).map V.bl := by
          refine List.ext_getElem? fun k => ?_
          rw [List.getElem?_map, List.getElem?_map, List.getElem?_map]
          by_cases ck : k < (c :: xs).length
          · rw [List.getElem?_range ck, List.getElem?_eq_getElem ck]
            show some (V.bl (restB ((c :: xs).getD k .non))) = _
            rw [List.getD_eq_getElem?_getD, List.getElem?_eq_getElem ck]
            rfl
          · rw [List.getElem?_eq_none (by rw [List.length_range]; omega), List.getElem?_eq_none (by omega)]
            rfl
        rw [eb] at hd
        refine ⟨D, _, rfl, SqL.of hd, ?_⟩
        have ea : ((c :: xs).map restB).all id = b := by
          rw [e, List.all_map]
          rfl
        rw [ea]
        exact q _ (s1.trans s2)
/-! ### refuse_unless_letter: slots 0 thing -/

theorem ok_refuse_unless_letter (T : Txt K mg A) : FnOk P w K mg base (L2.CX P w) 4 A.f_refuse_unless_letter A.d_refuse_unless_letter ["thing"] (sp_refuse_unless_letter A.e_NoLetter) := by
  refine T.F_refuse_unless_letter.okX sc_refuse_unless_letter (fun vs H Q E h => by first | (obtain ⟨_, rfl, _⟩ := h; rfl) | (obtain ⟨_, _, rfl, _⟩ := h; rfl) | (obtain ⟨_, _, _, rfl, _⟩ := h; rfl) | (obtain ⟨_, _, _, _, rfl, _⟩ := h; rfl) | (obtain ⟨_, _, _, _, _, rfl, _⟩ := h; rfl) | (obtain ⟨_, _, _, _, _, _, rfl, _⟩ := h; rfl) | (obtain ⟨_, _, _, _, _, _, _, rfl, _⟩ := h; rfl) | (obtain ⟨_, _, _, _, _, _, _, _, rfl, _⟩ := h; rfl) | (obtain ⟨_, _, _, _, _, _, _, _, _, rfl, _⟩ := h; rfl)) (fun cdv AA outer s H vs Q E hr h => ?_)
  refine ⟨_, (pss_one (ps_if (pt_not (pt_val (pe_call (ok_is_letter T) (hr.mono (by decide)) (by rfl) T.g_is_letter T.k_is_letter T.b_is_letter .nil pass0 (pa_cons (pv 0) pa_nil)))) (pss_one (ps_raise rfl (takes_of rfl rfl rfl rfl) (pmk_own PySem.F.excBase_ValueError T.x_NoLetter T.g_NoLetter T.k_NoLetter (raises_own T.bb_NoLetter T.tt_NoLetter) rfl))) pss_nil)), ?_⟩
  obtain ⟨v, b, rfl, hk, hE, q⟩ := h
  refine ⟨_, rfl, v, b, rfl, hk, fun H1 s1 => ⟨b, rfl, ?_⟩⟩
  cases b with
  | false => exact iteT (hE rfl H1 s1)
  | true => exact iteF (q rfl H1 s1)
/-! ### written: slots 0 letter, 1 turn, 2 deeds, 3 count, 4 told, 5 number -/

theorem ok_written (T : Txt K mg A) : FnOk P w K mg base (L2.CX P w) 5 A.f_written A.d_written ["letter"] (sp_written A.e_NoLetter) := by
  refine T.F_written.okX sc_written (fun vs H Q E h => by first | (obtain ⟨_, rfl, _⟩ := h; rfl) | (obtain ⟨_, _, rfl, _⟩ := h; rfl) | (obtain ⟨_, _, _, rfl, _⟩ := h; rfl) | (obtain ⟨_, _, _, _, rfl, _⟩ := h; rfl) | (obtain ⟨_, _, _, _, _, rfl, _⟩ := h; rfl) | (obtain ⟨_, _, _, _, _, _, rfl, _⟩ := h; rfl) | (obtain ⟨_, _, _, _, _, _, _, rfl, _⟩ := h; rfl) | (obtain ⟨_, _, _, _, _, _, _, _, rfl, _⟩ := h; rfl) | (obtain ⟨_, _, _, _, _, _, _, _, _, rfl, _⟩ := h; rfl)) (fun cdv AA outer s H vs Q E hr h => ?_)
  refine ⟨_, (pss_cons (ps_expr (pe_call (ok_refuse_unless_letter T) (hr.mono (by decide)) (by rfl) T.g_refuse_unless_letter T.k_refuse_unless_letter T.b_refuse_unless_letter .nil (passes_call (takes_of rfl rfl rfl rfl) (fun _ _ _ _ z => z)) (pa_cons (pv 0) pa_nil)))
      (pss_cons ps_never
      (pss_one ps_never))), ?_⟩
  obtain ⟨v, rfl, hk, hE⟩ := h
  exact ⟨_, rfl, v, false, rfl, hk, fun _ => hE, fun z => nomatch z⟩
/-! ### _law_start: slots 0 _law_script, 1 _law_mixed, 2 _law_cell -/

theorem ok__law_start (T : Txt K mg A) : FnOk P w K mg base CX0 1 A.f__law_start A.d__law_start ["_law_script"] (sp__law_start K) := by
  refine T.F__law_start.ok sc__law_start (fun vs H Q E h => by first | (obtain ⟨_, rfl, _⟩ := h; rfl) | (obtain ⟨_, _, rfl, _⟩ := h; rfl) | (obtain ⟨_, _, _, rfl, _⟩ := h; rfl) | (obtain ⟨_, _, _, _, rfl, _⟩ := h; rfl) | (obtain ⟨_, _, _, _, _, rfl, _⟩ := h; rfl) | (obtain ⟨_, _, _, _, _, _, rfl, _⟩ := h; rfl) | (obtain ⟨_, _, _, _, _, _, _, rfl, _⟩ := h; rfl) | (obtain ⟨_, _, _, _, _, _, _, _, rfl, _⟩ := h; rfl) | (obtain ⟨_, _, _, _, _, _, _, _, _, rfl, _⟩ := h; rfl)) (fun cdv AA outer s H vs Q E hr h => ?_)
  refine ⟨_, (pss_cons (ps_set (i := 1) sc__law_start.nd rfl (.inl rfl) pe_int)
      (pss_cons (ps_for PassesOwn.never rfl (pi_list (pv 0)) (pg_name (i := 2) sc__law_start.nd rfl (.inl rfl))
        (pss_one (ps_set (i := 1) sc__law_start.nd rfl (.inl rfl) (pe_op op_mod (pe_op op_add (pe_op op_add (pe_op op_mul (pv 1) pe_int) (pv 2)) pe_int) pe_int))))
      (pss_one (ps_ret (pe_lst (pa_cons (pv 0) (pa_cons pe_int (pa_cons (pv 1) (pa_cons pe_int pa_nil))))))))), ?_⟩
  obtain ⟨a, ns, rfl, hS, q⟩ := h
  refine ⟨_, rfl, a, rfl, ⟨_, hS⟩, for_list (K := K) (a := a) (xs := ns.map V.int) (fun i σ H' => ∃ (m : Int) (v : Option V), σ = [some (.ref a), some (.int m), v] ∧ H' = H) ⟨1, none, rfl, rfl⟩ (fun i σ H' _ ⟨_, _, _, e⟩ => e ▸ hS) ?_ ?_⟩
  · rintro i y σ H' hi ⟨m, v, rfl, rfl⟩
    obtain ⟨z, hz, rfl⟩ := int_at hi
    exact ⟨_, rfl, _, _, rfl, rfl, .inr ⟨by decide, by decide⟩, _, rfl, _, _, rfl, rfl, _, _, rfl, rfl, _, _, rfl, rfl, by show (0:Int) < _; decide, _, _, rfl, rfl⟩
  · rintro σ H' ⟨m, v, rfl, rfl⟩
    refine ⟨_, rfl, _, rfl, by show 4 ≤ sizeLine; decide, fun p hp => ?_⟩
    exact q p _ hp (same_upd hp) ⟨⟨0, m, 0, Int.le_refl 0, upd_same⟩, ns, (same_upd hp).seq hS⟩
/-! ### _law_drawn: slots 0 _law_state, 1 _law_many, 2 _law_found, 3 _law_cell -/

theorem ok__law_drawn (T : Txt K mg A) : FnOk P w K mg base CX0 1 A.f__law_drawn A.d__law_drawn ["_law_state", "_law_many"] (sp__law_drawn K) := by
  refine T.F__law_drawn.ok sc__law_drawn (fun vs H Q E h => by first | (obtain ⟨_, rfl, _⟩ := h; rfl) | (obtain ⟨_, _, rfl, _⟩ := h; rfl) | (obtain ⟨_, _, _, rfl, _⟩ := h; rfl) | (obtain ⟨_, _, _, _, rfl, _⟩ := h; rfl) | (obtain ⟨_, _, _, _, _, rfl, _⟩ := h; rfl) | (obtain ⟨_, _, _, _, _, _, rfl, _⟩ := h; rfl) | (obtain ⟨_, _, _, _, _, _, _, rfl, _⟩ := h; rfl) | (obtain ⟨_, _, _, _, _, _, _, _, rfl, _⟩ := h; rfl) | (obtain ⟨_, _, _, _, _, _, _, _, _, rfl, _⟩ := h; rfl)) (fun cdv AA outer s H vs Q E hr h => ?_)
  refine ⟨_, (pss_cons (ps_if (pt_cmpR op_gt (pe_ix ix_list (pv 0) pe_int (fun _ _ => rfl)) pe_int (nomark _)) (pss_cons (ps_set (i := 2) sc__law_drawn.nd rfl (.inl rfl) (pe_op op_mod (pe_ix ix_list (pv 0) pe_int (fun _ _ => rfl)) (pv 1)))
        (pss_cons (ps_asg (pe_op op_fdivW (pe_ix ix_list (pv 0) pe_int (fun _ _ => rfl)) (pv 1)) (pg_sub (pv 0) pe_int set_list))
        (pss_one (ps_ret (pv 2))))) pss_nil)
      (pss_cons (ps_asg (pe_op op_add (pe_ix ix_list (pv 0) pe_int (fun _ _ => rfl)) pe_int) (pg_sub (pv 0) pe_int set_list))
      (pss_cons (ps_if (pt_cmpR op_le (pe_ix ix_list (pv 0) pe_int (fun _ _ => rfl)) (pe_callB call_len_seq (by rfl) T.z_len PySem.boot_len (pa_cons (pe_ix ix_list (pv 0) pe_int (fun _ _ => rfl)) pa_nil)) (nomark _)) (pss_cons (ps_set (i := 3) sc__law_drawn.nd rfl (.inl rfl) (pe_ix ix_list (pe_ix ix_list (pv 0) pe_int (fun _ _ => rfl)) (pe_op op_sub (pe_ix ix_list (pv 0) pe_int (fun _ _ => rfl)) pe_int) (fun _ _ => rfl)))
        (pss_cons (ps_asg (pe_ifExp (pt_cmpR op_ge (pv 3) (pe_op op_pow pe_int pe_int) (nomark _)) (pe_op op_fdivW (pv 3) (pv 1)) pe_int) (pg_sub (pv 0) pe_int set_list))
        (pss_one (ps_ret (pe_op op_mod (pv 3) (pv 1)))))) pss_nil)
      (pss_cons (ps_asg (pe_op op_mod (pe_op op_add (pe_op op_mul (pe_ix ix_list (pv 0) pe_int (fun _ _ => rfl)) pe_int) pe_int) pe_int) (pg_sub (pv 0) pe_int set_list))
      (pss_one (ps_ret (pe_op op_mod (pe_op op_fdiv (pe_ix ix_list (pv 0) pe_int (fun _ _ => rfl)) pe_int) (pv 1)))))))), ?_⟩
  obtain ⟨a, st, n, rfl, hS, hn, hnb, q⟩ := h
  obtain ⟨⟨i, m, r, hi, hs⟩, ns, hns⟩ := id hS
  -- if state[3] > 0
  refine ⟨_, rfl, st, _, 3, _, rfl, rfl, SqL.of hs, atI_nat (j := 3) rfl, _, _, rfl, rfl, _, rfl, ite2 (fun c => ?_) (fun c => ?_)⟩
  · refine ⟨_, rfl, st, _, 3, _, rfl, rfl, SqL.of hs, atI_nat (j := 3) rfl, _, rfl, _, _, rfl, rfl, hn, ?_⟩
    refine ⟨_, rfl, st, _, 3, _, rfl, rfl, SqL.of hs, atI_nat (j := 3) rfl, _, rfl, _, _, rfl, rfl, wide_div hn hnb (by decide) (by decide), ?_⟩
    refine ⟨_, rfl, st, _, 3, 3, rfl, rfl, hs, rfl, ?_⟩
    exact ⟨_, rfl, q _ _ (Int.emod_nonneg _ (by omega)) (Int.emod_lt_of_pos _ hn) (Go.upd (r := r / n) (m := m) hS hi)⟩
  · -- state[1] = state[1] + 1
    refine ⟨_, rfl, st, _, 1, _, rfl, rfl, SqL.of hs, atI_nat (j := 1) rfl, _, _, rfl, rfl, ?_⟩
    refine ⟨_, rfl, st, _, 1, 1, rfl, rfl, hs, rfl, ?_⟩
    have g1 : Go K st H (upd H st (.lst [.ref a, .int (i + 1), .int m, .int r])) := Go.upd hS (by omega)
    have hS1 := g1.st _ hS
    have hs1 : (upd H st (.lst [.ref a, .int (i + 1), .int m, .int r])) st = some (.lst [.ref a, .int (i + 1), .int m, .int r]) := upd_same
    obtain ⟨_, ns1, hns1⟩ := id hS1
    -- if state[1] <= len(state[0])
    refine ⟨_, rfl, st, _, 1, _, rfl, rfl, SqL.of hs1, atI_nat (j := 1) rfl, _, rfl, st, _, 0, _, rfl, rfl, SqL.of hs1, atI_nat (j := 0) rfl, a, _, rfl, .inl hns1, _, _, rfl, rfl, _, rfl, ite2 (fun c => ?_) (fun c => ?_)⟩
    · have c2 : i + 1 ≤ (ns1.length : Int) := by
        have := of_decide_eq_true c
        rw [List.length_map] at this
        exact this
      have hlt : i.toNat < ns1.length := by omega
      have hat : atI (ns1.map V.int) (i + 1 - 1) = some (.int ns1[i.toNat]) := at_of (j := i.toNat) (by omega) (by rw [List.getElem?_map, List.getElem?_eq_getElem hlt]; rfl)
      -- cell = state[0][state[1] - 1]
      refine ⟨_, rfl, st, _, 0, _, rfl, rfl, SqL.of hs1, atI_nat (j := 0) rfl, _, rfl, st, _, 1, _, rfl, rfl, SqL.of hs1, atI_nat (j := 1) rfl, _, _, rfl, rfl, a, _, _, _, rfl, rfl, hns1, hat, ?_⟩
      -- state[3] = cell // many if cell >= 10 ** 18 else 0
      refine ⟨_, rfl, _, _, rfl, rfl, ⟨by decide, by decide, by decide⟩, _, _, rfl, rfl, _, rfl, ite2 (fun c3 => ?_) (fun c3 => ?_)⟩
      · refine ⟨_, rfl, _, rfl, _, _, rfl, rfl, wide_div hn hnb (by decide) (by decide), _, rfl, st, _, 3, 3, rfl, rfl, hs1, rfl, ?_⟩
        exact ⟨_, rfl, _, rfl, _, _, rfl, rfl, hn, q _ _ (Int.emod_nonneg _ (by omega)) (Int.emod_lt_of_pos _ hn) (g1.trans (Go.upd (m := m) hS1 (by omega)))⟩
      · refine ⟨_, rfl, st, _, 3, 3, rfl, rfl, hs1, rfl, ?_⟩
        exact ⟨_, rfl, _, rfl, _, _, rfl, rfl, hn, q _ _ (Int.emod_nonneg _ (by omega)) (Int.emod_lt_of_pos _ hn) (g1.trans (Go.upd (m := m) hS1 (by omega)))⟩
    · -- state[2] = (state[2] * 48271 + 11) % 2147483647
      refine ⟨_, rfl, st, _, 2, _, rfl, rfl, SqL.of hs1, atI_nat (j := 2) rfl, _, _, rfl, rfl, .inr ⟨by decide, by decide⟩, _, _, rfl, rfl, _, _, rfl, rfl, by show (0:Int) < _; decide, ?_⟩
      refine ⟨_, rfl, st, _, 2, 2, rfl, rfl, hs1, rfl, ?_⟩
      have g2 := g1.trans (Go.upd (m := (m * 48271 + 11) % 2147483647) (r := r) hS1 (by omega : 0 ≤ i + 1))
      refine ⟨_, rfl, st, _, 2, _, rfl, rfl, SqL.of upd_same, atI_nat (j := 2) rfl, _, _, rfl, rfl, ⟨by decide, by decide⟩, _, rfl, _, _, rfl, rfl, hn, ?_⟩
      exact q _ _ (Int.emod_nonneg _ (by omega)) (Int.emod_lt_of_pos _ hn) g2
/-! ### _law_letter: slots 0 _law_state, 1 _law_some, 2 _law_many, 3 _law_told, 4 _law_k -/

theorem ok__law_letter (T : Txt K mg A) : FnOk P w K mg base CX0 2 A.f__law_letter A.d__law_letter ["_law_state"] (sp__law_letter K) := by
  refine T.F__law_letter.ok sc__law_letter (fun vs H Q E h => by first | (obtain ⟨_, rfl, _⟩ := h; rfl) | (obtain ⟨_, _, rfl, _⟩ := h; rfl) | (obtain ⟨_, _, _, rfl, _⟩ := h; rfl) | (obtain ⟨_, _, _, _, rfl, _⟩ := h; rfl) | (obtain ⟨_, _, _, _, _, rfl, _⟩ := h; rfl) | (obtain ⟨_, _, _, _, _, _, rfl, _⟩ := h; rfl) | (obtain ⟨_, _, _, _, _, _, _, rfl, _⟩ := h; rfl) | (obtain ⟨_, _, _, _, _, _, _, _, rfl, _⟩ := h; rfl) | (obtain ⟨_, _, _, _, _, _, _, _, _, rfl, _⟩ := h; rfl)) (fun cdv AA outer s H vs Q E hr h => ?_)
  refine ⟨_, (pss_cons (ps_setLc (i := 1) (own := [("_law_k", 4)]) (g := gName 4)  rfl sc__law_letter.nd rfl rfl (sw_true rfl rfl rfl (by decide +kernel)) (pi_range1 (by rfl) T.z_range (pa_cons pe_int pa_nil)) (blkOk_by (own := [("_law_k", 4)]) (N := ["_law_state", "_law_some", "_law_many", "_law_told", "_law_k"]) (sc := defScope s__law_letter) (by decide +kernel)) (fun _ _ _ _ _ => pg_name (i := 4) sc__law_letter.nd rfl (Or.inl rfl)) (fun _ _ _ _ _ => pts_nil) (fun _ _ _ _ _ => (pe_call (ok__law_drawn T) (hr.mono (by decide)) (by rfl) T.g__law_drawn T.k__law_drawn T.b__law_drawn .nil pass0 (pa_cons (pv 0) (pa_cons (pe_ix (ix_listK (K := K) rfl) (pe_lst (pa_cons pe_int (pa_cons pe_int (pa_cons (pe_op op_pow pe_int pe_int) pa_nil)))) (pe_call (ok__law_drawn T) (hr.mono (by decide)) (by rfl) T.g__law_drawn T.k__law_drawn T.b__law_drawn .nil pass0 (pa_cons (pv 0) (pa_cons pe_int pa_nil))) (fun _ _ => rfl)) pa_nil)))))
      (pss_cons (ps_set (i := 2) sc__law_letter.nd rfl (.inl rfl) (pe_ix ix_list (pe_lst (pa_cons (pe_call (ok__law_drawn T) (hr.mono (by decide)) (by rfl) T.g__law_drawn T.k__law_drawn T.b__law_drawn .nil pass0 (pa_cons (pv 0) (pa_cons pe_int pa_nil))) (pa_cons (pe_op op_sub pe_int (pe_call (ok__law_drawn T) (hr.mono (by decide)) (by rfl) T.g__law_drawn T.k__law_drawn T.b__law_drawn .nil pass0 (pa_cons (pv 0) (pa_cons pe_int pa_nil)))) pa_nil))) (pe_callTy call_int1 (by rfl) T.z_int (by decide +kernel) (pa_cons (pe_cmpR op_eq (pe_call (ok__law_drawn T) (hr.mono (by decide)) (by rfl) T.g__law_drawn T.k__law_drawn T.b__law_drawn .nil pass0 (pa_cons (pv 0) (pa_cons pe_int pa_nil))) pe_int (nomark _)) pa_nil)) (fun _ _ => rfl)))
      (pss_cons (ps_set (i := 3) sc__law_letter.nd rfl (.inl rfl) (pe_callTy call_tuple_of (by rfl) T.z_tuple (by decide +kernel) (pa_cons (pe_lc (own := [("_law_k", 4)]) (g := gName 4)  rfl sc__law_letter.nd (pi_range1 (by rfl) T.z_range (pa_cons (pv 2) pa_nil)) (blkOk_by (own := [("_law_k", 4)]) (N := ["_law_state", "_law_some", "_law_many", "_law_told", "_law_k"]) (sc := defScope s__law_letter) (by decide +kernel)) (fun _ _ _ _ _ => pg_name (i := 4) sc__law_letter.nd rfl (Or.inl rfl)) (fun _ _ _ _ _ => pts_nil) (fun _ _ _ _ _ => (pe_ix (ix_listK (K := K) rfl) (pe_lst (pa_cons (pe_call (ok__law_drawn T) (hr.mono (by decide)) (by rfl) T.g__law_drawn T.k__law_drawn T.b__law_drawn .nil pass0 (pa_cons (pv 0) (pa_cons pe_int pa_nil))) (pa_cons (pe_call (ok__law_drawn T) (hr.mono (by decide)) (by rfl) T.g__law_drawn T.k__law_drawn T.b__law_drawn .nil pass0 (pa_cons (pv 0) (pa_cons pe_int pa_nil))) (pa_cons pe_int pa_nil)))) (pe_call (ok__law_drawn T) (hr.mono (by decide)) (by rfl) T.g__law_drawn T.k__law_drawn T.b__law_drawn .nil pass0 (pa_cons (pv 0) (pa_cons pe_int pa_nil))) (fun _ _ => rfl)))) pa_nil)))
      (pss_one (ps_ret (pe_tup (pa_cons (pe_ix ix_list (pv 1) pe_int (fun _ _ => rfl)) (pa_cons (pe_ix ix_list (pv 1) pe_int (fun _ _ => rfl)) (pa_cons (pe_call (ok__law_drawn T) (hr.mono (by decide)) (by rfl) T.g__law_drawn T.k__law_drawn T.b__law_drawn .nil pass0 (pa_cons (pv 0) (pa_cons pe_int pa_nil))) (pa_cons (pv 3) pa_nil)))))))))), ?_⟩
  obtain ⟨a, st, rfl, hS, q⟩ := h
  refine ⟨2, rfl, by decide, by decide, fun D hD => lc_G (K := K) (st := st) (a := a) (walk_range (lo := 0) (n := 2)) (fun _ v _ => ∃ z : Int, v = .int z ∧ 0 ≤ z) hS (by decide) hD (fun _ _ => trivial) (fun _ _ _ _ h _ => h) ?_ fun ws H1 g1 hd hwl hws => ?_⟩
  · rintro i x H2 H3 hi g2 _ ⟨rfl, rfl⟩ Q' q'
    have S2 := g2.st _ hS
    refine ⟨rfl, _, rfl, _, _, rfl, rfl, ⟨by decide, by decide, by decide⟩, by show 3 ≤ sizeLine; decide, fun l hl => ?_⟩
    have gl := Go.new (K := K) (st := st) (o := .lst [.int 10, .int 1000, .int (10 ^ Int.toNat 60)]) hl
    have S3 := gl.st _ S2
    refine ⟨_, rfl, a, st, 3, rfl, S3, by decide, nat8000 (by decide) (by decide +kernel), fun v H4 v0 v1 g4 => ?_⟩
    obtain ⟨n, hat, n1, n2⟩ := pickI (ns := [10, 1000, 10 ^ Int.toNat 60]) (lo := 10) (hi := 10 ^ 60) (by decide +kernel) v0 v1
    have S4 := g4.st _ S3
    exact ⟨l, _, _, _, rfl, rfl, SqL.of (g4.keep _ _ (S2.fresh hl) upd_same), hat, a, st, n, rfl, S4, by omega, nat8000 (by omega) (by omega), fun z H5 z0 z1 g5 => q' _ _ (gl.trans (g4.trans g5)) ⟨z, rfl, z0⟩⟩
  obtain ⟨w0, w1, rfl⟩ : ∃ w0 w1, ws = [w0, w1] := by
    match ws, hwl with
    | [w0, w1], _ => exact ⟨_, _, rfl⟩
  obtain ⟨t, rfl, t0⟩ := hws 0 w0 rfl
  obtain ⟨d, rfl, d0⟩ := hws 1 w1 rfl
  have S1 := g1.st _ hS
  have nD := hS.fresh hD
  -- many
  refine ⟨_, rfl, a, st, 9, rfl, S1, by decide, nat8000 (by decide) (by decide +kernel), fun x H9 x1 x2 g9 => ?_⟩
  have S9 := g9.st _ S1
  refine ⟨_, rfl, a, st, 60, rfl, S9, by decide, nat8000 (by decide) (by decide +kernel), fun y H10 y0 y1 g10 => ?_⟩
  have S10 := g10.st _ S9
  refine ⟨_, _, rfl, rfl, by show 2 ≤ sizeLine; decide, fun l3 hl3 => ?_⟩
  have gl3 := Go.new (K := K) (st := st) (o := .lst [.int x, .int (96 - y)]) hl3
  refine ⟨_, rfl, a, st, 8, rfl, gl3.st _ S10, by decide, nat8000 (by decide) (by decide +kernel), fun u H11 _ _ g11 => ?_⟩
  have S11 := (gl3.trans g11).st _ S10
  refine ⟨rfl, .inr ⟨_, rfl, ?_⟩⟩
  obtain ⟨m, hat2, m0, m1⟩ := pickI (ns := [x, 96 - y]) (lo := 0) (hi := 96) (v := if decide (V.int u = V.int 7) then 1 else 0) (by simp only [List.mem_cons, List.not_mem_nil, or_false]; rintro z (rfl | rfl) <;> omega) (by split <;> decide) (by show _ < (2 : Int); split <;> decide)
  refine ⟨l3, _, _, _, rfl, rfl, SqL.of (g11.keep _ _ (S10.fresh hl3) upd_same), hat2, ?_⟩
  have gA := g9.trans (g10.trans (gl3.trans g11))
  have hd11 := gA.keep _ _ nD hd
  -- told
  refine ⟨_, rfl, m, rfl, by omega, by omega, fun D2 hD2 => lc_G (K := K) (st := st) (a := a) (walk_range (lo := 0) (n := m.toNat)) (fun _ v _ => ∃ z : Int, v = .int z ∧ 0 ≤ z ∧ z < 97) S11 (by omega) hD2 (fun _ _ => trivial) (fun _ _ _ _ h _ => h) ?_ fun ws2 H12 g12 hd2 hwl2 hws2 => ?_⟩
  · rintro i x H2 H3 hi g2 _ ⟨rfl, rfl⟩ Q' q'
    have S2 := g2.st _ S11
    refine ⟨rfl, _, rfl, a, st, 97, rfl, S2, by decide, nat8000 (by decide) (by decide +kernel), fun x H4 x0 x1 g4 => ?_⟩
    have S4 := g4.st _ S2
    refine ⟨_, rfl, a, st, 3, rfl, S4, by decide, nat8000 (by decide) (by decide +kernel), fun y H5 y0 y1 g5 => ?_⟩
    have S5 := g5.st _ S4
    refine ⟨by show 3 ≤ sizeLine; decide, fun l hl => ?_⟩
    have gl := Go.new (K := K) (st := st) (o := .lst [.int x, .int y, .int 96]) hl
    refine ⟨_, rfl, a, st, 3, rfl, gl.st _ S5, by decide, nat8000 (by decide) (by decide +kernel), fun v H6 v0 v1 g6 => ?_⟩
    obtain ⟨n, hat, n1, n2⟩ := pickI (ns := [x, y, 96]) (lo := 0) (hi := 96) (by simp only [List.mem_cons, List.not_mem_nil, or_false]; rintro z (rfl | rfl | rfl) <;> omega) v0 v1
    exact ⟨l, _, _, _, rfl, rfl, SqL.of (g6.keep _ _ (S5.fresh hl) upd_same), hat, q' _ _ (g4.trans (g5.trans (gl.trans g6))) ⟨n, rfl, n1, by omega⟩⟩
  obtain ⟨xs, rfl, hxs⟩ : ∃ xs : List Int, ws2 = xs.map V.int ∧ ∀ z ∈ xs, 0 ≤ z ∧ z < 97 := by
    obtain ⟨xs, e⟩ := pick_ints ws2 fun i v hv => by
      obtain ⟨z, hz, _⟩ := hws2 i v hv
      exact ⟨z, hz⟩
    refine ⟨xs, e, fun z hz => ?_⟩
    obtain ⟨i, hi⟩ := List.mem_iff_getElem?.mp hz
    obtain ⟨z2, hz2, h3⟩ := hws2 i (.int z) (by rw [e, List.getElem?_map, hi]; rfl)
    cases hz2
    exact h3
  rw [List.length_map] at hwl2
  refine ⟨D2, _, rfl, .inl ⟨SqL.of hd2, fun p hp => ?_⟩⟩
  have gp := Go.new (K := K) (st := st) (o := .tup (xs.map V.int)) hp
  have hd13 := gp.keep _ _ nD (g12.keep _ _ nD hd11)
  have hp13 := upd_same (H := H12) (a := p) (o := .tup (xs.map V.int))
  have S12 := g12.st _ S11
  have S13 := gp.st _ S12
  refine ⟨_, rfl, D, _, 0, _, rfl, rfl, SqL.of hd13, atI_nat (j := 0) rfl, _, rfl, D, _, 1, _, rfl, rfl, SqL.of hd13, atI_nat (j := 1) rfl, _, rfl, a, st, 97, rfl, S13, by decide, nat8000 (by decide) (by decide +kernel), fun c H14 c0 c1 g14 => ?_⟩
  refine ⟨_, rfl, by show 4 ≤ sizeLine; decide, fun r hr => ?_⟩
  have sr := same_upd (o := .tup [.int t, .int d, .int c, .ref p]) hr
  have hp14 := g14.keep _ _ (S12.fresh hp) hp13
  exact q r p t d c xs _ (g1.trans (gA.trans (g12.trans (gp.trans (g14.trans (Go.of sr)))))) upd_same (sr _ _ hp14) (by omega) t0 d0 c0 c1 hxs
/-! ### _law_odd_number: slots 0 _law_state, 1 _law_most, 2 _law_far, 3 _law_high -/

theorem ok__law_odd_number (T : Txt K mg A) : FnOk P w K mg base CX0 2 A.f__law_odd_number A.d__law_odd_number ["_law_state", "_law_most"] (sp__law_odd_number K) := by
  refine T.F__law_odd_number.ok sc__law_odd_number (fun vs H Q E h => by first | (obtain ⟨_, rfl, _⟩ := h; rfl) | (obtain ⟨_, _, rfl, _⟩ := h; rfl) | (obtain ⟨_, _, _, rfl, _⟩ := h; rfl) | (obtain ⟨_, _, _, _, rfl, _⟩ := h; rfl) | (obtain ⟨_, _, _, _, _, rfl, _⟩ := h; rfl) | (obtain ⟨_, _, _, _, _, _, rfl, _⟩ := h; rfl) | (obtain ⟨_, _, _, _, _, _, _, rfl, _⟩ := h; rfl) | (obtain ⟨_, _, _, _, _, _, _, _, rfl, _⟩ := h; rfl) | (obtain ⟨_, _, _, _, _, _, _, _, _, rfl, _⟩ := h; rfl)) (fun cdv AA outer s H vs Q E hr h => ?_)
  refine ⟨_, (pss_cons (ps_set (i := 2) sc__law_odd_number.nd rfl (.inl rfl) (pe_ix ix_list (pe_lst (pa_cons pe_int (pa_cons pe_int (pa_cons (pe_op op_pow pe_int pe_int) pa_nil)))) (pe_call (ok__law_drawn T) (hr.mono (by decide)) (by rfl) T.g__law_drawn T.k__law_drawn T.b__law_drawn .nil pass0 (pa_cons (pv 0) (pa_cons pe_int pa_nil))) (fun _ _ => rfl)))
      (pss_cons (ps_set (i := 3) sc__law_odd_number.nd rfl (.inl rfl) (pe_ifExp (pt_cmpR op_isN (pv 1) pe_non (nomark _)) pe_str (pe_op op_add (pe_op op_add (pv 1) pe_int) (pe_call (ok__law_drawn T) (hr.mono (by decide)) (by rfl) T.g__law_drawn T.k__law_drawn T.b__law_drawn .nil pass0 (pa_cons (pv 0) (pa_cons (pv 2) pa_nil))))))
      (pss_one (ps_ret (pe_ix ix_list (pe_lst (pa_cons pe_non (pa_cons pe_bl (pa_cons pe_str (pa_cons (pe_tup pa_nil) (pa_cons (pe_lst pa_nil) (pa_cons (pe_op op_sub (pe_op op_sub pe_int pe_int) (pe_call (ok__law_drawn T) (hr.mono (by decide)) (by rfl) T.g__law_drawn T.k__law_drawn T.b__law_drawn .nil pass0 (pa_cons (pv 0) (pa_cons (pv 2) pa_nil)))) (pa_cons (pv 3) (pa_cons pe_bl pa_nil))))))))) (pe_call (ok__law_drawn T) (hr.mono (by decide)) (by rfl) T.g__law_drawn T.k__law_drawn T.b__law_drawn .nil pass0 (pa_cons (pv 0) (pa_cons pe_int pa_nil))) (fun _ _ => rfl)))))), ?_⟩
  obtain ⟨a, st, most, rfl, hS, hmost, q⟩ := h
  refine ⟨_, _, rfl, rfl, ⟨by decide, by decide, by decide⟩, by show 3 ≤ sizeLine; decide, fun l hl => ?_⟩
  have gl := Go.new (K := K) (st := st) (o := .lst [.int 1, .int 200, .int (10 ^ Int.toNat 59)]) hl
  have S1 := gl.st _ hS
  refine ⟨_, rfl, a, st, 3, rfl, S1, by decide, nat8000 (by decide) (by decide +kernel), fun v H2 v0 v1 g2 => ?_⟩
  have S2 := g2.st _ S1
  obtain ⟨far, hat, f1, f2⟩ := pickI (ns := [1, 200, 10 ^ Int.toNat 59]) (lo := 1) (hi := 10 ^ 59) (by decide +kernel) v0 v1
  refine ⟨l, _, _, _, rfl, rfl, SqL.of (g2.keep _ _ (hS.fresh hl) upd_same), hat, ?_⟩
  have g12 := gl.trans g2
  have main : ∀ (hi : V) (H3 : Hp), Go K st H H3 → ((most = .non → hi = .str "7") ∧ (most = .int 96 → ∃ z, hi = .int z ∧ 97 ≤ z)) →
      ∀ (p : Addr), H3 p = none → ∀ (l2 : Addr), (upd H3 p (.tup [])) l2 = none → ∀ x : Int, 0 ≤ x → ∀ H5, Go K st (upd (upd H3 p (.tup [])) l2 (.lst [])) H5 → ∀ l8, H5 l8 = none → ∀ (y : Int) H6, 0 ≤ y → y < 8 → Go K st (upd H5 l8 (.lst [.non, .bl true, .str "3", .ref p, .ref l2, .int (0 - 1 - x), hi, .bl false])) H6 →
      ∃ u, atI [.non, .bl true, .str "3", .ref p, .ref l2, .int (0 - 1 - x), hi, .bl false] y = some u ∧ Q u H6 := by
    intro hi H3 g3 hh p hp l2 hl2 x x0 H5 g5 l8 hl8 y H6 y0 y1 g6
    have S3 := g3.st _ hS
    have gp := Go.new (K := K) (st := st) (o := .tup []) hp
    have gl2 := Go.new (K := K) (st := st) (o := .lst []) hl2
    have g8 := Go.new (K := K) (st := st) (o := .lst [.non, .bl true, .str "3", .ref p, .ref l2, .int (0 - 1 - x), hi, .bl false]) hl8
    have gE := g3.trans (gp.trans (gl2.trans (g5.trans (g8.trans g6))))
    have S4 := gp.st _ S3
    have hp6 := (gl2.trans (g5.trans (g8.trans g6))).keep _ _ (S3.fresh hp) (upd_same (H := H3) (a := p) (o := .tup []))
    have hl6 := (g5.trans (g8.trans g6)).keep _ _ (S4.fresh hl2) (upd_same (H := upd H3 p (.tup [])) (a := l2) (o := .lst []))
    rcases (by omega : y = 0 ∨ y = 1 ∨ y = 2 ∨ y = 3 ∨ y = 4 ∨ y = 5 ∨ y = 6 ∨ y = 7) with rfl | rfl | rfl | rfl | rfl | rfl | rfl | rfl
    · exact ⟨_, atI_nat (j := 0) rfl, q _ _ gE .non (fun _ => rfl) (fun _ => rfl)⟩
    · exact ⟨_, atI_nat (j := 1) rfl, q _ _ gE (.bl _) (fun _ => rfl) (fun _ => rfl)⟩
    · exact ⟨_, atI_nat (j := 2) rfl, q _ _ gE (.str _) (fun _ => rfl) (fun _ => rfl)⟩
    · exact ⟨_, atI_nat (j := 3) rfl, q _ _ gE (.tup hp6) (fun _ => rfl) (fun _ => rfl)⟩
    · exact ⟨_, atI_nat (j := 4) rfl, q _ _ gE (.lst hl6) (fun _ => rfl) (fun _ => rfl)⟩
    · refine ⟨_, atI_nat (j := 5) rfl, q _ _ gE (.int _) (fun _ => decide_eq_false (by omega)) (fun _ => ?_)⟩
      show (decide (0 ≤ 0 - 1 - x) && decide (0 - 1 - x < 97)) = false
      rw [decide_eq_false (by omega), Bool.false_and]
    · refine ⟨_, atI_nat (j := 6) rfl, ?_⟩
      rcases hmost with e | e
      · rw [hh.1 e] at *
        exact q _ _ gE (.str _) (fun _ => rfl) (fun z => by rw [e] at z; cases z)
      · obtain ⟨z, rfl, hz⟩ := hh.2 e
        refine q _ _ gE (.int _) (fun w => by rw [e] at w; cases w) (fun _ => ?_)
        show (decide (0 ≤ z) && decide (z < 97)) = false
        rw [decide_eq_false (show ¬ z < 97 by omega), Bool.and_false]
    · exact ⟨_, atI_nat (j := 7) rfl, q _ _ gE (.bl _) (fun _ => rfl) (fun _ => rfl)⟩
  rcases hmost with rfl | rfl
  · refine ⟨_, rfl, rfl, _, rfl, iteT ?_⟩
    refine ⟨by show 0 ≤ sizeLine; decide, fun p hp => ⟨by show 0 ≤ sizeLine; decide, fun l2 hl2 => ?_⟩⟩
    have S4 := (Go.new (K := K) (st := st) (o := .lst []) hl2).st _ ((Go.new (K := K) (st := st) (o := .tup []) hp).st _ S2)
    refine ⟨_, _, rfl, rfl, _, rfl, _, rfl, a, st, far, rfl, S4, by omega, nat8000 (by omega) (by omega), fun x H5 x0 x1 g5 => ?_⟩
    have S5 := g5.st _ S4
    refine ⟨_, _, rfl, rfl, _, rfl, by show 8 ≤ sizeLine; decide, fun l8 hl8 => ?_⟩
    have g8 := Go.new (K := K) (st := st) (o := .lst [.non, .bl true, .str "3", .ref p, .ref l2, .int (0 - 1 - x), .str "7", .bl false]) hl8
    refine ⟨_, rfl, a, st, 8, rfl, g8.st _ S5, by decide, nat8000 (by decide) (by decide +kernel), fun y H6 y0 y1 g6 => ?_⟩
    obtain ⟨u, hu, qu⟩ := main (.str "7") H2 g12 ⟨fun _ => rfl, fun z => nomatch z⟩ p hp l2 hl2 x x0 H5 g5 l8 hl8 y H6 y0 y1 g6
    exact ⟨l8, _, _, u, rfl, rfl, SqL.of (g6.keep _ _ (S5.fresh hl8) upd_same), hu, qu⟩
  · refine ⟨_, rfl, rfl, _, rfl, iteF ?_⟩
    refine ⟨_, rfl, _, _, rfl, rfl, _, rfl, _, rfl, a, st, far, rfl, S2, by omega, nat8000 (by omega) (by omega), fun w H3 w0 w1 g3 => ?_⟩
    have S3 := g3.st _ S2
    refine ⟨_, _, rfl, rfl, ?_⟩
    refine ⟨by show 0 ≤ sizeLine; decide, fun p hp => ⟨by show 0 ≤ sizeLine; decide, fun l2 hl2 => ?_⟩⟩
    have S4 := (Go.new (K := K) (st := st) (o := .lst []) hl2).st _ ((Go.new (K := K) (st := st) (o := .tup []) hp).st _ S3)
    refine ⟨_, _, rfl, rfl, _, rfl, _, rfl, a, st, far, rfl, S4, by omega, nat8000 (by omega) (by omega), fun x H5 x0 x1 g5 => ?_⟩
    have S5 := g5.st _ S4
    refine ⟨_, _, rfl, rfl, _, rfl, by show 8 ≤ sizeLine; decide, fun l8 hl8 => ?_⟩
    have g8 := Go.new (K := K) (st := st) (o := .lst [.non, .bl true, .str "3", .ref p, .ref l2, .int (0 - 1 - x), .int (96 + 1 + w), .bl false]) hl8
    refine ⟨_, rfl, a, st, 8, rfl, g8.st _ S5, by decide, nat8000 (by decide) (by decide +kernel), fun y H6 y0 y1 g6 => ?_⟩
    obtain ⟨u, hu, qu⟩ := main (.int (96 + 1 + w)) H3 (g12.trans g3) ⟨(fun z => nomatch z), fun _ => ⟨_, rfl, by omega⟩⟩ p hp l2 hl2 x x0 H5 g5 l8 hl8 y H6 y0 y1 g6
    exact ⟨l8, _, _, u, rfl, rfl, SqL.of (g6.keep _ _ (S5.fresh hl8) upd_same), hu, qu⟩
/-! ### _law_odd: slots 0 _law_state, 1 _law_letter_here, 2 _law_way, 3 _law_turn, 4 _law_deeds, 5 _law_count, 6 _law_told, 7 _law_at -/

theorem ok__law_odd (T : Txt K mg A) : FnOk P w K mg base CX0 3 A.f__law_odd A.d__law_odd ["_law_state", "_law_letter_here"] (sp__law_odd K) := by
  refine T.F__law_odd.ok sc__law_odd (fun vs H Q E h => by first | (obtain ⟨_, rfl, _⟩ := h; rfl) | (obtain ⟨_, _, rfl, _⟩ := h; rfl) | (obtain ⟨_, _, _, rfl, _⟩ := h; rfl) | (obtain ⟨_, _, _, _, rfl, _⟩ := h; rfl) | (obtain ⟨_, _, _, _, _, rfl, _⟩ := h; rfl) | (obtain ⟨_, _, _, _, _, _, rfl, _⟩ := h; rfl) | (obtain ⟨_, _, _, _, _, _, _, rfl, _⟩ := h; rfl) | (obtain ⟨_, _, _, _, _, _, _, _, rfl, _⟩ := h; rfl) | (obtain ⟨_, _, _, _, _, _, _, _, _, rfl, _⟩ := h; rfl)) (fun cdv AA outer s H vs Q E hr h => ?_)
  refine ⟨_, (pss_cons (ps_set (i := 2) sc__law_odd.nd rfl (.inl rfl) (pe_call (ok__law_drawn T) (hr.mono (by decide)) (by rfl) T.g__law_drawn T.k__law_drawn T.b__law_drawn .nil pass0 (pa_cons (pv 0) (pa_cons pe_int pa_nil))))
      (pss_cons (ps_asg (pv 1) (pg_tup rfl (pgs_cons (pg_name (i := 3) sc__law_odd.nd rfl (.inl rfl)) (pgs_cons (pg_name (i := 4) sc__law_odd.nd rfl (.inl rfl)) (pgs_cons (pg_name (i := 5) sc__law_odd.nd rfl (.inl rfl)) (pgs_cons (pg_name (i := 6) sc__law_odd.nd rfl (.inl rfl)) pgs_nil))))))
      (pss_cons (ps_if (pt_cmpR op_lt (pv 2) pe_int (nomark _)) (pss_one (ps_ret (pe_op op_catA (pe_op op_catA (pe_slice sl_tupA (pv 1) po_none (po_some (pv 2))) (pe_tup (pa_cons (pe_call (ok__law_odd_number T) (hr.mono (by decide)) (by rfl) T.g__law_odd_number T.k__law_odd_number T.b__law_odd_number .nil pass0 (pa_cons (pv 0) (pa_cons (pe_ix ix_list (pe_lst (pa_cons pe_non (pa_cons pe_non (pa_cons pe_int pa_nil)))) (pv 2) (fun _ _ => rfl)) pa_nil))) pa_nil))) (pe_slice sl_tupA (pv 1) (po_some (pe_op op_add (pv 2) pe_int)) po_none)))) pss_nil)
      (pss_cons (ps_set (i := 7) sc__law_odd.nd rfl (.inl rfl) (pe_call (ok__law_drawn T) (hr.mono (by decide)) (by rfl) T.g__law_drawn T.k__law_drawn T.b__law_drawn .nil pass0 (pa_cons (pv 0) (pa_cons (pe_op op_add (pe_callB call_len_seq (by rfl) T.z_len PySem.boot_len (pa_cons (pv 6) pa_nil)) pe_int) pa_nil))))
      (pss_cons (ps_if (pt_cmpR op_lt (pv 2) pe_int (nomark _)) (pss_one (ps_ret (pe_tup (pa_cons (pv 3) (pa_cons (pv 4) (pa_cons (pv 5) (pa_cons (pe_op op_catA (pe_op op_catA (pe_slice sl_tupA (pv 6) po_none (po_some (pv 7))) (pe_tup (pa_cons (pe_call (ok__law_odd_number T) (hr.mono (by decide)) (by rfl) T.g__law_odd_number T.k__law_odd_number T.b__law_odd_number .nil pass0 (pa_cons (pv 0) (pa_cons pe_int pa_nil))) pa_nil))) (pe_slice sl_tupA (pv 6) (po_some (pv 7)) po_none)) pa_nil))))))) pss_nil)
      (pss_cons (ps_if (pt_cmpR op_eq (pv 2) pe_int (nomark _)) (pss_one (ps_ret (pe_ix ix_list (pe_lst (pa_cons (pe_callTy call_list_of (by rfl) T.z_list (by decide +kernel) (pa_cons (pv 1) pa_nil)) (pa_cons (pe_slice sl_tupA (pv 1) po_none (po_some pe_int)) (pa_cons (pe_op op_catA (pv 1) (pe_tup (pa_cons pe_int pa_nil))) (pa_cons (pe_op op_catA (pe_slice sl_tupA (pv 1) po_none (po_some pe_int)) (pe_tup (pa_cons (pe_callTy call_list_of (by rfl) T.z_list (by decide +kernel) (pa_cons (pv 6) pa_nil)) pa_nil))) pa_nil))))) (pe_call (ok__law_drawn T) (hr.mono (by decide)) (by rfl) T.g__law_drawn T.k__law_drawn T.b__law_drawn .nil pass0 (pa_cons (pv 0) (pa_cons pe_int pa_nil))) (fun _ _ => rfl)))) pss_nil)
      (pss_cons (ps_if (pt_cmpR op_eq (pv 2) pe_int (nomark _)) (pss_one (ps_ret (pe_tup (pa_cons (pv 3) (pa_cons (pv 4) (pa_cons (pv 5) (pa_cons (pe_op op_catA (pv 6) (pe_op op_tmul (pe_tup (pa_cons pe_int pa_nil)) (pe_op op_sub pe_int (pe_callB call_len_seq (by rfl) T.z_len PySem.boot_len (pa_cons (pv 6) pa_nil))))) pa_nil))))))) pss_nil)
      (pss_cons (ps_if (pt_cmpR op_eq (pv 2) pe_int (nomark _)) (pss_one (ps_ret (pe_ix ix_list (pe_lst (pa_cons pe_non (pa_cons pe_str (pa_cons pe_int (pa_cons (pe_tup pa_nil) (pa_cons pe_bl (pa_cons (pe_lst pa_nil) (pa_cons pe_dnewK pa_nil)))))))) (pe_call (ok__law_drawn T) (hr.mono (by decide)) (by rfl) T.g__law_drawn T.k__law_drawn T.b__law_drawn .nil pass0 (pa_cons (pv 0) (pa_cons pe_int pa_nil))) (fun _ _ => rfl)))) pss_nil)
      (pss_one (ps_ret (pe_tup (pa_cons (pv 3) (pa_cons (pv 4) (pa_cons (pv 5) (pa_cons (pe_ix ix_list (pe_lst (pa_cons pe_non (pa_cons pe_str (pa_cons pe_int pa_nil)))) (pe_call (ok__law_drawn T) (hr.mono (by decide)) (by rfl) T.g__law_drawn T.k__law_drawn T.b__law_drawn .nil pass0 (pa_cons (pv 0) (pa_cons pe_int pa_nil))) (fun _ _ => rfl)) pa_nil))))))))))))))), ?_⟩
  obtain ⟨a, st, r, s, t, d, c, xs, rfl, hS, hr, hs, hl, q⟩ := h
  refine ⟨_, rfl, a, st, 9, rfl, hS, by decide, nat8000 (by decide) (by decide +kernel), fun way H2 w0 w1 g2 => ?_⟩
  have S2 := g2.st _ hS
  have hr2 := g2.tup hS hr
  have hs2 := g2.tup hS hs
  refine ⟨_, rfl, r, _, rfl, SqT.of hr2, rfl, _, _, rfl, _, _, rfl, _, _, rfl, _, _, rfl, rfl, ?_⟩
  refine ⟨_, rfl, _, _, rfl, rfl, _, rfl, ite2 (fun c3 => ?_) (fun c3 => ?_)⟩
  · have c3' := of_decide_eq_true c3
    obtain ⟨j, rfl⟩ : ∃ j : Nat, way = (j : Int) := ⟨way.toNat, by omega⟩
    refine ⟨_, rfl, _, rfl, _, rfl, takeV hr2 (by show j ≤ 4; omega) fun p1 H3 s3 hp1 => ?_⟩
    have S3 := S2.same s3
    refine ⟨_, rfl, by show 3 ≤ sizeLine; decide, fun l hl3 => ?_⟩
    have sl := same_upd (o := .lst [.non, .non, .int 96]) hl3
    have S4 := S3.same sl
    obtain ⟨u, hu, hu2, hu3⟩ : ∃ u : V, atI [V.non, V.non, V.int 96] (j : Int) = some u ∧ (u = .non ∨ u = .int 96) ∧ ((j = 0 ∨ j = 1) ∧ u = .non ∨ j = 2 ∧ u = .int 96) := by
      rcases (by omega : j = 0 ∨ j = 1 ∨ j = 2) with rfl | rfl | rfl
      · exact ⟨_, atI_nat (j := 0) rfl, .inl rfl, .inl ⟨.inl rfl, rfl⟩⟩
      · exact ⟨_, atI_nat (j := 1) rfl, .inl rfl, .inl ⟨.inr rfl, rfl⟩⟩
      · exact ⟨_, atI_nat (j := 2) rfl, .inr rfl, .inr ⟨rfl, rfl⟩⟩
    refine ⟨_, rfl, l, _, _, u, rfl, rfl, SqL.of upd_same, hu, a, st, u, rfl, S4, hu2, fun v H5 g5 hk hw hrs => ?_⟩
    have S5 := g5.st _ S4
    refine ⟨by show 1 ≤ sizeLine; decide, fun p2 hp2 => ?_⟩
    have sp2 := same_upd (o := .tup [v]) hp2
    have hr5 := g5.tup S4 (sl _ _ (s3 _ _ hr2))
    have hs5 := g5.tup S4 (sl _ _ (s3 _ _ hs2))
    refine catV (sp2 _ _ (g5.tup S4 (sl _ _ hp1))) upd_same (by rw [List.length_take]; show min j 4 + 1 ≤ 1000; omega) fun p3 H6 s6 hp3 => ?_
    refine ⟨_, rfl, _, rfl, _, _, rfl, rfl, _, rfl, ?_⟩
    dsimp only [tNoPart]
    have s26 := sp2.trans s6
    rw [show (j : Int) + 1 = ((j + 1 : Nat) : Int) by omega]
    refine dropV (s26 _ _ hr5) (by show j + 1 ≤ 4; omega) fun p4 H7 s7 hp4 => ?_
    refine catV (s7 _ _ hp3) hp4 (by rw [List.length_append, List.length_take, List.length_drop]; show min j 4 + 1 + (4 - (j + 1)) ≤ 1000; omega) fun p5 H8 s8 hp5 => ?_
    have s68 := s26.trans (s7.trans s8)
    have gE : Go K st H H8 := g2.trans ((Go.of (s3.trans sl)).trans (g5.trans (Go.of s68)))
    have hs8 := s68 _ _ hs5
    have hk8 := hk.same s68
    have kx : ∀ x ∈ xs.map V.int, Known H8 x := fun x hx => by
      obtain ⟨z, _, rfl⟩ := List.mem_map.mp hx
      exact .int _
    refine q _ H8 gE ?_
    rcases hu3 with ⟨rfl | rfl, e⟩ | ⟨rfl, e⟩
    · have ev := hw e
      exact .four (t := v) (d := .int d) (c := .int c) hp5 hs8 (by rw [List.length_map]; exact hl) hk8 (.int _) (.int _) kx (by rw [ev]; rfl)
    · have ev := hw e
      exact .four (t := .int t) (d := v) (c := .int c) hp5 hs8 (by rw [List.length_map]; exact hl) (.int _) hk8 (.int _) kx (by rw [ev, Bool.false_and, Bool.and_false])
    · have ev := hrs e
      exact .four (t := .int t) (d := .int d) (c := v) hp5 hs8 (by rw [List.length_map]; exact hl) (.int _) (.int _) hk8 kx (by rw [List.all_cons, ev, Bool.false_and, Bool.and_false, Bool.and_false])
  refine ⟨_, rfl, _, rfl, s, _, rfl, .inr (SqT.of hs2), _, _, rfl, rfl, a, st, _, rfl, S2, by omega, nat8000 (by omega) (by rw [List.length_map]; omega), fun at0 H3 a0 a1 g3 => ?_⟩
  rw [List.length_map] at a1
  have S3 := g3.st _ S2
  have hr3 := g3.tup S2 hr2
  have hs3 := g3.tup S2 hs2
  have g23 := g2.trans g3
  obtain ⟨j, rfl⟩ : ∃ j : Nat, at0 = (j : Int) := ⟨at0.toNat, by omega⟩
  refine ⟨_, rfl, _, _, rfl, rfl, _, rfl, ite2 (fun c5 => ?_) (fun c5 => ?_)⟩
  · refine ⟨_, rfl, _, rfl, _, rfl, _, rfl, _, rfl, _, rfl, takeV hs3 (by rw [List.length_map]; omega) fun p1 H4 s4 hp1 => ?_⟩
    have S4 := S3.same s4
    refine ⟨_, rfl, a, st, .int 96, rfl, S4, .inr rfl, fun v H5 g5 hk _ hrs => ?_⟩
    have S5 := g5.st _ S4
    refine ⟨by show 1 ≤ sizeLine; decide, fun p2 hp2 => ?_⟩
    have sp2 := same_upd (o := .tup [v]) hp2
    have hs5 := g5.tup S4 (s4 _ _ hs3)
    refine catV (sp2 _ _ (g5.tup S4 hp1)) upd_same (by rw [List.length_take, List.length_map]; show min j _ + 1 ≤ 1000; omega) fun p3 H6 s6 hp3 => ?_
    have s26 := sp2.trans s6
    refine ⟨_, rfl, _, rfl, _, rfl, ?_⟩
    dsimp only [tNoPart]
    refine dropV (s26 _ _ hs5) (by rw [List.length_map]; omega) fun p4 H7 s7 hp4 => ?_
    refine catV (s7 _ _ hp3) hp4 (by rw [List.length_append, List.length_take, List.length_drop, List.length_map]; show min j _ + 1 + _ ≤ 1000; omega) fun p5 H8 s8 hp5 => ?_
    refine ⟨by show 4 ≤ sizeLine; decide, fun p6 hp6 => ?_⟩
    have s9 := same_upd (o := .tup [.int t, .int d, .int c, .ref p5]) hp6
    have sE := s26.trans (s7.trans (s8.trans s9))
    have hk9 := hk.same sE
    refine q _ _ (g23.trans ((Go.of s4).trans (g5.trans (Go.of sE)))) ?_
    have hp59 := s9 _ _ hp5
    by_cases cl : ((xs.map V.int).take j ++ [v] ++ (xs.map V.int).drop j).length ≤ 96
    · refine .four upd_same hp59 cl (.int _) (.int _) (.int _) (fun x hx => ?_) ?_
      · rcases List.mem_append.mp hx with hx | hx
        · rcases List.mem_append.mp hx with hx | hx
          · obtain ⟨z, _, rfl⟩ := List.mem_map.mp (List.mem_of_mem_take hx)
            exact .int _
          · rw [List.mem_singleton.mp hx]
            exact hk9
        · obtain ⟨z, _, rfl⟩ := List.mem_map.mp (List.mem_of_mem_drop hx)
          exact .int _
      · have ev := hrs rfl
        have ea : (V.int c :: ((xs.map V.int).take j ++ [v] ++ (xs.map V.int).drop j)).all restB = false := by
          rw [List.all_cons, List.all_append, List.all_append, List.all_cons, ev, Bool.false_and, Bool.and_false, Bool.false_and, Bool.and_false]
        rw [ea, Bool.and_false, Bool.and_false]
    · exact .many upd_same hp59 (by omega)
  refine ⟨_, rfl, rfl, _, rfl, ite2 (fun c6 => ?_) (fun c6 => ?_)⟩
  · refine ⟨_, rfl, r, _, rfl, .inr (SqT.of hr3), fun l1 hl1 => ?_⟩
    have s1 := same_upd (o := .lst [.int t, .int d, .int c, .ref s]) hl1
    have h1 := upd_same (H := H3) (a := l1) (o := .lst [.int t, .int d, .int c, .ref s])
    generalize upd H3 l1 (.lst [.int t, .int d, .int c, .ref s]) = H4 at s1 h1
    refine ⟨_, rfl, 3, rfl, takeV (j := 3) (s1 _ _ hr3) (by show 3 ≤ 4; decide) fun p1 H5 s5 hp1 => ?_⟩
    have s15 := s1.trans s5
    refine ⟨_, rfl, by show 1 ≤ sizeLine; decide, fun p2 hp2 => ?_⟩
    have sp2 := same_upd (o := .tup [.int 0]) hp2
    refine catV (sp2 _ _ (s15 _ _ hr3)) upd_same (by show 4 + 1 ≤ 1000; decide) fun p3 H6 s6 hp3 => ?_
    have s16 := s15.trans (sp2.trans s6)
    refine ⟨_, rfl, 3, rfl, takeV (j := 3) (s16 _ _ hr3) (by show 3 ≤ 4; decide) fun p4 H7 s7 hp4 => ?_⟩
    have s17 := s16.trans s7
    refine ⟨_, rfl, s, _, rfl, .inr (SqT.of (s17 _ _ hs3)), fun l2 hl2 => ?_⟩
    have sl2 := same_upd (o := .lst (xs.map V.int)) hl2
    refine ⟨by show 1 ≤ sizeLine; decide, fun p5 hp5 => ?_⟩
    have sp5 := same_upd (o := .tup [.ref l2]) hp5
    refine catV (sp5 _ _ (sl2 _ _ hp4)) upd_same (by show 3 + 1 ≤ 1000; decide) fun p6 H8 s8 hp6 => ?_
    have s28 := sp5.trans s8
    have s18 := s17.trans (sl2.trans s28)
    have hl28 := s28 _ _ (upd_same (H := H7) (a := l2) (o := .lst (xs.map V.int)))
    have S8 := S3.same s18
    refine ⟨by show 4 ≤ sizeLine; decide, fun l8 hl8 => ?_⟩
    have s9 := same_upd (o := .lst [.ref l1, .ref p1, .ref p3, .ref p6]) hl8
    have g8 := Go.new (K := K) (st := st) (o := .lst [.ref l1, .ref p1, .ref p3, .ref p6]) hl8
    have S9 := g8.st _ S8
    refine ⟨_, rfl, a, st, 4, rfl, S9, by decide, nat8000 (by decide) (by decide +kernel), fun y H9 y0 y1 g9 => ?_⟩
    have hl9 := g9.keep _ _ (S8.fresh hl8) upd_same
    have gE := g23.trans ((Go.of s18).trans (g8.trans g9))
    have s5E := (sp2.trans s6).trans (s7.trans (sl2.trans s28))
    have hl19 := g9.keep _ _ (S3.fresh hl1) (s9 _ _ (s5E _ _ (s5 _ _ h1)))
    have hp19 := g9.tup S9 (s9 _ _ (s5E _ _ hp1))
    have hp39 := g9.tup S9 (s9 _ _ ((s7.trans (sl2.trans s28)) _ _ hp3))
    have hp69 := g9.tup S9 (s9 _ _ hp6)
    have hl29 := g9.keep _ _ ((S3.same s17).fresh hl2) (s9 _ _ hl28)
    rcases (by omega : y = 0 ∨ y = 1 ∨ y = 2 ∨ y = 3) with rfl | rfl | rfl | rfl
    · exact ⟨l8, _, _, _, rfl, rfl, SqL.of hl9, atI_nat (j := 0) rfl, q _ _ gE (.other (.lst hl19))⟩
    · exact ⟨l8, _, _, _, rfl, rfl, SqL.of hl9, atI_nat (j := 1) rfl, q _ _ gE (.len hp19 (by show ¬ (3 = 4); decide))⟩
    · exact ⟨l8, _, _, _, rfl, rfl, SqL.of hl9, atI_nat (j := 2) rfl, q _ _ gE (.len hp39 (by show ¬ (5 = 4); decide))⟩
    · exact ⟨l8, _, _, _, rfl, rfl, SqL.of hl9, atI_nat (j := 3) rfl, q _ _ gE (.told hp69 (.lst hl29))⟩
  refine ⟨_, rfl, rfl, _, rfl, ite2 (fun c7 => ?_) (fun c7 => ?_)⟩
  · refine ⟨_, rfl, _, rfl, _, rfl, _, rfl, by show 1 ≤ sizeLine; decide, fun p hp => ?_⟩
    have s1 := same_upd (o := .tup [.int 5]) hp
    refine ⟨_, rfl, s, _, rfl, .inr (SqT.of (s1 _ _ hs3)), _, _, rfl, rfl, ?_⟩
    rw [List.length_map]
    refine tmulH (ns := [5]) upd_same (fun e => nomatch e) (by decide) (by omega) (by omega) fun w H4 s4 hw => ?_
    rw [List.flatten_replicate_singleton] at hw
    have s14 := s1.trans s4
    refine catV (s14 _ _ hs3) hw (by rw [List.length_map, List.length_map, List.length_replicate]; omega) fun p5 H5 s5 hp5 => ?_
    refine ⟨by show 4 ≤ sizeLine; decide, fun p6 hp6 => ?_⟩
    have s9 := same_upd (o := .tup [.int t, .int d, .int c, .ref p5]) hp6
    refine q _ _ (g23.trans (Go.of (s14.trans (s5.trans s9)))) (.many upd_same (s9 _ _ hp5) ?_)
    rw [List.length_append, List.length_map, List.length_map, List.length_replicate]
    omega
  refine ⟨_, rfl, rfl, _, rfl, ite2 (fun c8 => ?_) (fun c8 => ?_)⟩
  · refine ⟨by show 0 ≤ sizeLine; decide, fun p hp => ⟨by show 0 ≤ sizeLine; decide, fun l2 hl2 => fun d3 hd3 => ⟨by show 7 ≤ sizeLine; decide, fun l8 hl8 => ?_⟩⟩⟩
    have gp := Go.new (K := K) (st := st) (o := .tup []) hp
    have gl2 := Go.new (K := K) (st := st) (o := .lst []) hl2
    have gd3 := Go.new (K := K) (st := st) (o := .dK []) hd3
    have g8 := Go.new (K := K) (st := st) (o := .lst [.non, .str "0 0 1:", .int 7, .ref p, .bl true, .ref l2, .ref d3]) hl8
    have S4 := gp.st _ S3
    have S5 := gl2.st _ S4
    have S6 := gd3.st _ S5
    refine ⟨_, rfl, a, st, 7, rfl, g8.st _ S6, by decide, nat8000 (by decide) (by decide +kernel), fun y H6 y0 y1 g6 => ?_⟩
    have gE := g23.trans (gp.trans (gl2.trans (gd3.trans (g8.trans g6))))
    have hl9 := g6.keep _ _ (S6.fresh hl8) upd_same
    have hp6 := (gl2.trans (gd3.trans (g8.trans g6))).keep _ _ (S3.fresh hp) (upd_same (H := H3) (a := p) (o := .tup []))
    have hl6 := (gd3.trans (g8.trans g6)).keep _ _ (S4.fresh hl2) (upd_same (H := upd H3 p (.tup [])) (a := l2) (o := .lst []))
    have hd6 := (g8.trans g6).keep _ _ (S5.fresh hd3) (upd_same (H := upd (upd H3 p (.tup [])) l2 (.lst [])) (a := d3) (o := .dK []))
    rcases (by omega : y = 0 ∨ y = 1 ∨ y = 2 ∨ y = 3 ∨ y = 4 ∨ y = 5 ∨ y = 6) with rfl | rfl | rfl | rfl | rfl | rfl | rfl
    · exact ⟨l8, _, _, _, rfl, rfl, SqL.of hl9, atI_nat (j := 0) rfl, q _ _ gE (.other .non)⟩
    · exact ⟨l8, _, _, _, rfl, rfl, SqL.of hl9, atI_nat (j := 1) rfl, q _ _ gE (.other (.str _))⟩
    · exact ⟨l8, _, _, _, rfl, rfl, SqL.of hl9, atI_nat (j := 2) rfl, q _ _ gE (.other (.int _))⟩
    · exact ⟨l8, _, _, _, rfl, rfl, SqL.of hl9, atI_nat (j := 3) rfl, q _ _ gE (.len hp6 (by decide))⟩
    · exact ⟨l8, _, _, _, rfl, rfl, SqL.of hl9, atI_nat (j := 4) rfl, q _ _ gE (.other (.bl _))⟩
    · exact ⟨l8, _, _, _, rfl, rfl, SqL.of hl9, atI_nat (j := 5) rfl, q _ _ gE (.other (.lst hl6))⟩
    · exact ⟨l8, _, _, _, rfl, rfl, SqL.of hl9, atI_nat (j := 6) rfl, q _ _ gE (.other (.dK hd6))⟩
  refine ⟨_, rfl, _, rfl, _, rfl, by show 3 ≤ sizeLine; decide, fun l8 hl8 => ?_⟩
  have g8 := Go.new (K := K) (st := st) (o := .lst [.non, .str "", .int 5]) hl8
  refine ⟨_, rfl, a, st, 3, rfl, g8.st _ S3, by decide, nat8000 (by decide) (by decide +kernel), fun y H6 y0 y1 g6 => ?_⟩
  have hl9 := g6.keep _ _ (S3.fresh hl8) upd_same
  have gE := g23.trans (g8.trans g6)
  rcases (by omega : y = 0 ∨ y = 1 ∨ y = 2) with rfl | rfl | rfl
  · exact ⟨l8, _, _, _, rfl, rfl, SqL.of hl9, atI_nat (j := 0) rfl, by show 4 ≤ sizeLine; decide, fun p6 hp6 => q _ _ (gE.trans (Go.new hp6)) (.told upd_same .non)⟩
  · exact ⟨l8, _, _, _, rfl, rfl, SqL.of hl9, atI_nat (j := 1) rfl, by show 4 ≤ sizeLine; decide, fun p6 hp6 => q _ _ (gE.trans (Go.new hp6)) (.told upd_same (.str _))⟩
  · exact ⟨l8, _, _, _, rfl, rfl, SqL.of hl9, atI_nat (j := 2) rfl, by show 4 ≤ sizeLine; decide, fun p6 hp6 => q _ _ (gE.trans (Go.new hp6)) (.told upd_same (.int _))⟩
/-! ### _law_refused: slots 0 _law_thing, 1 e, 2 _law_other -/

theorem ok__law_refused (T : Txt K mg A) : FnOk P w K mg base CX0 6 A.f__law_refused A.d__law_refused ["_law_thing"] (sp__law_refused ) := by
  refine T.F__law_refused.ok sc__law_refused (fun vs H Q E h => by first | (obtain ⟨_, rfl, _⟩ := h; rfl) | (obtain ⟨_, _, rfl, _⟩ := h; rfl) | (obtain ⟨_, _, _, rfl, _⟩ := h; rfl) | (obtain ⟨_, _, _, _, rfl, _⟩ := h; rfl) | (obtain ⟨_, _, _, _, _, rfl, _⟩ := h; rfl) | (obtain ⟨_, _, _, _, _, _, rfl, _⟩ := h; rfl) | (obtain ⟨_, _, _, _, _, _, _, rfl, _⟩ := h; rfl) | (obtain ⟨_, _, _, _, _, _, _, _, rfl, _⟩ := h; rfl) | (obtain ⟨_, _, _, _, _, _, _, _, _, rfl, _⟩ := h; rfl)) (fun cdv AA outer s H vs Q E hr h => ?_)
  refine ⟨_, (pss_cons (ps_try_as (i := 1) rfl rfl sc__law_refused.nd rfl rfl ⟨rfl, by decide, .inl T.g_MendError⟩ takes0
        (fun W pn xe tk _ => (pss_one (ps_expr (pe_callS (ok_written T) (hr.mono (by decide)) (by rfl) T.g_written T.k_written T.b_written (fun σ => passAt tk σ) (by exact (pa_cons (pv 0) pa_nil))))))
        (fun a oe cls d pn hz hf => (pss_cons (ps_set (i := 2) sc__law_refused.nd rfl (.inl rfl) (pe_callB (call_isExT hz hf) (by rfl) T.z_isinstance (show bootBuiltins "isinstance" = some (.builtin "isinstance") by decide +kernel) (pa_cons (pv 1) (pa_cons (pe_tup (pa_cons (pe_glob (v := .ref A.e_Held) rfl T.g_Held rfl) (pa_cons (pe_glob (v := .ref A.e_Late) rfl T.g_Late rfl) (pa_cons (pe_glob (v := .ref A.e_NoCount) rfl T.g_NoCount rfl) (pa_cons (pe_glob (v := .ref A.e_NoHand) rfl T.g_NoHand rfl) (pa_cons (pe_glob (v := .ref A.e_NoInverse) rfl T.g_NoInverse rfl) (pa_cons (pe_glob (v := .ref A.e_NoMark) rfl T.g_NoMark rfl) (pa_cons (pe_glob (v := .ref A.e_NoSet) rfl T.g_NoSet rfl) (pa_cons (pe_glob (v := .ref A.e_NoText) rfl T.g_NoText rfl) (pa_cons (pe_glob (v := .ref A.e_NotHeld) rfl T.g_NotHeld rfl) (pa_cons (pe_glob (v := .ref A.e_Unlike) rfl T.g_Unlike rfl) pa_nil))))))))))) pa_nil))))
        (pss_one (ps_ret (pe_and (pe_callB (call_isEx hz hf) (by rfl) T.z_isinstance (show bootBuiltins "isinstance" = some (.builtin "isinstance") by decide +kernel) (pa_cons (pv 1) (pa_cons (pe_glob (v := .ref A.e_NoLetter) rfl T.g_NoLetter rfl) pa_nil))) (pe_and (pe_callB (call_isEx hz hf) (by rfl) T.z_isinstance (show bootBuiltins "isinstance" = some (.builtin "isinstance") by decide +kernel) (pa_cons (pv 1) (pa_cons (pe_bltn (v := .ty "ValueError") (by rfl) T.z_ValueError (by decide +kernel) rfl) pa_nil))) (pe_one (pe_not (pv 2))))))))))
      (pss_one (ps_ret pe_bl))), ?_⟩
  obtain ⟨v, rfl, hk, q⟩ := h
  refine ⟨_, rfl, v, rfl, hk, fun H1 s1 => ?_⟩
  refine ⟨true, T.ex_NoLetter_MendError, fun _ x hx => ?_, fun z => Bool.noConfusion z⟩
  refine ⟨_, rfl, by show 10 ≤ sizeLine; decide, fun tp htp => ?_⟩
  refine ⟨_, tp, _, _, false, rfl, rfl, T.ec_NoLetter, rfl, upd_same, .cons (.own _) (.cons (.own _) (.cons (.own _) (.cons (.own _) (.cons (.own _) (.cons (.own _) (.cons (.own _) (.cons (.own _) (.cons (.own _) (.cons (.own _) .nil))))))))), T.kt, ?_⟩
  refine ⟨_, rfl, _, rfl, rfl, T.ec_NoLetter, _, _, true, rfl, fun _ r => r, T.ko, _, rfl, iteT ?_⟩
  refine ⟨_, rfl, _, rfl, rfl, T.ec_NoLetter, _, _, true, rfl, fun _ r => r, T.kv, _, rfl, iteT ?_⟩
  refine ⟨_, rfl, _, rfl, ?_⟩
  exact q _ (s1.trans (same_upd htp))
/-! ### law: slots 0 _law_script, 1 _law_state, 2 _law_turn, 3 _law_letter_here, 4 _law_odd_here -/

theorem ok_law (T : Txt K mg A) : FnOk P w K mg base CX0 7 A.f_law A.d_law ["_law_script"] (sp_law K) := by
  refine T.F_law.ok sc_law (fun vs H Q E h => by first | (obtain ⟨_, rfl, _⟩ := h; rfl) | (obtain ⟨_, _, rfl, _⟩ := h; rfl) | (obtain ⟨_, _, _, rfl, _⟩ := h; rfl) | (obtain ⟨_, _, _, _, rfl, _⟩ := h; rfl) | (obtain ⟨_, _, _, _, _, rfl, _⟩ := h; rfl) | (obtain ⟨_, _, _, _, _, _, rfl, _⟩ := h; rfl) | (obtain ⟨_, _, _, _, _, _, _, rfl, _⟩ := h; rfl) | (obtain ⟨_, _, _, _, _, _, _, _, rfl, _⟩ := h; rfl) | (obtain ⟨_, _, _, _, _, _, _, _, _, rfl, _⟩ := h; rfl)) (fun cdv AA outer s H vs Q E hr h => ?_)
  refine ⟨_, (pss_cons (ps_set (i := 1) sc_law.nd rfl (.inl rfl) (pe_call (ok__law_start T) (hr.mono (by decide)) (by rfl) T.g__law_start T.k__law_start T.b__law_start .nil pass0 (pa_cons (pv 0) pa_nil)))
      (pss_cons (ps_for PassesOwn.never rfl (pi_range1 (by rfl) T.z_range (pa_cons pe_int pa_nil)) (pg_name (i := 2) sc_law.nd rfl (.inl rfl))
        (pss_cons (ps_set (i := 3) sc_law.nd rfl (.inl rfl) (pe_call (ok__law_letter T) (hr.mono (by decide)) (by rfl) T.g__law_letter T.k__law_letter T.b__law_letter .nil pass0 (pa_cons (pv 1) pa_nil)))
        (pss_cons (ps_set (i := 4) sc_law.nd rfl (.inl rfl) (pe_call (ok__law_odd T) (hr.mono (by decide)) (by rfl) T.g__law_odd T.k__law_odd T.b__law_odd .nil pass0 (pa_cons (pv 1) (pa_cons (pv 3) pa_nil))))
        (pss_one (ps_if (PW.pt (pw_or (pt_cmpR op_notBl (pe_call (ok_is_letter T) (hr.mono (by decide)) (by rfl) T.g_is_letter T.k_is_letter T.b_is_letter .nil pass0 (pa_cons (pv 3) pa_nil)) pe_bl (nomark _)) (pw_or (pt_cmpR op_notBl (pe_call (ok_is_letter T) (hr.mono (by decide)) (by rfl) T.g_is_letter T.k_is_letter T.b_is_letter .nil pass0 (pa_cons (pv 4) pa_nil)) pe_bl (nomark _)) (pw_or1 (pt_not (pt_val (pe_call (ok__law_refused T) (hr.mono (by decide)) (by rfl) T.g__law_refused T.k__law_refused T.b__law_refused .nil pass0 (pa_cons (pv 4) pa_nil)))))))) (pss_one (ps_ret pe_bl)) pss_nil)))))
      (pss_one (ps_ret (pe_cmpR op_isBl (pe_call (ok_is_letter T) (hr.mono (by decide)) (by rfl) T.g_is_letter T.k_is_letter T.b_is_letter .nil pass0 (pa_cons (pe_tup (pa_cons pe_int (pa_cons pe_int (pa_cons pe_int (pa_cons (pe_tup (pa_cons pe_int (pa_cons pe_int pa_nil))) pa_nil))))) pa_nil)) pe_bl (nomark _)))))), ?_⟩
  obtain ⟨a, ns, rfl, hS, hlen, q⟩ := h
  refine ⟨_, rfl, a, ns, rfl, hS, fun st H1 nst sm hSt => ?_⟩
  refine ⟨8, rfl, by decide, by decide, for_range (n := 8) (fun i σ H2 => ∃ w, σ = some (.ref a) :: some (.ref st) :: w ∧ w.length = 3 ∧ Go K st H1 H2) ⟨_, rfl, rfl, Go.refl _⟩ ?_ ?_⟩
  · rintro i σ H2 hi ⟨w, rfl, hw, g⟩
    obtain ⟨v2, v3, v4, rfl⟩ : ∃ v2 v3 v4, w = [v2, v3, v4] := by
      match w, hw with
      | [v2, v3, v4], _ => exact ⟨_, _, _, rfl⟩
    have S2 := g.st _ hSt
    refine ⟨_, rfl, a, st, rfl, S2, fun r s t d c xs H3 g3 hr hs hl t0 d0 c0 c1 hx => ?_⟩
    have S3 := g3.st _ S2
    refine ⟨_, rfl, _, rfl, a, st, r, s, t, d, c, xs, rfl, S3, hr, hs, hl, fun v H4 g4 hk => ?_⟩
    have hr4 := g4.tup S3 hr
    have hs4 := g4.tup S3 hs
    have lk : LetK H4 (.ref r) true := by
      refine .four hr4 hs4 (by rw [List.length_map]; exact hl) (.int _) (.int _) (.int _) (fun x hx => ?_) ?_
      · obtain ⟨z, _, rfl⟩ := List.mem_map.mp hx
        exact .int _
      · have e1 : wholeB (.int t) = true := decide_eq_true t0
        have e2 : wholeB (.int d) = true := decide_eq_true d0
        rw [e1, e2, Bool.true_and, Bool.true_and]
        symm
        rw [List.all_eq_true]
        intro x hx'
        have key : ∀ z : Int, 0 ≤ z → z < 97 → restB (.int z) = true := fun z z0 z1 => by
          show (decide (0 ≤ z) && decide (z < 97)) = true
          rw [decide_eq_true z0, decide_eq_true z1]
          rfl
        rcases List.mem_cons.mp hx' with rfl | hx'
        · exact key c c0 c1
        · obtain ⟨z, hz, rfl⟩ := List.mem_map.mp hx'
          exact key z (hx z hz).1 (hx z hz).2
    refine ⟨_, rfl, _, true, rfl, lk, fun H5 s5 => ?_⟩
    have hk5 := hk.same s5
    refine ⟨_, _, rfl, rfl, _, rfl, iteF ?_⟩
    refine ⟨_, rfl, _, false, rfl, hk5, fun H6 s6 => ⟨_, _, rfl, rfl, _, rfl, iteF ?_⟩⟩
    refine ⟨_, rfl, v, rfl, hk5.same s6, fun H7 s7 => ⟨true, rfl, iteF ?_⟩⟩
    exact ⟨_, rfl, rfl, (g.trans g3).trans (g4.trans (Go.of (s5.trans (s6.trans s7))))⟩
  · rintro σ H2 ⟨w, rfl, hw, g⟩
    refine ⟨by show 2 ≤ sizeLine; decide, fun p1 hp1 => ⟨by show 4 ≤ sizeLine; decide, fun p2 hp2 => ?_⟩⟩
    have s2 := same_upd (o := .tup [.int 0, .int 0, .int 96, .ref p1]) hp2
    have lk : LetK (upd (upd H2 p1 (.tup [.int 96, .int 0])) p2 (.tup [.int 0, .int 0, .int 96, .ref p1])) (.ref p2) true :=
      .four upd_same (s2 _ _ upd_same) (by decide) (.int _) (.int _) (.int _) (fun x hx => by
        simp only [List.mem_cons, List.not_mem_nil, or_false] at hx
        rcases hx with rfl | rfl <;> exact .int _) (by decide)
    refine ⟨_, true, rfl, lk, fun H3 s3 => ?_⟩
    exact ⟨_, _, rfl, rfl, q _⟩
end
theorem all_mk {l : PySem.W.OpenLaw} {w : World} {K : PySem.W.Frag} {h : Heap} {mg : Str → Option Value} {fa : Addr} (X : K.In h) (G : h.Ns mainGlobals mg) (hfa : mg "law" = some (.ref fa))
    {f0 : Addr} {od0 an0 : Option Addr} {sl0 : Array (Option Value)} {oc0 kV0 dc0 pm0 cd0 ct0 : Value} {f1 : Addr} {od1 an1 : Option Addr} {sl1 : Array (Option Value)} {oc1 kV1 dc1 pm1 cd1 ct1 : Value} {f2 : Addr} {od2 an2 : Option Addr} {sl2 : Array (Option Value)} {oc2 kV2 dc2 pm2 cd2 ct2 : Value} {f3 : Addr} {od3 an3 : Option Addr} {sl3 : Array (Option Value)} {oc3 kV3 dc3 pm3 cd3 ct3 : Value} {f4 : Addr} {od4 an4 : Option Addr} {sl4 : Array (Option Value)} {oc4 kV4 dc4 pm4 cd4 ct4 : Value} {f5 : Addr} {od5 an5 : Option Addr} {sl5 : Array (Option Value)} {oc5 kV5 dc5 pm5 cd5 ct5 : Value} {f6 : Addr} {od6 an6 : Option Addr} {sl6 : Array (Option Value)} {oc6 kV6 dc6 pm6 cd6 ct6 : Value} {f7 : Addr} {od7 an7 : Option Addr} {sl7 : Array (Option Value)} {oc7 kV7 dc7 pm7 cd7 ct7 : Value} {f8 : Addr} {od8 an8 : Option Addr} {sl8 : Array (Option Value)} {oc8 kV8 dc8 pm8 cd8 ct8 : Value} {f9 : Addr} {od9 an9 : Option Addr} {sl9 : Array (Option Value)} {oc9 kV9 dc9 pm9 cd9 ct9 : Value} {f10 : Addr} {od10 an10 : Option Addr} {sl10 : Array (Option Value)} {oc10 kV10 dc10 pm10 cd10 ct10 : Value} {f11 : Addr} {od11 an11 : Option Addr} {sl11 : Array (Option Value)} {oc11 kV11 dc11 pm11 cd11 ct11 : Value} {eMendError : Addr} {eNoSet : Addr} {eNoMark : Addr} {eNoInverse : Addr} {eNoCount : Addr} {eNoHand : Addr} {eNoLetter : Addr} {eNoText : Addr} {eHeld : Addr} {eNotHeld : Addr} {eUnlike : Addr} {eLate : Addr} {tWHEEL : Nat} {tMOST_SUMS : Nat}
    (a0 : PySem.W.nsIn K mainGlobals "is_whole" = some (some (.ref f0)))
    (l0 : K.lookup f0 = some ⟨oc0, od0, .func (PySem.W.fnOf "is_whole" "is_whole" (defArgs s_is_whole) (defBody s_is_whole) (defScope s_is_whole) .none kV0 dc0 pm0 an0 cd0 ct0), sl0⟩)
    (c0 : PySem.W.codeIn K cd0 "is_whole" = true)
    (k0 : PySem.W.keepIn K (.ref f0) = true)
    (a1 : PySem.W.nsIn K mainGlobals "is_rest" = some (some (.ref f1)))
    (l1 : K.lookup f1 = some ⟨oc1, od1, .func (PySem.W.fnOf "is_rest" "is_rest" (defArgs s_is_rest) (defBody s_is_rest) (defScope s_is_rest) .none kV1 dc1 pm1 an1 cd1 ct1), sl1⟩)
    (c1 : PySem.W.codeIn K cd1 "is_rest" = true)
    (k1 : PySem.W.keepIn K (.ref f1) = true)
    (a2 : PySem.W.nsIn K mainGlobals "is_letter" = some (some (.ref f2)))
    (l2 : K.lookup f2 = some ⟨oc2, od2, .func (PySem.W.fnOf "is_letter" "is_letter" (defArgs s_is_letter) (defBody s_is_letter) (defScope s_is_letter) .none kV2 dc2 pm2 an2 cd2 ct2), sl2⟩)
    (c2 : PySem.W.codeIn K cd2 "is_letter" = true)
    (k2 : PySem.W.keepIn K (.ref f2) = true)
    (a3 : PySem.W.nsIn K mainGlobals "refuse_unless_letter" = some (some (.ref f3)))
    (l3 : K.lookup f3 = some ⟨oc3, od3, .func (PySem.W.fnOf "refuse_unless_letter" "refuse_unless_letter" (defArgs s_refuse_unless_letter) (defBody s_refuse_unless_letter) (defScope s_refuse_unless_letter) .none kV3 dc3 pm3 an3 cd3 ct3), sl3⟩)
    (c3 : PySem.W.codeIn K cd3 "refuse_unless_letter" = true)
    (k3 : PySem.W.keepIn K (.ref f3) = true)
    (a4 : PySem.W.nsIn K mainGlobals "written" = some (some (.ref f4)))
    (l4 : K.lookup f4 = some ⟨oc4, od4, .func (PySem.W.fnOf "written" "written" (defArgs s_written) (defBody s_written) (defScope s_written) .none kV4 dc4 pm4 an4 cd4 ct4), sl4⟩)
    (c4 : PySem.W.codeIn K cd4 "written" = true)
    (k4 : PySem.W.keepIn K (.ref f4) = true)
    (a5 : PySem.W.nsIn K mainGlobals "_law_start" = some (some (.ref f5)))
    (l5 : K.lookup f5 = some ⟨oc5, od5, .func (PySem.W.fnOf "_law_start" "_law_start" (defArgs s__law_start) (defBody s__law_start) (defScope s__law_start) .none kV5 dc5 pm5 an5 cd5 ct5), sl5⟩)
    (c5 : PySem.W.codeIn K cd5 "_law_start" = true)
    (k5 : PySem.W.keepIn K (.ref f5) = true)
    (a6 : PySem.W.nsIn K mainGlobals "_law_drawn" = some (some (.ref f6)))
    (l6 : K.lookup f6 = some ⟨oc6, od6, .func (PySem.W.fnOf "_law_drawn" "_law_drawn" (defArgs s__law_drawn) (defBody s__law_drawn) (defScope s__law_drawn) .none kV6 dc6 pm6 an6 cd6 ct6), sl6⟩)
    (c6 : PySem.W.codeIn K cd6 "_law_drawn" = true)
    (k6 : PySem.W.keepIn K (.ref f6) = true)
    (a7 : PySem.W.nsIn K mainGlobals "_law_letter" = some (some (.ref f7)))
    (l7 : K.lookup f7 = some ⟨oc7, od7, .func (PySem.W.fnOf "_law_letter" "_law_letter" (defArgs s__law_letter) (defBody s__law_letter) (defScope s__law_letter) .none kV7 dc7 pm7 an7 cd7 ct7), sl7⟩)
    (c7 : PySem.W.codeIn K cd7 "_law_letter" = true)
    (k7 : PySem.W.keepIn K (.ref f7) = true)
    (a8 : PySem.W.nsIn K mainGlobals "_law_odd_number" = some (some (.ref f8)))
    (l8 : K.lookup f8 = some ⟨oc8, od8, .func (PySem.W.fnOf "_law_odd_number" "_law_odd_number" (defArgs s__law_odd_number) (defBody s__law_odd_number) (defScope s__law_odd_number) .none kV8 dc8 pm8 an8 cd8 ct8), sl8⟩)
    (c8 : PySem.W.codeIn K cd8 "_law_odd_number" = true)
    (k8 : PySem.W.keepIn K (.ref f8) = true)
    (a9 : PySem.W.nsIn K mainGlobals "_law_odd" = some (some (.ref f9)))
    (l9 : K.lookup f9 = some ⟨oc9, od9, .func (PySem.W.fnOf "_law_odd" "_law_odd" (defArgs s__law_odd) (defBody s__law_odd) (defScope s__law_odd) .none kV9 dc9 pm9 an9 cd9 ct9), sl9⟩)
    (c9 : PySem.W.codeIn K cd9 "_law_odd" = true)
    (k9 : PySem.W.keepIn K (.ref f9) = true)
    (a10 : PySem.W.nsIn K mainGlobals "_law_refused" = some (some (.ref f10)))
    (l10 : K.lookup f10 = some ⟨oc10, od10, .func (PySem.W.fnOf "_law_refused" "_law_refused" (defArgs s__law_refused) (defBody s__law_refused) (defScope s__law_refused) .none kV10 dc10 pm10 an10 cd10 ct10), sl10⟩)
    (c10 : PySem.W.codeIn K cd10 "_law_refused" = true)
    (k10 : PySem.W.keepIn K (.ref f10) = true)
    (a11 : PySem.W.nsIn K mainGlobals "law" = some (some (.ref f11)))
    (l11 : K.lookup f11 = some ⟨oc11, od11, .func (PySem.W.fnOf "law" "law" (defArgs s_law) (defBody s_law) (defScope s_law) .none kV11 dc11 pm11 an11 cd11 ct11), sl11⟩)
    (c11 : PySem.W.codeIn K cd11 "law" = true)
    (k11 : PySem.W.keepIn K (.ref f11) = true)
    (gMendError : PySem.W.nsIn K mainGlobals "MendError" = some (some (.ref eMendError)))
    (gNoSet : PySem.W.nsIn K mainGlobals "NoSet" = some (some (.ref eNoSet)))
    (gNoMark : PySem.W.nsIn K mainGlobals "NoMark" = some (some (.ref eNoMark)))
    (gNoInverse : PySem.W.nsIn K mainGlobals "NoInverse" = some (some (.ref eNoInverse)))
    (gNoCount : PySem.W.nsIn K mainGlobals "NoCount" = some (some (.ref eNoCount)))
    (gNoHand : PySem.W.nsIn K mainGlobals "NoHand" = some (some (.ref eNoHand)))
    (gNoLetter : PySem.W.nsIn K mainGlobals "NoLetter" = some (some (.ref eNoLetter)))
    (gNoText : PySem.W.nsIn K mainGlobals "NoText" = some (some (.ref eNoText)))
    (gHeld : PySem.W.nsIn K mainGlobals "Held" = some (some (.ref eHeld)))
    (gNotHeld : PySem.W.nsIn K mainGlobals "NotHeld" = some (some (.ref eNotHeld)))
    (gUnlike : PySem.W.nsIn K mainGlobals "Unlike" = some (some (.ref eUnlike)))
    (gLate : PySem.W.nsIn K mainGlobals "Late" = some (some (.ref eLate)))
    (xNoLetter : PySem.W.excIn K eNoLetter [.type "ValueError", .type "Exception", .type "BaseException", .type "object"] "ValueError.__new__" = true)
    (kkNoLetter : PySem.W.keepIn K (.ref eNoLetter) = true)
    (bbNoLetter : PySem.W.subIn K (.ref eNoLetter) (.type "BaseException") = some true)
    (ttNoLetter : PySem.W.typeIn K (.ref eNoLetter) = some (.type "type"))
    (vWHEEL : PySem.W.nsIn K mainGlobals "WHEEL" = some (some (.int 97 tWHEEL)))
    (vMOST_SUMS : PySem.W.nsIn K mainGlobals "MOST_SUMS" = some (some (.int 96 tMOST_SUMS)))
    (zValueError : PySem.W.nsIn K mainGlobals "ValueError" = some none)
    (zall : PySem.W.nsIn K mainGlobals "all" = some none)
    (zbool : PySem.W.nsIn K mainGlobals "bool" = some none)
    (zint : PySem.W.nsIn K mainGlobals "int" = some none)
    (zisinstance : PySem.W.nsIn K mainGlobals "isinstance" = some none)
    (zlen : PySem.W.nsIn K mainGlobals "len" = some none)
    (zlist : PySem.W.nsIn K mainGlobals "list" = some none)
    (zrange : PySem.W.nsIn K mainGlobals "range" = some none)
    (ztuple : PySem.W.nsIn K mainGlobals "tuple" = some none)
    (ykv : PySem.W.kitOne K (.ref eNoLetter) (.type "ValueError") = some true)
    (yko : PySem.W.kitOne K (.ref eNoLetter) (.ref eNoLetter) = some true)
    (ykt : PySem.W.kitAny K (.ref eNoLetter) [.ref eHeld, .ref eLate, .ref eNoCount, .ref eNoHand, .ref eNoInverse, .ref eNoMark, .ref eNoSet, .ref eNoText, .ref eNotHeld, .ref eUnlike] = some false)
    (yq1_NoLetter : PySem.W.findIn K (.ref eNoLetter) "__getattribute__" = some (some (.builtin "BaseException.__getattribute__")))
    (yq2_NoLetter : PySem.W.findIn K (.ref eNoLetter) "__getattr__" = some none)
    (yq3_NoLetter : PySem.W.subIn K (.ref eNoLetter) (.type "BaseException") = some true)
    (yq4_NoLetter : PySem.W.hasDictIn K eNoLetter = true)
    (yq5_NoLetter : PySem.W.findIn K (.ref eNoLetter) "__class__" = some (some (.builtin "object.__class__")))
    (yq6_NoLetter : PySem.W.specialIn K (.builtin "object.__class__") "__get__" = some (some (.builtin "getset_descriptor.__get__")))
    (yq7_NoLetter : PySem.W.takesIn K (.builtin "object.__class__") = some true)
    (yq8_NoLetter : PySem.W.mroIn K eNoLetter (.type "object") = some true)
    (ys_NoLetter_MendError : PySem.W.subIn K (.ref eNoLetter) (.ref eMendError) = some true)
    (yh1_MendError : PySem.W.subIn K (.ref eMendError) (.type "BaseException") = some true)
    (yh2_MendError : PySem.W.hasDictIn K eMendError = true)
    (yh3_MendError : PySem.W.typeIn K (.ref eMendError) = some (.type "type")) :
    ∃ fd : FuncData, (∀ (s : Shared) (v : Value), BindsTo s fd ⟨[v], []⟩ [("_law_script", v)]) ∧ ∀ base : Heap, K.In base → base.Ns mainGlobals mg → FnOk l.prog w K mg base CX0 7 fa fd ["_law_script"] (sp_law K) := by
  have e := hfa.symm.trans (PySem.W.mg_of X G a11)
  cases e
  have F0 := fun_mk (st := s_is_whole) l0 c0 k0
  have b0 := F0.binds (ps := ["thing"]) fun _ _ _ _ _ _ us hl => match us, hl with | [_], _ => rfl
  have F1 := fun_mk (st := s_is_rest) l1 c1 k1
  have b1 := F1.binds (ps := ["thing"]) fun _ _ _ _ _ _ us hl => match us, hl with | [_], _ => rfl
  have F2 := fun_mk (st := s_is_letter) l2 c2 k2
  have b2 := F2.binds (ps := ["thing"]) fun _ _ _ _ _ _ us hl => match us, hl with | [_], _ => rfl
  have F3 := fun_mk (st := s_refuse_unless_letter) l3 c3 k3
  have b3 := F3.binds (ps := ["thing"]) fun _ _ _ _ _ _ us hl => match us, hl with | [_], _ => rfl
  have F4 := fun_mk (st := s_written) l4 c4 k4
  have b4 := F4.binds (ps := ["letter"]) fun _ _ _ _ _ _ us hl => match us, hl with | [_], _ => rfl
  have F5 := fun_mk (st := s__law_start) l5 c5 k5
  have b5 := F5.binds (ps := ["_law_script"]) fun _ _ _ _ _ _ us hl => match us, hl with | [_], _ => rfl
  have F6 := fun_mk (st := s__law_drawn) l6 c6 k6
  have b6 := F6.binds (ps := ["_law_state", "_law_many"]) fun _ _ _ _ _ _ us hl => match us, hl with | [_, _], _ => rfl
  have F7 := fun_mk (st := s__law_letter) l7 c7 k7
  have b7 := F7.binds (ps := ["_law_state"]) fun _ _ _ _ _ _ us hl => match us, hl with | [_], _ => rfl
  have F8 := fun_mk (st := s__law_odd_number) l8 c8 k8
  have b8 := F8.binds (ps := ["_law_state", "_law_most"]) fun _ _ _ _ _ _ us hl => match us, hl with | [_, _], _ => rfl
  have F9 := fun_mk (st := s__law_odd) l9 c9 k9
  have b9 := F9.binds (ps := ["_law_state", "_law_letter_here"]) fun _ _ _ _ _ _ us hl => match us, hl with | [_, _], _ => rfl
  have F10 := fun_mk (st := s__law_refused) l10 c10 k10
  have b10 := F10.binds (ps := ["_law_thing"]) fun _ _ _ _ _ _ us hl => match us, hl with | [_], _ => rfl
  have F11 := fun_mk (st := s_law) l11 c11 k11
  have b11 := F11.binds (ps := ["_law_script"]) fun _ _ _ _ _ _ us hl => match us, hl with | [_], _ => rfl
  have T : Txt K mg (⟨f0, _, f1, _, f2, _, f3, _, f4, _, f5, _, f6, _, f7, _, f8, _, f9, _, f10, _, fa, _, eMendError, eNoSet, eNoMark, eNoInverse, eNoCount, eNoHand, eNoLetter, eNoText, eHeld, eNotHeld, eUnlike, eLate, tWHEEL, tMOST_SUMS⟩ : Ad) := ⟨F0, k0, PySem.W.mg_of X G a0, b0, F1, k1, PySem.W.mg_of X G a1, b1, F2, k2, PySem.W.mg_of X G a2, b2, F3, k3, PySem.W.mg_of X G a3, b3, F4, k4, PySem.W.mg_of X G a4, b4, F5, k5, PySem.W.mg_of X G a5, b5, F6, k6, PySem.W.mg_of X G a6, b6, F7, k7, PySem.W.mg_of X G a7, b7, F8, k8, PySem.W.mg_of X G a8, b8, F9, k9, PySem.W.mg_of X G a9, b9, F10, k10, PySem.W.mg_of X G a10, b10, F11, k11, PySem.W.mg_of X G a11, b11, PySem.W.mg_of X G vWHEEL, PySem.W.mg_of X G vMOST_SUMS, PySem.W.mg_none_of X G zValueError, PySem.W.mg_none_of X G zall, PySem.W.mg_none_of X G zbool, PySem.W.mg_none_of X G zint, PySem.W.mg_none_of X G zisinstance, PySem.W.mg_none_of X G zlen, PySem.W.mg_none_of X G zlist, PySem.W.mg_none_of X G zrange, PySem.W.mg_none_of X G ztuple, PySem.W.mg_of X G gMendError, PySem.W.mg_of X G gNoSet, PySem.W.mg_of X G gNoMark, PySem.W.mg_of X G gNoInverse, PySem.W.mg_of X G gNoCount, PySem.W.mg_of X G gNoHand, PySem.W.mg_of X G gNoLetter, PySem.W.mg_of X G gNoText, PySem.W.mg_of X G gHeld, PySem.W.mg_of X G gNotHeld, PySem.W.mg_of X G gUnlike, PySem.W.mg_of X G gLate, xNoLetter, kkNoLetter, bbNoLetter, ttNoLetter, ykv, yko, ykt, yq1_NoLetter, yq2_NoLetter, yq3_NoLetter, yq4_NoLetter, yq5_NoLetter, yq6_NoLetter, yq7_NoLetter, yq8_NoLetter, ys_NoLetter_MendError, yh1_MendError, yh2_MendError, yh3_MendError⟩
  exact ⟨PySem.W.fnOf "law" "law" (defArgs s_law) (defBody s_law) (defScope s_law) .none kV11 dc11 pm11 an11 cd11 ct11, fun s v => .of_eq rfl, fun base _ _ => ok_law T⟩
end My
open PySem PySem.W PyProof.Rows
set_option maxHeartbeats 0 in
theorem PySem.Challenge.cw_setmend_k30_what_is_a_letter_holds : PySem.Challenge.rw_setmend_k30_what_is_a_letter.Holds := by
  w_on; o_law; k_head; (case hw => w_witness2)
  k_fill
  refine L2.walk_ofB (l := PySem.Challenge.rw_setmend_k30_what_is_a_letter) (n := 63) (k := 7) (x := "_law_script") (CX := fun _ => L2.CX0) (sp := fun w => My.sp_law _) rfl (by decide) rfl ⟨rfl, by decide, by decide⟩ (fun w h Y => PySem.W.kIn_of Y) ?F (fun _ H a ns hl hb hO hS => ⟨a, ns, rfl, hS, hl, fun _ => rfl⟩) (fun _ _ _ _ _ h => h)
  case F =>
    intro w mg fa h KX G hmg
    refine' My.all_mk KX G hmg ?a0 ?l0 ?c0 ?k0 ?a1 ?l1 ?c1 ?k1 ?a2 ?l2 ?c2 ?k2 ?a3 ?l3 ?c3 ?k3 ?a4 ?l4 ?c4 ?k4 ?a5 ?l5 ?c5 ?k5 ?a6 ?l6 ?c6 ?k6 ?a7 ?l7 ?c7 ?k7 ?a8 ?l8 ?c8 ?k8 ?a9 ?l9 ?c9 ?k9 ?a10 ?l10 ?c10 ?k10 ?a11 ?l11 ?c11 ?k11 ?gMendError ?gNoSet ?gNoMark ?gNoInverse ?gNoCount ?gNoHand ?gNoLetter ?gNoText ?gHeld ?gNotHeld ?gUnlike ?gLate ?xNoLetter ?kkNoLetter ?bbNoLetter ?ttNoLetter ?vWHEEL ?vMOST_SUMS ?zValueError ?zall ?zbool ?zint ?zisinstance ?zlen ?zlist ?zrange ?ztuple ?ykv ?yko ?ykt ?yq1_NoLetter ?yq2_NoLetter ?yq3_NoLetter ?yq4_NoLetter ?yq5_NoLetter ?yq6_NoLetter ?yq7_NoLetter ?yq8_NoLetter ?ys_NoLetter_MendError ?yh1_MendError ?yh2_MendError ?yh3_MendError
    (case a0 => first | k_is | (first | rfl | k_is)); (case l0 => first | k_is | (first | rfl | k_is)); (case c0 => first | k_is | (first | rfl | k_is)); (case k0 => first | k_is | (first | rfl | k_is)); (case a1 => first | k_is | (first | rfl | k_is)); (case l1 => first | k_is | (first | rfl | k_is)); (case c1 => first | k_is | (first | rfl | k_is)); (case k1 => first | k_is | (first | rfl | k_is)); (case a2 => first | k_is | (first | rfl | k_is)); (case l2 => first | k_is | (first | rfl | k_is)); (case c2 => first | k_is | (first | rfl | k_is)); (case k2 => first | k_is | (first | rfl | k_is)); (case a3 => first | k_is | (first | rfl | k_is)); (case l3 => first | k_is | (first | rfl | k_is)); (case c3 => first | k_is | (first | rfl | k_is)); (case k3 => first | k_is | (first | rfl | k_is)); (case a4 => first | k_is | (first | rfl | k_is)); (case l4 => first | k_is | (first | rfl | k_is)); (case c4 => first | k_is | (first | rfl | k_is)); (case k4 => first | k_is | (first | rfl | k_is)); (case a5 => first | k_is | (first | rfl | k_is)); (case l5 => first | k_is | (first | rfl | k_is)); (case c5 => first | k_is | (first | rfl | k_is)); (case k5 => first | k_is | (first | rfl | k_is)); (case a6 => first | k_is | (first | rfl | k_is)); (case l6 => first | k_is | (first | rfl | k_is)); (case c6 => first | k_is | (first | rfl | k_is)); (case k6 => first | k_is | (first | rfl | k_is)); (case a7 => first | k_is | (first | rfl | k_is)); (case l7 => first | k_is | (first | rfl | k_is)); (case c7 => first | k_is | (first | rfl | k_is)); (case k7 => first | k_is | (first | rfl | k_is)); (case a8 => first | k_is | (first | rfl | k_is)); (case l8 => first | k_is | (first | rfl | k_is)); (case c8 => first | k_is | (first | rfl | k_is)); (case k8 => first | k_is | (first | rfl | k_is)); (case a9 => first | k_is | (first | rfl | k_is)); (case l9 => first | k_is | (first | rfl | k_is)); (case c9 => first | k_is | (first | rfl | k_is)); (case k9 => first | k_is | (first | rfl | k_is)); (case a10 => first | k_is | (first | rfl | k_is)); (case l10 => first | k_is | (first | rfl | k_is)); (case c10 => first | k_is | (first | rfl | k_is)); (case k10 => first | k_is | (first | rfl | k_is)); (case a11 => first | k_is | (first | rfl | k_is)); (case l11 => first | k_is | (first | rfl | k_is)); (case c11 => first | k_is | (first | rfl | k_is)); (case k11 => first | k_is | (first | rfl | k_is)); (case gMendError => first | k_is | (first | rfl | k_is)); (case gNoSet => first | k_is | (first | rfl | k_is)); (case gNoMark => first | k_is | (first | rfl | k_is)); (case gNoInverse => first | k_is | (first | rfl | k_is)); (case gNoCount => first | k_is | (first | rfl | k_is)); (case gNoHand => first | k_is | (first | rfl | k_is)); (case gNoLetter => first | k_is | (first | rfl | k_is)); (case gNoText => first | k_is | (first | rfl | k_is)); (case gHeld => first | k_is | (first | rfl | k_is)); (case gNotHeld => first | k_is | (first | rfl | k_is)); (case gUnlike => first | k_is | (first | rfl | k_is)); (case gLate => first | k_is | (first | rfl | k_is)); (case xNoLetter => k_exc); (case kkNoLetter => first | k_is | (first | rfl | k_is)); (case bbNoLetter => first | k_is | (first | rfl | k_is)); (case ttNoLetter => first | k_is | (first | rfl | k_is)); (case vWHEEL => first | k_is | (first | rfl | k_is)); (case vMOST_SUMS => first | k_is | (first | rfl | k_is)); (case zValueError => first | k_is | (first | rfl | k_is)); (case zall => first | k_is | (first | rfl | k_is)); (case zbool => first | k_is | (first | rfl | k_is)); (case zint => first | k_is | (first | rfl | k_is)); (case zisinstance => first | k_is | (first | rfl | k_is)); (case zlen => first | k_is | (first | rfl | k_is)); (case zlist => first | k_is | (first | rfl | k_is)); (case zrange => first | k_is | (first | rfl | k_is)); (case ztuple => first | k_is | (first | rfl | k_is)); (case ykv => first | k_is | (first | rfl | k_is)); (case yko => first | k_is | (first | rfl | k_is)); (case ykt => first | k_is | (first | rfl | k_is)); (case yq1_NoLetter => first | k_is | (first | rfl | k_is)); (case yq2_NoLetter => first | k_is | (first | rfl | k_is)); (case yq3_NoLetter => first | k_is | (first | rfl | k_is)); (case yq4_NoLetter => first | k_is | (first | rfl | k_is)); (case yq5_NoLetter => first | k_is | (first | rfl | k_is)); (case yq6_NoLetter => first | k_is | (first | rfl | k_is)); (case yq7_NoLetter => first | k_is | (first | rfl | k_is)); (case yq8_NoLetter => first | k_is | (first | rfl | k_is)); (case ys_NoLetter_MendError => first | k_is | (first | rfl | k_is)); (case yh1_MendError => first | k_is | (first | rfl | k_is)); (case yh2_MendError => first | k_is | (first | rfl | k_is)); (case yh3_MendError => first | k_is | (first | rfl | k_is))
