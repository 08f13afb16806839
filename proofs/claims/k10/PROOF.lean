import PyProof.Rows.All
import Wide.All
import OpenK.AllK
import Wide.FinOn
import PyProof.EqAt
import PyProof.EqKinds
import PyProof.TupleCall
import HandS.ForMost
import HandS.Wide
import HandS.EndBits
import HandS.IsInst
import HandS.TupAny
import HandS.Exc
import HandS.TryOnly
import HandS.ExcOwn
import HandS.WordsExc
import HandS.More
import HandS.Star
import HandS.Rev
import HandS.Style
import HandS.Evl
import HandS.Walk
import HandS.Zip
import KE.GoesEnum
import PySem.Challenge.RW_setmend_k10_equations
set_option Elab.async false
set_option linter.all false
set_option maxRecDepth 100000
set_option maxHeartbeats 4000000
namespace My
open PySem PySem.Spec PyProof.Rows L2
/-! ### heaps and the drawing state -/
theorem same_upd {H : Hp} {p : Addr} {o : HO} (h : H p = none) : Same H (upd H p o) := fun b x e => by
  rw [upd_ne (ne_of_none e h)]
  exact e
theorem rd_same {H H' : Hp} {a : Addr} {u : HO} (e : Same H H') (h : Rd H a u) : Rd H' a u := by
  rcases h with h | ⟨o, h⟩
  · exact .inl (e a _ h)
  · exact .inr ⟨o, e a _ h⟩
theorem seqT_same {K : PySem.W.Frag} {H H' : Hp} {a : Addr} {xs : List V} (e : Same H H') (h : SqT K H a xs) : SqT K H' a xs := by
  rcases h with h | h
  · exact .inl (rd_same e h)
  · exact .inr h
theorem int_at {ns : List Int} {i : Nat} {y : V} (h : (ns.map V.int)[i]? = some y) : ∃ z, ns[i]? = some z ∧ y = V.int z := by
  rw [List.getElem?_map] at h
  cases e : ns[i]? with
  | none =>
    rw [e] at h
    cases h
  | some z =>
    rw [e] at h
    exact ⟨z, rfl, (Option.some.inj h).symm⟩
/-! rules whose frame is a comprehension's -/
section
variable {X : Cx} {K : PySem.W.Frag}
theorem ix_tupK (h : X.K = K) : IxR X (rIxT K) := h ▸ ix_tup
theorem ix_listK (h : X.K = K) : IxR X (rIxL K) := h ▸ ix_list
theorem op_in_seqK (h : X.K = K) : OpR X (compareOp .In) (rIn K false) := h ▸ op_in_seq
theorem op_notIn_seqK (h : X.K = K) : OpR X (compareOp .NotIn) (rIn K true) := h ▸ op_notIn_seq
theorem call_isiK' (h : X.K = K) : CallR X (.builtin "isinstance") (rIsi K) := h ▸ call_isi
def rLenQ (K : PySem.W.Frag) : List V → Hp → VK → Prop := fun xs H Q => ∃ p ys, xs = [.ref p] ∧ (SqL K H p ys ∨ SqT K H p ys) ∧ Q (.int ys.length) H
theorem call_len_seqK (h : X.K = K) : CallR X (.builtin "len") (rLenQ K) := h ▸ call_len_seq
end
/-- the law's drawing state: a list of the script, how many were taken, a mixed number, a rest -/
structure StAt (K : PySem.W.Frag) (a st : Addr) (H : Hp) : Prop where
  ex : ∃ i m r : Int, 0 ≤ i ∧ H st = some (.lst [.ref a, .int i, .int m, .int r])
  sc : ∃ ns : List Int, SqL K H a (ns.map V.int)
/-- what drawing may do to the heap -/
structure Go (K : PySem.W.Frag) (st : Addr) (H H' : Hp) : Prop where
  keep : ∀ b o, b ≠ st → H b = some o → H' b = some o
  st : ∀ a, StAt K a st H → StAt K a st H'
section
variable {K : PySem.W.Frag} {st a : Addr} {H H1 H2 H' : Hp}
theorem Go.refl (H : Hp) : Go K st H H := ⟨fun _ _ _ e => e, fun _ h => h⟩
theorem Go.trans (x : Go K st H H1) (y : Go K st H1 H2) : Go K st H H2 := ⟨fun b o hb e => y.keep b o hb (x.keep b o hb e), fun a h => y.st a (x.st a h)⟩
theorem StAt.same (e : Same H H') (h : StAt K a st H) : StAt K a st H' := by
  obtain ⟨⟨i, m, r, hi, hs⟩, ns, hn⟩ := h
  exact ⟨⟨i, m, r, hi, e _ _ hs⟩, ns, e.seq hn⟩
theorem Go.of (e : Same H H') : Go K st H H' := ⟨fun b o _ h => e b o h, fun _ h => h.same e⟩
theorem Go.new {p : Addr} {o : HO} (h : H p = none) : Go K st H (upd H p o) := Go.of (same_upd h)
theorem StAt.ne {b : Addr} {o : HO} (h : StAt K a st H) (e : H b = some o) (hb : ∀ xs, o ≠ .lst xs) : b ≠ st := fun z => by
  obtain ⟨⟨i, m, r, _, hs⟩, _⟩ := h
  rw [z, hs] at e
  exact hb _ (Option.some.inj e).symm
/-- a stored state -/
theorem StAt.upd {i m r : Int} (h : StAt K a st H) (hi : 0 ≤ i) : StAt K a st (upd H st (.lst [.ref a, .int i, .int m, .int r])) := by
  obtain ⟨⟨i0, m0, r0, hi0, hs⟩, ns, hn⟩ := h
  refine ⟨⟨i, m, r, hi, upd_same⟩, ns, ?_⟩
  rcases hn with (hn | ⟨o, hn⟩) | hn
  · have hne : a ≠ st := fun z => by
      rw [z, hs] at hn
      have e := HO.lst.inj (Option.some.inj hn)
      cases ns with
      | nil => cases e
      | cons n r => cases e
    exact .inl (.inl (by rw [upd_ne hne]; exact hn))
  · have hne : a ≠ st := fun z => by
      rw [z, hs] at hn
      cases hn
    exact .inl (.inr ⟨o, by rw [upd_ne hne]; exact hn⟩)
  · exact .inr hn
theorem Go.upd {i m r : Int} (h : StAt K a st H) (hi : 0 ≤ i) : Go K st H (L2.upd H st (.lst [.ref a, .int i, .int m, .int r])) := by
  refine ⟨fun b o hb e => by rw [upd_ne hb]; exact e, fun a' h' => ?_⟩
  have e : a' = a := by
    obtain ⟨⟨i0, m0, r0, hi0, hs⟩, _⟩ := h
    obtain ⟨⟨i1, m1, r1, hi1, hs1⟩, _⟩ := h'
    rw [hs] at hs1
    injection hs1 with e1
    injection e1 with e2
    injection e2 with e3
    injection e3 with e4
    exact e4.symm
  subst e
  exact h'.upd hi
theorem Go.seqT {b : Addr} {xs : List V} (g : Go K st H H') (h : StAt K a st H) (hb : SqT K H b xs) : SqT K H' b xs := by
  rcases hb with (e | ⟨o, e⟩) | e
  · exact .inl (.inl (g.keep b _ (h.ne e (fun _ z => nomatch z)) e))
  · exact .inl (.inr ⟨o, g.keep b _ (h.ne e (fun _ z => nomatch z)) e⟩)
  · exact .inr e
theorem Go.free {p : Addr} (g : Go K st H H') (h : StAt K a st H) (hp : H' p = none) : H p = none := by
  cases e : H p with
  | none => rfl
  | some o =>
    by_cases hq : p = st
    · obtain ⟨⟨i, m, r, _, hs⟩, _⟩ := g.st a h
      rw [hq, hs] at hp
      cases hp
    · rw [g.keep p o hq e] at hp
      cases hp
end
theorem StAt.fresh {K : PySem.W.Frag} {a st p : Addr} {H : Hp} (h : StAt K a st H) (hp : H p = none) : p ≠ st := fun z => by
  obtain ⟨⟨i, m, r, _, hs⟩, _⟩ := h
  rw [z, hs] at hp
  cases hp
/-- a new object may change -/
theorem Go.mut {K : PySem.W.Frag} {st a p : Addr} {H H' : Hp} {o : HO} (g : Go K st H H') (h : StAt K a st H) (hp : H p = none) : Go K st H (L2.upd H' p o) := by
  have hne := h.fresh hp
  refine ⟨fun b u hb e => by rw [upd_ne (ne_of_none e hp)]; exact g.keep b u hb e, fun a' h' => ?_⟩
  obtain ⟨⟨i, m, r, hi, hs⟩, _⟩ := g.st a' h'
  obtain ⟨⟨i0, m0, r0, hi0, hs0⟩, ns, hn⟩ := h'
  refine ⟨⟨i, m, r, hi, by rw [upd_ne hne.symm]; exact hs⟩, ns, ?_⟩
  rcases hn with (hn | ⟨o', hn⟩) | hn
  · have hne' : a' ≠ st := fun z => by
      rw [z, hs0] at hn
      have e := HO.lst.inj (Option.some.inj hn)
      cases ns with
      | nil => cases e
      | cons n r => cases e
    exact .inl (.inl (by rw [upd_ne (ne_of_none hn hp)]; exact g.keep _ _ hne' hn))
  · have hne' : a' ≠ st := fun z => by
      rw [z, hs0] at hn
      cases hn
    exact .inl (.inr ⟨o', by rw [upd_ne (ne_of_none hn hp)]; exact g.keep _ _ hne' hn⟩)
  · exact .inr hn
/-- [f(..) for x in range(n)], each an int of which P holds, drawing meanwhile -/
theorem lc_ints {K : PySem.W.Frag} {st a D : Addr} {H : Hp} {te : TE} {σ : L2.St} {vs : List Nat} {j : Nat} {lo : Int} {n : Nat} {Qd : Hp → Prop} (P : Int → Prop) (hS : StAt K a st H) (hD : H D = none) (hn : n ≤ 10000)
    (hw : ∀ x, wipe ((wipe σ vs).set j (some x)) vs = wipe σ vs)
    (ht : ∀ (i : Nat) (H1 : Hp), i < n → Go K st H H1 → ∀ Q : VK, (∀ (v : Int) (H2 : Hp), P v → Go K st H1 H2 → Q (.int v) H2) → te ((wipe σ vs).set j (some (.int (lo + (i : Int))))) H1 Q)
    (q : ∀ (ns : List Int) (H' : Hp), ns.length = n → (∀ z ∈ ns, P z) → Go K st H H' → H' D = some (.lst (ns.map V.int)) → Qd H') :
    ∃ W : Nat → Nat → Hp → Prop, (∃ m, W 0 m (upd H D (.lst []))) ∧ ∀ i m H, W i m H →
      ((Itr lo n).stop i H ∧ Qd H) ∨ ((Itr lo n).go i H ∧ ∃ Nx : Hp → Prop, (∀ H', Nx H' → ∃ m', m' < m ∧ W (i + 1) m' H') ∧ ∀ x H', (Itr lo n).yld i H x H' → (gName j) x (wipe σ vs) H' fun σ2 H2 => wipe σ2 vs = wipe σ vs ∧ tYes σ2 H2 fun b H3 =>
        if b = true then te σ2 H3 fun y H4 => ∃ acc, H4 D = some (.lst acc) ∧ acc.length < sizeLine ∧ Nx (upd H4 D (.lst (acc ++ [y]))) else Nx H3) := by
  refine lc_range (fun i H' => ∃ ns : List Int, ns.length = i ∧ (∀ z ∈ ns, P z) ∧ Go K st H H' ∧ H' D = some (.lst (ns.map V.int))) ⟨[], rfl, (fun _ z => nomatch z), Go.new hD, upd_same⟩ ?_ ?_
  · rintro i H1 hi ⟨ns, hl, hP, g, hd⟩
    refine ⟨hw _, ?_⟩
    show te ((wipe σ vs).set j (some (.int (lo + (i : Int))))) H1 _
    refine ht i H1 hi g _ fun v H2 hv g2 => ?_
    have hd2 : H2 D = some (.lst (ns.map V.int)) := g2.keep _ _ (hS.fresh hD) hd
    refine ⟨_, hd2, ?_, ns ++ [v], ?_, ?_, (g.trans g2).mut hS hD, ?_⟩
    · rw [List.length_map]
      exact Nat.lt_of_lt_of_le (by omega : ns.length < 10000) (by decide)
    · rw [List.length_append, hl]
      rfl
    · intro z hz
      rcases List.mem_append.mp hz with h | h
      · exact hP z h
      · rw [List.mem_singleton.mp h]
        exact hv
    · rw [upd_same, List.map_append]
      rfl
  · rintro H' ⟨ns, hl, hP, g, hd⟩
    exact q ns H' hl hP g hd
theorem _root_.L2.Same.mut {H H' : Hp} {p : Addr} {o : HO} (e : Same H H') (h : H p = none) : Same H (upd H' p o) := fun b u q => by
  rw [upd_ne (ne_of_none q h)]
  exact e b u q
theorem filt_take {xs : List V} {f : V → Bool} {v : V → V} {i : Nat} {x : V} (h : xs[i]? = some x) : ((xs.take (i + 1)).filter f).map v = ((xs.take i).filter f).map v ++ (if f x = true then [v x] else []) := by
  rw [List.take_add_one, h, List.filter_append, List.map_append]
  congr 1
  show ([x].filter f).map v = _
  by_cases c : f x = true
  · rw [if_pos c, List.filter_cons, if_pos c]
    rfl
  · rw [if_neg c, List.filter_cons, if_neg c]
    rfl
/-- what a comprehension without drawing has made behind i turns -/
def Made (H1 : Hp) (D : Addr) (f : V → Bool) (v : V → V) (xs : List V) (i : Nat) (H' : Hp) : Prop := Same H1 H' ∧ H' D = some (.lst (((xs.take i).filter f).map v))
theorem made_turn {H1 H' : Hp} {D : Addr} {f : V → Bool} {v : V → V} {xs : List V} {i : Nat} {x : V} {tt : TT} {te : TE} {σ2 : L2.St} (hD : H1 D = none) (hz : xs.length ≤ 10000) (hx : xs[i]? = some x) (p : Made H1 D f v xs i H')
    (ht : ∀ H2, Same H1 H2 → ∀ Q : Bool → Hp → Prop, (∀ H3, Same H2 H3 → Q (f x) H3) → tt σ2 H2 Q) (he : f x = true → ∀ H2, Same H1 H2 → ∀ Q : VK, (∀ H3, Same H2 H3 → Q (v x) H3) → te σ2 H2 Q) :
    tt σ2 H' fun b H3 => if b = true then te σ2 H3 fun y H4 => ∃ acc, H4 D = some (.lst acc) ∧ acc.length < sizeLine ∧ Made H1 D f v xs (i + 1) (upd H4 D (.lst (acc ++ [y]))) else Made H1 D f v xs (i + 1) H3 := by
  obtain ⟨sm, hd⟩ := p
  refine ht H' sm _ fun H3 s3 => ?_
  have hd3 := s3 _ _ hd
  by_cases c : f x = true
  · rw [if_pos c]
    refine he c H3 (sm.trans s3) _ fun H4 s4 => ?_
    have hd4 := s4 _ _ hd3
    refine ⟨_, hd4, ?_, (sm.trans (s3.trans s4)).mut hD, ?_⟩
    · rw [List.length_map]
      refine Nat.lt_of_le_of_lt (Nat.le_trans (List.length_filter_le _ _) ?_) (show 10000 < sizeLine by decide)
      rw [List.length_take]
      omega
    · rw [upd_same, filt_take hx, if_pos c]
  · rw [if_neg c]
    refine ⟨sm.trans s3, ?_⟩
    rw [hd3, filt_take hx, if_neg c, List.append_nil]
theorem lc_pureT {K : PySem.W.Frag} {D a : Addr} {H1 : Hp} {σ : L2.St} {vs : List Nat} {j : Nat} {tt : TT} {te : TE} {xs : List V} {Qd : Hp → Prop} (f : V → Bool) (v : V → V) (hD : H1 D = none) (ha : SqT K H1 a xs) (hz : xs.length ≤ 10000)
    (hw : ∀ x, wipe ((wipe σ vs).set j (some x)) vs = wipe σ vs)
    (ht : ∀ x ∈ xs, ∀ H2, Same H1 H2 → ∀ Q : Bool → Hp → Prop, (∀ H3, Same H2 H3 → Q (f x) H3) → tt ((wipe σ vs).set j (some x)) H2 Q) (he : ∀ x ∈ xs, f x = true → ∀ H2, Same H1 H2 → ∀ Q : VK, (∀ H3, Same H2 H3 → Q (v x) H3) → te ((wipe σ vs).set j (some x)) H2 Q)
    (q : ∀ H', Same H1 H' → H' D = some (.lst ((xs.filter f).map v)) → Qd H') :
    ∃ W : Nat → Nat → Hp → Prop, (∃ m, W 0 m (upd H1 D (.lst []))) ∧ ∀ i m H, W i m H →
      ((Itt K a).stop i H ∧ Qd H) ∨ ((Itt K a).go i H ∧ ∃ Nx : Hp → Prop, (∀ H', Nx H' → ∃ m', m' < m ∧ W (i + 1) m' H') ∧ ∀ x H', (Itt K a).yld i H x H' → (gName j) x (wipe σ vs) H' fun σ2 H2 => wipe σ2 vs = wipe σ vs ∧ tt σ2 H2 fun b H3 =>
        if b = true then te σ2 H3 fun y H4 => ∃ acc, H4 D = some (.lst acc) ∧ acc.length < sizeLine ∧ Nx (upd H4 D (.lst (acc ++ [y]))) else Nx H3) :=
  lc_tup (xs := xs) (Made H1 D f v xs) ⟨same_upd hD, upd_same⟩ (fun _ _ _ p => seqT_same p.1 ha) (fun i x H' hx p => ⟨hw x, made_turn hD hz hx p (ht x (List.mem_of_getElem? hx)) (he x (List.mem_of_getElem? hx))⟩)
    fun H' p => q H' p.1 (by rw [p.2, List.take_length])
theorem lc_pureL {K : PySem.W.Frag} {D a : Addr} {H1 : Hp} {σ : L2.St} {vs : List Nat} {j : Nat} {tt : TT} {te : TE} {xs : List V} {Qd : Hp → Prop} (f : V → Bool) (v : V → V) (hD : H1 D = none) (ha : SqL K H1 a xs) (hz : xs.length ≤ 10000)
    (hw : ∀ x, wipe ((wipe σ vs).set j (some x)) vs = wipe σ vs)
    (ht : ∀ x ∈ xs, ∀ H2, Same H1 H2 → ∀ Q : Bool → Hp → Prop, (∀ H3, Same H2 H3 → Q (f x) H3) → tt ((wipe σ vs).set j (some x)) H2 Q) (he : ∀ x ∈ xs, f x = true → ∀ H2, Same H1 H2 → ∀ Q : VK, (∀ H3, Same H2 H3 → Q (v x) H3) → te ((wipe σ vs).set j (some x)) H2 Q)
    (q : ∀ H', Same H1 H' → H' D = some (.lst ((xs.filter f).map v)) → Qd H') :
    ∃ W : Nat → Nat → Hp → Prop, (∃ m, W 0 m (upd H1 D (.lst []))) ∧ ∀ i m H, W i m H →
      ((Itl K a).stop i H ∧ Qd H) ∨ ((Itl K a).go i H ∧ ∃ Nx : Hp → Prop, (∀ H', Nx H' → ∃ m', m' < m ∧ W (i + 1) m' H') ∧ ∀ x H', (Itl K a).yld i H x H' → (gName j) x (wipe σ vs) H' fun σ2 H2 => wipe σ2 vs = wipe σ vs ∧ tt σ2 H2 fun b H3 =>
        if b = true then te σ2 H3 fun y H4 => ∃ acc, H4 D = some (.lst acc) ∧ acc.length < sizeLine ∧ Nx (upd H4 D (.lst (acc ++ [y]))) else Nx H3) :=
  lc_list (xs := xs) (Made H1 D f v xs) ⟨same_upd hD, upd_same⟩ (fun _ _ _ p => p.1.seq ha) (fun i x H' hx p => ⟨hw x, made_turn hD hz hx p (ht x (List.mem_of_getElem? hx)) (he x (List.mem_of_getElem? hx))⟩)
    fun H' p => q H' p.1 (by rw [p.2, List.take_length])
def rgL (lo : Int) (n : Nat) : List V := (List.range n).map fun i : Nat => V.int (lo + (i : Int))
theorem rgL_get {lo : Int} {n i : Nat} (h : i < n) : (rgL lo n)[i]? = some (.int (lo + (i : Int))) := by
  unfold rgL
  rw [List.getElem?_map, List.getElem?_range h]
  rfl
theorem rgL_len (lo : Int) (n : Nat) : (rgL lo n).length = n := by
  unfold rgL
  rw [List.length_map, List.length_range]
theorem lc_pureR {D : Addr} {H1 : Hp} {σ : L2.St} {vs : List Nat} {j : Nat} {tt : TT} {te : TE} {lo : Int} {n : Nat} {Qd : Hp → Prop} (f : V → Bool) (v : V → V) (hD : H1 D = none) (hz : n ≤ 10000)
    (hw : ∀ x, wipe ((wipe σ vs).set j (some x)) vs = wipe σ vs)
    (ht : ∀ i : Nat, i < n → ∀ H2, Same H1 H2 → ∀ Q : Bool → Hp → Prop, (∀ H3, Same H2 H3 → Q (f (.int (lo + (i : Int)))) H3) → tt ((wipe σ vs).set j (some (.int (lo + (i : Int))))) H2 Q)
    (he : ∀ i : Nat, i < n → f (.int (lo + (i : Int))) = true → ∀ H2, Same H1 H2 → ∀ Q : VK, (∀ H3, Same H2 H3 → Q (v (.int (lo + (i : Int)))) H3) → te ((wipe σ vs).set j (some (.int (lo + (i : Int))))) H2 Q)
    (q : ∀ H', Same H1 H' → H' D = some (.lst (((rgL lo n).filter f).map v)) → Qd H') :
    ∃ W : Nat → Nat → Hp → Prop, (∃ m, W 0 m (upd H1 D (.lst []))) ∧ ∀ i m H, W i m H →
      ((Itr lo n).stop i H ∧ Qd H) ∨ ((Itr lo n).go i H ∧ ∃ Nx : Hp → Prop, (∀ H', Nx H' → ∃ m', m' < m ∧ W (i + 1) m' H') ∧ ∀ x H', (Itr lo n).yld i H x H' → (gName j) x (wipe σ vs) H' fun σ2 H2 => wipe σ2 vs = wipe σ vs ∧ tt σ2 H2 fun b H3 =>
        if b = true then te σ2 H3 fun y H4 => ∃ acc, H4 D = some (.lst acc) ∧ acc.length < sizeLine ∧ Nx (upd H4 D (.lst (acc ++ [y]))) else Nx H3) :=
  lc_range (Made H1 D f v (rgL lo n)) ⟨same_upd hD, upd_same⟩ (fun i H' hi p => ⟨hw _, made_turn hD (by rw [rgL_len]; exact hz) (rgL_get hi) p (ht i hi) (he i hi)⟩)
    fun H' p => q H' p.1 (by rw [p.2, List.take_of_length_le (by rw [rgL_len]; exact Nat.le_refl _)])
/-- a set of marks as a list -/
structure SetL (ms : List Int) : Prop where
  up : ms.Pairwise (· < ·)
  bd : ∀ z ∈ ms, 1 ≤ z ∧ z ≤ 96
theorem SetL.len {ms : List Int} (h : SetL ms) : ms.length ≤ 96 := by
  have key : ∀ (l : List Int) (lo : Int), l.Pairwise (· < ·) → (∀ z ∈ l, lo ≤ z ∧ z ≤ 96) → (l.length : Int) ≤ 96 - lo + 1 ∨ l = [] := by
    intro l
    induction l with
    | nil => intro _ _ _; exact .inr rfl
    | cons x r ih =>
      intro lo hp hb
      have hp' := List.pairwise_cons.mp hp
      have hx := hb x List.mem_cons_self
      left
      rcases ih (x + 1) hp'.2 (fun z hz => ⟨hp'.1 z hz, (hb z (List.mem_cons_of_mem _ hz)).2⟩) with h | h
      · rw [List.length_cons]
        omega
      · rw [h]
        show ((0 + 1 : Nat) : Int) ≤ _
        omega
  rcases key ms 1 h.up h.bd with h | h
  · omega
  · rw [h]
    exact Nat.zero_le _
theorem SetL.nil : SetL [] := ⟨.nil, fun _ z => nomatch z⟩
def sp__law_set (K : PySem.W.Frag) : Sp := fun vs H Q _ => ∃ (a st : Addr) (most : Int), vs = [.ref st, .int most] ∧ StAt K a st H ∧ 0 ≤ most ∧ most ≤ 96 ∧
  ∀ (t : Addr) (ms : List Int) H', SetL ms → (ms.length : Int) ≤ most → Go K st H H' → H t = none → H' t = some (.tup (ms.map V.int)) → Q (.ref t) H'
theorem pickI {ns : List Int} {v lo hi : Int} (h : ∀ z ∈ ns, lo ≤ z ∧ z ≤ hi) (h0 : 0 ≤ v) (h1 : v < (ns.length : Int)) : ∃ z, atI (ns.map V.int) v = some (.int z) ∧ lo ≤ z ∧ z ≤ hi := by
  have hlt : v.toNat < ns.length := by omega
  refine ⟨ns[v.toNat], at_of (j := v.toNat) (by omega) ?_, h _ (List.getElem_mem hlt)⟩
  rw [List.getElem?_map, List.getElem?_eq_getElem hlt]
  rfl
theorem nat8000 {n : Int} (h0 : 0 ≤ n) (h : n < 10 ^ 70) : n.natAbs < 2 ^ 8000 := Nat.lt_of_lt_of_le (by omega : n.natAbs < 10 ^ 70) (by decide +kernel)
/-! ### the promises of the drawing defs -/
def sp__law_start (K : PySem.W.Frag) : Sp := fun vs H Q _ => ∃ (a : Addr) (ns : List Int), vs = [.ref a] ∧ SqL K H a (ns.map V.int) ∧
  ∀ st H', H st = none → Same H H' → StAt K a st H' → Q (.ref st) H'
def sp__law_drawn (K : PySem.W.Frag) : Sp := fun vs H Q _ => ∃ (a st : Addr) (n : Int), vs = [.ref st, .int n] ∧ StAt K a st H ∧ 0 < n ∧ n.natAbs < 2 ^ 8000 ∧
  ∀ (v : Int) H', 0 ≤ v → v < n → Go K st H H' → Q (.int v) H'
end My
namespace My
open PySem PySem.Spec PyProof.Rows L2
theorem filt_no {α : Type} (xs : List α) : (xs.filter fun _ => false) = [] := List.filter_eq_nil_iff.mpr fun _ _ h => nomatch h
/-! ### == of lists and tuples of ints -/
theorem dpInts {K : PySem.W.Frag} {H : Hp} : ∀ ns : List Int, DpAll K H (ns.map V.int) (ns.map PyData.int)
  | [] => .nil
  | _ :: r => .cons (.int _) (dpInts r)
theorem lay_ints : ∀ ns : List Int, PyData.canLayAll0 (ns.map PyData.int) = true
  | [] => by simp [PyData.canLayAll0]
  | n :: r => by simp [PyData.canLayAll0, PyData.canLay0, lay_ints r]
theorem depth_ints : ∀ ns : List Int, PyData.depthAll (ns.map PyData.int) ≤ 1
  | [] => by simp [PyData.depthAll]
  | n :: r => by
    have h := depth_ints r
    simp only [List.map_cons, PyData.depthAll, PyData.depth]
    omega
theorem shaped_tup (ns : List Int) : SeqAt.shaped (.tuple (ns.map PyData.int)) = true := by
  have h := depth_ints ns
  show (_ && decide (_ ≤ 64)) = true
  rw [Bool.and_eq_true]
  exact ⟨by simp only [PyData.canLay0]; exact lay_ints ns, decide_eq_true (by simp only [PyData.depth]; omega)⟩
theorem shaped_lst (ns : List Int) : SeqAt.shaped (.list (ns.map PyData.int)) = true := by
  have h := depth_ints ns
  show (_ && decide (_ ≤ 64)) = true
  rw [Bool.and_eq_true]
  exact ⟨by simp only [PyData.canLay0]; exact lay_ints ns, decide_eq_true (by simp only [PyData.depth]; omega)⟩
theorem eqv_ints : ∀ ns ms : List Int, PyData.eqvAll (ns.map PyData.int) (ms.map PyData.int) = decide (ns = ms)
  | [], [] => by simp [PyData.eqvAll]
  | [], m :: r => by simp [PyData.eqvAll]
  | n :: r, [] => by simp [PyData.eqvAll]
  | n :: r, m :: t => by
    simp only [List.map_cons, PyData.eqvAll, PyData.eqv, eqv_ints r t, List.cons.injEq, Bool.decide_and]
    rfl
theorem eqv_tup (ns ms : List Int) : PyData.eqv (.tuple (ns.map PyData.int)) (.tuple (ms.map PyData.int)) = decide (ns = ms) := by
  rw [PyData.eqv]
  exact eqv_ints ns ms
theorem eqv_lst (ns ms : List Int) : PyData.eqv (.list (ns.map PyData.int)) (.list (ms.map PyData.int)) = decide (ns = ms) := by
  rw [PyData.eqv]
  exact eqv_ints ns ms
/-- t != u, t == u: tuples, lists of ints -/
theorem neT {K : PySem.W.Frag} {H : Hp} {a b : Addr} {ns ms : List Int} {Q : VK} (ha : SqT K H a (ns.map V.int)) (hb : SqT K H b (ms.map V.int)) (q : Q (.bl (!decide (ns = ms))) H) : rNeD K (.ref a) (.ref b) H Q :=
  ⟨_, _, .tup ha (dpInts ns), .tup hb (dpInts ms), shaped_tup ns, shaped_tup ms, by rw [eqv_tup]; exact q⟩
theorem eqT {K : PySem.W.Frag} {H : Hp} {a b : Addr} {ns ms : List Int} {Q : VK} (ha : SqT K H a (ns.map V.int)) (hb : SqT K H b (ms.map V.int)) (q : Q (.bl (decide (ns = ms))) H) : rEqD K (.ref a) (.ref b) H Q :=
  ⟨_, _, .tup ha (dpInts ns), .tup hb (dpInts ms), shaped_tup ns, shaped_tup ms, by rw [eqv_tup]; exact q⟩
theorem neL {K : PySem.W.Frag} {H : Hp} {a b : Addr} {ns ms : List Int} {Q : VK} (ha : SqL K H a (ns.map V.int)) (hb : SqL K H b (ms.map V.int)) (q : Q (.bl (!decide (ns = ms))) H) : rNeD K (.ref a) (.ref b) H Q :=
  ⟨_, _, .lst ha (dpInts ns), .lst hb (dpInts ms), shaped_lst ns, shaped_lst ms, by rw [eqv_lst]; exact q⟩
theorem eqL {K : PySem.W.Frag} {H : Hp} {a b : Addr} {ns ms : List Int} {Q : VK} (ha : SqL K H a (ns.map V.int)) (hb : SqL K H b (ms.map V.int)) (q : Q (.bl (decide (ns = ms))) H) : rEqD K (.ref a) (.ref b) H Q :=
  ⟨_, _, .lst ha (dpInts ns), .lst hb (dpInts ms), shaped_lst ns, shaped_lst ms, by rw [eqv_lst]; exact q⟩
theorem eq_of_up : ∀ l1 l2 : List Int, l1.Pairwise (· < ·) → l2.Pairwise (· < ·) → (∀ z, z ∈ l1 ↔ z ∈ l2) → l1 = l2
  | [], [], _, _, _ => rfl
  | [], y :: _, _, _, h => nomatch (h y).mpr List.mem_cons_self
  | x :: _, [], _, _, h => nomatch (h x).mp List.mem_cons_self
  | x :: r, y :: s, h1, h2, h => by
    have p1 := List.pairwise_cons.mp h1
    have p2 := List.pairwise_cons.mp h2
    have e : x = y := by
      rcases List.mem_cons.mp ((h x).mp List.mem_cons_self) with e | e
      · exact e
      · rcases List.mem_cons.mp ((h y).mpr List.mem_cons_self) with f | f
        · exact f.symm
        · have := p2.1 x e
          have := p1.1 y f
          omega
    subst e
    congr 1
    refine eq_of_up r s p1.2 p2.2 fun z => ⟨fun hz => ?_, fun hz => ?_⟩
    · rcases List.mem_cons.mp ((h z).mp (List.mem_cons_of_mem _ hz)) with f | f
      · have := p1.1 z hz
        omega
      · exact f
    · rcases List.mem_cons.mp ((h z).mpr (List.mem_cons_of_mem _ hz)) with f | f
      · have := p2.1 z hz
        omega
      · exact f
theorem marks_up : ((List.range 96).map fun i : Nat => 1 + (i : Int)).Pairwise (· < ·) :=
  List.pairwise_map.mpr (List.pairwise_lt_range.imp fun h => by omega)
theorem mem_marks {z : Int} : z ∈ ((List.range 96).map fun i : Nat => 1 + (i : Int)) ↔ 1 ≤ z ∧ z ≤ 96 := by
  rw [List.mem_map]
  constructor
  · rintro ⟨i, hi, rfl⟩
    have := List.mem_range.mp hi
    omega
  · rintro ⟨h0, h1⟩
    exact ⟨(z - 1).toNat, List.mem_range.mpr (by omega), by omega⟩
theorem ne_len {α : Type} {l : List α} {n : Nat} (h : l.length = n + 1) : l ≠ [] := fun e => by
  rw [e] at h
  cases h
/-- t + u, tuples of ints -/
theorem catA_ints {K : PySem.W.Frag} {H : Hp} {z t : Addr} {zs ns : List Int} {Q : VK} (hz : SqT K H z (zs.map V.int)) (ht : SqT K H t (ns.map V.int)) (hl : zs.length + ns.length ≤ 1000)
    (k : ∀ (w : Addr) (H' : Hp), Same H H' → SqT K H' w ((zs ++ ns).map V.int) → Q (.ref w) H') : rCatA K (.ref z) (.ref t) H Q := by
  refine ⟨z, t, zs.map V.int, ns.map V.int, rfl, rfl, hz, ht, ?_, fun e => ?_, fun _ e => ?_, fun _ _ p hp => k p _ (same_upd hp) (SqT.of ?_)⟩
  · rw [List.length_map, List.length_map]
    exact Nat.le_trans hl (by decide)
  · rw [List.map_eq_nil_iff] at e
    refine k t H (Same.refl H) ?_
    rw [e]
    exact ht
  · rw [List.map_eq_nil_iff] at e
    refine k z H (Same.refl H) ?_
    rw [e, List.append_nil]
    exact hz
  · rw [upd_same, List.map_append]
/-! comprehensions over ints -/
theorem int_filter {ns : List Int} {f : V → Bool} {g : Int → Bool} (h : ∀ z ∈ ns, f (.int z) = g z) : ((ns.map V.int).filter f).map (fun x => x) = (ns.filter g).map V.int := by
  rw [List.map_id']
  induction ns with
  | nil => rfl
  | cons x r ih =>
    have ih' := ih fun z hz => h z (List.mem_cons_of_mem _ hz)
    rw [List.map_cons, List.filter_cons, List.filter_cons, h x List.mem_cons_self]
    by_cases c : g x = true
    · rw [if_pos c, if_pos c, List.map_cons, ih']
    · rw [if_neg c, if_neg c, ih']
theorem rgL_ints (lo : Int) (n : Nat) : rgL lo n = ((List.range n).map fun i : Nat => lo + (i : Int)).map V.int := by
  unfold rgL
  rw [List.map_map]
  rfl
end My
namespace My
open PySem PySem.Spec PyProof.Rows L2
/-- x and y are the same data, tuples no deeper than n -/
inductive EqV (H : Hp) : Nat → V → V → Prop
  | non (n : Nat) : EqV H n .non .non
  | bl (n : Nat) (b : Bool) : EqV H n (.bl b) (.bl b)
  | int (n : Nat) (i : Int) : EqV H n (.int i) (.int i)
  | str (n : Nat) (z : Str) : EqV H n (.str z) (.str z)
  | tup {n : Nat} {p q : Addr} {xs ys : List V} (hp : H p = some (.tup xs)) (hq : H q = some (.tup ys)) (hl : xs.length = ys.length) (hl2 : xs.length ≤ 1000) (h : ∀ (k : Nat) (x y : V), xs[k]? = some x → ys[k]? = some y → EqV H n x y) : EqV H (n + 1) (.ref p) (.ref q)
theorem EqV.same {H H' : Hp} (s : Same H H') {n : Nat} {x y : V} (h : EqV H n x y) : EqV H' n x y := by
  induction h with
  | non n => exact .non n
  | bl n b => exact .bl n b
  | int n i => exact .int n i
  | str n z => exact .str n z
  | tup hp hq hl hl2 h ih => exact .tup (s _ _ hp) (s _ _ hq) hl hl2 ih
theorem EqV.ints {H : Hp} {n : Nat} {p q : Addr} {ns : List Int} (hp : H p = some (.tup (ns.map V.int))) (hq : H q = some (.tup (ns.map V.int))) (hl : ns.length ≤ 1000) : EqV H (n + 1) (.ref p) (.ref q) := by
  refine .tup hp hq rfl (by rw [List.length_map]; exact hl) fun k x y hx hy => ?_
  rw [hx] at hy
  obtain ⟨z, _, rfl⟩ := int_at hx
  cases hy
  exact .int n z
theorem EqV.pair {H : Hp} {n : Nat} {p q : Addr} {a b c d : V} (hp : H p = some (.tup [a, b])) (hq : H q = some (.tup [c, d])) (h1 : EqV H n a c) (h2 : EqV H n b d) : EqV H (n + 1) (.ref p) (.ref q) := by
  refine .tup hp hq rfl (by show 2 ≤ 1000; decide) fun k x y hx hy => ?_
  match k, hx, hy with
  | 0, hx, hy =>
    cases hx
    cases hy
    exact h1
  | 1, hx, hy =>
    cases hx
    cases hy
    exact h2
  | k + 2, hx, _ => cases hx
def sp__law_same (K : PySem.W.Frag) (n : Nat) : Sp := fun vs H Q _ => ∃ x y : V, vs = [x, y] ∧ EqV H n x y ∧ ∀ H', Same H H' → Q (.bl true) H'
end My
namespace My
open PySem PySem.Spec PyProof.Rows L2
def rTupleOf (K : PySem.W.Frag) : List V → Hp → VK → Prop := fun xs H Q => ∃ p ys, xs = [.ref p] ∧ ((SqL K H p ys ∧ ∀ l, H l = none → Q (.ref l) (upd H l (.tup ys))) ∨ (SqT K H p ys ∧ Q (.ref p) H))
section
variable {X : Cx} {K : PySem.W.Frag}
theorem call_tuple_ofK (h : X.K = K) : CallR X (.type "tuple") (rTupleOf K) := h ▸ call_tuple_of
theorem cr_sumK (h : X.K = K) (hc : X.calm = true) : CallR X (.builtin "sum") (rSum K) := h ▸ cr_sum hc
theorem sl_tupAK (h : X.K = K) : SlR X (rSlA K) := h ▸ sl_tupA
theorem sl_listK (h : X.K = K) : SlR X (rSlL K) := h ▸ sl_list
theorem op_catAK (h : X.K = K) : OpR X (binaryOp .Add) (rCatA K) := h ▸ op_catA
theorem pi_tupK {tg l : Expr} {tl : TE} (h : X.K = K) (hl : PE X l tl) : PI X tg l (iTup K tl) := h ▸ pi_tup hl
theorem pi_listK {tg l : Expr} {tl : TE} (h : X.K = K) (hl : PE X l tl) : PI X tg l (iList K tl) := h ▸ pi_list hl
end
end My
namespace My
open PySem PySem.Spec PyProof.Rows L2
theorem Go.tup {K : PySem.W.Frag} {a st p : Addr} {H H' : Hp} {xs : List V} (g : Go K st H H') (h : StAt K a st H) (e : H p = some (.tup xs)) : H' p = some (.tup xs) := g.keep p _ (h.ne e (fun _ z => nomatch z)) e
theorem takeA {K : PySem.W.Frag} {H : Hp} {a : Addr} {ns : List Int} {f : Int} {Q : VK} (hS : H a = some (.tup (ns.map V.int))) (h0 : 0 ≤ f) (h1 : f ≤ (ns.length : Int)) (k : ∀ (w : Addr) (H' : Hp), Same H H' → H' w = some (.tup ((ns.take f.toNat).map V.int)) → Q (.ref w) H') : rSlA K (.ref a) none (some f) H Q := by
  obtain ⟨j, rfl⟩ : ∃ j : Nat, f = (j : Int) := ⟨f.toNat, by omega⟩
  have ej : HT.sIx (ns.map V.int).length (ns.map V.int).length (some (j : Int)) = j := by
    rw [HT.sIx_nat, List.length_map]
    omega
  have e0 : HT.sIx (ns.map V.int).length 0 none = 0 := rfl
  refine ⟨a, _, rfl, SqT.of hS, fun c => ?_, fun c p hp => k p _ (same_upd hp) ?_⟩
  · refine k a H (Same.refl _) ?_
    have c2 := c.2
    rw [ej, List.length_map] at c2
    rw [hS, Int.toNat_natCast, c2, List.take_length]
  · rw [upd_same]
    unfold cutV
    rw [ej, e0, List.drop_zero, Nat.sub_zero, Int.toNat_natCast, List.map_take]
/-- t + u of tuples that stand in the heap -/
theorem catH {K : PySem.W.Frag} {H : Hp} {z t : Addr} {zs ns : List Int} {Q : VK} (hz : H z = some (.tup (zs.map V.int))) (ht : H t = some (.tup (ns.map V.int))) (hl : zs.length + ns.length ≤ 1000)
    (k : ∀ (w : Addr) (H' : Hp), Same H H' → H' w = some (.tup ((zs ++ ns).map V.int)) → Q (.ref w) H') : rCatA K (.ref z) (.ref t) H Q := by
  refine ⟨z, t, zs.map V.int, ns.map V.int, rfl, rfl, SqT.of hz, SqT.of ht, ?_, fun e => ?_, fun _ e => ?_, fun _ _ p hp => k p _ (same_upd hp) ?_⟩
  · rw [List.length_map, List.length_map]
    exact Nat.le_trans hl (by decide)
  · rw [List.map_eq_nil_iff] at e
    refine k t H (Same.refl H) ?_
    rw [e]
    exact ht
  · rw [List.map_eq_nil_iff] at e
    refine k z H (Same.refl H) ?_
    rw [e, List.append_nil]
    exact hz
  · rw [upd_same, List.map_append]
end My
namespace Ms
/-! ### Newton's recurrence, off the wheel -/
def sm (f : Nat → Int) : Nat → Int
  | 0 => 0
  | n + 1 => sm f n + f n
theorem sm_congr {f g : Nat → Int} : ∀ {n : Nat}, (∀ i, i < n → f i = g i) → sm f n = sm g n
  | 0, _ => rfl
  | n + 1, h => by
    show sm f n + f n = sm g n + g n
    rw [sm_congr fun i hi => h i (Nat.lt_succ_of_lt hi), h n (Nat.lt_succ_self n)]
theorem sm_add (f g : Nat → Int) : ∀ n, sm (fun i => f i + g i) n = sm f n + sm g n
  | 0 => rfl
  | n + 1 => by
    show sm (fun i => f i + g i) n + (f n + g n) = sm f n + f n + (sm g n + g n)
    rw [sm_add f g n]
    omega
theorem sm_mul (c : Int) (f : Nat → Int) : ∀ n, sm (fun i => c * f i) n = c * sm f n
  | 0 => (Int.mul_zero c).symm
  | n + 1 => by
    show sm (fun i => c * f i) n + c * f n = c * (sm f n + f n)
    rw [sm_mul c f n, Int.mul_add]
theorem sm_first (f : Nat → Int) : ∀ n, sm f (n + 1) = f 0 + sm (fun i => f (i + 1)) n
  | 0 => by
    show 0 + f 0 = f 0 + 0
    omega
  | n + 1 => by
    show sm f (n + 1) + f (n + 1) = f 0 + (sm (fun i => f (i + 1)) n + f (n + 1))
    rw [sm_first f n]
    omega
theorem sm_zero {f : Nat → Int} : ∀ {n : Nat}, (∀ i, i < n → f i = 0) → sm f n = 0
  | 0, _ => rfl
  | n + 1, h => by
    show sm f n + f n = 0
    rw [sm_zero fun i hi => h i (Nat.lt_succ_of_lt hi), h n (Nat.lt_succ_self n)]
    rfl
theorem sm_mod {f g : Nat → Int} : ∀ {n : Nat}, (∀ i, i < n → f i % 97 = g i % 97) → sm f n % 97 = sm g n % 97
  | 0, _ => rfl
  | n + 1, h => by
    have ih := sm_mod (n := n) fun i hi => h i (Nat.lt_succ_of_lt hi)
    have hn := h n (Nat.lt_succ_self n)
    show (sm f n + f n) % 97 = (sm g n + g n) % 97
    omega
/-- sum of s (j) times f (k - j), j from 1 to k -/
def cv (s f : Nat → Int) (k : Nat) : Int := sm (fun i => s (i + 1) * f (k - 1 - i)) k
def NW (f s : Nat → Int) : Prop := ∀ k : Nat, (k : Int) * f k + cv s f k = 0
def bk (f : Nat → Int) : Nat → Int
  | 0 => 0
  | k + 1 => f k
def st (f : Nat → Int) (z : Int) : Nat → Int := fun k => f k - z * bk f k
theorem NW_st {f s : Nat → Int} (h : NW f s) (z : Int) : NW (st f z) (fun i => s i + z ^ i) := by
  intro k
  cases k with
  | zero =>
    show (0 : Int) * _ + 0 = 0
    rw [Int.zero_mul]
    rfl
  | succ K =>
    have h1 : ((K : Int) + 1) * f (K + 1) + cv s f (K + 1) = 0 := h (K + 1)
    have h2 : (K : Int) * f K + cv s f K = 0 := h K
    have e : cv (fun i => s i + z ^ i) (st f z) (K + 1) = cv s f (K + 1) - z * sm (fun i => s (i + 1) * bk f (K - i)) (K + 1) + (sm (fun i => z ^ (i + 1) * f (K - i)) (K + 1) - z * sm (fun i => z ^ (i + 1) * bk f (K - i)) (K + 1)) := by
      unfold cv
      rw [← sm_mul, ← sm_mul]
      have e1 : ∀ (a b : Nat → Int) n, sm a n - sm b n = sm (fun i => a i - b i) n := by
        intro a b n
        induction n with
        | zero => rfl
        | succ n ih =>
          show sm a n + a n - (sm b n + b n) = sm (fun i => a i - b i) n + (a n - b n)
          rw [← ih]
          omega
      rw [e1, e1, ← sm_add]
      refine sm_congr fun i _ => ?_
      show (s (i + 1) + z ^ (i + 1)) * (f (K + 1 - 1 - i) - z * bk f (K + 1 - 1 - i)) = _
      rw [Nat.add_sub_cancel]
      grind
    have t2 : sm (fun i => s (i + 1) * bk f (K - i)) (K + 1) = cv s f K := by
      show sm (fun i => s (i + 1) * bk f (K - i)) K + s (K + 1) * bk f (K - K) = _
      rw [Nat.sub_self]
      show _ + s (K + 1) * 0 = _
      rw [Int.mul_zero, Int.add_zero]
      refine sm_congr fun i hi => ?_
      show s (i + 1) * bk f (K - i) = s (i + 1) * f (K - 1 - i)
      rw [show K - i = (K - 1 - i) + 1 by omega]
      rfl
    have t4 : sm (fun i => z ^ (i + 1) * bk f (K - i)) (K + 1) = sm (fun i => z ^ (i + 1) * f (K - 1 - i)) K := by
      show sm (fun i => z ^ (i + 1) * bk f (K - i)) K + z ^ (K + 1) * bk f (K - K) = _
      rw [Nat.sub_self]
      show _ + z ^ (K + 1) * 0 = _
      rw [Int.mul_zero, Int.add_zero]
      refine sm_congr fun i hi => ?_
      rw [show K - i = (K - 1 - i) + 1 by omega]
      rfl
    have t3 : sm (fun i => z ^ (i + 1) * f (K - i)) (K + 1) = z * f K + z * sm (fun i => z ^ (i + 1) * f (K - 1 - i)) K := by
      rw [sm_first, ← sm_mul]
      congr 1
      · show z ^ 1 * f K = _
        rw [Int.pow_succ, Int.pow_zero, Int.one_mul]
      · refine sm_congr fun i hi => ?_
        rw [show K - (i + 1) = K - 1 - i by omega, Int.pow_succ]
        grind
    show ((K + 1 : Nat) : Int) * (f (K + 1) - z * f K) + _ = 0
    rw [e, t2, t3, t4]
    have e3 : ((K + 1 : Nat) : Int) = (K : Int) + 1 := by omega
    rw [e3]
    grind
def dl : Nat → Int
  | 0 => 1
  | _ + 1 => 0
theorem NW_dl : NW dl (fun _ => 0) := by
  intro k
  have e : cv (fun _ => 0) dl k = 0 := sm_zero fun i _ => Int.zero_mul _
  rw [e]
  cases k with
  | zero => rfl
  | succ k =>
    show _ * 0 + 0 = (0 : Int)
    rw [Int.mul_zero]
    rfl
/-- the sum of the powers -/
def ps : List Int → Nat → Int
  | [], _ => 0
  | z :: r, i => z ^ i + ps r i
theorem ps_append (a b : List Int) (i : Nat) : ps (a ++ b) i = ps a i + ps b i := by
  induction a with
  | nil => show ps b i = 0 + ps b i; omega
  | cons z r ih =>
    show z ^ i + ps (r ++ b) i = z ^ i + ps r i + ps b i
    rw [ih]
    omega
theorem ps_filter (p : Int → Bool) (l : List Int) (i : Nat) : ps l i = ps (l.filter p) i + ps (l.filter fun z => !p z) i := by
  induction l with
  | nil => rfl
  | cons z r ih =>
    rw [List.filter_cons, List.filter_cons]
    cases c : p z with
    | true =>
      rw [if_pos rfl, if_neg (by decide)]
      show z ^ i + ps r i = z ^ i + ps (r.filter p) i + _
      rw [ih]
      omega
    | false =>
      rw [if_neg (by decide), if_pos (by decide)]
      show z ^ i + ps r i = _ + (z ^ i + ps (r.filter fun z => !p z) i)
      rw [ih]
      omega
/-- the row of a set, off the wheel -/
def EG (f : Nat → Int) (ms : List Int) : Nat → Int := ms.foldl st f
def E (ms : List Int) : Nat → Int := EG dl ms
theorem NW_EG : ∀ (ms : List Int) (f s : Nat → Int), NW f s → NW (EG f ms) (fun i => s i + ps ms i)
  | [], f, s, h => by
    have e : (fun i => s i + ps [] i) = s := funext fun i => Int.add_zero _
    rw [e]
    exact h
  | z :: r, f, s, h => by
    have h' := NW_EG r (st f z) _ (NW_st h z)
    have e : (fun i => s i + ps (z :: r) i) = (fun i => s i + z ^ i + ps r i) := funext fun i => (Int.add_assoc _ _ _).symm
    rw [e]
    exact h'
theorem NW_E (ms : List Int) : NW (E ms) (ps ms) := by
  have h := NW_EG ms dl _ NW_dl
  have e : (fun i => (0 : Int) + ps ms i) = ps ms := funext fun i => Int.zero_add _
  rw [e] at h
  exact h
theorem EG_deg : ∀ (ms : List Int) (f : Nat → Int) (d : Nat), (∀ k, d < k → f k = 0) → ∀ k, d + ms.length < k → EG f ms k = 0
  | [], f, d, h, k, hk => h k hk
  | z :: r, f, d, h, k, hk => by
    refine EG_deg r (st f z) (d + 1) (fun j hj => ?_) k (by rw [List.length_cons] at hk; omega)
    show f j - z * bk f j = 0
    rw [h j (by omega)]
    obtain ⟨i, rfl⟩ : ∃ i, j = i + 1 := ⟨j - 1, by omega⟩
    show 0 - z * f i = 0
    rw [h i (by omega), Int.mul_zero]
    rfl
theorem E_deg {ms : List Int} {k : Nat} (h : ms.length < k) : E ms k = 0 := EG_deg ms dl 0 (fun k hk => by obtain ⟨i, rfl⟩ : ∃ i, k = i + 1 := ⟨k - 1, by omega⟩; rfl) k (by omega)
theorem EG_zero : ∀ (ms : List Int) (f : Nat → Int), EG f ms 0 = f 0
  | [], _ => rfl
  | z :: r, f => by
    show EG (st f z) r 0 = f 0
    rw [EG_zero r]
    show f 0 - z * 0 = f 0
    rw [Int.mul_zero, Int.sub_zero]
theorem E_zero (ms : List Int) : E ms 0 = 1 := EG_zero ms dl
/-- on the wheel the sums tell the row, as far as k has an inverse -/
theorem cancel97 (hp : ∀ a b : Int, a * b % 97 = 0 → a % 97 = 0 ∨ b % 97 = 0) {k : Nat} (h0 : 1 ≤ k) (h1 : k ≤ 96) {a b : Int} (h : (k : Int) * a % 97 = (k : Int) * b % 97) : a % 97 = b % 97 := by
  have e : (k : Int) * (a - b) % 97 = 0 := by
    rw [Int.mul_sub]
    omega
  rcases hp _ _ e with e | e
  · omega
  · omega
theorem uniq (hp : ∀ a b : Int, a * b % 97 = 0 → a % 97 = 0 ∨ b % 97 = 0) {f g s t : Nat → Int} {m : Nat} (hm : m ≤ 96) (hf : ∀ k : Nat, k ≤ m → ((k : Int) * f k + cv s f k) % 97 = 0) (hg : ∀ k : Nat, k ≤ m → ((k : Int) * g k + cv t g k) % 97 = 0)
    (h0 : f 0 % 97 = g 0 % 97) (hs : ∀ i, 1 ≤ i → i ≤ m → s i % 97 = t i % 97) : ∀ k, k ≤ m → f k % 97 = g k % 97 := by
  intro k
  induction k using Nat.strongRecOn with
  | ind k ih =>
    intro hk
    cases k with
    | zero => exact h0
    | succ K =>
      have e : cv s f (K + 1) % 97 = cv t g (K + 1) % 97 := by
        refine sm_mod fun i hi => ?_
        show s (i + 1) * f (K + 1 - 1 - i) % 97 = t (i + 1) * g (K + 1 - 1 - i) % 97
        rw [Int.mul_emod, hs (i + 1) (by omega) (by omega), ih (K + 1 - 1 - i) (by omega) (by omega), ← Int.mul_emod]
      have e1 := hf (K + 1) hk
      have e2 := hg (K + 1) hk
      exact cancel97 hp (k := K + 1) (by omega) (by omega) (by omega)
end Ms
namespace Ms
/-! ### rows multiplied -/
def sh (a : Nat → Int) : Nat → Int := fun i => a (i + 1)
def cvl : (Nat → Int) → (Nat → Int) → Nat → Int
  | a, c, 0 => a 0 * c 0
  | a, c, k + 1 => a 0 * c (k + 1) + cvl (sh a) c k
theorem cvl_sm (a c : Nat → Int) : ∀ k, cvl a c k = sm (fun i => a i * c (k - i)) (k + 1)
  | 0 => (Int.zero_add _).symm
  | k + 1 => by
    rw [sm_first]
    show a 0 * c (k + 1) + cvl (sh a) c k = a 0 * c (k + 1 - 0) + _
    rw [cvl_sm (sh a) c k]
    congr 1
    refine sm_congr fun i _ => ?_
    show a (i + 1) * c (k - i) = a (i + 1) * c (k + 1 - (i + 1))
    rw [Nat.add_sub_add_right]
theorem cvl_congr {a b c d : Nat → Int} (k : Nat) (h1 : ∀ i, i ≤ k → a i = b i) (h2 : ∀ i, i ≤ k → c i = d i) : cvl a c k = cvl b d k := by
  rw [cvl_sm, cvl_sm]
  exact sm_congr fun i hi => by rw [h1 i (by omega), h2 (k - i) (by omega)]
theorem cvl_addL (a b c : Nat → Int) : ∀ k, cvl (fun i => a i + b i) c k = cvl a c k + cvl b c k := fun k => by
  rw [cvl_sm, cvl_sm, cvl_sm, ← sm_add]
  exact sm_congr fun i _ => Int.add_mul _ _ _
theorem cvl_addR (a c d : Nat → Int) : ∀ k, cvl a (fun i => c i + d i) k = cvl a c k + cvl a d k := fun k => by
  rw [cvl_sm, cvl_sm, cvl_sm, ← sm_add]
  exact sm_congr fun i _ => Int.mul_add _ _ _
theorem cvl_mulL (x : Int) (a c : Nat → Int) : ∀ k, cvl (fun i => x * a i) c k = x * cvl a c k := fun k => by
  rw [cvl_sm, cvl_sm, ← sm_mul]
  exact sm_congr fun i _ => Int.mul_assoc _ _ _
theorem cvl_assoc (b c : Nat → Int) : ∀ (k : Nat) (a : Nat → Int), cvl (cvl a b) c k = cvl a (cvl b c) k
  | 0, a => Int.mul_assoc _ _ _
  | k + 1, a => by
    show cvl a b 0 * c (k + 1) + cvl (sh (cvl a b)) c k = a 0 * cvl b c (k + 1) + cvl (sh a) (cvl b c) k
    have e : sh (cvl a b) = fun i => a 0 * sh b i + cvl (sh a) b i := funext fun i => rfl
    rw [e, cvl_addL, cvl_mulL, cvl_assoc b c k (sh a)]
    show a 0 * b 0 * c (k + 1) + (a 0 * cvl (sh b) c k + cvl (sh a) (cvl b c) k) = a 0 * (b 0 * c (k + 1) + cvl (sh b) c k) + cvl (sh a) (cvl b c) k
    grind
theorem cvl_right (c : Nat → Int) : ∀ (k : Nat) (a : Nat → Int), cvl a c (k + 1) = cvl a (sh c) k + a (k + 1) * c 0
  | 0, a => rfl
  | k + 1, a => by
    show a 0 * c (k + 2) + cvl (sh a) c (k + 1) = a 0 * sh c (k + 1) + cvl (sh a) (sh c) k + a (k + 2) * c 0
    rw [cvl_right c k (sh a)]
    show a 0 * c (k + 2) + (cvl (sh a) (sh c) k + a (k + 2) * c 0) = a 0 * c (k + 2) + cvl (sh a) (sh c) k + a (k + 2) * c 0
    omega
theorem cvl_comm : ∀ (k : Nat) (a c : Nat → Int), cvl a c k = cvl c a k
  | 0, a, c => Int.mul_comm _ _
  | k + 1, a, c => by
    rw [cvl_right a k c]
    show a 0 * c (k + 1) + cvl (sh a) c k = cvl c (sh a) k + c (k + 1) * a 0
    rw [cvl_comm k (sh a) c, Int.mul_comm (c (k + 1))]
    omega
def dv (a : Nat → Int) : Nat → Int := fun k => (k : Int) * a k
theorem dv_cvl (c : Nat → Int) : ∀ (k : Nat) (a : Nat → Int), (k : Int) * cvl a c k = cvl (dv a) c k + cvl a (dv c) k
  | 0, a => by
    show (0 : Int) * _ = (0 : Int) * a 0 * c 0 + a 0 * ((0 : Int) * c 0)
    grind
  | k + 1, a => by
    have ih := dv_cvl c k (sh a)
    have e : sh (dv a) = fun i => dv (sh a) i + sh a i := funext fun i => by
      show ((i + 1 : Nat) : Int) * a (i + 1) = (i : Int) * a (i + 1) + a (i + 1)
      have : ((i + 1 : Nat) : Int) = (i : Int) + 1 := by omega
      rw [this]
      grind
    show ((k + 1 : Nat) : Int) * (a 0 * c (k + 1) + cvl (sh a) c k) = ((0 : Nat) : Int) * a 0 * c (k + 1) + cvl (sh (dv a)) c k + (a 0 * (((k + 1 : Nat) : Int) * c (k + 1)) + cvl (sh a) (dv c) k)
    rw [e, cvl_addL]
    have e2 : ((k + 1 : Nat) : Int) = (k : Int) + 1 := by omega
    rw [e2]
    have e3 : ((0 : Nat) : Int) = 0 := rfl
    rw [e3]
    grind
/-- the sums from the first on -/
def zs (s : Nat → Int) : Nat → Int
  | 0 => 0
  | i + 1 => s (i + 1)
theorem cv_cvl (s f : Nat → Int) : ∀ k, cv s f k = cvl (zs s) f k
  | 0 => (Int.zero_mul _).symm
  | k + 1 => by
    show cv s f (k + 1) = 0 * f (k + 1) + cvl (sh (zs s)) f k
    rw [Int.zero_mul, Int.zero_add, cvl_sm]
    refine sm_congr fun i _ => ?_
    show s (i + 1) * f (k + 1 - 1 - i) = s (i + 1) * f (k - i)
    rw [Nat.add_sub_cancel]
/-- how far a row is from keeping Newton's recurrence -/
def rs (f s : Nat → Int) : Nat → Int := fun k => (k : Int) * f k + cv s f k
theorem rs_cvl (a c s t : Nat → Int) (k : Nat) : rs (cvl a c) (fun i => s i + t i) k = cvl (rs a s) c k + cvl a (rs c t) k := by
  have e1 : zs (fun i => s i + t i) = fun i => zs s i + zs t i := funext fun i => by
    cases i with
    | zero => rfl
    | succ i => rfl
  have e2 : rs a s = fun i => dv a i + cvl (zs s) a i := funext fun i => by
    show (i : Int) * a i + cv s a i = _
    rw [cv_cvl]
    rfl
  have e3 : rs c t = fun i => dv c i + cvl (zs t) c i := funext fun i => by
    show (i : Int) * c i + cv t c i = _
    rw [cv_cvl]
    rfl
  show (k : Int) * cvl a c k + cv _ (cvl a c) k = _
  rw [cv_cvl, e1, e2, e3, cvl_addL, cvl_addL, cvl_addR, dv_cvl, cvl_assoc a c k (zs s)]
  have e4 : cvl (zs t) (cvl a c) k = cvl a (cvl (zs t) c) k := by
    rw [← cvl_assoc a c k (zs t), ← cvl_assoc (zs t) c k a]
    exact cvl_congr k (fun i _ => cvl_comm i _ _) fun _ _ => rfl
  rw [e4]
  omega
theorem cvl_mod {a b c d : Nat → Int} (k : Nat) (h1 : ∀ i, i ≤ k → a i % 97 = b i % 97) (h2 : ∀ i, i ≤ k → c i % 97 = d i % 97) : cvl a c k % 97 = cvl b d k % 97 := by
  rw [cvl_sm, cvl_sm]
  exact sm_mod fun i hi => by rw [Int.mul_emod, h1 i (by omega), h2 (k - i) (by omega), ← Int.mul_emod]
theorem cvl_zeroL (c : Nat → Int) (k : Nat) : cvl (fun _ => 0) c k = 0 := by
  rw [cvl_sm]
  exact sm_zero fun _ _ => Int.zero_mul _
theorem cvl_zeroR (a : Nat → Int) (k : Nat) : cvl a (fun _ => 0) k = 0 := by
  rw [cvl_sm]
  exact sm_zero fun _ _ => Int.mul_zero _
/-- the row by the differences of the sums, multiplied by the one's row, begins as the other's -/
theorem quotient (hp : ∀ a b : Int, a * b % 97 = 0 → a % 97 = 0 ∨ b % 97 = 0) {A B : List Int} {c t : Nat → Int} {m : Nat} (hm : m ≤ 96) (h0 : c 0 % 97 = 1) (hc : ∀ k, k ≤ m → rs c t k % 97 = 0) (ht : ∀ i, 1 ≤ i → i ≤ m → (ps A i + t i) % 97 = ps B i % 97) :
    ∀ k, k ≤ m → cvl (E A) c k % 97 = E B k % 97 := by
  refine uniq hp hm (f := cvl (E A) c) (g := E B) (s := fun i => ps A i + t i) (t := ps B) (fun k hk => ?_) (fun k _ => by rw [NW_E B k]; rfl) ?_ ht
  · show rs (cvl (E A) c) (fun i => ps A i + t i) k % 97 = 0
    rw [rs_cvl]
    have e1 : cvl (rs (E A) (ps A)) c k = 0 := by
      rw [show rs (E A) (ps A) = fun _ => 0 from funext fun i => NW_E A i]
      exact cvl_zeroL c k
    have e2 : cvl (E A) (rs c t) k % 97 = cvl (E A) (fun _ => 0) k % 97 := cvl_mod k (fun _ _ => rfl) fun i hi => hc i (by omega)
    rw [cvl_zeroR] at e2
    omega
  · show E A 0 * c 0 % 97 = E B 0 % 97
    rw [E_zero, E_zero, Int.one_mul, h0]
    rfl
end Ms
namespace My
open PySem PySem.Spec PyProof.Rows L2
/-- a comprehension over any walk, without ifs, without drawing: item i is F i -/
theorem lc_F {J : It} {n : Nat} {G : Hp → Prop} {Y : Nat → Hp → V → Hp → Prop} (w : Walk J n G Y) {te : TE} {g : TG} {vs : List Nat} {σ : L2.St} {H1 : Hp} {D : Addr} {Qd : Hp → Prop} (F : Nat → V) (hz : n ≤ 10000) (hD : H1 D = none) (hG : ∀ H, Same H1 H → G H)
    (ht : ∀ i x H H', i < n → Same H1 H → Y i H x H' → ∀ Q : VK, (∀ H3, Same H H3 → Q (F i) H3) → g x (wipe σ vs) H' fun σ2 H2 => wipe σ2 vs = wipe σ vs ∧ te σ2 H2 Q)
    (k : ∀ H', Same H1 H' → H' D = some (.lst ((List.range n).map F)) → Qd H') :
    ∃ W : Nat → Nat → Hp → Prop, (∃ m, W 0 m (upd H1 D (.lst []))) ∧ ∀ i m H, W i m H →
      (J.stop i H ∧ Qd H) ∨ (J.go i H ∧ ∃ Nx : Hp → Prop, (∀ H', Nx H' → ∃ m', m' < m ∧ W (i + 1) m' H') ∧ ∀ x H', J.yld i H x H' → g x (wipe σ vs) H' fun σ2 H2 => wipe σ2 vs = wipe σ vs ∧ tYes σ2 H2 fun b H3 =>
        if b = true then te σ2 H3 fun y H4 => ∃ acc, H4 D = some (.lst acc) ∧ acc.length < sizeLine ∧ Nx (upd H4 D (.lst (acc ++ [y]))) else Nx H3) := by
  refine lc_it w (fun i H' => Same H1 H' ∧ H' D = some (.lst ((List.range i).map F))) ⟨same_upd hD, upd_same⟩ (fun i H _ p => hG H p.1) ?_ ?_
  · rintro i x H H' hi ⟨sm, hd⟩ y
    refine ht i x H H' hi sm y _ fun H3 s3 => ?_
    refine ⟨_, s3 _ _ hd, ?_, (sm.trans s3).mut hD, ?_⟩
    · rw [List.length_map, List.length_range]
      exact Nat.lt_of_lt_of_le (by omega : i < 10001) (by decide)
    · rw [upd_same, List.range_succ, List.map_append]
      rfl
  · rintro H' ⟨sm, hd⟩
    exact k H' sm hd
/-- the same with an if: items i of which f i holds -/
theorem lc_FT {J : It} {n : Nat} {G : Hp → Prop} {Y : Nat → Hp → V → Hp → Prop} (w : Walk J n G Y) {tt : TT} {te : TE} {g : TG} {vs : List Nat} {σ : L2.St} {H1 : Hp} {D : Addr} {Qd : Hp → Prop} (f : Nat → Bool) (F : Nat → V) (hz : n ≤ 10000) (hD : H1 D = none) (hG : ∀ H, Same H1 H → G H)
    (ht : ∀ i x H H', i < n → Same H1 H → Y i H x H' → ∀ Q : L2.St → Bool → Hp → Prop, (∀ σ2 H3, Same H H3 → (f i = true → ∀ Q2 : VK, (∀ H4, Same H3 H4 → Q2 (F i) H4) → te σ2 H3 Q2) → Q σ2 (f i) H3) → g x (wipe σ vs) H' fun σ2 H2 => wipe σ2 vs = wipe σ vs ∧ tt σ2 H2 (Q σ2))
    (k : ∀ H', Same H1 H' → H' D = some (.lst (((List.range n).filter f).map F)) → Qd H') :
    ∃ W : Nat → Nat → Hp → Prop, (∃ m, W 0 m (upd H1 D (.lst []))) ∧ ∀ i m H, W i m H →
      (J.stop i H ∧ Qd H) ∨ (J.go i H ∧ ∃ Nx : Hp → Prop, (∀ H', Nx H' → ∃ m', m' < m ∧ W (i + 1) m' H') ∧ ∀ x H', J.yld i H x H' → g x (wipe σ vs) H' fun σ2 H2 => wipe σ2 vs = wipe σ vs ∧ tt σ2 H2 fun b H3 =>
        if b = true then te σ2 H3 fun y H4 => ∃ acc, H4 D = some (.lst acc) ∧ acc.length < sizeLine ∧ Nx (upd H4 D (.lst (acc ++ [y]))) else Nx H3) := by
  refine lc_it w (fun i H' => Same H1 H' ∧ H' D = some (.lst (((List.range i).filter f).map F))) ⟨same_upd hD, upd_same⟩ (fun i H _ p => hG H p.1) ?_ ?_
  · rintro i x H H' hi ⟨sm, hd⟩ y
    refine ht i x H H' hi sm y _ fun σ2 H3 s3 he => ?_
    have hd3 := s3 _ _ hd
    have er : (List.range (i + 1)).filter f = (List.range i).filter f ++ (if f i = true then [i] else []) := by
      rw [List.range_succ, List.filter_append, List.filter_cons]
      rfl
    by_cases c : f i = true
    · rw [if_pos c] at er ⊢
      refine he c _ fun H4 s4 => ⟨_, s4 _ _ hd3, ?_, (sm.trans (s3.trans s4)).mut hD, ?_⟩
      · rw [List.length_map]
        refine Nat.lt_of_le_of_lt (List.length_filter_le _ _) ?_
        rw [List.length_range]
        exact Nat.lt_of_lt_of_le (by omega : i < 10001) (by decide)
      · rw [upd_same, er, List.map_append]
        rfl
    · rw [if_neg c] at er ⊢
      refine ⟨sm.trans s3, ?_⟩
      rw [hd3, er, List.append_nil]
  · rintro H' ⟨sm, hd⟩
    exact k H' sm hd
end My
namespace Mz
open PySem PySem.Spec PyProof.Rows L2
/-! ### zip of a list or a tuple with a list or a tuple -/
/-- a list (true) or a tuple (false) -/
def Sq (K : PySem.W.Frag) (H : Hp) : Bool → Addr → List V → Prop
  | true => SqL K H
  | false => SqT K H
def Wk (h : Heap) : Bool → Addr → Addr → Nat → Prop
  | true => fun it l i => h.IsListIter it l i
  | false => fun it l i => h.IsTupleIter it l i
def Im (h : Heap) : Bool → Addr → Array Value → Prop
  | true => fun l m => h.IsList l m
  | false => fun l m => h.IsTuple l m
theorem drw {P : Program} {w : World} {A : Around} (hh : A.handled = none) {it l : Addr} (ne : l ≠ it) (m : Array Value) : ∀ p : Bool, Draws P w A it [it, l] m.size (fun i v => m[i]? = some v) (fun i h => Wk h p it l i ∧ Im h p l m)
  | true => Draws.list hh it l ne m
  | false => Draws.tuple hh it l ne m
theorem Wk.live {h : Heap} {p : Bool} {it l : Addr} {i : Nat} (x : Wk h p it l i) : ∃ o, h.get? it = some o ∧ ∀ v, o.data ≠ .cell v := by
  cases p with
  | false =>
    obtain ⟨o, e, _, d⟩ := x
    exact ⟨o, e, fun v z => by rw [d] at z; exact nomatch z⟩
  | true =>
    obtain ⟨o, e, _, d⟩ := x
    exact ⟨o, e, fun v z => by rw [d] at z; exact nomatch z⟩
theorem Wk.on {h h' : Heap} {p : Bool} {it l : Addr} {i : Nat} (x : Wk h p it l i) (k : ∀ o, h.get? it = some o → h'.get? it = some o) : Wk h' p it l i := by
  cases p with
  | false => exact Heap.IsTupleIter.at x k
  | true => exact Heap.IsListIter.at x k
theorem stands {X : Cx} {pins : List (Addr × Obj)} {σ : L2.St} {H : Hp} {s : Shared} {a : Addr} {xs : List V} (I : Inv X pins σ H s) {p : Bool} (h : Sq X.K H p a xs) : ∃ its, Vals xs its ∧ Im s.heap p a its.toArray ∧ a < s.heap.objs.size := by
  cases p with
  | false =>
    obtain ⟨its, rv, q, _⟩ := I.tuple h
    obtain ⟨o, ho, _⟩ := id q
    exact ⟨its, rv, q, Heap.lt_size ho⟩
  | true =>
    obtain ⟨its, rv, q, _⟩ := I.list h
    exact ⟨its, rv, q.isList, q.lt⟩
theorem one {X : Cx} {pins : List (Addr × Obj)} {σ : L2.St} {H : Hp} {s : Shared} {a : Addr} {xs ys : List V} (I : Inv X pins σ H s) {p : Bool} (h : Sq X.K H p a xs) (h' : Sq X.K H p a ys) : xs = ys := by
  cases p with
  | false => exact I.tuple_inj h h'
  | true => exact I.list_inj h h'
/-- both as they stand at each turn, the items in new pairs -/
def It2 (K : PySem.W.Frag) (p q : Bool) (a b : Addr) : It where
  go i H := ∃ (xs ys : List V) (x y : V), (Sq K H p a xs ∧ Sq K H q b ys) ∧ xs[i]? = some x ∧ ys[i]? = some y
  yld i H v H' := ∃ (T : Addr) (x y : V), v = .ref T ∧ H T = none ∧ H' = upd H T (.tup [x, y]) ∧ (∀ xs, Sq K H p a xs → xs[i]? = some x) ∧ ∀ ys, Sq K H q b ys → ys[i]? = some y
  stop i H := ∃ xs ys : List V, (Sq K H p a xs ∧ Sq K H q b ys) ∧ i ≤ xs.length ∧ i ≤ ys.length ∧ (i = xs.length ∨ i = ys.length)
theorem turn2 {P : Program} {w : World} {K : PySem.W.Frag} {es : List Expr} {k : Nat} {tp : Pos} {a b z U O j1 j2 : Addr} {p q : Bool} (S : ZipSep2 z U O j1 j2 [j1, a] [j2, b]) (n1 : a ≠ j1) (n2 : b ≠ j2) :
    Turn P w K (.Tuple es k tp) (It2 K p q a b) [z, U, O, j1, j2] z (fun i h => (IsZip h z U O .none ∧ IsTupOf2 h U (.ref j1) (.ref j2) ∧ ∃ x y, IsTupOf2 h O x y) ∧ Wk h p j1 a i ∧ Wk h q j2 b i) where
  mem := List.mem_cons_self
  obj := by
    rintro i h ⟨⟨f1, f2, x, y, f3⟩, f4, f5⟩ c hc
    rcases (by simpa using hc : c = z ∨ c = U ∨ c = O ∨ c = j1 ∨ c = j2) with e | e | e | e | e <;> subst e
    · exact ⟨_, f1, (fun _ y => nomatch y)⟩
    · exact ⟨_, f2, (fun _ y => nomatch y)⟩
    · exact ⟨_, f3, (fun _ y => nomatch y)⟩
    · exact f4.live
    · exact f5.live
  keep := by
    rintro i h h' ⟨⟨f1, f2, x, y, f3⟩, f4, f5⟩ kk
    exact ⟨⟨kk _ (by simp) _ f1, kk _ (by simp) _ f2, x, y, kk _ (by simp) _ f3⟩, f4.on (kk _ (by simp)), f5.on (kk _ (by simp))⟩
  item := by
    rintro X rfl rfl rfl calm i pins s σ H E I fr ⟨⟨f1, f2, x0, y0, f3⟩, f4, f5⟩ ⟨xs, ys, x, y, ⟨g1, g2⟩, gx, gy⟩
    obtain ⟨m1, r1, p1, _⟩ := stands I g1
    obtain ⟨m2, r2, p2, _⟩ := stands I g2
    obtain ⟨u1, k1, t1⟩ := r1.get gx
    obtain ⟨u2, k2, t2⟩ := r2.get gy
    have c1 : i < m1.toArray.size := by
      rw [List.size_toArray]
      exact (List.getElem?_eq_some_iff.mp k1).1
    have c2 : i < m2.toArray.size := by
      rw [List.size_toArray]
      exact (List.getElem?_eq_some_iff.mp k2).1
    have zl : z < s.heap.objs.size := Heap.lt_size f1
    refine wpAny_pyNext_zipD2_item S (drw (A := X.A.in1) (show X.A.in1.handled = none from I.ok.hd calm) n1 m1.toArray p) (drw (A := X.A.in1) (show X.A.in1.handled = none from I.ok.hd calm) n2 m2.toArray q) f1 f2 f3 ⟨f4, p1⟩ ⟨f5, p2⟩ c1 c2 fun v1 v2 h1 tk w1 w2 z1 O1 s1 s2 T1 _ kk => ?_
    have e1 : v1 = u1 := by
      rw [show m1.toArray[i]? = m1[i]? by simp, k1] at w1
      exact (Option.some.inj w1).symm
    have e2 : v2 = u2 := by
      rw [show m2.toArray[i]? = m2[i]? by simp, k2] at w2
      exact (Option.some.inj w2).symm
    subst e1 e2
    refine ⟨_, rfl, wpAny_letOwnedTupleGo_zip (s := { s with heap := h1, toks := tk }) z1 fun h2 z2 sb => ?_⟩
    have T2 := (sb.2 _ (Nat.ne_of_gt zl)).trans T1
    have nw : ObjOk X.prog X.w (upd H s.heap.objs.size (.tup [x, y])) h2 s.heap.objs.size (.tup [x, y]) := ⟨by show 2 ≤ sizeLine; decide, [v1, v2], .cons t1 (.cons t2 .nil), _, T2, rfl, _, rfl⟩
    have fz : ∀ c ∈ [z, U, O, j1, j2], c < s.heap.objs.size := fun c hc => by
      rcases (by simpa using hc : c = z ∨ c = U ∨ c = O ∨ c = j1 ∨ c = j2) with e | e | e | e | e <;> subst e
      · exact zl
      · exact Heap.lt_size f2
      · exact Heap.lt_size f3
      · exact Heap.lt_size f4.live.choose_spec.1
      · exact Heap.lt_size f5.live.choose_spec.1
    have J := I.turnedNew (t' := tk) (ch := [z, U, O, j1, j2]) (fun c o hc e => (sb.2 c fun ez => hc (by rw [ez]; simp)).trans (kk c o (fun ez => hc (by rw [ez]; simp)) (fun ez => hc (by rw [ez]; simp)) (fun ez => hc (by rw [ez]; simp)) (fun ez => hc (by rw [ez]; simp)) e)) fr (Nat.le_refl _) nw
    refine ⟨.ref s.heap.objs.size, _, J, rfl, ⟨_, x, y, rfl, I.hok.fresh (Nat.le_refl _), rfl, fun l hl => one I hl g1 ▸ gx, fun l hl => one I hl g2 ▸ gy⟩, ⟨⟨z2, ?_, v1, v2, ?_⟩, ?_, ?_⟩, fun c hc => ?_⟩
    · exact (sb.2 _ S.TIz).trans (kk _ _ S.TIz S.TITO S.TIi1 S.TIi2 f2)
    · exact (sb.2 _ S.TOz).trans O1
    · exact s1.1.on fun o e => (sb.2 _ S.zi1.symm).trans e
    · exact s2.1.on fun o e => (sb.2 _ S.zi2.symm).trans e
    · rw [upd_ne (Nat.ne_of_lt (fz c hc))]
      exact (fr c hc).1
  done := by
    rintro X rfl rfl rfl calm i pins s σ H E I fr ⟨⟨f1, f2, x0, y0, f3⟩, f4, f5⟩ ⟨xs, ys, ⟨g1, g2⟩, b1, b2, be⟩
    obtain ⟨m1, r1, p1, _⟩ := stands I g1
    obtain ⟨m2, r2, p2, _⟩ := stands I g2
    have l1 : m1.toArray.size = xs.length := by rw [List.size_toArray, r1.length]
    have l2 : m2.toArray.size = ys.length := by rw [List.size_toArray, r2.length]
    refine wpAny_pyNext_zipD2_end S (drw (A := X.A.in1) (show X.A.in1.handled = none from I.ok.hd calm) n1 m1.toArray p) (drw (A := X.A.in1) (show X.A.in1.handled = none from I.ok.hd calm) n2 m2.toArray q) f1 f2 f3 ⟨f4, p1⟩ ⟨f5, p2⟩ (by rw [l1]; exact b1) (by rw [l2]; exact b2) (by rw [l1, l2]; exact be) fun h1 tk kk => ⟨rfl, ?_⟩
    exact I.turnedL (t' := tk) (ch := [z, U, O, j1, j2]) (fun c o hc e => kk c o (fun ez => hc (by rw [ez]; simp)) (fun ez => hc (by rw [ez]; simp)) (fun ez => hc (by rw [ez]; simp)) (fun ez => hc (by rw [ez]; simp)) e) fr
  self := fun A i s Q E st h => wpAny_pyIter_zip st.1.1 h
theorem walk2 {K : PySem.W.Frag} {p q : Bool} {a b : Addr} {xs ys : List V} {n : Nat} (hn : n = min xs.length ys.length) : Walk (It2 K p q a b) n (fun H => Sq K H p a xs ∧ Sq K H q b ys) (YPair (fun i => xs[i]?) (fun i => ys[i]?)) where
  goes i H hi G := ⟨xs, ys, xs[i]'(by omega), ys[i]'(by omega), G, List.getElem?_eq_getElem _, List.getElem?_eq_getElem _⟩
  stops H G := ⟨xs, ys, G, by omega, by omega, by omega⟩
  yields := by
    rintro i H v H' hi G ⟨T, x, y, rfl, fr, e, g1, g2⟩
    exact ⟨T, x, y, rfl, fr, e, g1 xs G.1, g2 ys G.2⟩
def iZip2 (K : PySem.W.Frag) (p q : Bool) (ta : TA) : TI := fun σ H R => ta σ H fun vs H1 => ∃ a b xs ys, vs = [.ref a, .ref b] ∧ Sq K H1 p a xs ∧ Sq K H1 q b ys ∧ R (It2 K p q a b) H1
theorem begins {s : Shared} : ∀ (p : Bool) (a : Addr) (m : Array Value), ∃ o, Begins (.ref a) o (fun h => Im h p a m) ∧ ∀ h b, h.get? b = some o → Wk h p b a 0
  | true, a, m => ⟨_, begins_list a m, fun h b e => ⟨_, e, rfl, rfl⟩⟩
  | false, a, m => ⟨_, begins_tuple a m, fun h b e => ⟨_, e, rfl, rfl⟩⟩
theorem pi_zip2 {X : Cx} {e e2 : Expr} {ta : TA} {l pos tpos : Pos} {es : List Expr} {k : Nat} {p q : Bool} (hg : Gl X "zip") (hm : X.mg "zip" = none) (ha : PA X [e, e2] ta)
    (hs : starEach [e, e2] X.env = (false, eval e X.env) :: starEach [e2] X.env := by rfl) (hpl : (backTo pos (starEach [e2] X.env)).any (·.1) = false := by rfl) :
    PI X (.Tuple es k tpos) (.Call (.Name "zip" l) [e, e2] [] pos) (iZip2 X.K p q ta) where
  run pins s σ H R I h := by
    refine Call_ (ld_blt I hg hm PyProof.Rows.boot_zip (PyProof.Rows.callWith_type1 (thn (ha.run pos pins s σ H _ I h) ?_) hs hpl))
    rintro us s1 ⟨vs, H1, J, rr, a, b, xs, ys, rfl, g1, g2, R1⟩
    obtain ⟨u1, u2, rfl, c1, c2⟩ := vals2 rr
    cases (show u1 = Value.ref a from c1)
    cases (show u2 = Value.ref b from c2)
    obtain ⟨m1, _, p1, l1⟩ := stands J g1
    obtain ⟨m2, _, p2, l2⟩ := stands J g2
    obtain ⟨o1, B1, w1⟩ := begins (s := s1) p a m1.toArray
    obtain ⟨o2, B2, w2⟩ := begins (s := s1) q b m2.toArray
    refine zip_begins2 B1 B2 p1 p2 fun h' z1 U1 O1 k1 k2 _ kk => wpAny_pyIter_zip z1 ?_
    have J2 : Inv X pins σ H1 { s1 with heap := h' } := J.kept (t' := s1.toks) kk
    refine ⟨s1.heap.objs.size + 4, [s1.heap.objs.size + 4, s1.heap.objs.size + 2, s1.heap.objs.size + 3, s1.heap.objs.size, s1.heap.objs.size + 1], _, _, H1, rfl, J2, turn2 (zip_sep2 (N := s1.heap.objs.size) (fp1 := [a]) (fp2 := [b]) (fun c hc => ?_) fun c hc => ?_) (Nat.ne_of_lt l1) (Nat.ne_of_lt (Nat.lt_succ_of_lt l2)), ⟨⟨z1, U1, _, _, O1⟩, w1 _ _ k1, w2 _ _ k2⟩, fun c hc => ?_, R1⟩
    · rw [List.mem_singleton.mp hc]
      exact l1
    · rw [List.mem_singleton.mp hc]
      exact l2
    · have le : s1.heap.objs.size ≤ c := by
        rcases (by simpa using hc : c = s1.heap.objs.size + 4 ∨ c = s1.heap.objs.size + 2 ∨ c = s1.heap.objs.size + 3 ∨ c = s1.heap.objs.size ∨ c = s1.heap.objs.size + 1) with e | e | e | e | e <;> subst e
        · exact Nat.le_add_right _ 4
        · exact Nat.le_add_right _ 2
        · exact Nat.le_add_right _ 3
        · exact Nat.le_refl _
        · exact Nat.le_add_right _ 1
      exact J.fpOk le (J.hok.fresh le)
end Mz
namespace My
open PySem PySem.Spec PyProof.Rows L2
/-- a comprehension over any walk, without ifs, without drawing: of item i P holds -/
theorem lc_P {J : It} {n : Nat} {G : Hp → Prop} {Y : Nat → Hp → V → Hp → Prop} (w : Walk J n G Y) {te : TE} {g : TG} {vs : List Nat} {σ : L2.St} {H1 : Hp} {D : Addr} {Qd : Hp → Prop} (P : Nat → V → Hp → Prop) (hz : n ≤ 10000) (hD : H1 D = none) (hG : ∀ H, Same H1 H → G H)
    (hP : ∀ i v H H' acc, P i v H → H D = some (.lst acc) → (∀ b o, b ≠ D → H b = some o → H' b = some o) → P i v H')
    (ht : ∀ i x H H', i < n → Same H1 H → Y i H x H' → ∀ Q : VK, (∀ v H3, Same H H3 → P i v H3 → Q v H3) → g x (wipe σ vs) H' fun σ2 H2 => wipe σ2 vs = wipe σ vs ∧ te σ2 H2 Q)
    (k : ∀ ws H', Same H1 H' → H' D = some (.lst ws) → ws.length = n → (∀ i v, ws[i]? = some v → P i v H') → Qd H') :
    ∃ W : Nat → Nat → Hp → Prop, (∃ m, W 0 m (upd H1 D (.lst []))) ∧ ∀ i m H, W i m H →
      (J.stop i H ∧ Qd H) ∨ (J.go i H ∧ ∃ Nx : Hp → Prop, (∀ H', Nx H' → ∃ m', m' < m ∧ W (i + 1) m' H') ∧ ∀ x H', J.yld i H x H' → g x (wipe σ vs) H' fun σ2 H2 => wipe σ2 vs = wipe σ vs ∧ tYes σ2 H2 fun b H3 =>
        if b = true then te σ2 H3 fun y H4 => ∃ acc, H4 D = some (.lst acc) ∧ acc.length < sizeLine ∧ Nx (upd H4 D (.lst (acc ++ [y]))) else Nx H3) := by
  refine lc_it w (fun i H' => ∃ ws, Same H1 H' ∧ H' D = some (.lst ws) ∧ ws.length = i ∧ ∀ j v, ws[j]? = some v → P j v H') ⟨[], same_upd hD, upd_same, rfl, (fun _ _ z => nomatch z)⟩ (fun i H _ ⟨_, p, _⟩ => hG H p) ?_ ?_
  · rintro i x H H' hi ⟨ws, sm, hd, hl, hp⟩ y
    refine ht i x H H' hi sm y _ fun v H3 s3 pv => ?_
    have hd3 := s3 _ _ hd
    refine ⟨_, hd3, Nat.lt_of_lt_of_le (by omega : ws.length < 10001) (by decide), ws ++ [v], (sm.trans s3).mut hD, upd_same, by rw [List.length_append, hl]; rfl, fun j u hj => ?_⟩
    have up : ∀ j u, P j u H3 → P j u (upd H3 D (.lst (ws ++ [v]))) := fun j u hu => hP j u H3 _ _ hu hd3 fun b o hb e => by rw [upd_ne hb]; exact e
    rcases Nat.lt_trichotomy j i with c | c | c
    · rw [List.getElem?_append_left (by omega)] at hj
      exact up j u (hP j u H H3 _ (hp j u hj) hd fun b o _ e => s3 b o e)
    · subst c
      rw [List.getElem?_append_right (by omega), hl, Nat.sub_self] at hj
      cases hj
      exact up j v pv
    · rw [List.getElem?_eq_none (by rw [List.length_append, hl]; exact c)] at hj
      cases hj
  · rintro H' ⟨ws, sm, hd, hl, hp⟩
    exact k ws H' sm hd hl hp
end My
namespace My
open PySem PySem.Spec PyProof.Rows L2
/-! ### rows as functions -/
def gd (l : List Int) : Nat → Int := fun i => l.getD i 0
def sg (l : List Int) : Nat → Int := fun i => l.getD (i - 1) 0
theorem gd_get {l : List Int} {i : Nat} {z : Int} (h : l[i]? = some z) : gd l i = z := by
  unfold gd
  rw [List.getD_eq_getElem?_getD, h]
  rfl
theorem get_gd {l : List Int} {i : Nat} (h : i < l.length) : l[i]? = some (gd l i) := by
  rw [gd_get (List.getElem?_eq_getElem h)]
  exact List.getElem?_eq_getElem h
theorem gd_out {l : List Int} {i : Nat} (h : l.length ≤ i) : gd l i = 0 := by
  unfold gd
  rw [List.getD_eq_getElem?_getD, List.getElem?_eq_none h]
  rfl
theorem gd_app {l r : List Int} {i : Nat} (h : i < l.length) : gd (l ++ r) i = gd l i := by
  unfold gd
  rw [List.getD_eq_getElem?_getD, List.getD_eq_getElem?_getD, List.getElem?_append_left h]
theorem gd_last (l : List Int) (z : Int) : gd (l ++ [z]) l.length = z := gd_get (by
  rw [List.getElem?_append_right (Nat.le_refl _), Nat.sub_self]
  rfl)
theorem gd_rev {l : List Int} {n j : Nat} (h : l.length = n + 1) (hj : j ≤ n) : l.reverse.getD j 0 = gd l (n - j) := by
  unfold gd
  rw [List.getD_eq_getElem?_getD, List.getD_eq_getElem?_getD, List.getElem?_reverse (by omega), h]
  congr 2
theorem sum_range (f : Nat → Int) : ∀ n, ((List.range n).map f).sum = Ms.sm f n
  | 0 => rfl
  | n + 1 => by
    rw [List.range_succ, List.map_append, List.sum_append, sum_range f n]
    show _ + (f n + 0) = Ms.sm f n + f n
    rw [Int.add_zero]
def ofF (n : Nat) (f : Nat → Int) : List Int := (List.range n).map f
theorem ofF_len (n : Nat) (f : Nat → Int) : (ofF n f).length = n := by
  unfold ofF
  rw [List.length_map, List.length_range]
theorem ofF_get {n i : Nat} (f : Nat → Int) (h : i < n) : (ofF n f)[i]? = some (f i) := by
  unfold ofF
  rw [List.getElem?_map, List.getElem?_range h]
  rfl
theorem gd_ofF {n i : Nat} (f : Nat → Int) (h : i < n) : gd (ofF n f) i = f i := gd_get (ofF_get f h)
theorem ofF_gd {l : List Int} {n : Nat} (h : l.length = n) : ofF n (gd l) = l := by
  refine List.ext_getElem? fun k => ?_
  by_cases c : k < n
  · rw [ofF_get _ c, get_gd (by omega)]
  · rw [List.getElem?_eq_none (by rw [ofF_len]; omega), List.getElem?_eq_none (by omega)]
theorem ofF_congr {n : Nat} {f g : Nat → Int} (h : ∀ i, i < n → f i = g i) : ofF n f = ofF n g :=
  List.map_congr_left fun i hi => h i (List.mem_range.mp hi)
theorem ofF_vals (n : Nat) (f : Nat → Int) : (List.range n).map (fun i => V.int (f i)) = (ofF n f).map V.int := by
  unfold ofF
  rw [List.map_map]
  rfl
theorem ofF_set {n i : Nat} (f : Nat → Int) (v : Int) (h : i < n) : (ofF n f).set i v = ofF n fun k => if k = i then v else f k := by
  refine List.ext_getElem? fun k => ?_
  by_cases c : k < n
  · rw [List.getElem?_set, ofF_get (fun k => if k = i then v else f k) c]
    show _ = some (if k = i then v else f k)
    by_cases e : k = i
    · rw [if_pos e.symm, if_pos (by rw [ofF_len]; omega), if_pos e]
    · rw [if_neg (fun z => e z.symm), ofF_get _ c, if_neg e]
  · rw [List.getElem?_eq_none (by rw [List.length_set, ofF_len]; omega), List.getElem?_eq_none (by rw [ofF_len]; omega)]
theorem mem_ofF {n : Nat} {f : Nat → Int} {z : Int} (h : z ∈ ofF n f) : ∃ i, i < n ∧ z = f i := by
  obtain ⟨i, hi, rfl⟩ := List.mem_map.mp h
  exact ⟨i, List.mem_range.mp hi, rfl⟩
/-! rows multiplied, step by step -/
def co (f g : Nat → Int) (j i : Nat) : Int := if j ≤ i then f j * g (i - j) else 0
def part (f g : Nat → Int) (j i : Nat) : Int := Ms.sm (fun j => co f g j i) j
theorem sm_tail {f : Nat → Int} {n : Nat} : ∀ m, (∀ k, n ≤ k → k < n + m → f k = 0) → Ms.sm f (n + m) = Ms.sm f n
  | 0, _ => rfl
  | m + 1, h => by
    show Ms.sm f (n + m) + f (n + m) = _
    rw [sm_tail m fun k h1 h2 => h k h1 (by omega), h (n + m) (by omega) (by omega), Int.add_zero]
theorem part_full {f g : Nat → Int} {J i : Nat} (h : ∀ j, J ≤ j → j ≤ i → f j = 0) : part f g J i = Ms.cvl f g i := by
  rw [Ms.cvl_sm]
  have e : Ms.sm (fun j => f j * g (i - j)) (i + 1) = Ms.sm (fun j => co f g j i) (i + 1) := Ms.sm_congr fun j hj => by
    show _ = if j ≤ i then _ else _
    rw [if_pos (by omega)]
  rw [e]
  unfold part
  by_cases c : J ≤ i + 1
  · have := sm_tail (f := fun j => co f g j i) (n := J) (i + 1 - J) fun k h1 h2 => by
      show (if k ≤ i then f k * g (i - k) else 0) = 0
      rw [if_pos (by omega), h k h1 (by omega), Int.zero_mul]
    rw [show J + (i + 1 - J) = i + 1 by omega] at this
    exact this.symm
  · have := sm_tail (f := fun j => co f g j i) (n := i + 1) (J - (i + 1)) fun k h1 h2 => by
      show (if k ≤ i then f k * g (i - k) else 0) = 0
      rw [if_neg (by omega)]
    rw [show i + 1 + (J - (i + 1)) = J by omega] at this
    exact this
/-- behind j full turns and k steps of the next -/
def stepF (f g : Nat → Int) (j k : Nat) : Nat → Int := fun i => (part f g j i + (if j ≤ i ∧ i < j + k then f j * g (i - j) else 0)) % 97
theorem stepF_next {n j k : Nat} {f g : Nat → Int} : (ofF n fun i => if i = j + k then (stepF f g j k (j + k) + f j * g k) % 97 else stepF f g j k i) = ofF n (stepF f g j (k + 1)) := by
  refine ofF_congr fun i hi => ?_
  by_cases c : i = j + k
  · subst c
    rw [if_pos rfl]
    unfold stepF
    rw [if_neg (by omega), if_pos (by omega), show j + k - j = k by omega]
    omega
  · rw [if_neg c]
    unfold stepF
    congr 2
    by_cases d : j ≤ i ∧ i < j + k
    · rw [if_pos d, if_pos (by omega)]
    · rw [if_neg d, if_neg (by omega)]
theorem stepF_zero {n : Nat} {f g : Nat → Int} {j : Nat} : ofF n (stepF f g j 0) = ofF n fun i => part f g j i % 97 := ofF_congr fun i _ => by
  unfold stepF
  rw [if_neg (by omega), Int.add_zero]
theorem stepF_end {n j k : Nat} {f g : Nat → Int} (h : ∀ i, i < n → j + k ≤ i → g (i - j) = 0) : ofF n (stepF f g j k) = ofF n fun i => part f g (j + 1) i % 97 := ofF_congr fun i hi => by
  unfold stepF
  show _ = (part f g j i + (if j ≤ i then f j * g (i - j) else 0)) % 97
  congr 2
  by_cases c : j ≤ i
  · rw [if_pos c]
    by_cases d : i < j + k
    · rw [if_pos ⟨c, d⟩]
    · rw [if_neg (by omega), h i hi (by omega), Int.mul_zero]
  · rw [if_neg c, if_neg (by omega)]
def timesL (xs ys : List Int) (n : Nat) : List Int := ofF n fun i => Ms.cvl (gd xs) (gd ys) i % 97
/-- a set's row, told on -/
def rowE (ms : List Int) (n : Nat) : List Int := ofF n fun i => Ms.E ms i % 97
theorem gd_rowE {ms : List Int} {n i : Nat} (h : ms.length < n) : gd (rowE ms n) i = Ms.E ms i % 97 := by
  by_cases c : i < n
  · exact gd_ofF _ c
  · rw [gd_out (by unfold rowE; rw [ofF_len]; omega), Ms.E_deg (by omega)]
    rfl
theorem cvl_two (f : Nat → Int) (z : Int) : ∀ k, Ms.cvl f (gd [1, 0 - z]) k = Ms.st f z k
  | 0 => by
    show f 0 * 1 = f 0 - z * 0
    omega
  | k + 1 => by
    rw [Ms.cvl_comm]
    show 1 * f (k + 1) + Ms.cvl (Ms.sh (gd [1, 0 - z])) f k = f (k + 1) - z * f k
    have e : Ms.cvl (Ms.sh (gd [1, 0 - z])) f k = (0 - z) * f k := by
      cases k with
      | zero => rfl
      | succ k =>
        show (0 - z) * f (k + 1) + Ms.cvl (Ms.sh (Ms.sh (gd [1, 0 - z]))) f k = _
        have e0 : Ms.sh (Ms.sh (gd [1, 0 - z])) = fun _ => 0 := funext fun i => show gd [1, 0 - z] (i + 1 + 1) = 0 from gd_out (by show 2 ≤ i + 1 + 1; omega)
        rw [e0, Ms.cvl_zeroL, Int.add_zero]
    rw [e]
    grind
theorem E_snoc (ms : List Int) (z : Int) : Ms.E (ms ++ [z]) = Ms.st (Ms.E ms) z := by
  unfold Ms.E Ms.EG
  rw [List.foldl_append]
  rfl
theorem times_row {ms : List Int} {z : Int} {n m : Nat} (h : ms.length < n) : timesL (rowE ms n) [1, 0 - z] m = rowE (ms ++ [z]) m := by
  refine ofF_congr fun i _ => ?_
  rw [E_snoc, ← cvl_two]
  exact Ms.cvl_mod i (fun j _ => by rw [gd_rowE h, Int.emod_emod]) fun _ _ => rfl
theorem rowE_bd (ms : List Int) (n : Nat) : ∀ z ∈ rowE ms n, 0 ≤ z ∧ z ≤ 96 := by
  intro z hz
  obtain ⟨i, _, rfl⟩ := mem_ofF hz
  have := Int.emod_nonneg (Ms.E ms i) (show (97 : Int) ≠ 0 by decide)
  have := Int.emod_lt_of_pos (Ms.E ms i) (show (0 : Int) < 97 by decide)
  omega
theorem rowE_len (ms : List Int) (n : Nat) : (rowE ms n).length = n := ofF_len _ _
theorem rowE_more {ms : List Int} {n k : Nat} (h : ms.length < n) : rowE ms n ++ List.replicate k 0 = rowE ms (n + k) := by
  refine List.ext_getElem? fun i => ?_
  rcases Nat.lt_or_ge i n with c | c
  · rw [List.getElem?_append_left (by rw [rowE_len]; exact c)]
    unfold rowE
    rw [ofF_get _ c, ofF_get _ (by omega)]
  · rw [List.getElem?_append_right (by rw [rowE_len]; exact c), rowE_len]
    by_cases d : i < n + k
    · unfold rowE
      rw [ofF_get _ d, List.getElem?_replicate, if_pos (by omega), Ms.E_deg (by omega)]
      rfl
    · rw [List.getElem?_eq_none (by rw [List.length_replicate]; omega), List.getElem?_eq_none (by rw [rowE_len]; omega)]
theorem rowE_take {ms : List Int} {n k : Nat} (h : k ≤ n) : (rowE ms n).take k = rowE ms k := by
  unfold rowE ofF
  rw [← List.map_take, List.take_range, Nat.min_eq_left h]
def minI (x y : Int) : Int := if y < x then y else x
theorem minI_eq {x y : Int} : minI x y = x ∧ x ≤ y ∨ minI x y = y ∧ y < x := by
  unfold minI
  by_cases c : y < x
  · exact .inr ⟨if_pos c, c⟩
  · exact .inl ⟨if_neg c, by omega⟩
/-- the row by sums, as far as i -/
structure Rb (ts : List Int) (i : Nat) (row : List Int) : Prop where
  len : row.length = i + 1
  bd : ∀ z ∈ row, 0 ≤ z ∧ z ≤ 96
  hd : gd row 0 = 1
  kp : ∀ k, k ≤ i → Ms.rs (gd row) (sg ts) k % 97 = 0
theorem Rb.one (ts : List Int) : Rb ts 0 [1] := ⟨rfl, fun z hz => by rw [List.mem_singleton.mp hz]; decide, rfl, fun k hk => by
  have e : k = 0 := by omega
  subst e
  show ((0 : Nat) : Int) * gd [1] 0 % 97 = 0
  rfl⟩
theorem rs_congr {f g s : Nat → Int} {k : Nat} (h : ∀ i, i ≤ k → f i = g i) : Ms.rs f s k = Ms.rs g s k := by
  unfold Ms.rs Ms.cv
  rw [h k (Nat.le_refl _)]
  congr 1
  exact Ms.sm_congr fun i hi => by rw [h _ (by omega)]
theorem Rb.next {ts row : List Int} {i : Nat} (h : Rb ts i row) {t g : Int} (ht : t = Ms.cv (sg ts) (gd row) (i + 1)) (hg : (1 + (i : Int)) * g % 97 = 1) : Rb ts (i + 1) (row ++ [-t * g % 97]) := by
  have hl := h.len
  refine ⟨by rw [List.length_append, h.len]; rfl, fun z hz => ?_, ?_, fun k hk => ?_⟩
  · rcases List.mem_append.mp hz with hz | hz
    · exact h.bd z hz
    · rw [List.mem_singleton.mp hz]
      have := Int.emod_nonneg (-t * g) (show (97 : Int) ≠ 0 by decide)
      have := Int.emod_lt_of_pos (-t * g) (show (0 : Int) < 97 by decide)
      omega
  · rw [gd_app (by omega)]
    exact h.hd
  · rcases Nat.lt_or_eq_of_le hk with c | c
    · rw [rs_congr (g := gd row) fun j hj => gd_app (by omega)]
      exact h.kp k (by omega)
    · subst c
      have e1 : gd (row ++ [-t * g % 97]) (i + 1) = -t * g % 97 := by
        have := gd_last row (-t * g % 97)
        rwa [hl] at this
      have e2 : Ms.cv (sg ts) (gd (row ++ [-t * g % 97])) (i + 1) = t := by
        rw [ht]
        unfold Ms.cv
        exact Ms.sm_congr fun j hj => by rw [gd_app (by omega)]
      show (((i + 1 : Nat) : Int) * gd (row ++ [-t * g % 97]) (i + 1) + Ms.cv (sg ts) (gd (row ++ [-t * g % 97])) (i + 1)) % 97 = 0
      rw [e1, e2]
      have e3 : ((i + 1 : Nat) : Int) = 1 + (i : Int) := by omega
      rw [e3]
      obtain ⟨u, hu⟩ : ∃ u, (1 + (i : Int)) * g = 1 + 97 * u := ⟨(1 + (i : Int)) * g / 97, by omega⟩
      obtain ⟨v, hv⟩ : ∃ v, -t * g % 97 = -t * g + 97 * v := ⟨-(-t * g / 97), by omega⟩
      rw [hv]
      have e4 : (1 + (i : Int)) * (-t * g + 97 * v) + t = 97 * ((1 + (i : Int)) * v - t * u) := by
        have : (1 + (i : Int)) * (-t * g) = -t * ((1 + (i : Int)) * g) := by grind
        rw [Int.mul_add, this, hu]
        grind
      rw [e4]
      omega
def RowBy (ts row : List Int) : Prop := Rb ts ts.length row
end My
namespace Ln
open My (gd gd_get get_gd gd_out gd_ofF ofF ofF_len ofF_get mem_ofF)
/-! ### equations on the wheel: lists of n numbers and an end -/
def dot (n : Nat) (L x : Nat → Int) : Int := Ms.sm (fun q => L q * x q) n
def Ok (n : Nat) (x L : Nat → Int) : Prop := dot n L x % 97 = L n % 97
theorem dot_congr {n : Nat} {L x y : Nat → Int} (h : ∀ q, q < n → x q = y q) : dot n L x = dot n L y := Ms.sm_congr fun q hq => by rw [h q hq]
theorem dot_mod {n : Nat} {L M x y : Nat → Int} (h : ∀ q, q < n → x q % 97 = y q % 97) (hl : ∀ q, q < n → L q % 97 = M q % 97) : dot n L x % 97 = dot n M y % 97 := Ms.sm_mod fun q hq => by
  rw [Int.mul_emod, h q hq, hl q hq, ← Int.mul_emod]
theorem Ok_mod {n : Nat} {x L M : Nat → Int} (hl : ∀ q, q ≤ n → L q % 97 = M q % 97) : Ok n x L ↔ Ok n x M := by
  unfold Ok
  rw [dot_mod (fun _ _ => rfl) fun q hq => hl q (by omega), hl n (Nat.le_refl n)]
/-- the vector with another number at p -/
def put (x : Nat → Int) (p : Nat) (v : Int) : Nat → Int := fun q => if q = p then v else x q
theorem put_at (x : Nat → Int) (p : Nat) (v : Int) : put x p v p = v := if_pos rfl
theorem put_ne {x : Nat → Int} {p q : Nat} {v : Int} (h : q ≠ p) : put x p v q = x q := if_neg h
theorem dot_put {L x : Nat → Int} {p : Nat} {v : Int} : ∀ n, dot n L (put x p v) = dot n L x + if p < n then L p * (v - x p) else 0
  | 0 => rfl
  | n + 1 => by
    show dot n L (put x p v) + L n * put x p v n = dot n L x + L n * x n + _
    rw [dot_put n]
    rcases Nat.lt_trichotomy p n with c | c | c
    · rw [if_pos c, if_pos (by omega), put_ne (by omega)]
      omega
    · subst c
      rw [if_neg (by omega), if_pos (by omega), put_at, Int.mul_sub]
      omega
    · rw [if_neg (by omega), if_neg (by omega), put_ne (by omega)]
      omega
/-- an equation less another one, times t -/
def sub (e : List Int) (t : Int) (L : List Int) : List Int := ofF e.length fun i => (gd e i - t * gd L i) % 97
theorem dot_sub {n : Nat} {e L x : Nat → Int} {t : Int} : dot n (fun i => e i - t * L i) x = dot n e x - t * dot n L x := by
  induction n with
  | zero =>
    show (0 : Int) = 0 - t * 0
    omega
  | succ n ih =>
    show dot n (fun i => e i - t * L i) x + (e n - t * L n) * x n = dot n e x + e n * x n - t * (dot n L x + L n * x n)
    rw [ih]
    grind
theorem gd_sub {e L : List Int} {t : Int} {i : Nat} (h : i < e.length) : gd (sub e t L) i = (gd e i - t * gd L i) % 97 := gd_ofF _ h
theorem Ok_sub {n : Nat} {e L : List Int} {t : Int} {x : Nat → Int} (hl : e.length = n + 1) (h : Ok n x (gd L)) : Ok n x (gd (sub e t L)) ↔ Ok n x (gd e) := by
  rw [Ok_mod (M := fun i => gd e i - t * gd L i) fun q hq => by rw [gd_sub (by omega), Int.emod_emod]]
  unfold Ok at h ⊢
  rw [dot_sub]
  show (dot n (gd e) x - t * dot n (gd L) x) % 97 = (gd e n - t * gd L n) % 97 ↔ _
  obtain ⟨k, hk⟩ : ∃ k, dot n (gd L) x = gd L n + 97 * k := ⟨(dot n (gd L) x - gd L n) / 97, by omega⟩
  rw [hk]
  have : t * (gd L n + 97 * k) = t * gd L n + 97 * (t * k) := by grind
  rw [this]
  omega
abbrev Lead := Nat × List Int
structure Led (n : Nat) (Ls : List Lead) : Prop where
  lt : ∀ e ∈ Ls, e.1 < n
  len : ∀ e ∈ Ls, e.2.length = n + 1
  one : ∀ e ∈ Ls, gd e.2 e.1 = 1
  bd : ∀ e ∈ Ls, ∀ z ∈ e.2, 0 ≤ z ∧ z < 97
  free : Ls.Pairwise fun a b => gd b.2 a.1 = 0
theorem Led.tail {n : Nat} {e : Lead} {Ls : List Lead} (h : Led n (e :: Ls)) : Led n Ls :=
  ⟨fun a ha => h.lt a (List.mem_cons_of_mem _ ha), fun a ha => h.len a (List.mem_cons_of_mem _ ha), fun a ha => h.one a (List.mem_cons_of_mem _ ha), fun a ha => h.bd a (List.mem_cons_of_mem _ ha), (List.pairwise_cons.mp h.free).2⟩
theorem Led.nd {n : Nat} {Ls : List Lead} (h : Led n Ls) : (Ls.map (·.1)).Nodup := by
  refine List.pairwise_map.mpr (List.Pairwise.imp_of_mem ?_ h.free)
  intro a b ha hb e z
  have := h.one b hb
  rw [← z, e] at this
  exact absurd this (by decide)
def Sat (n : Nat) (x : Nat → Int) (Ls : List Lead) : Prop := ∀ e ∈ Ls, Ok n x (gd e.2)
/-- a leader's place changes nothing for the leaders behind it -/
theorem ok_put {n p : Nat} {x : Nat → Int} {v : Int} {L : Nat → Int} (h : L p = 0) : Ok n (put x p v) L ↔ Ok n x L := by
  unfold Ok
  rw [dot_put, h, Int.zero_mul]
  split <;> rw [Int.add_zero]
/-- whatever stands beside the leaders' places: they can be met -/
theorem can_meet (n : Nat) : ∀ (Ls : List Lead), Led n Ls → ∀ b : Nat → Int, ∃ y, Sat n y Ls ∧ ∀ q, q ∉ Ls.map (·.1) → y q = b q
  | [], _, b => ⟨b, (fun _ z => nomatch z), fun _ _ => rfl⟩
  | e :: Ls, h, b => by
    obtain ⟨y, h1, h2⟩ := can_meet n Ls h.tail b
    have hp := List.pairwise_cons.mp h.free
    have hlt := h.lt e List.mem_cons_self
    have hone := h.one e List.mem_cons_self
    refine ⟨put y e.1 (y e.1 + (gd e.2 n - dot n (gd e.2) y)), fun a ha => ?_, fun q hq => ?_⟩
    · rcases List.mem_cons.mp ha with rfl | ha
      · unfold Ok
        rw [dot_put, if_pos hlt, hone, Int.one_mul]
        congr 1
        omega
      · exact (ok_put (hp.1 a ha)).mpr (h1 a ha)
    · rw [List.map_cons, List.mem_cons, not_or] at hq
      rw [put_ne hq.1]
      exact h2 q hq.2
/-- what stands beside the leaders' places tells the rest -/
theorem one_way (n : Nat) : ∀ (Ls : List Lead), Led n Ls → ∀ y z : Nat → Int, Sat n y Ls → Sat n z Ls → (∀ q, q < n → q ∉ Ls.map (·.1) → y q % 97 = z q % 97) → ∀ q, q < n → y q % 97 = z q % 97
  | [], _, y, z, _, _, h, q, hq => h q hq (fun w => nomatch w)
  | e :: Ls, h, y, z, hy, hz, ha, q, hq => by
    have hp := List.pairwise_cons.mp h.free
    have hlt := h.lt e List.mem_cons_self
    have hone := h.one e List.mem_cons_self
    have key := one_way n Ls h.tail y (put z e.1 (y e.1)) (fun a w => hy a (List.mem_cons_of_mem _ w)) (fun a w => (ok_put (hp.1 a w)).mpr (hz a (List.mem_cons_of_mem _ w))) fun r hr hn => by
      by_cases c : r = e.1
      · rw [c, put_at]
      · rw [put_ne c]
        refine ha r hr ?_
        rw [List.map_cons, List.mem_cons, not_or]
        exact ⟨c, hn⟩
    by_cases c : q = e.1
    · subst c
      have h1 := hy e List.mem_cons_self
      have h2 := hz e List.mem_cons_self
      unfold Ok at h1 h2
      have h3 := dot_mod (L := gd e.2) key fun _ _ => rfl
      rw [dot_put, if_pos hlt, hone, Int.one_mul] at h3
      omega
    · have := key q hq
      rwa [put_ne c] at this
/-- the leaders read back: the last one first -/
def back (n : Nat) : List Lead → (Nat → Int)
  | [] => fun _ => 0
  | e :: Ls => put (back n Ls) e.1 ((gd e.2 n - dot n (gd e.2) (back n Ls)) % 97)
theorem back_out (n : Nat) : ∀ (Ls : List Lead) (q : Nat), q ∉ Ls.map (·.1) → back n Ls q = 0
  | [], q, _ => rfl
  | e :: Ls, q, h => by
    rw [List.map_cons, List.mem_cons, not_or] at h
    show put (back n Ls) e.1 _ q = 0
    rw [put_ne h.1]
    exact back_out n Ls q h.2
theorem back_sat (n : Nat) : ∀ Ls : List Lead, Led n Ls → Sat n (back n Ls) Ls
  | [], _ => fun _ z => nomatch z
  | e :: Ls, h => by
    have hp := List.pairwise_cons.mp h.free
    have hlt := h.lt e List.mem_cons_self
    have hone := h.one e List.mem_cons_self
    have hn : e.1 ∉ Ls.map (·.1) := (List.nodup_cons.mp h.nd).1
    intro a ha
    rcases List.mem_cons.mp ha with rfl | ha
    · show Ok n (put (back n Ls) a.1 _) _
      unfold Ok
      rw [dot_put, if_pos hlt, hone, Int.one_mul, back_out n Ls _ hn]
      omega
    · exact (ok_put (hp.1 a ha)).mpr (back_sat n Ls h.tail a ha)
theorem back_bd (n : Nat) : ∀ (Ls : List Lead) (q : Nat), 0 ≤ back n Ls q ∧ back n Ls q < 97
  | [], q => by
    show (0 : Int) ≤ 0 ∧ (0 : Int) < 97
    decide
  | e :: Ls, q => by
    show 0 ≤ put (back n Ls) e.1 _ q ∧ put (back n Ls) e.1 _ q < 97
    by_cases c : q = e.1
    · rw [c, put_at]
      exact ⟨Int.emod_nonneg _ (by decide), Int.emod_lt_of_pos _ (by decide)⟩
    · rw [put_ne c]
      exact back_bd n Ls q
/-! counting places -/
theorem nd_le : ∀ (n : Nat) (l : List Nat), l.Nodup → (∀ x ∈ l, x < n) → l.length ≤ n
  | 0, l, _, h => by
    cases l with
    | nil => exact Nat.le_refl 0
    | cons a r => exact absurd (h a List.mem_cons_self) (Nat.not_lt_zero a)
  | n + 1, l, hd, h => by
    by_cases c : n ∈ l
    · have := nd_le n (l.erase n) (hd.erase n) fun x hx => by
        have h1 := h x (List.mem_of_mem_erase hx)
        have h2 : x ≠ n := (hd.mem_erase_iff.mp hx).1
        omega
      rw [List.length_erase_of_mem c] at this
      omega
    · have := nd_le n l hd fun x hx => by
        have h1 := h x hx
        have h2 : x ≠ n := fun z => c (z ▸ hx)
        omega
      omega
theorem all_le : ∀ (n : Nat) (l : List Nat), (∀ q, q < n → q ∈ l) → n ≤ l.length
  | 0, _, _ => Nat.zero_le _
  | n + 1, l, h => by
    have c : n ∈ l := h n (Nat.lt_succ_self n)
    have := all_le n (l.erase n) fun q hq => (List.mem_erase_of_ne (by omega)).mpr (h q (by omega))
    rw [List.length_erase_of_mem c] at this
    have := List.length_pos_of_mem c
    omega
theorem Led.cover {n : Nat} {Ls : List Lead} (h : Led n Ls) (hl : n ≤ Ls.length) {q : Nat} (hq : q < n) : q ∈ Ls.map (·.1) := by
  refine Classical.byContradiction fun c => ?_
  have := nd_le n (q :: Ls.map (·.1)) (List.nodup_cons.mpr ⟨c, h.nd⟩) fun x hx => by
    rcases List.mem_cons.mp hx with rfl | hx
    · exact hq
    · obtain ⟨e, he, rfl⟩ := List.mem_map.mp hx
      exact h.lt e he
  rw [List.length_cons, List.length_map] at this
  omega
/-! what the equations say -/
def Sol (n : Nat) (Es : List (List Int)) (x : Nat → Int) : Prop := ∀ E ∈ Es, Ok n x (gd E)
/-- just one choice -/
def Just (n : Nat) (Es : List (List Int)) (x : Nat → Int) : Prop := Sol n Es x ∧ ∀ y, Sol n Es y → ∀ q, q < n → y q % 97 = x q % 97
theorem not_just {n : Nat} {Es : List (List Int)} {Ls : List Lead} (h : Led n Ls) (hs : ∀ x, Sol n Es x ↔ Sat n x Ls) (hl : Ls.length < n) (x : Nat → Int) : ¬ Just n Es x := by
  rintro ⟨_, h2⟩
  obtain ⟨p, hp, hn⟩ : ∃ p, p < n ∧ p ∉ Ls.map (·.1) := by
    refine Classical.byContradiction fun c => ?_
    have := all_le n (Ls.map (·.1)) fun q hq => Classical.byContradiction fun w => c ⟨q, hq, w⟩
    rw [List.length_map] at this
    omega
  obtain ⟨y, y1, y2⟩ := can_meet n Ls h fun _ => 0
  obtain ⟨z, z1, z2⟩ := can_meet n Ls h fun _ => 1
  have e1 := h2 y ((hs y).mpr y1) p hp
  have e2 := h2 z ((hs z).mpr z1) p hp
  rw [y2 p hn] at e1
  rw [z2 p hn] at e2
  omega
theorem is_just {n : Nat} {Es : List (List Int)} {Ls : List Lead} (h : Led n Ls) (hs : ∀ x, Sol n Es x ↔ Sat n x Ls) (hl : n ≤ Ls.length) : Just n Es (back n Ls) := by
  refine ⟨(hs _).mpr (back_sat n Ls h), fun y hy q hq => ?_⟩
  exact one_way n Ls h y (back n Ls) ((hs y).mp hy) (back_sat n Ls h) (fun r hr hn => absurd (h.cover hl hr) hn) q hq
/-! an equation freed of the leaders -/
def fstep (e : List Int) (l : Lead) : List Int := if gd e l.1 = 0 then e else sub e (gd e l.1) l.2
def freedL (e : List Int) (Ls : List Lead) : List Int := Ls.foldl fstep e
theorem fstep_len (e : List Int) (l : Lead) : (fstep e l).length = e.length := by
  unfold fstep
  split
  · rfl
  · exact ofF_len _ _
theorem fstep_bd {e : List Int} {l : Lead} (h : ∀ z ∈ e, 0 ≤ z ∧ z < 97) : ∀ z ∈ fstep e l, 0 ≤ z ∧ z < 97 := by
  unfold fstep
  split
  · exact h
  · intro z hz
    obtain ⟨i, _, rfl⟩ := mem_ofF hz
    exact ⟨Int.emod_nonneg _ (by decide), Int.emod_lt_of_pos _ (by decide)⟩
theorem freedL_len : ∀ (Ls : List Lead) (e : List Int), (freedL e Ls).length = e.length
  | [], _ => rfl
  | l :: Ls, e => (freedL_len Ls (fstep e l)).trans (fstep_len e l)
theorem freedL_bd : ∀ (Ls : List Lead) (e : List Int), (∀ z ∈ e, 0 ≤ z ∧ z < 97) → ∀ z ∈ freedL e Ls, 0 ≤ z ∧ z < 97
  | [], _, h => h
  | l :: Ls, e, h => freedL_bd Ls (fstep e l) (fstep_bd h)
theorem freedL_ok {n : Nat} {x : Nat → Int} : ∀ (Ls : List Lead) (e : List Int), e.length = n + 1 → Sat n x Ls → (Ok n x (gd (freedL e Ls)) ↔ Ok n x (gd e))
  | [], _, _, _ => Iff.rfl
  | l :: Ls, e, hl, hs => by
    refine (freedL_ok Ls (fstep e l) (by rw [fstep_len]; exact hl) fun a ha => hs a (List.mem_cons_of_mem _ ha)).trans ?_
    unfold fstep
    split
    · exact Iff.rfl
    · exact Ok_sub hl (hs l List.mem_cons_self)
theorem freedL_stay {n p : Nat} : ∀ (Ls : List Lead) (e : List Int), e.length = n + 1 → p < n + 1 → (∀ a ∈ Ls, gd a.2 p = 0) → gd e p = 0 → gd (freedL e Ls) p = 0
  | [], _, _, _, _, h => h
  | l :: Ls, e, hl, hp, hz, h => by
    refine freedL_stay Ls (fstep e l) (by rw [fstep_len]; exact hl) hp (fun a ha => hz a (List.mem_cons_of_mem _ ha)) ?_
    unfold fstep
    split
    · exact h
    · rw [gd_sub (by omega), h, hz l List.mem_cons_self, Int.mul_zero]
      rfl
theorem freedL_zero {n : Nat} : ∀ (Ls : List Lead) (e : List Int), e.length = n + 1 → Led n Ls → ∀ a ∈ Ls, gd (freedL e Ls) a.1 = 0
  | l :: Ls, e, hl, h, a, ha => by
    have hp := List.pairwise_cons.mp h.free
    rcases List.mem_cons.mp ha with rfl | ha
    · have hlt := h.lt a List.mem_cons_self
      refine freedL_stay (n := n) Ls (fstep e a) (by rw [fstep_len]; exact hl) (by omega) hp.1 ?_
      unfold fstep
      split
      · assumption
      · rw [gd_sub (by omega), h.one a List.mem_cons_self, Int.mul_one, Int.sub_self]
        rfl
    · exact freedL_zero Ls (fstep e l) (by rw [fstep_len]; exact hl) h.tail a ha
/-- the equation multiplied so that its number at p is 1 -/
def times (e : List Int) (g : Int) : List Int := ofF e.length fun i => gd e i * g % 97
theorem gd_times {e : List Int} {g : Int} {i : Nat} (h : i < e.length) : gd (times e g) i = gd e i * g % 97 := gd_ofF _ h
theorem dot_times {n : Nat} {L x : Nat → Int} {g : Int} : dot n (fun i => L i * g) x = g * dot n L x := by
  induction n with
  | zero => exact (Int.mul_zero g).symm
  | succ n ih =>
    show dot n (fun i => L i * g) x + L n * g * x n = g * (dot n L x + L n * x n)
    rw [ih]
    grind
theorem Ok_times {n : Nat} {e : List Int} {g v : Int} {x : Nat → Int} (hl : e.length = n + 1) (hv : v * g % 97 = 1) : Ok n x (gd (times e g)) ↔ Ok n x (gd e) := by
  rw [Ok_mod (M := fun i => gd e i * g) fun q hq => by rw [gd_times (by omega), Int.emod_emod]]
  unfold Ok
  rw [dot_times]
  show g * dot n (gd e) x % 97 = gd e n * g % 97 ↔ _
  constructor
  · intro h
    have e1 : (g * dot n (gd e) x) * v % 97 = (gd e n * g) * v % 97 := by rw [Int.mul_emod, h, ← Int.mul_emod]
    obtain ⟨k, hk⟩ : ∃ k, v * g = 1 + 97 * k := ⟨v * g / 97, by omega⟩
    have a1 : (g * dot n (gd e) x) * v = dot n (gd e) x + 97 * (k * dot n (gd e) x) := by
      have : (g * dot n (gd e) x) * v = (v * g) * dot n (gd e) x := by grind
      rw [this, hk]
      grind
    have a2 : (gd e n * g) * v = gd e n + 97 * (k * gd e n) := by
      have : (gd e n * g) * v = (v * g) * gd e n := by grind
      rw [this, hk]
      grind
    rw [a1, a2] at e1
    omega
  · intro h
    rw [Int.mul_comm (gd e n) g, Int.mul_emod, h, ← Int.mul_emod]
/-- the first place that isn't 0 -/
def firstP (e : List Int) : Option Nat := (List.range e.length).find? fun i => decide (gd e i ≠ 0)
theorem Led.snoc {n p : Nat} {Ls : List Lead} {e : List Int} {g : Int} (h : Led n Ls) (hl : e.length = n + 1) (hz : ∀ a ∈ Ls, gd e a.1 = 0) (hp : p < n) (hg : gd e p * g % 97 = 1) : Led n (Ls ++ [(p, times e g)]) := by
  refine ⟨fun a ha => ?_, fun a ha => ?_, fun a ha => ?_, fun a ha => ?_, ?_⟩
  · rcases List.mem_append.mp ha with ha | ha
    · exact h.lt a ha
    · rw [List.mem_singleton.mp ha]
      exact hp
  · rcases List.mem_append.mp ha with ha | ha
    · exact h.len a ha
    · rw [List.mem_singleton.mp ha]
      show (times e g).length = _
      unfold times
      rw [ofF_len, hl]
  · rcases List.mem_append.mp ha with ha | ha
    · exact h.one a ha
    · rw [List.mem_singleton.mp ha]
      show gd (times e g) p = 1
      rw [gd_times (by omega), hg]
  · rcases List.mem_append.mp ha with ha | ha
    · exact h.bd a ha
    · rw [List.mem_singleton.mp ha]
      intro z hz
      obtain ⟨i, _, rfl⟩ := mem_ofF hz
      exact ⟨Int.emod_nonneg _ (by decide), Int.emod_lt_of_pos _ (by decide)⟩
  · refine List.pairwise_append.mpr ⟨h.free, List.pairwise_singleton _ _, fun a ha b hb => ?_⟩
    rw [List.mem_singleton.mp hb]
    have hlt := h.lt a ha
    show gd (times e g) a.1 = 0
    rw [gd_times (by omega), hz a ha, Int.zero_mul]
    rfl
/-- a sum over places, for a vector that stands at these alone -/
theorem dot_keys {n : Nat} {L : Nat → Int} : ∀ (ks : List Nat) (x : Nat → Int), ks.Nodup → (∀ k ∈ ks, k < n) → (∀ q, q ∉ ks → x q = 0) → (ks.map fun k => L k * x k).sum = dot n L x
  | [], x, _, _, h => by
    have : dot n L x = 0 := Ms.sm_zero fun q _ => by rw [h q (fun z => nomatch z), Int.mul_zero]
    rw [this]
    rfl
  | k :: ks, x, hd, hlt, h => by
    have hd' := List.nodup_cons.mp hd
    have ih := dot_keys (L := L) ks (put x k 0) hd'.2 (fun a ha => hlt a (List.mem_cons_of_mem _ ha)) fun q hq => by
      by_cases c : q = k
      · rw [c, put_at]
      · rw [put_ne c]
        exact h q fun z => (List.mem_cons.mp z).elim c hq
    rw [dot_put, if_pos (hlt k List.mem_cons_self)] at ih
    have e : (ks.map fun a => L a * put x k 0 a) = ks.map fun a => L a * x a := List.map_congr_left fun a ha => by rw [put_ne fun z : a = k => hd'.1 (z ▸ ha)]
    rw [e] at ih
    rw [List.map_cons, List.sum_cons, ih]
    grind
end Ln
namespace My
open PySem PySem.Spec PyProof.Rows L2
theorem cong_iff {a b : Int} : a % 97 = b % 97 ↔ ∃ k, a = b + 97 * k := by
  constructor
  · intro h
    exact ⟨a / 97 - b / 97, by omega⟩
  · rintro ⟨k, rfl⟩
    omega
theorem prime97 {a b : Int} (h : a * b % 97 = 0) : a % 97 = 0 ∨ b % 97 = 0 := by
  have key : ∀ x y : Fin 97, x.val * y.val % 97 = 0 → x.val = 0 ∨ y.val = 0 := by decide +kernel
  have a0 := Int.emod_nonneg a (show (97 : Int) ≠ 0 by decide)
  have a1 := Int.emod_lt_of_pos a (show (0 : Int) < 97 by decide)
  have b0 := Int.emod_nonneg b (show (97 : Int) ≠ 0 by decide)
  have b1 := Int.emod_lt_of_pos b (show (0 : Int) < 97 by decide)
  rw [Int.mul_emod] at h
  have e : (a % 97) * (b % 97) = (((a % 97).toNat * (b % 97).toNat : Nat) : Int) := by
    rw [Int.natCast_mul, Int.toNat_of_nonneg a0, Int.toNat_of_nonneg b0]
  rw [e] at h
  have := key ⟨(a % 97).toNat, by omega⟩ ⟨(b % 97).toNat, by omega⟩ (by show (a % 97).toNat * (b % 97).toNat % 97 = 0; omega)
  rcases this with h | h
  · have h' : (a % 97).toNat = 0 := h
    omega
  · have h' : (b % 97).toNat = 0 := h
    omega
end My
namespace My
open PySem PySem.Spec PyProof.Rows L2
def sp_inverse (C : Addr) : Sp := fun vs H Q E => ∃ n : Int, vs = [.int n] ∧ (n % 97 = 0 → E (.ref C) none H) ∧ (n % 97 ≠ 0 → ∀ g : Int, 1 ≤ g → g ≤ 96 → n * g % 97 = 1 → Q (.int g) H)
theorem has_inv : ∀ r : Fin 97, r.val ≠ 0 → ∃ g : Fin 96, (r.val * (g.val + 1)) % 97 = 1 := by decide +kernel
theorem no_inv {n : Int} (h : ∀ g : Nat, g < 96 → n % 97 * (1 + (g : Int)) % 97 ≠ 1) : n % 97 = 0 := by
  have h0 := Int.emod_nonneg n (show (97 : Int) ≠ 0 by decide)
  have h1 := Int.emod_lt_of_pos n (show (0 : Int) < 97 by decide)
  by_cases z : n % 97 = 0
  · exact z
  · exfalso
    obtain ⟨g, hg⟩ := has_inv ⟨(n % 97).toNat, by omega⟩ (by show (n % 97).toNat ≠ 0; omega)
    have hg' : (n % 97).toNat * (g.val + 1) % 97 = 1 := hg
    refine h g.val g.isLt ?_
    have e : n % 97 * (1 + (g.val : Int)) = (((n % 97).toNat * (g.val + 1) : Nat) : Int) := by
      rw [Int.natCast_mul, Int.toNat_of_nonneg h0, Int.natCast_add]
      congr 1
      omega
    rw [e]
    omega
/-- row_by: NoInverse can't come -/
def sp_row_by (K : PySem.W.Frag) (C : Addr) : Sp := fun vs H Q E => ∃ (a : Addr) (ts : List Int), vs = [.ref a] ∧ H a = some (.tup (ts.map V.int)) ∧ ts.length ≤ 1000 ∧ (97 ≤ ts.length → E (.ref C) none H) ∧
  (ts.length ≤ 96 → ∀ t row H', RowBy ts row → Same H H' → H t = none → H' t = some (.tup (row.map V.int)) → Q (.ref t) H')
end My
namespace My
open PySem PySem.Spec PyProof.Rows L2
open Ln (Lead Led Sat Sol Just back freedL firstP times dot)
structure Rw where
  at' : Addr
  row : List Int
  fin : Int
def eqn (w : Rw) : List Int := w.row ++ [w.fin]
/-! ### leaders in the heap -/
abbrev LA := Lead × Addr
def kvL (m : LA) : Key × V := (Sum.inl (m.1.1 : Int), .ref m.2)
structure LeadAt (H : Hp) (d : Addr) (M : List LA) : Prop where
  dict : H d = some (.dK (M.map kvL))
  rows : ∀ m ∈ M, H m.2 = some (.lst (m.1.2.map V.int))
def sp_freed (K : PySem.W.Frag) : Sp := fun vs H Q _ => ∃ (e d : Addr) (eq : List Int) (M : List LA) (n : Nat), vs = [.ref e, .ref d] ∧ H e = some (.lst (eq.map V.int)) ∧ LeadAt H d M ∧ Led n (M.map (·.1)) ∧ eq.length = n + 1 ∧ n ≤ 300 ∧ (∀ z ∈ eq, 0 ≤ z ∧ z < 97) ∧
  ∀ (t : Addr) H', Same H H' → H' t = some (.lst ((freedL eq (M.map (·.1))).map V.int)) → Q (.ref t) H'
def sp_first_place (K : PySem.W.Frag) : Sp := fun vs H Q _ => ∃ (e : Addr) (eq : List Int), vs = [.ref e] ∧ H e = some (.lst (eq.map V.int)) ∧
  ∀ H', Same H H' → (firstP eq = none → Q .non H') ∧ (∀ p : Nat, firstP eq = some p → Q (.int (p : Int)) H')
def sp_one_at (K : PySem.W.Frag) : Sp := fun vs H Q _ => ∃ (e : Addr) (eq : List Int) (p : Nat), vs = [.ref e, .int (p : Int)] ∧ H e = some (.lst (eq.map V.int)) ∧ p < eq.length ∧ eq.length ≤ 1000 ∧ gd eq p % 97 ≠ 0 ∧
  ∀ (g : Int) (t : Addr) H', 1 ≤ g → g ≤ 96 → gd eq p * g % 97 = 1 → Same H H' → H t = none → H' t = some (.lst ((times eq g).map V.int)) → Q (.ref t) H'
def sp_read_back (K : PySem.W.Frag) : Sp := fun vs H Q _ => ∃ (n : Nat) (d : Addr) (M : List LA), vs = [.int (n : Int), .ref d] ∧ LeadAt H d M ∧ Led n (M.map (·.1)) ∧ n ≤ M.length ∧ n ≤ 300 ∧
  ∀ (t : Addr) H', Same H H' → H t = none → H' t = some (.tup ((ofF n (back n (M.map (·.1)))).map V.int)) → Q (.ref t) H'
def sp_solved (K : PySem.W.Frag) : Sp := fun vs H Q _ => ∃ (n : Nat) (r e : Addr) (W : List Rw), vs = [.int (n : Int), .ref r, .ref e] ∧ SqL K H r (W.map fun w => V.ref w.at') ∧ SqL K H e ((W.map Rw.fin).map V.int) ∧ (∀ w ∈ W, SqT K H w.at' (w.row.map V.int) ∧ w.row.length = n) ∧ n ≤ 300 ∧
  (∀ H', Same H H' → (∀ x, ¬ Just n (W.map eqn) x) → Q .non H') ∧
  (∀ (t : Addr) (xs : List Int) H', Same H H' → H t = none → H' t = some (.tup (xs.map V.int)) → xs.length = n → (∀ z ∈ xs, 0 ≤ z ∧ z < 97) → Just n (W.map eqn) (gd xs) → Q (.ref t) H')
theorem lst_get {l : List Int} {i : Nat} (h : i < l.length) : (l.map V.int)[i]? = some (.int (gd l i)) := by
  rw [List.getElem?_map, get_gd h]
  rfl
theorem unlock_same {H H' : Hp} {d : Addr} {od : Obj} {u : HO} (sm : Same (upd H d (.frz od u)) H') (hd : H d = some u) : Same H (upd H' d u) := fun b o e => by
  by_cases c : b = d
  · subst c
    rw [hd] at e
    cases e
    exact upd_same
  · rw [upd_ne c]
    exact sm b o (by rw [upd_ne c]; exact e)
theorem decInt (x y : Int) : decide (V.int x = V.int y) = decide (x = y) := decide_eq_decide.mpr ⟨fun h => V.int.inj h, fun h => congrArg V.int h⟩
theorem firstP_some {e : List Int} {i : Nat} (hi : i < e.length) (h0 : ∀ k, k < i → gd e k = 0) (h1 : gd e i ≠ 0) : firstP e = some i := by
  unfold firstP
  refine List.find?_range_eq_some.mpr ⟨decide_eq_true h1, List.mem_range.mpr hi, fun j hj => ?_⟩
  rw [h0 j hj]
  rfl
theorem firstP_none {e : List Int} (h : ∀ k, k < e.length → gd e k = 0) : firstP e = none := by
  unfold firstP
  refine List.find?_range_eq_none.mpr fun i hi => ?_
  rw [h i hi]
  rfl
theorem LeadAt.same {H H' : Hp} {d : Addr} {M : List LA} (s : Same H H') (h : LeadAt H d M) : LeadAt H' d M := ⟨s _ _ h.dict, fun m hm => s _ _ (h.rows m hm)⟩
theorem take_lead {M : List LA} {i : Nat} {m : LA} (h : M[i]? = some m) : (M.take (i + 1)).map (·.1) = (M.take i).map (·.1) ++ [m.1] := by
  rw [List.take_add_one, h, List.map_append]
  rfl
theorem freedL_snoc (e : List Int) (Ls : List Lead) (l : Lead) : freedL e (Ls ++ [l]) = Ln.fstep (freedL e Ls) l := by
  unfold freedL
  rw [List.foldl_append]
  rfl
theorem inl_inj {a b : Nat} : (Sum.inl (a : Int) : Key) = Sum.inl (b : Int) ↔ a = b := ⟨fun h => by have := Sum.inl.inj h; omega, fun h => by rw [h]⟩
theorem valV_keys (g : Nat → V) {k : Nat} : ∀ ks : List Nat, k ∈ ks → valV (ks.map fun k : Nat => ((Sum.inl (k : Int) : Key), g k)) (Sum.inl (k : Int)) = some (g k)
  | a :: ks, h => by
    by_cases c : a = k
    · subst c
      exact valV_pos rfl
    · rw [List.map_cons, valV_neg fun z => c (inl_inj.mp z)]
      exact valV_keys g ks ((List.mem_cons.mp h).resolve_left fun z => c z.symm)
theorem valV_no (g : Nat → V) {k : Nat} : ∀ ks : List Nat, k ∉ ks → valV (ks.map fun k : Nat => ((Sum.inl (k : Int) : Key), g k)) (Sum.inl (k : Int)) = none
  | [], _ => rfl
  | a :: ks, h => by
    rw [List.mem_cons, not_or] at h
    rw [List.map_cons, valV_neg fun z => h.1 (inl_inj.mp z).symm]
    exact valV_no g ks h.2
theorem valV_lead {m : LA} : ∀ M : List LA, ((M.map (·.1)).map (·.1)).Nodup → m ∈ M → valV (M.map kvL) (Sum.inl (m.1.1 : Int)) = some (.ref m.2)
  | a :: M, hd, h => by
    have hd' := List.nodup_cons.mp hd
    rcases List.mem_cons.mp h with rfl | h
    · exact valV_pos rfl
    · have hne : a.1.1 ≠ m.1.1 := fun z => hd'.1 (by show a.1.1 ∈ _; rw [z]; exact List.mem_map.mpr ⟨m.1, List.mem_map.mpr ⟨m, h, rfl⟩, rfl⟩)
      rw [List.map_cons, valV_neg fun z => hne (inl_inj.mp z)]
      exact valV_lead M hd'.2 h
theorem valV_lead_no {p : Nat} : ∀ M : List LA, p ∉ (M.map (·.1)).map (·.1) → valV (M.map kvL) (Sum.inl (p : Int)) = none
  | [], _ => rfl
  | a :: M, h => by
    rw [List.map_cons, List.map_cons, List.mem_cons, not_or] at h
    have h1 : p ≠ a.1.1 := h.1
    rw [List.map_cons, valV_neg fun z => h1 (inl_inj.mp z).symm]
    exact valV_lead_no M h.2
/-- what is found behind the leaders S -/
def kvF (n : Nat) (S : List Lead) : List (Key × V) := (S.map (·.1)).reverse.map fun k : Nat => (Sum.inl (k : Int), V.int (back n S k))
theorem kvF_cons {n : Nat} {l : Lead} {S : List Lead} (h : l.1 ∉ S.map (·.1)) : kvF n (l :: S) = kvF n S ++ [(Sum.inl (l.1 : Int), V.int ((gd l.2 n - dot n (gd l.2) (back n S)) % 97))] := by
  unfold kvF
  rw [List.map_cons, List.reverse_cons, List.map_append]
  congr 1
  · refine List.map_congr_left fun k hk => ?_
    rw [List.mem_reverse] at hk
    show (_, V.int (Ln.put (back n S) l.1 _ k)) = _
    rw [Ln.put_ne fun z : k = l.1 => h (z ▸ hk)]
  · show [(_, V.int (Ln.put (back n S) l.1 _ l.1))] = _
    rw [Ln.put_at]
theorem Led.size {n : Nat} {Ls : List Lead} (h : Led n Ls) : Ls.length ≤ n := by
  have := Ln.nd_le n (Ls.map (·.1)) h.nd fun x hx => by
    obtain ⟨e, he, rfl⟩ := List.mem_map.mp hx
    exact h.lt e he
  rwa [List.length_map] at this
theorem Sol_snoc {n : Nat} {Es : List (List Int)} {E : List Int} {x : Nat → Int} : Sol n (Es ++ [E]) x ↔ Sol n Es x ∧ Ln.Ok n x (gd E) := by
  constructor
  · intro h
    exact ⟨fun a ha => h a (List.mem_append.mpr (.inl ha)), h E (List.mem_append.mpr (.inr List.mem_cons_self))⟩
  · rintro ⟨h1, h2⟩ a ha
    rcases List.mem_append.mp ha with ha | ha
    · exact h1 a ha
    · rw [List.mem_singleton.mp ha]
      exact h2
theorem Sat_snoc {n : Nat} {Ls : List Lead} {l : Lead} {x : Nat → Int} : Sat n x (Ls ++ [l]) ↔ Sat n x Ls ∧ Ln.Ok n x (gd l.2) := by
  constructor
  · intro h
    exact ⟨fun a ha => h a (List.mem_append.mpr (.inl ha)), h l (List.mem_append.mpr (.inr List.mem_cons_self))⟩
  · rintro ⟨h1, h2⟩ a ha
    rcases List.mem_append.mp ha with ha | ha
    · exact h1 a ha
    · rw [List.mem_singleton.mp ha]
      exact h2
theorem firstP_spec {e : List Int} {p : Nat} (h : firstP e = some p) : p < e.length ∧ gd e p ≠ 0 ∧ ∀ k, k < p → gd e k = 0 := by
  unfold firstP at h
  have h' := List.find?_range_eq_some.mp h
  refine ⟨List.mem_range.mp h'.2.1, of_decide_eq_true h'.1, fun k hk => ?_⟩
  have := h'.2.2 k hk
  simpa using this
theorem firstP_all {e : List Int} (h : firstP e = none) : ∀ k, k < e.length → gd e k = 0 := by
  unfold firstP at h
  intro k hk
  have := List.find?_range_eq_none.mp h k hk
  simpa using this
theorem dot_zero {n : Nat} {L x : Nat → Int} (h : ∀ q, q < n → L q = 0) : dot n L x = 0 := Ms.sm_zero fun q hq => by rw [h q hq, Int.zero_mul]
/-- behind one equation more -/
theorem sat_next {n : Nat} {Es : List (List Int)} {E : List Int} {Ls : List Lead} (hE : E.length = n + 1) (hs : ∀ x, Sol n Es x ↔ Sat n x Ls) (x : Nat → Int) : Sol n (Es ++ [E]) x ↔ Sat n x Ls ∧ Ln.Ok n x (gd (freedL (ofF (n + 1) fun k => gd E k % 97) Ls)) := by
  rw [Sol_snoc, hs x]
  refine and_congr_right fun h => ?_
  rw [Ln.freedL_ok Ls _ (ofF_len _ _) h]
  exact Ln.Ok_mod fun q hq => by rw [gd_ofF _ (by omega), Int.emod_emod]
theorem Led.drop {n : Nat} : ∀ (i : Nat) {Ls : List Lead}, Led n Ls → Led n (Ls.drop i)
  | 0, _, h => h
  | _ + 1, [], h => h
  | i + 1, _ :: _, h => Led.drop i h.tail
end My
namespace My
open PySem PySem.Spec PyProof.Rows L2
open Ln (Lead Led Sat Sol Just freedL firstP times dot)
/-! ### fewer equations than unknown numbers; equations made of steps -/
theorem inv97 {v : Int} (h : v % 97 ≠ 0) : ∃ g : Int, v * g % 97 = 1 := by
  refine Classical.byContradiction fun c => h (no_inv fun g hg e => c ⟨1 + (g : Int), ?_⟩)
  rw [Int.mul_emod, Int.emod_emod, ← Int.mul_emod] at e
  exact e
theorem elimG (n : Nat) : ∀ (Es E0 : List (List Int)) (Ls : List Lead), (∀ E ∈ Es, E.length = n + 1) → Led n Ls → (∀ x, Sol n E0 x ↔ Sat n x Ls) → (∀ x, ¬ Sol n (E0 ++ Es) x) ∨ ∃ Ls2, Led n Ls2 ∧ Ls2.length ≤ Ls.length + Es.length ∧ ∀ x, Sol n (E0 ++ Es) x ↔ Sat n x Ls2
  | [], E0, Ls, _, hl, hs => .inr ⟨Ls, hl, Nat.le_refl _, by rw [List.append_nil]; exact hs⟩
  | E :: Es, E0, Ls, hE, hl, hs => by
    have hE0 := hE E List.mem_cons_self
    have hnext := sat_next hE0 hs
    have hfl : (freedL (ofF (n + 1) fun k => gd E k % 97) Ls).length = n + 1 := by rw [Ln.freedL_len, ofF_len]
    have hfb := Ln.freedL_bd Ls (ofF (n + 1) fun k => gd E k % 97) fun z hz => by
      obtain ⟨k, _, rfl⟩ := mem_ofF hz
      exact ⟨Int.emod_nonneg _ (by decide), Int.emod_lt_of_pos _ (by decide)⟩
    have hfz := Ln.freedL_zero Ls (ofF (n + 1) fun k => gd E k % 97) (ofF_len _ _) hl
    generalize freedL (ofF (n + 1) fun k => gd E k % 97) Ls = f at *
    have eapp : E0 ++ E :: Es = (E0 ++ [E]) ++ Es := by rw [List.append_assoc]; rfl
    rw [eapp]
    have hE' : ∀ A ∈ Es, A.length = n + 1 := fun A hA => hE A (List.mem_cons_of_mem _ hA)
    cases hp : firstP f with
    | none =>
      have hz := firstP_all hp
      rcases elimG n Es (E0 ++ [E]) Ls hE' hl (fun x => (hnext x).trans ⟨fun h => h.1, fun h => ⟨h, by
        unfold Ln.Ok
        rw [dot_zero fun q hq => hz q (by omega), hz n (by omega)]⟩⟩) with h | ⟨L2, a, b, c⟩
      · exact .inl h
      · exact .inr ⟨L2, a, by rw [List.length_cons]; omega, c⟩
    | some p =>
      have ⟨hpl, hpn, hpz⟩ := firstP_spec hp
      have hpb := hfb _ (List.mem_of_getElem? (get_gd hpl))
      by_cases c : p = n
      · subst c
        refine .inl fun x hx => ?_
        have := ((hnext x).mp fun A hA => hx A (List.mem_append.mpr (.inl hA))).2
        unfold Ln.Ok at this
        rw [dot_zero hpz] at this
        omega
      · obtain ⟨g, hg⟩ := inv97 (v := gd f p) (by omega)
        rcases elimG n Es (E0 ++ [E]) (Ls ++ [(p, times f g)]) hE' (hl.snoc hfl hfz (by omega) hg) (fun x => by
          rw [hnext x]
          refine (and_congr_right fun _ => (Ln.Ok_times hfl hg).symm).trans ?_
          exact (Sat_snoc (l := (p, times f g))).symm) with h | ⟨L2, a, b, c⟩
        · exact .inl h
        · refine .inr ⟨L2, a, ?_, c⟩
          rw [List.length_append] at b
          rw [List.length_cons]
          have : [(p, times f g)].length = 1 := rfl
          omega
theorem few_no {n : Nat} {Es : List (List Int)} (h : ∀ E ∈ Es, E.length = n + 1) (hl : Es.length < n) (x : Nat → Int) : ¬ Just n Es x := by
  rcases elimG n Es [] [] h ⟨(fun _ z => nomatch z), (fun _ z => nomatch z), (fun _ z => nomatch z), (fun _ z => nomatch z), .nil⟩ (fun x => ⟨fun _ _ z => (nomatch z), fun _ _ z => (nomatch z)⟩) with hn | ⟨Ls, a, b, c⟩
  · exact fun j => hn x j.1
  · exact Ln.not_just a c (by rw [List.length_nil] at b; omega) x
/-- Just hangs on the solutions alone -/
theorem just_congr {n : Nat} {Es Fs : List (List Int)} (h : ∀ x, Sol n Es x ↔ Sol n Fs x) (x : Nat → Int) : Just n Es x ↔ Just n Fs x := by
  unfold Just
  rw [h x]
  refine and_congr_right fun _ => ⟨fun k y hy => k y ((h y).mpr hy), fun k y hy => k y ((h y).mp hy)⟩
abbrev LB := Addr × List Int
theorem sol_ix {n : Nat} {B : List LB} {x : Nat → Int} : Sol n (B.map (·.2)) x ↔ ∀ (i : Nat) (b : LB), B[i]? = some b → Ln.Ok n x (gd b.2) := by
  constructor
  · intro h i b hb
    exact h _ (List.mem_map.mpr ⟨b, List.mem_of_getElem? hb, rfl⟩)
  · intro h E hE
    obtain ⟨b, hb, rfl⟩ := List.mem_map.mp hE
    obtain ⟨i, hi⟩ := List.mem_iff_getElem?.mp hb
    exact h i b hi
theorem sol_set {n k j : Nat} {B : List LB} {t : Int} {bk bj : LB} {a : Addr} (hk : B[k]? = some bk) (hj : B[j]? = some bj) (hne : k ≠ j) (hl : bk.2.length = n + 1) (x : Nat → Int) : Sol n ((B.set k (a, Ln.sub bk.2 t bj.2)).map (·.2)) x ↔ Sol n (B.map (·.2)) x := by
  have hkl : k < B.length := (List.getElem?_eq_some_iff.mp hk).1
  rw [sol_ix, sol_ix]
  constructor
  · intro h i b hb
    have hj' : Ln.Ok n x (gd bj.2) := h j bj (by rw [List.getElem?_set_ne hne]; exact hj)
    by_cases c : i = k
    · subst c
      rw [hk] at hb
      cases hb
      have := h i (a, Ln.sub bk.2 t bj.2) (by rw [List.getElem?_set_self hkl])
      exact (Ln.Ok_sub hl hj').mp this
    · exact h i b (by rw [List.getElem?_set_ne (fun z => c z.symm)]; exact hb)
  · intro h i b hb
    by_cases c : i = k
    · subst c
      rw [List.getElem?_set_self hkl] at hb
      cases hb
      exact (Ln.Ok_sub hl (h j bj hj)).mpr (h i bk hk)
    · rw [List.getElem?_set_ne (fun z => c z.symm)] at hb
      exact h i b hb
/-- lines with noughts ahead: one choice -/
theorem tri {n : Nat} {B : List LB} {ps : Nat → Int} (hl : B.length = n) (h : ∀ (i : Nat) (b : LB), B[i]? = some b → (∀ q, q < i → gd b.2 q = 0) ∧ gd b.2 i % 97 ≠ 0 ∧ Ln.Ok n ps (gd b.2)) (x : Nat → Int) : Sol n (B.map (·.2)) x ↔ ∀ q, q < n → x q % 97 = ps q % 97 := by
  rw [sol_ix]
  constructor
  · intro hx
    have key : ∀ d q, q + d + 1 = n → x q % 97 = ps q % 97 := by
      intro d
      induction d using Nat.strongRecOn with
      | ind d ih =>
        intro q hq
        obtain ⟨b, hb⟩ : ∃ b, B[q]? = some b := ⟨_, List.getElem?_eq_getElem (by omega : q < B.length)⟩
        have ⟨h1, h2, h3⟩ := h q b hb
        have hx' := hx q b hb
        unfold Ln.Ok at h3 hx'
        have e : dot n (gd b.2) x % 97 = dot n (gd b.2) (Ln.put ps q (x q)) % 97 := Ms.sm_mod fun r hr => by
          rcases Nat.lt_trichotomy r q with c | c | c
          · rw [h1 r c, Int.zero_mul, Int.zero_mul]
          · subst c
            rw [Ln.put_at]
          · rw [Ln.put_ne (by omega), Int.mul_emod, ih (n - 1 - r) (by omega) r (by omega), ← Int.mul_emod]
        rw [Ln.dot_put, if_pos (by omega)] at e
        have e2 : gd b.2 q * (x q - ps q) % 97 = 0 := by omega
        rcases prime97 e2 with z | z
        · exact absurd z h2
        · omega
    intro q hq
    exact key (n - 1 - q) q (by omega)
  · intro hx i b hb
    have h3 := (h i b hb).2.2
    unfold Ln.Ok at h3 ⊢
    rw [← h3]
    exact Ln.dot_mod hx fun _ _ => rfl
structure LsAt (st : Addr) (H : Hp) (l : Addr) (B : List LB) : Prop where
  lst : H l = some (.lst (B.map fun b => V.ref b.1))
  rows : ∀ b ∈ B, H b.1 = some (.lst (b.2.map V.int))
  ne : l ≠ st
  nes : ∀ b ∈ B, b.1 ≠ st
theorem LsAt.go {K : PySem.W.Frag} {st l : Addr} {H H' : Hp} {B : List LB} (g : Go K st H H') (h : LsAt st H l B) : LsAt st H' l B := ⟨g.keep _ _ h.ne h.lst, fun b hb => g.keep _ _ (h.nes b hb) (h.rows b hb), h.ne, h.nes⟩
theorem LsAt.same {st l : Addr} {H H' : Hp} {B : List LB} (s : Same H H') (h : LsAt st H l B) : LsAt st H' l B := ⟨s _ _ h.lst, fun b hb => s _ _ (h.rows b hb), h.ne, h.nes⟩
/-- a line: so many numbers, on the wheel -/
def LineOk (n : Nat) (L : List Int) : Prop := L.length = n + 1 ∧ ∀ z ∈ L, 0 ≤ z ∧ z < 97
theorem LineOk.sub {n : Nat} {e L : List Int} {t : Int} (h : LineOk n e) : LineOk n (Ln.sub e t L) := ⟨by unfold Ln.sub; rw [ofF_len, h.1], fun z hz => by
  obtain ⟨i, _, rfl⟩ := mem_ofF hz
  exact ⟨Int.emod_nonneg _ (by decide), Int.emod_lt_of_pos _ (by decide)⟩⟩
theorem neg_sub (a t b : Int) : a - -t * b = a + t * b := by grind
/-- a comprehension over any walk, drawing meanwhile: of item i P holds -/
theorem lc_G {K : PySem.W.Frag} {st a : Addr} {J : It} {n : Nat} {G : Hp → Prop} {Y : Nat → Hp → V → Hp → Prop} (w : Walk J n G Y) {te : TE} {g : TG} {vs : List Nat} {σ : L2.St} {H1 : Hp} {D : Addr} {Qd : Hp → Prop} (P : Nat → V → Hp → Prop) (hS : StAt K a st H1) (hz : n ≤ 10000) (hD : H1 D = none) (hG : ∀ H, Go K st H1 H → G H)
    (hP : ∀ i v H H', P i v H → (∀ b o, b ≠ D → b ≠ st → H b = some o → H' b = some o) → P i v H')
    (ht : ∀ i x H H', i < n → Go K st H1 H → (∃ acc, H D = some (.lst acc)) → Y i H x H' → ∀ Q : VK, (∀ v H3, Go K st H H3 → P i v H3 → Q v H3) → g x (wipe σ vs) H' fun σ2 H2 => wipe σ2 vs = wipe σ vs ∧ te σ2 H2 Q)
    (k : ∀ ws H', Go K st H1 H' → H' D = some (.lst ws) → ws.length = n → (∀ i v, ws[i]? = some v → P i v H') → Qd H') :
    ∃ W : Nat → Nat → Hp → Prop, (∃ m, W 0 m (upd H1 D (.lst []))) ∧ ∀ i m H, W i m H →
      (J.stop i H ∧ Qd H) ∨ (J.go i H ∧ ∃ Nx : Hp → Prop, (∀ H', Nx H' → ∃ m', m' < m ∧ W (i + 1) m' H') ∧ ∀ x H', J.yld i H x H' → g x (wipe σ vs) H' fun σ2 H2 => wipe σ2 vs = wipe σ vs ∧ tYes σ2 H2 fun b H3 =>
        if b = true then te σ2 H3 fun y H4 => ∃ acc, H4 D = some (.lst acc) ∧ acc.length < sizeLine ∧ Nx (upd H4 D (.lst (acc ++ [y]))) else Nx H3) := by
  have hne := hS.fresh hD
  refine lc_it w (fun i H' => ∃ ws, Go K st H1 H' ∧ H' D = some (.lst ws) ∧ ws.length = i ∧ ∀ j v, ws[j]? = some v → P j v H') ⟨[], Go.new hD, upd_same, rfl, (fun _ _ z => nomatch z)⟩ (fun i H _ ⟨_, p, _⟩ => hG H p) ?_ ?_
  · rintro i x H H' hi ⟨ws, gg, hd, hl, hp⟩ y
    refine ht i x H H' hi gg ⟨_, hd⟩ y _ fun v H3 g3 pv => ?_
    have hd3 := g3.keep _ _ hne hd
    refine ⟨_, hd3, Nat.lt_of_lt_of_le (by omega : ws.length < 10001) (by decide), ws ++ [v], (gg.trans g3).mut hS hD, upd_same, by rw [List.length_append, hl]; rfl, fun j u hj => ?_⟩
    have up : ∀ j u, P j u H3 → P j u (upd H3 D (.lst (ws ++ [v]))) := fun j u hu => hP j u H3 _ hu fun b o hb _ e => by rw [upd_ne hb]; exact e
    rcases Nat.lt_trichotomy j i with c | c | c
    · rw [List.getElem?_append_left (by omega)] at hj
      exact up j u (hP j u H H3 (hp j u hj) fun b o _ hs e => g3.keep b o hs e)
    · subst c
      rw [List.getElem?_append_right (by omega), hl, Nat.sub_self] at hj
      cases hj
      exact up j v pv
    · rw [List.getElem?_eq_none (by rw [List.length_append, hl]; exact c)] at hj
      cases hj
  · rintro H' ⟨ws, gg, hd, hl, hp⟩
    exact k ws H' gg hd hl hp
end My
namespace My
open PySem PySem.Spec PyProof.Rows L2
open Ln (Sol Just dot)
/-- a line that follows of some lines -/
def sp__law_sum (K : PySem.W.Frag) : Sp := fun vs H Q _ => ∃ (a st l : Addr) (B : List LB) (n : Nat), vs = [.ref st, .ref l] ∧ StAt K a st H ∧ LsAt st H l B ∧ B ≠ [] ∧ (∀ b ∈ B, LineOk n b.2) ∧ n ≤ 20 ∧ B.length ≤ 100 ∧
  ∀ (f : Addr) (L : List Int) H', Go K st H H' → H f = none → H' f = some (.lst (L.map V.int)) → LineOk n L → (∀ x, Sol n (B.map (·.2)) x → Ln.Ok n x (gd L)) → Q (.ref f) H'
def sp__law_lines (K : PySem.W.Frag) : Sp := fun vs H Q _ => ∃ (a st p : Addr) (ps : List Int), vs = [.ref st, .ref p] ∧ StAt K a st H ∧ H p = some (.tup (ps.map V.int)) ∧ ps.length ≤ 12 ∧ (∀ z ∈ ps, 0 ≤ z ∧ z < 97) ∧
  ∀ (l : Addr) (B : List LB) H', Go K st H H' → H l = none → LsAt st H' l B → B.length = ps.length → (∀ b ∈ B, LineOk ps.length b.2) → (∀ x, Sol ps.length (B.map (·.2)) x ↔ ∀ q, q < ps.length → x q % 97 = gd ps q % 97) → Q (.ref l) H'
/-- the same line on the wheel -/
def sp__law_beyond (K : PySem.W.Frag) : Sp := fun vs H Q _ => ∃ (a st f : Addr) (L : List Int), vs = [.ref st, .ref f] ∧ StAt K a st H ∧ H f = some (.lst (L.map V.int)) ∧ f ≠ st ∧ L.length ≤ 100 ∧
  ∀ (t : Addr) (M : List Int) H', Go K st H H' → H t = none → H' t = some (.lst (M.map V.int)) → M.length = L.length → (∀ k, k < L.length → gd M k % 97 = gd L k % 97) → Q (.ref t) H'
def sp_law (K : PySem.W.Frag) : Sp := fun vs H Q _ => ∃ (a : Addr) (ns : List Int), vs = [.ref a] ∧ SqL K H a (ns.map V.int) ∧ ns.length ≤ 63 ∧ ∀ H', Q (.bl true) H'
theorem pickP {ns : List Int} {v : Int} {p : Int → Prop} (h : ∀ z ∈ ns, p z) (h0 : 0 ≤ v) (h1 : v < (ns.length : Int)) : ∃ z, atI (ns.map V.int) v = some (.int z) ∧ p z := by
  have hlt : v.toNat < ns.length := by omega
  refine ⟨ns[v.toNat], at_of (j := v.toNat) (by omega) ?_, h _ (List.getElem_mem hlt)⟩
  rw [List.getElem?_map, List.getElem?_eq_getElem hlt]
  rfl
def toI : V → Int
  | .int z => z
  | _ => 0
theorem int_list {ws : List V} {p : Nat → Int → Prop} (h : ∀ i v, ws[i]? = some v → ∃ z : Int, v = .int z ∧ p i z) : ∃ M : List Int, ws = M.map V.int ∧ ∀ i z, M[i]? = some z → p i z := by
  refine ⟨ws.map toI, List.ext_getElem? fun i => ?_, fun i z hz => ?_⟩
  · rw [List.map_map, List.getElem?_map]
    cases e : ws[i]? with
    | none => rfl
    | some v =>
      obtain ⟨z, rfl, _⟩ := h i v e
      rfl
  · rw [List.getElem?_map] at hz
    cases e : ws[i]? with
    | none => rw [e] at hz; cases hz
    | some v =>
      obtain ⟨z', rfl, hp⟩ := h i v e
      rw [e] at hz
      cases hz
      exact hp
theorem LsAt.apart {st l : Addr} {H : Hp} {B : List LB} (h : LsAt st H l B) : ∀ b ∈ B, b.1 ≠ l := fun b hb z => by
  have h1 := h.rows b hb
  rw [z, h.lst] at h1
  have e := HO.lst.inj (Option.some.inj h1)
  cases B with
  | nil => cases hb
  | cons c r =>
    cases hb2 : b.2 with
    | nil => rw [hb2] at e; cases e
    | cons x y => rw [hb2] at e; cases e
/-- a line more -/
theorem LsAt.snoc {st l d : Addr} {H : Hp} {B : List LB} {L : List Int} (h : LsAt st H l B) (hd : H d = some (.lst (L.map V.int))) (hds : d ≠ st) (hdl : d ≠ l) : LsAt st (upd H l (.lst (B.map (fun b => V.ref b.1) ++ [.ref d]))) l (B ++ [(d, L)]) := by
  refine ⟨by rw [upd_same, List.map_append]; rfl, fun b hb => ?_, h.ne, fun b hb => ?_⟩
  · rcases List.mem_append.mp hb with hb | hb
    · rw [upd_ne (h.apart b hb)]
      exact h.rows b hb
    · rw [List.mem_singleton.mp hb]
      show upd _ _ _ d = _
      rw [upd_ne hdl]
      exact hd
  · rcases List.mem_append.mp hb with hb | hb
    · exact h.nes b hb
    · rw [List.mem_singleton.mp hb]
      exact hds
theorem LsAt.set {st l d : Addr} {H : Hp} {B : List LB} {L : List Int} {k : Nat} (h : LsAt st H l B) (hd : H d = some (.lst (L.map V.int))) (hds : d ≠ st) (hdl : d ≠ l) : LsAt st (upd H l (.lst ((B.map fun b => V.ref b.1).set k (.ref d)))) l (B.set k (d, L)) := by
  refine ⟨by rw [upd_same, List.map_set], fun b hb => ?_, h.ne, fun b hb => ?_⟩
  · rcases List.mem_or_eq_of_mem_set hb with hb | rfl
    · rw [upd_ne (h.apart b hb)]
      exact h.rows b hb
    · show upd _ _ _ d = _
      rw [upd_ne hdl]
      exact hd
  · rcases List.mem_or_eq_of_mem_set hb with hb | rfl
    · exact h.nes b hb
    · exact hds
/-- the first lines: noughts, a number that is none, any ones, the end -/
theorem first_line {n k : Nat} {x s : Int} {ms ps : List Int} (hk : k < n) (hm : ms.length = n - 1 - k) (hx0 : 0 ≤ x) (hx1 : x < 96) (hms : ∀ z ∈ ms, 0 ≤ z ∧ z < 97) (hs : s = dot n (gd (List.replicate k 0 ++ [1 + x] ++ ms)) (gd ps) % 97) :
    (∀ q, q < k → gd (List.replicate k 0 ++ [1 + x] ++ ms ++ [s]) q = 0) ∧ gd (List.replicate k 0 ++ [1 + x] ++ ms ++ [s]) k % 97 ≠ 0 ∧ Ln.Ok n (gd ps) (gd (List.replicate k 0 ++ [1 + x] ++ ms ++ [s])) ∧ LineOk n (List.replicate k 0 ++ [1 + x] ++ ms ++ [s]) := by
  have hl : (List.replicate k (0 : Int) ++ [1 + x] ++ ms).length = n := by
    rw [List.length_append, List.length_append, List.length_replicate, hm]
    show k + 1 + (n - 1 - k) = n
    omega
  refine ⟨fun q hq => ?_, ?_, ?_, ?_, fun z hz => ?_⟩
  · refine gd_get ?_
    rw [List.append_assoc, List.append_assoc, List.getElem?_append_left (by rw [List.length_replicate]; exact hq), List.getElem?_replicate, if_pos hq]
  · have : gd (List.replicate k 0 ++ [1 + x] ++ ms ++ [s]) k = 1 + x := gd_get (by
      rw [List.append_assoc, List.append_assoc, List.getElem?_append_right (by rw [List.length_replicate]; exact Nat.le_refl _), List.length_replicate, Nat.sub_self]
      rfl)
    rw [this]
    omega
  · unfold Ln.Ok
    have e1 : dot n (gd (List.replicate k 0 ++ [1 + x] ++ ms ++ [s])) (gd ps) = dot n (gd (List.replicate k 0 ++ [1 + x] ++ ms)) (gd ps) := Ms.sm_congr fun q hq => by rw [gd_app (by omega)]
    have e2 : gd (List.replicate k 0 ++ [1 + x] ++ ms ++ [s]) n = s := by
      have := gd_last (List.replicate k 0 ++ [1 + x] ++ ms) s
      rwa [hl] at this
    rw [e1, e2, hs, Int.emod_emod]
  · rw [List.length_append, hl]
    rfl
  · rcases List.mem_append.mp hz with hz | hz
    · rcases List.mem_append.mp hz with hz | hz
      · rcases List.mem_append.mp hz with hz | hz
        · rw [(List.mem_replicate.mp hz).2]
          decide
        · rw [List.mem_singleton.mp hz]
          omega
      · exact hms z hz
    · rw [List.mem_singleton.mp hz, hs]
      exact ⟨Int.emod_nonneg _ (by decide), Int.emod_lt_of_pos _ (by decide)⟩
theorem ixN_of {n j : Nat} {z : Int} (e : z = (j : Int)) (h : j < n) : ixN n z = some j := by
  subst e
  unfold ixN
  rw [if_pos (by omega), if_pos (by omega)]
  simp
end My
namespace My
open PySem PySem.Spec PyProof.Rows L2
open Ln (Sol Just dot)
theorem pick_list {β : Type} (f : β → V) : ∀ (ws : List V) (p : Nat → β → Prop), (∀ i v, ws[i]? = some v → ∃ b, v = f b ∧ p i b) → ∃ C : List β, ws = C.map f ∧ ∀ i b, C[i]? = some b → p i b
  | [], _, _ => ⟨[], rfl, (fun _ _ z => nomatch z)⟩
  | v :: ws, p, h => by
    obtain ⟨b, rfl, hb⟩ := h 0 v rfl
    obtain ⟨C, rfl, hC⟩ := pick_list f ws (fun i => p (i + 1)) fun i u hu => h (i + 1) u hu
    refine ⟨b :: C, rfl, fun i c hc => ?_⟩
    cases i with
    | zero =>
      cases hc
      exact hb
    | succ i => exact hC i c hc
theorem LsAt.to {st l : Addr} {H : Hp} {B C : List LB} (h : LsAt st H l B) (hC : ∀ b ∈ C, b ∈ B) : LsAt st (upd H l (.lst (C.map fun b => V.ref b.1))) l C :=
  ⟨upd_same, fun b hb => by rw [upd_ne (h.apart b (hC b hb))]; exact h.rows b (hC b hb), h.ne, fun b hb => h.nes b (hC b hb)⟩
theorem map_erase {α β : Type} (f : α → β) : ∀ (l : List α) (k : Nat), (l.map f).eraseIdx k = (l.eraseIdx k).map f
  | [], _ => rfl
  | _ :: _, 0 => rfl
  | a :: l, k + 1 => by
    show f a :: (l.map f).eraseIdx k = f a :: (l.eraseIdx k).map f
    rw [map_erase f l k]
/-! lists of lists, of tuples, as data -/
theorem dpLs {K : PySem.W.Frag} {H : Hp} : ∀ B : List LB, (∀ b ∈ B, H b.1 = some (.lst (b.2.map V.int))) → DpAll K H (B.map fun b => V.ref b.1) (B.map fun b => PyData.list (b.2.map PyData.int))
  | [], _ => .nil
  | b :: B, h => .cons (.lst (SqL.of (h b List.mem_cons_self)) (dpInts b.2)) (dpLs B fun c hc => h c (List.mem_cons_of_mem _ hc))
theorem dpTs {K : PySem.W.Frag} {H : Hp} : ∀ W : List Rw, (∀ w ∈ W, H w.at' = some (.tup (w.row.map V.int))) → DpAll K H (W.map fun w => V.ref w.at') (W.map fun w => PyData.tuple (w.row.map PyData.int))
  | [], _ => .nil
  | w :: W, h => .cons (.tup (SqT.of (h w List.mem_cons_self)) (dpInts w.row)) (dpTs W fun c hc => h c (List.mem_cons_of_mem _ hc))
theorem layLs {α : Type} (f : α → List Int) : ∀ B : List α, PyData.canLayAll0 (B.map fun b => PyData.list ((f b).map PyData.int)) = true ∧ PyData.depthAll (B.map fun b => PyData.list ((f b).map PyData.int)) ≤ 3
  | [] => by simp [PyData.canLayAll0, PyData.depthAll]
  | b :: B => by
    have ⟨h1, h2⟩ := layLs f B
    have h3 := lay_ints (f b)
    have h4 := depth_ints (f b)
    simp only [List.map_cons, PyData.canLayAll0, PyData.canLay0, PyData.depthAll, PyData.depth, Bool.and_eq_true]
    exact ⟨⟨h3, h1⟩, by omega⟩
theorem layTs {α : Type} (f : α → List Int) : ∀ B : List α, PyData.canLayAll0 (B.map fun b => PyData.tuple ((f b).map PyData.int)) = true ∧ PyData.depthAll (B.map fun b => PyData.tuple ((f b).map PyData.int)) ≤ 3
  | [] => by simp [PyData.canLayAll0, PyData.depthAll]
  | b :: B => by
    have ⟨h1, h2⟩ := layTs f B
    have h3 := lay_ints (f b)
    have h4 := depth_ints (f b)
    simp only [List.map_cons, PyData.canLayAll0, PyData.canLay0, PyData.depthAll, PyData.depth, Bool.and_eq_true]
    exact ⟨⟨h3, h1⟩, by omega⟩
/-- lines != [] -/
theorem neRows {K : PySem.W.Frag} {H : Hp} {a b : Addr} {B : List LB} {Q : VK} (ha : H a = some (.lst (B.map fun b => V.ref b.1))) (hr : ∀ b ∈ B, H b.1 = some (.lst (b.2.map V.int))) (hb : H b = some (.lst [])) (q : Q (.bl (!decide (B = []))) H) : rNeD K (.ref a) (.ref b) H Q := by
  refine ⟨_, _, .lst (SqL.of ha) (dpLs B hr), .lst (SqL.of hb) .nil, ?_, shaped_lst [], ?_⟩
  · have ⟨h1, h2⟩ := layLs (fun b : LB => b.2) B
    show (_ && decide (_ ≤ 64)) = true
    rw [Bool.and_eq_true]
    exact ⟨by simp only [PyData.canLay0]; exact h1, decide_eq_true (by simp only [PyData.depth]; omega)⟩
  · have e : PyData.eqv (.list (B.map fun b => PyData.list (b.2.map PyData.int))) (.list []) = decide (B = []) := by
      rw [PyData.eqv]
      cases B with
      | nil => simp [PyData.eqvAll]
      | cons c r => simp [PyData.eqvAll]
    rw [e]
    exact q
/-- two pairs of the same rows and ends -/
theorem ne_handed {K : PySem.W.Frag} {H : Hp} {h h' r r' e e' : Addr} {W : List Rw} {Q : VK} (h1 : H h = some (.tup [.ref r, .ref e])) (h2 : H h' = some (.tup [.ref r', .ref e'])) (hr : H r = some (.lst (W.map fun w => V.ref w.at'))) (hr' : H r' = some (.lst (W.map fun w => V.ref w.at'))) (he : H e = some (.lst ((W.map Rw.fin).map V.int))) (he' : H e' = some (.lst ((W.map Rw.fin).map V.int)))
    (hw : ∀ w ∈ W, H w.at' = some (.tup (w.row.map V.int))) (q : Q (.bl false) H) : rNeD K (.ref h) (.ref h') H Q := by
  have hd : SeqAt.shaped (.tuple [.list (W.map fun w => PyData.tuple (w.row.map PyData.int)), .list ((W.map Rw.fin).map PyData.int)]) = true := by
    have ⟨a1, a2⟩ := layTs (fun w : Rw => w.row) W
    have a3 := lay_ints (W.map Rw.fin)
    have a4 := depth_ints (W.map Rw.fin)
    show (_ && decide (_ ≤ 64)) = true
    rw [Bool.and_eq_true]
    refine ⟨?_, decide_eq_true ?_⟩
    · simp only [PyData.canLay0, PyData.canLayAll0, Bool.and_eq_true]
      exact ⟨a1, a3, trivial⟩
    · simp only [PyData.depth, PyData.depthAll]
      omega
  refine ⟨_, _, .tup (SqT.of h1) (.cons (.lst (SqL.of hr) (dpTs W hw)) (.cons (.lst (SqL.of he) (dpInts _)) .nil)), .tup (SqT.of h2) (.cons (.lst (SqL.of hr') (dpTs W hw)) (.cons (.lst (SqL.of he') (dpInts _)) .nil)), hd, hd, ?_⟩
  rw [SeqAt.eqv_refl _ (SeqAt.canLay_of_shaped hd)]
  exact q
/-- what the law holds as due -/
def DueIs (n : Nat) (Es : List (List Int)) (ps : List Int) (p : Addr) (v : V) : Prop := (v = .ref p ∧ ∀ x, Sol n Es x ↔ ∀ q, q < n → x q % 97 = gd ps q % 97) ∨ (v = .non ∧ ∀ x, ¬ Just n Es x)
theorem DueIs.congr {n : Nat} {Es Fs : List (List Int)} {ps : List Int} {p : Addr} {v : V} (h : ∀ x, Sol n Es x ↔ Sol n Fs x) (d : DueIs n Es ps p v) : DueIs n Fs ps p v := by
  rcases d with ⟨e, d⟩ | ⟨e, d⟩
  · exact .inl ⟨e, fun x => (h x).symm.trans (d x)⟩
  · exact .inr ⟨e, fun x j => d x ((just_congr h x).mpr j)⟩
theorem solved_due {K : PySem.W.Frag} {H : Hp} {n : Nat} {r e p : Addr} {W : List Rw} {ps : List Int} {due : V} {Q : VK} {E : XK} (hr : SqL K H r (W.map fun w => V.ref w.at')) (he : SqL K H e ((W.map Rw.fin).map V.int)) (hw : ∀ w ∈ W, H w.at' = some (.tup (w.row.map V.int)) ∧ w.row.length = n) (hn : n ≤ 300) (hp : H p = some (.tup (ps.map V.int))) (hpl : ps.length = n) (hpb : ∀ z ∈ ps, 0 ≤ z ∧ z < 97)
    (hd : DueIs n (W.map eqn) ps p due) (k : ∀ v H', Same H H' → EqV H' 1 v due → Q v H') : sp_solved K [.int (n : Int), .ref r, .ref e] H Q E := by
  refine ⟨n, r, e, W, rfl, hr, he, fun w hwm => ⟨SqT.of (hw w hwm).1, (hw w hwm).2⟩, hn, fun H' s hno => ?_, fun t xs H' s _ ht hxl hxb hj => ?_⟩
  · rcases hd with ⟨rfl, hd⟩ | ⟨rfl, hd⟩
    · refine absurd ⟨(hd (gd ps)).mpr fun _ _ => rfl, fun y hy => (hd y).mp hy⟩ (hno (gd ps))
    · exact k _ H' s (.non 1)
  · rcases hd with ⟨rfl, hd⟩ | ⟨rfl, hd⟩
    · have e : xs = ps := by
        refine List.ext_getElem? fun i => ?_
        by_cases c : i < n
        · rw [get_gd (by omega), get_gd (by omega)]
          have h1 := (hd (gd xs)).mp hj.1 i c
          have h2 := hxb _ (List.mem_of_getElem? (get_gd (l := xs) (i := i) (by omega)))
          have h3 := hpb _ (List.mem_of_getElem? (get_gd (l := ps) (i := i) (by omega)))
          congr 1
          omega
        · rw [List.getElem?_eq_none (by omega), List.getElem?_eq_none (by omega)]
      subst e
      exact k _ H' s (EqV.ints ht (s _ _ hp) (by omega))
    · exact absurd hj (hd _)
theorem cutInit (xs : List V) (v : V) : cutV (xs ++ [v]) none (some (-1)) = xs := by
  have h1 : HT.sIx (xs ++ [v]).length 0 none = 0 := rfl
  have h2 : HT.sIx (xs ++ [v]).length (xs ++ [v]).length (some (-1)) = xs.length := by
    unfold HT.sIx
    dsimp only
    rw [if_pos (by decide), List.length_append]
    show ((-1 : Int) + ((xs.length + 1 : Nat) : Int)).toNat = _
    omega
  unfold cutV
  rw [h1, h2, List.drop_zero, Nat.sub_zero, List.take_left]
theorem init_last {n : Nat} {L : List Int} (h : L.length = n + 1) : L = L.take n ++ [gd L n] := by
  refine List.ext_getElem? fun i => ?_
  rcases Nat.lt_trichotomy i n with c | c | c
  · rw [List.getElem?_append_left (by rw [List.length_take]; omega), List.getElem?_take, if_pos c]
  · subst c
    rw [List.getElem?_append_right (by rw [List.length_take]; omega), List.length_take, show i - min i L.length = 0 by omega, get_gd (by omega)]
    rfl
  · rw [List.getElem?_eq_none (by omega), List.getElem?_eq_none (by rw [List.length_append, List.length_take]; show min n L.length + 1 ≤ i; omega)]
/-- a line with another end -/
theorem odd_end {n : Nat} {Es : List (List Int)} {L : List Int} {d : Int} (hl : L.length = n + 1) (hf : ∀ x, Sol n Es x → Ln.Ok n x (gd L)) (d0 : 0 ≤ d) (d1 : d < 96) {Fs : List (List Int)} (hin : ∀ E ∈ Es, E ∈ Fs) (hE : L.take n ++ [(gd L n + 1 + d) % 97] ∈ Fs) (x : Nat → Int) : ¬ Just n Fs x := fun j => by
  have h1 := hf x fun E hE => j.1 E (hin E hE)
  have h2 := j.1 _ hE
  have ht : (L.take n).length = n := by rw [List.length_take]; omega
  have e0 : ∀ q, q < n → gd (L.take n ++ [(gd L n + 1 + d) % 97]) q = gd L q := fun q hq => by
    rw [gd_app (by omega)]
    refine gd_get ?_
    rw [List.getElem?_take, if_pos hq]
    exact get_gd (by omega)
  have e1 : dot n (gd (L.take n ++ [(gd L n + 1 + d) % 97])) x = dot n (gd L) x := Ms.sm_congr fun q hq => by rw [e0 q hq]
  have e2 : gd (L.take n ++ [(gd L n + 1 + d) % 97]) n = (gd L n + 1 + d) % 97 := by
    have := gd_last (L.take n) ((gd L n + 1 + d) % 97)
    rwa [ht] at this
  unfold Ln.Ok at h1 h2
  rw [e1, e2] at h2
  omega
end My
namespace My
open PySem PySem.Spec PyProof.Rows L2
/-! ### the text -/
def topS (i : Nat) : Stmt := PySem.Challenge.pw_setmend_k10_equations.main.body.getD i (.Pass ⟨0, 0, 0, 0⟩)
abbrev s_inverse : Stmt := topS 5
theorem sc_inverse : FnScope ["number", "rest", "guess"] ["number"] (defScope s_inverse) := ⟨rfl, rfl, rfl, by decide +kernel, rfl, by decide +kernel, by decide +kernel⟩
abbrev s_freed : Stmt := topS 7
theorem sc_freed : FnScope ["equation", "leaders", "place", "leader", "times", "number", "other"] ["equation", "leaders"] (defScope s_freed) := ⟨rfl, rfl, rfl, by decide +kernel, rfl, by decide +kernel, by decide +kernel⟩
abbrev s_first_place : Stmt := topS 8
theorem sc_first_place : FnScope ["equation", "place", "number"] ["equation"] (defScope s_first_place) := ⟨rfl, rfl, rfl, by decide +kernel, rfl, by decide +kernel, by decide +kernel⟩
abbrev s_one_at : Stmt := topS 9
theorem sc_one_at : FnScope ["equation", "place", "times", "number"] ["equation", "place"] (defScope s_one_at) := ⟨rfl, rfl, rfl, by decide +kernel, rfl, by decide +kernel, by decide +kernel⟩
abbrev s_read_back : Stmt := topS 10
theorem sc_read_back : FnScope ["many", "leaders", "found", "place", "leader", "others", "other"] ["many", "leaders"] (defScope s_read_back) := ⟨rfl, rfl, rfl, by decide +kernel, rfl, by decide +kernel, by decide +kernel⟩
abbrev s_solved : Stmt := topS 11
theorem sc_solved : FnScope ["many", "rows", "ends", "leaders", "row", "end", "equation", "place", "number"] ["many", "rows", "ends"] (defScope s_solved) := ⟨rfl, rfl, rfl, by decide +kernel, rfl, by decide +kernel, by decide +kernel⟩
abbrev s__law_start : Stmt := topS 13
theorem sc__law_start : FnScope ["_law_script", "_law_mixed", "_law_cell"] ["_law_script"] (defScope s__law_start) := ⟨rfl, rfl, rfl, by decide +kernel, rfl, by decide +kernel, by decide +kernel⟩
abbrev s__law_drawn : Stmt := topS 14
theorem sc__law_drawn : FnScope ["_law_state", "_law_many", "_law_found", "_law_cell"] ["_law_state", "_law_many"] (defScope s__law_drawn) := ⟨rfl, rfl, rfl, by decide +kernel, rfl, by decide +kernel, by decide +kernel⟩
abbrev s__law_same : Stmt := topS 15
theorem sc__law_same : FnScope ["_law_found", "_law_due", "_law_k"] ["_law_found", "_law_due"] (defScope s__law_same) := ⟨rfl, rfl, rfl, by decide +kernel, rfl, by decide +kernel, by decide +kernel⟩
abbrev s__law_sum : Stmt := topS 16
theorem sc__law_sum : FnScope ["_law_state", "_law_lines_here", "_law_found", "_law_line", "_law_times", "_law_number", "_law_one", "_law_two"] ["_law_state", "_law_lines_here"] (defScope s__law_sum) := ⟨rfl, rfl, rfl, by decide +kernel, rfl, by decide +kernel, by decide +kernel⟩
abbrev s__law_lines : Stmt := topS 17
theorem sc__law_lines : FnScope ["_law_state", "_law_planted", "_law_many", "_law_lines_here", "_law_k", "_law_j", "_law_line", "_law_turn", "_law_times", "_law_one", "_law_two"] ["_law_state", "_law_planted"] (defScope s__law_lines) := ⟨rfl, rfl, rfl, by decide +kernel, rfl, by decide +kernel, by decide +kernel⟩
abbrev s__law_beyond : Stmt := topS 18
theorem sc__law_beyond : FnScope ["_law_state", "_law_line", "_law_far", "_law_number"] ["_law_state", "_law_line"] (defScope s__law_beyond) := ⟨rfl, rfl, rfl, by decide +kernel, rfl, by decide +kernel, by decide +kernel⟩
abbrev s_law : Stmt := topS 19
theorem sc_law : FnScope ["_law_script", "_law_state", "_law_planted", "_law_lines_here", "_law_way", "_law_due", "_law_odd", "_law_rows", "_law_ends", "_law_handed", "_law_line", "_law_k"] ["_law_script"] (defScope s_law) := ⟨rfl, rfl, rfl, by decide +kernel, rfl, by decide +kernel, by decide +kernel⟩
structure Ad where
  f_inverse : Addr
  d_inverse : FuncData
  f_freed : Addr
  d_freed : FuncData
  f_first_place : Addr
  d_first_place : FuncData
  f_one_at : Addr
  d_one_at : FuncData
  f_read_back : Addr
  d_read_back : FuncData
  f_solved : Addr
  d_solved : FuncData
  f__law_start : Addr
  d__law_start : FuncData
  f__law_drawn : Addr
  d__law_drawn : FuncData
  f__law_same : Addr
  d__law_same : FuncData
  f__law_sum : Addr
  d__law_sum : FuncData
  f__law_lines : Addr
  d__law_lines : FuncData
  f__law_beyond : Addr
  d__law_beyond : FuncData
  f_law : Addr
  d_law : FuncData
  e_NoInverse : Addr
  t_WHEEL : Nat
structure Txt (K : PySem.W.Frag) (mg : Str → Option Value) (A : Ad) : Prop where
  F_inverse : Fun K "inverse" "inverse" s_inverse A.f_inverse A.d_inverse
  k_inverse : PySem.W.keepIn K (.ref A.f_inverse) = true
  g_inverse : mg "inverse" = some (.ref A.f_inverse)
  b_inverse : Binds K A.d_inverse ["number"] []
  F_freed : Fun K "freed" "freed" s_freed A.f_freed A.d_freed
  k_freed : PySem.W.keepIn K (.ref A.f_freed) = true
  g_freed : mg "freed" = some (.ref A.f_freed)
  b_freed : Binds K A.d_freed ["equation", "leaders"] []
  F_first_place : Fun K "first_place" "first_place" s_first_place A.f_first_place A.d_first_place
  k_first_place : PySem.W.keepIn K (.ref A.f_first_place) = true
  g_first_place : mg "first_place" = some (.ref A.f_first_place)
  b_first_place : Binds K A.d_first_place ["equation"] []
  F_one_at : Fun K "one_at" "one_at" s_one_at A.f_one_at A.d_one_at
  k_one_at : PySem.W.keepIn K (.ref A.f_one_at) = true
  g_one_at : mg "one_at" = some (.ref A.f_one_at)
  b_one_at : Binds K A.d_one_at ["equation", "place"] []
  F_read_back : Fun K "read_back" "read_back" s_read_back A.f_read_back A.d_read_back
  k_read_back : PySem.W.keepIn K (.ref A.f_read_back) = true
  g_read_back : mg "read_back" = some (.ref A.f_read_back)
  b_read_back : Binds K A.d_read_back ["many", "leaders"] []
  F_solved : Fun K "solved" "solved" s_solved A.f_solved A.d_solved
  k_solved : PySem.W.keepIn K (.ref A.f_solved) = true
  g_solved : mg "solved" = some (.ref A.f_solved)
  b_solved : Binds K A.d_solved ["many", "rows", "ends"] []
  F__law_start : Fun K "_law_start" "_law_start" s__law_start A.f__law_start A.d__law_start
  k__law_start : PySem.W.keepIn K (.ref A.f__law_start) = true
  g__law_start : mg "_law_start" = some (.ref A.f__law_start)
  b__law_start : Binds K A.d__law_start ["_law_script"] []
  F__law_drawn : Fun K "_law_drawn" "_law_drawn" s__law_drawn A.f__law_drawn A.d__law_drawn
  k__law_drawn : PySem.W.keepIn K (.ref A.f__law_drawn) = true
  g__law_drawn : mg "_law_drawn" = some (.ref A.f__law_drawn)
  b__law_drawn : Binds K A.d__law_drawn ["_law_state", "_law_many"] []
  F__law_same : Fun K "_law_same" "_law_same" s__law_same A.f__law_same A.d__law_same
  k__law_same : PySem.W.keepIn K (.ref A.f__law_same) = true
  g__law_same : mg "_law_same" = some (.ref A.f__law_same)
  b__law_same : Binds K A.d__law_same ["_law_found", "_law_due"] []
  F__law_sum : Fun K "_law_sum" "_law_sum" s__law_sum A.f__law_sum A.d__law_sum
  k__law_sum : PySem.W.keepIn K (.ref A.f__law_sum) = true
  g__law_sum : mg "_law_sum" = some (.ref A.f__law_sum)
  b__law_sum : Binds K A.d__law_sum ["_law_state", "_law_lines_here"] []
  F__law_lines : Fun K "_law_lines" "_law_lines" s__law_lines A.f__law_lines A.d__law_lines
  k__law_lines : PySem.W.keepIn K (.ref A.f__law_lines) = true
  g__law_lines : mg "_law_lines" = some (.ref A.f__law_lines)
  b__law_lines : Binds K A.d__law_lines ["_law_state", "_law_planted"] []
  F__law_beyond : Fun K "_law_beyond" "_law_beyond" s__law_beyond A.f__law_beyond A.d__law_beyond
  k__law_beyond : PySem.W.keepIn K (.ref A.f__law_beyond) = true
  g__law_beyond : mg "_law_beyond" = some (.ref A.f__law_beyond)
  b__law_beyond : Binds K A.d__law_beyond ["_law_state", "_law_line"] []
  F_law : Fun K "law" "law" s_law A.f_law A.d_law
  k_law : PySem.W.keepIn K (.ref A.f_law) = true
  g_law : mg "law" = some (.ref A.f_law)
  b_law : Binds K A.d_law ["_law_script"] []
  c_WHEEL : mg "WHEEL" = some (.int 97 A.t_WHEEL)
  z_bool : mg "bool" = none
  z_enumerate : mg "enumerate" = none
  z_int : mg "int" = none
  z_isinstance : mg "isinstance" = none
  z_len : mg "len" = none
  z_list : mg "list" = none
  z_range : mg "range" = none
  z_reversed : mg "reversed" = none
  z_str : mg "str" = none
  z_sum : mg "sum" = none
  z_tuple : mg "tuple" = none
  z_zip : mg "zip" = none
  g_NoInverse : mg "NoInverse" = some (.ref A.e_NoInverse)
  x_NoInverse : PySem.W.excIn K A.e_NoInverse [.type "ValueError", .type "Exception", .type "BaseException", .type "object"] "ValueError.__new__" = true
  k_NoInverse : PySem.W.keepIn K (.ref A.e_NoInverse) = true
  bb_NoInverse : PySem.W.subIn K (.ref A.e_NoInverse) (.type "BaseException") = some true
  tt_NoInverse : PySem.W.typeIn K (.ref A.e_NoInverse) = some (.type "type")
section
variable {P : Program} {w : World} {K : PySem.W.Frag} {mg : Str → Option Value} {base : Heap} {A : Ad}
open Ln (Lead Led Sat Sol Just back freedL firstP times dot)
/-! ### inverse: slots 0 number, 1 rest, 2 guess -/

theorem ok_inverse (T : Txt K mg A) : FnOk P w K mg base (L2.CX P w) 1 A.f_inverse A.d_inverse ["number"] (sp_inverse A.e_NoInverse) := by
  refine T.F_inverse.okX sc_inverse (fun vs H Q E h => by first | (obtain ⟨_, rfl, _⟩ := h; rfl) | (obtain ⟨_, _, rfl, _⟩ := h; rfl) | (obtain ⟨_, _, _, rfl, _⟩ := h; rfl) | (obtain ⟨_, _, _, _, rfl, _⟩ := h; rfl) | (obtain ⟨_, _, _, _, _, rfl, _⟩ := h; rfl) | (obtain ⟨_, _, _, _, _, _, rfl, _⟩ := h; rfl) | (obtain ⟨_, _, _, _, _, _, _, rfl, _⟩ := h; rfl)) (fun cdv AA outer s H vs Q E hr h => ?_)
  refine ⟨_, (pss_cons (ps_set (i := 1) sc_inverse.nd rfl (.inl rfl) (pe_op op_mod (pv 0) (pe_glob (v := .int 97) rfl T.c_WHEEL ⟨_, rfl⟩)))
      (pss_cons (ps_for (passes_of rfl) rfl (pi_range2 (by rfl) T.z_range (pa_cons pe_int (pa_cons (pe_glob (v := .int 97) rfl T.c_WHEEL ⟨_, rfl⟩) pa_nil))) (pg_name (i := 2) sc_inverse.nd rfl (.inl rfl))
        (pss_one (ps_if (pt_cmpR op_eq (pe_op op_mod (pe_op op_mul (pv 1) (pv 2)) (pe_glob (v := .int 97) rfl T.c_WHEEL ⟨_, rfl⟩)) pe_int (nomark _)) (pss_one (ps_ret (pv 2))) pss_nil)))
      (pss_one (ps_raise rfl (takes_of rfl rfl rfl rfl) (pmk_own PySem.F.excBase_ValueError T.x_NoInverse T.g_NoInverse T.k_NoInverse (raises_own T.bb_NoInverse T.tt_NoInverse) rfl))))), ?_⟩
  obtain ⟨n, rfl, hE, hQ⟩ := h
  refine ⟨_, rfl, _, _, rfl, rfl, by show (0:Int) < _; decide, ?_⟩
  refine ⟨1, 97, rfl, ⟨by decide, by decide, by decide, by decide⟩, for_range (lo := 1) (n := 96) (fun i σ H' => ∃ v, σ = [some (.int n), some (.int (n % 97)), v] ∧ H' = H ∧ ∀ g : Nat, g < i → n % 97 * (1 + (g : Int)) % 97 ≠ 1) ⟨none, rfl, rfl, fun g hg => absurd hg (Nat.not_lt_zero _)⟩ ?_ ?_⟩
  · rintro i σ H' hi ⟨v, rfl, rfl, hno⟩
    refine ⟨_, rfl, _, rfl, _, _, rfl, rfl, .inr ⟨by omega, by omega⟩, _, _, rfl, rfl, by show (0:Int) < _; decide, rfl, _, rfl, ite2 (fun c => ?_) (fun c => ?_)⟩
    · have e : n % 97 * (1 + (i : Int)) % 97 = 1 := V.int.inj (of_decide_eq_true c)
      refine ⟨_, rfl, ?_⟩
      have e2 : n * (1 + (i : Int)) % 97 = 1 := by
        have a1 := Int.mul_emod n (1 + (i : Int)) 97
        have a2 := Int.mul_emod (n % 97) (1 + (i : Int)) 97
        rw [Int.emod_emod] at a2
        rw [a1, ← a2]
        exact e
      refine hQ (fun z => ?_) _ (by omega) (by omega) e2
      rw [z, Int.zero_mul] at e
      cases e
    · refine ⟨_, rfl, rfl, fun g hg => ?_⟩
      rcases Nat.lt_succ_iff_lt_or_eq.mp hg with h | h
      · exact hno g h
      · rw [h]
        exact fun z => c (decide_eq_true (congrArg V.int z))
  · rintro σ H' ⟨v, rfl, rfl, hno⟩
    exact hE (no_inv hno)
/-! ### freed: slots 0 equation, 1 leaders, 2 place, 3 leader, 4 times, 5 number, 6 other -/

theorem ok_freed (T : Txt K mg A) : FnOk P w K mg base CX0 1 A.f_freed A.d_freed ["equation", "leaders"] (sp_freed K) := by
  refine T.F_freed.ok sc_freed (fun vs H Q E h => by first | (obtain ⟨_, rfl, _⟩ := h; rfl) | (obtain ⟨_, _, rfl, _⟩ := h; rfl) | (obtain ⟨_, _, _, rfl, _⟩ := h; rfl) | (obtain ⟨_, _, _, _, rfl, _⟩ := h; rfl) | (obtain ⟨_, _, _, _, _, rfl, _⟩ := h; rfl) | (obtain ⟨_, _, _, _, _, _, rfl, _⟩ := h; rfl) | (obtain ⟨_, _, _, _, _, _, _, rfl, _⟩ := h; rfl)) (fun cdv AA outer s H vs Q E hr h => ?_)
  refine ⟨_, (pss_cons (ps_lock (ps_for PassesOwn.never rfl (pi_items (pv 1)) (pg_tup rfl (pgs_cons (pg_name (i := 2) sc_freed.nd rfl (.inl rfl)) (pgs_cons (pg_name (i := 3) sc_freed.nd rfl (.inl rfl)) pgs_nil)))
        (pss_cons (ps_set (i := 4) sc_freed.nd rfl (.inr rfl) (pe_ix ix_list (pv 0) (pv 2) (fun _ _ => rfl)))
        (pss_one (ps_if (pt_cmpR op_ne (pv 4) pe_int (nomark _)) (pss_one (ps_setLc (i := 0) (own := [("number", 5), ("other", 6)]) (g := gTup K 2 (gCons (gName 5) (gCons (gName 6) gNil)))  rfl sc_freed.nd rfl rfl (sw_true rfl rfl rfl (by decide +kernel)) (Mz.pi_zip2 (p := true) (q := true) (by rfl) T.z_zip (pa_cons (pv 0) (pa_cons (pv 3) pa_nil))) (blkOk_by (own := [("number", 5), ("other", 6)]) (N := ["equation", "leaders", "place", "leader", "times", "number", "other"]) (sc := defScope s_freed) (by decide +kernel)) (fun _ _ _ _ _ => pg_tup rfl (pgs_cons (pg_name (i := 5) sc_freed.nd rfl (.inl rfl)) (pgs_cons (pg_name (i := 6) sc_freed.nd rfl (.inl rfl)) pgs_nil))) (fun _ _ _ _ _ => pts_nil) (fun _ _ _ _ _ => (pe_op op_mod (pe_op op_sub (pv 5) (pe_op op_mul (pv 4) (pv 6))) (pe_glob (v := .int 97) rfl T.c_WHEEL ⟨_, rfl⟩))))) pss_nil)))))
      (pss_one (ps_ret (pv 0)))), ?_⟩
  obtain ⟨e, d, eq, M, n, rfl, he, hL, hled, hlen, hn, hb, q⟩ := h
  have hed : e ≠ d := fun z => by
    rw [z, hL.dict] at he
    cases he
  refine ⟨d, _, hL.dict, trivial, fun od => ?_⟩
  have he2 : (upd H d (.frz od (.dK (M.map kvL)))) e = some (.lst (eq.map V.int)) := by rw [upd_ne hed]; exact he
  have hrows : ∀ m ∈ M, (upd H d (.frz od (.dK (M.map kvL)))) m.2 = some (.lst (m.1.2.map V.int)) := fun m hm => by
    rw [upd_ne fun z => by have := hL.rows m hm; rw [z, hL.dict] at this; cases this]
    exact hL.rows m hm
  refine ⟨_, rfl, d, od, _, rfl, upd_same, for_it (walk_items (d := d) (o := od) (kvs := M.map kvL)) (fun i σ H' => ∃ (t : Addr) (v2 v3 v4 : Option V), σ = [some (.ref t), some (.ref d), v2, v3, v4, none, none] ∧ Same (upd H d (.frz od (.dK (M.map kvL)))) H' ∧ H' t = some (.lst ((freedL eq ((M.take i).map (·.1))).map V.int))) ⟨e, none, none, none, rfl, Same.refl _, he2⟩ (fun i σ H' _ ⟨_, _, _, _, _, sm, _⟩ => sm _ _ upd_same) ?_ ?_⟩
  · rintro i x σ H1 H2 hi ⟨t, v2, v3, v4, rfl, sm, ht⟩ ⟨T, x, y, rfl, hT, rfl, gx, gy⟩
    rw [List.length_map] at hi
    have gm : M[i]? = some M[i] := List.getElem?_eq_getElem hi
    have hmem : M[i] ∈ M := List.getElem_mem hi
    dsimp only at gx gy
    rw [List.getElem?_map, gm] at gx gy
    have ex : x = .int ((M[i].1.1 : Nat) : Int) := (Option.some.inj gx).symm
    have ey : y = .ref M[i].2 := (Option.some.inj gy).symm
    subst ex ey
    have htl := take_lead gm
    have hm1 : M[i].1 ∈ M.map (·.1) := List.mem_map.mpr ⟨_, hmem, rfl⟩
    have hplt := hled.lt _ hm1
    have hmlen := hled.len _ hm1
    have hmb := hled.bd _ hm1
    have hfl : (freedL eq ((M.take i).map (·.1))).length = n + 1 := by rw [Ln.freedL_len]; exact hlen
    have hfb := Ln.freedL_bd ((M.take i).map (·.1)) eq hb
    have hrow := sm _ _ (hrows _ hmem)
    generalize M[i] = m at *
    have es : freedL eq ((M.take (i + 1)).map (·.1)) = Ln.fstep (freedL eq ((M.take i).map (·.1))) m.1 := by rw [htl, freedL_snoc]
    rw [es]
    generalize freedL eq ((M.take i).map (·.1)) = f at *
    have sT := same_upd (o := .tup [V.int ((m.1.1 : Nat) : Int), V.ref m.2]) hT
    have ht2 := sT _ _ ht
    refine ⟨T, [.int ((m.1.1 : Nat) : Int), .ref m.2], rfl, SqT.of upd_same, rfl, _, _, rfl, _, _, rfl, rfl, ?_⟩
    refine ⟨_, rfl, _, rfl, t, _, _, _, rfl, rfl, SqL.of ht2, at_of (j := m.1.1) rfl (lst_get (by omega)), ?_⟩
    refine ⟨_, rfl, rfl, _, rfl, ?_⟩
    rw [decInt]
    by_cases c : gd f m.1.1 = 0
    · rw [decide_eq_true c]
      refine iteF ?_
      refine ⟨t, _, _, _, rfl, sm.trans sT, ?_⟩
      rw [ht2]
      unfold Ln.fstep
      rw [if_pos c]
    · rw [decide_eq_false c]
      refine iteT ?_
      have gb := hfb _ (List.mem_of_getElem? (get_gd (l := f) (i := m.1.1) (by omega)))
      have hrow2 := sT _ _ hrow
      refine ⟨_, rfl, _, rfl, t, m.2, f.map V.int, m.1.2.map V.int, rfl, SqL.of ht2, SqL.of hrow2, fun D hD => lc_F (Mz.walk2 (K := K) (p := true) (q := true) (a := t) (b := m.2) (xs := f.map V.int) (ys := m.1.2.map V.int) (n := n + 1) (by rw [List.length_map, List.length_map, hfl, hmlen, Nat.min_self])) (fun k => V.int ((gd f k - gd f m.1.1 * gd m.1.2 k) % 97)) (by omega) hD (fun H3 s => ⟨SqL.of (s _ _ ht2), SqL.of (s _ _ hrow2)⟩) ?_ ?_⟩
      · rintro k v H3 H4 hk s4 ⟨T2, x, y, rfl, hT2, rfl, gx, gy⟩ Q' q'
        dsimp only at gx gy
        rw [lst_get (by omega)] at gx gy
        have ex := (Option.some.inj gx).symm
        have ey := (Option.some.inj gy).symm
        subst ex ey
        refine ⟨T2, [.int (gd f k), .int (gd m.1.2 k)], rfl, SqT.of upd_same, rfl, _, _, rfl, _, _, rfl, rfl, rfl, ?_⟩
        exact ⟨_, rfl, _, rfl, _, rfl, _, _, rfl, rfl, .inl ⟨by omega, by omega⟩, _, _, rfl, rfl, _, _, rfl, rfl, by show (0:Int) < _; decide, q' _ (same_upd hT2)⟩
      · intro H3 s3 hd
        refine ⟨D, _, _, _, rfl, sm.trans (sT.trans s3), ?_⟩
        rw [hd, ofF_vals]
        unfold Ln.fstep Ln.sub
        rw [if_neg c, hfl]
  · rintro σ H1 ⟨t, v2, v3, v4, rfl, sm, ht⟩
    rw [List.length_map, List.take_length] at ht
    have htd : t ≠ d := fun z => by
      rw [z, sm _ _ upd_same] at ht
      cases ht
    exact ⟨sm _ _ upd_same, _, rfl, q t _ (unlock_same sm hL.dict) (by rw [upd_ne htd]; exact ht)⟩
/-! ### first_place: slots 0 equation, 1 place, 2 number -/

theorem ok_first_place (T : Txt K mg A) : FnOk P w K mg base CX0 1 A.f_first_place A.d_first_place ["equation"] (sp_first_place K) := by
  refine T.F_first_place.ok sc_first_place (fun vs H Q E h => by first | (obtain ⟨_, rfl, _⟩ := h; rfl) | (obtain ⟨_, _, rfl, _⟩ := h; rfl) | (obtain ⟨_, _, _, rfl, _⟩ := h; rfl) | (obtain ⟨_, _, _, _, rfl, _⟩ := h; rfl) | (obtain ⟨_, _, _, _, _, rfl, _⟩ := h; rfl) | (obtain ⟨_, _, _, _, _, _, rfl, _⟩ := h; rfl) | (obtain ⟨_, _, _, _, _, _, _, rfl, _⟩ := h; rfl)) (fun cdv AA outer s H vs Q E hr h => ?_)
  refine ⟨_, (pss_cons (ps_for PassesOwn.never rfl (pi_enum (by rfl) T.z_enumerate (pa_cons (pv 0) pa_nil)) (pg_tup rfl (pgs_cons (pg_name (i := 1) sc_first_place.nd rfl (.inl rfl)) (pgs_cons (pg_name (i := 2) sc_first_place.nd rfl (.inl rfl)) pgs_nil)))
        (pss_one (ps_if (pt_cmpR op_ne (pv 2) pe_int (nomark _)) (pss_one (ps_ret (pv 1))) pss_nil)))
      (pss_one (ps_ret pe_non))), ?_⟩
  obtain ⟨e, eq, rfl, he, q⟩ := h
  refine ⟨_, rfl, e, _, rfl, SqL.of he, for_it (walk_enum (K := K) (a := e) (xs := eq.map V.int)) (fun i σ H' => ∃ (v1 v2 : Option V), σ = [some (.ref e), v1, v2] ∧ Same H H' ∧ ∀ k, k < i → gd eq k = 0) ⟨none, none, rfl, Same.refl _, fun k hk => absurd hk (Nat.not_lt_zero k)⟩ (fun i σ H' _ ⟨_, _, _, sm, _⟩ => SqL.of (sm _ _ he)) ?_ ?_⟩
  · rintro i x σ H1 H2 hi ⟨v1, v2, rfl, sm, hz⟩ ⟨T, x, y, rfl, hT, rfl, gx, gy⟩
    rw [List.length_map] at hi
    dsimp only at gx gy
    rw [lst_get hi] at gy
    have ex := (Option.some.inj gx).symm
    have ey := (Option.some.inj gy).symm
    subst ex ey
    have sT := same_upd (o := .tup [V.int (i : Int), V.int (gd eq i)]) hT
    refine ⟨T, [.int (i : Int), .int (gd eq i)], rfl, SqT.of upd_same, rfl, _, _, rfl, _, _, rfl, rfl, ?_⟩
    refine ⟨_, rfl, rfl, _, rfl, ?_⟩
    rw [decInt]
    by_cases c : gd eq i = 0
    · rw [decide_eq_true c]
      refine iteF ?_
      refine ⟨_, _, rfl, sm.trans sT, fun k hk => ?_⟩
      rcases Nat.lt_succ_iff_lt_or_eq.mp hk with h | h
      · exact hz k h
      · rw [h]
        exact c
    · rw [decide_eq_false c]
      refine iteT ?_
      exact ⟨_, rfl, (q _ (sm.trans sT)).2 i (firstP_some hi hz c)⟩
  · rintro σ H1 ⟨v1, v2, rfl, sm, hz⟩
    rw [List.length_map] at hz
    exact (q H1 sm).1 (firstP_none hz)
/-! ### one_at: slots 0 equation, 1 place, 2 times, 3 number -/

theorem ok_one_at (T : Txt K mg A) : FnOk P w K mg base CX0 2 A.f_one_at A.d_one_at ["equation", "place"] (sp_one_at K) := by
  refine T.F_one_at.ok sc_one_at (fun vs H Q E h => by first | (obtain ⟨_, rfl, _⟩ := h; rfl) | (obtain ⟨_, _, rfl, _⟩ := h; rfl) | (obtain ⟨_, _, _, rfl, _⟩ := h; rfl) | (obtain ⟨_, _, _, _, rfl, _⟩ := h; rfl) | (obtain ⟨_, _, _, _, _, rfl, _⟩ := h; rfl) | (obtain ⟨_, _, _, _, _, _, rfl, _⟩ := h; rfl) | (obtain ⟨_, _, _, _, _, _, _, rfl, _⟩ := h; rfl)) (fun cdv AA outer s H vs Q E hr h => ?_)
  refine ⟨_, (pss_cons (ps_set (i := 2) sc_one_at.nd rfl (.inr rfl) (pe_call (ok_inverse T) (hr.mono (by decide)) (by rfl) T.g_inverse T.k_inverse T.b_inverse .nil passL (pa_cons (pe_ix ix_list (pv 0) (pv 1) (fun _ _ => rfl)) pa_nil)))
      (pss_one (ps_ret (pe_lc (own := [("number", 3)]) (g := gName 3)  rfl sc_one_at.nd (pi_list (pv 0)) (blkOk_by (own := [("number", 3)]) (N := ["equation", "place", "times", "number"]) (sc := defScope s_one_at) (by decide +kernel)) (fun _ _ _ _ _ => pg_name (i := 3) sc_one_at.nd rfl (Or.inl rfl)) (fun _ _ _ _ _ => pts_nil) (fun _ _ _ _ _ => (pe_op op_mod (pe_op op_mul (pv 3) (pv 2)) (pe_glob (v := .int 97) rfl T.c_WHEEL ⟨_, rfl⟩))))))), ?_⟩
  obtain ⟨e, eq, p, rfl, he, hp, hl, hne, q⟩ := h
  refine ⟨_, rfl, _, rfl, e, _, _, _, rfl, rfl, SqL.of he, at_of (j := p) rfl (lst_get hp), gd eq p, rfl, fun z => absurd z hne, fun _ g g0 g1 g2 => ?_⟩
  refine ⟨_, rfl, e, rfl, ⟨_, SqL.of he⟩, fun D hD => lc_F (walk_list (K := K) (a := e) (xs := eq.map V.int)) (fun k => V.int (gd eq k * g % 97)) (by rw [List.length_map]; omega) hD (fun _ s => SqL.of (s _ _ he)) ?_ fun H1 s1 hd => ?_⟩
  · rintro k x H2 H3 hk s2 ⟨rfl, gx⟩ Q' q'
    rw [List.length_map] at hk
    rw [lst_get hk] at gx
    have ex := (Option.some.inj gx).symm
    subst ex
    exact ⟨rfl, _, rfl, _, rfl, _, _, rfl, rfl, .inr ⟨by omega, by omega⟩, _, _, rfl, rfl, by show (0:Int) < _; decide, q' _ (Same.refl _)⟩
  rw [List.length_map, ofF_vals] at hd
  exact q g D H1 g0 g1 g2 s1 hD hd
/-! ### read_back: slots 0 many, 1 leaders, 2 found, 3 place, 4 leader, 5 others, 6 other -/

theorem ok_read_back (T : Txt K mg A) : FnOk P w K mg base CX0 1 A.f_read_back A.d_read_back ["many", "leaders"] (sp_read_back K) := by
  refine T.F_read_back.ok sc_read_back (fun vs H Q E h => by first | (obtain ⟨_, rfl, _⟩ := h; rfl) | (obtain ⟨_, _, rfl, _⟩ := h; rfl) | (obtain ⟨_, _, _, rfl, _⟩ := h; rfl) | (obtain ⟨_, _, _, _, rfl, _⟩ := h; rfl) | (obtain ⟨_, _, _, _, _, rfl, _⟩ := h; rfl) | (obtain ⟨_, _, _, _, _, _, rfl, _⟩ := h; rfl) | (obtain ⟨_, _, _, _, _, _, _, rfl, _⟩ := h; rfl)) (fun cdv AA outer s H vs Q E hr h => ?_)
  refine ⟨_, (pss_cons (ps_set (i := 2) sc_read_back.nd rfl (.inr rfl) pe_dnewK)
      (pss_cons (ps_for PassesOwn.never rfl (RT.pi_revA (by rfl) T.z_reversed (pe_callTy (call_listD rfl) (by rfl) T.z_list (by decide +kernel) (pa_cons (pv 1) pa_nil))) (pg_name (i := 3) sc_read_back.nd rfl (.inl rfl))
        (pss_cons (ps_set (i := 4) sc_read_back.nd rfl (.inr rfl) (pe_dget (hu_of hr) (pv 1) (pv 3) (fun _ _ => rfl)))
        (pss_cons (ps_set (i := 5) sc_read_back.nd rfl (.inl rfl) (pe_callB (cr_sum rfl) (by rfl) T.z_sum (by decide +kernel) (pa_cons (pe_lock (pe_lc (own := [("other", 6)]) (g := gName 6)  rfl sc_read_back.nd (pi_keys (pv 2)) (blkOk_by (own := [("other", 6)]) (N := ["many", "leaders", "found", "place", "leader", "others", "other"]) (sc := defScope s_read_back) (by decide +kernel)) (fun _ _ _ _ _ => pg_name (i := 6) sc_read_back.nd rfl (Or.inl rfl)) (fun _ _ _ _ _ => pts_nil) (fun _ _ _ _ _ => (pe_op op_mul (pe_ix (ix_listK (K := K) rfl) (pv 4) (pv 6) (fun _ _ => rfl)) (pe_dget (hu_of hr) (pv 2) (pv 6) (fun _ _ => rfl)))))) pa_nil)))
        (pss_one (ps_dput (hu_of hr) (pv 2) (pv 3) (pe_op op_mod (pe_op op_sub (pe_ix ix_list (pv 4) (pv 0) (fun _ _ => rfl)) (pv 5)) (pe_glob (v := .int 97) rfl T.c_WHEEL ⟨_, rfl⟩)) rfl)))))
      (pss_one (ps_ret (pe_callTy call_tuple_of (by rfl) T.z_tuple (by decide +kernel) (pa_cons (pe_lc (own := [("place", 3)]) (g := gName 3)  rfl sc_read_back.nd (pi_range1 (by rfl) T.z_range (pa_cons (pv 0) pa_nil)) (blkOk_by (own := [("place", 3)]) (N := ["many", "leaders", "found", "place", "leader", "others", "other"]) (sc := defScope s_read_back) (by decide +kernel)) (fun _ _ _ _ _ => pg_name (i := 3) sc_read_back.nd rfl (Or.inl rfl)) (fun _ _ _ _ _ => pts_nil) (fun _ _ _ _ _ => (pe_dget (hu_of hr) (pv 2) (pv 3) (fun _ _ => rfl)))) pa_nil)))))), ?_⟩
  obtain ⟨n, d, M, rfl, hL, hled, hn, hn3, q⟩ := h
  intro f hf
  have s0 := same_upd (o := .dK []) hf
  have hL0 := hL.same s0
  have hMl : M.length ≤ n := by
    have := Ln.nd_le n ((M.map (·.1)).map (·.1)) hled.nd fun x hx => by
      obtain ⟨e, he, rfl⟩ := List.mem_map.mp hx
      exact hled.lt e he
    rwa [List.length_map, List.length_map] at this
  refine ⟨_, rfl, d, _, rfl, .inl hL0.dict, fun p hp => ?_⟩
  have ep : (M.map kvL).map (fun kv => kV kv.1) = (M.map fun m => (m.1.1 : Int)).map V.int := by
    rw [List.map_map, List.map_map]
    rfl
  rw [ep]
  have s1 := s0.trans (same_upd (o := .lst ((M.map fun m => (m.1.1 : Int)).map V.int)) hp)
  have hpf : f ≠ p := ne_of_none upd_same hp
  refine ⟨p, _, rfl, .inl ⟨SqL.of upd_same, RT.for_Itv (K := K) (a := p) (xs := (M.map fun m => (m.1.1 : Int)).map V.int) (fun i σ H' => ∃ (v3 v4 v5 : Option V), σ = [some (.int (n : Int)), some (.ref d), some (.ref f), v3, v4, v5, none] ∧ Same H H' ∧ H' f = some (.dK (kvF n ((M.map (·.1)).drop (M.length - i)))) ∧ H' p = some (.lst ((M.map fun m => (m.1.1 : Int)).map V.int))) ⟨none, none, none, rfl, s1, by rw [upd_ne hpf, Nat.sub_zero, List.drop_of_length_le (by rw [List.length_map]; exact Nat.le_refl _)]; exact upd_same, upd_same⟩ (fun i σ H' ⟨_, _, _, _, _, _, h⟩ => SqL.of h) ?_ ?_⟩⟩
  · rintro i y σ H1 hi hy ⟨v3, v4, v5, rfl, sm, hfd, hpd⟩
    rw [List.length_map, List.length_map] at hi hy
    have hj : M.length - 1 - i < M.length := by omega
    have gm : M[M.length - 1 - i]? = some M[M.length - 1 - i] := List.getElem?_eq_getElem hj
    have hmem : M[M.length - 1 - i] ∈ M := List.getElem_mem hj
    rw [List.getElem?_map, List.getElem?_map, gm] at hy
    have ey := (Option.some.inj hy).symm
    have edrop : (M.map (·.1)).drop (M.length - (i + 1)) = M[M.length - 1 - i].1 :: (M.map (·.1)).drop (M.length - i) := by
      rw [show M.length - (i + 1) = M.length - 1 - i by omega, List.drop_eq_getElem_cons (by rw [List.length_map]; exact hj), List.getElem_map, show M.length - 1 - i + 1 = M.length - i by omega]
    have hledS := Led.drop (M.length - (i + 1)) hled
    rw [edrop] at hledS
    rw [edrop]
    have hLrow := hL.rows _ hmem
    have hval := valV_lead M hled.nd hmem
    generalize M[M.length - 1 - i] = m at *
    subst ey
    have hlt := hledS.lt _ List.mem_cons_self
    have hlen := hledS.len _ List.mem_cons_self
    have hbd := hledS.bd _ List.mem_cons_self
    have hnd := List.nodup_cons.mp hledS.nd
    have hltS := hledS.tail.lt
    generalize (M.map (·.1)).drop (M.length - i) = S at *
    have hr1 := sm _ _ hLrow
    -- leader
    refine ⟨_, rfl, _, rfl, d, _, rfl, .inl ⟨M.map kvL, Sum.inl (m.1.1 : Int), .inl (sm _ _ hL.dict), rfl, hval.symm⟩, ?_⟩
    -- others
    refine ⟨f, _, hfd, trivial, fun od => ?_⟩
    have hfr : m.2 ≠ f := fun z => by
      rw [z, hfd] at hr1
      cases hr1
    have hr2 : (upd H1 f (.frz od (.dK (kvF n S)))) m.2 = some (.lst (m.1.2.map V.int)) := by rw [upd_ne hfr]; exact hr1
    have hkl : (kvF n S).length = S.length := by
      unfold kvF
      rw [List.length_map, List.length_reverse, List.length_map]
    have hSl : S.length ≤ 300 := by
      have := Ln.nd_le n (S.map (·.1)) hnd.2 fun x hx => by
        obtain ⟨e, he, rfl⟩ := List.mem_map.mp hx
        exact hltS e he
      rw [List.length_map] at this
      omega
    refine ⟨_, rfl, f, od, rfl, .inl ⟨_, upd_same, fun D hD => lc_F (walk_keys (d := f) (o := od) (kvs := kvF n S)) (fun j => V.int (gd m.1.2 ((S.map (·.1)).reverse.getD j 0) * back n S ((S.map (·.1)).reverse.getD j 0))) (by omega) hD (fun H2 s => s _ _ upd_same) ?_ fun H2 s2 hd2 => ?_⟩⟩
    · rintro j x H2 H3 hj s2 ⟨rfl, k, v, hkv, rfl⟩ Q' q'
      unfold kvF at hkv
      rw [List.getElem?_map] at hkv
      rw [hkl] at hj
      obtain ⟨kk, gk⟩ : ∃ kk, (S.map (·.1)).reverse[j]? = some kk := ⟨_, List.getElem?_eq_getElem (by rw [List.length_reverse, List.length_map]; exact hj)⟩
      rw [gk] at hkv
      have ek : k = Sum.inl (kk : Int) := (congrArg Prod.fst (Option.some.inj hkv)).symm
      rw [List.getD_eq_getElem?_getD, gk] at q'
      have hkm := List.mem_of_getElem? gk
      subst ek
      obtain ⟨l, hl, rfl⟩ := List.mem_map.mp (List.mem_reverse.mp hkm)
      have hkk := hltS l hl
      have bb := hbd _ (List.mem_of_getElem? (get_gd (l := m.1.2) (i := l.1) (by omega)))
      refine ⟨rfl, _, rfl, _, rfl, m.2, _, _, _, rfl, rfl, SqL.of (s2 _ _ hr2), at_of (j := l.1) rfl (lst_get (by omega)), ?_⟩
      refine ⟨_, rfl, _, rfl, f, _, rfl, .inl ⟨kvF n S, Sum.inl (l.1 : Int), .inr ⟨od, s2 _ _ upd_same⟩, rfl, (valV_keys (fun k => V.int (back n S k)) _ hkm).symm⟩, ?_⟩
      exact ⟨_, _, rfl, rfl, .inl ⟨by omega, by omega⟩, q' _ (Same.refl _)⟩
    refine ⟨s2 _ _ upd_same, ?_⟩
    have hDf : D ≠ f := fun z => by
      rw [z, upd_same] at hD
      cases hD
    have su := unlock_same s2 hfd
    have hd3 : (upd H2 f (.dK (kvF n S))) D = some (.lst ((List.range (kvF n S).length).map fun j => V.int (gd m.1.2 ((S.map (·.1)).reverse.getD j 0) * back n S ((S.map (·.1)).reverse.getD j 0)))) := by rw [upd_ne hDf]; exact hd2
    rw [ofF_vals] at hd3
    have esum : (ofF (kvF n S).length fun j => gd m.1.2 ((S.map (·.1)).reverse.getD j 0) * back n S ((S.map (·.1)).reverse.getD j 0)).sum = dot n (gd m.1.2) (back n S) := by
      rw [← Ln.dot_keys (S.map (·.1)).reverse (back n S) ((List.reverse_perm _).nodup_iff.mpr hnd.2) (fun k hk => by
        obtain ⟨l, hl, rfl⟩ := List.mem_map.mp (List.mem_reverse.mp hk)
        exact hltS l hl) (fun r hr => Ln.back_out n S r fun z => hr (List.mem_reverse.mpr z))]
      congr 1
      refine List.ext_getElem? fun j => ?_
      by_cases c : j < S.length
      · rw [ofF_get _ (by omega), List.getElem?_map, List.getD_eq_getElem?_getD, List.getElem?_eq_getElem (by rw [List.length_reverse, List.length_map]; exact c)]
        rfl
      · rw [List.getElem?_eq_none (by rw [ofF_len]; omega), List.getElem?_eq_none (by rw [List.length_map, List.length_reverse, List.length_map]; omega)]
    have hr3 : (upd H2 f (.dK (kvF n S))) m.2 = some (.lst (m.1.2.map V.int)) := su _ _ hr1
    refine ⟨D, _, rfl, SqL.of hd3, ?_⟩
    rw [esum]
    -- found
    refine ⟨_, rfl, _, rfl, m.2, _, _, _, rfl, rfl, SqL.of hr3, at_of (j := n) rfl (lst_get (by omega)), _, rfl, _, _, rfl, rfl, _, _, rfl, rfl, by show (0:Int) < _; decide, _, rfl, _, rfl, f, _, rfl, DPut.k (k := Sum.inl (m.1.1 : Int)) upd_same (Nat.lt_of_lt_of_le (by rw [hkl]; omega : (kvF n S).length < 1000) (by decide)), ?_⟩
    refine ⟨_, _, _, rfl, (sm.trans su).mut hf, ?_, ?_⟩
    · have hno : valV (kvF n S) (Sum.inl (m.1.1 : Int)) = none := valV_no _ _ fun z => hnd.1 (List.mem_reverse.mp z)
      rw [upd_same, putK_new _ hno, kvF_cons hnd.1]
    · rw [upd_ne hpf.symm]
      exact su _ _ hpd
  · rintro σ H1 ⟨v3, v4, v5, rfl, sm, hfd, hpd⟩
    rw [List.length_map, List.length_map, Nat.sub_self, List.drop_zero] at hfd
    refine ⟨_, rfl, (n : Int), rfl, by omega, by omega, fun D hD => lc_F (walk_range (lo := 0) (n := ((n : Int)).toNat)) (fun k => V.int (back n (M.map (·.1)) k)) (by omega) hD (fun _ _ => trivial) ?_ fun H2 s2 hd2 => ?_⟩
    · rintro k x H2 H3 hk s2 ⟨rfl, rfl⟩ Q' q'
      have hc := hled.cover (by rw [List.length_map]; exact hn) (q := k) (by omega)
      refine ⟨rfl, _, rfl, _, rfl, f, _, rfl, .inl ⟨kvF n (M.map (·.1)), Sum.inl (k : Int), .inl (s2 _ _ hfd), by show V.int (0 + (k : Int)) = V.int (k : Int); rw [Int.zero_add], (valV_keys (fun k => V.int (back n (M.map (·.1)) k)) _ (List.mem_reverse.mpr hc)).symm⟩, ?_⟩
      exact q' _ (Same.refl _)
    rw [ofF_vals, Int.toNat_natCast] at hd2
    refine ⟨D, _, rfl, .inl ⟨SqL.of hd2, fun t ht => ?_⟩⟩
    exact q t _ (sm.trans (s2.trans (same_upd ht))) ((sm.trans s2).free ht) upd_same
/-! ### solved: slots 0 many, 1 rows, 2 ends, 3 leaders, 4 row, 5 end, 6 equation, 7 place, 8 number -/

theorem ok_solved (T : Txt K mg A) : FnOk P w K mg base CX0 3 A.f_solved A.d_solved ["many", "rows", "ends"] (sp_solved K) := by
  refine T.F_solved.ok sc_solved (fun vs H Q E h => by first | (obtain ⟨_, rfl, _⟩ := h; rfl) | (obtain ⟨_, _, rfl, _⟩ := h; rfl) | (obtain ⟨_, _, _, rfl, _⟩ := h; rfl) | (obtain ⟨_, _, _, _, rfl, _⟩ := h; rfl) | (obtain ⟨_, _, _, _, _, rfl, _⟩ := h; rfl) | (obtain ⟨_, _, _, _, _, _, rfl, _⟩ := h; rfl) | (obtain ⟨_, _, _, _, _, _, _, rfl, _⟩ := h; rfl)) (fun cdv AA outer s H vs Q E hr h => ?_)
  refine ⟨_, (pss_cons (ps_set (i := 3) sc_solved.nd rfl (.inl rfl) pe_dnewK)
      (pss_cons (ps_for PassesOwn.never rfl (Mz.pi_zip2 (p := true) (q := true) (by rfl) T.z_zip (pa_cons (pv 1) (pa_cons (pv 2) pa_nil))) (pg_tup rfl (pgs_cons (pg_name (i := 4) sc_solved.nd rfl (.inl rfl)) (pgs_cons (pg_name (i := 5) sc_solved.nd rfl (.inl rfl)) pgs_nil)))
        (pss_cons (ps_set (i := 6) sc_solved.nd rfl (.inl rfl) (pe_call (ok_freed T) (hr.mono (by decide)) (by rfl) T.g_freed T.k_freed T.b_freed .nil pass0 (pa_cons (pe_lc (own := [("number", 8)]) (g := gName 8)  rfl sc_solved.nd (pi_list (pe_lst (StX.pa_star (pv 4) (pa_cons (pv 5) pa_nil)))) (blkOk_by (own := [("number", 8)]) (N := ["many", "rows", "ends", "leaders", "row", "end", "equation", "place", "number"]) (sc := defScope s_solved) (by decide +kernel)) (fun _ _ _ _ _ => pg_name (i := 8) sc_solved.nd rfl (Or.inl rfl)) (fun _ _ _ _ _ => pts_nil) (fun _ _ _ _ _ => (pe_op op_mod (pv 8) (pe_glob (v := .int 97) rfl T.c_WHEEL ⟨_, rfl⟩)))) (pa_cons (pv 3) pa_nil))))
        (pss_cons (ps_set (i := 7) sc_solved.nd rfl (.inl rfl) (pe_call (ok_first_place T) (hr.mono (by decide)) (by rfl) T.g_first_place T.k_first_place T.b_first_place .nil pass0 (pa_cons (pv 6) pa_nil)))
        (pss_cons (ps_if (pt_cmpR op_eq (pv 7) (pv 0) (nomark _)) (pss_one (ps_ret pe_non)) pss_nil)
        (pss_one (ps_if (pt_cmpR op_notN (pv 7) pe_non (nomark _)) (pss_one (ps_dput (hu_of hr) (pv 3) (pv 7) (pe_call (ok_one_at T) (hr.mono (by decide)) (by rfl) T.g_one_at T.k_one_at T.b_one_at .nil pass0 (pa_cons (pv 6) (pa_cons (pv 7) pa_nil))) rfl)) pss_nil))))))
      (pss_cons (ps_if (pt_cmpR op_lt (pe_callB call_lenD (by rfl) T.z_len PySem.boot_len (pa_cons (pv 3) pa_nil)) (pv 0) (nomark _)) (pss_one (ps_ret pe_non)) pss_nil)
      (pss_one (ps_ret (pe_call (ok_read_back T) (hr.mono (by decide)) (by rfl) T.g_read_back T.k_read_back T.b_read_back .nil pass0 (pa_cons (pv 0) (pa_cons (pv 3) pa_nil)))))))), ?_⟩
  obtain ⟨n, r, e, W, rfl, hr, he, hW, hn, qn, qs⟩ := h
  intro d hd
  have s0 := same_upd (o := .dK []) hd
  refine ⟨_, rfl, _, rfl, r, e, W.map (fun w : Rw => V.ref w.at'), (W.map Rw.fin).map V.int, rfl, s0.seq hr, s0.seq he, for_it (Mz.walk2 (K := K) (p := true) (q := true) (a := r) (b := e) (xs := W.map fun w : Rw => V.ref w.at') (ys := (W.map Rw.fin).map V.int) (n := W.length) (by rw [List.length_map, List.length_map, List.length_map, Nat.min_self])) (fun i σ H' => ∃ (v4 v5 v6 v7 : Option V) (M : List LA), σ = [some (.int (n : Int)), some (.ref r), some (.ref e), some (.ref d), v4, v5, v6, v7, none] ∧ Same H H' ∧ LeadAt H' d M ∧ Led n (M.map (·.1)) ∧ ∀ x, Sol n ((W.take i).map eqn) x ↔ Sat n x (M.map (·.1)))
    ⟨none, none, none, none, [], rfl, s0, ⟨upd_same, fun _ z => nomatch z⟩, ⟨(fun _ z => nomatch z), (fun _ z => nomatch z), (fun _ z => nomatch z), (fun _ z => nomatch z), .nil⟩, fun x => ⟨fun _ _ z => (nomatch z), fun _ _ z => (nomatch z)⟩⟩ (fun i σ H' _ ⟨_, _, _, _, _, _, sm, _⟩ => ⟨sm.seq hr, sm.seq he⟩) ?_ ?_⟩
  · rintro i x σ H1 H2 hi ⟨v4, v5, v6, v7, M, rfl, sm, hL, hled, hsat⟩ ⟨T, x, y, rfl, hT, rfl, gx, gy⟩
    have gw : W[i]? = some W[i] := List.getElem?_eq_getElem hi
    have hmem : W[i] ∈ W := List.getElem_mem hi
    have hWi := hW _ hmem
    dsimp only at gx gy
    rw [List.getElem?_map, gw] at gx
    rw [List.getElem?_map, List.getElem?_map, gw] at gy
    have ex := (Option.some.inj gx).symm
    have ey := (Option.some.inj gy).symm
    subst ex ey
    have htk : (W.take (i + 1)).map eqn = (W.take i).map eqn ++ [eqn W[i]] := by
      rw [List.take_add_one, gw, List.map_append]
      rfl
    have hbad : ∀ x, Sol n (W.map eqn) x → Sol n ((W.take (i + 1)).map eqn) x := fun x hx a ha => by
      obtain ⟨w, hw, rfl⟩ := List.mem_map.mp ha
      exact hx _ (List.mem_map.mpr ⟨w, List.mem_of_mem_take hw, rfl⟩)
    rw [htk] at hbad ⊢
    generalize W[i] = w at *
    have hel : (eqn w).length = n + 1 := by
      show (w.row ++ [w.fin]).length = _
      rw [List.length_append, hWi.2]
      rfl
    have sT := same_upd (o := .tup [V.ref w.at', V.int w.fin]) hT
    refine ⟨T, [.ref w.at', .int w.fin], rfl, SqT.of upd_same, rfl, _, _, rfl, _, _, rfl, rfl, ?_⟩
    -- equation
    have hrow := seqT_same (sm.trans sT) hWi.1
    refine ⟨_, rfl, w.at', _, rfl, .inl hrow, _, rfl, ?_, fun l hl => ?_⟩
    · rw [List.length_append, List.length_map, hWi.2]
      exact Nat.le_trans (by show n + 1 ≤ 1000; omega) (by decide)
    have sl := same_upd (o := .lst (w.row.map V.int ++ [V.int w.fin])) hl
    have eel : w.row.map V.int ++ [V.int w.fin] = (eqn w).map V.int := by
      show _ = (w.row ++ [w.fin]).map V.int
      rw [List.map_append]
      rfl
    refine ⟨l, rfl, ⟨_, SqL.of upd_same⟩, fun D hD => lc_F (walk_list (K := K) (a := l) (xs := (eqn w).map V.int)) (fun k => V.int (gd (eqn w) k % 97)) (by rw [List.length_map]; omega) hD (fun _ s => SqL.of (s _ _ (by rw [← eel]; exact upd_same))) ?_ fun H3 s3 hd3 => ?_⟩
    · rintro k x H4 H5 hk s4 ⟨rfl, gx⟩ Q' q'
      rw [List.length_map] at hk
      rw [lst_get hk] at gx
      have ex := (Option.some.inj gx).symm
      subst ex
      exact ⟨rfl, _, rfl, _, _, rfl, rfl, by show (0:Int) < _; decide, q' _ (Same.refl _)⟩
    rw [List.length_map, ofF_vals, hel] at hd3
    have sA := sT.trans (sl.trans s3)
    have hL3 := hL.same sA
    refine ⟨_, rfl, D, d, ofF (n + 1) fun k => gd (eqn w) k % 97, M, n, rfl, hd3, hL3, hled, ofF_len _ _, hn, fun z hz => ?_, fun t H4 s4 ht => ?_⟩
    · obtain ⟨k, _, rfl⟩ := mem_ofF hz
      exact ⟨Int.emod_nonneg _ (by decide), Int.emod_lt_of_pos _ (by decide)⟩
    have hnext := sat_next hel hsat
    have hfl : (freedL (ofF (n + 1) fun k => gd (eqn w) k % 97) (M.map (·.1))).length = n + 1 := by rw [Ln.freedL_len, ofF_len]
    have hfb := Ln.freedL_bd (M.map (·.1)) (ofF (n + 1) fun k => gd (eqn w) k % 97) fun z hz => by
      obtain ⟨k, _, rfl⟩ := mem_ofF hz
      exact ⟨Int.emod_nonneg _ (by decide), Int.emod_lt_of_pos _ (by decide)⟩
    have hfz := Ln.freedL_zero (M.map (·.1)) (ofF (n + 1) fun k => gd (eqn w) k % 97) (ofF_len _ _) hled
    generalize freedL (ofF (n + 1) fun k => gd (eqn w) k % 97) (M.map (·.1)) = f at *
    have hL4 := hL3.same s4
    have sB := sm.trans (sA.trans s4)
    -- place
    refine ⟨_, rfl, t, f, rfl, ht, fun H5 s5 => ⟨fun hp => ?_, fun p hp => ?_⟩⟩
    · have hz := firstP_all hp
      refine ⟨_, rfl, _, rfl, rfl, _, rfl, iteF ?_⟩
      refine ⟨_, rfl, rfl, _, rfl, iteF ?_⟩
      refine ⟨_, _, _, _, M, rfl, sB.trans s5, hL4.same s5, hled, fun x => (hnext x).trans ⟨fun h => h.1, fun h => ⟨h, ?_⟩⟩⟩
      unfold Ln.Ok
      rw [dot_zero fun q hq => hz q (by omega), hz n (by omega)]
    · have ⟨hpl, hpn, hpz⟩ := firstP_spec hp
      have hpb := hfb _ (List.mem_of_getElem? (get_gd hpl))
      refine ⟨_, rfl, _, rfl, rfl, _, rfl, ?_⟩
      rw [decInt]
      by_cases c : (p : Int) = (n : Int)
      · rw [decide_eq_true c]
        have c' : p = n := by omega
        subst c'
        refine iteT ?_
        refine qn H5 (sB.trans s5) fun x hj => ?_
        have := ((hnext x).mp (hbad x hj.1)).2
        unfold Ln.Ok at this
        rw [dot_zero hpz] at this
        omega
      · rw [decide_eq_false c]
        refine iteF ?_
        have hplt : p < n := by omega
        refine ⟨_, rfl, rfl, _, rfl, iteT ?_⟩
        refine ⟨_, rfl, _, rfl, t, f, p, rfl, s5 _ _ ht, hpl, by omega, by omega, fun g u H6 g0 g1 g2 s6 hu0 hu => ?_⟩
        have hL6 := (hL4.same s5).same s6
        have hno : valV (M.map kvL) (Sum.inl (p : Int)) = none := valV_lead_no M fun z => by
          obtain ⟨a, ha, rfl⟩ := List.mem_map.mp z
          exact hpn (hfz a ha)
        have hsz := Led.size hled
        rw [List.length_map] at hsz
        refine ⟨_, rfl, _, rfl, d, _, rfl, DPut.k (k := Sum.inl (p : Int)) hL6.dict (Nat.lt_of_lt_of_le (by rw [List.length_map]; omega : (M.map kvL).length < 1000) (by decide)), ?_⟩
        have hud : u ≠ d := fun z => by
          rw [z, hL6.dict] at hu
          cases hu
        refine ⟨_, _, _, _, M ++ [((p, times f g), u)], rfl, ((sB.trans s5).trans s6).mut hd, ⟨?_, fun m hm => ?_⟩, ?_, fun x => ?_⟩
        · rw [upd_same, putK_new _ hno, List.map_append]
          rfl
        · rcases List.mem_append.mp hm with hm | hm
          · have h6 := hL6.rows m hm
            rw [upd_ne fun z => by rw [z, hL6.dict] at h6; cases h6]
            exact h6
          · rw [List.mem_singleton.mp hm]
            show upd _ _ _ u = _
            rw [upd_ne hud]
            exact hu
        · rw [List.map_append]
          exact hled.snoc hfl hfz hplt g2
        · rw [hnext x, List.map_append]
          refine (and_congr_right fun _ => (Ln.Ok_times hfl g2).symm).trans ?_
          exact (Sat_snoc (l := (p, times f g))).symm
  · rintro σ H1 ⟨v4, v5, v6, v7, M, rfl, sm, hL, hled, hsat⟩
    rw [List.take_length] at hsat
    refine ⟨_, rfl, d, _, rfl, hL.dict, _, rfl, _, _, rfl, rfl, _, rfl, ite2 (fun c => ?_) (fun c => ?_)⟩
    · have c' := of_decide_eq_true c
      rw [List.length_map] at c'
      exact qn H1 sm fun x => Ln.not_just hled hsat (by rw [List.length_map]; omega) x
    · have c' : n ≤ M.length := by
        have c2 : ¬ (((M.map kvL).length : Int) < (n : Int)) := fun z => c (decide_eq_true z)
        rw [List.length_map] at c2
        omega
      refine ⟨_, rfl, _, rfl, n, d, M, rfl, hL, hled, c', hn, fun t H2 s2 hf2 ht => ?_⟩
      have hj := Ln.is_just hled hsat (by rw [List.length_map]; exact c')
      refine qs t _ H2 (sm.trans s2) (sm.free hf2) ht (ofF_len _ _) (fun z hz => ?_) ⟨fun E hE => ?_, fun y hy q hq => ?_⟩
      · obtain ⟨k, _, rfl⟩ := mem_ofF hz
        exact Ln.back_bd n _ k
      · have := hj.1 E hE
        unfold Ln.Ok at this ⊢
        rwa [Ln.dot_congr (y := back n (M.map (·.1))) fun q hq => gd_ofF _ hq]
      · rw [gd_ofF _ hq]
        exact hj.2 y hy q hq
/-! ### _law_start: slots 0 _law_script, 1 _law_mixed, 2 _law_cell -/

theorem ok__law_start (T : Txt K mg A) : FnOk P w K mg base CX0 1 A.f__law_start A.d__law_start ["_law_script"] (sp__law_start K) := by
  refine T.F__law_start.ok sc__law_start (fun vs H Q E h => by first | (obtain ⟨_, rfl, _⟩ := h; rfl) | (obtain ⟨_, _, rfl, _⟩ := h; rfl) | (obtain ⟨_, _, _, rfl, _⟩ := h; rfl) | (obtain ⟨_, _, _, _, rfl, _⟩ := h; rfl) | (obtain ⟨_, _, _, _, _, rfl, _⟩ := h; rfl) | (obtain ⟨_, _, _, _, _, _, rfl, _⟩ := h; rfl) | (obtain ⟨_, _, _, _, _, _, _, rfl, _⟩ := h; rfl)) (fun cdv AA outer s H vs Q E hr h => ?_)
  refine ⟨_, (pss_cons (ps_set (i := 1) sc__law_start.nd rfl (.inl rfl) pe_int)
      (pss_cons (ps_for PassesOwn.never rfl (pi_list (pv 0)) (pg_name (i := 2) sc__law_start.nd rfl (.inl rfl))
        (pss_one (ps_set (i := 1) sc__law_start.nd rfl (.inl rfl) (pe_op op_mod (pe_op op_add (pe_op op_add (pe_op op_mul (pv 1) pe_int) (pv 2)) pe_int) pe_int))))
      (pss_one (ps_ret (pe_lst (pa_cons (pv 0) (pa_cons pe_int (pa_cons (pv 1) (pa_cons pe_int pa_nil))))))))), ?_⟩
  obtain ⟨a, ns, rfl, hS, q⟩ := h
  refine ⟨_, rfl, a, rfl, ⟨_, hS⟩, for_list (K := K) (a := a) (xs := ns.map V.int) (fun i σ H' => ∃ (m : Int) (v : Option V), σ = [some (.ref a), some (.int m), v] ∧ H' = H) ⟨1, none, rfl, rfl⟩ (fun i σ H' _ ⟨_, _, _, e⟩ => e ▸ hS) ?_ ?_⟩
  · rintro i y σ H' hi ⟨m, v, rfl, rfl⟩
    obtain ⟨z, hz, rfl⟩ := int_at hi
    exact ⟨_, rfl, _, _, rfl, rfl, .inr ⟨by decide, by decide⟩, _, rfl, _, _, rfl, rfl, _, _, rfl, rfl, _, _, rfl, rfl, by show (0:Int) < _; decide, _, _, rfl, rfl⟩
  · rintro σ H' ⟨m, v, rfl, rfl⟩
    refine ⟨_, rfl, _, rfl, by show 4 ≤ sizeLine; decide, fun p hp => ?_⟩
    exact q p _ hp (same_upd hp) ⟨⟨0, m, 0, Int.le_refl 0, upd_same⟩, ns, (same_upd hp).seq hS⟩
/-! ### _law_drawn: slots 0 _law_state, 1 _law_many, 2 _law_found, 3 _law_cell -/

theorem ok__law_drawn (T : Txt K mg A) : FnOk P w K mg base CX0 1 A.f__law_drawn A.d__law_drawn ["_law_state", "_law_many"] (sp__law_drawn K) := by
  refine T.F__law_drawn.ok sc__law_drawn (fun vs H Q E h => by first | (obtain ⟨_, rfl, _⟩ := h; rfl) | (obtain ⟨_, _, rfl, _⟩ := h; rfl) | (obtain ⟨_, _, _, rfl, _⟩ := h; rfl) | (obtain ⟨_, _, _, _, rfl, _⟩ := h; rfl) | (obtain ⟨_, _, _, _, _, rfl, _⟩ := h; rfl) | (obtain ⟨_, _, _, _, _, _, rfl, _⟩ := h; rfl) | (obtain ⟨_, _, _, _, _, _, _, rfl, _⟩ := h; rfl)) (fun cdv AA outer s H vs Q E hr h => ?_)
  refine ⟨_, (pss_cons (ps_if (pt_cmpR op_gt (pe_ix ix_list (pv 0) pe_int (fun _ _ => rfl)) pe_int (nomark _)) (pss_cons (ps_set (i := 2) sc__law_drawn.nd rfl (.inl rfl) (pe_op op_mod (pe_ix ix_list (pv 0) pe_int (fun _ _ => rfl)) (pv 1)))
        (pss_cons (ps_asg (pe_op op_fdivW (pe_ix ix_list (pv 0) pe_int (fun _ _ => rfl)) (pv 1)) (pg_sub (pv 0) pe_int set_list))
        (pss_one (ps_ret (pv 2))))) pss_nil)
      (pss_cons (ps_asg (pe_op op_add (pe_ix ix_list (pv 0) pe_int (fun _ _ => rfl)) pe_int) (pg_sub (pv 0) pe_int set_list))
      (pss_cons (ps_if (pt_cmpR op_le (pe_ix ix_list (pv 0) pe_int (fun _ _ => rfl)) (pe_callB call_len_seq (by rfl) T.z_len PySem.boot_len (pa_cons (pe_ix ix_list (pv 0) pe_int (fun _ _ => rfl)) pa_nil)) (nomark _)) (pss_cons (ps_set (i := 3) sc__law_drawn.nd rfl (.inl rfl) (pe_ix ix_list (pe_ix ix_list (pv 0) pe_int (fun _ _ => rfl)) (pe_op op_sub (pe_ix ix_list (pv 0) pe_int (fun _ _ => rfl)) pe_int) (fun _ _ => rfl)))
        (pss_cons (ps_asg (pe_ifExp (pt_cmpR op_ge (pv 3) (pe_op op_pow pe_int pe_int) (nomark _)) (pe_op op_fdivW (pv 3) (pv 1)) pe_int) (pg_sub (pv 0) pe_int set_list))
        (pss_one (ps_ret (pe_op op_mod (pv 3) (pv 1)))))) pss_nil)
      (pss_cons (ps_asg (pe_op op_mod (pe_op op_add (pe_op op_mul (pe_ix ix_list (pv 0) pe_int (fun _ _ => rfl)) pe_int) pe_int) pe_int) (pg_sub (pv 0) pe_int set_list))
      (pss_one (ps_ret (pe_op op_mod (pe_op op_fdiv (pe_ix ix_list (pv 0) pe_int (fun _ _ => rfl)) pe_int) (pv 1)))))))), ?_⟩
  obtain ⟨a, st, n, rfl, hS, hn, hnb, q⟩ := h
  obtain ⟨⟨i, m, r, hi, hs⟩, ns, hns⟩ := id hS
  -- if state[3] > 0
  refine ⟨_, rfl, st, _, 3, _, rfl, rfl, SqL.of hs, atI_nat (j := 3) rfl, _, _, rfl, rfl, _, rfl, ite2 (fun c => ?_) (fun c => ?_)⟩
  · refine ⟨_, rfl, st, _, 3, _, rfl, rfl, SqL.of hs, atI_nat (j := 3) rfl, _, rfl, _, _, rfl, rfl, hn, ?_⟩
    refine ⟨_, rfl, st, _, 3, _, rfl, rfl, SqL.of hs, atI_nat (j := 3) rfl, _, rfl, _, _, rfl, rfl, wide_div hn hnb (by decide) (by decide), ?_⟩
    refine ⟨_, rfl, st, _, 3, 3, rfl, rfl, hs, rfl, ?_⟩
    exact ⟨_, rfl, q _ _ (Int.emod_nonneg _ (by omega)) (Int.emod_lt_of_pos _ hn) (Go.upd (r := r / n) (m := m) hS hi)⟩
  · -- state[1] = state[1] + 1
    refine ⟨_, rfl, st, _, 1, _, rfl, rfl, SqL.of hs, atI_nat (j := 1) rfl, _, _, rfl, rfl, ?_⟩
    refine ⟨_, rfl, st, _, 1, 1, rfl, rfl, hs, rfl, ?_⟩
    have g1 : Go K st H (upd H st (.lst [.ref a, .int (i + 1), .int m, .int r])) := Go.upd hS (by omega)
    have hS1 := g1.st _ hS
    have hs1 : (upd H st (.lst [.ref a, .int (i + 1), .int m, .int r])) st = some (.lst [.ref a, .int (i + 1), .int m, .int r]) := upd_same
    obtain ⟨_, ns1, hns1⟩ := id hS1
    -- if state[1] <= len(state[0])
    refine ⟨_, rfl, st, _, 1, _, rfl, rfl, SqL.of hs1, atI_nat (j := 1) rfl, _, rfl, st, _, 0, _, rfl, rfl, SqL.of hs1, atI_nat (j := 0) rfl, a, _, rfl, .inl hns1, _, _, rfl, rfl, _, rfl, ite2 (fun c => ?_) (fun c => ?_)⟩
    · have c2 : i + 1 ≤ (ns1.length : Int) := by
        have := of_decide_eq_true c
        rw [List.length_map] at this
        exact this
      have hlt : i.toNat < ns1.length := by omega
      have hat : atI (ns1.map V.int) (i + 1 - 1) = some (.int ns1[i.toNat]) := at_of (j := i.toNat) (by omega) (by rw [List.getElem?_map, List.getElem?_eq_getElem hlt]; rfl)
      -- cell = state[0][state[1] - 1]
      refine ⟨_, rfl, st, _, 0, _, rfl, rfl, SqL.of hs1, atI_nat (j := 0) rfl, _, rfl, st, _, 1, _, rfl, rfl, SqL.of hs1, atI_nat (j := 1) rfl, _, _, rfl, rfl, a, _, _, _, rfl, rfl, hns1, hat, ?_⟩
      -- state[3] = cell // many if cell >= 10 ** 18 else 0
      refine ⟨_, rfl, _, _, rfl, rfl, ⟨by decide, by decide, by decide⟩, _, _, rfl, rfl, _, rfl, ite2 (fun c3 => ?_) (fun c3 => ?_)⟩
      · refine ⟨_, rfl, _, rfl, _, _, rfl, rfl, wide_div hn hnb (by decide) (by decide), _, rfl, st, _, 3, 3, rfl, rfl, hs1, rfl, ?_⟩
        exact ⟨_, rfl, _, rfl, _, _, rfl, rfl, hn, q _ _ (Int.emod_nonneg _ (by omega)) (Int.emod_lt_of_pos _ hn) (g1.trans (Go.upd (m := m) hS1 (by omega)))⟩
      · refine ⟨_, rfl, st, _, 3, 3, rfl, rfl, hs1, rfl, ?_⟩
        exact ⟨_, rfl, _, rfl, _, _, rfl, rfl, hn, q _ _ (Int.emod_nonneg _ (by omega)) (Int.emod_lt_of_pos _ hn) (g1.trans (Go.upd (m := m) hS1 (by omega)))⟩
    · -- state[2] = (state[2] * 48271 + 11) % 2147483647
      refine ⟨_, rfl, st, _, 2, _, rfl, rfl, SqL.of hs1, atI_nat (j := 2) rfl, _, _, rfl, rfl, .inr ⟨by decide, by decide⟩, _, _, rfl, rfl, _, _, rfl, rfl, by show (0:Int) < _; decide, ?_⟩
      refine ⟨_, rfl, st, _, 2, 2, rfl, rfl, hs1, rfl, ?_⟩
      have g2 := g1.trans (Go.upd (m := (m * 48271 + 11) % 2147483647) (r := r) hS1 (by omega : 0 ≤ i + 1))
      refine ⟨_, rfl, st, _, 2, _, rfl, rfl, SqL.of upd_same, atI_nat (j := 2) rfl, _, _, rfl, rfl, ⟨by decide, by decide⟩, _, rfl, _, _, rfl, rfl, hn, ?_⟩
      exact q _ _ (Int.emod_nonneg _ (by omega)) (Int.emod_lt_of_pos _ hn) g2
/-! ### _law_same: slots 0 _law_found, 1 _law_due, 2 _law_k -/

theorem ok__law_same (T : Txt K mg A) : ∀ n : Nat, FnOk P w K mg base CX0 (n + 1) A.f__law_same A.d__law_same ["_law_found", "_law_due"] (sp__law_same K n)
  | 0 => by
    refine T.F__law_same.ok sc__law_same (fun vs H Q E h => by first | (obtain ⟨_, rfl, _⟩ := h; rfl) | (obtain ⟨_, _, rfl, _⟩ := h; rfl) | (obtain ⟨_, _, _, rfl, _⟩ := h; rfl) | (obtain ⟨_, _, _, _, rfl, _⟩ := h; rfl) | (obtain ⟨_, _, _, _, _, rfl, _⟩ := h; rfl) | (obtain ⟨_, _, _, _, _, _, rfl, _⟩ := h; rfl) | (obtain ⟨_, _, _, _, _, _, _, rfl, _⟩ := h; rfl)) (fun cdv AA outer s H vs Q E hr h => ?_)
    refine ⟨_, (pss_cons (ps_if (pt_val (pe_callB call_isi (by rfl) T.z_isinstance (show bootBuiltins "isinstance" = some (.builtin "isinstance") by decide +kernel) (pa_cons (pv 1) (pa_cons (pe_bltn (v := .ty "tuple") (by rfl) T.z_tuple (by decide +kernel) rfl) pa_nil)))) (pss_cons ps_never (pss_one ps_never)) pss_nil)
      (pss_cons (ps_if (pt_cmpR op_isN (pv 1) pe_non (nomark _)) (pss_one (ps_ret (pe_cmpR op_isN (pv 0) pe_non (nomark _)))) pss_nil)
      (pss_cons (ps_if (pt_val (pe_callB call_isi (by rfl) T.z_isinstance (show bootBuiltins "isinstance" = some (.builtin "isinstance") by decide +kernel) (pa_cons (pv 1) (pa_cons (pe_bltn (v := .ty "str") (by rfl) T.z_str (by decide +kernel) rfl) pa_nil)))) (pss_one (ps_ret (pe_and (pe_callB call_isi (by rfl) T.z_isinstance (show bootBuiltins "isinstance" = some (.builtin "isinstance") by decide +kernel) (pa_cons (pv 0) (pa_cons (pe_bltn (v := .ty "str") (by rfl) T.z_str (by decide +kernel) rfl) pa_nil))) (pe_one (pe_cmpR op_eq (pv 0) (pv 1) (nomark _)))))) pss_nil)
      (pss_cons (ps_if (PW.pt (pw_or (pt_val (pe_callB call_isi (by rfl) T.z_isinstance (show bootBuiltins "isinstance" = some (.builtin "isinstance") by decide +kernel) (pa_cons (pv 1) (pa_cons (pe_bltn (v := .ty "bool") (by rfl) T.z_bool (by decide +kernel) rfl) pa_nil)))) (pw_or1 (pt_val (pe_callB call_isi (by rfl) T.z_isinstance (show bootBuiltins "isinstance" = some (.builtin "isinstance") by decide +kernel) (pa_cons (pv 0) (pa_cons (pe_bltn (v := .ty "bool") (by rfl) T.z_bool (by decide +kernel) rfl) pa_nil))))))) (pss_one (ps_ret (pe_and (pe_callB call_isi (by rfl) T.z_isinstance (show bootBuiltins "isinstance" = some (.builtin "isinstance") by decide +kernel) (pa_cons (pv 1) (pa_cons (pe_bltn (v := .ty "bool") (by rfl) T.z_bool (by decide +kernel) rfl) pa_nil))) (pe_and (pe_callB call_isi (by rfl) T.z_isinstance (show bootBuiltins "isinstance" = some (.builtin "isinstance") by decide +kernel) (pa_cons (pv 0) (pa_cons (pe_bltn (v := .ty "bool") (by rfl) T.z_bool (by decide +kernel) rfl) pa_nil))) (pe_one (pe_cmpR op_eq (pv 0) (pv 1) (nomark _))))))) pss_nil)
      (pss_one (ps_ret (pe_and (pe_callB call_isi (by rfl) T.z_isinstance (show bootBuiltins "isinstance" = some (.builtin "isinstance") by decide +kernel) (pa_cons (pv 0) (pa_cons (pe_bltn (v := .ty "int") (by rfl) T.z_int (by decide +kernel) rfl) pa_nil))) (pe_one (pe_cmpR op_eq (pv 0) (pv 1) (nomark _)))))))))), ?_⟩
    obtain ⟨x, y, rfl, e, q⟩ := h
    cases e with
    | non =>
      refine ⟨_, rfl, _, _, _, _, false, rfl, .ty "tuple", .base .non, kit_ty (by decide +kernel), _, rfl, iteF ?_⟩
      refine ⟨_, rfl, rfl, _, rfl, iteT ?_⟩
      exact ⟨_, rfl, rfl, q H (Same.refl _)⟩
    | bl b =>
      refine ⟨_, rfl, _, _, _, _, false, rfl, .ty "tuple", .base (.bl _), kit_ty (by decide +kernel), _, rfl, iteF ?_⟩
      refine ⟨_, rfl, rfl, _, rfl, iteF ?_⟩
      refine ⟨_, rfl, _, _, _, _, false, rfl, .ty "str", .base (.bl _), kit_ty (by decide +kernel), _, rfl, iteF ?_⟩
      refine ⟨_, rfl, _, _, _, _, true, rfl, .ty "bool", .base (.bl _), kit_ty (by decide +kernel), _, rfl, iteT ?_⟩
      refine iteT ?_
      refine ⟨_, rfl, _, _, _, _, true, rfl, .ty "bool", .base (.bl _), kit_ty (by decide +kernel), _, rfl, iteT ?_⟩
      refine ⟨_, rfl, _, _, _, _, true, rfl, .ty "bool", .base (.bl _), kit_ty (by decide +kernel), _, rfl, iteT ?_⟩
      refine ⟨_, rfl, _, rfl, rfl, ?_⟩
      rw [decide_eq_true rfl]
      exact q H (Same.refl _)
    | int i =>
      refine ⟨_, rfl, _, _, _, _, false, rfl, .ty "tuple", .base (.int _), kit_ty (by decide +kernel), _, rfl, iteF ?_⟩
      refine ⟨_, rfl, rfl, _, rfl, iteF ?_⟩
      refine ⟨_, rfl, _, _, _, _, false, rfl, .ty "str", .base (.int _), kit_ty (by decide +kernel), _, rfl, iteF ?_⟩
      refine ⟨_, rfl, _, _, _, _, false, rfl, .ty "bool", .base (.int _), kit_ty (by decide +kernel), _, rfl, iteF ?_⟩
      refine ⟨_, rfl, _, _, _, _, false, rfl, .ty "bool", .base (.int _), kit_ty (by decide +kernel), _, rfl, iteF ?_⟩
      refine ⟨_, rfl, _, _, _, _, true, rfl, .ty "int", .base (.int _), kit_ty (by decide +kernel), _, rfl, iteT ?_⟩
      refine ⟨_, rfl, _, rfl, rfl, ?_⟩
      rw [decide_eq_true rfl]
      exact q H (Same.refl _)
    | str z =>
      refine ⟨_, rfl, _, _, _, _, false, rfl, .ty "tuple", .base (.str _), kit_ty (by decide +kernel), _, rfl, iteF ?_⟩
      refine ⟨_, rfl, rfl, _, rfl, iteF ?_⟩
      refine ⟨_, rfl, _, _, _, _, true, rfl, .ty "str", .base (.str _), kit_ty (by decide +kernel), _, rfl, iteT ?_⟩
      refine ⟨_, rfl, _, _, _, _, true, rfl, .ty "str", .base (.str _), kit_ty (by decide +kernel), _, rfl, iteT ?_⟩
      refine ⟨_, rfl, _, rfl, rfl, ?_⟩
      rw [decide_eq_true rfl]
      exact q H (Same.refl _)
  | n + 1 => by
    have IH := ok__law_same T n
    refine T.F__law_same.ok sc__law_same (fun vs H Q E h => by first | (obtain ⟨_, rfl, _⟩ := h; rfl) | (obtain ⟨_, _, rfl, _⟩ := h; rfl) | (obtain ⟨_, _, _, rfl, _⟩ := h; rfl) | (obtain ⟨_, _, _, _, rfl, _⟩ := h; rfl) | (obtain ⟨_, _, _, _, _, rfl, _⟩ := h; rfl) | (obtain ⟨_, _, _, _, _, _, rfl, _⟩ := h; rfl) | (obtain ⟨_, _, _, _, _, _, _, rfl, _⟩ := h; rfl)) (fun cdv AA outer s H vs Q E hr h => ?_)
    refine ⟨_, (pss_cons (ps_if (pt_val (pe_callB call_isi (by rfl) T.z_isinstance (show bootBuiltins "isinstance" = some (.builtin "isinstance") by decide +kernel) (pa_cons (pv 1) (pa_cons (pe_bltn (v := .ty "tuple") (by rfl) T.z_tuple (by decide +kernel) rfl) pa_nil)))) (pss_cons (ps_if (PW.pt (pw_or (pt_not (pt_val (pe_callB call_isi (by rfl) T.z_isinstance (show bootBuiltins "isinstance" = some (.builtin "isinstance") by decide +kernel) (pa_cons (pv 0) (pa_cons (pe_bltn (v := .ty "tuple") (by rfl) T.z_tuple (by decide +kernel) rfl) pa_nil))))) (pw_or1 (pt_cmpR op_ne (pe_callB call_len_seq (by rfl) T.z_len PySem.boot_len (pa_cons (pv 0) pa_nil)) (pe_callB call_len_seq (by rfl) T.z_len PySem.boot_len (pa_cons (pv 1) pa_nil)) (nomark _))))) (pss_one (ps_ret pe_bl)) pss_nil)
        (pss_one (ps_ret (pe_cmpR (op_eqD hr.units) (pe_lc (own := [("_law_k", 2)]) (g := gName 2)  rfl sc__law_same.nd (pi_range1 (by rfl) T.z_range (pa_cons (pe_callB call_len_seq (by rfl) T.z_len PySem.boot_len (pa_cons (pv 1) pa_nil)) pa_nil)) (blkOk_by (own := [("_law_k", 2)]) (N := ["_law_found", "_law_due", "_law_k"]) (sc := defScope s__law_same) (by decide +kernel)) (fun _ _ _ _ _ => pg_name (i := 2) sc__law_same.nd rfl (Or.inl rfl)) (fun _ _ _ _ _ => (pts_one (pt_not (pt_val (pe_call IH hr (by rfl) T.g__law_same T.k__law_same T.b__law_same .nil pass0 (pa_cons (pe_ix (ix_tupK (K := K) rfl) (pv 0) (pv 2) (fun _ _ => rfl)) (pa_cons (pe_ix (ix_tupK (K := K) rfl) (pv 1) (pv 2) (fun _ _ => rfl)) pa_nil))))))) (fun _ _ _ _ _ => (pv 2))) (pe_lst pa_nil) (nomark _))))) pss_nil)
      (pss_cons (ps_if (pt_cmpR op_isN (pv 1) pe_non (nomark _)) (pss_one (ps_ret (pe_cmpR op_isN (pv 0) pe_non (nomark _)))) pss_nil)
      (pss_cons (ps_if (pt_val (pe_callB call_isi (by rfl) T.z_isinstance (show bootBuiltins "isinstance" = some (.builtin "isinstance") by decide +kernel) (pa_cons (pv 1) (pa_cons (pe_bltn (v := .ty "str") (by rfl) T.z_str (by decide +kernel) rfl) pa_nil)))) (pss_one (ps_ret (pe_and (pe_callB call_isi (by rfl) T.z_isinstance (show bootBuiltins "isinstance" = some (.builtin "isinstance") by decide +kernel) (pa_cons (pv 0) (pa_cons (pe_bltn (v := .ty "str") (by rfl) T.z_str (by decide +kernel) rfl) pa_nil))) (pe_one (pe_cmpR op_eq (pv 0) (pv 1) (nomark _)))))) pss_nil)
      (pss_cons (ps_if (PW.pt (pw_or (pt_val (pe_callB call_isi (by rfl) T.z_isinstance (show bootBuiltins "isinstance" = some (.builtin "isinstance") by decide +kernel) (pa_cons (pv 1) (pa_cons (pe_bltn (v := .ty "bool") (by rfl) T.z_bool (by decide +kernel) rfl) pa_nil)))) (pw_or1 (pt_val (pe_callB call_isi (by rfl) T.z_isinstance (show bootBuiltins "isinstance" = some (.builtin "isinstance") by decide +kernel) (pa_cons (pv 0) (pa_cons (pe_bltn (v := .ty "bool") (by rfl) T.z_bool (by decide +kernel) rfl) pa_nil))))))) (pss_one (ps_ret (pe_and (pe_callB call_isi (by rfl) T.z_isinstance (show bootBuiltins "isinstance" = some (.builtin "isinstance") by decide +kernel) (pa_cons (pv 1) (pa_cons (pe_bltn (v := .ty "bool") (by rfl) T.z_bool (by decide +kernel) rfl) pa_nil))) (pe_and (pe_callB call_isi (by rfl) T.z_isinstance (show bootBuiltins "isinstance" = some (.builtin "isinstance") by decide +kernel) (pa_cons (pv 0) (pa_cons (pe_bltn (v := .ty "bool") (by rfl) T.z_bool (by decide +kernel) rfl) pa_nil))) (pe_one (pe_cmpR op_eq (pv 0) (pv 1) (nomark _))))))) pss_nil)
      (pss_one (ps_ret (pe_and (pe_callB call_isi (by rfl) T.z_isinstance (show bootBuiltins "isinstance" = some (.builtin "isinstance") by decide +kernel) (pa_cons (pv 0) (pa_cons (pe_bltn (v := .ty "int") (by rfl) T.z_int (by decide +kernel) rfl) pa_nil))) (pe_one (pe_cmpR op_eq (pv 0) (pv 1) (nomark _)))))))))), ?_⟩
    obtain ⟨x, y, rfl, e, q⟩ := h
    cases e with
    | non =>
      refine ⟨_, rfl, _, _, _, _, false, rfl, .ty "tuple", .base .non, kit_ty (by decide +kernel), _, rfl, iteF ?_⟩
      refine ⟨_, rfl, rfl, _, rfl, iteT ?_⟩
      exact ⟨_, rfl, rfl, q H (Same.refl _)⟩
    | bl _ b =>
      refine ⟨_, rfl, _, _, _, _, false, rfl, .ty "tuple", .base (.bl _), kit_ty (by decide +kernel), _, rfl, iteF ?_⟩
      refine ⟨_, rfl, rfl, _, rfl, iteF ?_⟩
      refine ⟨_, rfl, _, _, _, _, false, rfl, .ty "str", .base (.bl _), kit_ty (by decide +kernel), _, rfl, iteF ?_⟩
      refine ⟨_, rfl, _, _, _, _, true, rfl, .ty "bool", .base (.bl _), kit_ty (by decide +kernel), _, rfl, iteT ?_⟩
      refine iteT ?_
      refine ⟨_, rfl, _, _, _, _, true, rfl, .ty "bool", .base (.bl _), kit_ty (by decide +kernel), _, rfl, iteT ?_⟩
      refine ⟨_, rfl, _, _, _, _, true, rfl, .ty "bool", .base (.bl _), kit_ty (by decide +kernel), _, rfl, iteT ?_⟩
      refine ⟨_, rfl, _, rfl, rfl, ?_⟩
      rw [decide_eq_true rfl]
      exact q H (Same.refl _)
    | int _ i =>
      refine ⟨_, rfl, _, _, _, _, false, rfl, .ty "tuple", .base (.int _), kit_ty (by decide +kernel), _, rfl, iteF ?_⟩
      refine ⟨_, rfl, rfl, _, rfl, iteF ?_⟩
      refine ⟨_, rfl, _, _, _, _, false, rfl, .ty "str", .base (.int _), kit_ty (by decide +kernel), _, rfl, iteF ?_⟩
      refine ⟨_, rfl, _, _, _, _, false, rfl, .ty "bool", .base (.int _), kit_ty (by decide +kernel), _, rfl, iteF ?_⟩
      refine ⟨_, rfl, _, _, _, _, false, rfl, .ty "bool", .base (.int _), kit_ty (by decide +kernel), _, rfl, iteF ?_⟩
      refine ⟨_, rfl, _, _, _, _, true, rfl, .ty "int", .base (.int _), kit_ty (by decide +kernel), _, rfl, iteT ?_⟩
      refine ⟨_, rfl, _, rfl, rfl, ?_⟩
      rw [decide_eq_true rfl]
      exact q H (Same.refl _)
    | str _ z =>
      refine ⟨_, rfl, _, _, _, _, false, rfl, .ty "tuple", .base (.str _), kit_ty (by decide +kernel), _, rfl, iteF ?_⟩
      refine ⟨_, rfl, rfl, _, rfl, iteF ?_⟩
      refine ⟨_, rfl, _, _, _, _, true, rfl, .ty "str", .base (.str _), kit_ty (by decide +kernel), _, rfl, iteT ?_⟩
      refine ⟨_, rfl, _, _, _, _, true, rfl, .ty "str", .base (.str _), kit_ty (by decide +kernel), _, rfl, iteT ?_⟩
      refine ⟨_, rfl, _, rfl, rfl, ?_⟩
      rw [decide_eq_true rfl]
      exact q H (Same.refl _)
    | @tup _ p r xs ys hp hq hl hl2 hE =>
      refine ⟨_, rfl, _, _, _, _, true, rfl, .ty "tuple", .base (.tup hq), kit_ty (by decide +kernel), _, rfl, iteT ?_⟩
      refine ⟨_, rfl, _, _, _, _, true, rfl, .ty "tuple", .base (.tup hp), kit_ty (by decide +kernel), _, rfl, iteF ?_⟩
      refine ⟨_, rfl, p, _, rfl, .inr (SqT.of hp), _, rfl, r, _, rfl, .inr (SqT.of hq), rfl, _, rfl, iteNS (by rw [hl]) ?_⟩
      refine ⟨_, rfl, r, _, rfl, .inr (SqT.of hq), _, rfl, by omega, by omega, fun D hD => lc_pureR (lo := 0) (n := ((ys.length : Nat) : Int).toNat) (fun _ => false) (fun v => v) hD (by omega) (fun _ => rfl) ?_ (fun _ _ z => nomatch z) fun H2 s2 hd => ?_⟩
      · intro k hk H2 s2 Q' q'
        have k1 : k < ys.length := by omega
        have k2 : k < xs.length := by omega
        have gx : xs[k]? = some xs[k] := List.getElem?_eq_getElem k2
        have gy : ys[k]? = some ys[k] := List.getElem?_eq_getElem k1
        refine ⟨_, rfl, _, rfl, p, _, _, _, rfl, rfl, SqT.of (s2 _ _ hp), at_of (j := k) (by omega) gx, _, rfl, _, rfl, r, _, _, _, rfl, rfl, SqT.of (s2 _ _ hq), at_of (j := k) (by omega) gy, ?_⟩
        exact ⟨_, _, rfl, (hE k _ _ gx gy).same s2, fun H3 s3 => ⟨true, rfl, q' H3 s3⟩⟩
      · refine ⟨by show 0 ≤ sizeLine; decide, fun l hl => eqL (ns := []) (ms := []) (SqL.of (by rw [upd_ne (ne_of_none hd hl), hd, filt_no]; rfl)) (SqL.of upd_same) ?_⟩
        exact q _ (s2.trans (same_upd hl))
/-! ### _law_sum: slots 0 _law_state, 1 _law_lines_here, 2 _law_found, 3 _law_line, 4 _law_times, 5 _law_number, 6 _law_one, 7 _law_two -/

theorem ok__law_sum (T : Txt K mg A) : FnOk P w K mg base CX0 2 A.f__law_sum A.d__law_sum ["_law_state", "_law_lines_here"] (sp__law_sum K) := by
  refine T.F__law_sum.ok sc__law_sum (fun vs H Q E h => by first | (obtain ⟨_, rfl, _⟩ := h; rfl) | (obtain ⟨_, _, rfl, _⟩ := h; rfl) | (obtain ⟨_, _, _, rfl, _⟩ := h; rfl) | (obtain ⟨_, _, _, _, rfl, _⟩ := h; rfl) | (obtain ⟨_, _, _, _, _, rfl, _⟩ := h; rfl) | (obtain ⟨_, _, _, _, _, _, rfl, _⟩ := h; rfl) | (obtain ⟨_, _, _, _, _, _, _, rfl, _⟩ := h; rfl)) (fun cdv AA outer s H vs Q E hr h => ?_)
  refine ⟨_, (pss_cons (ps_setLc (i := 2) (own := [("_law_number", 5)]) (g := gName 5)  rfl sc__law_sum.nd rfl rfl (sw_true rfl rfl rfl (by decide +kernel)) (pi_list (pe_ix ix_list (pv 1) pe_int (fun _ _ => rfl))) (blkOk_by (own := [("_law_number", 5)]) (N := ["_law_state", "_law_lines_here", "_law_found", "_law_line", "_law_times", "_law_number", "_law_one", "_law_two"]) (sc := defScope s__law_sum) (by decide +kernel)) (fun _ _ _ _ _ => pg_name (i := 5) sc__law_sum.nd rfl (Or.inl rfl)) (fun _ _ _ _ _ => pts_nil) (fun _ _ _ _ _ => pe_int))
      (pss_cons (ps_for PassesOwn.never rfl (pi_list (pv 1)) (pg_name (i := 3) sc__law_sum.nd rfl (.inl rfl))
        (pss_cons (ps_set (i := 4) sc__law_sum.nd rfl (.inr rfl) (pe_call (ok__law_drawn T) (hr.mono (by decide)) (by rfl) T.g__law_drawn T.k__law_drawn T.b__law_drawn .nil pass0 (pa_cons (pv 0) (pa_cons pe_int pa_nil))))
        (pss_one (ps_setLc (i := 2) (own := [("_law_one", 6), ("_law_two", 7)]) (g := gTup K 2 (gCons (gName 6) (gCons (gName 7) gNil)))  rfl sc__law_sum.nd rfl rfl (sw_true rfl rfl rfl (by decide +kernel)) (Mz.pi_zip2 (p := true) (q := true) (by rfl) T.z_zip (pa_cons (pv 2) (pa_cons (pv 3) pa_nil))) (blkOk_by (own := [("_law_one", 6), ("_law_two", 7)]) (N := ["_law_state", "_law_lines_here", "_law_found", "_law_line", "_law_times", "_law_number", "_law_one", "_law_two"]) (sc := defScope s__law_sum) (by decide +kernel)) (fun _ _ _ _ _ => pg_tup rfl (pgs_cons (pg_name (i := 6) sc__law_sum.nd rfl (.inl rfl)) (pgs_cons (pg_name (i := 7) sc__law_sum.nd rfl (.inl rfl)) pgs_nil))) (fun _ _ _ _ _ => pts_nil) (fun _ _ _ _ _ => (pe_op op_mod (pe_op op_add (pv 6) (pe_op op_mul (pv 4) (pv 7))) pe_int))))))
      (pss_one (ps_ret (pv 2))))), ?_⟩
  obtain ⟨a, st, l, B, n, rfl, hS, hL, hne, hB, hn, hBl, q⟩ := h
  obtain ⟨b0, B', rfl⟩ : ∃ b0 B', B = b0 :: B' := List.exists_cons_of_ne_nil hne
  have hb0 := hB b0 List.mem_cons_self
  have hr0 := hL.rows b0 List.mem_cons_self
  refine ⟨_, rfl, l, _, 0, _, rfl, rfl, SqL.of hL.lst, atI_nat (j := 0) rfl, b0.1, rfl, ⟨_, SqL.of hr0⟩, fun D hD => lc_F (walk_list (K := K) (a := b0.1) (xs := b0.2.map V.int)) (fun _ => V.int 0) (by rw [List.length_map, hb0.1]; omega) hD (fun _ s => SqL.of (s _ _ hr0)) (by rintro k x H2 H3 hk s2 ⟨rfl, gx⟩ Q' q'; exact ⟨rfl, q' _ (Same.refl _)⟩) fun H1 s1 hd => ?_⟩
  rw [List.length_map, hb0.1, ofF_vals (n + 1) fun _ => 0] at hd
  have hzero : LineOk n (ofF (n + 1) fun _ => 0) := ⟨ofF_len _ _, fun z hz => by obtain ⟨i, _, rfl⟩ := mem_ofF hz; decide⟩
  have hL1 := hL.same s1
  have S1 := hS.same s1
  refine ⟨_, rfl, l, rfl, ⟨_, SqL.of hL1.lst⟩, for_list (K := K) (a := l) (xs := (b0 :: B').map fun b => V.ref b.1) (fun i σ H' => ∃ (r : Addr) (F : List Int) (v3 v4 : Option V), σ = [some (.ref st), some (.ref l), some (.ref r), v3, v4, none, none, none] ∧ Go K st H H' ∧ H r = none ∧ H' r = some (.lst (F.map V.int)) ∧ LineOk n F ∧ ∀ x, Sol n ((b0 :: B').map (·.2)) x → Ln.Ok n x (gd F)) ⟨D, _, none, none, rfl, Go.of s1, hD, hd, hzero, fun x _ => by
    unfold Ln.Ok
    rw [dot_zero (L := gd (ofF (n + 1) fun _ => 0)) fun q hq => gd_ofF _ (by omega), gd_ofF _ (by omega)]⟩ (fun i σ H' _ ⟨_, _, _, _, _, g, _⟩ => SqL.of (hL.go g).lst) ?_ ?_⟩
  · rintro i y σ H2 hi ⟨r, F, v3, v4, rfl, g2, hr0', hr, hF, hfol⟩
    obtain ⟨b, hb, rfl⟩ : ∃ b, (b0 :: B')[i]? = some b ∧ y = V.ref b.1 := by
      rw [List.getElem?_map] at hi
      cases e : (b0 :: B')[i]? with
      | none => rw [e] at hi; cases hi
      | some b => rw [e] at hi; exact ⟨b, rfl, (Option.some.inj hi).symm⟩
    have hbm := List.mem_of_getElem? hb
    have hbl := hB b hbm
    have S2 := g2.st _ hS
    have hrs : r ≠ st := hS.fresh hr0'
    refine ⟨_, rfl, a, st, 97, rfl, S2, by decide, nat8000 (by decide) (by decide +kernel), fun t H3 t0 t1 g3 => ?_⟩
    have hr3 := g3.keep _ _ hrs hr
    have hb3 := (hL.go (g2.trans g3)).rows b hbm
    refine ⟨_, rfl, _, rfl, r, b.1, F.map V.int, b.2.map V.int, rfl, SqL.of hr3, SqL.of hb3, fun D2 hD2 => lc_F (Mz.walk2 (K := K) (p := true) (q := true) (a := r) (b := b.1) (xs := F.map V.int) (ys := b.2.map V.int) (n := n + 1) (by rw [List.length_map, List.length_map, hF.1, hbl.1, Nat.min_self])) (fun k => V.int ((gd F k - -t * gd b.2 k) % 97)) (by omega) hD2 (fun H4 s => ⟨SqL.of (s _ _ hr3), SqL.of (s _ _ hb3)⟩) ?_ fun H4 s4 hd4 => ?_⟩
    · rintro k v H4 H5 hk s4 ⟨T2, x, y, rfl, hT2, rfl, gx, gy⟩ Q' q'
      dsimp only at gx gy
      rw [lst_get (by rw [hF.1]; exact hk)] at gx
      rw [lst_get (by rw [hbl.1]; exact hk)] at gy
      have ex := (Option.some.inj gx).symm
      have ey := (Option.some.inj gy).symm
      subst ex ey
      refine ⟨T2, [.int (gd F k), .int (gd b.2 k)], rfl, SqT.of upd_same, rfl, _, _, rfl, _, _, rfl, rfl, rfl, ?_⟩
      refine ⟨_, rfl, _, rfl, _, rfl, _, _, rfl, rfl, .inl ⟨by omega, by omega⟩, _, _, rfl, rfl, _, _, rfl, rfl, by show (0:Int) < _; decide, ?_⟩
      rw [neg_sub] at q'
      exact q' _ (same_upd hT2)
    rw [ofF_vals] at hd4
    have es : (ofF (n + 1) fun k => (gd F k - -t * gd b.2 k) % 97) = Ln.sub F (-t) b.2 := by
      unfold Ln.sub
      rw [hF.1]
    rw [es] at hd4
    have g4 := (g2.trans g3).trans (Go.of s4)
    refine ⟨D2, _, _, _, rfl, g4, (g2.trans g3).free hS hD2, hd4, hF.sub, fun x hx => ?_⟩
    exact (Ln.Ok_sub hF.1 (hx _ (List.mem_map.mpr ⟨b, hbm, rfl⟩))).mpr (hfol x hx)
  · rintro σ H2 ⟨r, F, v3, v4, rfl, g2, hr0', hr, hF, hfol⟩
    exact ⟨_, rfl, q r F H2 g2 hr0' hr hF hfol⟩
/-! ### _law_lines: slots 0 _law_state, 1 _law_planted, 2 _law_many, 3 _law_lines_here, 4 _law_k, 5 _law_j, 6 _law_line, 7 _law_turn, 8 _law_times, 9 _law_one, 10 _law_two -/

theorem ok__law_lines (T : Txt K mg A) : FnOk P w K mg base CX0 2 A.f__law_lines A.d__law_lines ["_law_state", "_law_planted"] (sp__law_lines K) := by
  refine T.F__law_lines.ok sc__law_lines (fun vs H Q E h => by first | (obtain ⟨_, rfl, _⟩ := h; rfl) | (obtain ⟨_, _, rfl, _⟩ := h; rfl) | (obtain ⟨_, _, _, rfl, _⟩ := h; rfl) | (obtain ⟨_, _, _, _, rfl, _⟩ := h; rfl) | (obtain ⟨_, _, _, _, _, rfl, _⟩ := h; rfl) | (obtain ⟨_, _, _, _, _, _, rfl, _⟩ := h; rfl) | (obtain ⟨_, _, _, _, _, _, _, rfl, _⟩ := h; rfl)) (fun cdv AA outer s H vs Q E hr h => ?_)
  refine ⟨_, (pss_cons (ps_set (i := 2) sc__law_lines.nd rfl (.inl rfl) (pe_callB call_len_seq (by rfl) T.z_len PySem.boot_len (pa_cons (pv 1) pa_nil)))
      (pss_cons (ps_set (i := 3) sc__law_lines.nd rfl (.inl rfl) (pe_lst pa_nil))
      (pss_cons (ps_for PassesOwn.never rfl (pi_range1 (by rfl) T.z_range (pa_cons (pv 2) pa_nil)) (pg_name (i := 4) sc__law_lines.nd rfl (.inl rfl))
        (pss_cons (ps_set (i := 6) sc__law_lines.nd rfl (.inl rfl) (pe_op op_cat (pe_op op_cat (pe_op op_rep (pe_lst (pa_cons pe_int pa_nil)) (pv 4)) (pe_lst (pa_cons (pe_op op_add pe_int (pe_call (ok__law_drawn T) (hr.mono (by decide)) (by rfl) T.g__law_drawn T.k__law_drawn T.b__law_drawn .nil pass0 (pa_cons (pv 0) (pa_cons pe_int pa_nil)))) pa_nil))) (pe_lc (own := [("_law_j", 5)]) (g := gName 5)  rfl sc__law_lines.nd (pi_range1 (by rfl) T.z_range (pa_cons (pe_op op_sub (pe_op op_sub (pv 2) pe_int) (pv 4)) pa_nil)) (blkOk_by (own := [("_law_j", 5)]) (N := ["_law_state", "_law_planted", "_law_many", "_law_lines_here", "_law_k", "_law_j", "_law_line", "_law_turn", "_law_times", "_law_one", "_law_two"]) (sc := defScope s__law_lines) (by decide +kernel)) (fun _ _ _ _ _ => pg_name (i := 5) sc__law_lines.nd rfl (Or.inl rfl)) (fun _ _ _ _ _ => pts_nil) (fun _ _ _ _ _ => (pe_call (ok__law_drawn T) (hr.mono (by decide)) (by rfl) T.g__law_drawn T.k__law_drawn T.b__law_drawn .nil pass0 (pa_cons (pv 0) (pa_cons pe_int pa_nil)))))))
        (pss_one (ps_expr (pe_bm PySem.F.plainAttrs_list PySem.F.slot_list_append PySem.F.type_list_append mt_append (pv 3) (pa_cons (pe_op op_cat (pv 6) (pe_lst (pa_cons (pe_op op_mod (pe_callB (cr_sum rfl) (by rfl) T.z_sum (by decide +kernel) (pa_cons (pe_lc (own := [("_law_one", 9), ("_law_two", 10)]) (g := gTup K 2 (gCons (gName 9) (gCons (gName 10) gNil)))  rfl sc__law_lines.nd (Mz.pi_zip2 (p := true) (q := false) (by rfl) T.z_zip (pa_cons (pv 6) (pa_cons (pv 1) pa_nil))) (blkOk_by (own := [("_law_one", 9), ("_law_two", 10)]) (N := ["_law_state", "_law_planted", "_law_many", "_law_lines_here", "_law_k", "_law_j", "_law_line", "_law_turn", "_law_times", "_law_one", "_law_two"]) (sc := defScope s__law_lines) (by decide +kernel)) (fun _ _ _ _ _ => pg_tup rfl (pgs_cons (pg_name (i := 9) sc__law_lines.nd rfl (.inl rfl)) (pgs_cons (pg_name (i := 10) sc__law_lines.nd rfl (.inl rfl)) pgs_nil))) (fun _ _ _ _ _ => pts_nil) (fun _ _ _ _ _ => (pe_op op_mul (pv 9) (pv 10)))) pa_nil)) pe_int) pa_nil))) pa_nil))))))
      (pss_cons (ps_for PassesOwn.never rfl (pi_range1 (by rfl) T.z_range (pa_cons (pe_op op_mul pe_int (pv 2)) pa_nil)) (pg_name (i := 7) sc__law_lines.nd rfl (.inl rfl))
        (pss_cons (ps_set (i := 4) sc__law_lines.nd rfl (.inl rfl) (pe_call (ok__law_drawn T) (hr.mono (by decide)) (by rfl) T.g__law_drawn T.k__law_drawn T.b__law_drawn .nil pass0 (pa_cons (pv 0) (pa_cons (pv 2) pa_nil))))
        (pss_cons (ps_set (i := 5) sc__law_lines.nd rfl (.inl rfl) (pe_call (ok__law_drawn T) (hr.mono (by decide)) (by rfl) T.g__law_drawn T.k__law_drawn T.b__law_drawn .nil pass0 (pa_cons (pv 0) (pa_cons (pv 2) pa_nil))))
        (pss_one (ps_if (pt_cmpR op_ne (pv 4) (pv 5) (nomark _)) (pss_cons (ps_set (i := 8) sc__law_lines.nd rfl (.inr rfl) (pe_call (ok__law_drawn T) (hr.mono (by decide)) (by rfl) T.g__law_drawn T.k__law_drawn T.b__law_drawn .nil pass0 (pa_cons (pv 0) (pa_cons pe_int pa_nil))))
          (pss_one (ps_asg (pe_lc (own := [("_law_one", 9), ("_law_two", 10)]) (g := gTup K 2 (gCons (gName 9) (gCons (gName 10) gNil)))  rfl sc__law_lines.nd (Mz.pi_zip2 (p := true) (q := true) (by rfl) T.z_zip (pa_cons (pe_ix ix_list (pv 3) (pv 4) (fun _ _ => rfl)) (pa_cons (pe_ix ix_list (pv 3) (pv 5) (fun _ _ => rfl)) pa_nil))) (blkOk_by (own := [("_law_one", 9), ("_law_two", 10)]) (N := ["_law_state", "_law_planted", "_law_many", "_law_lines_here", "_law_k", "_law_j", "_law_line", "_law_turn", "_law_times", "_law_one", "_law_two"]) (sc := defScope s__law_lines) (by decide +kernel)) (fun _ _ _ _ _ => pg_tup rfl (pgs_cons (pg_name (i := 9) sc__law_lines.nd rfl (.inl rfl)) (pgs_cons (pg_name (i := 10) sc__law_lines.nd rfl (.inl rfl)) pgs_nil))) (fun _ _ _ _ _ => pts_nil) (fun _ _ _ _ _ => (pe_op op_mod (pe_op op_add (pv 9) (pe_op op_mul (pv 8) (pv 10))) pe_int))) (pg_sub (pv 3) (pv 4) set_list)))) pss_nil)))))
      (pss_one (ps_ret (pv 3))))))), ?_⟩
  obtain ⟨a, st, p, ps, rfl, hS, hp, hn, hb, q⟩ := h
  refine ⟨_, rfl, p, _, rfl, .inr (SqT.of hp), ?_⟩
  rw [List.length_map]
  refine ⟨by show 0 ≤ sizeLine; decide, fun l hl => ?_⟩
  have s0 := same_upd (o := .lst []) hl
  have hls : l ≠ st := hS.fresh hl
  refine ⟨_, rfl, (ps.length : Int), rfl, by omega, by omega, for_range (n := ((ps.length : Int)).toNat) (fun i σ H' => ∃ (v4 v5 v6 : Option V) (B : List LB), σ = [some (.ref st), some (.ref p), some (.int (ps.length : Int)), some (.ref l), v4, v5, v6, none, none, none, none] ∧ Go K st H H' ∧ LsAt st H' l B ∧ B.length = i ∧ ∀ (i' : Nat) (b : LB), B[i']? = some b → (∀ q, q < i' → gd b.2 q = 0) ∧ gd b.2 i' % 97 ≠ 0 ∧ Ln.Ok ps.length (gd ps) (gd b.2) ∧ LineOk ps.length b.2) ⟨none, none, none, [], rfl, Go.of s0, ⟨upd_same, (fun _ z => nomatch z), hls, (fun _ z => nomatch z)⟩, rfl, (fun _ _ z => nomatch z)⟩ ?_ ?_⟩
  · rintro i σ H1 hi ⟨v4, v5, v6, B, rfl, g1, hL, hBl, hB⟩
    have S1 := g1.st _ hS
    have hi' : i < ps.length := by omega
    refine ⟨by show 1 ≤ sizeLine; decide, fun l1 hl1 => ?_⟩
    have e1 := same_upd (o := .lst [V.int 0]) hl1
    refine ⟨_, rfl, l1, _, _, rfl, rfl, upd_same, by omega, by omega, by show 1 * _ ≤ sizeLine; exact Nat.le_trans (by omega : _ ≤ 96) (by decide), fun l2 hl2 => ?_⟩
    have hrep : (List.replicate (0 + (i : Int)).toNat [V.int 0]).flatten = (List.replicate i (0 : Int)).map V.int := by
      rw [List.flatten_replicate_singleton, List.map_replicate, show (0 + (i : Int)).toNat = i by omega]
    rw [hrep]
    have e2 := e1.trans (same_upd (o := .lst ((List.replicate i (0 : Int)).map V.int)) hl2)
    have S2 := S1.same e2
    have h2s : l2 ≠ st := (S1.same e1).fresh hl2
    refine ⟨_, rfl, a, st, 96, rfl, S2, by decide, nat8000 (by decide) (by decide +kernel), fun x H3 x0 x1 g3 => ?_⟩
    have S3 := g3.st _ S2
    have h23 := g3.keep _ _ h2s (upd_same (o := HO.lst ((List.replicate i (0 : Int)).map V.int)))
    refine ⟨_, _, rfl, rfl, by show 1 ≤ sizeLine; decide, fun l3 hl3 => ?_⟩
    have e3 := same_upd (o := .lst [V.int (1 + x)]) hl3
    refine ⟨l2, l3, _, _, rfl, rfl, e3 _ _ h23, upd_same, ?_, fun l4 hl4 => ?_⟩
    · rw [List.length_map, List.length_replicate]
      exact Nat.le_trans (by show i + 1 ≤ 100; omega) (by decide)
    have S3' := S3.same e3
    have e4 := e3.trans (same_upd (o := .lst ((List.replicate i (0 : Int)).map V.int ++ [V.int (1 + x)])) hl4)
    have h4s : l4 ≠ st := S3'.fresh hl4
    have S4 := S3.same e4
    refine ⟨_, rfl, _, _, rfl, rfl, _, rfl, _, _, rfl, rfl, _, rfl, by omega, by omega, fun D hD => lc_ints (K := K) (st := st) (a := a) (fun z => 0 ≤ z ∧ z < 97) S4 hD (by omega) (fun _ => rfl) (fun j H5 hj g5 Q' q' => ⟨_, rfl, a, st, 97, rfl, g5.st _ S4, by decide, nat8000 (by decide) (by decide +kernel), fun z H6 z0 z1 g6 => q' z H6 ⟨z0, z1⟩ g6⟩) fun ms H5 hml hms g5 hd5 => ?_⟩
    have S5 := g5.st _ S4
    have h45 := g5.keep _ _ h4s (upd_same (o := HO.lst ((List.replicate i (0 : Int)).map V.int ++ [V.int (1 + x)])))
    have hml' : ms.length = ps.length - 1 - i := by omega
    refine ⟨l4, D, _, _, rfl, rfl, h45, hd5, ?_, fun l5 hl5 => ?_⟩
    · rw [List.length_append, List.length_map, List.length_map, List.length_replicate]
      exact Nat.le_trans (by show i + 1 + ms.length ≤ 100; omega) (by decide)
    have eL : (List.replicate i (0 : Int)).map V.int ++ [V.int (1 + x)] ++ ms.map V.int = (List.replicate i 0 ++ [1 + x] ++ ms).map V.int := by
      rw [List.map_append, List.map_append]
      rfl
    rw [eL]
    have hLl : (List.replicate i (0 : Int) ++ [1 + x] ++ ms).length = ps.length := by
      rw [List.length_append, List.length_append, List.length_replicate, hml']
      show i + 1 + (ps.length - 1 - i) = ps.length
      omega
    have hLb : ∀ z ∈ List.replicate i (0 : Int) ++ [1 + x] ++ ms, 0 ≤ z ∧ z < 97 := fun z hz => by
      rcases List.mem_append.mp hz with hz | hz
      · rcases List.mem_append.mp hz with hz | hz
        · rw [(List.mem_replicate.mp hz).2]
          decide
        · rw [List.mem_singleton.mp hz]
          omega
      · exact hms z hz
    have e5 := same_upd (o := .lst ((List.replicate i (0 : Int) ++ [1 + x] ++ ms).map V.int)) hl5
    have hfirst := fun s hs => first_line (n := ps.length) (k := i) (x := x) (s := s) (ms := ms) (ps := ps) hi' hml' x0 x1 hms hs
    generalize List.replicate i (0 : Int) ++ [1 + x] ++ ms = Lk at *
    have gA : Go K st H1 (upd H5 l5 (.lst (Lk.map V.int))) := (Go.of e2).trans (g3.trans ((Go.of e4).trans (g5.trans (Go.of e5))))
    have hLA := hL.go gA
    have hpA : (upd H5 l5 (.lst (Lk.map V.int))) p = some (.tup (ps.map V.int)) := gA.tup S1 (g1.tup hS hp)
    have SA := gA.st _ S1
    -- append
    refine ⟨_, rfl, .inl ⟨rfl, _, SqL.of hLA.lst⟩, _, rfl, _, rfl, _, rfl, l5, p, Lk.map V.int, ps.map V.int, rfl, SqL.of upd_same, SqT.of hpA, fun D2 hD2 => lc_F (Mz.walk2 (K := K) (p := true) (q := false) (a := l5) (b := p) (xs := Lk.map V.int) (ys := ps.map V.int) (n := ps.length) (by rw [List.length_map, List.length_map, hLl, Nat.min_self])) (fun k => V.int (gd Lk k * gd ps k)) (by omega) hD2 (fun H6 s => ⟨SqL.of (s _ _ upd_same), SqT.of (s _ _ hpA)⟩) ?_ fun H6 s6 hd6 => ?_⟩
    · rintro k v H6 H7 hk s6 ⟨T2, x, y, rfl, hT2, rfl, gx, gy⟩ Q' q'
      dsimp only at gx gy
      rw [lst_get (by omega)] at gx
      rw [lst_get hk] at gy
      have ex := (Option.some.inj gx).symm
      have ey := (Option.some.inj gy).symm
      subst ex ey
      have hbk := hLb _ (List.mem_of_getElem? (get_gd (l := Lk) (i := k) (by omega)))
      refine ⟨T2, [.int (gd Lk k), .int (gd ps k)], rfl, SqT.of upd_same, rfl, _, _, rfl, _, _, rfl, rfl, rfl, ?_⟩
      exact ⟨_, rfl, _, rfl, _, _, rfl, rfl, .inl ⟨by omega, by omega⟩, q' _ (same_upd hT2)⟩
    rw [ofF_vals] at hd6
    have esum : (ofF ps.length fun k => gd Lk k * gd ps k).sum = dot ps.length (gd Lk) (gd ps) := sum_range _ _
    refine ⟨D2, _, rfl, SqL.of hd6, _, _, rfl, rfl, by show (0:Int) < _; decide, by show 1 ≤ sizeLine; decide, fun l6 hl6 => ?_⟩
    rw [esum]
    have e6 := s6.trans (same_upd (o := .lst [V.int (dot ps.length (gd Lk) (gd ps) % 97)]) hl6)
    refine ⟨l5, l6, _, _, rfl, rfl, e6 _ _ upd_same, upd_same, ?_, fun l7 hl7 => ?_⟩
    · rw [List.length_map]
      exact Nat.le_trans (by show Lk.length + 1 ≤ 100; omega) (by decide)
    have eE : Lk.map V.int ++ [V.int (dot ps.length (gd Lk) (gd ps) % 97)] = (Lk ++ [dot ps.length (gd Lk) (gd ps) % 97]).map V.int := by
      rw [List.map_append]
      rfl
    rw [eE]
    have e7 := e6.trans (same_upd (o := .lst ((Lk ++ [dot ps.length (gd Lk) (gd ps) % 97]).map V.int)) hl7)
    have hLB := hLA.same e7
    have h7s : l7 ≠ st := (SA.same e6).fresh hl7
    have h7l : l7 ≠ l := fun z => by
      rw [z, (hLA.same e6).lst] at hl7
      cases hl7
    refine ⟨l, _, _, rfl, rfl, hLB.lst, ?_, ?_⟩
    · rw [List.length_map, hBl]
      exact Nat.lt_of_lt_of_le (by omega : i < 100) (by decide)
    have gB := g1.trans (gA.trans (Go.of e7))
    refine ⟨_, _, _, B ++ [(l7, Lk ++ [dot ps.length (gd Lk) (gd ps) % 97])], rfl, gB.mut hS hl, hLB.snoc upd_same h7s h7l, by rw [List.length_append, hBl]; rfl, fun i' b hb => ?_⟩
    rcases Nat.lt_trichotomy i' i with c | c | c
    · rw [List.getElem?_append_left (by omega)] at hb
      exact hB i' b hb
    · subst c
      rw [List.getElem?_append_right (by omega), hBl, Nat.sub_self] at hb
      cases hb
      exact hfirst _ rfl
    · rw [List.getElem?_eq_none (by rw [List.length_append, hBl]; exact c)] at hb
      cases hb
  · rintro σ H1 ⟨v4, v5, v6, B, rfl, g1, hL, hBl, hB⟩
    have hBl' : B.length = ps.length := by omega
    have htri := tri (ps := gd ps) hBl' fun i b hb => ⟨(hB i b hb).1, (hB i b hb).2.1, (hB i b hb).2.2.1⟩
    refine ⟨_, rfl, _, _, rfl, rfl, .inl ⟨by decide, by decide⟩, _, rfl, by omega, by omega, for_range (n := (2 * (ps.length : Int)).toNat) (fun i σ H' => ∃ (v4 v5 v7 v8 : Option V) (B : List LB), σ = [some (.ref st), some (.ref p), some (.int (ps.length : Int)), some (.ref l), v4, v5, v6, v7, v8, none, none] ∧ Go K st H H' ∧ LsAt st H' l B ∧ B.length = ps.length ∧ (∀ b ∈ B, LineOk ps.length b.2) ∧ ∀ x, Sol ps.length (B.map (·.2)) x ↔ ∀ q, q < ps.length → x q % 97 = gd ps q % 97) ⟨v4, v5, none, none, B, rfl, g1, hL, hBl', fun b hb => by obtain ⟨i, hi⟩ := List.mem_iff_getElem?.mp hb; exact (hB i b hi).2.2.2, htri⟩ ?_ ?_⟩
    · rintro i σ H2 hi ⟨v4, v5, v7, v8, B, rfl, g2, hL, hBl, hB, hsol⟩
      have S2 := g2.st _ hS
      have npos : 0 < ps.length := by omega
      refine ⟨_, rfl, _, rfl, a, st, _, rfl, S2, by omega, nat8000 (by omega) (by omega), fun k H3 k0 k1 g3 => ?_⟩
      have S3 := g3.st _ S2
      refine ⟨_, rfl, _, rfl, a, st, _, rfl, S3, by omega, nat8000 (by omega) (by omega), fun j H4 j0 j1 g4 => ?_⟩
      have S4 := g4.st _ S3
      have g4' := (g2.trans g3).trans g4
      have hL4 := hL.go (g3.trans g4)
      refine ⟨_, rfl, _, rfl, rfl, _, rfl, ?_⟩
      rw [decInt]
      by_cases c : k = j
      · rw [decide_eq_true c]
        refine iteF ?_
        exact ⟨_, _, _, _, B, rfl, g4', hL4, hBl, hB, hsol⟩
      rw [decide_eq_false c]
      refine iteT ?_
      refine ⟨_, rfl, a, st, 97, rfl, S4, by decide, nat8000 (by decide) (by decide +kernel), fun t H5 t0 t1 g5 => ?_⟩
      have S5 := g5.st _ S4
      have hL5 := hL4.go g5
      obtain ⟨bk, hbk⟩ : ∃ b, B[k.toNat]? = some b := ⟨_, List.getElem?_eq_getElem (by omega : k.toNat < B.length)⟩
      obtain ⟨bj, hbj⟩ : ∃ b, B[j.toNat]? = some b := ⟨_, List.getElem?_eq_getElem (by omega : j.toNat < B.length)⟩
      have mk := List.mem_of_getElem? hbk
      have mj := List.mem_of_getElem? hbj
      have rk := hL5.rows _ mk
      have rj := hL5.rows _ mj
      have lk := hB _ mk
      have lj := hB _ mj
      have gk : (B.map fun b => V.ref b.1)[k.toNat]? = some (.ref bk.1) := by rw [List.getElem?_map, hbk]; rfl
      have gj : (B.map fun b => V.ref b.1)[j.toNat]? = some (.ref bj.1) := by rw [List.getElem?_map, hbj]; rfl
      refine ⟨_, rfl, _, rfl, l, _, _, _, rfl, rfl, SqL.of hL5.lst, at_of (j := k.toNat) (by omega) gk, _, rfl, _, rfl, l, _, _, _, rfl, rfl, SqL.of hL5.lst, at_of (j := j.toNat) (by omega) gj, bk.1, bj.1, bk.2.map V.int, bj.2.map V.int, rfl, SqL.of rk, SqL.of rj, fun D hD => lc_F (Mz.walk2 (K := K) (p := true) (q := true) (a := bk.1) (b := bj.1) (xs := bk.2.map V.int) (ys := bj.2.map V.int) (n := ps.length + 1) (by rw [List.length_map, List.length_map, lk.1, lj.1, Nat.min_self])) (fun k => V.int ((gd bk.2 k - -t * gd bj.2 k) % 97)) (by omega) hD (fun H6 s => ⟨SqL.of (s _ _ rk), SqL.of (s _ _ rj)⟩) ?_ fun H6 s6 hd6 => ?_⟩
      · rintro r v H6 H7 hr s6 ⟨T2, x, y, rfl, hT2, rfl, gx, gy⟩ Q' q'
        dsimp only at gx gy
        rw [lst_get (by rw [lk.1]; exact hr)] at gx
        rw [lst_get (by rw [lj.1]; exact hr)] at gy
        have ex := (Option.some.inj gx).symm
        have ey := (Option.some.inj gy).symm
        subst ex ey
        refine ⟨T2, [.int (gd bk.2 r), .int (gd bj.2 r)], rfl, SqT.of upd_same, rfl, _, _, rfl, _, _, rfl, rfl, rfl, ?_⟩
        refine ⟨_, rfl, _, rfl, _, rfl, _, _, rfl, rfl, .inl ⟨by omega, by omega⟩, _, _, rfl, rfl, _, _, rfl, rfl, by show (0:Int) < _; decide, ?_⟩
        rw [neg_sub] at q'
        exact q' _ (same_upd hT2)
      rw [ofF_vals] at hd6
      have es : (ofF (ps.length + 1) fun r => (gd bk.2 r - -t * gd bj.2 r) % 97) = Ln.sub bk.2 (-t) bj.2 := by
        unfold Ln.sub
        rw [lk.1]
      rw [es] at hd6
      have hL6 := hL5.same s6
      have hDs : D ≠ st := S5.fresh hD
      have hDl : D ≠ l := fun z => by
        rw [z, hL5.lst] at hD
        cases hD
      refine ⟨_, rfl, _, rfl, l, _, _, k.toNat, rfl, rfl, hL6.lst, ixN_of (by omega) (by rw [List.length_map]; omega), ?_⟩
      refine ⟨_, _, _, _, B.set k.toNat (D, Ln.sub bk.2 (-t) bj.2), rfl, ((g4'.trans g5).trans (Go.of s6)).mut hS hl, hL6.set hd6 hDs hDl, by rw [List.length_set]; exact hBl, fun b hb => ?_, fun x => ?_⟩
      · rcases List.mem_or_eq_of_mem_set hb with hb | rfl
        · exact hB b hb
        · exact lk.sub
      · rw [sol_set hbk hbj (by omega) lk.1 x]
        exact hsol x
    · rintro σ H2 ⟨v4, v5, v7, v8, B, rfl, g2, hL, hBl, hB, hsol⟩
      exact ⟨_, rfl, q l B H2 g2 hl hL hBl hB hsol⟩
/-! ### _law_beyond: slots 0 _law_state, 1 _law_line, 2 _law_far, 3 _law_number -/

theorem ok__law_beyond (T : Txt K mg A) : FnOk P w K mg base CX0 2 A.f__law_beyond A.d__law_beyond ["_law_state", "_law_line"] (sp__law_beyond K) := by
  refine T.F__law_beyond.ok sc__law_beyond (fun vs H Q E h => by first | (obtain ⟨_, rfl, _⟩ := h; rfl) | (obtain ⟨_, _, rfl, _⟩ := h; rfl) | (obtain ⟨_, _, _, rfl, _⟩ := h; rfl) | (obtain ⟨_, _, _, _, rfl, _⟩ := h; rfl) | (obtain ⟨_, _, _, _, _, rfl, _⟩ := h; rfl) | (obtain ⟨_, _, _, _, _, _, rfl, _⟩ := h; rfl) | (obtain ⟨_, _, _, _, _, _, _, rfl, _⟩ := h; rfl)) (fun cdv AA outer s H vs Q E hr h => ?_)
  refine ⟨_, (pss_cons (ps_set (i := 2) sc__law_beyond.nd rfl (.inr rfl) (pe_ix ix_list (pe_lst (pa_cons pe_int (pa_cons pe_int (pa_cons pe_int (pa_cons (pe_op op_mul pe_int (pe_op op_pow pe_int pe_int)) pa_nil))))) (pe_call (ok__law_drawn T) (hr.mono (by decide)) (by rfl) T.g__law_drawn T.k__law_drawn T.b__law_drawn .nil pass0 (pa_cons (pv 0) (pa_cons pe_int pa_nil))) (fun _ _ => rfl)))
      (pss_one (ps_ret (pe_lc (own := [("_law_number", 3)]) (g := gName 3)  rfl sc__law_beyond.nd (pi_list (pv 1)) (blkOk_by (own := [("_law_number", 3)]) (N := ["_law_state", "_law_line", "_law_far", "_law_number"]) (sc := defScope s__law_beyond) (by decide +kernel)) (fun _ _ _ _ _ => pg_name (i := 3) sc__law_beyond.nd rfl (Or.inl rfl)) (fun _ _ _ _ _ => pts_nil) (fun _ _ _ _ _ => (pe_op op_add (pv 3) (pe_op op_mul (pv 2) (pe_op op_sub (pe_call (ok__law_drawn T) (hr.mono (by decide)) (by rfl) T.g__law_drawn T.k__law_drawn T.b__law_drawn .nil pass0 (pa_cons (pv 0) (pa_cons pe_int pa_nil))) pe_int)))))))), ?_⟩
  obtain ⟨a, st, f, L, rfl, hS, hf, hne, hl, q⟩ := h
  refine ⟨_, _, rfl, rfl, ⟨by decide, by decide, by decide⟩, _, _, rfl, rfl, .inl ⟨by decide, by decide⟩, by show 4 ≤ sizeLine; decide, fun l hl2 => ?_⟩
  have S0 := (Go.new (K := K) (st := st) (o := .lst [.int 0, .int 0, .int 97, .int (97 * 10 ^ Int.toNat 56)]) hl2).st _ hS
  have hf0 := (same_upd (o := .lst [.int 0, .int 0, .int 97, .int (97 * 10 ^ Int.toNat 56)]) hl2) _ _ hf
  refine ⟨_, rfl, a, st, 4, rfl, S0, by decide, nat8000 (by decide) (by decide +kernel), fun v H1 v0 v1 g1 => ?_⟩
  obtain ⟨far, hat, hfar⟩ := pickP (ns := [0, 0, 97, 97 * 10 ^ Int.toNat 56]) (p := fun z => z % 97 = 0) (by decide +kernel) v0 v1
  refine ⟨l, _, _, _, rfl, rfl, SqL.of (g1.keep _ _ (hS.fresh hl2) upd_same), hat, ?_⟩
  have g1' := (Go.new (K := K) (st := st) (o := .lst [.int 0, .int 0, .int 97, .int (97 * 10 ^ Int.toNat 56)]) hl2).trans g1
  have S1 := g1'.st _ hS
  have hf1 := g1'.keep _ _ hne hf
  refine ⟨_, rfl, f, rfl, ⟨_, SqL.of hf1⟩, fun D hD => lc_G (K := K) (st := st) (a := a) (walk_list (K := K) (a := f) (xs := L.map V.int)) (fun i v _ => ∃ z : Int, v = .int z ∧ z % 97 = gd L i % 97) S1 (by rw [List.length_map]; omega) hD (fun _ g => SqL.of (g.keep _ _ hne hf1)) (fun _ _ _ _ h _ => h) ?_ fun ws H2 g2 hd hwl hws => ?_⟩
  · rintro i x H3 H4 hi g3 hacc ⟨rfl, gx⟩ Q' q'
    rw [List.length_map] at hi
    rw [lst_get hi] at gx
    have ex := (Option.some.inj gx).symm
    subst ex
    refine ⟨rfl, _, rfl, _, rfl, _, rfl, a, st, 5, rfl, g3.st _ S1, by decide, nat8000 (by decide) (by decide +kernel), fun d H5 d0 d1 g5 => ?_⟩
    refine ⟨_, _, rfl, rfl, _, _, rfl, rfl, .inr ⟨by omega, by omega⟩, _, _, rfl, rfl, q' _ _ g5 ⟨_, rfl, ?_⟩⟩
    have : far * (d - 2) % 97 = 0 := by
      rw [Int.mul_emod, hfar, Int.zero_mul]
      rfl
    omega
  obtain ⟨M, rfl, hM⟩ := int_list hws
  rw [List.length_map, List.length_map] at hwl
  refine q D M H2 (g1'.trans g2) (g1'.free hS hD) hd hwl fun k hk => ?_
  exact hM k _ (get_gd (by omega))
/-! ### law: slots 0 _law_script, 1 _law_state, 2 _law_planted, 3 _law_lines_here, 4 _law_way, 5 _law_due, 6 _law_odd, 7 _law_rows, 8 _law_ends, 9 _law_handed, 10 _law_line, 11 _law_k -/

theorem ok_law (T : Txt K mg A) : FnOk P w K mg base CX0 4 A.f_law A.d_law ["_law_script"] (sp_law K) := by
  refine T.F_law.ok sc_law (fun vs H Q E h => by first | (obtain ⟨_, rfl, _⟩ := h; rfl) | (obtain ⟨_, _, rfl, _⟩ := h; rfl) | (obtain ⟨_, _, _, rfl, _⟩ := h; rfl) | (obtain ⟨_, _, _, _, rfl, _⟩ := h; rfl) | (obtain ⟨_, _, _, _, _, rfl, _⟩ := h; rfl) | (obtain ⟨_, _, _, _, _, _, rfl, _⟩ := h; rfl) | (obtain ⟨_, _, _, _, _, _, _, rfl, _⟩ := h; rfl)) (fun cdv AA outer s H vs Q E hr h => ?_)
  refine ⟨_, (pss_cons (ps_set (i := 1) sc_law.nd rfl (.inr rfl) (pe_call (ok__law_start T) (hr.mono (by decide)) (by rfl) T.g__law_start T.k__law_start T.b__law_start .nil pass0 (pa_cons (pv 0) pa_nil)))
      (pss_cons (ps_set (i := 2) sc_law.nd rfl (.inl rfl) (pe_callTy call_tuple_of (by rfl) T.z_tuple (by decide +kernel) (pa_cons (pe_lc (own := [("_law_k", 11)]) (g := gName 11)  rfl sc_law.nd (pi_range1 (by rfl) T.z_range (pa_cons (pe_call (ok__law_drawn T) (hr.mono (by decide)) (by rfl) T.g__law_drawn T.k__law_drawn T.b__law_drawn .nil pass0 (pa_cons (pv 1) (pa_cons (pe_ix ix_list (pe_lst (pa_cons pe_int (pa_cons pe_int pa_nil))) (pe_call (ok__law_drawn T) (hr.mono (by decide)) (by rfl) T.g__law_drawn T.k__law_drawn T.b__law_drawn .nil pass0 (pa_cons (pv 1) (pa_cons pe_int pa_nil))) (fun _ _ => rfl)) pa_nil))) pa_nil)) (blkOk_by (own := [("_law_k", 11)]) (N := ["_law_script", "_law_state", "_law_planted", "_law_lines_here", "_law_way", "_law_due", "_law_odd", "_law_rows", "_law_ends", "_law_handed", "_law_line", "_law_k"]) (sc := defScope s_law) (by decide +kernel)) (fun _ _ _ _ _ => pg_name (i := 11) sc_law.nd rfl (Or.inl rfl)) (fun _ _ _ _ _ => pts_nil) (fun _ _ _ _ _ => (pe_call (ok__law_drawn T) (hr.mono (by decide)) (by rfl) T.g__law_drawn T.k__law_drawn T.b__law_drawn .nil pass0 (pa_cons (pv 1) (pa_cons pe_int pa_nil))))) pa_nil)))
      (pss_cons (ps_set (i := 3) sc_law.nd rfl (.inr rfl) (pe_call (ok__law_lines T) (hr.mono (by decide)) (by rfl) T.g__law_lines T.k__law_lines T.b__law_lines .nil pass0 (pa_cons (pv 1) (pa_cons (pv 2) pa_nil))))
      (pss_cons (ps_set (i := 4) sc_law.nd rfl (.inl rfl) (pe_call (ok__law_drawn T) (hr.mono (by decide)) (by rfl) T.g__law_drawn T.k__law_drawn T.b__law_drawn .nil pass0 (pa_cons (pv 1) (pa_cons pe_int pa_nil))))
      (pss_cons (ps_set (i := 5) sc_law.nd rfl (.inl rfl) (pv 2))
      (Evl.pss_cut (ps_if (PW.pt (pw_and (pt_cmpR op_eq (pv 4) pe_int (nomark _)) (pw_and1 (pt_cmpR (op_neD hr.units) (pv 3) (pe_lst pa_nil) (nomark _))))) (pss_cons (ps_expr (pe_bm PySem.F.plainAttrs_list PySem.F.slot_list_pop PySem.F.type_list_pop mt_popAt (pv 3) (pa_cons (pe_call (ok__law_drawn T) (hr.mono (by decide)) (by rfl) T.g__law_drawn T.k__law_drawn T.b__law_drawn .nil pass0 (pa_cons (pv 1) (pa_cons (pe_callB call_len_seq (by rfl) T.z_len PySem.boot_len (pa_cons (pv 3) pa_nil)) pa_nil))) pa_nil)))
        (pss_one (ps_set (i := 5) sc_law.nd rfl (.inl rfl) pe_non))) pss_nil)
      (Evl.pss_cut (ps_if (pt_cmpR (op_neD hr.units) (pv 3) (pe_lst pa_nil) (nomark _)) (pss_cons (ps_set (i := 3) sc_law.nd rfl (.inr rfl) (pe_op op_cat (pv 3) (pe_lc (own := [("_law_k", 11)]) (g := gName 11)  rfl sc_law.nd (pi_range1 (by rfl) T.z_range (pa_cons (pe_call (ok__law_drawn T) (hr.mono (by decide)) (by rfl) T.g__law_drawn T.k__law_drawn T.b__law_drawn .nil pass0 (pa_cons (pv 1) (pa_cons (pe_ix ix_list (pe_lst (pa_cons pe_int (pa_cons pe_int pa_nil))) (pe_call (ok__law_drawn T) (hr.mono (by decide)) (by rfl) T.g__law_drawn T.k__law_drawn T.b__law_drawn .nil pass0 (pa_cons (pv 1) (pa_cons pe_int pa_nil))) (fun _ _ => rfl)) pa_nil))) pa_nil)) (blkOk_by (own := [("_law_k", 11)]) (N := ["_law_script", "_law_state", "_law_planted", "_law_lines_here", "_law_way", "_law_due", "_law_odd", "_law_rows", "_law_ends", "_law_handed", "_law_line", "_law_k"]) (sc := defScope s_law) (by decide +kernel)) (fun _ _ _ _ _ => pg_name (i := 11) sc_law.nd rfl (Or.inl rfl)) (fun _ _ _ _ _ => pts_nil) (fun _ _ _ _ _ => (pe_call (ok__law_sum T) (hr.mono (by decide)) (by rfl) T.g__law_sum T.k__law_sum T.b__law_sum .nil pass0 (pa_cons (pv 1) (pa_cons (pv 3) pa_nil)))))))
        (pss_one (ps_if (pt_cmpR op_eq (pv 4) pe_int (nomark _)) (pss_cons (ps_set (i := 6) sc_law.nd rfl (.inl rfl) (pe_call (ok__law_sum T) (hr.mono (by decide)) (by rfl) T.g__law_sum T.k__law_sum T.b__law_sum .nil pass0 (pa_cons (pv 1) (pa_cons (pv 3) pa_nil))))
          (pss_cons (ps_expr (pe_bm PySem.F.plainAttrs_list PySem.F.slot_list_insert PySem.F.type_list_insert mt_insert (pv 3) (pa_cons (pe_call (ok__law_drawn T) (hr.mono (by decide)) (by rfl) T.g__law_drawn T.k__law_drawn T.b__law_drawn .nil pass0 (pa_cons (pv 1) (pa_cons (pe_op op_add (pe_callB call_len_seq (by rfl) T.z_len PySem.boot_len (pa_cons (pv 3) pa_nil)) pe_int) pa_nil))) (pa_cons (pe_op op_cat (pe_slice sl_list (pv 6) po_none (po_some (pe_un un_neg pe_int))) (pe_lst (pa_cons (pe_op op_mod (pe_op op_add (pe_op op_add (pe_ix ix_list (pv 6) (pe_un un_neg pe_int) (fun _ _ => rfl)) pe_int) (pe_call (ok__law_drawn T) (hr.mono (by decide)) (by rfl) T.g__law_drawn T.k__law_drawn T.b__law_drawn .nil pass0 (pa_cons (pv 1) (pa_cons pe_int pa_nil)))) pe_int) pa_nil))) pa_nil))))
          (pss_one (ps_set (i := 5) sc_law.nd rfl (.inl rfl) pe_non)))) pss_nil))) pss_nil)
      (pss_cons (ps_set (i := 3) sc_law.nd rfl (.inr rfl) (pe_lc (own := [("_law_line", 10)]) (g := gName 10)  rfl sc_law.nd (pi_list (pv 3)) (blkOk_by (own := [("_law_line", 10)]) (N := ["_law_script", "_law_state", "_law_planted", "_law_lines_here", "_law_way", "_law_due", "_law_odd", "_law_rows", "_law_ends", "_law_handed", "_law_line", "_law_k"]) (sc := defScope s_law) (by decide +kernel)) (fun _ _ _ _ _ => pg_name (i := 10) sc_law.nd rfl (Or.inl rfl)) (fun _ _ _ _ _ => pts_nil) (fun _ _ _ _ _ => (pe_call (ok__law_beyond T) (hr.mono (by decide)) (by rfl) T.g__law_beyond T.k__law_beyond T.b__law_beyond .nil pass0 (pa_cons (pv 1) (pa_cons (pv 10) pa_nil))))))
      (pss_cons (ps_setLc (i := 7) (own := [("_law_line", 10)]) (g := gName 10)  rfl sc_law.nd rfl rfl (sw_true rfl rfl rfl (by decide +kernel)) (pi_list (pv 3)) (blkOk_by (own := [("_law_line", 10)]) (N := ["_law_script", "_law_state", "_law_planted", "_law_lines_here", "_law_way", "_law_due", "_law_odd", "_law_rows", "_law_ends", "_law_handed", "_law_line", "_law_k"]) (sc := defScope s_law) (by decide +kernel)) (fun _ _ _ _ _ => pg_name (i := 10) sc_law.nd rfl (Or.inl rfl)) (fun _ _ _ _ _ => pts_nil) (fun _ _ _ _ _ => (pe_callTy (call_tuple_ofK (K := K) rfl) (by rfl) T.z_tuple (by decide +kernel) (pa_cons (pe_slice (sl_listK (K := K) rfl) (pv 10) po_none (po_some (pe_un un_neg pe_int))) pa_nil))))
      (pss_cons (ps_setLc (i := 8) (own := [("_law_line", 10)]) (g := gName 10)  rfl sc_law.nd rfl rfl (sw_true rfl rfl rfl (by decide +kernel)) (pi_list (pv 3)) (blkOk_by (own := [("_law_line", 10)]) (N := ["_law_script", "_law_state", "_law_planted", "_law_lines_here", "_law_way", "_law_due", "_law_odd", "_law_rows", "_law_ends", "_law_handed", "_law_line", "_law_k"]) (sc := defScope s_law) (by decide +kernel)) (fun _ _ _ _ _ => pg_name (i := 10) sc_law.nd rfl (Or.inl rfl)) (fun _ _ _ _ _ => pts_nil) (fun _ _ _ _ _ => (pe_ix (ix_listK (K := K) rfl) (pv 10) (pe_un un_neg pe_int) (fun _ _ => rfl))))
      (pss_cons (ps_set (i := 9) sc_law.nd rfl (.inl rfl) (pe_tup (pa_cons (pe_callTy call_list_of (by rfl) T.z_list (by decide +kernel) (pa_cons (pv 7) pa_nil)) (pa_cons (pe_callTy call_list_of (by rfl) T.z_list (by decide +kernel) (pa_cons (pv 8) pa_nil)) pa_nil))))
      (pss_cons (ps_if (PW.pt (pw_or (pt_not (pt_val (pe_call (ok__law_same T 1) (hr.mono (by decide)) (by rfl) T.g__law_same T.k__law_same T.b__law_same .nil pass0 (pa_cons (pe_call (ok_solved T) (hr.mono (by decide)) (by rfl) T.g_solved T.k_solved T.b_solved .nil pass0 (pa_cons (pe_callB call_len_seq (by rfl) T.z_len PySem.boot_len (pa_cons (pv 2) pa_nil)) (pa_cons (pe_ix ix_tup (pv 9) pe_int (fun _ _ => rfl)) (pa_cons (pe_ix ix_tup (pv 9) pe_int (fun _ _ => rfl)) pa_nil)))) (pa_cons (pv 5) pa_nil))))) (pw_or1 (pt_cmpR (op_neD hr.units) (pv 9) (pe_tup (pa_cons (pv 7) (pa_cons (pv 8) pa_nil))) (nomark _))))) (pss_one (ps_ret pe_bl)) pss_nil)
      (pss_cons (ps_if (PW.pt (pw_or (pt_cmpR op_notN (pe_call (ok_solved T) (hr.mono (by decide)) (by rfl) T.g_solved T.k_solved T.b_solved .nil pass0 (pa_cons pe_int (pa_cons (pe_lst (pa_cons (pe_tup pa_nil) pa_nil)) (pa_cons (pe_lst (pa_cons pe_int pa_nil)) pa_nil)))) pe_non (nomark _)) (pw_or1 (pt_not (pt_val (pe_call (ok__law_same T 1) (hr.mono (by decide)) (by rfl) T.g__law_same T.k__law_same T.b__law_same .nil pass0 (pa_cons (pe_call (ok_solved T) (hr.mono (by decide)) (by rfl) T.g_solved T.k_solved T.b_solved .nil pass0 (pa_cons pe_int (pa_cons (pe_lst (pa_cons (pe_tup pa_nil) (pa_cons (pe_tup pa_nil) pa_nil))) (pa_cons (pe_lst (pa_cons pe_int (pa_cons pe_int pa_nil))) pa_nil)))) (pa_cons (pe_tup pa_nil) pa_nil)))))))) (pss_one (ps_ret pe_bl)) pss_nil)
      (pss_one (ps_ret (pe_and (pe_call (ok__law_same T 1) (hr.mono (by decide)) (by rfl) T.g__law_same T.k__law_same T.b__law_same .nil pass0 (pa_cons (pe_call (ok_solved T) (hr.mono (by decide)) (by rfl) T.g_solved T.k_solved T.b_solved .nil pass0 (pa_cons (pe_callB call_len_seq (by rfl) T.z_len PySem.boot_len (pa_cons (pv 2) pa_nil)) (pa_cons (pe_ix ix_tup (pv 9) pe_int (fun _ _ => rfl)) (pa_cons (pe_ix ix_tup (pv 9) pe_int (fun _ _ => rfl)) pa_nil)))) (pa_cons (pv 5) pa_nil))) (pe_one (pe_cmpR op_isN (pe_call (ok_solved T) (hr.mono (by decide)) (by rfl) T.g_solved T.k_solved T.b_solved .nil pass0 (pa_cons pe_int (pa_cons (pe_lst pa_nil) (pa_cons (pe_lst pa_nil) pa_nil)))) pe_non (nomark _))))))))))))))))))), ?_⟩
  obtain ⟨a, ns, rfl, hS, hlen, q⟩ := h
  refine ⟨_, rfl, a, ns, rfl, hS, fun st H1 nst sm hSt => ?_⟩
  -- planted
  refine ⟨_, rfl, by show 2 ≤ sizeLine; decide, fun l0 hl0 => ?_⟩
  have S1 := (Go.new (K := K) (st := st) (o := .lst [.int 7, .int 13]) hl0).st _ hSt
  refine ⟨_, rfl, a, st, 2, rfl, S1, by decide, nat8000 (by decide) (by decide +kernel), fun v H2 v0 v1 g2 => ?_⟩
  have S2 := g2.st _ S1
  obtain ⟨n0, hat, n1, n2⟩ := pickI (ns := [7, 13]) (lo := 7) (hi := 13) (by decide) v0 v1
  refine ⟨l0, _, _, _, rfl, rfl, SqL.of (g2.keep _ _ (hSt.fresh hl0) upd_same), hat, ?_⟩
  refine ⟨a, st, n0, rfl, S2, by omega, nat8000 (by omega) (by omega), fun m H3 m0 m1 g3 => ?_⟩
  have S3 := g3.st _ S2
  refine ⟨m, rfl, by omega, by omega, fun D hD => lc_ints (K := K) (st := st) (a := a) (fun z => 0 ≤ z ∧ z < 97) S3 hD (by omega) (fun _ => rfl) (fun j H5 hj g5 Q' q' => ⟨_, rfl, a, st, 97, rfl, g5.st _ S3, by decide, nat8000 (by decide) (by decide +kernel), fun z H6 z0 z1 g6 => q' z H6 ⟨z0, z1⟩ g6⟩) fun ps H4 hpl hps g4 hd4 => ?_⟩
  have S4 := g4.st _ S3
  refine ⟨D, _, rfl, .inl ⟨SqL.of hd4, fun p hp => ?_⟩⟩
  have S5 := (Go.new (K := K) (st := st) (o := .tup (ps.map V.int)) hp).st _ S4
  have hn12 : ps.length ≤ 12 := by omega
  have hp5 : (upd H4 p (.tup (ps.map V.int))) p = some (.tup (ps.map V.int)) := upd_same
  generalize upd H4 p (.tup (ps.map V.int)) = H5 at *
  -- lines
  refine ⟨_, rfl, _, rfl, a, st, p, ps, rfl, S5, hp5, hn12, hps, fun l B H6 g6 hl5 hL hBl hB hsol => ?_⟩
  have S6 := g6.st _ S5
  refine ⟨_, rfl, a, st, 4, rfl, S6, by decide, nat8000 (by decide) (by decide +kernel), fun way H7 w0 w1 g7 => ?_⟩
  have S7 := g7.st _ S6
  have hL7 := hL.go g7
  have hp7 := g7.tup S6 (g6.tup S5 hp5)
  refine ⟨_, rfl, ?_⟩
  have gA := g6.trans g7
  refine ⟨fun σ H' => ∃ (B : List LB) (v : V), σ = [some (.ref a), some (.ref st), some (.ref p), some (.ref l), some (.int way), some v, none, none, none, none, none, none] ∧ Go K st H5 H' ∧ LsAt st H' l B ∧ B.length ≤ 12 ∧ (∀ b ∈ B, LineOk ps.length b.2) ∧ DueIs ps.length (B.map (·.2)) ps p v, ?_, ?_⟩
  · refine ⟨_, rfl, rfl, _, rfl, ite2 (fun _ => ?_) (fun _ => ?_)⟩
    · refine ⟨_, rfl, by show 0 ≤ sizeLine; decide, fun u hu => neRows (B := B) ((hL7.same (same_upd hu)).lst) ((hL7.same (same_upd hu)).rows) upd_same ⟨_, rfl, ?_⟩⟩
      have gu := Go.new (K := K) (st := st) (o := .lst []) hu
      by_cases c : B = []
      · rw [decide_eq_true c]
        refine iteF ?_
        exact ⟨B, .ref p, rfl, gA.trans gu, hL7.go gu, by omega, hB, .inl ⟨rfl, hsol⟩⟩
      rw [decide_eq_false c]
      refine iteT ?_
      have hLu := hL7.go gu
      have Su := gu.st _ S7
      have bpos : 0 < B.length := List.length_pos_iff.mpr c
      refine ⟨_, rfl, .inl ⟨rfl, _, SqL.of hLu.lst⟩, _, rfl, _, rfl, l, _, rfl, .inl (SqL.of hLu.lst), a, st, _, rfl, Su, by rw [List.length_map]; omega, by rw [List.length_map]; exact nat8000 (by omega) (by omega), fun k H8 k0 k1 g8 => ?_⟩
      rw [List.length_map] at k1
      have hL8 := hLu.go g8
      obtain ⟨bk, hbk⟩ : ∃ b, B[k.toNat]? = some b := ⟨_, List.getElem?_eq_getElem (by omega : k.toNat < B.length)⟩
      refine ⟨l, _, k, k.toNat, .ref bk.1, rfl, rfl, hL8.lst, by omega, by omega, ?_, by rw [List.getElem?_map, hbk]; rfl, ?_⟩
      · obtain ⟨j, rfl⟩ : ∃ j : Nat, k = (j : Int) := ⟨k.toNat, by omega⟩
        rw [List.length_map, Int.toNat_natCast]
        unfold seqIndex?
        simp
        omega
      have hmem : ∀ b ∈ B.eraseIdx k.toNat, b ∈ B := fun b hb => List.mem_of_mem_eraseIdx hb
      have hel : (B.eraseIdx k.toNat).length = B.length - 1 := List.length_eraseIdx_of_lt (by omega)
      have em : (B.map fun b => V.ref b.1).eraseIdx k.toNat = (B.eraseIdx k.toNat).map fun b => V.ref b.1 := map_erase _ _ _
      rw [em]
      refine ⟨B.eraseIdx k.toNat, .non, rfl, ((gA.trans gu).trans g8).mut S5 hl5, hL8.to hmem, by omega, fun b hb => hB b (hmem b hb), .inr ⟨rfl, fun x => few_no (fun E hE => ?_) (by rw [List.length_map]; omega) x⟩⟩
      obtain ⟨b, hb, rfl⟩ := List.mem_map.mp hE
      exact (hB b (hmem b hb)).1
    · exact ⟨B, .ref p, rfl, gA, hL7, by omega, hB, .inl ⟨rfl, hsol⟩⟩
  rintro σ H8 ⟨B1, v5, rfl, g8, hL8, hB1l, hB1, hdue1⟩
  have S8 := g8.st _ S5
  refine ⟨fun σ H' => ∃ (l : Addr) (B : List LB) (v : V) (v6 : Option V), σ = [some (.ref a), some (.ref st), some (.ref p), some (.ref l), some (.int way), some v, v6, none, none, none, none, none] ∧ Go K st H5 H' ∧ LsAt st H' l B ∧ B.length ≤ 40 ∧ (∀ b ∈ B, LineOk ps.length b.2) ∧ DueIs ps.length (B.map (·.2)) ps p v, ?_, ?_⟩
  · refine ⟨_, rfl, by show 0 ≤ sizeLine; decide, fun u hu => neRows (B := B1) ((hL8.same (same_upd hu)).lst) ((hL8.same (same_upd hu)).rows) upd_same ⟨_, rfl, ?_⟩⟩
    have gu := Go.new (K := K) (st := st) (o := .lst []) hu
    by_cases c : B1 = []
    · rw [decide_eq_true c]
      refine iteF ?_
      exact ⟨l, B1, v5, none, rfl, g8.trans gu, hL8.go gu, by omega, hB1, hdue1⟩
    rw [decide_eq_false c]
    refine iteT ?_
    have Su := gu.st _ S8
    refine ⟨_, rfl, _, rfl, by show 2 ≤ sizeLine; decide, fun l1 hl1 => ?_⟩
    have g1' := gu.trans (Go.new (K := K) (st := st) (o := .lst [.int 4, .int 9]) hl1)
    have S9 := g1'.st _ S8
    refine ⟨_, rfl, a, st, 2, rfl, S9, by decide, nat8000 (by decide) (by decide +kernel), fun v H10 v0 v1 g10 => ?_⟩
    have S10 := g10.st _ S9
    obtain ⟨n4, hat4, n5, n6⟩ := pickI (ns := [4, 9]) (lo := 4) (hi := 9) (by decide) v0 v1
    refine ⟨l1, _, _, _, rfl, rfl, SqL.of (g10.keep _ _ (Su.fresh hl1) upd_same), hat4, ?_⟩
    refine ⟨a, st, n4, rfl, S10, by omega, nat8000 (by omega) (by omega), fun m2 H11 x0 x1 g11 => ?_⟩
    have S11 := g11.st _ S10
    have gB := g1'.trans (g10.trans g11)
    have hL11 := hL8.go gB
    refine ⟨m2, rfl, by omega, by omega, fun D2 hD2 => lc_G (K := K) (st := st) (a := a) (walk_range (lo := 0) (n := m2.toNat)) (fun _ v H' => ∃ b : LB, v = .ref b.1 ∧ b.1 ≠ D2 ∧ b.1 ≠ st ∧ H' b.1 = some (.lst (b.2.map V.int)) ∧ LineOk ps.length b.2 ∧ ∀ x, Sol ps.length (B1.map (·.2)) x → Ln.Ok ps.length x (gd b.2)) S11 (by omega) hD2 (fun _ _ => trivial) ?_ ?_ fun ws H12 g12 hd12 hwl hws => ?_⟩
    · rintro i v H' H'' ⟨b, rfl, b1, b2, b3, b4⟩ keep
      exact ⟨b, rfl, b1, b2, keep _ _ b1 b2 b3, b4⟩
    · rintro i x H13 H14 hi g13 ⟨acc, hacc⟩ ⟨rfl, rfl⟩ Q' q'
      have S13 := g13.st _ S11
      refine ⟨rfl, _, rfl, _, rfl, a, st, l, B1, ps.length, rfl, S13, hL11.go g13, c, hB1, by omega, by omega, fun f L H15 g15 hf0 hf hLk hfol => ?_⟩
      exact q' _ _ g15 ⟨(f, L), rfl, ne_of_none hacc hf0 |>.symm, S13.fresh hf0, hf, hLk, hfol⟩
    obtain ⟨C, rfl, hC⟩ := pick_list (fun b : LB => V.ref b.1) ws _ hws
    rw [List.length_map] at hwl
    have S12 := g12.st _ S11
    have hL12 := hL11.go g12
    have hCm : ∀ b ∈ C, b.1 ≠ D2 ∧ b.1 ≠ st ∧ H12 b.1 = some (.lst (b.2.map V.int)) ∧ LineOk ps.length b.2 ∧ ∀ x, Sol ps.length (B1.map (·.2)) x → Ln.Ok ps.length x (gd b.2) := fun b hb => by
      obtain ⟨i, hi⟩ := List.mem_iff_getElem?.mp hb
      exact hC i b hi
    refine ⟨l, D2, _, _, rfl, rfl, hL12.lst, hd12, ?_, fun p2 hp2 => ?_⟩
    · rw [List.length_map, List.length_map]
      exact Nat.le_trans (by show B1.length + C.length ≤ 100; omega) (by decide)
    rw [← List.map_append]
    have gp2 := Go.new (K := K) (st := st) (o := .lst ((B1 ++ C).map fun b : LB => V.ref b.1)) hp2
    have sp2 := same_upd (o := .lst ((B1 ++ C).map fun b : LB => V.ref b.1)) hp2
    have hL2 : LsAt st (upd H12 p2 (.lst ((B1 ++ C).map fun b : LB => V.ref b.1))) p2 (B1 ++ C) := ⟨upd_same, fun b hb => by
      rcases List.mem_append.mp hb with hb | hb
      · exact sp2 _ _ (hL12.rows b hb)
      · exact sp2 _ _ (hCm b hb).2.2.1, S12.fresh hp2, fun b hb => by
      rcases List.mem_append.mp hb with hb | hb
      · exact hL12.nes b hb
      · exact (hCm b hb).2.1⟩
    have hB2 : ∀ b ∈ B1 ++ C, LineOk ps.length b.2 := fun b hb => by
      rcases List.mem_append.mp hb with hb | hb
      · exact hB1 b hb
      · exact (hCm b hb).2.2.2.1
    have hsol2 : ∀ x, Sol ps.length (B1.map (·.2)) x ↔ Sol ps.length ((B1 ++ C).map (·.2)) x := fun x => by
      rw [List.map_append]
      constructor
      · intro h E hE
        rcases List.mem_append.mp hE with hE | hE
        · exact h E hE
        · obtain ⟨b, hb, rfl⟩ := List.mem_map.mp hE
          exact (hCm b hb).2.2.2.2 x h
      · intro h E hE
        exact h E (List.mem_append.mpr (.inl hE))
    have hdue2 := hdue1.congr hsol2
    have hB2l : (B1 ++ C).length ≤ 21 := by rw [List.length_append]; omega
    have hB2n : B1 ++ C ≠ [] := fun z => c (List.append_eq_nil_iff.mp z).1
    have hp2f : H5 p2 = none := (g8.trans (gB.trans g12)).free S5 hp2
    have gC := g8.trans (gB.trans (g12.trans gp2))
    have S13 := gC.st _ S5
    generalize B1 ++ C = B2 at *
    generalize upd H12 p2 (.lst (B2.map fun b : LB => V.ref b.1)) = H13 at *
    refine ⟨_, rfl, rfl, _, rfl, ite2 (fun _ => ?_) (fun _ => ?_)⟩
    · -- one with another end
      refine ⟨_, rfl, _, rfl, a, st, p2, B2, ps.length, rfl, S13, hL2, hB2n, hB2, by omega, by omega, fun f L H14 g14 hf0 hf hLk hfol => ?_⟩
      have S14 := g14.st _ S13
      have hL14 := hL2.go g14
      have hfs := S13.fresh hf0
      have hLe := init_last hLk.1
      refine ⟨_, rfl, .inl ⟨rfl, _, SqL.of hL14.lst⟩, _, rfl, _, rfl, p2, _, rfl, .inl (SqL.of hL14.lst), _, _, rfl, rfl, a, st, _, rfl, S14, by rw [List.length_map]; omega, by rw [List.length_map]; exact nat8000 (by omega) (by omega), fun k H15 k0 k1 g15 => ?_⟩
      rw [List.length_map] at k1
      have S15 := g15.st _ S14
      have hL15 := hL14.go g15
      have hf15 := g15.keep _ _ hfs hf
      have ecut : cutV (L.map V.int) none (some (-1)) = (L.take ps.length).map V.int := by
        have e : L.map V.int = (L.take ps.length).map V.int ++ [V.int (gd L ps.length)] := by
          rw [← List.map_singleton, ← List.map_append, ← hLe]
        rw [e, cutInit]
      refine ⟨_, rfl, _, rfl, _, rfl, f, _, rfl, SqL.of hf15, fun p3 hp3 => ?_⟩
      rw [ecut]
      have s3 := same_upd (o := .lst ((L.take ps.length).map V.int)) hp3
      have S15' := S15.same s3
      have hat : atI (L.map V.int) (-1) = some (.int (gd L ps.length)) := by
        have e : L.map V.int = (L.take ps.length).map V.int ++ [V.int (gd L ps.length)] := by
          rw [← List.map_singleton, ← List.map_append, ← hLe]
        rw [e]
        exact atI_last _ _
      refine ⟨_, rfl, _, rfl, f, _, _, _, rfl, rfl, SqL.of (s3 _ _ hf15), hat, _, _, rfl, rfl, _, rfl, a, st, 96, rfl, S15', by decide, nat8000 (by decide) (by decide +kernel), fun d H16 d0 d1 g16 => ?_⟩
      have S16 := g16.st _ S15'
      have hp3s : p3 ≠ st := S15.fresh hp3
      have hp316 := g16.keep _ _ hp3s (upd_same (o := HO.lst ((L.take ps.length).map V.int)))
      refine ⟨_, _, rfl, rfl, _, _, rfl, rfl, by show (0:Int) < _; decide, by show 1 ≤ sizeLine; decide, fun l5 hl5 => ?_⟩
      have s5 := same_upd (o := .lst [V.int ((gd L ps.length + 1 + d) % 97)]) hl5
      refine ⟨p3, l5, _, _, rfl, rfl, s5 _ _ hp316, upd_same, ?_, fun l6 hl6 => ?_⟩
      · rw [List.length_map, List.length_take]
        exact Nat.le_trans (by show _ + 1 ≤ 100; omega) (by decide)
      have eE : (L.take ps.length).map V.int ++ [V.int ((gd L ps.length + 1 + d) % 97)] = (L.take ps.length ++ [(gd L ps.length + 1 + d) % 97]).map V.int := by
        rw [List.map_append]
        rfl
      rw [eE]
      have s6 := s5.trans (same_upd (o := .lst ((L.take ps.length ++ [(gd L ps.length + 1 + d) % 97]).map V.int)) hl6)
      have g16' := (g15.trans (Go.of s3)).trans (g16.trans (Go.of s6))
      have hL16 := hL14.go g16'
      have h6s : l6 ≠ st := (S16.same s5).fresh hl6
      have h6p : l6 ≠ p2 := fun z => by
        have := ((hL14.go ((g15.trans (Go.of s3)).trans (g16.trans (Go.of s5)))).lst)
        rw [← z, hl6] at this
        cases this
      refine ⟨p2, _, k, .ref l6, rfl, rfl, hL16.lst, ?_, k0, by omega, ?_⟩
      · rw [List.length_map]
        exact Nat.lt_of_lt_of_le (by omega : B2.length < 100) (by decide)
      have hEok : LineOk ps.length (L.take ps.length ++ [(gd L ps.length + 1 + d) % 97]) := ⟨by rw [List.length_append, List.length_take, hLk.1]; show min ps.length (ps.length + 1) + 1 = _; omega, fun z hz => by
        rcases List.mem_append.mp hz with hz | hz
        · exact hLk.2 z (List.mem_of_mem_take hz)
        · rw [List.mem_singleton.mp hz]
          exact ⟨Int.emod_nonneg _ (by decide), Int.emod_lt_of_pos _ (by decide)⟩⟩
      have hmem : ∀ b ∈ B2.take k.toNat ++ [(l6, L.take ps.length ++ [(gd L ps.length + 1 + d) % 97])] ++ B2.drop k.toNat, b ∈ B2 ∨ b = (l6, L.take ps.length ++ [(gd L ps.length + 1 + d) % 97]) := fun b hb => by
        rcases List.mem_append.mp hb with hb | hb
        · rcases List.mem_append.mp hb with hb | hb
          · exact .inl (List.mem_of_mem_take hb)
          · exact .inr (List.mem_singleton.mp hb)
        · exact .inl (List.mem_of_mem_drop hb)
      have em : (B2.map fun b : LB => V.ref b.1).take k.toNat ++ [V.ref l6] ++ (B2.map fun b : LB => V.ref b.1).drop k.toNat = (B2.take k.toNat ++ [(l6, L.take ps.length ++ [(gd L ps.length + 1 + d) % 97])] ++ B2.drop k.toNat).map fun b : LB => V.ref b.1 := by
        rw [List.map_append, List.map_append, List.map_take, List.map_drop]
        rfl
      rw [em]
      refine ⟨p2, _, .non, some (.ref f), rfl, (gC.trans (g14.trans g16')).mut S5 hp2f, ⟨upd_same, fun b hb => ?_, hL16.ne, fun b hb => ?_⟩, ?_, fun b hb => ?_, .inr ⟨rfl, fun x => ?_⟩⟩
      · rcases hmem b hb with hb | rfl
        · rw [upd_ne (hL16.apart b hb)]
          exact hL16.rows b hb
        · show upd _ _ _ l6 = _
          rw [upd_ne h6p]
          exact upd_same
      · rcases hmem b hb with hb | rfl
        · exact hL16.nes b hb
        · exact h6s
      · rw [List.length_append, List.length_append, List.length_take, List.length_drop]
        show min k.toNat B2.length + 1 + (B2.length - k.toNat) ≤ 40
        omega
      · rcases hmem b hb with hb | rfl
        · exact hB2 b hb
        · exact hEok
      · refine odd_end hLk.1 hfol d0 d1 (fun E hE => ?_) (List.mem_map.mpr ⟨(l6, _), List.mem_append.mpr (.inl (List.mem_append.mpr (.inr List.mem_cons_self))), rfl⟩) x
        obtain ⟨b, hb, rfl⟩ := List.mem_map.mp hE
        refine List.mem_map.mpr ⟨b, ?_, rfl⟩
        rw [List.append_assoc]
        rcases List.mem_append.mp (show b ∈ B2.take k.toNat ++ B2.drop k.toNat by rw [List.take_append_drop]; exact hb) with h | h
        · exact List.mem_append.mpr (.inl h)
        · exact List.mem_append.mpr (.inr (List.mem_append.mpr (.inr h)))
    · exact ⟨p2, B2, v5, none, rfl, gC, hL2, by omega, hB2, hdue2⟩
  rintro σ H9 ⟨l9, B3, v5, v6, rfl, g9, hL9, hB3l, hB3, hdue3⟩
  have S9 := g9.st _ S5
  have hp9 := g9.tup S5 hp5
  -- beyond
  refine ⟨_, rfl, l9, rfl, ⟨_, SqL.of hL9.lst⟩, fun D3 hD3 => lc_G (K := K) (st := st) (a := a) (walk_list (K := K) (a := l9) (xs := B3.map fun b : LB => V.ref b.1)) (fun i v H' => ∃ b : LB, v = .ref b.1 ∧ b.1 ≠ D3 ∧ b.1 ≠ st ∧ H' b.1 = some (.lst (b.2.map V.int)) ∧ ∃ c, B3[i]? = some c ∧ b.2.length = ps.length + 1 ∧ ∀ k, k < ps.length + 1 → gd b.2 k % 97 = gd c.2 k % 97) S9 (by rw [List.length_map]; omega) hD3 (fun _ g => SqL.of (hL9.go g).lst) ?_ ?_ fun ws H12 g12 hd12 hwl hws => ?_⟩
  · rintro i v H' H'' ⟨b, rfl, b1, b2, b3, b4⟩ keep
    exact ⟨b, rfl, b1, b2, keep _ _ b1 b2 b3, b4⟩
  · rintro i x H13 H14 hi g13 ⟨acc, hacc⟩ ⟨rfl, gx⟩ Q' q'
    rw [List.length_map] at hi
    have S13 := g13.st _ S9
    obtain ⟨c, hc⟩ : ∃ c, B3[i]? = some c := ⟨_, List.getElem?_eq_getElem hi⟩
    rw [List.getElem?_map, hc] at gx
    have ex := (Option.some.inj gx).symm
    subst ex
    have hcm := List.mem_of_getElem? hc
    have hck := hB3 c hcm
    have hL13 := hL9.go g13
    refine ⟨rfl, _, rfl, _, rfl, a, st, c.1, c.2, rfl, S13, hL13.rows c hcm, hL13.nes c hcm, by rw [hck.1]; omega, fun t M H15 g15 ht0 ht hMl hM => ?_⟩
    exact q' _ _ g15 ⟨(t, M), rfl, ne_of_none hacc ht0 |>.symm, S13.fresh ht0, ht, c, hc, by show M.length = _; rw [hMl, hck.1], fun k hk => hM k (by rw [hck.1]; exact hk)⟩
  obtain ⟨C, rfl, hC⟩ := pick_list (fun b : LB => V.ref b.1) ws _ hws
  rw [List.length_map, List.length_map] at hwl
  have hCm : ∀ b ∈ C, H12 b.1 = some (.lst (b.2.map V.int)) ∧ b.2.length = ps.length + 1 := fun b hb => by
    obtain ⟨i, hi⟩ := List.mem_iff_getElem?.mp hb
    obtain ⟨_, _, h3, c, _, h5, _⟩ := hC i b hi
    exact ⟨h3, h5⟩
  have hsolC : ∀ x, Sol ps.length (B3.map (·.2)) x ↔ Sol ps.length (C.map (·.2)) x := fun x => by
    rw [sol_ix, sol_ix]
    constructor
    · intro h i b hb
      obtain ⟨_, _, _, c, hc, hbl, hm⟩ := hC i b hb
      exact (Ln.Ok_mod fun q hq => hm q (by omega)).mpr (h i c hc)
    · intro h i c hc
      have hi : i < C.length := by
        have := (List.getElem?_eq_some_iff.mp hc).1
        omega
      obtain ⟨_, _, _, c', hc', hbl, hm⟩ := hC i C[i] (List.getElem?_eq_getElem hi)
      rw [hc] at hc'
      cases hc'
      exact (Ln.Ok_mod fun q hq => hm q (by omega)).mp (h i C[i] (List.getElem?_eq_getElem hi))
  have hdueC := hdue3.congr hsolC
  have hp12 := g12.tup S9 hp9
  have hCl : C.length ≤ 40 := by omega
  -- rows
  refine ⟨_, rfl, D3, rfl, ⟨_, SqL.of hd12⟩, fun D4 hD4 => lc_P (walk_list (K := K) (a := D3) (xs := C.map fun b : LB => V.ref b.1)) (fun i v H' => ∃ w : Rw, v = .ref w.at' ∧ H' w.at' = some (.tup (w.row.map V.int)) ∧ ∃ c, C[i]? = some c ∧ w.row = c.2.take ps.length ∧ w.fin = gd c.2 ps.length) (by rw [List.length_map]; omega) hD4 (fun _ s => SqL.of (s _ _ hd12)) ?_ ?_ fun ws H14 s14 hd14 hwl2 hws2 => ?_⟩
  · rintro i v H' H'' acc ⟨w, rfl, h1, h2⟩ hacc keep
    exact ⟨w, rfl, keep _ _ (fun z => by rw [z, hacc] at h1; cases h1) h1, h2⟩
  · rintro i x H13 H15 hi s13 ⟨rfl, gx⟩ Q' q'
    rw [List.length_map] at hi
    obtain ⟨c, hc⟩ : ∃ c, C[i]? = some c := ⟨_, List.getElem?_eq_getElem hi⟩
    rw [List.getElem?_map, hc] at gx
    have ex := (Option.some.inj gx).symm
    subst ex
    have hck := hCm c (List.mem_of_getElem? hc)
    have ecut : cutV (c.2.map V.int) none (some (-1)) = (c.2.take ps.length).map V.int := by
      have e : c.2.map V.int = (c.2.take ps.length).map V.int ++ [V.int (gd c.2 ps.length)] := by
        rw [← List.map_singleton, ← List.map_append, ← init_last hck.2]
      rw [e, cutInit]
    refine ⟨rfl, _, rfl, _, rfl, _, rfl, c.1, _, rfl, SqL.of (s13 _ _ hck.1), fun p3 hp3 => ?_⟩
    rw [ecut]
    refine ⟨p3, _, rfl, .inl ⟨SqL.of upd_same, fun t ht => ?_⟩⟩
    exact q' _ _ ((same_upd hp3).trans (same_upd ht)) ⟨⟨t, c.2.take ps.length, gd c.2 ps.length⟩, rfl, upd_same, c, hc, rfl, rfl⟩
  obtain ⟨W, rfl, hW⟩ := pick_list (fun w : Rw => V.ref w.at') ws _ hws2
  rw [List.length_map, List.length_map] at hwl2
  have hWm : ∀ w ∈ W, H14 w.at' = some (.tup (w.row.map V.int)) ∧ w.row.length = ps.length := fun w hw => by
    obtain ⟨i, hi⟩ := List.mem_iff_getElem?.mp hw
    obtain ⟨h1, c, hc, h3, _⟩ := hW i w hi
    refine ⟨h1, ?_⟩
    rw [h3, List.length_take, (hCm c (List.mem_of_getElem? hc)).2]
    omega
  have hWe : W.map eqn = C.map (·.2) := by
    refine List.ext_getElem? fun i => ?_
    rw [List.getElem?_map, List.getElem?_map]
    by_cases hi : i < W.length
    · obtain ⟨_, c, hc, h3, h4⟩ := hW i W[i] (List.getElem?_eq_getElem hi)
      rw [List.getElem?_eq_getElem hi, hc]
      show some (W[i].row ++ [W[i].fin]) = some c.2
      rw [h3, h4, ← init_last (hCm c (List.mem_of_getElem? hc)).2]
    · rw [List.getElem?_eq_none (by omega), List.getElem?_eq_none (by omega)]
      rfl
  have hdueW : DueIs ps.length (W.map eqn) ps p v5 := by
    rw [hWe]
    exact hdueC
  -- ends
  have hd14' := s14 _ _ hd12
  refine ⟨_, rfl, D3, rfl, ⟨_, SqL.of hd14'⟩, fun D5 hD5 => lc_F (walk_list (K := K) (a := D3) (xs := C.map fun b : LB => V.ref b.1)) (fun i => V.int ((W.map Rw.fin).getD i 0)) (by rw [List.length_map]; omega) hD5 (fun _ s => SqL.of (s _ _ hd14')) ?_ fun H15 s15 hd15 => ?_⟩
  · rintro i x H16 H17 hi s16 ⟨rfl, gx⟩ Q' q'
    rw [List.length_map] at hi
    obtain ⟨w, hw⟩ : ∃ w, W[i]? = some w := ⟨_, List.getElem?_eq_getElem (by omega : i < W.length)⟩
    obtain ⟨_, c, hc, _, h4⟩ := hW i w hw
    rw [List.getElem?_map, hc] at gx
    have ex := (Option.some.inj gx).symm
    subst ex
    have hck := hCm c (List.mem_of_getElem? hc)
    have hat : atI (c.2.map V.int) (-1) = some (.int (gd c.2 ps.length)) := by
      have e : c.2.map V.int = (c.2.take ps.length).map V.int ++ [V.int (gd c.2 ps.length)] := by
        rw [← List.map_singleton, ← List.map_append, ← init_last hck.2]
      rw [e]
      exact atI_last _ _
    rw [List.getD_eq_getElem?_getD, List.getElem?_map, hw] at q'
    have q2 := q' _ (Same.refl _)
    rw [show (Option.map Rw.fin (some w)).getD 0 = gd c.2 ps.length from h4] at q2
    exact ⟨rfl, _, rfl, _, rfl, c.1, _, _, _, rfl, rfl, SqL.of ((s14.trans s16) _ _ hck.1), hat, q2⟩
  have eends : (List.range (C.map fun b : LB => V.ref b.1).length).map (fun i => V.int ((W.map Rw.fin).getD i 0)) = (W.map Rw.fin).map V.int := by
    rw [List.length_map, ofF_vals]
    congr 1
    exact ofF_gd (by rw [List.length_map]; omega)
  rw [eends] at hd15
  have hWm15 : ∀ w ∈ W, H15 w.at' = some (.tup (w.row.map V.int)) ∧ w.row.length = ps.length := fun w hw => ⟨s15 _ _ (hWm w hw).1, (hWm w hw).2⟩
  have hd14r := s15 _ _ hd14
  have hp15 := s15 _ _ (s14 _ _ hp12)
  -- handed
  refine ⟨_, rfl, D4, _, rfl, .inl (SqL.of hd14r), fun r1 hr1 => ?_⟩
  have t1 := same_upd (o := .lst (W.map fun w : Rw => V.ref w.at')) hr1
  refine ⟨_, rfl, D5, _, rfl, .inl (SqL.of (t1 _ _ hd15)), fun e1 he1 => ?_⟩
  have t2 := same_upd (o := .lst ((W.map Rw.fin).map V.int)) he1
  refine ⟨by show 2 ≤ sizeLine; decide, fun hh hhh => ?_⟩
  have t3 := same_upd (o := .tup [.ref r1, .ref e1]) hhh
  have t12 := t1.trans (t2.trans t3)
  have hr1' := t3 _ _ (t2 _ _ (upd_same (o := HO.lst (W.map fun w : Rw => V.ref w.at'))))
  have he1' := t3 _ _ (upd_same (o := HO.lst ((W.map Rw.fin).map V.int)))
  have hh' : (upd (upd (upd H15 r1 (.lst (W.map fun w : Rw => V.ref w.at'))) e1 (.lst ((W.map Rw.fin).map V.int))) hh (.tup [.ref r1, .ref e1])) hh = some (.tup [.ref r1, .ref e1]) := upd_same
  have hWm16 : ∀ w ∈ W, (upd (upd (upd H15 r1 (.lst (W.map fun w : Rw => V.ref w.at'))) e1 (.lst ((W.map Rw.fin).map V.int))) hh (.tup [.ref r1, .ref e1])) w.at' = some (.tup (w.row.map V.int)) ∧ w.row.length = ps.length := fun w hw => ⟨t12 _ _ (hWm15 w hw).1, (hWm15 w hw).2⟩
  have hD4' := t12 _ _ hd14r
  have hD5' := t12 _ _ hd15
  have hp16 := t12 _ _ hp15
  generalize upd (upd (upd H15 r1 (.lst (W.map fun w : Rw => V.ref w.at'))) e1 (.lst ((W.map Rw.fin).map V.int))) hh (.tup [.ref r1, .ref e1]) = H16 at *
  -- the numbers
  refine ⟨_, rfl, p, _, rfl, .inr (SqT.of hp16), ?_⟩
  rw [List.length_map]
  refine ⟨_, rfl, hh, _, _, _, rfl, rfl, SqT.of hh', atI_nat (j := 0) rfl, _, rfl, hh, _, _, _, rfl, rfl, SqT.of hh', atI_nat (j := 1) rfl, ?_⟩
  dsimp only [tNil]
  refine solved_due (n := ps.length) (W := W) (SqL.of hr1') (SqL.of he1') hWm16 (by omega) hp16 rfl hps hdueW fun v H17 s17 hE => ?_
  refine ⟨_, rfl, v, v5, rfl, hE, fun H18 s18 => ⟨true, rfl, iteF ?_⟩⟩
  have s18' := s17.trans s18
  refine ⟨_, rfl, _, rfl, _, rfl, by show 2 ≤ sizeLine; decide, fun h2 hh2 => ?_⟩
  have t4 := same_upd (o := .tup [.ref D4, .ref D5]) hh2
  refine ne_handed (W := W) ((s18'.trans t4) _ _ hh') upd_same ((s18'.trans t4) _ _ hr1') ((s18'.trans t4) _ _ hD4') ((s18'.trans t4) _ _ he1') ((s18'.trans t4) _ _ hD5') (fun w hw => (s18'.trans t4) _ _ (hWm16 w hw).1) ⟨_, rfl, iteF ?_⟩
  have s19 := s18'.trans t4
  generalize upd H18 h2 (.tup [.ref D4, .ref D5]) = H19 at *
  -- an end alone
  refine ⟨by show 0 ≤ sizeLine; decide, fun u1 hu1 => ⟨by show 1 ≤ sizeLine; decide, fun u2 hu2 => ⟨by show 1 ≤ sizeLine; decide, fun u3 hu3 => ?_⟩⟩⟩
  have y2 := same_upd (o := .lst [V.ref u1]) hu2
  have y3 := same_upd (o := .lst [V.int 5]) hu3
  have y13 := (same_upd (o := .tup []) hu1).trans (y2.trans y3)
  refine ⟨0, u2, u3, [⟨u1, [], 5⟩], rfl, SqL.of (y3 _ _ upd_same), SqL.of upd_same, fun w hw => ?_, by decide, fun H20 s20 _ => ?_, fun t xs H20 s20 _ _ _ _ hj => ?_⟩
  · rw [List.mem_singleton.mp hw]
    exact ⟨SqT.of (y3 _ _ (y2 _ _ upd_same)), rfl⟩
  rotate_left
  · exact absurd (show (0 : Int) % 97 = 5 % 97 from hj.1 [5] List.mem_cons_self) (by decide)
  refine ⟨rfl, _, rfl, iteF ?_⟩
  -- no numbers
  refine ⟨by show 0 ≤ sizeLine; decide, fun w1 hw1 => ⟨by show 0 ≤ sizeLine; decide, fun w2 hw2 => ⟨by show 2 ≤ sizeLine; decide, fun w3 hw3 => ⟨by show 2 ≤ sizeLine; decide, fun w4 hw4 => ?_⟩⟩⟩⟩
  have z2 := same_upd (o := .tup []) hw2
  have z3 := same_upd (o := .lst [V.ref w1, V.ref w2]) hw3
  have z4 := same_upd (o := .lst [V.int 0, V.int 97]) hw4
  have z14 := ((same_upd (o := .tup []) hw1).trans z2).trans (z3.trans z4)
  have hj0 : Just 0 (([⟨w1, [], 0⟩, ⟨w2, [], 97⟩] : List Rw).map eqn) fun _ => 0 := ⟨fun E hE => by
    have hE' : E = [0] ∨ E = [97] := by
      rcases List.mem_cons.mp hE with h | h
      · exact .inl h
      · exact .inr (List.mem_singleton.mp h)
    rcases hE' with rfl | rfl
    · unfold Ln.Ok
      decide
    · unfold Ln.Ok
      decide, fun y _ r hr => absurd hr (Nat.not_lt_zero r)⟩
  refine ⟨0, w3, w4, [⟨w1, [], 0⟩, ⟨w2, [], 97⟩], rfl, SqL.of (z4 _ _ upd_same), SqL.of upd_same, fun w hw => ?_, by decide, fun H21 s21 hno => absurd hj0 (hno _), fun t xs H21 s21 _ ht hxl _ _ => ?_⟩
  · rcases List.mem_cons.mp hw with rfl | hw
    · exact ⟨SqT.of (z4 _ _ (z3 _ _ (z2 _ _ upd_same))), rfl⟩
    · rw [List.mem_singleton.mp hw]
      exact ⟨SqT.of (z4 _ _ (z3 _ _ upd_same)), rfl⟩
  have exs : xs = [] := List.length_eq_zero_iff.mp hxl
  subst exs
  refine ⟨by show 0 ≤ sizeLine; decide, fun w5 hw5 => ?_⟩
  refine ⟨.ref t, .ref w5, rfl, EqV.ints (ns := []) ((same_upd hw5) _ _ ht) upd_same (by decide), fun H22 s22 => ⟨true, rfl, iteF ?_⟩⟩
  have sE := s19.trans (y13.trans (s20.trans (z14.trans (s21.trans ((same_upd (o := .tup []) hw5).trans s22)))))
  -- once more
  refine ⟨_, rfl, p, _, rfl, .inr (SqT.of (sE _ _ hp16)), ?_⟩
  rw [List.length_map]
  refine ⟨_, rfl, hh, _, _, _, rfl, rfl, SqT.of (sE _ _ hh'), atI_nat (j := 0) rfl, _, rfl, hh, _, _, _, rfl, rfl, SqT.of (sE _ _ hh'), atI_nat (j := 1) rfl, ?_⟩
  dsimp only [tNil]
  refine solved_due (n := ps.length) (W := W) (SqL.of (sE _ _ hr1')) (SqL.of (sE _ _ he1')) (fun w hw => ⟨sE _ _ (hWm16 w hw).1, (hWm16 w hw).2⟩) (by omega) (sE _ _ hp16) rfl hps hdueW fun v H23 s23 hE => ?_
  refine ⟨_, rfl, v, v5, rfl, hE, fun H24 s24 => ⟨true, rfl, iteT ?_⟩⟩
  refine ⟨by show 0 ≤ sizeLine; decide, fun x1 hx1 => ⟨by show 0 ≤ sizeLine; decide, fun x2 hx2 => ?_⟩⟩
  refine ⟨1, x1, x2, [], rfl, SqL.of ((same_upd hx2) _ _ upd_same), SqL.of upd_same, (fun _ z => nomatch z), by decide, fun H25 s25 _ => ⟨rfl, ?_⟩, fun t xs H25 s25 _ _ _ _ hj => absurd hj (few_no (fun E hE => absurd (show E ∈ ([] : List (List Int)) from hE) (fun z => nomatch z)) (by decide) _)⟩
  exact q H25
end
theorem all_mk {l : PySem.W.OpenLaw} {w : World} {K : PySem.W.Frag} {h : Heap} {mg : Str → Option Value} {fa : Addr} (X : K.In h) (G : h.Ns mainGlobals mg) (hfa : mg "law" = some (.ref fa))
    {f0 : Addr} {od0 an0 : Option Addr} {sl0 : Array (Option Value)} {oc0 kV0 dc0 pm0 cd0 ct0 : Value} {f1 : Addr} {od1 an1 : Option Addr} {sl1 : Array (Option Value)} {oc1 kV1 dc1 pm1 cd1 ct1 : Value} {f2 : Addr} {od2 an2 : Option Addr} {sl2 : Array (Option Value)} {oc2 kV2 dc2 pm2 cd2 ct2 : Value} {f3 : Addr} {od3 an3 : Option Addr} {sl3 : Array (Option Value)} {oc3 kV3 dc3 pm3 cd3 ct3 : Value} {f4 : Addr} {od4 an4 : Option Addr} {sl4 : Array (Option Value)} {oc4 kV4 dc4 pm4 cd4 ct4 : Value} {f5 : Addr} {od5 an5 : Option Addr} {sl5 : Array (Option Value)} {oc5 kV5 dc5 pm5 cd5 ct5 : Value} {f6 : Addr} {od6 an6 : Option Addr} {sl6 : Array (Option Value)} {oc6 kV6 dc6 pm6 cd6 ct6 : Value} {f7 : Addr} {od7 an7 : Option Addr} {sl7 : Array (Option Value)} {oc7 kV7 dc7 pm7 cd7 ct7 : Value} {f8 : Addr} {od8 an8 : Option Addr} {sl8 : Array (Option Value)} {oc8 kV8 dc8 pm8 cd8 ct8 : Value} {f9 : Addr} {od9 an9 : Option Addr} {sl9 : Array (Option Value)} {oc9 kV9 dc9 pm9 cd9 ct9 : Value} {f10 : Addr} {od10 an10 : Option Addr} {sl10 : Array (Option Value)} {oc10 kV10 dc10 pm10 cd10 ct10 : Value} {f11 : Addr} {od11 an11 : Option Addr} {sl11 : Array (Option Value)} {oc11 kV11 dc11 pm11 cd11 ct11 : Value} {f12 : Addr} {od12 an12 : Option Addr} {sl12 : Array (Option Value)} {oc12 kV12 dc12 pm12 cd12 ct12 : Value} {eNoInverse : Addr} {tWHEEL : Nat}
    (a0 : PySem.W.nsIn K mainGlobals "inverse" = some (some (.ref f0)))
    (l0 : K.lookup f0 = some ⟨oc0, od0, .func (PySem.W.fnOf "inverse" "inverse" (defArgs s_inverse) (defBody s_inverse) (defScope s_inverse) .none kV0 dc0 pm0 an0 cd0 ct0), sl0⟩)
    (c0 : PySem.W.codeIn K cd0 "inverse" = true)
    (k0 : PySem.W.keepIn K (.ref f0) = true)
    (a1 : PySem.W.nsIn K mainGlobals "freed" = some (some (.ref f1)))
    (l1 : K.lookup f1 = some ⟨oc1, od1, .func (PySem.W.fnOf "freed" "freed" (defArgs s_freed) (defBody s_freed) (defScope s_freed) .none kV1 dc1 pm1 an1 cd1 ct1), sl1⟩)
    (c1 : PySem.W.codeIn K cd1 "freed" = true)
    (k1 : PySem.W.keepIn K (.ref f1) = true)
    (a2 : PySem.W.nsIn K mainGlobals "first_place" = some (some (.ref f2)))
    (l2 : K.lookup f2 = some ⟨oc2, od2, .func (PySem.W.fnOf "first_place" "first_place" (defArgs s_first_place) (defBody s_first_place) (defScope s_first_place) .none kV2 dc2 pm2 an2 cd2 ct2), sl2⟩)
    (c2 : PySem.W.codeIn K cd2 "first_place" = true)
    (k2 : PySem.W.keepIn K (.ref f2) = true)
    (a3 : PySem.W.nsIn K mainGlobals "one_at" = some (some (.ref f3)))
    (l3 : K.lookup f3 = some ⟨oc3, od3, .func (PySem.W.fnOf "one_at" "one_at" (defArgs s_one_at) (defBody s_one_at) (defScope s_one_at) .none kV3 dc3 pm3 an3 cd3 ct3), sl3⟩)
    (c3 : PySem.W.codeIn K cd3 "one_at" = true)
    (k3 : PySem.W.keepIn K (.ref f3) = true)
    (a4 : PySem.W.nsIn K mainGlobals "read_back" = some (some (.ref f4)))
    (l4 : K.lookup f4 = some ⟨oc4, od4, .func (PySem.W.fnOf "read_back" "read_back" (defArgs s_read_back) (defBody s_read_back) (defScope s_read_back) .none kV4 dc4 pm4 an4 cd4 ct4), sl4⟩)
    (c4 : PySem.W.codeIn K cd4 "read_back" = true)
    (k4 : PySem.W.keepIn K (.ref f4) = true)
    (a5 : PySem.W.nsIn K mainGlobals "solved" = some (some (.ref f5)))
    (l5 : K.lookup f5 = some ⟨oc5, od5, .func (PySem.W.fnOf "solved" "solved" (defArgs s_solved) (defBody s_solved) (defScope s_solved) .none kV5 dc5 pm5 an5 cd5 ct5), sl5⟩)
    (c5 : PySem.W.codeIn K cd5 "solved" = true)
    (k5 : PySem.W.keepIn K (.ref f5) = true)
    (a6 : PySem.W.nsIn K mainGlobals "_law_start" = some (some (.ref f6)))
    (l6 : K.lookup f6 = some ⟨oc6, od6, .func (PySem.W.fnOf "_law_start" "_law_start" (defArgs s__law_start) (defBody s__law_start) (defScope s__law_start) .none kV6 dc6 pm6 an6 cd6 ct6), sl6⟩)
    (c6 : PySem.W.codeIn K cd6 "_law_start" = true)
    (k6 : PySem.W.keepIn K (.ref f6) = true)
    (a7 : PySem.W.nsIn K mainGlobals "_law_drawn" = some (some (.ref f7)))
    (l7 : K.lookup f7 = some ⟨oc7, od7, .func (PySem.W.fnOf "_law_drawn" "_law_drawn" (defArgs s__law_drawn) (defBody s__law_drawn) (defScope s__law_drawn) .none kV7 dc7 pm7 an7 cd7 ct7), sl7⟩)
    (c7 : PySem.W.codeIn K cd7 "_law_drawn" = true)
    (k7 : PySem.W.keepIn K (.ref f7) = true)
    (a8 : PySem.W.nsIn K mainGlobals "_law_same" = some (some (.ref f8)))
    (l8 : K.lookup f8 = some ⟨oc8, od8, .func (PySem.W.fnOf "_law_same" "_law_same" (defArgs s__law_same) (defBody s__law_same) (defScope s__law_same) .none kV8 dc8 pm8 an8 cd8 ct8), sl8⟩)
    (c8 : PySem.W.codeIn K cd8 "_law_same" = true)
    (k8 : PySem.W.keepIn K (.ref f8) = true)
    (a9 : PySem.W.nsIn K mainGlobals "_law_sum" = some (some (.ref f9)))
    (l9 : K.lookup f9 = some ⟨oc9, od9, .func (PySem.W.fnOf "_law_sum" "_law_sum" (defArgs s__law_sum) (defBody s__law_sum) (defScope s__law_sum) .none kV9 dc9 pm9 an9 cd9 ct9), sl9⟩)
    (c9 : PySem.W.codeIn K cd9 "_law_sum" = true)
    (k9 : PySem.W.keepIn K (.ref f9) = true)
    (a10 : PySem.W.nsIn K mainGlobals "_law_lines" = some (some (.ref f10)))
    (l10 : K.lookup f10 = some ⟨oc10, od10, .func (PySem.W.fnOf "_law_lines" "_law_lines" (defArgs s__law_lines) (defBody s__law_lines) (defScope s__law_lines) .none kV10 dc10 pm10 an10 cd10 ct10), sl10⟩)
    (c10 : PySem.W.codeIn K cd10 "_law_lines" = true)
    (k10 : PySem.W.keepIn K (.ref f10) = true)
    (a11 : PySem.W.nsIn K mainGlobals "_law_beyond" = some (some (.ref f11)))
    (l11 : K.lookup f11 = some ⟨oc11, od11, .func (PySem.W.fnOf "_law_beyond" "_law_beyond" (defArgs s__law_beyond) (defBody s__law_beyond) (defScope s__law_beyond) .none kV11 dc11 pm11 an11 cd11 ct11), sl11⟩)
    (c11 : PySem.W.codeIn K cd11 "_law_beyond" = true)
    (k11 : PySem.W.keepIn K (.ref f11) = true)
    (a12 : PySem.W.nsIn K mainGlobals "law" = some (some (.ref f12)))
    (l12 : K.lookup f12 = some ⟨oc12, od12, .func (PySem.W.fnOf "law" "law" (defArgs s_law) (defBody s_law) (defScope s_law) .none kV12 dc12 pm12 an12 cd12 ct12), sl12⟩)
    (c12 : PySem.W.codeIn K cd12 "law" = true)
    (k12 : PySem.W.keepIn K (.ref f12) = true)
    (gNoInverse : PySem.W.nsIn K mainGlobals "NoInverse" = some (some (.ref eNoInverse)))
    (xNoInverse : PySem.W.excIn K eNoInverse [.type "ValueError", .type "Exception", .type "BaseException", .type "object"] "ValueError.__new__" = true)
    (kkNoInverse : PySem.W.keepIn K (.ref eNoInverse) = true)
    (bbNoInverse : PySem.W.subIn K (.ref eNoInverse) (.type "BaseException") = some true)
    (ttNoInverse : PySem.W.typeIn K (.ref eNoInverse) = some (.type "type"))
    (vWHEEL : PySem.W.nsIn K mainGlobals "WHEEL" = some (some (.int 97 tWHEEL)))
    (zbool : PySem.W.nsIn K mainGlobals "bool" = some none)
    (zenumerate : PySem.W.nsIn K mainGlobals "enumerate" = some none)
    (zint : PySem.W.nsIn K mainGlobals "int" = some none)
    (zisinstance : PySem.W.nsIn K mainGlobals "isinstance" = some none)
    (zlen : PySem.W.nsIn K mainGlobals "len" = some none)
    (zlist : PySem.W.nsIn K mainGlobals "list" = some none)
    (zrange : PySem.W.nsIn K mainGlobals "range" = some none)
    (zreversed : PySem.W.nsIn K mainGlobals "reversed" = some none)
    (zstr : PySem.W.nsIn K mainGlobals "str" = some none)
    (zsum : PySem.W.nsIn K mainGlobals "sum" = some none)
    (ztuple : PySem.W.nsIn K mainGlobals "tuple" = some none)
    (zzip : PySem.W.nsIn K mainGlobals "zip" = some none) :
    ∃ fd : FuncData, (∀ (s : Shared) (v : Value), BindsTo s fd ⟨[v], []⟩ [("_law_script", v)]) ∧ ∀ base : Heap, K.In base → base.Ns mainGlobals mg → FnOk l.prog w K mg base CX0 4 fa fd ["_law_script"] (sp_law K) := by
  have e := hfa.symm.trans (PySem.W.mg_of X G a12)
  cases e
  have F0 := fun_mk (st := s_inverse) l0 c0 k0
  have b0 := F0.binds (ps := ["number"]) fun _ _ _ _ _ _ us hl => match us, hl with | [_], _ => rfl
  have F1 := fun_mk (st := s_freed) l1 c1 k1
  have b1 := F1.binds (ps := ["equation", "leaders"]) fun _ _ _ _ _ _ us hl => match us, hl with | [_, _], _ => rfl
  have F2 := fun_mk (st := s_first_place) l2 c2 k2
  have b2 := F2.binds (ps := ["equation"]) fun _ _ _ _ _ _ us hl => match us, hl with | [_], _ => rfl
  have F3 := fun_mk (st := s_one_at) l3 c3 k3
  have b3 := F3.binds (ps := ["equation", "place"]) fun _ _ _ _ _ _ us hl => match us, hl with | [_, _], _ => rfl
  have F4 := fun_mk (st := s_read_back) l4 c4 k4
  have b4 := F4.binds (ps := ["many", "leaders"]) fun _ _ _ _ _ _ us hl => match us, hl with | [_, _], _ => rfl
  have F5 := fun_mk (st := s_solved) l5 c5 k5
  have b5 := F5.binds (ps := ["many", "rows", "ends"]) fun _ _ _ _ _ _ us hl => match us, hl with | [_, _, _], _ => rfl
  have F6 := fun_mk (st := s__law_start) l6 c6 k6
  have b6 := F6.binds (ps := ["_law_script"]) fun _ _ _ _ _ _ us hl => match us, hl with | [_], _ => rfl
  have F7 := fun_mk (st := s__law_drawn) l7 c7 k7
  have b7 := F7.binds (ps := ["_law_state", "_law_many"]) fun _ _ _ _ _ _ us hl => match us, hl with | [_, _], _ => rfl
  have F8 := fun_mk (st := s__law_same) l8 c8 k8
  have b8 := F8.binds (ps := ["_law_found", "_law_due"]) fun _ _ _ _ _ _ us hl => match us, hl with | [_, _], _ => rfl
  have F9 := fun_mk (st := s__law_sum) l9 c9 k9
  have b9 := F9.binds (ps := ["_law_state", "_law_lines_here"]) fun _ _ _ _ _ _ us hl => match us, hl with | [_, _], _ => rfl
  have F10 := fun_mk (st := s__law_lines) l10 c10 k10
  have b10 := F10.binds (ps := ["_law_state", "_law_planted"]) fun _ _ _ _ _ _ us hl => match us, hl with | [_, _], _ => rfl
  have F11 := fun_mk (st := s__law_beyond) l11 c11 k11
  have b11 := F11.binds (ps := ["_law_state", "_law_line"]) fun _ _ _ _ _ _ us hl => match us, hl with | [_, _], _ => rfl
  have F12 := fun_mk (st := s_law) l12 c12 k12
  have b12 := F12.binds (ps := ["_law_script"]) fun _ _ _ _ _ _ us hl => match us, hl with | [_], _ => rfl
  have T : Txt K mg (⟨f0, _, f1, _, f2, _, f3, _, f4, _, f5, _, f6, _, f7, _, f8, _, f9, _, f10, _, f11, _, fa, _, eNoInverse, tWHEEL⟩ : Ad) := ⟨F0, k0, PySem.W.mg_of X G a0, b0, F1, k1, PySem.W.mg_of X G a1, b1, F2, k2, PySem.W.mg_of X G a2, b2, F3, k3, PySem.W.mg_of X G a3, b3, F4, k4, PySem.W.mg_of X G a4, b4, F5, k5, PySem.W.mg_of X G a5, b5, F6, k6, PySem.W.mg_of X G a6, b6, F7, k7, PySem.W.mg_of X G a7, b7, F8, k8, PySem.W.mg_of X G a8, b8, F9, k9, PySem.W.mg_of X G a9, b9, F10, k10, PySem.W.mg_of X G a10, b10, F11, k11, PySem.W.mg_of X G a11, b11, F12, k12, PySem.W.mg_of X G a12, b12, PySem.W.mg_of X G vWHEEL, PySem.W.mg_none_of X G zbool, PySem.W.mg_none_of X G zenumerate, PySem.W.mg_none_of X G zint, PySem.W.mg_none_of X G zisinstance, PySem.W.mg_none_of X G zlen, PySem.W.mg_none_of X G zlist, PySem.W.mg_none_of X G zrange, PySem.W.mg_none_of X G zreversed, PySem.W.mg_none_of X G zstr, PySem.W.mg_none_of X G zsum, PySem.W.mg_none_of X G ztuple, PySem.W.mg_none_of X G zzip, PySem.W.mg_of X G gNoInverse, xNoInverse, kkNoInverse, bbNoInverse, ttNoInverse⟩
  exact ⟨PySem.W.fnOf "law" "law" (defArgs s_law) (defBody s_law) (defScope s_law) .none kV12 dc12 pm12 an12 cd12 ct12, fun s v => .of_eq rfl, fun base _ _ => ok_law T⟩
end My
open PySem PySem.W PyProof.Rows
set_option maxHeartbeats 0 in
theorem PySem.Challenge.cw_setmend_k10_equations_holds : PySem.Challenge.rw_setmend_k10_equations.Holds := by
  w_on; o_law; k_head; (case hw => w_witness2)
  k_fill
  refine L2.walk_ofB (l := PySem.Challenge.rw_setmend_k10_equations) (n := 63) (k := 4) (x := "_law_script") (CX := fun _ => L2.CX0) (sp := fun w => My.sp_law _) rfl (by decide) rfl ⟨rfl, by decide, by decide⟩ (fun w h Y => PySem.W.kIn_of Y) ?F (fun _ H a ns hl hb hO hS => ⟨a, ns, rfl, hS, hl, fun _ => rfl⟩) (fun _ _ _ _ _ h => h)
  case F =>
    intro w mg fa h KX G hmg
    refine' My.all_mk KX G hmg ?a0 ?l0 ?c0 ?k0 ?a1 ?l1 ?c1 ?k1 ?a2 ?l2 ?c2 ?k2 ?a3 ?l3 ?c3 ?k3 ?a4 ?l4 ?c4 ?k4 ?a5 ?l5 ?c5 ?k5 ?a6 ?l6 ?c6 ?k6 ?a7 ?l7 ?c7 ?k7 ?a8 ?l8 ?c8 ?k8 ?a9 ?l9 ?c9 ?k9 ?a10 ?l10 ?c10 ?k10 ?a11 ?l11 ?c11 ?k11 ?a12 ?l12 ?c12 ?k12 ?gNoInverse ?xNoInverse ?kkNoInverse ?bbNoInverse ?ttNoInverse ?vWHEEL ?zbool ?zenumerate ?zint ?zisinstance ?zlen ?zlist ?zrange ?zreversed ?zstr ?zsum ?ztuple ?zzip
    (case a0 => first | k_is | (first | rfl | k_is)); (case l0 => first | k_is | (first | rfl | k_is)); (case c0 => first | k_is | (first | rfl | k_is)); (case k0 => first | k_is | (first | rfl | k_is)); (case a1 => first | k_is | (first | rfl | k_is)); (case l1 => first | k_is | (first | rfl | k_is)); (case c1 => first | k_is | (first | rfl | k_is)); (case k1 => first | k_is | (first | rfl | k_is)); (case a2 => first | k_is | (first | rfl | k_is)); (case l2 => first | k_is | (first | rfl | k_is)); (case c2 => first | k_is | (first | rfl | k_is)); (case k2 => first | k_is | (first | rfl | k_is)); (case a3 => first | k_is | (first | rfl | k_is)); (case l3 => first | k_is | (first | rfl | k_is)); (case c3 => first | k_is | (first | rfl | k_is)); (case k3 => first | k_is | (first | rfl | k_is)); (case a4 => first | k_is | (first | rfl | k_is)); (case l4 => first | k_is | (first | rfl | k_is)); (case c4 => first | k_is | (first | rfl | k_is)); (case k4 => first | k_is | (first | rfl | k_is)); (case a5 => first | k_is | (first | rfl | k_is)); (case l5 => first | k_is | (first | rfl | k_is)); (case c5 => first | k_is | (first | rfl | k_is)); (case k5 => first | k_is | (first | rfl | k_is)); (case a6 => first | k_is | (first | rfl | k_is)); (case l6 => first | k_is | (first | rfl | k_is)); (case c6 => first | k_is | (first | rfl | k_is)); (case k6 => first | k_is | (first | rfl | k_is)); (case a7 => first | k_is | (first | rfl | k_is)); (case l7 => first | k_is | (first | rfl | k_is)); (case c7 => first | k_is | (first | rfl | k_is)); (case k7 => first | k_is | (first | rfl | k_is)); (case a8 => first | k_is | (first | rfl | k_is)); (case l8 => first | k_is | (first | rfl | k_is)); (case c8 => first | k_is | (first | rfl | k_is)); (case k8 => first | k_is | (first | rfl | k_is)); (case a9 => first | k_is | (first | rfl | k_is)); (case l9 => first | k_is | (first | rfl | k_is)); (case c9 => first | k_is | (first | rfl | k_is)); (case k9 => first | k_is | (first | rfl | k_is)); (case a10 => first | k_is | (first | rfl | k_is)); (case l10 => first | k_is | (first | rfl | k_is)); (case c10 => first | k_is | (first | rfl | k_is)); (case k10 => first | k_is | (first | rfl | k_is)); (case a11 => first | k_is | (first | rfl | k_is)); (case l11 => first | k_is | (first | rfl | k_is)); (case c11 => first | k_is | (first | rfl | k_is)); (case k11 => first | k_is | (first | rfl | k_is)); (case a12 => first | k_is | (first | rfl | k_is)); (case l12 => first | k_is | (first | rfl | k_is)); (case c12 => first | k_is | (first | rfl | k_is)); (case k12 => first | k_is | (first | rfl | k_is)); (case gNoInverse => first | k_is | (first | rfl | k_is)); (case xNoInverse => k_exc); (case kkNoInverse => first | k_is | (first | rfl | k_is)); (case bbNoInverse => first | k_is | (first | rfl | k_is)); (case ttNoInverse => first | k_is | (first | rfl | k_is)); (case vWHEEL => first | k_is | (first | rfl | k_is)); (case zbool => first | k_is | (first | rfl | k_is)); (case zenumerate => first | k_is | (first | rfl | k_is)); (case zint => first | k_is | (first | rfl | k_is)); (case zisinstance => first | k_is | (first | rfl | k_is)); (case zlen => first | k_is | (first | rfl | k_is)); (case zlist => first | k_is | (first | rfl | k_is)); (case zrange => first | k_is | (first | rfl | k_is)); (case zreversed => first | k_is | (first | rfl | k_is)); (case zstr => first | k_is | (first | rfl | k_is)); (case zsum => first | k_is | (first | rfl | k_is)); (case ztuple => first | k_is | (first | rfl | k_is)); (case zzip => first | k_is | (first | rfl | k_is))
