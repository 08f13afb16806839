import PyProof.Rows.All
import Wide.All
import OpenK.AllK
import Wide.FinOn
import PyProof.EqAt
import PyProof.EqKinds
import PyProof.TupleCall
import HandS.ForMost
import HandS.Wide
import HandS.EndBits
import HandS.IsInst
import HandS.Walk
import HandS.Evl
import HandS.Zip
import KE.GoesEnum
import PySem.Challenge.RW_setmend_k11_reach
set_option Elab.async false
set_option linter.all false
set_option maxRecDepth 100000
set_option maxHeartbeats 4000000
namespace My
open PySem PySem.Spec PyProof.Rows L2
/-! ### heaps and the drawing state -/
theorem same_upd {H : Hp} {p : Addr} {o : HO} (h : H p = none) : Same H (upd H p o) := fun b x e => by
  rw [upd_ne (ne_of_none e h)]
  exact e
theorem rd_same {H H' : Hp} {a : Addr} {u : HO} (e : Same H H') (h : Rd H a u) : Rd H' a u := by
  rcases h with h | ⟨o, h⟩
  · exact .inl (e a _ h)
  · exact .inr ⟨o, e a _ h⟩
theorem seqT_same {K : PySem.W.Frag} {H H' : Hp} {a : Addr} {xs : List V} (e : Same H H') (h : SqT K H a xs) : SqT K H' a xs := by
  rcases h with h | h
  · exact .inl (rd_same e h)
  · exact .inr h
theorem int_at {ns : List Int} {i : Nat} {y : V} (h : (ns.map V.int)[i]? = some y) : ∃ z, ns[i]? = some z ∧ y = V.int z := by
  rw [List.getElem?_map] at h
  cases e : ns[i]? with
  | none =>
    rw [e] at h
    cases h
  | some z =>
    rw [e] at h
    exact ⟨z, rfl, (Option.some.inj h).symm⟩
/-! rules whose frame is a comprehension's -/
section
variable {X : Cx} {K : PySem.W.Frag}
theorem ix_tupK (h : X.K = K) : IxR X (rIxT K) := h ▸ ix_tup
theorem ix_listK (h : X.K = K) : IxR X (rIxL K) := h ▸ ix_list
theorem op_in_seqK (h : X.K = K) : OpR X (compareOp .In) (rIn K false) := h ▸ op_in_seq
theorem op_notIn_seqK (h : X.K = K) : OpR X (compareOp .NotIn) (rIn K true) := h ▸ op_notIn_seq
theorem call_isiK' (h : X.K = K) : CallR X (.builtin "isinstance") (rIsi K) := h ▸ call_isi
def rLenQ (K : PySem.W.Frag) : List V → Hp → VK → Prop := fun xs H Q => ∃ p ys, xs = [.ref p] ∧ (SqL K H p ys ∨ SqT K H p ys) ∧ Q (.int ys.length) H
theorem call_len_seqK (h : X.K = K) : CallR X (.builtin "len") (rLenQ K) := h ▸ call_len_seq
end
/-- the law's drawing state: a list of the script, how many were taken, a mixed number, a rest -/
structure StAt (K : PySem.W.Frag) (a st : Addr) (H : Hp) : Prop where
  ex : ∃ i m r : Int, 0 ≤ i ∧ H st = some (.lst [.ref a, .int i, .int m, .int r])
  sc : ∃ ns : List Int, SqL K H a (ns.map V.int)
/-- what drawing may do to the heap -/
structure Go (K : PySem.W.Frag) (st : Addr) (H H' : Hp) : Prop where
  keep : ∀ b o, b ≠ st → H b = some o → H' b = some o
  st : ∀ a, StAt K a st H → StAt K a st H'
section
variable {K : PySem.W.Frag} {st a : Addr} {H H1 H2 H' : Hp}
theorem Go.refl (H : Hp) : Go K st H H := ⟨fun _ _ _ e => e, fun _ h => h⟩
theorem Go.trans (x : Go K st H H1) (y : Go K st H1 H2) : Go K st H H2 := ⟨fun b o hb e => y.keep b o hb (x.keep b o hb e), fun a h => y.st a (x.st a h)⟩
theorem StAt.same (e : Same H H') (h : StAt K a st H) : StAt K a st H' := by
  obtain ⟨⟨i, m, r, hi, hs⟩, ns, hn⟩ := h
  exact ⟨⟨i, m, r, hi, e _ _ hs⟩, ns, e.seq hn⟩
theorem Go.of (e : Same H H') : Go K st H H' := ⟨fun b o _ h => e b o h, fun _ h => h.same e⟩
theorem Go.new {p : Addr} {o : HO} (h : H p = none) : Go K st H (upd H p o) := Go.of (same_upd h)
theorem StAt.ne {b : Addr} {o : HO} (h : StAt K a st H) (e : H b = some o) (hb : ∀ xs, o ≠ .lst xs) : b ≠ st := fun z => by
  obtain ⟨⟨i, m, r, _, hs⟩, _⟩ := h
  rw [z, hs] at e
  exact hb _ (Option.some.inj e).symm
/-- a stored state -/
theorem StAt.upd {i m r : Int} (h : StAt K a st H) (hi : 0 ≤ i) : StAt K a st (upd H st (.lst [.ref a, .int i, .int m, .int r])) := by
  obtain ⟨⟨i0, m0, r0, hi0, hs⟩, ns, hn⟩ := h
  refine ⟨⟨i, m, r, hi, upd_same⟩, ns, ?_⟩
  rcases hn with (hn | ⟨o, hn⟩) | hn
  · have hne : a ≠ st := fun z => by
      rw [z, hs] at hn
      have e := HO.lst.inj (Option.some.inj hn)
      cases ns with
      | nil => cases e
      | cons n r => cases e
    exact .inl (.inl (by rw [upd_ne hne]; exact hn))
  · have hne : a ≠ st := fun z => by
      rw [z, hs] at hn
      cases hn
    exact .inl (.inr ⟨o, by rw [upd_ne hne]; exact hn⟩)
  · exact .inr hn
theorem Go.upd {i m r : Int} (h : StAt K a st H) (hi : 0 ≤ i) : Go K st H (L2.upd H st (.lst [.ref a, .int i, .int m, .int r])) := by
  refine ⟨fun b o hb e => by rw [upd_ne hb]; exact e, fun a' h' => ?_⟩
  have e : a' = a := by
    obtain ⟨⟨i0, m0, r0, hi0, hs⟩, _⟩ := h
    obtain ⟨⟨i1, m1, r1, hi1, hs1⟩, _⟩ := h'
    rw [hs] at hs1
    injection hs1 with e1
    injection e1 with e2
    injection e2 with e3
    injection e3 with e4
    exact e4.symm
  subst e
  exact h'.upd hi
theorem Go.seqT {b : Addr} {xs : List V} (g : Go K st H H') (h : StAt K a st H) (hb : SqT K H b xs) : SqT K H' b xs := by
  rcases hb with (e | ⟨o, e⟩) | e
  · exact .inl (.inl (g.keep b _ (h.ne e (fun _ z => nomatch z)) e))
  · exact .inl (.inr ⟨o, g.keep b _ (h.ne e (fun _ z => nomatch z)) e⟩)
  · exact .inr e
theorem Go.free {p : Addr} (g : Go K st H H') (h : StAt K a st H) (hp : H' p = none) : H p = none := by
  cases e : H p with
  | none => rfl
  | some o =>
    by_cases hq : p = st
    · obtain ⟨⟨i, m, r, _, hs⟩, _⟩ := g.st a h
      rw [hq, hs] at hp
      cases hp
    · rw [g.keep p o hq e] at hp
      cases hp
end
theorem StAt.fresh {K : PySem.W.Frag} {a st p : Addr} {H : Hp} (h : StAt K a st H) (hp : H p = none) : p ≠ st := fun z => by
  obtain ⟨⟨i, m, r, _, hs⟩, _⟩ := h
  rw [z, hs] at hp
  cases hp
/-- a new object may change -/
theorem Go.mut {K : PySem.W.Frag} {st a p : Addr} {H H' : Hp} {o : HO} (g : Go K st H H') (h : StAt K a st H) (hp : H p = none) : Go K st H (L2.upd H' p o) := by
  have hne := h.fresh hp
  refine ⟨fun b u hb e => by rw [upd_ne (ne_of_none e hp)]; exact g.keep b u hb e, fun a' h' => ?_⟩
  obtain ⟨⟨i, m, r, hi, hs⟩, _⟩ := g.st a' h'
  obtain ⟨⟨i0, m0, r0, hi0, hs0⟩, ns, hn⟩ := h'
  refine ⟨⟨i, m, r, hi, by rw [upd_ne hne.symm]; exact hs⟩, ns, ?_⟩
  rcases hn with (hn | ⟨o', hn⟩) | hn
  · have hne' : a' ≠ st := fun z => by
      rw [z, hs0] at hn
      have e := HO.lst.inj (Option.some.inj hn)
      cases ns with
      | nil => cases e
      | cons n r => cases e
    exact .inl (.inl (by rw [upd_ne (ne_of_none hn hp)]; exact g.keep _ _ hne' hn))
  · have hne' : a' ≠ st := fun z => by
      rw [z, hs0] at hn
      cases hn
    exact .inl (.inr ⟨o', by rw [upd_ne (ne_of_none hn hp)]; exact g.keep _ _ hne' hn⟩)
  · exact .inr hn
/-- [f(..) for x in range(n)], each an int of which P holds, drawing meanwhile -/
theorem lc_ints {K : PySem.W.Frag} {st a D : Addr} {H : Hp} {te : TE} {σ : L2.St} {vs : List Nat} {j : Nat} {lo : Int} {n : Nat} {Qd : Hp → Prop} (P : Int → Prop) (hS : StAt K a st H) (hD : H D = none) (hn : n ≤ 10000)
    (hw : ∀ x, wipe ((wipe σ vs).set j (some x)) vs = wipe σ vs)
    (ht : ∀ (i : Nat) (H1 : Hp), i < n → Go K st H H1 → ∀ Q : VK, (∀ (v : Int) (H2 : Hp), P v → Go K st H1 H2 → Q (.int v) H2) → te ((wipe σ vs).set j (some (.int (lo + (i : Int))))) H1 Q)
    (q : ∀ (ns : List Int) (H' : Hp), ns.length = n → (∀ z ∈ ns, P z) → Go K st H H' → H' D = some (.lst (ns.map V.int)) → Qd H') :
    ∃ W : Nat → Nat → Hp → Prop, (∃ m, W 0 m (upd H D (.lst []))) ∧ ∀ i m H, W i m H →
      ((Itr lo n).stop i H ∧ Qd H) ∨ ((Itr lo n).go i H ∧ ∃ Nx : Hp → Prop, (∀ H', Nx H' → ∃ m', m' < m ∧ W (i + 1) m' H') ∧ ∀ x H', (Itr lo n).yld i H x H' → (gName j) x (wipe σ vs) H' fun σ2 H2 => wipe σ2 vs = wipe σ vs ∧ tYes σ2 H2 fun b H3 =>
        if b = true then te σ2 H3 fun y H4 => ∃ acc, H4 D = some (.lst acc) ∧ acc.length < sizeLine ∧ Nx (upd H4 D (.lst (acc ++ [y]))) else Nx H3) := by
  refine lc_range (fun i H' => ∃ ns : List Int, ns.length = i ∧ (∀ z ∈ ns, P z) ∧ Go K st H H' ∧ H' D = some (.lst (ns.map V.int))) ⟨[], rfl, (fun _ z => nomatch z), Go.new hD, upd_same⟩ ?_ ?_
  · rintro i H1 hi ⟨ns, hl, hP, g, hd⟩
    refine ⟨hw _, ?_⟩
    show te ((wipe σ vs).set j (some (.int (lo + (i : Int))))) H1 _
    refine ht i H1 hi g _ fun v H2 hv g2 => ?_
    have hd2 : H2 D = some (.lst (ns.map V.int)) := g2.keep _ _ (hS.fresh hD) hd
    refine ⟨_, hd2, ?_, ns ++ [v], ?_, ?_, (g.trans g2).mut hS hD, ?_⟩
    · rw [List.length_map]
      exact Nat.lt_of_lt_of_le (by omega : ns.length < 10000) (by decide)
    · rw [List.length_append, hl]
      rfl
    · intro z hz
      rcases List.mem_append.mp hz with h | h
      · exact hP z h
      · rw [List.mem_singleton.mp h]
        exact hv
    · rw [upd_same, List.map_append]
      rfl
  · rintro H' ⟨ns, hl, hP, g, hd⟩
    exact q ns H' hl hP g hd
theorem _root_.L2.Same.mut {H H' : Hp} {p : Addr} {o : HO} (e : Same H H') (h : H p = none) : Same H (upd H' p o) := fun b u q => by
  rw [upd_ne (ne_of_none q h)]
  exact e b u q
theorem filt_take {xs : List V} {f : V → Bool} {v : V → V} {i : Nat} {x : V} (h : xs[i]? = some x) : ((xs.take (i + 1)).filter f).map v = ((xs.take i).filter f).map v ++ (if f x = true then [v x] else []) := by
  rw [List.take_add_one, h, List.filter_append, List.map_append]
  congr 1
  show ([x].filter f).map v = _
  by_cases c : f x = true
  · rw [if_pos c, List.filter_cons, if_pos c]
    rfl
  · rw [if_neg c, List.filter_cons, if_neg c]
    rfl
/-- what a comprehension without drawing has made behind i turns -/
def Made (H1 : Hp) (D : Addr) (f : V → Bool) (v : V → V) (xs : List V) (i : Nat) (H' : Hp) : Prop := Same H1 H' ∧ H' D = some (.lst (((xs.take i).filter f).map v))
theorem made_turn {H1 H' : Hp} {D : Addr} {f : V → Bool} {v : V → V} {xs : List V} {i : Nat} {x : V} {tt : TT} {te : TE} {σ2 : L2.St} (hD : H1 D = none) (hz : xs.length ≤ 10000) (hx : xs[i]? = some x) (p : Made H1 D f v xs i H')
    (ht : ∀ H2, Same H1 H2 → ∀ Q : Bool → Hp → Prop, (∀ H3, Same H2 H3 → Q (f x) H3) → tt σ2 H2 Q) (he : f x = true → ∀ H2, Same H1 H2 → ∀ Q : VK, (∀ H3, Same H2 H3 → Q (v x) H3) → te σ2 H2 Q) :
    tt σ2 H' fun b H3 => if b = true then te σ2 H3 fun y H4 => ∃ acc, H4 D = some (.lst acc) ∧ acc.length < sizeLine ∧ Made H1 D f v xs (i + 1) (upd H4 D (.lst (acc ++ [y]))) else Made H1 D f v xs (i + 1) H3 := by
  obtain ⟨sm, hd⟩ := p
  refine ht H' sm _ fun H3 s3 => ?_
  have hd3 := s3 _ _ hd
  by_cases c : f x = true
  · rw [if_pos c]
    refine he c H3 (sm.trans s3) _ fun H4 s4 => ?_
    have hd4 := s4 _ _ hd3
    refine ⟨_, hd4, ?_, (sm.trans (s3.trans s4)).mut hD, ?_⟩
    · rw [List.length_map]
      refine Nat.lt_of_le_of_lt (Nat.le_trans (List.length_filter_le _ _) ?_) (show 10000 < sizeLine by decide)
      rw [List.length_take]
      omega
    · rw [upd_same, filt_take hx, if_pos c]
  · rw [if_neg c]
    refine ⟨sm.trans s3, ?_⟩
    rw [hd3, filt_take hx, if_neg c, List.append_nil]
theorem lc_pureT {K : PySem.W.Frag} {D a : Addr} {H1 : Hp} {σ : L2.St} {vs : List Nat} {j : Nat} {tt : TT} {te : TE} {xs : List V} {Qd : Hp → Prop} (f : V → Bool) (v : V → V) (hD : H1 D = none) (ha : SqT K H1 a xs) (hz : xs.length ≤ 10000)
    (hw : ∀ x, wipe ((wipe σ vs).set j (some x)) vs = wipe σ vs)
    (ht : ∀ x ∈ xs, ∀ H2, Same H1 H2 → ∀ Q : Bool → Hp → Prop, (∀ H3, Same H2 H3 → Q (f x) H3) → tt ((wipe σ vs).set j (some x)) H2 Q) (he : ∀ x ∈ xs, f x = true → ∀ H2, Same H1 H2 → ∀ Q : VK, (∀ H3, Same H2 H3 → Q (v x) H3) → te ((wipe σ vs).set j (some x)) H2 Q)
    (q : ∀ H', Same H1 H' → H' D = some (.lst ((xs.filter f).map v)) → Qd H') :
    ∃ W : Nat → Nat → Hp → Prop, (∃ m, W 0 m (upd H1 D (.lst []))) ∧ ∀ i m H, W i m H →
      ((Itt K a).stop i H ∧ Qd H) ∨ ((Itt K a).go i H ∧ ∃ Nx : Hp → Prop, (∀ H', Nx H' → ∃ m', m' < m ∧ W (i + 1) m' H') ∧ ∀ x H', (Itt K a).yld i H x H' → (gName j) x (wipe σ vs) H' fun σ2 H2 => wipe σ2 vs = wipe σ vs ∧ tt σ2 H2 fun b H3 =>
        if b = true then te σ2 H3 fun y H4 => ∃ acc, H4 D = some (.lst acc) ∧ acc.length < sizeLine ∧ Nx (upd H4 D (.lst (acc ++ [y]))) else Nx H3) :=
  lc_tup (xs := xs) (Made H1 D f v xs) ⟨same_upd hD, upd_same⟩ (fun _ _ _ p => seqT_same p.1 ha) (fun i x H' hx p => ⟨hw x, made_turn hD hz hx p (ht x (List.mem_of_getElem? hx)) (he x (List.mem_of_getElem? hx))⟩)
    fun H' p => q H' p.1 (by rw [p.2, List.take_length])
theorem lc_pureL {K : PySem.W.Frag} {D a : Addr} {H1 : Hp} {σ : L2.St} {vs : List Nat} {j : Nat} {tt : TT} {te : TE} {xs : List V} {Qd : Hp → Prop} (f : V → Bool) (v : V → V) (hD : H1 D = none) (ha : SqL K H1 a xs) (hz : xs.length ≤ 10000)
    (hw : ∀ x, wipe ((wipe σ vs).set j (some x)) vs = wipe σ vs)
    (ht : ∀ x ∈ xs, ∀ H2, Same H1 H2 → ∀ Q : Bool → Hp → Prop, (∀ H3, Same H2 H3 → Q (f x) H3) → tt ((wipe σ vs).set j (some x)) H2 Q) (he : ∀ x ∈ xs, f x = true → ∀ H2, Same H1 H2 → ∀ Q : VK, (∀ H3, Same H2 H3 → Q (v x) H3) → te ((wipe σ vs).set j (some x)) H2 Q)
    (q : ∀ H', Same H1 H' → H' D = some (.lst ((xs.filter f).map v)) → Qd H') :
    ∃ W : Nat → Nat → Hp → Prop, (∃ m, W 0 m (upd H1 D (.lst []))) ∧ ∀ i m H, W i m H →
      ((Itl K a).stop i H ∧ Qd H) ∨ ((Itl K a).go i H ∧ ∃ Nx : Hp → Prop, (∀ H', Nx H' → ∃ m', m' < m ∧ W (i + 1) m' H') ∧ ∀ x H', (Itl K a).yld i H x H' → (gName j) x (wipe σ vs) H' fun σ2 H2 => wipe σ2 vs = wipe σ vs ∧ tt σ2 H2 fun b H3 =>
        if b = true then te σ2 H3 fun y H4 => ∃ acc, H4 D = some (.lst acc) ∧ acc.length < sizeLine ∧ Nx (upd H4 D (.lst (acc ++ [y]))) else Nx H3) :=
  lc_list (xs := xs) (Made H1 D f v xs) ⟨same_upd hD, upd_same⟩ (fun _ _ _ p => p.1.seq ha) (fun i x H' hx p => ⟨hw x, made_turn hD hz hx p (ht x (List.mem_of_getElem? hx)) (he x (List.mem_of_getElem? hx))⟩)
    fun H' p => q H' p.1 (by rw [p.2, List.take_length])
def rgL (lo : Int) (n : Nat) : List V := (List.range n).map fun i : Nat => V.int (lo + (i : Int))
theorem rgL_get {lo : Int} {n i : Nat} (h : i < n) : (rgL lo n)[i]? = some (.int (lo + (i : Int))) := by
  unfold rgL
  rw [List.getElem?_map, List.getElem?_range h]
  rfl
theorem rgL_len (lo : Int) (n : Nat) : (rgL lo n).length = n := by
  unfold rgL
  rw [List.length_map, List.length_range]
theorem lc_pureR {D : Addr} {H1 : Hp} {σ : L2.St} {vs : List Nat} {j : Nat} {tt : TT} {te : TE} {lo : Int} {n : Nat} {Qd : Hp → Prop} (f : V → Bool) (v : V → V) (hD : H1 D = none) (hz : n ≤ 10000)
    (hw : ∀ x, wipe ((wipe σ vs).set j (some x)) vs = wipe σ vs)
    (ht : ∀ i : Nat, i < n → ∀ H2, Same H1 H2 → ∀ Q : Bool → Hp → Prop, (∀ H3, Same H2 H3 → Q (f (.int (lo + (i : Int)))) H3) → tt ((wipe σ vs).set j (some (.int (lo + (i : Int))))) H2 Q)
    (he : ∀ i : Nat, i < n → f (.int (lo + (i : Int))) = true → ∀ H2, Same H1 H2 → ∀ Q : VK, (∀ H3, Same H2 H3 → Q (v (.int (lo + (i : Int)))) H3) → te ((wipe σ vs).set j (some (.int (lo + (i : Int))))) H2 Q)
    (q : ∀ H', Same H1 H' → H' D = some (.lst (((rgL lo n).filter f).map v)) → Qd H') :
    ∃ W : Nat → Nat → Hp → Prop, (∃ m, W 0 m (upd H1 D (.lst []))) ∧ ∀ i m H, W i m H →
      ((Itr lo n).stop i H ∧ Qd H) ∨ ((Itr lo n).go i H ∧ ∃ Nx : Hp → Prop, (∀ H', Nx H' → ∃ m', m' < m ∧ W (i + 1) m' H') ∧ ∀ x H', (Itr lo n).yld i H x H' → (gName j) x (wipe σ vs) H' fun σ2 H2 => wipe σ2 vs = wipe σ vs ∧ tt σ2 H2 fun b H3 =>
        if b = true then te σ2 H3 fun y H4 => ∃ acc, H4 D = some (.lst acc) ∧ acc.length < sizeLine ∧ Nx (upd H4 D (.lst (acc ++ [y]))) else Nx H3) :=
  lc_range (Made H1 D f v (rgL lo n)) ⟨same_upd hD, upd_same⟩ (fun i H' hi p => ⟨hw _, made_turn hD (by rw [rgL_len]; exact hz) (rgL_get hi) p (ht i hi) (he i hi)⟩)
    fun H' p => q H' p.1 (by rw [p.2, List.take_of_length_le (by rw [rgL_len]; exact Nat.le_refl _)])
/-- a set of marks as a list -/
structure SetL (ms : List Int) : Prop where
  up : ms.Pairwise (· < ·)
  bd : ∀ z ∈ ms, 1 ≤ z ∧ z ≤ 96
theorem SetL.len {ms : List Int} (h : SetL ms) : ms.length ≤ 96 := by
  have key : ∀ (l : List Int) (lo : Int), l.Pairwise (· < ·) → (∀ z ∈ l, lo ≤ z ∧ z ≤ 96) → (l.length : Int) ≤ 96 - lo + 1 ∨ l = [] := by
    intro l
    induction l with
    | nil => intro _ _ _; exact .inr rfl
    | cons x r ih =>
      intro lo hp hb
      have hp' := List.pairwise_cons.mp hp
      have hx := hb x List.mem_cons_self
      left
      rcases ih (x + 1) hp'.2 (fun z hz => ⟨hp'.1 z hz, (hb z (List.mem_cons_of_mem _ hz)).2⟩) with h | h
      · rw [List.length_cons]
        omega
      · rw [h]
        show ((0 + 1 : Nat) : Int) ≤ _
        omega
  rcases key ms 1 h.up h.bd with h | h
  · omega
  · rw [h]
    exact Nat.zero_le _
theorem SetL.nil : SetL [] := ⟨.nil, fun _ z => nomatch z⟩
def sp__law_set (K : PySem.W.Frag) : Sp := fun vs H Q _ => ∃ (a st : Addr) (most : Int), vs = [.ref st, .int most] ∧ StAt K a st H ∧ 0 ≤ most ∧ most ≤ 96 ∧
  ∀ (t : Addr) (ms : List Int) H', SetL ms → (ms.length : Int) ≤ most → Go K st H H' → H t = none → H' t = some (.tup (ms.map V.int)) → Q (.ref t) H'
theorem pickI {ns : List Int} {v lo hi : Int} (h : ∀ z ∈ ns, lo ≤ z ∧ z ≤ hi) (h0 : 0 ≤ v) (h1 : v < (ns.length : Int)) : ∃ z, atI (ns.map V.int) v = some (.int z) ∧ lo ≤ z ∧ z ≤ hi := by
  have hlt : v.toNat < ns.length := by omega
  refine ⟨ns[v.toNat], at_of (j := v.toNat) (by omega) ?_, h _ (List.getElem_mem hlt)⟩
  rw [List.getElem?_map, List.getElem?_eq_getElem hlt]
  rfl
theorem nat8000 {n : Int} (h0 : 0 ≤ n) (h : n < 10 ^ 70) : n.natAbs < 2 ^ 8000 := Nat.lt_of_lt_of_le (by omega : n.natAbs < 10 ^ 70) (by decide +kernel)
/-! ### the promises of the drawing defs -/
def sp__law_start (K : PySem.W.Frag) : Sp := fun vs H Q _ => ∃ (a : Addr) (ns : List Int), vs = [.ref a] ∧ SqL K H a (ns.map V.int) ∧
  ∀ st H', H st = none → Same H H' → StAt K a st H' → Q (.ref st) H'
def sp__law_drawn (K : PySem.W.Frag) : Sp := fun vs H Q _ => ∃ (a st : Addr) (n : Int), vs = [.ref st, .int n] ∧ StAt K a st H ∧ 0 < n ∧ n.natAbs < 2 ^ 8000 ∧
  ∀ (v : Int) H', 0 ≤ v → v < n → Go K st H H' → Q (.int v) H'
end My
namespace My
open PySem PySem.Spec PyProof.Rows L2
/-- a comprehension over any walk, without ifs, without drawing: item i is F i -/
theorem lc_F {J : It} {n : Nat} {G : Hp → Prop} {Y : Nat → Hp → V → Hp → Prop} (w : Walk J n G Y) {te : TE} {g : TG} {vs : List Nat} {σ : L2.St} {H1 : Hp} {D : Addr} {Qd : Hp → Prop} (F : Nat → V) (hz : n ≤ 10000) (hD : H1 D = none) (hG : ∀ H, Same H1 H → G H)
    (ht : ∀ i x H H', i < n → Same H1 H → Y i H x H' → ∀ Q : VK, (∀ H3, Same H H3 → Q (F i) H3) → g x (wipe σ vs) H' fun σ2 H2 => wipe σ2 vs = wipe σ vs ∧ te σ2 H2 Q)
    (k : ∀ H', Same H1 H' → H' D = some (.lst ((List.range n).map F)) → Qd H') :
    ∃ W : Nat → Nat → Hp → Prop, (∃ m, W 0 m (upd H1 D (.lst []))) ∧ ∀ i m H, W i m H →
      (J.stop i H ∧ Qd H) ∨ (J.go i H ∧ ∃ Nx : Hp → Prop, (∀ H', Nx H' → ∃ m', m' < m ∧ W (i + 1) m' H') ∧ ∀ x H', J.yld i H x H' → g x (wipe σ vs) H' fun σ2 H2 => wipe σ2 vs = wipe σ vs ∧ tYes σ2 H2 fun b H3 =>
        if b = true then te σ2 H3 fun y H4 => ∃ acc, H4 D = some (.lst acc) ∧ acc.length < sizeLine ∧ Nx (upd H4 D (.lst (acc ++ [y]))) else Nx H3) := by
  refine lc_it w (fun i H' => Same H1 H' ∧ H' D = some (.lst ((List.range i).map F))) ⟨same_upd hD, upd_same⟩ (fun i H _ p => hG H p.1) ?_ ?_
  · rintro i x H H' hi ⟨sm, hd⟩ y
    refine ht i x H H' hi sm y _ fun H3 s3 => ?_
    refine ⟨_, s3 _ _ hd, ?_, (sm.trans s3).mut hD, ?_⟩
    · rw [List.length_map, List.length_range]
      exact Nat.lt_of_lt_of_le (by omega : i < 10001) (by decide)
    · rw [upd_same, List.range_succ, List.map_append]
      rfl
  · rintro H' ⟨sm, hd⟩
    exact k H' sm hd
/-- the same with an if: items i of which f i holds -/
theorem lc_FT {J : It} {n : Nat} {G : Hp → Prop} {Y : Nat → Hp → V → Hp → Prop} (w : Walk J n G Y) {tt : TT} {te : TE} {g : TG} {vs : List Nat} {σ : L2.St} {H1 : Hp} {D : Addr} {Qd : Hp → Prop} (f : Nat → Bool) (F : Nat → V) (hz : n ≤ 10000) (hD : H1 D = none) (hG : ∀ H, Same H1 H → G H)
    (ht : ∀ i x H H', i < n → Same H1 H → Y i H x H' → ∀ Q : L2.St → Bool → Hp → Prop, (∀ σ2 H3, Same H H3 → (f i = true → ∀ Q2 : VK, (∀ H4, Same H3 H4 → Q2 (F i) H4) → te σ2 H3 Q2) → Q σ2 (f i) H3) → g x (wipe σ vs) H' fun σ2 H2 => wipe σ2 vs = wipe σ vs ∧ tt σ2 H2 (Q σ2))
    (k : ∀ H', Same H1 H' → H' D = some (.lst (((List.range n).filter f).map F)) → Qd H') :
    ∃ W : Nat → Nat → Hp → Prop, (∃ m, W 0 m (upd H1 D (.lst []))) ∧ ∀ i m H, W i m H →
      (J.stop i H ∧ Qd H) ∨ (J.go i H ∧ ∃ Nx : Hp → Prop, (∀ H', Nx H' → ∃ m', m' < m ∧ W (i + 1) m' H') ∧ ∀ x H', J.yld i H x H' → g x (wipe σ vs) H' fun σ2 H2 => wipe σ2 vs = wipe σ vs ∧ tt σ2 H2 fun b H3 =>
        if b = true then te σ2 H3 fun y H4 => ∃ acc, H4 D = some (.lst acc) ∧ acc.length < sizeLine ∧ Nx (upd H4 D (.lst (acc ++ [y]))) else Nx H3) := by
  refine lc_it w (fun i H' => Same H1 H' ∧ H' D = some (.lst (((List.range i).filter f).map F))) ⟨same_upd hD, upd_same⟩ (fun i H _ p => hG H p.1) ?_ ?_
  · rintro i x H H' hi ⟨sm, hd⟩ y
    refine ht i x H H' hi sm y _ fun σ2 H3 s3 he => ?_
    have hd3 := s3 _ _ hd
    have er : (List.range (i + 1)).filter f = (List.range i).filter f ++ (if f i = true then [i] else []) := by
      rw [List.range_succ, List.filter_append, List.filter_cons]
      rfl
    by_cases c : f i = true
    · rw [if_pos c] at er ⊢
      refine he c _ fun H4 s4 => ⟨_, s4 _ _ hd3, ?_, (sm.trans (s3.trans s4)).mut hD, ?_⟩
      · rw [List.length_map]
        refine Nat.lt_of_le_of_lt (List.length_filter_le _ _) ?_
        rw [List.length_range]
        exact Nat.lt_of_lt_of_le (by omega : i < 10001) (by decide)
      · rw [upd_same, er, List.map_append]
        rfl
    · rw [if_neg c] at er ⊢
      refine ⟨sm.trans s3, ?_⟩
      rw [hd3, er, List.append_nil]
  · rintro H' ⟨sm, hd⟩
    exact k H' sm hd
end My
namespace Mz
open PySem PySem.Spec PyProof.Rows L2
/-! ### zip of a list or a tuple with a list or a tuple -/
/-- a list (true) or a tuple (false) -/
def Sq (K : PySem.W.Frag) (H : Hp) : Bool → Addr → List V → Prop
  | true => SqL K H
  | false => SqT K H
def Wk (h : Heap) : Bool → Addr → Addr → Nat → Prop
  | true => fun it l i => h.IsListIter it l i
  | false => fun it l i => h.IsTupleIter it l i
def Im (h : Heap) : Bool → Addr → Array Value → Prop
  | true => fun l m => h.IsList l m
  | false => fun l m => h.IsTuple l m
theorem drw {P : Program} {w : World} {A : Around} (hh : A.handled = none) {it l : Addr} (ne : l ≠ it) (m : Array Value) : ∀ p : Bool, Draws P w A it [it, l] m.size (fun i v => m[i]? = some v) (fun i h => Wk h p it l i ∧ Im h p l m)
  | true => Draws.list hh it l ne m
  | false => Draws.tuple hh it l ne m
theorem Wk.live {h : Heap} {p : Bool} {it l : Addr} {i : Nat} (x : Wk h p it l i) : ∃ o, h.get? it = some o ∧ ∀ v, o.data ≠ .cell v := by
  cases p with
  | false =>
    obtain ⟨o, e, _, d⟩ := x
    exact ⟨o, e, fun v z => by rw [d] at z; exact nomatch z⟩
  | true =>
    obtain ⟨o, e, _, d⟩ := x
    exact ⟨o, e, fun v z => by rw [d] at z; exact nomatch z⟩
theorem Wk.on {h h' : Heap} {p : Bool} {it l : Addr} {i : Nat} (x : Wk h p it l i) (k : ∀ o, h.get? it = some o → h'.get? it = some o) : Wk h' p it l i := by
  cases p with
  | false => exact Heap.IsTupleIter.at x k
  | true => exact Heap.IsListIter.at x k
theorem stands {X : Cx} {pins : List (Addr × Obj)} {σ : L2.St} {H : Hp} {s : Shared} {a : Addr} {xs : List V} (I : Inv X pins σ H s) {p : Bool} (h : Sq X.K H p a xs) : ∃ its, Vals xs its ∧ Im s.heap p a its.toArray ∧ a < s.heap.objs.size := by
  cases p with
  | false =>
    obtain ⟨its, rv, q, _⟩ := I.tuple h
    obtain ⟨o, ho, _⟩ := id q
    exact ⟨its, rv, q, Heap.lt_size ho⟩
  | true =>
    obtain ⟨its, rv, q, _⟩ := I.list h
    exact ⟨its, rv, q.isList, q.lt⟩
theorem one {X : Cx} {pins : List (Addr × Obj)} {σ : L2.St} {H : Hp} {s : Shared} {a : Addr} {xs ys : List V} (I : Inv X pins σ H s) {p : Bool} (h : Sq X.K H p a xs) (h' : Sq X.K H p a ys) : xs = ys := by
  cases p with
  | false => exact I.tuple_inj h h'
  | true => exact I.list_inj h h'
/-- both as they stand at each turn, the items in new pairs -/
def It2 (K : PySem.W.Frag) (p q : Bool) (a b : Addr) : It where
  go i H := ∃ (xs ys : List V) (x y : V), (Sq K H p a xs ∧ Sq K H q b ys) ∧ xs[i]? = some x ∧ ys[i]? = some y
  yld i H v H' := ∃ (T : Addr) (x y : V), v = .ref T ∧ H T = none ∧ H' = upd H T (.tup [x, y]) ∧ (∀ xs, Sq K H p a xs → xs[i]? = some x) ∧ ∀ ys, Sq K H q b ys → ys[i]? = some y
  stop i H := ∃ xs ys : List V, (Sq K H p a xs ∧ Sq K H q b ys) ∧ i ≤ xs.length ∧ i ≤ ys.length ∧ (i = xs.length ∨ i = ys.length)
theorem turn2 {P : Program} {w : World} {K : PySem.W.Frag} {es : List Expr} {k : Nat} {tp : Pos} {a b z U O j1 j2 : Addr} {p q : Bool} (S : ZipSep2 z U O j1 j2 [j1, a] [j2, b]) (n1 : a ≠ j1) (n2 : b ≠ j2) :
    Turn P w K (.Tuple es k tp) (It2 K p q a b) [z, U, O, j1, j2] z (fun i h => (IsZip h z U O .none ∧ IsTupOf2 h U (.ref j1) (.ref j2) ∧ ∃ x y, IsTupOf2 h O x y) ∧ Wk h p j1 a i ∧ Wk h q j2 b i) where
  mem := List.mem_cons_self
  obj := by
    rintro i h ⟨⟨f1, f2, x, y, f3⟩, f4, f5⟩ c hc
    rcases (by simpa using hc : c = z ∨ c = U ∨ c = O ∨ c = j1 ∨ c = j2) with e | e | e | e | e <;> subst e
    · exact ⟨_, f1, (fun _ y => nomatch y)⟩
    · exact ⟨_, f2, (fun _ y => nomatch y)⟩
    · exact ⟨_, f3, (fun _ y => nomatch y)⟩
    · exact f4.live
    · exact f5.live
  keep := by
    rintro i h h' ⟨⟨f1, f2, x, y, f3⟩, f4, f5⟩ kk
    exact ⟨⟨kk _ (by simp) _ f1, kk _ (by simp) _ f2, x, y, kk _ (by simp) _ f3⟩, f4.on (kk _ (by simp)), f5.on (kk _ (by simp))⟩
  item := by
    rintro X rfl rfl rfl calm i pins s σ H E I fr ⟨⟨f1, f2, x0, y0, f3⟩, f4, f5⟩ ⟨xs, ys, x, y, ⟨g1, g2⟩, gx, gy⟩
    obtain ⟨m1, r1, p1, _⟩ := stands I g1
    obtain ⟨m2, r2, p2, _⟩ := stands I g2
    obtain ⟨u1, k1, t1⟩ := r1.get gx
    obtain ⟨u2, k2, t2⟩ := r2.get gy
    have c1 : i < m1.toArray.size := by
      rw [List.size_toArray]
      exact (List.getElem?_eq_some_iff.mp k1).1
    have c2 : i < m2.toArray.size := by
      rw [List.size_toArray]
      exact (List.getElem?_eq_some_iff.mp k2).1
    have zl : z < s.heap.objs.size := Heap.lt_size f1
    refine wpAny_pyNext_zipD2_item S (drw (A := X.A.in1) (show X.A.in1.handled = none from I.ok.hd calm) n1 m1.toArray p) (drw (A := X.A.in1) (show X.A.in1.handled = none from I.ok.hd calm) n2 m2.toArray q) f1 f2 f3 ⟨f4, p1⟩ ⟨f5, p2⟩ c1 c2 fun v1 v2 h1 tk w1 w2 z1 O1 s1 s2 T1 _ kk => ?_
    have e1 : v1 = u1 := by
      rw [show m1.toArray[i]? = m1[i]? by simp, k1] at w1
      exact (Option.some.inj w1).symm
    have e2 : v2 = u2 := by
      rw [show m2.toArray[i]? = m2[i]? by simp, k2] at w2
      exact (Option.some.inj w2).symm
    subst e1 e2
    refine ⟨_, rfl, wpAny_letOwnedTupleGo_zip (s := { s with heap := h1, toks := tk }) z1 fun h2 z2 sb => ?_⟩
    have T2 := (sb.2 _ (Nat.ne_of_gt zl)).trans T1
    have nw : ObjOk X.prog X.w (upd H s.heap.objs.size (.tup [x, y])) h2 s.heap.objs.size (.tup [x, y]) := ⟨by show 2 ≤ sizeLine; decide, [v1, v2], .cons t1 (.cons t2 .nil), _, T2, rfl, _, rfl⟩
    have fz : ∀ c ∈ [z, U, O, j1, j2], c < s.heap.objs.size := fun c hc => by
      rcases (by simpa using hc : c = z ∨ c = U ∨ c = O ∨ c = j1 ∨ c = j2) with e | e | e | e | e <;> subst e
      · exact zl
      · exact Heap.lt_size f2
      · exact Heap.lt_size f3
      · exact Heap.lt_size f4.live.choose_spec.1
      · exact Heap.lt_size f5.live.choose_spec.1
    have J := I.turnedNew (t' := tk) (ch := [z, U, O, j1, j2]) (fun c o hc e => (sb.2 c fun ez => hc (by rw [ez]; simp)).trans (kk c o (fun ez => hc (by rw [ez]; simp)) (fun ez => hc (by rw [ez]; simp)) (fun ez => hc (by rw [ez]; simp)) (fun ez => hc (by rw [ez]; simp)) e)) fr (Nat.le_refl _) nw
    refine ⟨.ref s.heap.objs.size, _, J, rfl, ⟨_, x, y, rfl, I.hok.fresh (Nat.le_refl _), rfl, fun l hl => one I hl g1 ▸ gx, fun l hl => one I hl g2 ▸ gy⟩, ⟨⟨z2, ?_, v1, v2, ?_⟩, ?_, ?_⟩, fun c hc => ?_⟩
    · exact (sb.2 _ S.TIz).trans (kk _ _ S.TIz S.TITO S.TIi1 S.TIi2 f2)
    · exact (sb.2 _ S.TOz).trans O1
    · exact s1.1.on fun o e => (sb.2 _ S.zi1.symm).trans e
    · exact s2.1.on fun o e => (sb.2 _ S.zi2.symm).trans e
    · rw [upd_ne (Nat.ne_of_lt (fz c hc))]
      exact (fr c hc).1
  done := by
    rintro X rfl rfl rfl calm i pins s σ H E I fr ⟨⟨f1, f2, x0, y0, f3⟩, f4, f5⟩ ⟨xs, ys, ⟨g1, g2⟩, b1, b2, be⟩
    obtain ⟨m1, r1, p1, _⟩ := stands I g1
    obtain ⟨m2, r2, p2, _⟩ := stands I g2
    have l1 : m1.toArray.size = xs.length := by rw [List.size_toArray, r1.length]
    have l2 : m2.toArray.size = ys.length := by rw [List.size_toArray, r2.length]
    refine wpAny_pyNext_zipD2_end S (drw (A := X.A.in1) (show X.A.in1.handled = none from I.ok.hd calm) n1 m1.toArray p) (drw (A := X.A.in1) (show X.A.in1.handled = none from I.ok.hd calm) n2 m2.toArray q) f1 f2 f3 ⟨f4, p1⟩ ⟨f5, p2⟩ (by rw [l1]; exact b1) (by rw [l2]; exact b2) (by rw [l1, l2]; exact be) fun h1 tk kk => ⟨rfl, ?_⟩
    exact I.turnedL (t' := tk) (ch := [z, U, O, j1, j2]) (fun c o hc e => kk c o (fun ez => hc (by rw [ez]; simp)) (fun ez => hc (by rw [ez]; simp)) (fun ez => hc (by rw [ez]; simp)) (fun ez => hc (by rw [ez]; simp)) e) fr
  self := fun A i s Q E st h => wpAny_pyIter_zip st.1.1 h
theorem walk2 {K : PySem.W.Frag} {p q : Bool} {a b : Addr} {xs ys : List V} {n : Nat} (hn : n = min xs.length ys.length) : Walk (It2 K p q a b) n (fun H => Sq K H p a xs ∧ Sq K H q b ys) (YPair (fun i => xs[i]?) (fun i => ys[i]?)) where
  goes i H hi G := ⟨xs, ys, xs[i]'(by omega), ys[i]'(by omega), G, List.getElem?_eq_getElem _, List.getElem?_eq_getElem _⟩
  stops H G := ⟨xs, ys, G, by omega, by omega, by omega⟩
  yields := by
    rintro i H v H' hi G ⟨T, x, y, rfl, fr, e, g1, g2⟩
    exact ⟨T, x, y, rfl, fr, e, g1 xs G.1, g2 ys G.2⟩
def iZip2 (K : PySem.W.Frag) (p q : Bool) (ta : TA) : TI := fun σ H R => ta σ H fun vs H1 => ∃ a b xs ys, vs = [.ref a, .ref b] ∧ Sq K H1 p a xs ∧ Sq K H1 q b ys ∧ R (It2 K p q a b) H1
theorem begins {s : Shared} : ∀ (p : Bool) (a : Addr) (m : Array Value), ∃ o, Begins (.ref a) o (fun h => Im h p a m) ∧ ∀ h b, h.get? b = some o → Wk h p b a 0
  | true, a, m => ⟨_, begins_list a m, fun h b e => ⟨_, e, rfl, rfl⟩⟩
  | false, a, m => ⟨_, begins_tuple a m, fun h b e => ⟨_, e, rfl, rfl⟩⟩
theorem pi_zip2 {X : Cx} {e e2 : Expr} {ta : TA} {l pos tpos : Pos} {es : List Expr} {k : Nat} {p q : Bool} (hg : Gl X "zip") (hm : X.mg "zip" = none) (ha : PA X [e, e2] ta)
    (hs : starEach [e, e2] X.env = (false, eval e X.env) :: starEach [e2] X.env := by rfl) (hpl : (backTo pos (starEach [e2] X.env)).any (·.1) = false := by rfl) :
    PI X (.Tuple es k tpos) (.Call (.Name "zip" l) [e, e2] [] pos) (iZip2 X.K p q ta) where
  run pins s σ H R I h := by
    refine Call_ (ld_blt I hg hm PyProof.Rows.boot_zip (PyProof.Rows.callWith_type1 (thn (ha.run pos pins s σ H _ I h) ?_) hs hpl))
    rintro us s1 ⟨vs, H1, J, rr, a, b, xs, ys, rfl, g1, g2, R1⟩
    obtain ⟨u1, u2, rfl, c1, c2⟩ := vals2 rr
    cases (show u1 = Value.ref a from c1)
    cases (show u2 = Value.ref b from c2)
    obtain ⟨m1, _, p1, l1⟩ := stands J g1
    obtain ⟨m2, _, p2, l2⟩ := stands J g2
    obtain ⟨o1, B1, w1⟩ := begins (s := s1) p a m1.toArray
    obtain ⟨o2, B2, w2⟩ := begins (s := s1) q b m2.toArray
    refine zip_begins2 B1 B2 p1 p2 fun h' z1 U1 O1 k1 k2 _ kk => wpAny_pyIter_zip z1 ?_
    have J2 : Inv X pins σ H1 { s1 with heap := h' } := J.kept (t' := s1.toks) kk
    refine ⟨s1.heap.objs.size + 4, [s1.heap.objs.size + 4, s1.heap.objs.size + 2, s1.heap.objs.size + 3, s1.heap.objs.size, s1.heap.objs.size + 1], _, _, H1, rfl, J2, turn2 (zip_sep2 (N := s1.heap.objs.size) (fp1 := [a]) (fp2 := [b]) (fun c hc => ?_) fun c hc => ?_) (Nat.ne_of_lt l1) (Nat.ne_of_lt (Nat.lt_succ_of_lt l2)), ⟨⟨z1, U1, _, _, O1⟩, w1 _ _ k1, w2 _ _ k2⟩, fun c hc => ?_, R1⟩
    · rw [List.mem_singleton.mp hc]
      exact l1
    · rw [List.mem_singleton.mp hc]
      exact l2
    · have le : s1.heap.objs.size ≤ c := by
        rcases (by simpa using hc : c = s1.heap.objs.size + 4 ∨ c = s1.heap.objs.size + 2 ∨ c = s1.heap.objs.size + 3 ∨ c = s1.heap.objs.size ∨ c = s1.heap.objs.size + 1) with e | e | e | e | e <;> subst e
        · exact Nat.le_add_right _ 4
        · exact Nat.le_add_right _ 2
        · exact Nat.le_add_right _ 3
        · exact Nat.le_refl _
        · exact Nat.le_add_right _ 1
      exact J.fpOk le (J.hok.fresh le)
end Mz
namespace My
open PySem PySem.Spec PyProof.Rows L2
/-- a comprehension over any walk, without ifs, without drawing: of item i P holds -/
theorem lc_P {J : It} {n : Nat} {G : Hp → Prop} {Y : Nat → Hp → V → Hp → Prop} (w : Walk J n G Y) {te : TE} {g : TG} {vs : List Nat} {σ : L2.St} {H1 : Hp} {D : Addr} {Qd : Hp → Prop} (P : Nat → V → Hp → Prop) (hz : n ≤ 10000) (hD : H1 D = none) (hG : ∀ H, Same H1 H → G H)
    (hP : ∀ i v H H' acc, P i v H → H D = some (.lst acc) → (∀ b o, b ≠ D → H b = some o → H' b = some o) → P i v H')
    (ht : ∀ i x H H', i < n → Same H1 H → Y i H x H' → ∀ Q : VK, (∀ v H3, Same H H3 → P i v H3 → Q v H3) → g x (wipe σ vs) H' fun σ2 H2 => wipe σ2 vs = wipe σ vs ∧ te σ2 H2 Q)
    (k : ∀ ws H', Same H1 H' → H' D = some (.lst ws) → ws.length = n → (∀ i v, ws[i]? = some v → P i v H') → Qd H') :
    ∃ W : Nat → Nat → Hp → Prop, (∃ m, W 0 m (upd H1 D (.lst []))) ∧ ∀ i m H, W i m H →
      (J.stop i H ∧ Qd H) ∨ (J.go i H ∧ ∃ Nx : Hp → Prop, (∀ H', Nx H' → ∃ m', m' < m ∧ W (i + 1) m' H') ∧ ∀ x H', J.yld i H x H' → g x (wipe σ vs) H' fun σ2 H2 => wipe σ2 vs = wipe σ vs ∧ tYes σ2 H2 fun b H3 =>
        if b = true then te σ2 H3 fun y H4 => ∃ acc, H4 D = some (.lst acc) ∧ acc.length < sizeLine ∧ Nx (upd H4 D (.lst (acc ++ [y]))) else Nx H3) := by
  refine lc_it w (fun i H' => ∃ ws, Same H1 H' ∧ H' D = some (.lst ws) ∧ ws.length = i ∧ ∀ j v, ws[j]? = some v → P j v H') ⟨[], same_upd hD, upd_same, rfl, (fun _ _ z => nomatch z)⟩ (fun i H _ ⟨_, p, _⟩ => hG H p) ?_ ?_
  · rintro i x H H' hi ⟨ws, sm, hd, hl, hp⟩ y
    refine ht i x H H' hi sm y _ fun v H3 s3 pv => ?_
    have hd3 := s3 _ _ hd
    refine ⟨_, hd3, Nat.lt_of_lt_of_le (by omega : ws.length < 10001) (by decide), ws ++ [v], (sm.trans s3).mut hD, upd_same, by rw [List.length_append, hl]; rfl, fun j u hj => ?_⟩
    have up : ∀ j u, P j u H3 → P j u (upd H3 D (.lst (ws ++ [v]))) := fun j u hu => hP j u H3 _ _ hu hd3 fun b o hb e => by rw [upd_ne hb]; exact e
    rcases Nat.lt_trichotomy j i with c | c | c
    · rw [List.getElem?_append_left (by omega)] at hj
      exact up j u (hP j u H H3 _ (hp j u hj) hd fun b o _ e => s3 b o e)
    · subst c
      rw [List.getElem?_append_right (by omega), hl, Nat.sub_self] at hj
      cases hj
      exact up j v pv
    · rw [List.getElem?_eq_none (by rw [List.length_append, hl]; exact c)] at hj
      cases hj
  · rintro H' ⟨ws, sm, hd, hl, hp⟩
    exact k ws H' sm hd hl hp
end My
namespace My
open PySem PySem.Spec PyProof.Rows L2
def minI (x y : Int) : Int := if y < x then y else x
def limI (b m : Int) : Int := if (minI b 96 - m) % 2 ≠ 0 then minI b 96 - 1 else minI b 96
def reachI (b m k : Int) : Int := minI (limI b m) (2 * k - limI b m)
def sp_limit (K : PySem.W.Frag) : Sp := fun vs H Q _ => ∃ b m : Int, vs = [.int b, .int m] ∧ Q (.int (limI b m)) H
def sp_reach (K : PySem.W.Frag) : Sp := fun vs H Q _ => ∃ b m k : Int, vs = [.int b, .int m, .int k] ∧ Q (.int (reachI b m k)) H
def sp_law (K : PySem.W.Frag) : Sp := fun vs H Q _ => ∃ (a : Addr) (ns : List Int), vs = [.ref a] ∧ SqL K H a (ns.map V.int) ∧ ns.length ≤ 63 ∧ ∀ H', Q (.bl true) H'
/-- the numbers from 96 down to -1 -/
def downL : List Int := (List.range 98).map fun i : Nat => 96 + (i : Int) * (0 - 1)
theorem decInt (x y : Int) : decide (V.int x = V.int y) = decide (x = y) := decide_eq_decide.mpr ⟨fun h => V.int.inj h, fun h => congrArg V.int h⟩
theorem minI_le (b : Int) : minI b 96 ≤ 96 ∧ minI b 96 ≤ b := by
  unfold minI
  split <;> omega
theorem down_head {b m : Int} (hb : 0 ≤ b) : ∃ r, (downL.filter fun x => decide (x ≤ b) && decide ((x - m) % 2 = 0)) = limI b m :: r := by
  have hm : ∀ l : Int, -1 ≤ l → l ≤ 96 → l ≤ b → (l - m) % 2 = 0 → (∀ x : Int, l < x → x ≤ 96 → ¬ (x ≤ b ∧ (x - m) % 2 = 0)) → ∃ r, (downL.filter fun x => decide (x ≤ b) && decide ((x - m) % 2 = 0)) = l :: r := by
    intro l h0 h1 h2 h3 h4
    have e : downL = ((List.range (96 - l).toNat).map fun i : Nat => 96 + (i : Int) * (0 - 1)) ++ l :: ((List.range ((l + 1).toNat)).map fun i : Nat => l - 1 - (i : Int)) := by
      unfold downL
      refine List.ext_getElem? fun k => ?_
      rw [List.getElem?_map]
      rcases Nat.lt_trichotomy k (96 - l).toNat with c | c | c
      · rw [List.getElem?_append_left (by rw [List.length_map, List.length_range]; exact c), List.getElem?_map, List.getElem?_range c, List.getElem?_range (by omega)]
      · rw [List.getElem?_append_right (by rw [List.length_map, List.length_range]; omega), List.length_map, List.length_range, c, Nat.sub_self, List.getElem?_range (by omega)]
        show some (96 + (((96 - l).toNat : Nat) : Int) * (0 - 1)) = some l
        congr 1
        omega
      · rw [List.getElem?_append_right (by rw [List.length_map, List.length_range]; omega), List.length_map, List.length_range]
        obtain ⟨d, hd⟩ : ∃ d, k - (96 - l).toNat = d + 1 := ⟨k - (96 - l).toNat - 1, by omega⟩
        rw [hd, List.getElem?_cons_succ, List.getElem?_map]
        by_cases hk : k < 98
        · rw [List.getElem?_range hk, List.getElem?_range (by omega)]
          show some (96 + ((k : Nat) : Int) * (0 - 1)) = some (l - 1 - (d : Int))
          congr 1
          omega
        · rw [List.getElem?_eq_none (by rw [List.length_range]; omega), List.getElem?_eq_none (by rw [List.length_range]; omega)]
          rfl
    rw [e, List.filter_append, List.filter_cons, if_pos (by rw [decide_eq_true h2, decide_eq_true h3]; rfl)]
    have en : ((List.range (96 - l).toNat).map fun i : Nat => 96 + (i : Int) * (0 - 1)).filter (fun x => decide (x ≤ b) && decide ((x - m) % 2 = 0)) = [] := by
      refine List.filter_eq_nil_iff.mpr fun x hx c => ?_
      obtain ⟨i, hi, rfl⟩ := List.mem_map.mp hx
      have := List.mem_range.mp hi
      rw [Bool.and_eq_true, decide_eq_true_eq, decide_eq_true_eq] at c
      exact h4 _ (by omega) (by omega) c
    rw [en]
    exact ⟨_, rfl⟩
  have ⟨a1, a2⟩ := minI_le b
  have a3 : minI b 96 = 96 ∨ minI b 96 = b := by
    unfold minI
    split
    · exact .inl rfl
    · exact .inr rfl
  unfold limI
  split
  · refine hm _ (by omega) (by omega) (by omega) (by omega) fun x x0 x1 ⟨x2, x3⟩ => ?_
    omega
  · refine hm _ (by omega) (by omega) (by omega) (by omega) fun x x0 x1 ⟨x2, x3⟩ => ?_
    omega
end My
namespace My
open PySem PySem.Spec PyProof.Rows L2
/-! ### the text -/
def topS (i : Nat) : Stmt := PySem.Challenge.pw_setmend_k11_reach.main.body.getD i (.Pass ⟨0, 0, 0, 0⟩)
abbrev s_limit : Stmt := topS 2
theorem sc_limit : FnScope ["bound", "more", "most"] ["bound", "more"] (defScope s_limit) := ⟨rfl, rfl, rfl, by decide +kernel, rfl, by decide +kernel, by decide +kernel⟩
abbrev s_reach : Stmt := topS 3
theorem sc_reach : FnScope ["bound", "more", "many", "most"] ["bound", "more", "many"] (defScope s_reach) := ⟨rfl, rfl, rfl, by decide +kernel, rfl, by decide +kernel, by decide +kernel⟩
abbrev s__law_start : Stmt := topS 5
theorem sc__law_start : FnScope ["_law_script", "_law_mixed", "_law_cell"] ["_law_script"] (defScope s__law_start) := ⟨rfl, rfl, rfl, by decide +kernel, rfl, by decide +kernel, by decide +kernel⟩
abbrev s__law_drawn : Stmt := topS 6
theorem sc__law_drawn : FnScope ["_law_state", "_law_many", "_law_found", "_law_cell"] ["_law_state", "_law_many"] (defScope s__law_drawn) := ⟨rfl, rfl, rfl, by decide +kernel, rfl, by decide +kernel, by decide +kernel⟩
abbrev s_law : Stmt := topS 7
theorem sc_law : FnScope ["_law_script", "_law_state", "_law_turn", "_law_bound", "_law_more", "_law_many", "_law_limit", "_law_found", "_law_number"] ["_law_script"] (defScope s_law) := ⟨rfl, rfl, rfl, by decide +kernel, rfl, by decide +kernel, by decide +kernel⟩
structure Ad where
  f_limit : Addr
  d_limit : FuncData
  f_reach : Addr
  d_reach : FuncData
  f__law_start : Addr
  d__law_start : FuncData
  f__law_drawn : Addr
  d__law_drawn : FuncData
  f_law : Addr
  d_law : FuncData
  t_LAST_MARK : Nat
structure Txt (K : PySem.W.Frag) (mg : Str → Option Value) (A : Ad) : Prop where
  F_limit : Fun K "limit" "limit" s_limit A.f_limit A.d_limit
  k_limit : PySem.W.keepIn K (.ref A.f_limit) = true
  g_limit : mg "limit" = some (.ref A.f_limit)
  b_limit : Binds K A.d_limit ["bound", "more"] []
  F_reach : Fun K "reach" "reach" s_reach A.f_reach A.d_reach
  k_reach : PySem.W.keepIn K (.ref A.f_reach) = true
  g_reach : mg "reach" = some (.ref A.f_reach)
  b_reach : Binds K A.d_reach ["bound", "more", "many"] []
  F__law_start : Fun K "_law_start" "_law_start" s__law_start A.f__law_start A.d__law_start
  k__law_start : PySem.W.keepIn K (.ref A.f__law_start) = true
  g__law_start : mg "_law_start" = some (.ref A.f__law_start)
  b__law_start : Binds K A.d__law_start ["_law_script"] []
  F__law_drawn : Fun K "_law_drawn" "_law_drawn" s__law_drawn A.f__law_drawn A.d__law_drawn
  k__law_drawn : PySem.W.keepIn K (.ref A.f__law_drawn) = true
  g__law_drawn : mg "_law_drawn" = some (.ref A.f__law_drawn)
  b__law_drawn : Binds K A.d__law_drawn ["_law_state", "_law_many"] []
  F_law : Fun K "law" "law" s_law A.f_law A.d_law
  k_law : PySem.W.keepIn K (.ref A.f_law) = true
  g_law : mg "law" = some (.ref A.f_law)
  b_law : Binds K A.d_law ["_law_script"] []
  c_LAST_MARK : mg "LAST_MARK" = some (.int 96 A.t_LAST_MARK)
  z_bool : mg "bool" = none
  z_int : mg "int" = none
  z_isinstance : mg "isinstance" = none
  z_len : mg "len" = none
  z_min : mg "min" = none
  z_range : mg "range" = none
section
variable {P : Program} {w : World} {K : PySem.W.Frag} {mg : Str → Option Value} {base : Heap} {A : Ad}
/-! ### limit: slots 0 bound, 1 more, 2 most -/

theorem ok_limit (T : Txt K mg A) : FnOk P w K mg base CX0 1 A.f_limit A.d_limit ["bound", "more"] (sp_limit K) := by
  refine T.F_limit.ok sc_limit (fun vs H Q E h => by first | (obtain ⟨_, rfl, _⟩ := h; rfl) | (obtain ⟨_, _, rfl, _⟩ := h; rfl) | (obtain ⟨_, _, _, rfl, _⟩ := h; rfl) | (obtain ⟨_, _, _, _, rfl, _⟩ := h; rfl) | (obtain ⟨_, _, _, _, _, rfl, _⟩ := h; rfl) | (obtain ⟨_, _, _, _, _, _, rfl, _⟩ := h; rfl) | (obtain ⟨_, _, _, _, _, _, _, rfl, _⟩ := h; rfl)) (fun cdv AA outer s H vs Q E hr h => ?_)
  refine ⟨_, (pss_cons (ps_set (i := 2) sc_limit.nd rfl (.inl rfl) (pe_callB (call_min2 rfl) (by rfl) T.z_min (by decide +kernel) (pa_cons (pv 0) (pa_cons (pe_glob (v := .int 96) rfl T.c_LAST_MARK ⟨_, rfl⟩) pa_nil))))
      (pss_cons (ps_if (pt_cmpR op_ne (pe_op op_mod (pe_op op_sub (pv 2) (pv 1)) pe_int) pe_int (nomark _)) (pss_one (ps_aug (i := 2) sc_limit.nd rfl (.inl rfl) pe_int ip_sub)) pss_nil)
      (pss_one (ps_ret (pv 2))))), ?_⟩
  obtain ⟨b, m, rfl, q⟩ := h
  refine ⟨_, rfl, _, _, rfl, ?_⟩
  refine ⟨_, rfl, _, rfl, _, _, rfl, rfl, _, _, rfl, rfl, by show (0:Int) < _; decide, rfl, _, rfl, ?_⟩
  have hdec : ∀ x : Int, decide (V.int x = V.int 0) = decide (x = 0) := fun x => decide_eq_decide.mpr ⟨fun h => V.int.inj h, fun h => congrArg V.int h⟩
  have em : (if (96 : Int) < b then (96 : Int) else b) = minI b 96 := rfl
  rw [em, hdec]
  have fin : ∀ l : Int, l = limI b m → Q (.int l) H := fun l e => by
    subst e
    exact q
  by_cases c : (minI b 96 - m) % 2 = 0
  · rw [decide_eq_true c]
    refine iteF ?_
    refine ⟨_, rfl, ?_⟩
    exact fin _ (by unfold limI; rw [if_neg (fun z => z c)])
  · rw [decide_eq_false c]
    refine iteT ?_
    refine ⟨_, rfl, _, _, rfl, rfl, ?_⟩
    refine ⟨_, rfl, ?_⟩
    exact fin _ (by unfold limI; rw [if_pos c])
/-! ### reach: slots 0 bound, 1 more, 2 many, 3 most -/

theorem ok_reach (T : Txt K mg A) : FnOk P w K mg base CX0 2 A.f_reach A.d_reach ["bound", "more", "many"] (sp_reach K) := by
  refine T.F_reach.ok sc_reach (fun vs H Q E h => by first | (obtain ⟨_, rfl, _⟩ := h; rfl) | (obtain ⟨_, _, rfl, _⟩ := h; rfl) | (obtain ⟨_, _, _, rfl, _⟩ := h; rfl) | (obtain ⟨_, _, _, _, rfl, _⟩ := h; rfl) | (obtain ⟨_, _, _, _, _, rfl, _⟩ := h; rfl) | (obtain ⟨_, _, _, _, _, _, rfl, _⟩ := h; rfl) | (obtain ⟨_, _, _, _, _, _, _, rfl, _⟩ := h; rfl)) (fun cdv AA outer s H vs Q E hr h => ?_)
  refine ⟨_, (pss_cons (ps_set (i := 3) sc_reach.nd rfl (.inl rfl) (pe_call (ok_limit T) (hr.mono (by decide)) (by rfl) T.g_limit T.k_limit T.b_limit .nil pass0 (pa_cons (pv 0) (pa_cons (pv 1) pa_nil))))
      (pss_one (ps_ret (pe_callB (call_min2 rfl) (by rfl) T.z_min (by decide +kernel) (pa_cons (pv 3) (pa_cons (pe_op op_sub (pe_op op_mul pe_int (pv 2)) (pv 3)) pa_nil)))))), ?_⟩
  obtain ⟨b, m, k, rfl, q⟩ := h
  refine ⟨_, rfl, _, rfl, b, m, rfl, ?_⟩
  refine ⟨_, rfl, _, rfl, _, _, rfl, rfl, .inl ⟨by decide, by decide⟩, _, rfl, _, _, rfl, rfl, _, _, rfl, ?_⟩
  exact q
/-! ### _law_start: slots 0 _law_script, 1 _law_mixed, 2 _law_cell -/

theorem ok__law_start (T : Txt K mg A) : FnOk P w K mg base CX0 1 A.f__law_start A.d__law_start ["_law_script"] (sp__law_start K) := by
  refine T.F__law_start.ok sc__law_start (fun vs H Q E h => by first | (obtain ⟨_, rfl, _⟩ := h; rfl) | (obtain ⟨_, _, rfl, _⟩ := h; rfl) | (obtain ⟨_, _, _, rfl, _⟩ := h; rfl) | (obtain ⟨_, _, _, _, rfl, _⟩ := h; rfl) | (obtain ⟨_, _, _, _, _, rfl, _⟩ := h; rfl) | (obtain ⟨_, _, _, _, _, _, rfl, _⟩ := h; rfl) | (obtain ⟨_, _, _, _, _, _, _, rfl, _⟩ := h; rfl)) (fun cdv AA outer s H vs Q E hr h => ?_)
  refine ⟨_, (pss_cons (ps_set (i := 1) sc__law_start.nd rfl (.inl rfl) pe_int)
      (pss_cons (ps_for PassesOwn.never rfl (pi_list (pv 0)) (pg_name (i := 2) sc__law_start.nd rfl (.inl rfl))
        (pss_one (ps_set (i := 1) sc__law_start.nd rfl (.inl rfl) (pe_op op_mod (pe_op op_add (pe_op op_add (pe_op op_mul (pv 1) pe_int) (pv 2)) pe_int) pe_int))))
      (pss_one (ps_ret (pe_lst (pa_cons (pv 0) (pa_cons pe_int (pa_cons (pv 1) (pa_cons pe_int pa_nil))))))))), ?_⟩
  obtain ⟨a, ns, rfl, hS, q⟩ := h
  refine ⟨_, rfl, a, rfl, ⟨_, hS⟩, for_list (K := K) (a := a) (xs := ns.map V.int) (fun i σ H' => ∃ (m : Int) (v : Option V), σ = [some (.ref a), some (.int m), v] ∧ H' = H) ⟨1, none, rfl, rfl⟩ (fun i σ H' _ ⟨_, _, _, e⟩ => e ▸ hS) ?_ ?_⟩
  · rintro i y σ H' hi ⟨m, v, rfl, rfl⟩
    obtain ⟨z, hz, rfl⟩ := int_at hi
    exact ⟨_, rfl, _, _, rfl, rfl, .inr ⟨by decide, by decide⟩, _, rfl, _, _, rfl, rfl, _, _, rfl, rfl, _, _, rfl, rfl, by show (0:Int) < _; decide, _, _, rfl, rfl⟩
  · rintro σ H' ⟨m, v, rfl, rfl⟩
    refine ⟨_, rfl, _, rfl, by show 4 ≤ sizeLine; decide, fun p hp => ?_⟩
    exact q p _ hp (same_upd hp) ⟨⟨0, m, 0, Int.le_refl 0, upd_same⟩, ns, (same_upd hp).seq hS⟩
/-! ### _law_drawn: slots 0 _law_state, 1 _law_many, 2 _law_found, 3 _law_cell -/

theorem ok__law_drawn (T : Txt K mg A) : FnOk P w K mg base CX0 1 A.f__law_drawn A.d__law_drawn ["_law_state", "_law_many"] (sp__law_drawn K) := by
  refine T.F__law_drawn.ok sc__law_drawn (fun vs H Q E h => by first | (obtain ⟨_, rfl, _⟩ := h; rfl) | (obtain ⟨_, _, rfl, _⟩ := h; rfl) | (obtain ⟨_, _, _, rfl, _⟩ := h; rfl) | (obtain ⟨_, _, _, _, rfl, _⟩ := h; rfl) | (obtain ⟨_, _, _, _, _, rfl, _⟩ := h; rfl) | (obtain ⟨_, _, _, _, _, _, rfl, _⟩ := h; rfl) | (obtain ⟨_, _, _, _, _, _, _, rfl, _⟩ := h; rfl)) (fun cdv AA outer s H vs Q E hr h => ?_)
  refine ⟨_, (pss_cons (ps_if (pt_cmpR op_gt (pe_ix ix_list (pv 0) pe_int (fun _ _ => rfl)) pe_int (nomark _)) (pss_cons (ps_set (i := 2) sc__law_drawn.nd rfl (.inl rfl) (pe_op op_mod (pe_ix ix_list (pv 0) pe_int (fun _ _ => rfl)) (pv 1)))
        (pss_cons (ps_asg (pe_op op_fdivW (pe_ix ix_list (pv 0) pe_int (fun _ _ => rfl)) (pv 1)) (pg_sub (pv 0) pe_int set_list))
        (pss_one (ps_ret (pv 2))))) pss_nil)
      (pss_cons (ps_asg (pe_op op_add (pe_ix ix_list (pv 0) pe_int (fun _ _ => rfl)) pe_int) (pg_sub (pv 0) pe_int set_list))
      (pss_cons (ps_if (pt_cmpR op_le (pe_ix ix_list (pv 0) pe_int (fun _ _ => rfl)) (pe_callB call_len_seq (by rfl) T.z_len PySem.boot_len (pa_cons (pe_ix ix_list (pv 0) pe_int (fun _ _ => rfl)) pa_nil)) (nomark _)) (pss_cons (ps_set (i := 3) sc__law_drawn.nd rfl (.inl rfl) (pe_ix ix_list (pe_ix ix_list (pv 0) pe_int (fun _ _ => rfl)) (pe_op op_sub (pe_ix ix_list (pv 0) pe_int (fun _ _ => rfl)) pe_int) (fun _ _ => rfl)))
        (pss_cons (ps_asg (pe_ifExp (pt_cmpR op_ge (pv 3) (pe_op op_pow pe_int pe_int) (nomark _)) (pe_op op_fdivW (pv 3) (pv 1)) pe_int) (pg_sub (pv 0) pe_int set_list))
        (pss_one (ps_ret (pe_op op_mod (pv 3) (pv 1)))))) pss_nil)
      (pss_cons (ps_asg (pe_op op_mod (pe_op op_add (pe_op op_mul (pe_ix ix_list (pv 0) pe_int (fun _ _ => rfl)) pe_int) pe_int) pe_int) (pg_sub (pv 0) pe_int set_list))
      (pss_one (ps_ret (pe_op op_mod (pe_op op_fdiv (pe_ix ix_list (pv 0) pe_int (fun _ _ => rfl)) pe_int) (pv 1)))))))), ?_⟩
  obtain ⟨a, st, n, rfl, hS, hn, hnb, q⟩ := h
  obtain ⟨⟨i, m, r, hi, hs⟩, ns, hns⟩ := id hS
  -- if state[3] > 0
  refine ⟨_, rfl, st, _, 3, _, rfl, rfl, SqL.of hs, atI_nat (j := 3) rfl, _, _, rfl, rfl, _, rfl, ite2 (fun c => ?_) (fun c => ?_)⟩
  · refine ⟨_, rfl, st, _, 3, _, rfl, rfl, SqL.of hs, atI_nat (j := 3) rfl, _, rfl, _, _, rfl, rfl, hn, ?_⟩
    refine ⟨_, rfl, st, _, 3, _, rfl, rfl, SqL.of hs, atI_nat (j := 3) rfl, _, rfl, _, _, rfl, rfl, wide_div hn hnb (by decide) (by decide), ?_⟩
    refine ⟨_, rfl, st, _, 3, 3, rfl, rfl, hs, rfl, ?_⟩
    exact ⟨_, rfl, q _ _ (Int.emod_nonneg _ (by omega)) (Int.emod_lt_of_pos _ hn) (Go.upd (r := r / n) (m := m) hS hi)⟩
  · -- state[1] = state[1] + 1
    refine ⟨_, rfl, st, _, 1, _, rfl, rfl, SqL.of hs, atI_nat (j := 1) rfl, _, _, rfl, rfl, ?_⟩
    refine ⟨_, rfl, st, _, 1, 1, rfl, rfl, hs, rfl, ?_⟩
    have g1 : Go K st H (upd H st (.lst [.ref a, .int (i + 1), .int m, .int r])) := Go.upd hS (by omega)
    have hS1 := g1.st _ hS
    have hs1 : (upd H st (.lst [.ref a, .int (i + 1), .int m, .int r])) st = some (.lst [.ref a, .int (i + 1), .int m, .int r]) := upd_same
    obtain ⟨_, ns1, hns1⟩ := id hS1
    -- if state[1] <= len(state[0])
    refine ⟨_, rfl, st, _, 1, _, rfl, rfl, SqL.of hs1, atI_nat (j := 1) rfl, _, rfl, st, _, 0, _, rfl, rfl, SqL.of hs1, atI_nat (j := 0) rfl, a, _, rfl, .inl hns1, _, _, rfl, rfl, _, rfl, ite2 (fun c => ?_) (fun c => ?_)⟩
    · have c2 : i + 1 ≤ (ns1.length : Int) := by
        have := of_decide_eq_true c
        rw [List.length_map] at this
        exact this
      have hlt : i.toNat < ns1.length := by omega
      have hat : atI (ns1.map V.int) (i + 1 - 1) = some (.int ns1[i.toNat]) := at_of (j := i.toNat) (by omega) (by rw [List.getElem?_map, List.getElem?_eq_getElem hlt]; rfl)
      -- cell = state[0][state[1] - 1]
      refine ⟨_, rfl, st, _, 0, _, rfl, rfl, SqL.of hs1, atI_nat (j := 0) rfl, _, rfl, st, _, 1, _, rfl, rfl, SqL.of hs1, atI_nat (j := 1) rfl, _, _, rfl, rfl, a, _, _, _, rfl, rfl, hns1, hat, ?_⟩
      -- state[3] = cell // many if cell >= 10 ** 18 else 0
      refine ⟨_, rfl, _, _, rfl, rfl, ⟨by decide, by decide, by decide⟩, _, _, rfl, rfl, _, rfl, ite2 (fun c3 => ?_) (fun c3 => ?_)⟩
      · refine ⟨_, rfl, _, rfl, _, _, rfl, rfl, wide_div hn hnb (by decide) (by decide), _, rfl, st, _, 3, 3, rfl, rfl, hs1, rfl, ?_⟩
        exact ⟨_, rfl, _, rfl, _, _, rfl, rfl, hn, q _ _ (Int.emod_nonneg _ (by omega)) (Int.emod_lt_of_pos _ hn) (g1.trans (Go.upd (m := m) hS1 (by omega)))⟩
      · refine ⟨_, rfl, st, _, 3, 3, rfl, rfl, hs1, rfl, ?_⟩
        exact ⟨_, rfl, _, rfl, _, _, rfl, rfl, hn, q _ _ (Int.emod_nonneg _ (by omega)) (Int.emod_lt_of_pos _ hn) (g1.trans (Go.upd (m := m) hS1 (by omega)))⟩
    · -- state[2] = (state[2] * 48271 + 11) % 2147483647
      refine ⟨_, rfl, st, _, 2, _, rfl, rfl, SqL.of hs1, atI_nat (j := 2) rfl, _, _, rfl, rfl, .inr ⟨by decide, by decide⟩, _, _, rfl, rfl, _, _, rfl, rfl, by show (0:Int) < _; decide, ?_⟩
      refine ⟨_, rfl, st, _, 2, 2, rfl, rfl, hs1, rfl, ?_⟩
      have g2 := g1.trans (Go.upd (m := (m * 48271 + 11) % 2147483647) (r := r) hS1 (by omega : 0 ≤ i + 1))
      refine ⟨_, rfl, st, _, 2, _, rfl, rfl, SqL.of upd_same, atI_nat (j := 2) rfl, _, _, rfl, rfl, ⟨by decide, by decide⟩, _, rfl, _, _, rfl, rfl, hn, ?_⟩
      exact q _ _ (Int.emod_nonneg _ (by omega)) (Int.emod_lt_of_pos _ hn) g2
/-! ### law: slots 0 _law_script, 1 _law_state, 2 _law_turn, 3 _law_bound, 4 _law_more, 5 _law_many, 6 _law_limit, 7 _law_found, 8 _law_number -/

theorem ok_law (T : Txt K mg A) : FnOk P w K mg base CX0 3 A.f_law A.d_law ["_law_script"] (sp_law K) := by
  refine T.F_law.ok sc_law (fun vs H Q E h => by first | (obtain ⟨_, rfl, _⟩ := h; rfl) | (obtain ⟨_, _, rfl, _⟩ := h; rfl) | (obtain ⟨_, _, _, rfl, _⟩ := h; rfl) | (obtain ⟨_, _, _, _, rfl, _⟩ := h; rfl) | (obtain ⟨_, _, _, _, _, rfl, _⟩ := h; rfl) | (obtain ⟨_, _, _, _, _, _, rfl, _⟩ := h; rfl) | (obtain ⟨_, _, _, _, _, _, _, rfl, _⟩ := h; rfl)) (fun cdv AA outer s H vs Q E hr h => ?_)
  refine ⟨_, (pss_cons (ps_set (i := 1) sc_law.nd rfl (.inl rfl) (pe_call (ok__law_start T) (hr.mono (by decide)) (by rfl) T.g__law_start T.k__law_start T.b__law_start .nil pass0 (pa_cons (pv 0) pa_nil)))
      (pss_cons (ps_for PassesOwn.never rfl (pi_range1 (by rfl) T.z_range (pa_cons pe_int pa_nil)) (pg_name (i := 2) sc_law.nd rfl (.inl rfl))
        (pss_cons (ps_set (i := 3) sc_law.nd rfl (.inr rfl) (pe_call (ok__law_drawn T) (hr.mono (by decide)) (by rfl) T.g__law_drawn T.k__law_drawn T.b__law_drawn .nil pass0 (pa_cons (pv 1) (pa_cons (pe_ix ix_list (pe_lst (pa_cons pe_int (pa_cons pe_int (pa_cons (pe_op op_pow pe_int pe_int) pa_nil)))) (pe_call (ok__law_drawn T) (hr.mono (by decide)) (by rfl) T.g__law_drawn T.k__law_drawn T.b__law_drawn .nil pass0 (pa_cons (pv 1) (pa_cons pe_int pa_nil))) (fun _ _ => rfl)) pa_nil))))
        (pss_cons (ps_set (i := 4) sc_law.nd rfl (.inr rfl) (pe_ix ix_list (pe_lst (pa_cons (pe_op op_sub (pe_call (ok__law_drawn T) (hr.mono (by decide)) (by rfl) T.g__law_drawn T.k__law_drawn T.b__law_drawn .nil pass0 (pa_cons (pv 1) (pa_cons pe_int pa_nil))) pe_int) (pa_cons (pe_op op_sub (pe_call (ok__law_drawn T) (hr.mono (by decide)) (by rfl) T.g__law_drawn T.k__law_drawn T.b__law_drawn .nil pass0 (pa_cons (pv 1) (pa_cons pe_int pa_nil))) pe_int) pa_nil))) (pe_call (ok__law_drawn T) (hr.mono (by decide)) (by rfl) T.g__law_drawn T.k__law_drawn T.b__law_drawn .nil pass0 (pa_cons (pv 1) (pa_cons pe_int pa_nil))) (fun _ _ => rfl)))
        (pss_cons (ps_set (i := 5) sc_law.nd rfl (.inl rfl) (pe_call (ok__law_drawn T) (hr.mono (by decide)) (by rfl) T.g__law_drawn T.k__law_drawn T.b__law_drawn .nil pass0 (pa_cons (pv 1) (pa_cons (pe_ix ix_list (pe_lst (pa_cons pe_int (pa_cons pe_int pa_nil))) (pe_call (ok__law_drawn T) (hr.mono (by decide)) (by rfl) T.g__law_drawn T.k__law_drawn T.b__law_drawn .nil pass0 (pa_cons (pv 1) (pa_cons pe_int pa_nil))) (fun _ _ => rfl)) pa_nil))))
        (pss_cons (ps_set (i := 6) sc_law.nd rfl (.inl rfl) (pe_ix ix_list (pe_lc (own := [("_law_number", 8)]) (g := gName 8)  rfl sc_law.nd (pi_range3 (by rfl) T.z_range (pa_cons pe_int (pa_cons (pe_op op_sub pe_int pe_int) (pa_cons (pe_op op_sub pe_int pe_int) pa_nil)))) (blkOk_by (own := [("_law_number", 8)]) (N := ["_law_script", "_law_state", "_law_turn", "_law_bound", "_law_more", "_law_many", "_law_limit", "_law_found", "_law_number"]) (sc := defScope s_law) (by decide +kernel)) (fun _ _ _ _ _ => pg_name (i := 8) sc_law.nd rfl (Or.inl rfl)) (fun _ _ _ _ _ => (pts_one (PW.pt (pw_and (pt_cmpR op_le (pv 8) (pv 3) (nomark _)) (pw_and1 (pt_cmpR op_eq (pe_op op_mod (pe_op op_sub (pv 8) (pv 4)) pe_int) pe_int (nomark _))))))) (fun _ _ _ _ _ => (pv 8))) pe_int (fun _ _ => rfl)))
        (pss_cons (ps_set (i := 7) sc_law.nd rfl (.inl rfl) (pe_call (ok_reach T) (hr.mono (by decide)) (by rfl) T.g_reach T.k_reach T.b_reach .nil pass0 (pa_cons (pv 3) (pa_cons (pv 4) (pa_cons (pv 5) pa_nil)))))
        (pss_one (ps_if (PW.pt (pw_or (pt_not (pt_val (pe_callB call_isi (by rfl) T.z_isinstance (show bootBuiltins "isinstance" = some (.builtin "isinstance") by decide +kernel) (pa_cons (pv 7) (pa_cons (pe_bltn (v := .ty "int") (by rfl) T.z_int (by decide +kernel) rfl) pa_nil))))) (pw_or (pt_val (pe_callB call_isi (by rfl) T.z_isinstance (show bootBuiltins "isinstance" = some (.builtin "isinstance") by decide +kernel) (pa_cons (pv 7) (pa_cons (pe_bltn (v := .ty "bool") (by rfl) T.z_bool (by decide +kernel) rfl) pa_nil)))) (pw_or1 (pt_cmpR op_ne (pv 7) (pe_callB (call_min2 rfl) (by rfl) T.z_min (by decide +kernel) (pa_cons (pv 6) (pa_cons (pe_op op_sub (pe_op op_mul pe_int (pv 5)) (pv 6)) pa_nil))) (nomark _)))))) (pss_one (ps_ret pe_bl)) pss_nil))))))))
      (pss_one (ps_ret (pe_and (pe_cmpR op_eq (pe_call (ok_reach T) (hr.mono (by decide)) (by rfl) T.g_reach T.k_reach T.b_reach .nil pass0 (pa_cons pe_int (pa_cons pe_int (pa_cons pe_int pa_nil)))) (pe_op op_sub pe_int pe_int) (nomark _)) (pe_one (pe_cmpR op_eq (pe_call (ok_reach T) (hr.mono (by decide)) (by rfl) T.g_reach T.k_reach T.b_reach .nil pass0 (pa_cons pe_int (pa_cons pe_int (pa_cons pe_int pa_nil)))) pe_int (nomark _)))))))), ?_⟩
  obtain ⟨a, ns, rfl, hS, hlen, q⟩ := h
  refine ⟨_, rfl, a, ns, rfl, hS, fun st H1 nst sm hSt => ?_⟩
  refine ⟨20, rfl, by decide, by decide, for_range (n := 20) (fun i σ H2 => ∃ w, σ = some (.ref a) :: some (.ref st) :: w ∧ w.length = 7 ∧ Go K st H1 H2) ⟨_, rfl, rfl, Go.refl _⟩ ?_ ?_⟩
  · rintro i σ H2 hi ⟨w, rfl, hw, g⟩
    obtain ⟨v2, v3, v4, v5, v6, v7, v8, rfl⟩ : ∃ v2 v3 v4 v5 v6 v7 v8, w = [v2, v3, v4, v5, v6, v7, v8] := by
      match w, hw with
      | [v2, v3, v4, v5, v6, v7, v8], _ => exact ⟨_, _, _, _, _, _, _, rfl⟩
    have S2 := g.st _ hSt
    -- bound
    refine ⟨_, rfl, _, _, rfl, rfl, ⟨by decide, by decide, by decide⟩, by show 3 ≤ sizeLine; decide, fun l hl => ?_⟩
    have g2 := g.trans (Go.new (o := .lst [.int 13, .int 121, .int (10 ^ Int.toNat 60)]) hl)
    have S2' := g2.st _ hSt
    refine ⟨_, rfl, a, st, 3, rfl, S2', by decide, nat8000 (by decide) (by decide +kernel), fun v H3 v0 v1 g3 => ?_⟩
    have S3 := g3.st _ S2'
    obtain ⟨n, hat, n1, n2⟩ := pickI (ns := [13, 121, 10 ^ Int.toNat 60]) (lo := 13) (hi := 10 ^ 60) (by decide +kernel) v0 v1
    refine ⟨l, _, _, _, rfl, rfl, SqL.of (g3.keep _ _ (S2.fresh hl) upd_same), hat, ?_⟩
    refine ⟨a, st, n, rfl, S3, by omega, nat8000 (by omega) (by omega), fun b H4 b0 b1 g4 => ?_⟩
    have S4 := g4.st _ S3
    -- more
    refine ⟨_, rfl, a, st, 7, rfl, S4, by decide, nat8000 (by decide) (by decide +kernel), fun x H5 x0 x1 g5 => ?_⟩
    have S5 := g5.st _ S4
    refine ⟨_, _, rfl, rfl, _, rfl, a, st, 193, rfl, S5, by decide, nat8000 (by decide) (by decide +kernel), fun y H6 y0 y1 g6 => ?_⟩
    have S6 := g6.st _ S5
    refine ⟨_, _, rfl, rfl, by show 2 ≤ sizeLine; decide, fun l2 hl2 => ?_⟩
    have S6' := (Go.new (K := K) (st := st) (o := .lst [.int (x - 3), .int (y - 96)]) hl2).st _ S6
    refine ⟨_, rfl, a, st, 2, rfl, S6', by decide, nat8000 (by decide) (by decide +kernel), fun u H7 u0 u1 g7 => ?_⟩
    have S7 := g7.st _ S6'
    obtain ⟨m, hat2, m0, m1⟩ := pickI (ns := [x - 3, y - 96]) (lo := -96) (hi := 96) (by simp only [List.mem_cons, List.not_mem_nil, or_false]; rintro z (rfl | rfl) <;> omega) u0 u1
    refine ⟨l2, _, _, _, rfl, rfl, SqL.of (g7.keep _ _ (S6.fresh hl2) upd_same), hat2, ?_⟩
    -- many
    refine ⟨_, rfl, by show 2 ≤ sizeLine; decide, fun l3 hl3 => ?_⟩
    have S7' := (Go.new (K := K) (st := st) (o := .lst [.int 15, .int 97]) hl3).st _ S7
    refine ⟨_, rfl, a, st, 2, rfl, S7', by decide, nat8000 (by decide) (by decide +kernel), fun u2 H8 p0 p1 g8 => ?_⟩
    have S8 := g8.st _ S7'
    obtain ⟨n2, hat3, q0, q1⟩ := pickI (ns := [15, 97]) (lo := 15) (hi := 97) (by decide) p0 p1
    refine ⟨l3, _, _, _, rfl, rfl, SqL.of (g8.keep _ _ (S7.fresh hl3) upd_same), hat3, ?_⟩
    refine ⟨a, st, n2, rfl, S8, by omega, nat8000 (by omega) (by omega), fun k H9 k0 k1 g9 => ?_⟩
    have S9 := g9.st _ S8
    have gA := g2.trans (g3.trans (g4.trans (g5.trans (g6.trans ((Go.new (K := K) (st := st) (o := .lst [.int (x - 3), .int (y - 96)]) hl2).trans (g7.trans ((Go.new (K := K) (st := st) (o := .lst [.int 15, .int 97]) hl3).trans (g8.trans g9))))))))
    -- limit
    refine ⟨_, _, rfl, rfl, _, _, rfl, rfl, 96, _, _, 98, rfl, ⟨by decide, by decide, by decide +kernel, by decide +kernel⟩, fun D hD => lc_FT (walk_rangeC (lo := 96) (c := 0 - 1) (n := 98)) (fun i => decide (96 + (i : Int) * (0 - 1) ≤ b) && decide ((96 + (i : Int) * (0 - 1) - m) % 2 = 0)) (fun i => .int (96 + (i : Int) * (0 - 1))) (by decide) hD (fun _ _ => trivial) ?_ fun H10 s10 hd => ?_⟩
    · rintro j z H11 H12 hj s11 ⟨rfl, rfl⟩ Q' q'
      refine ⟨rfl, _, rfl, _, rfl, _, _, rfl, rfl, _, rfl, ?_⟩
      have q2 := q' (([some (V.ref a), some (V.ref st), some (.int (0 + (i : Int))), some (.int b), some (.int m), some (.int k), v6, v7, some (.int (96 + (j : Int) * (0 - 1)))] : L2.St)) H12 (Same.refl _) (fun _ Q2 q3 => ⟨_, rfl, q3 H12 (Same.refl _)⟩)
      by_cases c : 96 + (j : Int) * (0 - 1) ≤ b
      · rw [decide_eq_true c, Bool.true_and] at q2
        rw [show decide (96 + (j : Int) * (0 - 1) ≤ b) = true from decide_eq_true c]
        refine iteT ?_
        refine ⟨_, rfl, _, rfl, _, _, rfl, rfl, _, _, rfl, rfl, by show (0:Int) < _; decide, rfl, _, rfl, ?_⟩
        rw [decInt]
        exact q2
      · rw [decide_eq_false c, Bool.false_and] at q2
        rw [show decide (96 + (j : Int) * (0 - 1) ≤ b) = false from decide_eq_false c]
        exact iteF q2
    obtain ⟨r, er⟩ := down_head (b := b) (m := m) (by omega)
    have el : ((List.range 98).filter fun i : Nat => decide (96 + (i : Int) * (0 - 1) ≤ b) && decide ((96 + (i : Int) * (0 - 1) - m) % 2 = 0)).map (fun i : Nat => V.int (96 + (i : Int) * (0 - 1))) = (limI b m :: r).map V.int := by
      rw [← er]
      unfold downL
      rw [List.filter_map, List.map_map]
      rfl
    rw [el] at hd
    refine ⟨D, _, _, _, rfl, rfl, SqL.of hd, atI_nat (j := 0) rfl, ?_⟩
    -- found
    refine ⟨_, rfl, _, rfl, _, rfl, b, m, k, rfl, ?_⟩
    refine ⟨_, rfl, _, _, _, _, true, rfl, .ty "int", .base (.int _), kit_ty (by decide +kernel), _, rfl, iteF ?_⟩
    refine ⟨_, rfl, _, _, _, _, false, rfl, .ty "bool", .base (.int _), kit_ty (by decide +kernel), _, rfl, iteF ?_⟩
    refine ⟨_, rfl, _, rfl, _, rfl, _, _, rfl, rfl, .inl ⟨by decide, by decide⟩, _, rfl, _, _, rfl, rfl, _, _, rfl, rfl, _, rfl, ?_⟩
    refine iteNS rfl ?_
    exact ⟨_, rfl, rfl, gA.trans (Go.of s10)⟩
  · rintro σ H2 ⟨w, rfl, hw, g⟩
    refine ⟨0, 1, 5, rfl, _, _, rfl, rfl, rfl, true, rfl, iteT ?_⟩
    exact ⟨0, 0, 0, rfl, rfl, q H2⟩
end
theorem all_mk {l : PySem.W.OpenLaw} {w : World} {K : PySem.W.Frag} {h : Heap} {mg : Str → Option Value} {fa : Addr} (X : K.In h) (G : h.Ns mainGlobals mg) (hfa : mg "law" = some (.ref fa))
    {f0 : Addr} {od0 an0 : Option Addr} {sl0 : Array (Option Value)} {oc0 kV0 dc0 pm0 cd0 ct0 : Value} {f1 : Addr} {od1 an1 : Option Addr} {sl1 : Array (Option Value)} {oc1 kV1 dc1 pm1 cd1 ct1 : Value} {f2 : Addr} {od2 an2 : Option Addr} {sl2 : Array (Option Value)} {oc2 kV2 dc2 pm2 cd2 ct2 : Value} {f3 : Addr} {od3 an3 : Option Addr} {sl3 : Array (Option Value)} {oc3 kV3 dc3 pm3 cd3 ct3 : Value} {f4 : Addr} {od4 an4 : Option Addr} {sl4 : Array (Option Value)} {oc4 kV4 dc4 pm4 cd4 ct4 : Value} {tLAST_MARK : Nat}
    (a0 : PySem.W.nsIn K mainGlobals "limit" = some (some (.ref f0)))
    (l0 : K.lookup f0 = some ⟨oc0, od0, .func (PySem.W.fnOf "limit" "limit" (defArgs s_limit) (defBody s_limit) (defScope s_limit) .none kV0 dc0 pm0 an0 cd0 ct0), sl0⟩)
    (c0 : PySem.W.codeIn K cd0 "limit" = true)
    (k0 : PySem.W.keepIn K (.ref f0) = true)
    (a1 : PySem.W.nsIn K mainGlobals "reach" = some (some (.ref f1)))
    (l1 : K.lookup f1 = some ⟨oc1, od1, .func (PySem.W.fnOf "reach" "reach" (defArgs s_reach) (defBody s_reach) (defScope s_reach) .none kV1 dc1 pm1 an1 cd1 ct1), sl1⟩)
    (c1 : PySem.W.codeIn K cd1 "reach" = true)
    (k1 : PySem.W.keepIn K (.ref f1) = true)
    (a2 : PySem.W.nsIn K mainGlobals "_law_start" = some (some (.ref f2)))
    (l2 : K.lookup f2 = some ⟨oc2, od2, .func (PySem.W.fnOf "_law_start" "_law_start" (defArgs s__law_start) (defBody s__law_start) (defScope s__law_start) .none kV2 dc2 pm2 an2 cd2 ct2), sl2⟩)
    (c2 : PySem.W.codeIn K cd2 "_law_start" = true)
    (k2 : PySem.W.keepIn K (.ref f2) = true)
    (a3 : PySem.W.nsIn K mainGlobals "_law_drawn" = some (some (.ref f3)))
    (l3 : K.lookup f3 = some ⟨oc3, od3, .func (PySem.W.fnOf "_law_drawn" "_law_drawn" (defArgs s__law_drawn) (defBody s__law_drawn) (defScope s__law_drawn) .none kV3 dc3 pm3 an3 cd3 ct3), sl3⟩)
    (c3 : PySem.W.codeIn K cd3 "_law_drawn" = true)
    (k3 : PySem.W.keepIn K (.ref f3) = true)
    (a4 : PySem.W.nsIn K mainGlobals "law" = some (some (.ref f4)))
    (l4 : K.lookup f4 = some ⟨oc4, od4, .func (PySem.W.fnOf "law" "law" (defArgs s_law) (defBody s_law) (defScope s_law) .none kV4 dc4 pm4 an4 cd4 ct4), sl4⟩)
    (c4 : PySem.W.codeIn K cd4 "law" = true)
    (k4 : PySem.W.keepIn K (.ref f4) = true)
    (vLAST_MARK : PySem.W.nsIn K mainGlobals "LAST_MARK" = some (some (.int 96 tLAST_MARK)))
    (zbool : PySem.W.nsIn K mainGlobals "bool" = some none)
    (zint : PySem.W.nsIn K mainGlobals "int" = some none)
    (zisinstance : PySem.W.nsIn K mainGlobals "isinstance" = some none)
    (zlen : PySem.W.nsIn K mainGlobals "len" = some none)
    (zmin : PySem.W.nsIn K mainGlobals "min" = some none)
    (zrange : PySem.W.nsIn K mainGlobals "range" = some none) :
    ∃ fd : FuncData, (∀ (s : Shared) (v : Value), BindsTo s fd ⟨[v], []⟩ [("_law_script", v)]) ∧ ∀ base : Heap, K.In base → base.Ns mainGlobals mg → FnOk l.prog w K mg base CX0 3 fa fd ["_law_script"] (sp_law K) := by
  have e := hfa.symm.trans (PySem.W.mg_of X G a4)
  cases e
  have F0 := fun_mk (st := s_limit) l0 c0 k0
  have b0 := F0.binds (ps := ["bound", "more"]) fun _ _ _ _ _ _ us hl => match us, hl with | [_, _], _ => rfl
  have F1 := fun_mk (st := s_reach) l1 c1 k1
  have b1 := F1.binds (ps := ["bound", "more", "many"]) fun _ _ _ _ _ _ us hl => match us, hl with | [_, _, _], _ => rfl
  have F2 := fun_mk (st := s__law_start) l2 c2 k2
  have b2 := F2.binds (ps := ["_law_script"]) fun _ _ _ _ _ _ us hl => match us, hl with | [_], _ => rfl
  have F3 := fun_mk (st := s__law_drawn) l3 c3 k3
  have b3 := F3.binds (ps := ["_law_state", "_law_many"]) fun _ _ _ _ _ _ us hl => match us, hl with | [_, _], _ => rfl
  have F4 := fun_mk (st := s_law) l4 c4 k4
  have b4 := F4.binds (ps := ["_law_script"]) fun _ _ _ _ _ _ us hl => match us, hl with | [_], _ => rfl
  have T : Txt K mg (⟨f0, _, f1, _, f2, _, f3, _, fa, _, tLAST_MARK⟩ : Ad) := ⟨F0, k0, PySem.W.mg_of X G a0, b0, F1, k1, PySem.W.mg_of X G a1, b1, F2, k2, PySem.W.mg_of X G a2, b2, F3, k3, PySem.W.mg_of X G a3, b3, F4, k4, PySem.W.mg_of X G a4, b4, PySem.W.mg_of X G vLAST_MARK, PySem.W.mg_none_of X G zbool, PySem.W.mg_none_of X G zint, PySem.W.mg_none_of X G zisinstance, PySem.W.mg_none_of X G zlen, PySem.W.mg_none_of X G zmin, PySem.W.mg_none_of X G zrange⟩
  exact ⟨PySem.W.fnOf "law" "law" (defArgs s_law) (defBody s_law) (defScope s_law) .none kV4 dc4 pm4 an4 cd4 ct4, fun s v => .of_eq rfl, fun base _ _ => ok_law T⟩
end My
open PySem PySem.W PyProof.Rows
set_option maxHeartbeats 0 in
theorem PySem.Challenge.cw_setmend_k11_reach_holds : PySem.Challenge.rw_setmend_k11_reach.Holds := by
  w_on; o_law; k_head; (case hw => w_witness2)
  k_fill
  refine L2.walk_ofB (l := PySem.Challenge.rw_setmend_k11_reach) (n := 63) (k := 3) (x := "_law_script") (CX := fun _ => L2.CX0) (sp := fun w => My.sp_law _) rfl (by decide) rfl ⟨rfl, by decide, by decide⟩ (fun w h Y => PySem.W.kIn_of Y) ?F (fun _ H a ns hl hb hO hS => ⟨a, ns, rfl, hS, hl, fun _ => rfl⟩) (fun _ _ _ _ _ h => h)
  case F =>
    intro w mg fa h KX G hmg
    refine' My.all_mk KX G hmg ?a0 ?l0 ?c0 ?k0 ?a1 ?l1 ?c1 ?k1 ?a2 ?l2 ?c2 ?k2 ?a3 ?l3 ?c3 ?k3 ?a4 ?l4 ?c4 ?k4 ?vLAST_MARK ?zbool ?zint ?zisinstance ?zlen ?zmin ?zrange
    (case a0 => first | k_is | (first | rfl | k_is)); (case l0 => first | k_is | (first | rfl | k_is)); (case c0 => first | k_is | (first | rfl | k_is)); (case k0 => first | k_is | (first | rfl | k_is)); (case a1 => first | k_is | (first | rfl | k_is)); (case l1 => first | k_is | (first | rfl | k_is)); (case c1 => first | k_is | (first | rfl | k_is)); (case k1 => first | k_is | (first | rfl | k_is)); (case a2 => first | k_is | (first | rfl | k_is)); (case l2 => first | k_is | (first | rfl | k_is)); (case c2 => first | k_is | (first | rfl | k_is)); (case k2 => first | k_is | (first | rfl | k_is)); (case a3 => first | k_is | (first | rfl | k_is)); (case l3 => first | k_is | (first | rfl | k_is)); (case c3 => first | k_is | (first | rfl | k_is)); (case k3 => first | k_is | (first | rfl | k_is)); (case a4 => first | k_is | (first | rfl | k_is)); (case l4 => first | k_is | (first | rfl | k_is)); (case c4 => first | k_is | (first | rfl | k_is)); (case k4 => first | k_is | (first | rfl | k_is)); (case vLAST_MARK => first | k_is | (first | rfl | k_is)); (case zbool => first | k_is | (first | rfl | k_is)); (case zint => first | k_is | (first | rfl | k_is)); (case zisinstance => first | k_is | (first | rfl | k_is)); (case zlen => first | k_is | (first | rfl | k_is)); (case zmin => first | k_is | (first | rfl | k_is)); (case zrange => first | k_is | (first | rfl | k_is))
