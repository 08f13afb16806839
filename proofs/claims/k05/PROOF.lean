import PyProof.Rows.All
import Wide.All
import OpenK.AllK
import Wide.FinOn
import PyProof.EqAt
import PyProof.EqKinds
import PyProof.TupleCall
import HandS.ForMost
import HandS.Wide
import HandS.EndBits
import HandS.IsInst
import HandS.TupAny
import HandS.Exc
import HandS.TryOnly
import HandS.ExcOwn
import HandS.WordsExc
import HandS.Strs
import HandS.SetFor
import HandS.SortInts
import HandS.Style
import HandS.Evl
import PySem.Challenge.RW_setmend_k05_apart_and_mended
set_option Elab.async false
set_option linter.all false
set_option maxRecDepth 100000
set_option maxHeartbeats 4000000
namespace MyS
open PySem PySem.Spec PyProof.Rows L2 Srt
section
variable {prog : Program} {w : World} {A : Around} {E : Value → Shared → Prop} {s : Shared}
/-- sorted(x) where collecting x hands out ints -/
theorem sorted_gen {a : Addr} {J : Shared → Prop} {C : List Value → Prop} {D : List Int → Prop} {Q : Value → Shared → Prop}
    (hcol : ∀ Q' : List Value → Shared → Prop, (∀ s1 vs, J s1 → C vs → Q' vs s1) → wpAny (model prog w) A.in1 (collect (.ref a)) Q' E s)
    (hC : ∀ vs, C vs → ∃ ns, IntsAre vs ns ∧ vs.length ≤ sizeLine ∧ D ns)
    (hQ : ∀ (s1 s' : Shared) (p : Addr) (out : List Value) (c : Nat) (ns ns' : List Int), J s1 → (∀ b o, s1.heap.get? b = some o → s'.heap.get? b = some o) → s'.gens = s1.gens → s'.os = s1.os → s1.heap.objs.size ≤ p → s'.heap.get? p = some (seqObj "list" out.toArray c) →
      IntsAre out ns' → ns'.Perm ns → ns'.Pairwise (· ≤ ·) → D ns → Q (.ref p) s') :
    wpAny (model prog w) A (call (.builtin "sorted") [.ref a]) Q E s := by
  refine Calls.call_function_entry kind_sorted plain_sorted entry_sorted (args_sorted1 _) ?_
  unfold Builtin.«sorted»
  refine wpAny_bind (m := checkCount "sorted" 1 1 _) (wpAny_pure (wpAny_bind (hcol _ fun s1 vs j1 hc => ?_)))
  obtain ⟨ns, hI, hlen, hD⟩ := hC vs hc
  refine wpAny_bind (wpAny_newList ?_ hlen)
  have h0 : (s1.heap.push (seqObj "list" vs.toArray 0)).get? s1.heap.objs.size = some (seqObj "list" vs.toArray 0) := Heap.get?_push_size _ rfl
  refine wpAny_bind (wpAny_holding (wpAny_call_entry slot_list_sort ⟨_, h0, rfl⟩ entry_list_sort (SrtO.list_sort_ord SrtO.swo_int h0 hlen (fun h2 => SrtO.ints_sortable hI h2) fun out hs hb => ⟨_, rfl, ?_⟩) (args_list_sort _)))
  obtain ⟨c, hcell⟩ := sortedHeap_at (vs := vs) (out := out.toArray) h0
  obtain ⟨i1, i2, i3⟩ := SrtO.ints_out hI hs hb
  refine wpAny_pure ⟨_, rfl, hQ s1 _ _ out c ns _ j1 (fun b u e => ?_) rfl rfl (Nat.le_refl _) hcell i1 i2 i3 hD⟩
  have lt1 := Heap.lt_size e
  show (sortedHeap (s1.heap.push (seqObj "list" vs.toArray 0)) s1.heap.objs.size vs out.toArray).get? b = some u
  rw [sortedHeap_old (Nat.ne_of_lt lt1) (by rw [size_push']; exact Nat.lt_succ_of_lt lt1)]
  exact Heap.get?_push_of_some _ e
end
theorem lt_nd : ∀ l : List Int, l.Pairwise (· ≤ ·) → l.Nodup → l.Pairwise (· < ·)
  | [], _, _ => .nil
  | x :: r, h, n => by
    have h' := List.pairwise_cons.mp h
    have n' := List.nodup_cons.mp n
    exact .cons (fun y hy => Int.lt_iff_le_and_ne.mpr ⟨h'.1 y hy, fun e => n'.1 (e ▸ hy)⟩) (lt_nd r h'.2 n'.2)
end MyS
namespace MyS
open PySem PySem.Spec PyProof.Rows L2
section
variable {P : Program} {w : World} {A : Around} {E : Value → Shared → Prop} {s : Shared}
/-- the set that set(..) begins with -/
def set0 (w : World) : Obj := { cls := .type "set", dict := none, data := .set #[] 0 (.fresh 0 0 (!w.params.followText "set-order")) }
set_option maxHeartbeats 3200000 in
theorem set_of_list {l : Addr} {items : Array Value} (ns : List Int) {Q : Value → Shared → Prop} (hh : A.handled = none) (hl : s.heap.IsList l items) (hit : IntsAre items.toList ns) (hb : ns.length + 1 < scanBound)
    (h : ∀ (h' : Heap) (tk c : Nat), SetR w h' s.heap.objs.size (fun j => decide (j ∈ ns)) c → c ≤ ns.length → (∀ b o, s.heap.get? b = some o → h'.get? b = some o) → Q (.ref s.heap.objs.size) { s with heap := h', toks := tk }) :
    wpAny (model P w) A (call (.type "set") [.ref l]) Q E s := by
  have hn : items.size = ns.length := by
    rw [← IntsAre.length hit, Array.length_toList]
  have hval : ∀ (i : Nat) (v : Value), items[i]? = some v → ∃ k t, ns[i]? = some k ∧ v = .int k t := fun i v hv => by
    have hi : i < ns.length := hn ▸ (Array.getElem?_eq_some_iff.mp hv).1
    obtain ⟨t, e⟩ := IntsAre.int_at hit i v (by rw [Array.getElem?_toList]; exact hv)
    have g : ns[i]? = some ns[i] := List.getElem?_eq_getElem hi
    exact ⟨ns[i], t, g, by rw [e, List.getD_eq_getElem?_getD, g]; rfl⟩
  have lt : l < s.heap.objs.size := by
    obtain ⟨o, ho, _⟩ := hl
    exact Heap.lt_size ho
  obtain ⟨c, tl, hmro⟩ := F.called_set.mro
  have f1 := F.called_set.made
  have f2 := F.called_set.sub
  have f3 := F.called_set.notType
  have f4 := F.called_set.canCreate
  have f5 := F.typeCall_set_1 (.ref l)
  refine wpAny_call (codeAny_of_tree ?_)
  show wpAny _ _ (callAny (.type "set") _) _ _ _
  refine wpAny_pure ⟨Code.quiet_builtin _ (by decide +kernel), codeAny_builtin F.entry_type_call ?_⟩
  rw [Around.under_plain (weight_type_call_type "set" [.ref l] []) rfl]
  repeat (any_goals (first | assumption | wp_step))
  refine codeAny_mono (code_set_led1 (.ref l) (E := E) (Q₁ := fun u s₁ => u = .ref s.heap.objs.size ∧ s₁ = { s with heap := s.heap.push (set0 w) }) ⟨rfl, rfl⟩) fun r s₁ hr => ?_
  match r, hr with
  | .error e, hr => exact hr
  | .ok (.ret u), hr =>
    obtain ⟨rfl, rfl⟩ := hr
    have hS : (s.heap.push (set0 w)).get? s.heap.objs.size = some (set0 w) := Heap.get?_push_size _ rfl
    have hT : Shared.TypeIs { s with heap := s.heap.push (set0 w) } (.ref s.heap.objs.size) "set" := ⟨_, hS, rfl⟩
    have i1 := F.called_set.init.lookup
    have i2 := F.called_set.init.bind (.ref s.heap.objs.size)
    repeat (any_goals (first | assumption | wp_step))
    refine codeAny_mono (codeAny_call_builtin (R := wants (fun r s₂ => r = .none ∧ ∃ h' tk c, s₂ = { s with heap := h', toks := tk } ∧ SetR w h' s.heap.objs.size (fun j => decide (j ∈ ns)) c ∧ c ≤ ns.length ∧ (∀ b o, s.heap.get? b = some o → h'.get? b = some o)) E)
      F.called_set.init.plain F.entry_set_init (check_set_init_1 hT ?_)) fun r₂ s₂ hr₂ => ?_
    · obtain ⟨ol, hol, hcl, nl, hdl⟩ := hl
      obtain ⟨ocls, odict, odata, oslots⟩ := ol
      dsimp only at hcl hdl
      subst hcl hdl
      have hol' : (s.heap.push (set0 w)).get? l = some { cls := .type "list", dict := odict, data := .seq items nl, slots := oslots } := Heap.get?_push_of_some _ hol
      have hl1 : (s.heap.push (set0 w)).IsList l items := ⟨_, hol', rfl, nl, rfl⟩
      have n1 := F.sub_list_set
      have n2 := F.sub_list_frozenset
      have n3 : (Value.type "list" == Value.type "dict") = false := by decide
      unfold Builtin.«set.__init__» noKeywords Builtin.Frozenset.updateFrom
      generalize hPI : pyIter = PI
      wp_walk
      subst hPI
      refine wpAny_pyIter_list hl1 (wpAny_bind (wpAny_runValue ?_))
      have sz : (s.heap.push (set0 w)).objs.size = s.heap.objs.size + 1 := Heap.size_push ..
      have a1 : l ≠ (s.heap.push (set0 w)).objs.size := by
        rw [sz]
        exact Nat.ne_of_lt (Nat.lt_succ_of_lt lt)
      have a2 : s.heap.objs.size ∉ [(s.heap.push (set0 w)).objs.size, l] := fun m => by
        rw [sz] at m
        rcases List.mem_cons.mp m with m | m
        · exact absurd m (Nat.ne_of_lt (Nat.lt_succ_self _))
        · exact absurd (List.mem_singleton.mp m) (Nat.ne_of_gt lt)
      have hh3 : A.in1.in1.in1.handled = none := by simp [hh]
      refine set_update_ints ((Walks.list hh3 _ l a1 items).toS) s.heap.objs.size a2 ns hn hb hval (items.size - 0) 0 _ (by omega) (Nat.zero_le _) ⟨⟨_, Heap.get?_push_size _ rfl, rfl, rfl⟩, hl1.push _⟩ ⟨0, Nat.le_refl 0, setR_new_at (Heap.get?_push_of_some _ hS)⟩ ?_
      intro s' c' hm hc' hS'
      obtain ⟨h', g2, d', tk', os'⟩ := s'
      obtain rfl : g2 = s.gens := hm.gens
      obtain rfl : d' = s.drawn := hm.drawn
      obtain rfl : os' = s.os := hm.os
      show wpAny _ _ _ _ _ _
      refine wpAny_pure ?_
      show wpAny _ _ (ret Value.none) _ _ _
      refine wpAny_pure ⟨rfl, h', tk', c', rfl, hS', hn ▸ hc', fun b o e => ?_⟩
      have b0 := Heap.lt_size e
      refine hm.heap b o (fun m => ?_) (Heap.get?_push_of_some _ (Heap.get?_push_of_some _ e))
      rw [sz] at m
      rcases List.mem_cons.mp m with m | m
      · exact absurd m (Nat.ne_of_lt b0)
      · exact absurd (List.mem_singleton.mp m) (Nat.ne_of_lt (Nat.lt_succ_of_lt b0))
    · match r₂, hr₂ with
      | .error e, hr₂ => exact hr₂
      | .ok (.ret r), hr₂ =>
        obtain ⟨rfl, h', tk, c', rfl, hS', hc', hk'⟩ := hr₂
        repeat (any_goals (first | assumption | wp_step))
        exact h _ _ _ hS' hc' hk'
end
end MyS
namespace L2
open PySem PySem.Spec PyProof.Rows
/-- sorted(t), t a list or tuple of ints -/
def rSortedQ (K : PySem.W.Frag) : List V → Hp → VK → Prop := fun vs H Q => ∃ (a : Addr) (ns : List Int), vs = [V.ref a] ∧ (SqL K H a (ns.map V.int) ∨ SqT K H a (ns.map V.int)) ∧
  ∀ (ms : List Int) (p : Addr), ms.Perm ns → ms.Pairwise (· ≤ ·) → H p = none → Q (.ref p) (upd H p (.lst (ms.map V.int)))
/-- sorted(found), any number below 4,000 -/
def rSortedU (w : World) : List V → Hp → VK → Prop := fun vs H Q => ∃ (a : Addr) (S : Int → Bool) (n : Nat), vs = [V.ref a] ∧ H a = some (SetO w a S n) ∧ n ≤ 4000 ∧
  ∀ (ms : List Int) (p : Addr), ms.Pairwise (· < ·) → (∀ k : Int, k ∈ ms ↔ S k = true) → ms.length = n → H p = none → Q (.ref p) (upd H p (.lst (ms.map V.int)))
section
variable {X : Cx}
theorem inv_laid {pins : List (Addr × Obj)} {σ : St} {H : Hp} {s s' : Shared} {p : Addr} {o : HO} (I : Inv X pins σ H s) (k : ∀ b u, s.heap.get? b = some u → s'.heap.get? b = some u) (hp : s.heap.objs.size ≤ p) (g : s'.gens = s.gens) (os : s'.os = s.os)
    (new : ObjOk X.prog X.w (upd H p o) s'.heap p o) : H p = none ∧ Inv X pins σ (upd H p o) s' := by
  have hn : H p = none := I.hok.fresh hp
  exact ⟨hn, I.call' (ch := []) os (Un.laid k hp hn) (I.hok.laid k hp new) (by rw [g]; exact I.bare) fun _ z => nomatch z⟩
theorem call_sortedQ (hc : X.calm = true) : CallR X (.builtin "sorted") (rSortedQ X.K) := by
  intro pins s σ H vs us Q I r h
  obtain ⟨a, ns, rfl, hs, q⟩ := h
  rw [Vals.ref1 r]
  have key : ∀ (T : String) (o : Obj) (its : List Value) (n : Nat), (T = "list" ∨ T = "tuple") → s.heap.get? a = some o → o.cls = .type T → o.data = .seq its.toArray n → IntsAre its ns → its.length ≤ sizeLine →
      wpAny (model X.prog X.w) X.A (call (.builtin "sorted") [.ref a]) (EP X pins σ Q) X.xe s := by
    intro T o its n hT ho hcl hd hi hz
    refine MyS.sorted_gen (J := fun s1 => Inv X pins σ H s1) (C := fun vs => vs = its) (D := fun ms => ms = ns) (fun Q' hq => ?_) (fun vs e => ⟨ns, by rw [e]; exact hi, by rw [e]; exact hz, rfl⟩) fun s1 s' p out c ns1 ms I1 k g os hp hcell i1 i2 i3 e => ?_
    · exact wpAny_collect_seq a hT ho hcl hd (fun h' hk => hq _ _ (I.kept (t' := s.toks) hk) (by simp)) (by rw [List.size_toArray]; exact hz)
    · subst e
      have hlen : (ms.map V.int).length ≤ sizeLine := by
        rw [List.length_map, i2.length_eq, ← IntsAre.length hi]
        exact hz
      obtain ⟨hn, J⟩ := inv_laid I1 k hp g os (o := .lst (ms.map V.int)) ⟨hlen, out, c, vals_of_ints i1, hcell⟩
      exact ⟨.ref p, _, J, rfl, q ms p i2 i3 hn⟩
  rcases hs with hs | hs
  · obtain ⟨its, rv, pl, hz⟩ := I.list hs
    obtain ⟨o, ho, hcl, n, hd⟩ := pl.isList
    exact key "list" o its n (.inl rfl) ho hcl hd rv.ints (by rw [← rv.length]; exact hz)
  · obtain ⟨its, rv, pl, hz⟩ := I.tuple hs
    obtain ⟨o, ho, hcl, n, hd⟩ := pl
    exact key "tuple" o its n (.inr rfl) ho hcl hd rv.ints (by rw [← rv.length]; exact hz)
theorem call_sortedU (hc : X.calm = true) : CallR X (.builtin "sorted") (rSortedU X.w) := by
  intro pins s σ H vs us Q I r h
  obtain ⟨a, S, n, rfl, ha, hsm, q⟩ := h
  obtain ⟨o, es, ep, t, ho, hex, hd, hg, hnd, hmem, hsz, hfit, hn, hris, hled⟩ := setO_get I ha
  rw [Vals.ref1 r]
  refine MyS.sorted_gen (J := fun s1 => Inv X pins σ H s1) (C := fun vs => vs.Perm (es.toList.map (·.2))) (D := fun ms => ms.Perm (es.toList.map keyOf)) (fun Q' hq => ?_) (fun vs e => ?_) fun s1 s' p out c ns1 ms I1 k g os hp hcell i1 i2 i3 e => ?_
  · exact collect_set (A := X.A.in1) (I.ok.hd hc) ⟨o, ho, hex.1, hd⟩ hfit hsz hris hled fun s1 out k _ g os pm => hq s1 out (I.call' (ch := []) os (Un.kept k) (I.hok.kept k) (by rw [g]; exact I.bare) fun _ z => nomatch z) pm
  · have hi : ∀ v ∈ vs, ∃ i t, v = Value.int i t := fun v hv => by
      obtain ⟨x, hx, ex⟩ := List.mem_map.mp (e.mem_iff.mp hv)
      obtain ⟨i, t, h1, _⟩ := hg x hx
      exact ⟨i, t, by rw [← ex]; exact h1⟩
    refine ⟨vs.map SrtO.iv, SrtO.ints_iv hi, ?_, ?_⟩
    · rw [e.length_eq, List.length_map, Array.length_toList, hn]
      exact Nat.le_trans hsm (by decide)
    · have pm := e.map SrtO.iv
      rw [List.map_map] at pm
      have ek : (es.toList.map fun x => SrtO.iv x.2) = es.toList.map keyOf := by
        refine List.map_congr_left fun x hx => ?_
        obtain ⟨i, t, h1, _⟩ := hg x hx
        unfold keyOf
        rw [h1]
        rfl
      rw [← ek]
      exact pm
  · have pm : ms.Perm (es.toList.map keyOf) := i2.trans e
    have hlen0 : ms.length = n := by rw [pm.length_eq, List.length_map, Array.length_toList]; exact hn
    have hlen : (ms.map V.int).length ≤ sizeLine := by
      rw [List.length_map, hlen0]
      exact Nat.le_trans hsm (by decide)
    obtain ⟨hfree, J⟩ := inv_laid I1 k hp g os (o := .lst (ms.map V.int)) ⟨hlen, out, c, vals_of_ints i1, hcell⟩
    exact ⟨.ref p, _, J, rfl, q ms p (MyS.lt_nd ms i3 (pm.nodup_iff.mpr hnd)) (fun z => by rw [pm.mem_iff, ← hmem z]) hlen0 hfree⟩
/-- set(t), t a list or tuple of ints -/
def rSetQ (K : PySem.W.Frag) (w : World) : List V → Hp → VK → Prop := fun vs H Q => ∃ (a : Addr) (ns : List Int), vs = [V.ref a] ∧ (SqL K H a (ns.map V.int) ∨ SqT K H a (ns.map V.int)) ∧ ns.length ≤ 4000 ∧
  ∀ (c : Nat) (p : Addr), c ≤ ns.length → H p = none → Q (.ref p) (upd H p (SetO w p (fun j => decide (j ∈ ns)) c))
theorem call_setQ (hc : X.calm = true) : CallR X (.type "set") (rSetQ X.K X.w) := by
  intro pins s σ H vs us Q I r h
  obtain ⟨a, ns, rfl, hs, hlen, q⟩ := h
  rw [Vals.ref1 r]
  have hb : ns.length + 1 < scanBound := Nat.lt_of_le_of_lt (Nat.succ_le_succ hlen) (by decide)
  have fin : ∀ (h' : Heap) (tk c : Nat), SetR X.w h' s.heap.objs.size (fun j => decide (j ∈ ns)) c → c ≤ ns.length → (∀ b o, s.heap.get? b = some o → h'.get? b = some o) → EP X pins σ Q (.ref s.heap.objs.size) { s with heap := h', toks := tk } := fun h' tk c R lc k => by
    obtain ⟨hn, J⟩ := inv_laid (s' := { s with heap := h', toks := tk }) I k (Nat.le_refl _) rfl rfl (o := SetO X.w s.heap.objs.size (fun j => decide (j ∈ ns)) c) (setO_new R)
    exact ⟨.ref _, _, J, rfl, q c _ lc hn⟩
  rcases hs with hs | hs
  · obtain ⟨its, rv, pl, hz⟩ := I.list hs
    exact MyS.set_of_list ns (I.ok.hd hc) pl.isList rv.ints hb fin
  · obtain ⟨its, rv, pl, hz⟩ := I.tuple hs
    exact call_set_tupI ns (I.ok.hd hc) pl rv.ints hb fin
end
end L2
namespace My
open PySem PySem.Spec PyProof.Rows L2
/-! ### heaps and the drawing state -/
theorem same_upd {H : Hp} {p : Addr} {o : HO} (h : H p = none) : Same H (upd H p o) := fun b x e => by
  rw [upd_ne (ne_of_none e h)]
  exact e
theorem rd_same {H H' : Hp} {a : Addr} {u : HO} (e : Same H H') (h : Rd H a u) : Rd H' a u := by
  rcases h with h | ⟨o, h⟩
  · exact .inl (e a _ h)
  · exact .inr ⟨o, e a _ h⟩
theorem seqT_same {K : PySem.W.Frag} {H H' : Hp} {a : Addr} {xs : List V} (e : Same H H') (h : SqT K H a xs) : SqT K H' a xs := by
  rcases h with h | h
  · exact .inl (rd_same e h)
  · exact .inr h
theorem int_at {ns : List Int} {i : Nat} {y : V} (h : (ns.map V.int)[i]? = some y) : ∃ z, ns[i]? = some z ∧ y = V.int z := by
  rw [List.getElem?_map] at h
  cases e : ns[i]? with
  | none =>
    rw [e] at h
    cases h
  | some z =>
    rw [e] at h
    exact ⟨z, rfl, (Option.some.inj h).symm⟩
/-! rules whose frame is a comprehension's -/
section
variable {X : Cx} {K : PySem.W.Frag}
theorem ix_tupK (h : X.K = K) : IxR X (rIxT K) := h ▸ ix_tup
theorem ix_listK (h : X.K = K) : IxR X (rIxL K) := h ▸ ix_list
theorem op_in_seqK (h : X.K = K) : OpR X (compareOp .In) (rIn K false) := h ▸ op_in_seq
theorem op_notIn_seqK (h : X.K = K) : OpR X (compareOp .NotIn) (rIn K true) := h ▸ op_notIn_seq
theorem call_isiK' (h : X.K = K) : CallR X (.builtin "isinstance") (rIsi K) := h ▸ call_isi
def rLenQ (K : PySem.W.Frag) : List V → Hp → VK → Prop := fun xs H Q => ∃ p ys, xs = [.ref p] ∧ (SqL K H p ys ∨ SqT K H p ys) ∧ Q (.int ys.length) H
theorem call_len_seqK (h : X.K = K) : CallR X (.builtin "len") (rLenQ K) := h ▸ call_len_seq
end
/-- the law's drawing state: a list of the script, how many were taken, a mixed number, a rest -/
structure StAt (K : PySem.W.Frag) (a st : Addr) (H : Hp) : Prop where
  ex : ∃ i m r : Int, 0 ≤ i ∧ H st = some (.lst [.ref a, .int i, .int m, .int r])
  sc : ∃ ns : List Int, SqL K H a (ns.map V.int)
/-- what drawing may do to the heap -/
structure Go (K : PySem.W.Frag) (st : Addr) (H H' : Hp) : Prop where
  keep : ∀ b o, b ≠ st → H b = some o → H' b = some o
  st : ∀ a, StAt K a st H → StAt K a st H'
section
variable {K : PySem.W.Frag} {st a : Addr} {H H1 H2 H' : Hp}
theorem Go.refl (H : Hp) : Go K st H H := ⟨fun _ _ _ e => e, fun _ h => h⟩
theorem Go.trans (x : Go K st H H1) (y : Go K st H1 H2) : Go K st H H2 := ⟨fun b o hb e => y.keep b o hb (x.keep b o hb e), fun a h => y.st a (x.st a h)⟩
theorem StAt.same (e : Same H H') (h : StAt K a st H) : StAt K a st H' := by
  obtain ⟨⟨i, m, r, hi, hs⟩, ns, hn⟩ := h
  exact ⟨⟨i, m, r, hi, e _ _ hs⟩, ns, e.seq hn⟩
theorem Go.of (e : Same H H') : Go K st H H' := ⟨fun b o _ h => e b o h, fun _ h => h.same e⟩
theorem Go.new {p : Addr} {o : HO} (h : H p = none) : Go K st H (upd H p o) := Go.of (same_upd h)
theorem StAt.ne {b : Addr} {o : HO} (h : StAt K a st H) (e : H b = some o) (hb : ∀ xs, o ≠ .lst xs) : b ≠ st := fun z => by
  obtain ⟨⟨i, m, r, _, hs⟩, _⟩ := h
  rw [z, hs] at e
  exact hb _ (Option.some.inj e).symm
/-- a stored state -/
theorem StAt.upd {i m r : Int} (h : StAt K a st H) (hi : 0 ≤ i) : StAt K a st (upd H st (.lst [.ref a, .int i, .int m, .int r])) := by
  obtain ⟨⟨i0, m0, r0, hi0, hs⟩, ns, hn⟩ := h
  refine ⟨⟨i, m, r, hi, upd_same⟩, ns, ?_⟩
  rcases hn with (hn | ⟨o, hn⟩) | hn
  · have hne : a ≠ st := fun z => by
      rw [z, hs] at hn
      have e := HO.lst.inj (Option.some.inj hn)
      cases ns with
      | nil => cases e
      | cons n r => cases e
    exact .inl (.inl (by rw [upd_ne hne]; exact hn))
  · have hne : a ≠ st := fun z => by
      rw [z, hs] at hn
      cases hn
    exact .inl (.inr ⟨o, by rw [upd_ne hne]; exact hn⟩)
  · exact .inr hn
theorem Go.upd {i m r : Int} (h : StAt K a st H) (hi : 0 ≤ i) : Go K st H (L2.upd H st (.lst [.ref a, .int i, .int m, .int r])) := by
  refine ⟨fun b o hb e => by rw [upd_ne hb]; exact e, fun a' h' => ?_⟩
  have e : a' = a := by
    obtain ⟨⟨i0, m0, r0, hi0, hs⟩, _⟩ := h
    obtain ⟨⟨i1, m1, r1, hi1, hs1⟩, _⟩ := h'
    rw [hs] at hs1
    injection hs1 with e1
    injection e1 with e2
    injection e2 with e3
    injection e3 with e4
    exact e4.symm
  subst e
  exact h'.upd hi
theorem Go.seqT {b : Addr} {xs : List V} (g : Go K st H H') (h : StAt K a st H) (hb : SqT K H b xs) : SqT K H' b xs := by
  rcases hb with (e | ⟨o, e⟩) | e
  · exact .inl (.inl (g.keep b _ (h.ne e (fun _ z => nomatch z)) e))
  · exact .inl (.inr ⟨o, g.keep b _ (h.ne e (fun _ z => nomatch z)) e⟩)
  · exact .inr e
theorem Go.free {p : Addr} (g : Go K st H H') (h : StAt K a st H) (hp : H' p = none) : H p = none := by
  cases e : H p with
  | none => rfl
  | some o =>
    by_cases hq : p = st
    · obtain ⟨⟨i, m, r, _, hs⟩, _⟩ := g.st a h
      rw [hq, hs] at hp
      cases hp
    · rw [g.keep p o hq e] at hp
      cases hp
end
theorem StAt.fresh {K : PySem.W.Frag} {a st p : Addr} {H : Hp} (h : StAt K a st H) (hp : H p = none) : p ≠ st := fun z => by
  obtain ⟨⟨i, m, r, _, hs⟩, _⟩ := h
  rw [z, hs] at hp
  cases hp
/-- a new object may change -/
theorem Go.mut {K : PySem.W.Frag} {st a p : Addr} {H H' : Hp} {o : HO} (g : Go K st H H') (h : StAt K a st H) (hp : H p = none) : Go K st H (L2.upd H' p o) := by
  have hne := h.fresh hp
  refine ⟨fun b u hb e => by rw [upd_ne (ne_of_none e hp)]; exact g.keep b u hb e, fun a' h' => ?_⟩
  obtain ⟨⟨i, m, r, hi, hs⟩, _⟩ := g.st a' h'
  obtain ⟨⟨i0, m0, r0, hi0, hs0⟩, ns, hn⟩ := h'
  refine ⟨⟨i, m, r, hi, by rw [upd_ne hne.symm]; exact hs⟩, ns, ?_⟩
  rcases hn with (hn | ⟨o', hn⟩) | hn
  · have hne' : a' ≠ st := fun z => by
      rw [z, hs0] at hn
      have e := HO.lst.inj (Option.some.inj hn)
      cases ns with
      | nil => cases e
      | cons n r => cases e
    exact .inl (.inl (by rw [upd_ne (ne_of_none hn hp)]; exact g.keep _ _ hne' hn))
  · have hne' : a' ≠ st := fun z => by
      rw [z, hs0] at hn
      cases hn
    exact .inl (.inr ⟨o', by rw [upd_ne (ne_of_none hn hp)]; exact g.keep _ _ hne' hn⟩)
  · exact .inr hn
/-- [f(..) for x in range(n)], each an int of which P holds, drawing meanwhile -/
theorem lc_ints {K : PySem.W.Frag} {st a D : Addr} {H : Hp} {te : TE} {σ : L2.St} {vs : List Nat} {j : Nat} {lo : Int} {n : Nat} {Qd : Hp → Prop} (P : Int → Prop) (hS : StAt K a st H) (hD : H D = none) (hn : n ≤ 10000)
    (hw : ∀ x, wipe ((wipe σ vs).set j (some x)) vs = wipe σ vs)
    (ht : ∀ (i : Nat) (H1 : Hp), i < n → Go K st H H1 → ∀ Q : VK, (∀ (v : Int) (H2 : Hp), P v → Go K st H1 H2 → Q (.int v) H2) → te ((wipe σ vs).set j (some (.int (lo + (i : Int))))) H1 Q)
    (q : ∀ (ns : List Int) (H' : Hp), ns.length = n → (∀ z ∈ ns, P z) → Go K st H H' → H' D = some (.lst (ns.map V.int)) → Qd H') :
    ∃ W : Nat → Nat → Hp → Prop, (∃ m, W 0 m (upd H D (.lst []))) ∧ ∀ i m H, W i m H →
      ((Itr lo n).stop i H ∧ Qd H) ∨ ((Itr lo n).go i H ∧ ∃ Nx : Hp → Prop, (∀ H', Nx H' → ∃ m', m' < m ∧ W (i + 1) m' H') ∧ ∀ x H', (Itr lo n).yld i H x H' → (gName j) x (wipe σ vs) H' fun σ2 H2 => wipe σ2 vs = wipe σ vs ∧ tYes σ2 H2 fun b H3 =>
        if b = true then te σ2 H3 fun y H4 => ∃ acc, H4 D = some (.lst acc) ∧ acc.length < sizeLine ∧ Nx (upd H4 D (.lst (acc ++ [y]))) else Nx H3) := by
  refine lc_range (fun i H' => ∃ ns : List Int, ns.length = i ∧ (∀ z ∈ ns, P z) ∧ Go K st H H' ∧ H' D = some (.lst (ns.map V.int))) ⟨[], rfl, (fun _ z => nomatch z), Go.new hD, upd_same⟩ ?_ ?_
  · rintro i H1 hi ⟨ns, hl, hP, g, hd⟩
    refine ⟨hw _, ?_⟩
    show te ((wipe σ vs).set j (some (.int (lo + (i : Int))))) H1 _
    refine ht i H1 hi g _ fun v H2 hv g2 => ?_
    have hd2 : H2 D = some (.lst (ns.map V.int)) := g2.keep _ _ (hS.fresh hD) hd
    refine ⟨_, hd2, ?_, ns ++ [v], ?_, ?_, (g.trans g2).mut hS hD, ?_⟩
    · rw [List.length_map]
      exact Nat.lt_of_lt_of_le (by omega : ns.length < 10000) (by decide)
    · rw [List.length_append, hl]
      rfl
    · intro z hz
      rcases List.mem_append.mp hz with h | h
      · exact hP z h
      · rw [List.mem_singleton.mp h]
        exact hv
    · rw [upd_same, List.map_append]
      rfl
  · rintro H' ⟨ns, hl, hP, g, hd⟩
    exact q ns H' hl hP g hd
theorem _root_.L2.Same.mut {H H' : Hp} {p : Addr} {o : HO} (e : Same H H') (h : H p = none) : Same H (upd H' p o) := fun b u q => by
  rw [upd_ne (ne_of_none q h)]
  exact e b u q
theorem filt_take {xs : List V} {f : V → Bool} {v : V → V} {i : Nat} {x : V} (h : xs[i]? = some x) : ((xs.take (i + 1)).filter f).map v = ((xs.take i).filter f).map v ++ (if f x = true then [v x] else []) := by
  rw [List.take_add_one, h, List.filter_append, List.map_append]
  congr 1
  show ([x].filter f).map v = _
  by_cases c : f x = true
  · rw [if_pos c, List.filter_cons, if_pos c]
    rfl
  · rw [if_neg c, List.filter_cons, if_neg c]
    rfl
/-- what a comprehension without drawing has made behind i turns -/
def Made (H1 : Hp) (D : Addr) (f : V → Bool) (v : V → V) (xs : List V) (i : Nat) (H' : Hp) : Prop := Same H1 H' ∧ H' D = some (.lst (((xs.take i).filter f).map v))
theorem made_turn {H1 H' : Hp} {D : Addr} {f : V → Bool} {v : V → V} {xs : List V} {i : Nat} {x : V} {tt : TT} {te : TE} {σ2 : L2.St} (hD : H1 D = none) (hz : xs.length ≤ 10000) (hx : xs[i]? = some x) (p : Made H1 D f v xs i H')
    (ht : ∀ H2, Same H1 H2 → ∀ Q : Bool → Hp → Prop, (∀ H3, Same H2 H3 → Q (f x) H3) → tt σ2 H2 Q) (he : f x = true → ∀ H2, Same H1 H2 → ∀ Q : VK, (∀ H3, Same H2 H3 → Q (v x) H3) → te σ2 H2 Q) :
    tt σ2 H' fun b H3 => if b = true then te σ2 H3 fun y H4 => ∃ acc, H4 D = some (.lst acc) ∧ acc.length < sizeLine ∧ Made H1 D f v xs (i + 1) (upd H4 D (.lst (acc ++ [y]))) else Made H1 D f v xs (i + 1) H3 := by
  obtain ⟨sm, hd⟩ := p
  refine ht H' sm _ fun H3 s3 => ?_
  have hd3 := s3 _ _ hd
  by_cases c : f x = true
  · rw [if_pos c]
    refine he c H3 (sm.trans s3) _ fun H4 s4 => ?_
    have hd4 := s4 _ _ hd3
    refine ⟨_, hd4, ?_, (sm.trans (s3.trans s4)).mut hD, ?_⟩
    · rw [List.length_map]
      refine Nat.lt_of_le_of_lt (Nat.le_trans (List.length_filter_le _ _) ?_) (show 10000 < sizeLine by decide)
      rw [List.length_take]
      omega
    · rw [upd_same, filt_take hx, if_pos c]
  · rw [if_neg c]
    refine ⟨sm.trans s3, ?_⟩
    rw [hd3, filt_take hx, if_neg c, List.append_nil]
theorem lc_pureT {K : PySem.W.Frag} {D a : Addr} {H1 : Hp} {σ : L2.St} {vs : List Nat} {j : Nat} {tt : TT} {te : TE} {xs : List V} {Qd : Hp → Prop} (f : V → Bool) (v : V → V) (hD : H1 D = none) (ha : SqT K H1 a xs) (hz : xs.length ≤ 10000)
    (hw : ∀ x, wipe ((wipe σ vs).set j (some x)) vs = wipe σ vs)
    (ht : ∀ x ∈ xs, ∀ H2, Same H1 H2 → ∀ Q : Bool → Hp → Prop, (∀ H3, Same H2 H3 → Q (f x) H3) → tt ((wipe σ vs).set j (some x)) H2 Q) (he : ∀ x ∈ xs, f x = true → ∀ H2, Same H1 H2 → ∀ Q : VK, (∀ H3, Same H2 H3 → Q (v x) H3) → te ((wipe σ vs).set j (some x)) H2 Q)
    (q : ∀ H', Same H1 H' → H' D = some (.lst ((xs.filter f).map v)) → Qd H') :
    ∃ W : Nat → Nat → Hp → Prop, (∃ m, W 0 m (upd H1 D (.lst []))) ∧ ∀ i m H, W i m H →
      ((Itt K a).stop i H ∧ Qd H) ∨ ((Itt K a).go i H ∧ ∃ Nx : Hp → Prop, (∀ H', Nx H' → ∃ m', m' < m ∧ W (i + 1) m' H') ∧ ∀ x H', (Itt K a).yld i H x H' → (gName j) x (wipe σ vs) H' fun σ2 H2 => wipe σ2 vs = wipe σ vs ∧ tt σ2 H2 fun b H3 =>
        if b = true then te σ2 H3 fun y H4 => ∃ acc, H4 D = some (.lst acc) ∧ acc.length < sizeLine ∧ Nx (upd H4 D (.lst (acc ++ [y]))) else Nx H3) :=
  lc_tup (xs := xs) (Made H1 D f v xs) ⟨same_upd hD, upd_same⟩ (fun _ _ _ p => seqT_same p.1 ha) (fun i x H' hx p => ⟨hw x, made_turn hD hz hx p (ht x (List.mem_of_getElem? hx)) (he x (List.mem_of_getElem? hx))⟩)
    fun H' p => q H' p.1 (by rw [p.2, List.take_length])
theorem lc_pureL {K : PySem.W.Frag} {D a : Addr} {H1 : Hp} {σ : L2.St} {vs : List Nat} {j : Nat} {tt : TT} {te : TE} {xs : List V} {Qd : Hp → Prop} (f : V → Bool) (v : V → V) (hD : H1 D = none) (ha : SqL K H1 a xs) (hz : xs.length ≤ 10000)
    (hw : ∀ x, wipe ((wipe σ vs).set j (some x)) vs = wipe σ vs)
    (ht : ∀ x ∈ xs, ∀ H2, Same H1 H2 → ∀ Q : Bool → Hp → Prop, (∀ H3, Same H2 H3 → Q (f x) H3) → tt ((wipe σ vs).set j (some x)) H2 Q) (he : ∀ x ∈ xs, f x = true → ∀ H2, Same H1 H2 → ∀ Q : VK, (∀ H3, Same H2 H3 → Q (v x) H3) → te ((wipe σ vs).set j (some x)) H2 Q)
    (q : ∀ H', Same H1 H' → H' D = some (.lst ((xs.filter f).map v)) → Qd H') :
    ∃ W : Nat → Nat → Hp → Prop, (∃ m, W 0 m (upd H1 D (.lst []))) ∧ ∀ i m H, W i m H →
      ((Itl K a).stop i H ∧ Qd H) ∨ ((Itl K a).go i H ∧ ∃ Nx : Hp → Prop, (∀ H', Nx H' → ∃ m', m' < m ∧ W (i + 1) m' H') ∧ ∀ x H', (Itl K a).yld i H x H' → (gName j) x (wipe σ vs) H' fun σ2 H2 => wipe σ2 vs = wipe σ vs ∧ tt σ2 H2 fun b H3 =>
        if b = true then te σ2 H3 fun y H4 => ∃ acc, H4 D = some (.lst acc) ∧ acc.length < sizeLine ∧ Nx (upd H4 D (.lst (acc ++ [y]))) else Nx H3) :=
  lc_list (xs := xs) (Made H1 D f v xs) ⟨same_upd hD, upd_same⟩ (fun _ _ _ p => p.1.seq ha) (fun i x H' hx p => ⟨hw x, made_turn hD hz hx p (ht x (List.mem_of_getElem? hx)) (he x (List.mem_of_getElem? hx))⟩)
    fun H' p => q H' p.1 (by rw [p.2, List.take_length])
def rgL (lo : Int) (n : Nat) : List V := (List.range n).map fun i : Nat => V.int (lo + (i : Int))
theorem rgL_get {lo : Int} {n i : Nat} (h : i < n) : (rgL lo n)[i]? = some (.int (lo + (i : Int))) := by
  unfold rgL
  rw [List.getElem?_map, List.getElem?_range h]
  rfl
theorem rgL_len (lo : Int) (n : Nat) : (rgL lo n).length = n := by
  unfold rgL
  rw [List.length_map, List.length_range]
theorem lc_pureR {D : Addr} {H1 : Hp} {σ : L2.St} {vs : List Nat} {j : Nat} {tt : TT} {te : TE} {lo : Int} {n : Nat} {Qd : Hp → Prop} (f : V → Bool) (v : V → V) (hD : H1 D = none) (hz : n ≤ 10000)
    (hw : ∀ x, wipe ((wipe σ vs).set j (some x)) vs = wipe σ vs)
    (ht : ∀ i : Nat, i < n → ∀ H2, Same H1 H2 → ∀ Q : Bool → Hp → Prop, (∀ H3, Same H2 H3 → Q (f (.int (lo + (i : Int)))) H3) → tt ((wipe σ vs).set j (some (.int (lo + (i : Int))))) H2 Q)
    (he : ∀ i : Nat, i < n → f (.int (lo + (i : Int))) = true → ∀ H2, Same H1 H2 → ∀ Q : VK, (∀ H3, Same H2 H3 → Q (v (.int (lo + (i : Int)))) H3) → te ((wipe σ vs).set j (some (.int (lo + (i : Int))))) H2 Q)
    (q : ∀ H', Same H1 H' → H' D = some (.lst (((rgL lo n).filter f).map v)) → Qd H') :
    ∃ W : Nat → Nat → Hp → Prop, (∃ m, W 0 m (upd H1 D (.lst []))) ∧ ∀ i m H, W i m H →
      ((Itr lo n).stop i H ∧ Qd H) ∨ ((Itr lo n).go i H ∧ ∃ Nx : Hp → Prop, (∀ H', Nx H' → ∃ m', m' < m ∧ W (i + 1) m' H') ∧ ∀ x H', (Itr lo n).yld i H x H' → (gName j) x (wipe σ vs) H' fun σ2 H2 => wipe σ2 vs = wipe σ vs ∧ tt σ2 H2 fun b H3 =>
        if b = true then te σ2 H3 fun y H4 => ∃ acc, H4 D = some (.lst acc) ∧ acc.length < sizeLine ∧ Nx (upd H4 D (.lst (acc ++ [y]))) else Nx H3) :=
  lc_range (Made H1 D f v (rgL lo n)) ⟨same_upd hD, upd_same⟩ (fun i H' hi p => ⟨hw _, made_turn hD (by rw [rgL_len]; exact hz) (rgL_get hi) p (ht i hi) (he i hi)⟩)
    fun H' p => q H' p.1 (by rw [p.2, List.take_of_length_le (by rw [rgL_len]; exact Nat.le_refl _)])
/-- a set of marks as a list -/
structure SetL (ms : List Int) : Prop where
  up : ms.Pairwise (· < ·)
  bd : ∀ z ∈ ms, 1 ≤ z ∧ z ≤ 96
theorem SetL.len {ms : List Int} (h : SetL ms) : ms.length ≤ 96 := by
  have key : ∀ (l : List Int) (lo : Int), l.Pairwise (· < ·) → (∀ z ∈ l, lo ≤ z ∧ z ≤ 96) → (l.length : Int) ≤ 96 - lo + 1 ∨ l = [] := by
    intro l
    induction l with
    | nil => intro _ _ _; exact .inr rfl
    | cons x r ih =>
      intro lo hp hb
      have hp' := List.pairwise_cons.mp hp
      have hx := hb x List.mem_cons_self
      left
      rcases ih (x + 1) hp'.2 (fun z hz => ⟨hp'.1 z hz, (hb z (List.mem_cons_of_mem _ hz)).2⟩) with h | h
      · rw [List.length_cons]
        omega
      · rw [h]
        show ((0 + 1 : Nat) : Int) ≤ _
        omega
  rcases key ms 1 h.up h.bd with h | h
  · omega
  · rw [h]
    exact Nat.zero_le _
theorem SetL.nil : SetL [] := ⟨.nil, fun _ z => nomatch z⟩
def sp__law_set (K : PySem.W.Frag) : Sp := fun vs H Q _ => ∃ (a st : Addr) (most : Int), vs = [.ref st, .int most] ∧ StAt K a st H ∧ 0 ≤ most ∧ most ≤ 96 ∧
  ∀ (t : Addr) (ms : List Int) H', SetL ms → (ms.length : Int) ≤ most → Go K st H H' → H t = none → H' t = some (.tup (ms.map V.int)) → Q (.ref t) H'
theorem pickI {ns : List Int} {v lo hi : Int} (h : ∀ z ∈ ns, lo ≤ z ∧ z ≤ hi) (h0 : 0 ≤ v) (h1 : v < (ns.length : Int)) : ∃ z, atI (ns.map V.int) v = some (.int z) ∧ lo ≤ z ∧ z ≤ hi := by
  have hlt : v.toNat < ns.length := by omega
  refine ⟨ns[v.toNat], at_of (j := v.toNat) (by omega) ?_, h _ (List.getElem_mem hlt)⟩
  rw [List.getElem?_map, List.getElem?_eq_getElem hlt]
  rfl
theorem nat8000 {n : Int} (h0 : 0 ≤ n) (h : n < 10 ^ 70) : n.natAbs < 2 ^ 8000 := Nat.lt_of_lt_of_le (by omega : n.natAbs < 10 ^ 70) (by decide +kernel)
/-! ### the promises of the drawing defs -/
def sp__law_start (K : PySem.W.Frag) : Sp := fun vs H Q _ => ∃ (a : Addr) (ns : List Int), vs = [.ref a] ∧ SqL K H a (ns.map V.int) ∧
  ∀ st H', H st = none → Same H H' → StAt K a st H' → Q (.ref st) H'
def sp__law_drawn (K : PySem.W.Frag) : Sp := fun vs H Q _ => ∃ (a st : Addr) (n : Int), vs = [.ref st, .int n] ∧ StAt K a st H ∧ 0 < n ∧ n.natAbs < 2 ^ 8000 ∧
  ∀ (v : Int) H', 0 ≤ v → v < n → Go K st H H' → Q (.int v) H'
end My
namespace My
open PySem PySem.Spec PyProof.Rows L2
/-- is it a set, from the mark before on -/
def isSetG : Int → List Int → Bool
  | _, [] => true
  | b, x :: r => if x ≤ b ∨ 96 < x then false else isSetG x r
def isSetB (ns : List Int) : Bool := isSetG 0 ns
theorem isSetG_iff : ∀ (ns : List Int) (b : Int), isSetG b ns = true ↔ ns.Pairwise (· < ·) ∧ (∀ z ∈ ns, b < z ∧ z ≤ 96)
  | [], b => ⟨fun _ => ⟨.nil, fun _ z => nomatch z⟩, fun _ => rfl⟩
  | x :: r, b => by
    unfold isSetG
    by_cases c : x ≤ b ∨ 96 < x
    · rw [if_pos c]
      refine ⟨(fun z => nomatch z), fun h => ?_⟩
      have := h.2 x List.mem_cons_self
      omega
    · rw [if_neg c, isSetG_iff r x]
      constructor
      · rintro ⟨h1, h2⟩
        refine ⟨.cons (fun y hy => (h2 y hy).1) h1, fun z hz => ?_⟩
        rcases List.mem_cons.mp hz with e | hz
        · omega
        · have := h2 z hz
          omega
      · rintro ⟨h1, h2⟩
        have h1' := List.pairwise_cons.mp h1
        exact ⟨h1'.2, fun z hz => ⟨h1'.1 z hz, (h2 z (List.mem_cons_of_mem _ hz)).2⟩⟩
theorem isSetB_iff {ns : List Int} : isSetB ns = true ↔ SetL ns := by
  unfold isSetB
  rw [isSetG_iff]
  exact ⟨fun h => ⟨h.1, fun z hz => by have := h.2 z hz; omega⟩, fun h => ⟨h.up, fun z hz => by have := h.bd z hz; omega⟩⟩
def sp_is_set (K : PySem.W.Frag) : Sp := fun vs H Q _ => ∃ (a : Addr) (ns : List Int), vs = [.ref a] ∧ SqT K H a (ns.map V.int) ∧ Q (.bl (isSetB ns)) H
def sp_refuse_unless_set (K : PySem.W.Frag) (C : Addr) : Sp := fun vs H Q E => ∃ (a : Addr) (ns : List Int), vs = [.ref a] ∧ SqT K H a (ns.map V.int) ∧ (isSetB ns = false → E (.ref C) none H) ∧ (isSetB ns = true → Q .non H)
end My
namespace My
open PySem PySem.Spec PyProof.Rows L2
theorem filt_no {α : Type} (xs : List α) : (xs.filter fun _ => false) = [] := List.filter_eq_nil_iff.mpr fun _ _ h => nomatch h
/-! ### == of lists and tuples of ints -/
theorem dpInts {K : PySem.W.Frag} {H : Hp} : ∀ ns : List Int, DpAll K H (ns.map V.int) (ns.map PyData.int)
  | [] => .nil
  | _ :: r => .cons (.int _) (dpInts r)
theorem lay_ints : ∀ ns : List Int, PyData.canLayAll0 (ns.map PyData.int) = true
  | [] => by simp [PyData.canLayAll0]
  | n :: r => by simp [PyData.canLayAll0, PyData.canLay0, lay_ints r]
theorem depth_ints : ∀ ns : List Int, PyData.depthAll (ns.map PyData.int) ≤ 1
  | [] => by simp [PyData.depthAll]
  | n :: r => by
    have h := depth_ints r
    simp only [List.map_cons, PyData.depthAll, PyData.depth]
    omega
theorem shaped_tup (ns : List Int) : SeqAt.shaped (.tuple (ns.map PyData.int)) = true := by
  have h := depth_ints ns
  show (_ && decide (_ ≤ 64)) = true
  rw [Bool.and_eq_true]
  exact ⟨by simp only [PyData.canLay0]; exact lay_ints ns, decide_eq_true (by simp only [PyData.depth]; omega)⟩
theorem shaped_lst (ns : List Int) : SeqAt.shaped (.list (ns.map PyData.int)) = true := by
  have h := depth_ints ns
  show (_ && decide (_ ≤ 64)) = true
  rw [Bool.and_eq_true]
  exact ⟨by simp only [PyData.canLay0]; exact lay_ints ns, decide_eq_true (by simp only [PyData.depth]; omega)⟩
theorem eqv_ints : ∀ ns ms : List Int, PyData.eqvAll (ns.map PyData.int) (ms.map PyData.int) = decide (ns = ms)
  | [], [] => by simp [PyData.eqvAll]
  | [], m :: r => by simp [PyData.eqvAll]
  | n :: r, [] => by simp [PyData.eqvAll]
  | n :: r, m :: t => by
    simp only [List.map_cons, PyData.eqvAll, PyData.eqv, eqv_ints r t, List.cons.injEq, Bool.decide_and]
    rfl
theorem eqv_tup (ns ms : List Int) : PyData.eqv (.tuple (ns.map PyData.int)) (.tuple (ms.map PyData.int)) = decide (ns = ms) := by
  rw [PyData.eqv]
  exact eqv_ints ns ms
theorem eqv_lst (ns ms : List Int) : PyData.eqv (.list (ns.map PyData.int)) (.list (ms.map PyData.int)) = decide (ns = ms) := by
  rw [PyData.eqv]
  exact eqv_ints ns ms
/-- t != u, t == u: tuples, lists of ints -/
theorem neT {K : PySem.W.Frag} {H : Hp} {a b : Addr} {ns ms : List Int} {Q : VK} (ha : SqT K H a (ns.map V.int)) (hb : SqT K H b (ms.map V.int)) (q : Q (.bl (!decide (ns = ms))) H) : rNeD K (.ref a) (.ref b) H Q :=
  ⟨_, _, .tup ha (dpInts ns), .tup hb (dpInts ms), shaped_tup ns, shaped_tup ms, by rw [eqv_tup]; exact q⟩
theorem eqT {K : PySem.W.Frag} {H : Hp} {a b : Addr} {ns ms : List Int} {Q : VK} (ha : SqT K H a (ns.map V.int)) (hb : SqT K H b (ms.map V.int)) (q : Q (.bl (decide (ns = ms))) H) : rEqD K (.ref a) (.ref b) H Q :=
  ⟨_, _, .tup ha (dpInts ns), .tup hb (dpInts ms), shaped_tup ns, shaped_tup ms, by rw [eqv_tup]; exact q⟩
theorem neL {K : PySem.W.Frag} {H : Hp} {a b : Addr} {ns ms : List Int} {Q : VK} (ha : SqL K H a (ns.map V.int)) (hb : SqL K H b (ms.map V.int)) (q : Q (.bl (!decide (ns = ms))) H) : rNeD K (.ref a) (.ref b) H Q :=
  ⟨_, _, .lst ha (dpInts ns), .lst hb (dpInts ms), shaped_lst ns, shaped_lst ms, by rw [eqv_lst]; exact q⟩
theorem eqL {K : PySem.W.Frag} {H : Hp} {a b : Addr} {ns ms : List Int} {Q : VK} (ha : SqL K H a (ns.map V.int)) (hb : SqL K H b (ms.map V.int)) (q : Q (.bl (decide (ns = ms))) H) : rEqD K (.ref a) (.ref b) H Q :=
  ⟨_, _, .lst ha (dpInts ns), .lst hb (dpInts ms), shaped_lst ns, shaped_lst ms, by rw [eqv_lst]; exact q⟩
theorem eq_of_up : ∀ l1 l2 : List Int, l1.Pairwise (· < ·) → l2.Pairwise (· < ·) → (∀ z, z ∈ l1 ↔ z ∈ l2) → l1 = l2
  | [], [], _, _, _ => rfl
  | [], y :: _, _, _, h => nomatch (h y).mpr List.mem_cons_self
  | x :: _, [], _, _, h => nomatch (h x).mp List.mem_cons_self
  | x :: r, y :: s, h1, h2, h => by
    have p1 := List.pairwise_cons.mp h1
    have p2 := List.pairwise_cons.mp h2
    have e : x = y := by
      rcases List.mem_cons.mp ((h x).mp List.mem_cons_self) with e | e
      · exact e
      · rcases List.mem_cons.mp ((h y).mpr List.mem_cons_self) with f | f
        · exact f.symm
        · have := p2.1 x e
          have := p1.1 y f
          omega
    subst e
    congr 1
    refine eq_of_up r s p1.2 p2.2 fun z => ⟨fun hz => ?_, fun hz => ?_⟩
    · rcases List.mem_cons.mp ((h z).mp (List.mem_cons_of_mem _ hz)) with f | f
      · have := p1.1 z hz
        omega
      · exact f
    · rcases List.mem_cons.mp ((h z).mpr (List.mem_cons_of_mem _ hz)) with f | f
      · have := p2.1 z hz
        omega
      · exact f
theorem marks_up : ((List.range 96).map fun i : Nat => 1 + (i : Int)).Pairwise (· < ·) :=
  List.pairwise_map.mpr (List.pairwise_lt_range.imp fun h => by omega)
theorem mem_marks {z : Int} : z ∈ ((List.range 96).map fun i : Nat => 1 + (i : Int)) ↔ 1 ≤ z ∧ z ≤ 96 := by
  rw [List.mem_map]
  constructor
  · rintro ⟨i, hi, rfl⟩
    have := List.mem_range.mp hi
    omega
  · rintro ⟨h0, h1⟩
    exact ⟨(z - 1).toNat, List.mem_range.mpr (by omega), by omega⟩
theorem ne_len {α : Type} {l : List α} {n : Nat} (h : l.length = n + 1) : l ≠ [] := fun e => by
  rw [e] at h
  cases h
/-- t + u, tuples of ints -/
theorem catA_ints {K : PySem.W.Frag} {H : Hp} {z t : Addr} {zs ns : List Int} {Q : VK} (hz : SqT K H z (zs.map V.int)) (ht : SqT K H t (ns.map V.int)) (hl : zs.length + ns.length ≤ 1000)
    (k : ∀ (w : Addr) (H' : Hp), Same H H' → SqT K H' w ((zs ++ ns).map V.int) → Q (.ref w) H') : rCatA K (.ref z) (.ref t) H Q := by
  refine ⟨z, t, zs.map V.int, ns.map V.int, rfl, rfl, hz, ht, ?_, fun e => ?_, fun _ e => ?_, fun _ _ p hp => k p _ (same_upd hp) (SqT.of ?_)⟩
  · rw [List.length_map, List.length_map]
    exact Nat.le_trans hl (by decide)
  · rw [List.map_eq_nil_iff] at e
    refine k t H (Same.refl H) ?_
    rw [e]
    exact ht
  · rw [List.map_eq_nil_iff] at e
    refine k z H (Same.refl H) ?_
    rw [e, List.append_nil]
    exact hz
  · rw [upd_same, List.map_append]
/-! comprehensions over ints -/
theorem int_filter {ns : List Int} {f : V → Bool} {g : Int → Bool} (h : ∀ z ∈ ns, f (.int z) = g z) : ((ns.map V.int).filter f).map (fun x => x) = (ns.filter g).map V.int := by
  rw [List.map_id']
  induction ns with
  | nil => rfl
  | cons x r ih =>
    have ih' := ih fun z hz => h z (List.mem_cons_of_mem _ hz)
    rw [List.map_cons, List.filter_cons, List.filter_cons, h x List.mem_cons_self]
    by_cases c : g x = true
    · rw [if_pos c, if_pos c, List.map_cons, ih']
    · rw [if_neg c, if_neg c, ih']
theorem rgL_ints (lo : Int) (n : Nat) : rgL lo n = ((List.range n).map fun i : Nat => lo + (i : Int)).map V.int := by
  unfold rgL
  rw [List.map_map]
  rfl
end My
namespace My2
open PySem PySem.Spec PyProof.Rows L2
/-- every other item, n of them -/
def ev {α : Type} (xs : List α) (n : Nat) : List α := (List.range n).filterMap fun k => xs[2 * k]?
theorem ev_succ {α : Type} (xs : List α) (n : Nat) : ev xs (n + 1) = ev xs n ++ (xs[2 * n]?).toList := by
  unfold ev
  rw [List.range_succ, List.filterMap_append]
  cases h : xs[2 * n]? with
  | none => simp [List.filterMap_cons, h]
  | some x => simp [List.filterMap_cons, h]
theorem ev_len {α : Type} (xs : List α) (n : Nat) : (ev xs n).length ≤ n := by
  unfold ev
  have := List.length_filterMap_le (fun k => xs[2 * k]?) (List.range n)
  rw [List.length_range] at this
  exact this
theorem ev_mem {α : Type} {xs : List α} {n : Nat} {x : α} (h : x ∈ ev xs n) : x ∈ xs := by
  obtain ⟨k, _, e⟩ := List.mem_filterMap.mp h
  exact List.mem_of_getElem? e
theorem ev_up {xs : List Int} (h : xs.Pairwise (· < ·)) (n : Nat) : (ev xs n).Pairwise (· < ·) := by
  unfold ev
  refine List.pairwise_filterMap.mpr (List.pairwise_lt_range.imp ?_)
  intro a b hab x hx y hy
  obtain ⟨h1, e1⟩ := List.getElem?_eq_some_iff.mp hx
  obtain ⟨h2, e2⟩ := List.getElem?_eq_some_iff.mp hy
  rw [← e1, ← e2]
  exact List.pairwise_iff_getElem.mp h _ _ h1 h2 (by omega)
theorem ev_vals {xs : List V} {us : List Value} (r : Vals xs us) : ∀ n, Vals (ev xs n) (ev us n)
  | 0 => .nil
  | n + 1 => by
    rw [ev_succ, ev_succ]
    refine (ev_vals r n).append ?_
    by_cases h : 2 * n < xs.length
    · have hx : xs[2 * n]? = some xs[2 * n] := List.getElem?_eq_getElem h
      obtain ⟨u, hu, rel⟩ := r.get hx
      rw [hx, hu]
      exact .cons rel .nil
    · rw [List.getElem?_eq_none (by omega), List.getElem?_eq_none (by rw [← r.length]; omega)]
      exact .nil
theorem ev_map (xs : List Int) (n : Nat) : ev (xs.map V.int) n = (ev xs n).map V.int := by
  unfold ev
  rw [List.map_filterMap]
  congr 1
  funext k
  rw [List.getElem?_map]
section
variable {prog : Program} {w : World} {A : Around} {E : Value → Shared → Prop} {s : Shared}
theorem places2 (n : Nat) : Builtin.Slice.slicePlaces 0 (n : Int) 2 = (n + 1) / 2 := by
  unfold Builtin.Slice.slicePlaces
  rw [if_pos (by decide)]
  by_cases h : (0 : Int) < (n : Int)
  · rw [if_pos h]
    omega
  · rw [if_neg h]
    omega
theorem applied2 {sl : Addr} {vl vu : Value} {t : Tok} {n : Nat} {Q : Int × Int × Nat → Shared → Prop} (hs : s.heap.IsSliceOf sl vl vu (.int 2 t)) (pl : IsPart vl none) (pu : IsPart vu none)
    (h : Q (0, 2, (n + 1) / 2) s) : wpAny (model prog w) A (Builtin.Slice.sliceApplied (.ref sl) (pure (n : Int))) Q E s := by
  obtain ⟨os, hos, hcs, hds⟩ := id hs
  have ps : IsPart (.int 2 t) (some 2) := by first | exact ⟨t, rfl⟩ | exact .some _ _ | exact IsPart.int _ _
  unfold Builtin.Slice.sliceApplied Builtin.Slice.sliceFields
  refine wpAny_bind (wpAny_bind (wpAny_field hos hds (x := vl) rfl (wpAny_bind (wpAny_field hos hds (x := vu) rfl (wpAny_bind (wpAny_field hos hds (x := .int 2 t) rfl (wpAny_pure ?_)))))))
  refine wpAny_bind (HT.slicePart_ ps ?_)
  show wpAny _ _ (if ((2 : Int) == 0) = true then _ else _) _ _ s
  rw [if_neg (by decide)]
  refine wpAny_bind (HT.slicePart_ pl (wpAny_bind (HT.slicePart_ pu (wpAny_bind (wpAny_pure ?_)))))
  show wpAny _ _ (pure ((0 : Int), (2 : Int), Builtin.Slice.slicePlaces 0 (n : Int) 2)) _ _ s
  rw [places2]
  exact wpAny_pure h
theorem getItem2 {t sl : Addr} {items : Array Value} {vl vu : Value} {tk : Tok} {Q : Value → Shared → Prop} (ht : IsTup s.heap t items) (hs : s.heap.IsSliceOf sl vl vu (.int 2 tk)) (pl : IsPart vl none) (pu : IsPart vu none)
    (h : Q (.ref s.heap.objs.size) { s with heap := s.heap.push { cls := .type "tuple", data := .seq (ev items.toList ((items.size + 1) / 2)).toArray } }) (hsz : items.size ≤ sizeLine) : wpAny (model prog w) A (getItem (.ref t) (.ref sl)) Q E s := by
  have hfit : sizeOk (.seq (ev items.toList ((items.size + 1) / 2)).toArray) := by
    show (ev items.toList ((items.size + 1) / 2)).toArray.size ≤ sizeLine
    rw [List.size_toArray]
    have := ev_len items.toList ((items.size + 1) / 2)
    omega
  obtain ⟨os, hos, hcs, hds⟩ := id hs
  have hTs : s.TypeIs (.ref sl) "slice" := ⟨os, hos, hcs⟩
  unfold getItem
  try with_reducible refine wpAny_holding ?_
  first | refine wpAny_bind (wpAny_pure ?_) | skip
  refine wpAny_bind (wpAny_sequenceKey ht.typeIs (by decide) (wpAny_bind (wpAny_callSpecial?_slot (name := Str.ofString "__getitem__") ht.typeIs PyProof.Rows.slot_tuple_getitem (wpAny_call_entry PyProof.Rows.slot_tuple_getitem ht.typeIs entry_tuple_getitem ?_ (args_tuple_getitem _ _)))))
  show wpAny _ _ (Builtin.Tuple.tupleItemsOf (.ref t) >>= _) _ _ s
  refine wpAny_bind (tupleItemsOf_ ht (wpAny_bind (wpAny_typeOf hTs ?_)))
  rw [if_pos (by decide)]
  refine wpAny_bind (applied2 hs pl pu ?_)
  have hno : ¬ (((0 : Int) == 0 && (2 : Int) == 1 && (items.size + 1) / 2 == items.size) = true) := by
    rw [show ((2 : Int) == 1) = false from rfl]
    simp
  show wpAny _ _ (if ((0 : Int) == 0 && (2 : Int) == 1 && (items.size + 1) / 2 == items.size) = true then _ else _) _ _ s
  rw [if_neg hno]
  have e : ((List.range ((items.size + 1) / 2)).filterMap fun (k : Nat) => items[((0 : Int) + (k : Int) * 2).toNat]?).toArray = (ev items.toList ((items.size + 1) / 2)).toArray := by
    unfold ev
    congr 2
    funext k
    have : ((0 : Int) + (k : Int) * 2).toNat = 2 * k := by omega
    rw [this, Array.getElem?_toList]
  rw [e]
  first
    | exact wpAny_bind (m := Builtin.Tuple.tupleExact _) (wpAny_newObj_type (wpAny_pure ⟨_, rfl, wpAny_pure h⟩) hfit)
    | exact wpAny_bind (m := Builtin.Tuple.tupleExact _) (wpAny_newObj_type (wpAny_bind (wpAny_pure (wpAny_pure ⟨_, rfl, wpAny_pure h⟩))) hfit)
    | exact wpAny_bind (wpAny_bind (m := Builtin.Tuple.tupleExact _) (wpAny_newObj_type (wpAny_pure (wpAny_pure ⟨_, rfl, wpAny_pure h⟩)) hfit))
    | exact wpAny_bind (wpAny_bind (m := Builtin.Tuple.tupleExact _) (wpAny_newObj_type (wpAny_pure ⟨_, rfl, wpAny_pure h⟩) hfit))
end
/-- t[::2], a tuple -/
def tStep2 (K : PySem.W.Frag) (te : TE) : TE := fun σ H Q => te σ H fun x H1 => ∃ a xs, x = .ref a ∧ SqT K H1 a xs ∧ ∀ p, H1 p = none → Q (.ref p) (upd H1 p (.tup (ev xs ((xs.length + 1) / 2))))
theorem pe_step2 {X : Cx} {e : Expr} {te : TE} {k : Nat} {p1 p3 pos : Pos} (he : PE X e te) : PE X (.Subscript e (.Slice none none (some (.Constant (.int 2) k p1)) p3) pos) (tStep2 X.K te) := by
  refine ⟨fun pins s σ H Q I h => ?_⟩
  refine Subscript_ (thn (he.run pins s σ H _ I h) fun v s1 ⟨x, H1, I1, r1, q1⟩ => ?_)
  obtain ⟨a, xs, rfl, hx, q⟩ := q1
  cases r1
  have hst : PO X (some (.Constant (.int 2) k p1)) (tPart (tC (.int 2))) := po_some pe_int
  refine wpAny_Slice (thn (po_none.run pins s1 σ H1 (fun o H2 => o = none ∧ H2 = H1) I1 ⟨rfl, rfl⟩) fun vl s2 ⟨l, H2, I2, pl, el, e2⟩ => ?_)
  subst el e2
  refine thn (po_none.run pins s2 σ H2 (fun o H3 => o = none ∧ H3 = H2) I2 ⟨rfl, rfl⟩) fun vu s3 ⟨u, H3, I3, pu, eu, e3⟩ => ?_
  subst eu e3
  refine thn (hst.run pins s3 σ H3 (fun o H4 => o = some 2 ∧ H4 = H3) I3 ⟨2, rfl, rfl, rfl⟩) fun vs s4 ⟨o, H4, I4, ps, eo, e4⟩ => ?_
  subst eo e4
  obtain ⟨tk, rfl⟩ : ∃ tk, vs = Value.int 2 tk := by first | exact ps | (cases ps; exact ⟨_, rfl⟩)
  have I5 : Inv X pins σ H4 { s4 with heap := s4.heap.push { cls := .type "slice", data := .fields #[vl, vu, .int 2 tk] } } := I4.kept (t' := s4.toks) fun b ob q => Heap.get?_push_of_some _ q
  obtain ⟨its, r, ht, hz⟩ := I5.tuple hx
  have hlen : its.toArray.size = xs.length := by rw [List.size_toArray]; exact r.length.symm
  show wpAny (model X.prog X.w) X.A (subscriptTail e (.Slice none none (some (.Constant (.int 2) k p1)) p3) (.ref a) (.ref s4.heap.objs.size)) (EP X pins σ Q) X.xe { s4 with heap := s4.heap.push { cls := .type "slice", data := .fields #[vl, vu, .int 2 tk] } }
  refine tail_any (ops := [.ref a, .ref s4.heap.objs.size]) ht.typeIs (PyProof.Rows.slot_tuple_getitem.lookup) ?_ (by with_unfolding_all rfl)
  refine getItem2 ht (Heap.IsSliceOf.new _ vl vu _) pl pu ?_ (by rw [hlen]; exact hz)
  rw [hlen]
  refine ⟨.ref _, _, I5.laid (t' := s4.toks) (o := .tup (ev xs ((xs.length + 1) / 2))) (fun b ob q => Heap.get?_push_of_some _ q) (Nat.le_refl _) ?_, rfl, q _ (I5.hok.fresh (Nat.le_refl _))⟩
  exact ⟨Nat.le_trans (ev_len xs _) (by omega), _, ev_vals r _, IsTup.new _ _⟩
end My2
namespace My
open PySem PySem.Spec PyProof.Rows L2
/-- x and y are the same data, tuples no deeper than n -/
inductive EqV (H : Hp) : Nat → V → V → Prop
  | non (n : Nat) : EqV H n .non .non
  | bl (n : Nat) (b : Bool) : EqV H n (.bl b) (.bl b)
  | int (n : Nat) (i : Int) : EqV H n (.int i) (.int i)
  | str (n : Nat) (z : Str) : EqV H n (.str z) (.str z)
  | tup {n : Nat} {p q : Addr} {xs ys : List V} (hp : H p = some (.tup xs)) (hq : H q = some (.tup ys)) (hl : xs.length = ys.length) (hl2 : xs.length ≤ 1000) (h : ∀ (k : Nat) (x y : V), xs[k]? = some x → ys[k]? = some y → EqV H n x y) : EqV H (n + 1) (.ref p) (.ref q)
theorem EqV.same {H H' : Hp} (s : Same H H') {n : Nat} {x y : V} (h : EqV H n x y) : EqV H' n x y := by
  induction h with
  | non n => exact .non n
  | bl n b => exact .bl n b
  | int n i => exact .int n i
  | str n z => exact .str n z
  | tup hp hq hl hl2 h ih => exact .tup (s _ _ hp) (s _ _ hq) hl hl2 ih
theorem EqV.ints {H : Hp} {n : Nat} {p q : Addr} {ns : List Int} (hp : H p = some (.tup (ns.map V.int))) (hq : H q = some (.tup (ns.map V.int))) (hl : ns.length ≤ 1000) : EqV H (n + 1) (.ref p) (.ref q) := by
  refine .tup hp hq rfl (by rw [List.length_map]; exact hl) fun k x y hx hy => ?_
  rw [hx] at hy
  obtain ⟨z, _, rfl⟩ := int_at hx
  cases hy
  exact .int n z
theorem EqV.pair {H : Hp} {n : Nat} {p q : Addr} {a b c d : V} (hp : H p = some (.tup [a, b])) (hq : H q = some (.tup [c, d])) (h1 : EqV H n a c) (h2 : EqV H n b d) : EqV H (n + 1) (.ref p) (.ref q) := by
  refine .tup hp hq rfl (by show 2 ≤ 1000; decide) fun k x y hx hy => ?_
  match k, hx, hy with
  | 0, hx, hy =>
    cases hx
    cases hy
    exact h1
  | 1, hx, hy =>
    cases hx
    cases hy
    exact h2
  | k + 2, hx, _ => cases hx
def sp__law_same (K : PySem.W.Frag) (n : Nat) : Sp := fun vs H Q _ => ∃ x y : V, vs = [x, y] ∧ EqV H n x y ∧ ∀ H', Same H H' → Q (.bl true) H'
end My
namespace My
open PySem PySem.Spec PyProof.Rows L2
/-- those of xs that ys hasn't -/
def diffL (xs ys : List Int) : List Int := xs.filter fun z => decide (z ∉ ys)
/-- mended -/
def mendL (xs ys zs : List Int) : List Int := ((List.range 96).map fun i : Nat => 1 + (i : Int)).filter fun z => decide (z ∈ ys ∨ (z ∈ xs ∧ z ∉ zs))
theorem inV_ints (z : Int) : ∀ ns : List Int, inV (.int z) (ns.map V.int) = decide (z ∈ ns)
  | [] => by simp [inV]
  | n :: r => by
    have ih := inV_ints z r
    unfold inV at ih ⊢
    rw [List.map_cons, List.any_cons, ih]
    by_cases c : z = n
    · subst c
      simp [eqV]
    · have c' : ¬ n = z := fun e => c e.symm
      simp [eqV, c, c']
theorem flat_ints : ∀ ns : List Int, (ns.map V.int).all flatV = true
  | [] => rfl
  | n :: r => by
    rw [List.map_cons, List.all_cons, flat_ints r]
    rfl
theorem diffL_set {xs ys : List Int} (h : SetL xs) : SetL (diffL xs ys) := ⟨h.up.filter _, fun z hz => h.bd z (List.mem_filter.mp hz).1⟩
theorem mem_diffL {xs ys : List Int} {z : Int} : z ∈ diffL xs ys ↔ z ∈ xs ∧ z ∉ ys := by
  unfold diffL
  rw [List.mem_filter, decide_eq_true_eq]
theorem mem_mendL {xs ys zs : List Int} (hx : SetL xs) (hy : SetL ys) {z : Int} : z ∈ mendL xs ys zs ↔ z ∈ ys ∨ (z ∈ xs ∧ z ∉ zs) := by
  unfold mendL
  rw [List.mem_filter, mem_marks, decide_eq_true_eq]
  refine ⟨fun h => h.2, fun h => ⟨?_, h⟩⟩
  rcases h with h | h
  · exact hy.bd z h
  · exact hx.bd z h.1
theorem mendL_set (xs ys zs : List Int) : SetL (mendL xs ys zs) := ⟨marks_up.filter _, fun z hz => mem_marks.mp (List.mem_filter.mp hz).1⟩
theorem mendL_diff {xs ys : List Int} (hx : SetL xs) (hy : SetL ys) : mendL xs (diffL ys xs) (diffL xs ys) = ys := by
  refine eq_of_up _ _ (mendL_set _ _ _).up hy.up fun z => ?_
  rw [mem_mendL hx (diffL_set hy), mem_diffL, mem_diffL]
  constructor
  · rintro (h | ⟨h1, h2⟩)
    · exact h.1
    · exact Classical.byContradiction fun c => h2 ⟨h1, c⟩
  · intro h
    by_cases c : z ∈ xs
    · exact .inr ⟨c, fun w => w.2 h⟩
    · exact .inl ⟨h, c⟩
def sp_without (K : PySem.W.Frag) : Sp := fun vs H Q _ => ∃ (a b : Addr) (xs ys : List Int), vs = [.ref a, .ref b] ∧ SqT K H a (xs.map V.int) ∧ SqT K H b (ys.map V.int) ∧ xs.length ≤ 1000 ∧ ∀ t H', Same H H' → H t = none → H' t = some (.tup ((diffL xs ys).map V.int)) → Q (.ref t) H'
def sp_apart (K : PySem.W.Frag) (C : Addr) : Sp := fun vs H Q E => ∃ (a b : Addr) (xs ys : List Int), vs = [.ref a, .ref b] ∧ SqT K H a (xs.map V.int) ∧ SqT K H b (ys.map V.int) ∧ (isSetB xs = false ∨ isSetB ys = false → E (.ref C) none H) ∧
  (isSetB xs = true → isSetB ys = true → ∀ t t1 t2 H', Same H H' → H t = none → H' t = some (.tup [.ref t1, .ref t2]) → H' t1 = some (.tup ((diffL ys xs).map V.int)) → H' t2 = some (.tup ((diffL xs ys).map V.int)) → Q (.ref t) H')
def sp_mended (K : PySem.W.Frag) (C : Addr) : Sp := fun vs H Q E => ∃ (a b c : Addr) (xs ys zs : List Int), vs = [.ref a, .ref b, .ref c] ∧ SqT K H a (xs.map V.int) ∧ SqT K H b (ys.map V.int) ∧ SqT K H c (zs.map V.int) ∧ (isSetB xs = false ∨ isSetB ys = false ∨ isSetB zs = false → E (.ref C) none H) ∧
  (isSetB xs = true → isSetB ys = true → isSetB zs = true → ∀ t H', Same H H' → H t = none → H' t = some (.tup ((mendL xs ys zs).map V.int)) → Q (.ref t) H')
def sp__law_turned (K : PySem.W.Frag) : Sp := fun vs H Q _ => ∃ (a : Addr) (ms : List Int) (m : Int), vs = [.ref a, .int m] ∧ H a = some (.tup (ms.map V.int)) ∧ SetL ms ∧ 1 ≤ m ∧ m ≤ 96 ∧ ∀ (t : Addr) (ns : List Int) H', SetL ns → Same H H' → H t = none → H' t = some (.tup (ns.map V.int)) → Q (.ref t) H'
def sp__law_changed (K : PySem.W.Frag) : Sp := fun vs H Q _ => ∃ (a st b : Addr) (ms : List Int) (n : Int), vs = [.ref st, .ref b, .int n] ∧ StAt K a st H ∧ H b = some (.tup (ms.map V.int)) ∧ SetL ms ∧ 0 ≤ n ∧ n ≤ 100 ∧ ∀ (t : Addr) (ns : List Int) H', SetL ns → Go K st H H' → H' t = some (.tup (ns.map V.int)) → Q (.ref t) H'
def sp__law_apart (K : PySem.W.Frag) : Sp := fun vs H Q _ => ∃ (a b : Addr) (xs ys : List Int), vs = [.ref a, .ref b] ∧ SqT K H a (xs.map V.int) ∧ SqT K H b (ys.map V.int) ∧ xs.length ≤ 1000 ∧ ys.length ≤ 1000 ∧
  ∀ t t1 t2 H', Same H H' → H t = none → H' t = some (.tup [.ref t1, .ref t2]) → H' t1 = some (.tup ((diffL ys xs).map V.int)) → H' t2 = some (.tup ((diffL xs ys).map V.int)) → Q (.ref t) H'
def sp_law (K : PySem.W.Frag) : Sp := fun vs H Q _ => ∃ (a : Addr) (ns : List Int), vs = [.ref a] ∧ SqL K H a (ns.map V.int) ∧ ns.length ≤ 63 ∧ ∀ H', Q (.bl true) H'
theorem Go.tup {K : PySem.W.Frag} {a st p : Addr} {H H' : Hp} {xs : List V} (g : Go K st H H') (h : StAt K a st H) (e : H p = some (.tup xs)) : H' p = some (.tup xs) := g.keep p _ (h.ne e (fun _ z => nomatch z)) e
theorem notset {ms : List Int} {P : Prop} (h : SetL ms) (c : isSetB ms = false) : P := by
  rw [isSetB_iff.mpr h] at c
  cases c
/-- the turn of a comprehension over marks that asks «not in» -/
theorem notin_turn {K : PySem.W.Frag} {H2 : Hp} {b : Addr} {ys : List Int} {z : Int} {Q : VK} (hb : SqT K H2 b (ys.map V.int)) (q : Q (.bl (decide (z ∉ ys))) H2) : rIn K true (.int z) (.ref b) H2 Q := by
  refine ⟨b, _, rfl, .inr hb, rfl, flat_ints ys, ?_⟩
  rw [inV_ints]
  have e : (!decide (z ∈ ys)) = decide (z ∉ ys) := by by_cases c : z ∈ ys <;> simp [c]
  rw [if_pos rfl, e]
  exact q
theorem in_turn {K : PySem.W.Frag} {H2 : Hp} {b : Addr} {ys : List Int} {z : Int} {Q : VK} (hb : SqT K H2 b (ys.map V.int)) (q : Q (.bl (decide (z ∈ ys))) H2) : rIn K false (.int z) (.ref b) H2 Q := by
  refine ⟨b, _, rfl, .inr hb, rfl, flat_ints ys, ?_⟩
  rw [inV_ints]
  exact q
end My
namespace My
open PySem PySem.Spec PyProof.Rows L2
/-! ### the text -/
def topS (i : Nat) : Stmt := PySem.Challenge.pw_setmend_k05_apart_and_mended.main.body.getD i (.Pass ⟨0, 0, 0, 0⟩)
abbrev s_is_set : Stmt := topS 5
theorem sc_is_set : FnScope ["marks", "before", "mark"] ["marks"] (defScope s_is_set) := ⟨rfl, rfl, rfl, by decide +kernel, rfl, by decide +kernel, by decide +kernel⟩
abbrev s_refuse_unless_set : Stmt := topS 6
theorem sc_refuse_unless_set : FnScope ["marks"] ["marks"] (defScope s_refuse_unless_set) := ⟨rfl, rfl, rfl, by decide +kernel, rfl, by decide +kernel, by decide +kernel⟩
abbrev s_without : Stmt := topS 7
theorem sc_without : FnScope ["marks", "others", "mark"] ["marks", "others"] (defScope s_without) := ⟨rfl, rfl, rfl, by decide +kernel, rfl, by decide +kernel, by decide +kernel⟩
abbrev s_apart : Stmt := topS 8
theorem sc_apart : FnScope ["one", "other"] ["one", "other"] (defScope s_apart) := ⟨rfl, rfl, rfl, by decide +kernel, rfl, by decide +kernel, by decide +kernel⟩
abbrev s_mended : Stmt := topS 9
theorem sc_mended : FnScope ["own", "lacks", "over"] ["own", "lacks", "over"] (defScope s_mended) := ⟨rfl, rfl, rfl, by decide +kernel, rfl, by decide +kernel, by decide +kernel⟩
abbrev s__law_start : Stmt := topS 11
theorem sc__law_start : FnScope ["_law_script", "_law_mixed", "_law_cell"] ["_law_script"] (defScope s__law_start) := ⟨rfl, rfl, rfl, by decide +kernel, rfl, by decide +kernel, by decide +kernel⟩
abbrev s__law_drawn : Stmt := topS 12
theorem sc__law_drawn : FnScope ["_law_state", "_law_many", "_law_found", "_law_cell"] ["_law_state", "_law_many"] (defScope s__law_drawn) := ⟨rfl, rfl, rfl, by decide +kernel, rfl, by decide +kernel, by decide +kernel⟩
abbrev s__law_set : Stmt := topS 13
theorem sc__law_set : FnScope ["_law_state", "_law_most", "_law_many", "_law_first", "_law_step", "_law_k"] ["_law_state", "_law_most"] (defScope s__law_set) := ⟨rfl, rfl, rfl, by decide +kernel, rfl, by decide +kernel, by decide +kernel⟩
abbrev s__law_turned : Stmt := topS 14
theorem sc__law_turned : FnScope ["_law_marks", "_law_mark", "_law_one"] ["_law_marks", "_law_mark"] (defScope s__law_turned) := ⟨rfl, rfl, rfl, by decide +kernel, rfl, by decide +kernel, by decide +kernel⟩
abbrev s__law_changed : Stmt := topS 15
theorem sc__law_changed : FnScope ["_law_state", "_law_marks", "_law_many", "_law_k", "_law_mark"] ["_law_state", "_law_marks", "_law_many"] (defScope s__law_changed) := ⟨rfl, rfl, rfl, by decide +kernel, rfl, by decide +kernel, by decide +kernel⟩
abbrev s__law_apart : Stmt := topS 16
theorem sc__law_apart : FnScope ["_law_one", "_law_other", "_law_mark"] ["_law_one", "_law_other"] (defScope s__law_apart) := ⟨rfl, rfl, rfl, by decide +kernel, rfl, by decide +kernel, by decide +kernel⟩
abbrev s__law_same : Stmt := topS 17
theorem sc__law_same : FnScope ["_law_found", "_law_due", "_law_k"] ["_law_found", "_law_due"] (defScope s__law_same) := ⟨rfl, rfl, rfl, by decide +kernel, rfl, by decide +kernel, by decide +kernel⟩
abbrev s_law : Stmt := topS 18
theorem sc_law : FnScope ["_law_script", "_law_state", "_law_turn", "_law_most", "_law_one", "_law_other", "_law_lacks", "_law_over", "_law_come", "_law_gone", "_law_due", "_law_mark"] ["_law_script"] (defScope s_law) := ⟨rfl, rfl, rfl, by decide +kernel, rfl, by decide +kernel, by decide +kernel⟩
structure Ad where
  f_is_set : Addr
  d_is_set : FuncData
  f_refuse_unless_set : Addr
  d_refuse_unless_set : FuncData
  f_without : Addr
  d_without : FuncData
  f_apart : Addr
  d_apart : FuncData
  f_mended : Addr
  d_mended : FuncData
  f__law_start : Addr
  d__law_start : FuncData
  f__law_drawn : Addr
  d__law_drawn : FuncData
  f__law_set : Addr
  d__law_set : FuncData
  f__law_turned : Addr
  d__law_turned : FuncData
  f__law_changed : Addr
  d__law_changed : FuncData
  f__law_apart : Addr
  d__law_apart : FuncData
  f__law_same : Addr
  d__law_same : FuncData
  f_law : Addr
  d_law : FuncData
  e_NoSet : Addr
  t_LAST_MARK : Nat
structure Txt (K : PySem.W.Frag) (mg : Str → Option Value) (A : Ad) : Prop where
  F_is_set : Fun K "is_set" "is_set" s_is_set A.f_is_set A.d_is_set
  k_is_set : PySem.W.keepIn K (.ref A.f_is_set) = true
  g_is_set : mg "is_set" = some (.ref A.f_is_set)
  b_is_set : Binds K A.d_is_set ["marks"] []
  F_refuse_unless_set : Fun K "refuse_unless_set" "refuse_unless_set" s_refuse_unless_set A.f_refuse_unless_set A.d_refuse_unless_set
  k_refuse_unless_set : PySem.W.keepIn K (.ref A.f_refuse_unless_set) = true
  g_refuse_unless_set : mg "refuse_unless_set" = some (.ref A.f_refuse_unless_set)
  b_refuse_unless_set : Binds K A.d_refuse_unless_set ["marks"] []
  F_without : Fun K "without" "without" s_without A.f_without A.d_without
  k_without : PySem.W.keepIn K (.ref A.f_without) = true
  g_without : mg "without" = some (.ref A.f_without)
  b_without : Binds K A.d_without ["marks", "others"] []
  F_apart : Fun K "apart" "apart" s_apart A.f_apart A.d_apart
  k_apart : PySem.W.keepIn K (.ref A.f_apart) = true
  g_apart : mg "apart" = some (.ref A.f_apart)
  b_apart : Binds K A.d_apart ["one", "other"] []
  F_mended : Fun K "mended" "mended" s_mended A.f_mended A.d_mended
  k_mended : PySem.W.keepIn K (.ref A.f_mended) = true
  g_mended : mg "mended" = some (.ref A.f_mended)
  b_mended : Binds K A.d_mended ["own", "lacks", "over"] []
  F__law_start : Fun K "_law_start" "_law_start" s__law_start A.f__law_start A.d__law_start
  k__law_start : PySem.W.keepIn K (.ref A.f__law_start) = true
  g__law_start : mg "_law_start" = some (.ref A.f__law_start)
  b__law_start : Binds K A.d__law_start ["_law_script"] []
  F__law_drawn : Fun K "_law_drawn" "_law_drawn" s__law_drawn A.f__law_drawn A.d__law_drawn
  k__law_drawn : PySem.W.keepIn K (.ref A.f__law_drawn) = true
  g__law_drawn : mg "_law_drawn" = some (.ref A.f__law_drawn)
  b__law_drawn : Binds K A.d__law_drawn ["_law_state", "_law_many"] []
  F__law_set : Fun K "_law_set" "_law_set" s__law_set A.f__law_set A.d__law_set
  k__law_set : PySem.W.keepIn K (.ref A.f__law_set) = true
  g__law_set : mg "_law_set" = some (.ref A.f__law_set)
  b__law_set : Binds K A.d__law_set ["_law_state", "_law_most"] []
  F__law_turned : Fun K "_law_turned" "_law_turned" s__law_turned A.f__law_turned A.d__law_turned
  k__law_turned : PySem.W.keepIn K (.ref A.f__law_turned) = true
  g__law_turned : mg "_law_turned" = some (.ref A.f__law_turned)
  b__law_turned : Binds K A.d__law_turned ["_law_marks", "_law_mark"] []
  F__law_changed : Fun K "_law_changed" "_law_changed" s__law_changed A.f__law_changed A.d__law_changed
  k__law_changed : PySem.W.keepIn K (.ref A.f__law_changed) = true
  g__law_changed : mg "_law_changed" = some (.ref A.f__law_changed)
  b__law_changed : Binds K A.d__law_changed ["_law_state", "_law_marks", "_law_many"] []
  F__law_apart : Fun K "_law_apart" "_law_apart" s__law_apart A.f__law_apart A.d__law_apart
  k__law_apart : PySem.W.keepIn K (.ref A.f__law_apart) = true
  g__law_apart : mg "_law_apart" = some (.ref A.f__law_apart)
  b__law_apart : Binds K A.d__law_apart ["_law_one", "_law_other"] []
  F__law_same : Fun K "_law_same" "_law_same" s__law_same A.f__law_same A.d__law_same
  k__law_same : PySem.W.keepIn K (.ref A.f__law_same) = true
  g__law_same : mg "_law_same" = some (.ref A.f__law_same)
  b__law_same : Binds K A.d__law_same ["_law_found", "_law_due"] []
  F_law : Fun K "law" "law" s_law A.f_law A.d_law
  k_law : PySem.W.keepIn K (.ref A.f_law) = true
  g_law : mg "law" = some (.ref A.f_law)
  b_law : Binds K A.d_law ["_law_script"] []
  c_LAST_MARK : mg "LAST_MARK" = some (.int 96 A.t_LAST_MARK)
  z_bool : mg "bool" = none
  z_int : mg "int" = none
  z_isinstance : mg "isinstance" = none
  z_len : mg "len" = none
  z_range : mg "range" = none
  z_set : mg "set" = none
  z_sorted : mg "sorted" = none
  z_str : mg "str" = none
  z_tuple : mg "tuple" = none
  g_NoSet : mg "NoSet" = some (.ref A.e_NoSet)
  x_NoSet : PySem.W.excIn K A.e_NoSet [.type "ValueError", .type "Exception", .type "BaseException", .type "object"] "ValueError.__new__" = true
  k_NoSet : PySem.W.keepIn K (.ref A.e_NoSet) = true
  bb_NoSet : PySem.W.subIn K (.ref A.e_NoSet) (.type "BaseException") = some true
  tt_NoSet : PySem.W.typeIn K (.ref A.e_NoSet) = some (.type "type")
section
variable {P : Program} {w : World} {K : PySem.W.Frag} {mg : Str → Option Value} {base : Heap} {A : Ad}
/-! ### is_set: slots 0 marks, 1 before, 2 mark -/

theorem ok_is_set (T : Txt K mg A) : FnOk P w K mg base CX0 1 A.f_is_set A.d_is_set ["marks"] (sp_is_set K) := by
  refine T.F_is_set.ok sc_is_set (fun vs H Q E h => by first | (obtain ⟨_, rfl, _⟩ := h; rfl) | (obtain ⟨_, _, rfl, _⟩ := h; rfl) | (obtain ⟨_, _, _, rfl, _⟩ := h; rfl) | (obtain ⟨_, _, _, _, rfl, _⟩ := h; rfl) | (obtain ⟨_, _, _, _, _, rfl, _⟩ := h; rfl) | (obtain ⟨_, _, _, _, _, _, rfl, _⟩ := h; rfl) | (obtain ⟨_, _, _, _, _, _, _, rfl, _⟩ := h; rfl)) (fun cdv AA outer s H vs Q E hr h => ?_)
  refine ⟨_, (pss_cons (ps_set (i := 1) sc_is_set.nd rfl (.inl rfl) pe_int)
      (pss_cons (ps_for PassesOwn.never rfl (pi_tup (pv 0)) (pg_name (i := 2) sc_is_set.nd rfl (.inl rfl))
        (pss_cons (ps_if (PW.pt (pw_or (pt_cmpR op_le (pv 2) (pv 1) (nomark _)) (pw_or1 (pt_cmpR op_gt (pv 2) (pe_glob (v := .int 96) rfl T.c_LAST_MARK ⟨_, rfl⟩) (nomark _))))) (pss_one (ps_ret pe_bl)) pss_nil)
        (pss_one (ps_set (i := 1) sc_is_set.nd rfl (.inl rfl) (pv 2)))))
      (pss_one (ps_ret pe_bl)))), ?_⟩
  obtain ⟨a, ns, rfl, hS, q⟩ := h
  refine ⟨_, rfl, a, rfl, ⟨_, hS⟩, for_tup (K := K) (a := a) (xs := ns.map V.int) (fun i σ H' => ∃ (b : Int) (v : Option V), σ = [some (.ref a), some (.int b), v] ∧ H' = H ∧ isSetG b (ns.drop i) = isSetB ns) ⟨0, none, rfl, rfl, rfl⟩ (fun i σ H' _ ⟨_, _, _, e, _⟩ => e ▸ hS) ?_ ?_⟩
  · rintro i y σ H' hi ⟨b, v, rfl, rfl, hb⟩
    obtain ⟨z, hz, rfl⟩ := int_at hi
    have hd : ns.drop i = z :: ns.drop (i + 1) := by
      have hlt : i < ns.length := (List.getElem?_eq_some_iff.mp hz).1
      rw [List.drop_eq_getElem_cons hlt, (List.getElem?_eq_some_iff.mp hz).2]
    rw [hd] at hb
    unfold isSetG at hb
    refine ⟨_, rfl, _, rfl, _, _, rfl, rfl, _, rfl, ite2 (fun c => ?_) (fun c => ?_)⟩
    · refine iteT ?_
      rw [if_pos (.inl (of_decide_eq_true c))] at hb
      rw [← hb] at q
      exact q
    · refine ⟨_, rfl, _, _, rfl, rfl, _, rfl, ite2 (fun c2 => ?_) (fun c2 => ?_)⟩
      · rw [if_pos (.inr (of_decide_eq_true c2))] at hb
        rw [← hb] at q
        exact q
      · refine ⟨_, rfl, _, _, rfl, rfl, ?_⟩
        rw [if_neg (fun w => w.elim (fun w => c (decide_eq_true w)) fun w => c2 (decide_eq_true w))] at hb
        exact hb
  · rintro σ H' ⟨b, v, rfl, rfl, hb⟩
    rw [List.drop_of_length_le (by rw [List.length_map]; exact Nat.le_refl _)] at hb
    rw [← hb] at q
    exact q
/-! ### refuse_unless_set: slots 0 marks -/

theorem ok_refuse_unless_set (T : Txt K mg A) : FnOk P w K mg base (L2.CX P w) 2 A.f_refuse_unless_set A.d_refuse_unless_set ["marks"] (sp_refuse_unless_set K A.e_NoSet) := by
  refine T.F_refuse_unless_set.okX sc_refuse_unless_set (fun vs H Q E h => by first | (obtain ⟨_, rfl, _⟩ := h; rfl) | (obtain ⟨_, _, rfl, _⟩ := h; rfl) | (obtain ⟨_, _, _, rfl, _⟩ := h; rfl) | (obtain ⟨_, _, _, _, rfl, _⟩ := h; rfl) | (obtain ⟨_, _, _, _, _, rfl, _⟩ := h; rfl) | (obtain ⟨_, _, _, _, _, _, rfl, _⟩ := h; rfl) | (obtain ⟨_, _, _, _, _, _, _, rfl, _⟩ := h; rfl)) (fun cdv AA outer s H vs Q E hr h => ?_)
  refine ⟨_, (pss_one (ps_if (pt_not (pt_val (pe_call (ok_is_set T) (hr.mono (by decide)) (by rfl) T.g_is_set T.k_is_set T.b_is_set .nil pass0 (pa_cons (pv 0) pa_nil)))) (pss_one (ps_raise rfl (takes_of rfl rfl rfl rfl) (pmk_own PySem.F.excBase_ValueError T.x_NoSet T.g_NoSet T.k_NoSet (raises_own T.bb_NoSet T.tt_NoSet) rfl))) pss_nil)), ?_⟩
  obtain ⟨a, ns, rfl, hS, hE, hQ⟩ := h
  refine ⟨_, rfl, a, ns, rfl, hS, _, rfl, ?_⟩
  cases c : isSetB ns with
  | true => exact iteF (hQ c)
  | false => exact iteT (hE c)
/-! ### without: slots 0 marks, 1 others, 2 mark -/

theorem ok_without (T : Txt K mg A) : FnOk P w K mg base CX0 1 A.f_without A.d_without ["marks", "others"] (sp_without K) := by
  refine T.F_without.ok sc_without (fun vs H Q E h => by first | (obtain ⟨_, rfl, _⟩ := h; rfl) | (obtain ⟨_, _, rfl, _⟩ := h; rfl) | (obtain ⟨_, _, _, rfl, _⟩ := h; rfl) | (obtain ⟨_, _, _, _, rfl, _⟩ := h; rfl) | (obtain ⟨_, _, _, _, _, rfl, _⟩ := h; rfl) | (obtain ⟨_, _, _, _, _, _, rfl, _⟩ := h; rfl) | (obtain ⟨_, _, _, _, _, _, _, rfl, _⟩ := h; rfl)) (fun cdv AA outer s H vs Q E hr h => ?_)
  refine ⟨_, (pss_one (ps_ret (pe_callTy call_tuple_of (by rfl) T.z_tuple (by decide +kernel) (pa_cons (pe_lc (own := [("mark", 2)]) (g := gName 2)  rfl sc_without.nd (pi_tup (pv 0)) (blkOk_by (own := [("mark", 2)]) (N := ["marks", "others", "mark"]) (sc := defScope s_without) (by decide +kernel)) (fun _ _ _ _ _ => pg_name (i := 2) sc_without.nd rfl (Or.inl rfl)) (fun _ _ _ _ _ => (pts_one (pt_cmpR (op_notIn_seqK (K := K) rfl) (pv 2) (pv 1) (by rfl)))) (fun _ _ _ _ _ => (pv 2))) pa_nil)))), ?_⟩
  obtain ⟨a, b, xs, ys, rfl, ha, hb, hl, q⟩ := h
  refine ⟨_, rfl, a, rfl, ⟨_, ha⟩, fun D hD => lc_pureT (K := K) (a := a) (xs := xs.map V.int) (fun v => match v with | .int z => decide (z ∉ ys) | _ => false) (fun v => v) hD ha (by rw [List.length_map]; omega) (fun _ => rfl) ?_ (fun x _ _ H2 s2 Q' q' => ⟨_, rfl, q' H2 (Same.refl _)⟩) fun H2 s2 hd => ?_⟩
  · intro x hx H2 s2 Q' q'
    obtain ⟨z, hz, rfl⟩ := List.mem_map.mp hx
    exact ⟨_, rfl, _, rfl, notin_turn (seqT_same s2 hb) ⟨_, rfl, q' H2 (Same.refl _)⟩⟩
  rw [int_filter (g := fun z => decide (z ∉ ys)) (fun _ _ => rfl)] at hd
  exact ⟨D, _, rfl, .inl ⟨SqL.of hd, fun t ht => q t _ (s2.trans (same_upd ht)) (s2.free ht) upd_same⟩⟩
/-! ### apart: slots 0 one, 1 other -/

theorem ok_apart (T : Txt K mg A) : FnOk P w K mg base (L2.CX P w) 3 A.f_apart A.d_apart ["one", "other"] (sp_apart K A.e_NoSet) := by
  refine T.F_apart.okX sc_apart (fun vs H Q E h => by first | (obtain ⟨_, rfl, _⟩ := h; rfl) | (obtain ⟨_, _, rfl, _⟩ := h; rfl) | (obtain ⟨_, _, _, rfl, _⟩ := h; rfl) | (obtain ⟨_, _, _, _, rfl, _⟩ := h; rfl) | (obtain ⟨_, _, _, _, _, rfl, _⟩ := h; rfl) | (obtain ⟨_, _, _, _, _, _, rfl, _⟩ := h; rfl) | (obtain ⟨_, _, _, _, _, _, _, rfl, _⟩ := h; rfl)) (fun cdv AA outer s H vs Q E hr h => ?_)
  refine ⟨_, (pss_cons (ps_expr (pe_call (ok_refuse_unless_set T) (hr.mono (by decide)) (by rfl) T.g_refuse_unless_set T.k_refuse_unless_set T.b_refuse_unless_set .nil (passes_call (takes_of rfl rfl rfl rfl) (fun _ _ _ _ z => z)) (pa_cons (pv 0) pa_nil)))
      (pss_cons (ps_expr (pe_call (ok_refuse_unless_set T) (hr.mono (by decide)) (by rfl) T.g_refuse_unless_set T.k_refuse_unless_set T.b_refuse_unless_set .nil (passes_call (takes_of rfl rfl rfl rfl) (fun _ _ _ _ z => z)) (pa_cons (pv 1) pa_nil)))
      (pss_one (ps_ret (pe_tup (pa_cons (pe_call (ok_without T) (hr.mono (by decide)) (by rfl) T.g_without T.k_without T.b_without .nil pass0 (pa_cons (pv 1) (pa_cons (pv 0) pa_nil))) (pa_cons (pe_call (ok_without T) (hr.mono (by decide)) (by rfl) T.g_without T.k_without T.b_without .nil pass0 (pa_cons (pv 0) (pa_cons (pv 1) pa_nil))) pa_nil))))))), ?_⟩
  obtain ⟨a, b, xs, ys, rfl, ha, hb, hE, q⟩ := h
  refine ⟨_, rfl, a, xs, rfl, ha, fun c => hE (.inl c), fun cx => ?_⟩
  refine ⟨_, rfl, b, ys, rfl, hb, fun c => hE (.inr c), fun cy => ?_⟩
  have lx := (isSetB_iff.mp cx).len
  have ly := (isSetB_iff.mp cy).len
  refine ⟨_, rfl, _, rfl, b, a, ys, xs, rfl, hb, ha, by omega, fun t1 H1 s1 _ h1 => ?_⟩
  refine ⟨_, rfl, _, rfl, a, b, xs, ys, rfl, seqT_same s1 ha, seqT_same s1 hb, by omega, fun t2 H2 s2 _ h2 => ?_⟩
  refine ⟨by show 2 ≤ sizeLine; decide, fun t ht => ?_⟩
  have s3 := same_upd (o := .tup [.ref t1, .ref t2]) ht
  exact q cx cy t t1 t2 _ ((s1.trans s2).trans s3) ((s1.trans s2).free ht) upd_same (s3 _ _ (s2 _ _ h1)) (s3 _ _ h2)
/-! ### mended: slots 0 own, 1 lacks, 2 over -/

theorem ok_mended (T : Txt K mg A) : FnOk P w K mg base (L2.CX P w) 3 A.f_mended A.d_mended ["own", "lacks", "over"] (sp_mended K A.e_NoSet) := by
  refine T.F_mended.okX sc_mended (fun vs H Q E h => by first | (obtain ⟨_, rfl, _⟩ := h; rfl) | (obtain ⟨_, _, rfl, _⟩ := h; rfl) | (obtain ⟨_, _, _, rfl, _⟩ := h; rfl) | (obtain ⟨_, _, _, _, rfl, _⟩ := h; rfl) | (obtain ⟨_, _, _, _, _, rfl, _⟩ := h; rfl) | (obtain ⟨_, _, _, _, _, _, rfl, _⟩ := h; rfl) | (obtain ⟨_, _, _, _, _, _, _, rfl, _⟩ := h; rfl)) (fun cdv AA outer s H vs Q E hr h => ?_)
  refine ⟨_, (pss_cons (ps_expr (pe_call (ok_refuse_unless_set T) (hr.mono (by decide)) (by rfl) T.g_refuse_unless_set T.k_refuse_unless_set T.b_refuse_unless_set .nil (passes_call (takes_of rfl rfl rfl rfl) (fun _ _ _ _ z => z)) (pa_cons (pv 0) pa_nil)))
      (pss_cons (ps_expr (pe_call (ok_refuse_unless_set T) (hr.mono (by decide)) (by rfl) T.g_refuse_unless_set T.k_refuse_unless_set T.b_refuse_unless_set .nil (passes_call (takes_of rfl rfl rfl rfl) (fun _ _ _ _ z => z)) (pa_cons (pv 1) pa_nil)))
      (pss_cons (ps_expr (pe_call (ok_refuse_unless_set T) (hr.mono (by decide)) (by rfl) T.g_refuse_unless_set T.k_refuse_unless_set T.b_refuse_unless_set .nil (passes_call (takes_of rfl rfl rfl rfl) (fun _ _ _ _ z => z)) (pa_cons (pv 2) pa_nil)))
      (pss_one (ps_ret (pe_callTy call_tuple_of (by rfl) T.z_tuple (by decide +kernel) (pa_cons (pe_callB (call_sortedU rfl) (by rfl) T.z_sorted (by decide +kernel) (pa_cons (pe_callTy (call_setQ rfl) (by rfl) T.z_set (by decide +kernel) (pa_cons (pe_op op_catA (pv 1) (pe_call (ok_without T) (hr.mono (by decide)) (by rfl) T.g_without T.k_without T.b_without .nil pass0 (pa_cons (pv 0) (pa_cons (pv 2) pa_nil)))) pa_nil)) pa_nil)) pa_nil))))))), ?_⟩
  obtain ⟨a, b, c, xs, ys, zs, rfl, ha, hb, hc, hE, q⟩ := h
  refine ⟨_, rfl, a, xs, rfl, ha, fun c => hE (.inl c), fun cx => ?_⟩
  refine ⟨_, rfl, b, ys, rfl, hb, fun c => hE (.inr (.inl c)), fun cy => ?_⟩
  refine ⟨_, rfl, c, zs, rfl, hc, fun c => hE (.inr (.inr c)), fun cz => ?_⟩
  have hx := isSetB_iff.mp cx
  have hy := isSetB_iff.mp cy
  have lx := hx.len
  have ly := hy.len
  refine ⟨_, rfl, _, rfl, _, rfl, a, c, xs, zs, rfl, ha, hc, by omega, fun t1 H1 s1 _ h1 => ?_⟩
  have ld : (diffL xs zs).length ≤ xs.length := List.length_filter_le _ _
  refine catA_ints (zs := ys) (ns := diffL xs zs) (seqT_same s1 hb) (SqT.of h1) (by omega) fun w H2 s2 hw => ?_
  refine ⟨w, ys ++ diffL xs zs, rfl, .inr hw, by rw [List.length_append]; omega, fun n p hn hp => ?_⟩
  rw [List.length_append] at hn
  refine ⟨p, _, n, rfl, upd_same, by omega, fun ms p2 hpw hmem hlen hp2 => ?_⟩
  refine ⟨p2, _, rfl, .inl ⟨SqL.of upd_same, fun t ht => ?_⟩⟩
  have e : ms = mendL xs ys zs := eq_of_up _ _ hpw (mendL_set _ _ _).up fun z => by
    rw [hmem z, decide_eq_true_eq, mem_mendL hx hy, List.mem_append, mem_diffL]
  subst e
  exact q cx cy cz t _ ((((s1.trans s2).trans (same_upd hp)).trans (same_upd hp2)).trans (same_upd ht)) ((((s1.trans s2).trans (same_upd hp)).trans (same_upd hp2)).free ht) upd_same
/-! ### _law_start: slots 0 _law_script, 1 _law_mixed, 2 _law_cell -/

theorem ok__law_start (T : Txt K mg A) : FnOk P w K mg base CX0 1 A.f__law_start A.d__law_start ["_law_script"] (sp__law_start K) := by
  refine T.F__law_start.ok sc__law_start (fun vs H Q E h => by first | (obtain ⟨_, rfl, _⟩ := h; rfl) | (obtain ⟨_, _, rfl, _⟩ := h; rfl) | (obtain ⟨_, _, _, rfl, _⟩ := h; rfl) | (obtain ⟨_, _, _, _, rfl, _⟩ := h; rfl) | (obtain ⟨_, _, _, _, _, rfl, _⟩ := h; rfl) | (obtain ⟨_, _, _, _, _, _, rfl, _⟩ := h; rfl) | (obtain ⟨_, _, _, _, _, _, _, rfl, _⟩ := h; rfl)) (fun cdv AA outer s H vs Q E hr h => ?_)
  refine ⟨_, (pss_cons (ps_set (i := 1) sc__law_start.nd rfl (.inl rfl) pe_int)
      (pss_cons (ps_for PassesOwn.never rfl (pi_list (pv 0)) (pg_name (i := 2) sc__law_start.nd rfl (.inl rfl))
        (pss_one (ps_set (i := 1) sc__law_start.nd rfl (.inl rfl) (pe_op op_mod (pe_op op_add (pe_op op_add (pe_op op_mul (pv 1) pe_int) (pv 2)) pe_int) pe_int))))
      (pss_one (ps_ret (pe_lst (pa_cons (pv 0) (pa_cons pe_int (pa_cons (pv 1) (pa_cons pe_int pa_nil))))))))), ?_⟩
  obtain ⟨a, ns, rfl, hS, q⟩ := h
  refine ⟨_, rfl, a, rfl, ⟨_, hS⟩, for_list (K := K) (a := a) (xs := ns.map V.int) (fun i σ H' => ∃ (m : Int) (v : Option V), σ = [some (.ref a), some (.int m), v] ∧ H' = H) ⟨1, none, rfl, rfl⟩ (fun i σ H' _ ⟨_, _, _, e⟩ => e ▸ hS) ?_ ?_⟩
  · rintro i y σ H' hi ⟨m, v, rfl, rfl⟩
    obtain ⟨z, hz, rfl⟩ := int_at hi
    exact ⟨_, rfl, _, _, rfl, rfl, .inr ⟨by decide, by decide⟩, _, rfl, _, _, rfl, rfl, _, _, rfl, rfl, _, _, rfl, rfl, by show (0:Int) < _; decide, _, _, rfl, rfl⟩
  · rintro σ H' ⟨m, v, rfl, rfl⟩
    refine ⟨_, rfl, _, rfl, by show 4 ≤ sizeLine; decide, fun p hp => ?_⟩
    exact q p _ hp (same_upd hp) ⟨⟨0, m, 0, Int.le_refl 0, upd_same⟩, ns, (same_upd hp).seq hS⟩
/-! ### _law_drawn: slots 0 _law_state, 1 _law_many, 2 _law_found, 3 _law_cell -/

theorem ok__law_drawn (T : Txt K mg A) : FnOk P w K mg base CX0 1 A.f__law_drawn A.d__law_drawn ["_law_state", "_law_many"] (sp__law_drawn K) := by
  refine T.F__law_drawn.ok sc__law_drawn (fun vs H Q E h => by first | (obtain ⟨_, rfl, _⟩ := h; rfl) | (obtain ⟨_, _, rfl, _⟩ := h; rfl) | (obtain ⟨_, _, _, rfl, _⟩ := h; rfl) | (obtain ⟨_, _, _, _, rfl, _⟩ := h; rfl) | (obtain ⟨_, _, _, _, _, rfl, _⟩ := h; rfl) | (obtain ⟨_, _, _, _, _, _, rfl, _⟩ := h; rfl) | (obtain ⟨_, _, _, _, _, _, _, rfl, _⟩ := h; rfl)) (fun cdv AA outer s H vs Q E hr h => ?_)
  refine ⟨_, (pss_cons (ps_if (pt_cmpR op_gt (pe_ix ix_list (pv 0) pe_int (fun _ _ => rfl)) pe_int (nomark _)) (pss_cons (ps_set (i := 2) sc__law_drawn.nd rfl (.inl rfl) (pe_op op_mod (pe_ix ix_list (pv 0) pe_int (fun _ _ => rfl)) (pv 1)))
        (pss_cons (ps_asg (pe_op op_fdivW (pe_ix ix_list (pv 0) pe_int (fun _ _ => rfl)) (pv 1)) (pg_sub (pv 0) pe_int set_list))
        (pss_one (ps_ret (pv 2))))) pss_nil)
      (pss_cons (ps_asg (pe_op op_add (pe_ix ix_list (pv 0) pe_int (fun _ _ => rfl)) pe_int) (pg_sub (pv 0) pe_int set_list))
      (pss_cons (ps_if (pt_cmpR op_le (pe_ix ix_list (pv 0) pe_int (fun _ _ => rfl)) (pe_callB call_len_seq (by rfl) T.z_len PySem.boot_len (pa_cons (pe_ix ix_list (pv 0) pe_int (fun _ _ => rfl)) pa_nil)) (nomark _)) (pss_cons (ps_set (i := 3) sc__law_drawn.nd rfl (.inl rfl) (pe_ix ix_list (pe_ix ix_list (pv 0) pe_int (fun _ _ => rfl)) (pe_op op_sub (pe_ix ix_list (pv 0) pe_int (fun _ _ => rfl)) pe_int) (fun _ _ => rfl)))
        (pss_cons (ps_asg (pe_ifExp (pt_cmpR op_ge (pv 3) (pe_op op_pow pe_int pe_int) (nomark _)) (pe_op op_fdivW (pv 3) (pv 1)) pe_int) (pg_sub (pv 0) pe_int set_list))
        (pss_one (ps_ret (pe_op op_mod (pv 3) (pv 1)))))) pss_nil)
      (pss_cons (ps_asg (pe_op op_mod (pe_op op_add (pe_op op_mul (pe_ix ix_list (pv 0) pe_int (fun _ _ => rfl)) pe_int) pe_int) pe_int) (pg_sub (pv 0) pe_int set_list))
      (pss_one (ps_ret (pe_op op_mod (pe_op op_fdiv (pe_ix ix_list (pv 0) pe_int (fun _ _ => rfl)) pe_int) (pv 1)))))))), ?_⟩
  obtain ⟨a, st, n, rfl, hS, hn, hnb, q⟩ := h
  obtain ⟨⟨i, m, r, hi, hs⟩, ns, hns⟩ := id hS
  -- if state[3] > 0
  refine ⟨_, rfl, st, _, 3, _, rfl, rfl, SqL.of hs, atI_nat (j := 3) rfl, _, _, rfl, rfl, _, rfl, ite2 (fun c => ?_) (fun c => ?_)⟩
  · refine ⟨_, rfl, st, _, 3, _, rfl, rfl, SqL.of hs, atI_nat (j := 3) rfl, _, rfl, _, _, rfl, rfl, hn, ?_⟩
    refine ⟨_, rfl, st, _, 3, _, rfl, rfl, SqL.of hs, atI_nat (j := 3) rfl, _, rfl, _, _, rfl, rfl, wide_div hn hnb (by decide) (by decide), ?_⟩
    refine ⟨_, rfl, st, _, 3, 3, rfl, rfl, hs, rfl, ?_⟩
    exact ⟨_, rfl, q _ _ (Int.emod_nonneg _ (by omega)) (Int.emod_lt_of_pos _ hn) (Go.upd (r := r / n) (m := m) hS hi)⟩
  · -- state[1] = state[1] + 1
    refine ⟨_, rfl, st, _, 1, _, rfl, rfl, SqL.of hs, atI_nat (j := 1) rfl, _, _, rfl, rfl, ?_⟩
    refine ⟨_, rfl, st, _, 1, 1, rfl, rfl, hs, rfl, ?_⟩
    have g1 : Go K st H (upd H st (.lst [.ref a, .int (i + 1), .int m, .int r])) := Go.upd hS (by omega)
    have hS1 := g1.st _ hS
    have hs1 : (upd H st (.lst [.ref a, .int (i + 1), .int m, .int r])) st = some (.lst [.ref a, .int (i + 1), .int m, .int r]) := upd_same
    obtain ⟨_, ns1, hns1⟩ := id hS1
    -- if state[1] <= len(state[0])
    refine ⟨_, rfl, st, _, 1, _, rfl, rfl, SqL.of hs1, atI_nat (j := 1) rfl, _, rfl, st, _, 0, _, rfl, rfl, SqL.of hs1, atI_nat (j := 0) rfl, a, _, rfl, .inl hns1, _, _, rfl, rfl, _, rfl, ite2 (fun c => ?_) (fun c => ?_)⟩
    · have c2 : i + 1 ≤ (ns1.length : Int) := by
        have := of_decide_eq_true c
        rw [List.length_map] at this
        exact this
      have hlt : i.toNat < ns1.length := by omega
      have hat : atI (ns1.map V.int) (i + 1 - 1) = some (.int ns1[i.toNat]) := at_of (j := i.toNat) (by omega) (by rw [List.getElem?_map, List.getElem?_eq_getElem hlt]; rfl)
      -- cell = state[0][state[1] - 1]
      refine ⟨_, rfl, st, _, 0, _, rfl, rfl, SqL.of hs1, atI_nat (j := 0) rfl, _, rfl, st, _, 1, _, rfl, rfl, SqL.of hs1, atI_nat (j := 1) rfl, _, _, rfl, rfl, a, _, _, _, rfl, rfl, hns1, hat, ?_⟩
      -- state[3] = cell // many if cell >= 10 ** 18 else 0
      refine ⟨_, rfl, _, _, rfl, rfl, ⟨by decide, by decide, by decide⟩, _, _, rfl, rfl, _, rfl, ite2 (fun c3 => ?_) (fun c3 => ?_)⟩
      · refine ⟨_, rfl, _, rfl, _, _, rfl, rfl, wide_div hn hnb (by decide) (by decide), _, rfl, st, _, 3, 3, rfl, rfl, hs1, rfl, ?_⟩
        exact ⟨_, rfl, _, rfl, _, _, rfl, rfl, hn, q _ _ (Int.emod_nonneg _ (by omega)) (Int.emod_lt_of_pos _ hn) (g1.trans (Go.upd (m := m) hS1 (by omega)))⟩
      · refine ⟨_, rfl, st, _, 3, 3, rfl, rfl, hs1, rfl, ?_⟩
        exact ⟨_, rfl, _, rfl, _, _, rfl, rfl, hn, q _ _ (Int.emod_nonneg _ (by omega)) (Int.emod_lt_of_pos _ hn) (g1.trans (Go.upd (m := m) hS1 (by omega)))⟩
    · -- state[2] = (state[2] * 48271 + 11) % 2147483647
      refine ⟨_, rfl, st, _, 2, _, rfl, rfl, SqL.of hs1, atI_nat (j := 2) rfl, _, _, rfl, rfl, .inr ⟨by decide, by decide⟩, _, _, rfl, rfl, _, _, rfl, rfl, by show (0:Int) < _; decide, ?_⟩
      refine ⟨_, rfl, st, _, 2, 2, rfl, rfl, hs1, rfl, ?_⟩
      have g2 := g1.trans (Go.upd (m := (m * 48271 + 11) % 2147483647) (r := r) hS1 (by omega : 0 ≤ i + 1))
      refine ⟨_, rfl, st, _, 2, _, rfl, rfl, SqL.of upd_same, atI_nat (j := 2) rfl, _, _, rfl, rfl, ⟨by decide, by decide⟩, _, rfl, _, _, rfl, rfl, hn, ?_⟩
      exact q _ _ (Int.emod_nonneg _ (by omega)) (Int.emod_lt_of_pos _ hn) g2
/-! ### _law_set: slots 0 _law_state, 1 _law_most, 2 _law_many, 3 _law_first, 4 _law_step, 5 _law_k -/

theorem ok__law_set (T : Txt K mg A) : FnOk P w K mg base CX0 2 A.f__law_set A.d__law_set ["_law_state", "_law_most"] (sp__law_set K) := by
  refine T.F__law_set.ok sc__law_set (fun vs H Q E h => by first | (obtain ⟨_, rfl, _⟩ := h; rfl) | (obtain ⟨_, _, rfl, _⟩ := h; rfl) | (obtain ⟨_, _, _, rfl, _⟩ := h; rfl) | (obtain ⟨_, _, _, _, rfl, _⟩ := h; rfl) | (obtain ⟨_, _, _, _, _, rfl, _⟩ := h; rfl) | (obtain ⟨_, _, _, _, _, _, rfl, _⟩ := h; rfl) | (obtain ⟨_, _, _, _, _, _, _, rfl, _⟩ := h; rfl)) (fun cdv AA outer s H vs Q E hr h => ?_)
  refine ⟨_, (pss_cons (ps_set (i := 2) sc__law_set.nd rfl (.inl rfl) (pe_call (ok__law_drawn T) (hr.mono (by decide)) (by rfl) T.g__law_drawn T.k__law_drawn T.b__law_drawn .nil pass0 (pa_cons (pv 0) (pa_cons (pe_op op_add (pv 1) pe_int) pa_nil))))
      (pss_cons (ps_set (i := 3) sc__law_set.nd rfl (.inr rfl) (pe_call (ok__law_drawn T) (hr.mono (by decide)) (by rfl) T.g__law_drawn T.k__law_drawn T.b__law_drawn .nil pass0 (pa_cons (pv 0) (pa_cons pe_int pa_nil))))
      (pss_cons (ps_set (i := 4) sc__law_set.nd rfl (.inr rfl) (pe_ix ix_list (pe_lst (pa_cons pe_int (pa_cons pe_int (pa_cons (pe_op op_add pe_int (pe_call (ok__law_drawn T) (hr.mono (by decide)) (by rfl) T.g__law_drawn T.k__law_drawn T.b__law_drawn .nil pass0 (pa_cons (pv 0) (pa_cons pe_int pa_nil)))) pa_nil)))) (pe_call (ok__law_drawn T) (hr.mono (by decide)) (by rfl) T.g__law_drawn T.k__law_drawn T.b__law_drawn .nil pass0 (pa_cons (pv 0) (pa_cons pe_int pa_nil))) (fun _ _ => rfl)))
      (pss_cons (ps_if (pt_cmpR op_eq (pv 4) pe_int (nomark _)) (pss_one (ps_ret (pe_callTy call_tuple_of (by rfl) T.z_tuple (by decide +kernel) (pa_cons (pe_callB (call_sortedU rfl) (by rfl) T.z_sorted (by decide +kernel) (pa_cons (pe_callTy (call_setQ rfl) (by rfl) T.z_set (by decide +kernel) (pa_cons (pe_lc (own := [("_law_k", 5)]) (g := gName 5)  rfl sc__law_set.nd (pi_range1 (by rfl) T.z_range (pa_cons (pv 2) pa_nil)) (blkOk_by (own := [("_law_k", 5)]) (N := ["_law_state", "_law_most", "_law_many", "_law_first", "_law_step", "_law_k"]) (sc := defScope s__law_set) (by decide +kernel)) (fun _ _ _ _ _ => pg_name (i := 5) sc__law_set.nd rfl (Or.inl rfl)) (fun _ _ _ _ _ => pts_nil) (fun _ _ _ _ _ => (pe_op op_add pe_int (pe_call (ok__law_drawn T) (hr.mono (by decide)) (by rfl) T.g__law_drawn T.k__law_drawn T.b__law_drawn .nil pass0 (pa_cons (pv 0) (pa_cons pe_int pa_nil)))))) pa_nil)) pa_nil)) pa_nil)))) pss_nil)
      (pss_one (ps_ret (pe_callTy call_tuple_of (by rfl) T.z_tuple (by decide +kernel) (pa_cons (pe_callB (call_sortedU rfl) (by rfl) T.z_sorted (by decide +kernel) (pa_cons (pe_callTy (call_setQ rfl) (by rfl) T.z_set (by decide +kernel) (pa_cons (pe_lc (own := [("_law_k", 5)]) (g := gName 5)  rfl sc__law_set.nd (pi_range1 (by rfl) T.z_range (pa_cons (pv 2) pa_nil)) (blkOk_by (own := [("_law_k", 5)]) (N := ["_law_state", "_law_most", "_law_many", "_law_first", "_law_step", "_law_k"]) (sc := defScope s__law_set) (by decide +kernel)) (fun _ _ _ _ _ => pg_name (i := 5) sc__law_set.nd rfl (Or.inl rfl)) (fun _ _ _ _ _ => pts_nil) (fun _ _ _ _ _ => (pe_op op_add pe_int (pe_op op_mod (pe_op op_add (pv 3) (pe_op op_mul (pv 4) (pv 5))) pe_int)))) pa_nil)) pa_nil)) pa_nil)))))))), ?_⟩
  obtain ⟨a, st, most, rfl, hS, m0, m1, q⟩ := h
  refine ⟨_, rfl, _, rfl, _, _, rfl, rfl, a, st, most + 1, rfl, hS, by omega, nat8000 (by omega) (by omega), fun many H1 n0 n1 g1 => ?_⟩
  have S1 := g1.st _ hS
  refine ⟨_, rfl, a, st, 96, rfl, S1, by decide, nat8000 (by decide) (by decide +kernel), fun first H2 _ _ g2 => ?_⟩
  have g2' := g1.trans g2
  have S2 := g2'.st _ hS
  refine ⟨_, rfl, a, st, 95, rfl, S2, by decide, nat8000 (by decide) (by decide +kernel), fun u H3 u0 u1 g3 => ?_⟩
  have g3' := g2'.trans g3
  have S3 := g3'.st _ hS
  refine ⟨_, _, rfl, rfl, by show 3 ≤ sizeLine; decide, fun l hl => ?_⟩
  refine ⟨_, rfl, a, st, 3, rfl, (Go.new hl).st _ S3, by decide, nat8000 (by decide) (by decide +kernel), fun v H4 v0 v1 g4 => ?_⟩
  obtain ⟨step, hat, s0, s1⟩ := pickI (ns := [0, 1, 1 + u]) (lo := 0) (hi := 95) (by simp only [List.mem_cons, List.not_mem_nil, or_false]; rintro z (rfl | rfl | rfl) <;> omega) v0 v1
  have g4' := g3'.trans ((Go.new hl).trans g4)
  have S4 := g4'.st _ hS
  refine ⟨l, _, _, _, rfl, rfl, SqL.of (g4.keep _ _ (S3.fresh hl) upd_same), hat, ?_⟩
  refine ⟨_, rfl, rfl, _, rfl, ite2 (fun c => ?_) (fun c => ?_)⟩
  · refine ⟨_, rfl, many, rfl, by omega, by omega, fun D hD => lc_ints (K := K) (st := st) (a := a) (fun z => 1 ≤ z ∧ z ≤ 96) S4 hD (by omega) (fun _ => rfl) (fun i H5 hi g5 Q' q' => ?_) fun ns H5 hl5 hP g5 hd5 => ?_⟩
    · refine ⟨_, rfl, a, st, 96, rfl, g5.st _ S4, by decide, nat8000 (by decide) (by decide +kernel), fun z H6 z0 z1 g6 => ?_⟩
      exact ⟨_, _, rfl, rfl, q' _ H6 ⟨by omega, by omega⟩ g6⟩
    · refine ⟨D, ns, rfl, .inl (SqL.of hd5), by omega, fun c p hc hp => ?_⟩
      refine ⟨p, _, c, rfl, upd_same, by omega, fun ms p2 hpw hmem hlen hp2 => ?_⟩
      refine ⟨p2, _, rfl, .inl ⟨SqL.of upd_same, fun t ht => ?_⟩⟩
      have g6 := (((g4'.trans g5).trans (Go.new hp)).trans (Go.new hp2)).trans (Go.new (o := .tup (ms.map V.int)) ht)
      exact q t ms _ ⟨hpw, fun z hz => hP z (of_decide_eq_true ((hmem z).mp hz))⟩ (by omega) g6 ((((g4'.trans g5).trans (Go.new hp)).trans (Go.new hp2)).free hS ht) upd_same
  · refine ⟨_, rfl, many, rfl, by omega, by omega, fun D hD => lc_ints (K := K) (st := st) (a := a) (fun z => 1 ≤ z ∧ z ≤ 96) S4 hD (by omega) (fun _ => rfl) (fun i H5 hi g5 Q' q' => ?_) fun ns H5 hl5 hP g5 hd5 => ?_⟩
    · refine ⟨_, rfl, _, rfl, _, rfl, _, _, rfl, rfl, .inl ⟨by omega, by omega⟩, _, _, rfl, rfl, _, _, rfl, rfl, by show (0:Int) < _; decide, _, _, rfl, rfl, ?_⟩
      exact q' _ H5 ⟨by show 1 ≤ 1 + _ % 96; omega, by show 1 + _ % 96 ≤ 96; omega⟩ (Go.refl _)
    · refine ⟨D, ns, rfl, .inl (SqL.of hd5), by omega, fun c p hc hp => ?_⟩
      refine ⟨p, _, c, rfl, upd_same, by omega, fun ms p2 hpw hmem hlen hp2 => ?_⟩
      refine ⟨p2, _, rfl, .inl ⟨SqL.of upd_same, fun t ht => ?_⟩⟩
      have g6 := (((g4'.trans g5).trans (Go.new hp)).trans (Go.new hp2)).trans (Go.new (o := .tup (ms.map V.int)) ht)
      exact q t ms _ ⟨hpw, fun z hz => hP z (of_decide_eq_true ((hmem z).mp hz))⟩ (by omega) g6 ((((g4'.trans g5).trans (Go.new hp)).trans (Go.new hp2)).free hS ht) upd_same
/-! ### _law_turned: slots 0 _law_marks, 1 _law_mark, 2 _law_one -/

theorem ok__law_turned (T : Txt K mg A) : FnOk P w K mg base CX0 1 A.f__law_turned A.d__law_turned ["_law_marks", "_law_mark"] (sp__law_turned K) := by
  refine T.F__law_turned.ok sc__law_turned (fun vs H Q E h => by first | (obtain ⟨_, rfl, _⟩ := h; rfl) | (obtain ⟨_, _, rfl, _⟩ := h; rfl) | (obtain ⟨_, _, _, rfl, _⟩ := h; rfl) | (obtain ⟨_, _, _, _, rfl, _⟩ := h; rfl) | (obtain ⟨_, _, _, _, _, rfl, _⟩ := h; rfl) | (obtain ⟨_, _, _, _, _, _, rfl, _⟩ := h; rfl) | (obtain ⟨_, _, _, _, _, _, _, rfl, _⟩ := h; rfl)) (fun cdv AA outer s H vs Q E hr h => ?_)
  refine ⟨_, (pss_cons (ps_if (pt_cmpR op_in_seq (pv 1) (pv 0) (by rfl)) (pss_one (ps_ret (pe_callTy call_tuple_of (by rfl) T.z_tuple (by decide +kernel) (pa_cons (pe_lc (own := [("_law_one", 2)]) (g := gName 2)  rfl sc__law_turned.nd (pi_tup (pv 0)) (blkOk_by (own := [("_law_one", 2)]) (N := ["_law_marks", "_law_mark", "_law_one"]) (sc := defScope s__law_turned) (by decide +kernel)) (fun _ _ _ _ _ => pg_name (i := 2) sc__law_turned.nd rfl (Or.inl rfl)) (fun _ _ _ _ _ => (pts_one (pt_cmpR op_ne (pv 2) (pv 1) (nomark _)))) (fun _ _ _ _ _ => (pv 2))) pa_nil)))) pss_nil)
      (pss_one (ps_ret (pe_callTy call_tuple_of (by rfl) T.z_tuple (by decide +kernel) (pa_cons (pe_callB (call_sortedQ rfl) (by rfl) T.z_sorted (by decide +kernel) (pa_cons (pe_op op_catA (pv 0) (pe_tup (pa_cons (pv 1) pa_nil))) pa_nil)) pa_nil))))), ?_⟩
  obtain ⟨a, ms, m, rfl, ha, hset, m0, m1, q⟩ := h
  have hl := hset.len
  refine ⟨_, rfl, _, rfl, in_turn (SqT.of ha) ⟨_, rfl, ite2 (fun c => ?_) (fun c => ?_)⟩⟩
  · refine ⟨_, rfl, a, rfl, ⟨_, SqT.of ha⟩, fun D hD => lc_pureT (K := K) (a := a) (xs := ms.map V.int) (fun v => !decide (v = .int m)) (fun v => v) hD (SqT.of ha) (by rw [List.length_map]; omega) (fun _ => rfl) ?_ (fun x _ _ H2 s2 Q' q' => ⟨_, rfl, q' H2 (Same.refl _)⟩) fun H2 s2 hd => ?_⟩
    · intro x hx H2 s2 Q' q'
      obtain ⟨z, hz, rfl⟩ := List.mem_map.mp hx
      exact ⟨_, rfl, _, rfl, rfl, _, rfl, q' H2 (Same.refl _)⟩
    rw [int_filter (g := fun z => !decide (z = m)) (fun z _ => by
      have e : decide (V.int z = V.int m) = decide (z = m) := decide_eq_decide.mpr ⟨fun h => V.int.inj h, fun h => congrArg V.int h⟩
      show (!decide (V.int z = V.int m)) = _
      rw [e])] at hd
    exact ⟨D, _, rfl, .inl ⟨SqL.of hd, fun t ht => q t _ _ ⟨hset.up.filter _, fun z hz => hset.bd z (List.mem_filter.mp hz).1⟩ (s2.trans (same_upd ht)) (s2.free ht) upd_same⟩⟩
  · have hm : m ∉ ms := fun w => c (decide_eq_true w)
    refine ⟨_, rfl, _, rfl, by show 1 ≤ sizeLine; decide, fun u hu => ?_⟩
    refine catA_ints (zs := ms) (ns := [m]) (SqT.of ((same_upd hu) _ _ ha)) (SqT.of upd_same) (by show ms.length + 1 ≤ 1000; omega) fun w H2 s2 hw => ?_
    refine ⟨w, ms ++ [m], rfl, .inr hw, fun ns p hperm hle hp => ?_⟩
    refine ⟨p, _, rfl, .inl ⟨SqL.of upd_same, fun t ht => ?_⟩⟩
    have hnd : (ms ++ [m]).Nodup := by
      refine List.nodup_append.mpr ⟨hset.up.imp fun h => Int.ne_of_lt h, (List.nodup_cons.mpr ⟨(fun h => nomatch h), List.nodup_nil⟩), fun x hx y hy e => ?_⟩
      rw [List.mem_singleton.mp hy] at e
      exact hm (e ▸ hx)
    have hs : SetL ns := ⟨MyS.lt_nd ns hle (hperm.nodup_iff.mpr hnd), fun z hz => by
      rcases List.mem_append.mp (hperm.mem_iff.mp hz) with h | h
      · exact hset.bd z h
      · rw [List.mem_singleton.mp h]
        exact ⟨m0, m1⟩⟩
    exact q t ns _ hs ((((same_upd hu).trans s2).trans (same_upd hp)).trans (same_upd ht)) ((((same_upd hu).trans s2).trans (same_upd hp)).free ht) upd_same
/-! ### _law_changed: slots 0 _law_state, 1 _law_marks, 2 _law_many, 3 _law_k, 4 _law_mark -/

theorem ok__law_changed (T : Txt K mg A) : FnOk P w K mg base CX0 2 A.f__law_changed A.d__law_changed ["_law_state", "_law_marks", "_law_many"] (sp__law_changed K) := by
  refine T.F__law_changed.ok sc__law_changed (fun vs H Q E h => by first | (obtain ⟨_, rfl, _⟩ := h; rfl) | (obtain ⟨_, _, rfl, _⟩ := h; rfl) | (obtain ⟨_, _, _, rfl, _⟩ := h; rfl) | (obtain ⟨_, _, _, _, rfl, _⟩ := h; rfl) | (obtain ⟨_, _, _, _, _, rfl, _⟩ := h; rfl) | (obtain ⟨_, _, _, _, _, _, rfl, _⟩ := h; rfl) | (obtain ⟨_, _, _, _, _, _, _, rfl, _⟩ := h; rfl)) (fun cdv AA outer s H vs Q E hr h => ?_)
  refine ⟨_, (pss_cons (ps_for PassesOwn.never rfl (pi_range1 (by rfl) T.z_range (pa_cons (pv 2) pa_nil)) (pg_name (i := 3) sc__law_changed.nd rfl (.inl rfl))
        (pss_cons (ps_set (i := 4) sc__law_changed.nd rfl (.inl rfl) (pe_op op_add pe_int (pe_call (ok__law_drawn T) (hr.mono (by decide)) (by rfl) T.g__law_drawn T.k__law_drawn T.b__law_drawn .nil pass0 (pa_cons (pv 0) (pa_cons pe_int pa_nil)))))
        (Evl.pss_cut (ps_if (PW.pt (pw_and (pt_cmpR (op_neD hr.units) (pv 1) (pe_tup pa_nil) (nomark _)) (pw_and1 (pt_cmpR op_eq (pe_call (ok__law_drawn T) (hr.mono (by decide)) (by rfl) T.g__law_drawn T.k__law_drawn T.b__law_drawn .nil pass0 (pa_cons (pv 0) (pa_cons pe_int pa_nil))) pe_int (nomark _))))) (pss_one (ps_set (i := 4) sc__law_changed.nd rfl (.inl rfl) (pe_ix ix_tup (pv 1) (pe_call (ok__law_drawn T) (hr.mono (by decide)) (by rfl) T.g__law_drawn T.k__law_drawn T.b__law_drawn .nil pass0 (pa_cons (pv 0) (pa_cons (pe_callB call_len_seq (by rfl) T.z_len PySem.boot_len (pa_cons (pv 1) pa_nil)) pa_nil))) (fun _ _ => rfl)))) pss_nil)
        (pss_one (ps_set (i := 1) sc__law_changed.nd rfl (.inl rfl) (pe_call (ok__law_turned T) (hr.mono (by decide)) (by rfl) T.g__law_turned T.k__law_turned T.b__law_turned .nil pass0 (pa_cons (pv 1) (pa_cons (pv 4) pa_nil))))))))
      (pss_one (ps_ret (pv 1)))), ?_⟩
  obtain ⟨a, st, b, ms, n, rfl, hS, hb, hset, n0, n1, q⟩ := h
  refine ⟨_, rfl, n, rfl, by omega, by omega, for_range (n := n.toNat) (fun i σ H' => ∃ (t : Addr) (ns : List Int) (v3 v4 : Option V), σ = [some (.ref st), some (.ref t), some (.int n), v3, v4] ∧ Go K st H H' ∧ H' t = some (.tup (ns.map V.int)) ∧ SetL ns) ⟨b, ms, none, none, rfl, Go.refl _, hb, hset⟩ ?_ ?_⟩
  · rintro i σ H1 hi ⟨t, ns, v3, v4, rfl, g1, ht, hns⟩
    have S1 := g1.st _ hS
    refine ⟨_, rfl, a, st, 96, rfl, S1, by decide, nat8000 (by decide) (by decide +kernel), fun d H2 d0 d1 g2 => ?_⟩
    refine ⟨_, _, rfl, rfl, ?_⟩
    have g2' := g1.trans g2
    have S2 := g2'.st _ hS
    have ht2 := g2.keep _ _ (S1.ne ht (fun _ z => nomatch z)) ht
    have hnl := hns.len
    refine ⟨fun σ H' => ∃ (m : Int) (v3 : Option V), σ = [some (.ref st), some (.ref t), some (.int n), v3, some (.int m)] ∧ 1 ≤ m ∧ m ≤ 96 ∧ Go K st H H' ∧ H' t = some (.tup (ns.map V.int)), ?_, ?_⟩
    · refine ⟨_, rfl, by show 0 ≤ sizeLine; decide, fun u hu => neT (ns := ns) (ms := []) (SqT.of ((same_upd hu) _ _ ht2)) (SqT.of upd_same) ⟨_, rfl, ?_⟩⟩
      have gu := Go.new (K := K) (st := st) (o := .tup []) hu
      have htu := (same_upd (o := .tup []) hu) _ _ ht2
      by_cases hc : ns = []
      · rw [decide_eq_true hc]
        refine iteF (iteF ?_)
        exact ⟨1 + d, _, rfl, by omega, by omega, g2'.trans gu, htu⟩
      · rw [decide_eq_false hc]
        refine iteT ?_
        have Su := gu.st _ S2
        refine ⟨_, rfl, a, st, 2, rfl, Su, by decide, nat8000 (by decide) (by decide +kernel), fun c H3 _ _ g3 => ⟨rfl, _, rfl, ite2 (fun _ => ?_) (fun _ => ?_)⟩⟩
        · have S3 := g3.st _ Su
          have ht3 := g3.keep _ _ (Su.ne htu (fun _ z => nomatch z)) htu
          have lpos : 0 < ns.length := List.length_pos_iff.mpr hc
          refine ⟨_, rfl, _, rfl, _, rfl, t, _, rfl, .inr (SqT.of ht3), a, st, _, rfl, S3, by rw [List.length_map]; omega, by rw [List.length_map]; exact nat8000 (by omega) (by omega), fun e H4 e0 e1 g4 => ?_⟩
          rw [List.length_map] at e1
          have hlt : e.toNat < ns.length := by omega
          have ht4 := g4.keep _ _ (S3.ne ht3 (fun _ z => nomatch z)) ht3
          have ge : (ns.map V.int)[e.toNat]? = some (.int ns[e.toNat]) := by rw [List.getElem?_map, List.getElem?_eq_getElem hlt]; rfl
          refine ⟨t, _, _, _, rfl, rfl, SqT.of ht4, at_of (j := e.toNat) (by omega) ge, ?_⟩
          have hb := hns.bd _ (List.getElem_mem hlt)
          exact ⟨ns[e.toNat], _, rfl, hb.1, hb.2, (g2'.trans gu).trans (g3.trans g4), ht4⟩
        · exact ⟨1 + d, _, rfl, by omega, by omega, (g2'.trans gu).trans g3, g3.keep _ _ (Su.ne htu (fun _ z => nomatch z)) htu⟩
    · rintro σ H3 ⟨m, v3, rfl, m0, m1, g3, ht3⟩
      exact ⟨_, rfl, _, rfl, t, ns, m, rfl, ht3, hns, m0, m1, fun t2 ns2 H5 hs2 s5 _ ht5 => ⟨t2, ns2, _, _, rfl, g3.trans (Go.of s5), ht5, hs2⟩⟩
  · rintro σ H1 ⟨t, ns, v3, v4, rfl, g1, ht, hns⟩
    exact ⟨_, rfl, q t ns _ hns g1 ht⟩
/-! ### _law_apart: slots 0 _law_one, 1 _law_other, 2 _law_mark -/

theorem ok__law_apart (T : Txt K mg A) : FnOk P w K mg base CX0 1 A.f__law_apart A.d__law_apart ["_law_one", "_law_other"] (sp__law_apart K) := by
  refine T.F__law_apart.ok sc__law_apart (fun vs H Q E h => by first | (obtain ⟨_, rfl, _⟩ := h; rfl) | (obtain ⟨_, _, rfl, _⟩ := h; rfl) | (obtain ⟨_, _, _, rfl, _⟩ := h; rfl) | (obtain ⟨_, _, _, _, rfl, _⟩ := h; rfl) | (obtain ⟨_, _, _, _, _, rfl, _⟩ := h; rfl) | (obtain ⟨_, _, _, _, _, _, rfl, _⟩ := h; rfl) | (obtain ⟨_, _, _, _, _, _, _, rfl, _⟩ := h; rfl)) (fun cdv AA outer s H vs Q E hr h => ?_)
  refine ⟨_, (pss_one (ps_ret (pe_tup (pa_cons (pe_callTy call_tuple_of (by rfl) T.z_tuple (by decide +kernel) (pa_cons (pe_lc (own := [("_law_mark", 2)]) (g := gName 2)  rfl sc__law_apart.nd (pi_tup (pv 1)) (blkOk_by (own := [("_law_mark", 2)]) (N := ["_law_one", "_law_other", "_law_mark"]) (sc := defScope s__law_apart) (by decide +kernel)) (fun _ _ _ _ _ => pg_name (i := 2) sc__law_apart.nd rfl (Or.inl rfl)) (fun _ _ _ _ _ => (pts_one (pt_cmpR (op_notIn_seqK (K := K) rfl) (pv 2) (pv 0) (by rfl)))) (fun _ _ _ _ _ => (pv 2))) pa_nil)) (pa_cons (pe_callTy call_tuple_of (by rfl) T.z_tuple (by decide +kernel) (pa_cons (pe_lc (own := [("_law_mark", 2)]) (g := gName 2)  rfl sc__law_apart.nd (pi_tup (pv 0)) (blkOk_by (own := [("_law_mark", 2)]) (N := ["_law_one", "_law_other", "_law_mark"]) (sc := defScope s__law_apart) (by decide +kernel)) (fun _ _ _ _ _ => pg_name (i := 2) sc__law_apart.nd rfl (Or.inl rfl)) (fun _ _ _ _ _ => (pts_one (pt_cmpR (op_notIn_seqK (K := K) rfl) (pv 2) (pv 1) (by rfl)))) (fun _ _ _ _ _ => (pv 2))) pa_nil)) pa_nil))))), ?_⟩
  obtain ⟨a, b, xs, ys, rfl, ha, hb, lx, ly, q⟩ := h
  refine ⟨_, rfl, b, rfl, ⟨_, hb⟩, fun D hD => lc_pureT (K := K) (a := b) (xs := ys.map V.int) (fun v => match v with | .int z => decide (z ∉ xs) | _ => false) (fun v => v) hD hb (by rw [List.length_map]; omega) (fun _ => rfl) ?_ (fun x _ _ H2 s2 Q' q' => ⟨_, rfl, q' H2 (Same.refl _)⟩) fun H2 s2 hd => ?_⟩
  · intro x hx H2 s2 Q' q'
    obtain ⟨z, hz, rfl⟩ := List.mem_map.mp hx
    exact ⟨_, rfl, _, rfl, notin_turn (seqT_same s2 ha) ⟨_, rfl, q' H2 (Same.refl _)⟩⟩
  rw [int_filter (g := fun z => decide (z ∉ xs)) (fun _ _ => rfl)] at hd
  refine ⟨D, _, rfl, .inl ⟨SqL.of hd, fun t1 ht1 => ?_⟩⟩
  have s3 := s2.trans (same_upd (o := .tup ((ys.filter fun z => decide (z ∉ xs)).map V.int)) ht1)
  refine ⟨_, rfl, a, rfl, ⟨_, seqT_same s3 ha⟩, fun D2 hD2 => lc_pureT (K := K) (a := a) (xs := xs.map V.int) (fun v => match v with | .int z => decide (z ∉ ys) | _ => false) (fun v => v) hD2 (seqT_same s3 ha) (by rw [List.length_map]; omega) (fun _ => rfl) ?_ (fun x _ _ H2 s2 Q' q' => ⟨_, rfl, q' H2 (Same.refl _)⟩) fun H4 s4 hd4 => ?_⟩
  · intro x hx H2 s2 Q' q'
    obtain ⟨z, hz, rfl⟩ := List.mem_map.mp hx
    exact ⟨_, rfl, _, rfl, notin_turn (seqT_same (s3.trans s2) hb) ⟨_, rfl, q' H2 (Same.refl _)⟩⟩
  rw [int_filter (g := fun z => decide (z ∉ ys)) (fun _ _ => rfl)] at hd4
  refine ⟨D2, _, rfl, .inl ⟨SqL.of hd4, fun t2 ht2 => ?_⟩⟩
  have s5 := s4.trans (same_upd (o := .tup ((xs.filter fun z => decide (z ∉ ys)).map V.int)) ht2)
  refine ⟨by show 2 ≤ sizeLine; decide, fun t ht => ?_⟩
  have s6 := s5.trans (same_upd (o := .tup [.ref t1, .ref t2]) ht)
  exact q t t1 t2 _ (s3.trans s6) ((s3.trans s5).free ht) upd_same (s6 _ _ upd_same) ((same_upd ht) _ _ upd_same)
/-! ### _law_same: slots 0 _law_found, 1 _law_due, 2 _law_k -/

theorem ok__law_same (T : Txt K mg A) : ∀ n : Nat, FnOk P w K mg base CX0 (n + 1) A.f__law_same A.d__law_same ["_law_found", "_law_due"] (sp__law_same K n)
  | 0 => by
    refine T.F__law_same.ok sc__law_same (fun vs H Q E h => by first | (obtain ⟨_, rfl, _⟩ := h; rfl) | (obtain ⟨_, _, rfl, _⟩ := h; rfl) | (obtain ⟨_, _, _, rfl, _⟩ := h; rfl) | (obtain ⟨_, _, _, _, rfl, _⟩ := h; rfl) | (obtain ⟨_, _, _, _, _, rfl, _⟩ := h; rfl) | (obtain ⟨_, _, _, _, _, _, rfl, _⟩ := h; rfl) | (obtain ⟨_, _, _, _, _, _, _, rfl, _⟩ := h; rfl)) (fun cdv AA outer s H vs Q E hr h => ?_)
    refine ⟨_, (pss_cons (ps_if (pt_val (pe_callB call_isi (by rfl) T.z_isinstance (show bootBuiltins "isinstance" = some (.builtin "isinstance") by decide +kernel) (pa_cons (pv 1) (pa_cons (pe_bltn (v := .ty "tuple") (by rfl) T.z_tuple (by decide +kernel) rfl) pa_nil)))) (pss_cons ps_never (pss_one ps_never)) pss_nil)
      (pss_cons (ps_if (pt_cmpR op_isN (pv 1) pe_non (nomark _)) (pss_one (ps_ret (pe_cmpR op_isN (pv 0) pe_non (nomark _)))) pss_nil)
      (pss_cons (ps_if (pt_val (pe_callB call_isi (by rfl) T.z_isinstance (show bootBuiltins "isinstance" = some (.builtin "isinstance") by decide +kernel) (pa_cons (pv 1) (pa_cons (pe_bltn (v := .ty "str") (by rfl) T.z_str (by decide +kernel) rfl) pa_nil)))) (pss_one (ps_ret (pe_and (pe_callB call_isi (by rfl) T.z_isinstance (show bootBuiltins "isinstance" = some (.builtin "isinstance") by decide +kernel) (pa_cons (pv 0) (pa_cons (pe_bltn (v := .ty "str") (by rfl) T.z_str (by decide +kernel) rfl) pa_nil))) (pe_one (pe_cmpR op_eq (pv 0) (pv 1) (nomark _)))))) pss_nil)
      (pss_cons (ps_if (PW.pt (pw_or (pt_val (pe_callB call_isi (by rfl) T.z_isinstance (show bootBuiltins "isinstance" = some (.builtin "isinstance") by decide +kernel) (pa_cons (pv 1) (pa_cons (pe_bltn (v := .ty "bool") (by rfl) T.z_bool (by decide +kernel) rfl) pa_nil)))) (pw_or1 (pt_val (pe_callB call_isi (by rfl) T.z_isinstance (show bootBuiltins "isinstance" = some (.builtin "isinstance") by decide +kernel) (pa_cons (pv 0) (pa_cons (pe_bltn (v := .ty "bool") (by rfl) T.z_bool (by decide +kernel) rfl) pa_nil))))))) (pss_one (ps_ret (pe_and (pe_callB call_isi (by rfl) T.z_isinstance (show bootBuiltins "isinstance" = some (.builtin "isinstance") by decide +kernel) (pa_cons (pv 1) (pa_cons (pe_bltn (v := .ty "bool") (by rfl) T.z_bool (by decide +kernel) rfl) pa_nil))) (pe_and (pe_callB call_isi (by rfl) T.z_isinstance (show bootBuiltins "isinstance" = some (.builtin "isinstance") by decide +kernel) (pa_cons (pv 0) (pa_cons (pe_bltn (v := .ty "bool") (by rfl) T.z_bool (by decide +kernel) rfl) pa_nil))) (pe_one (pe_cmpR op_eq (pv 0) (pv 1) (nomark _))))))) pss_nil)
      (pss_one (ps_ret (pe_and (pe_callB call_isi (by rfl) T.z_isinstance (show bootBuiltins "isinstance" = some (.builtin "isinstance") by decide +kernel) (pa_cons (pv 0) (pa_cons (pe_bltn (v := .ty "int") (by rfl) T.z_int (by decide +kernel) rfl) pa_nil))) (pe_one (pe_cmpR op_eq (pv 0) (pv 1) (nomark _)))))))))), ?_⟩
    obtain ⟨x, y, rfl, e, q⟩ := h
    cases e with
    | non =>
      refine ⟨_, rfl, _, _, _, _, false, rfl, .ty "tuple", .base .non, kit_ty (by decide +kernel), _, rfl, iteF ?_⟩
      refine ⟨_, rfl, rfl, _, rfl, iteT ?_⟩
      exact ⟨_, rfl, rfl, q H (Same.refl _)⟩
    | bl b =>
      refine ⟨_, rfl, _, _, _, _, false, rfl, .ty "tuple", .base (.bl _), kit_ty (by decide +kernel), _, rfl, iteF ?_⟩
      refine ⟨_, rfl, rfl, _, rfl, iteF ?_⟩
      refine ⟨_, rfl, _, _, _, _, false, rfl, .ty "str", .base (.bl _), kit_ty (by decide +kernel), _, rfl, iteF ?_⟩
      refine ⟨_, rfl, _, _, _, _, true, rfl, .ty "bool", .base (.bl _), kit_ty (by decide +kernel), _, rfl, iteT ?_⟩
      refine iteT ?_
      refine ⟨_, rfl, _, _, _, _, true, rfl, .ty "bool", .base (.bl _), kit_ty (by decide +kernel), _, rfl, iteT ?_⟩
      refine ⟨_, rfl, _, _, _, _, true, rfl, .ty "bool", .base (.bl _), kit_ty (by decide +kernel), _, rfl, iteT ?_⟩
      refine ⟨_, rfl, _, rfl, rfl, ?_⟩
      rw [decide_eq_true rfl]
      exact q H (Same.refl _)
    | int i =>
      refine ⟨_, rfl, _, _, _, _, false, rfl, .ty "tuple", .base (.int _), kit_ty (by decide +kernel), _, rfl, iteF ?_⟩
      refine ⟨_, rfl, rfl, _, rfl, iteF ?_⟩
      refine ⟨_, rfl, _, _, _, _, false, rfl, .ty "str", .base (.int _), kit_ty (by decide +kernel), _, rfl, iteF ?_⟩
      refine ⟨_, rfl, _, _, _, _, false, rfl, .ty "bool", .base (.int _), kit_ty (by decide +kernel), _, rfl, iteF ?_⟩
      refine ⟨_, rfl, _, _, _, _, false, rfl, .ty "bool", .base (.int _), kit_ty (by decide +kernel), _, rfl, iteF ?_⟩
      refine ⟨_, rfl, _, _, _, _, true, rfl, .ty "int", .base (.int _), kit_ty (by decide +kernel), _, rfl, iteT ?_⟩
      refine ⟨_, rfl, _, rfl, rfl, ?_⟩
      rw [decide_eq_true rfl]
      exact q H (Same.refl _)
    | str z =>
      refine ⟨_, rfl, _, _, _, _, false, rfl, .ty "tuple", .base (.str _), kit_ty (by decide +kernel), _, rfl, iteF ?_⟩
      refine ⟨_, rfl, rfl, _, rfl, iteF ?_⟩
      refine ⟨_, rfl, _, _, _, _, true, rfl, .ty "str", .base (.str _), kit_ty (by decide +kernel), _, rfl, iteT ?_⟩
      refine ⟨_, rfl, _, _, _, _, true, rfl, .ty "str", .base (.str _), kit_ty (by decide +kernel), _, rfl, iteT ?_⟩
      refine ⟨_, rfl, _, rfl, rfl, ?_⟩
      rw [decide_eq_true rfl]
      exact q H (Same.refl _)
  | n + 1 => by
    have IH := ok__law_same T n
    refine T.F__law_same.ok sc__law_same (fun vs H Q E h => by first | (obtain ⟨_, rfl, _⟩ := h; rfl) | (obtain ⟨_, _, rfl, _⟩ := h; rfl) | (obtain ⟨_, _, _, rfl, _⟩ := h; rfl) | (obtain ⟨_, _, _, _, rfl, _⟩ := h; rfl) | (obtain ⟨_, _, _, _, _, rfl, _⟩ := h; rfl) | (obtain ⟨_, _, _, _, _, _, rfl, _⟩ := h; rfl) | (obtain ⟨_, _, _, _, _, _, _, rfl, _⟩ := h; rfl)) (fun cdv AA outer s H vs Q E hr h => ?_)
    refine ⟨_, (pss_cons (ps_if (pt_val (pe_callB call_isi (by rfl) T.z_isinstance (show bootBuiltins "isinstance" = some (.builtin "isinstance") by decide +kernel) (pa_cons (pv 1) (pa_cons (pe_bltn (v := .ty "tuple") (by rfl) T.z_tuple (by decide +kernel) rfl) pa_nil)))) (pss_cons (ps_if (PW.pt (pw_or (pt_not (pt_val (pe_callB call_isi (by rfl) T.z_isinstance (show bootBuiltins "isinstance" = some (.builtin "isinstance") by decide +kernel) (pa_cons (pv 0) (pa_cons (pe_bltn (v := .ty "tuple") (by rfl) T.z_tuple (by decide +kernel) rfl) pa_nil))))) (pw_or1 (pt_cmpR op_ne (pe_callB call_len_seq (by rfl) T.z_len PySem.boot_len (pa_cons (pv 0) pa_nil)) (pe_callB call_len_seq (by rfl) T.z_len PySem.boot_len (pa_cons (pv 1) pa_nil)) (nomark _))))) (pss_one (ps_ret pe_bl)) pss_nil)
        (pss_one (ps_ret (pe_cmpR (op_eqD hr.units) (pe_lc (own := [("_law_k", 2)]) (g := gName 2)  rfl sc__law_same.nd (pi_range1 (by rfl) T.z_range (pa_cons (pe_callB call_len_seq (by rfl) T.z_len PySem.boot_len (pa_cons (pv 1) pa_nil)) pa_nil)) (blkOk_by (own := [("_law_k", 2)]) (N := ["_law_found", "_law_due", "_law_k"]) (sc := defScope s__law_same) (by decide +kernel)) (fun _ _ _ _ _ => pg_name (i := 2) sc__law_same.nd rfl (Or.inl rfl)) (fun _ _ _ _ _ => (pts_one (pt_not (pt_val (pe_call IH hr (by rfl) T.g__law_same T.k__law_same T.b__law_same .nil pass0 (pa_cons (pe_ix (ix_tupK (K := K) rfl) (pv 0) (pv 2) (fun _ _ => rfl)) (pa_cons (pe_ix (ix_tupK (K := K) rfl) (pv 1) (pv 2) (fun _ _ => rfl)) pa_nil))))))) (fun _ _ _ _ _ => (pv 2))) (pe_lst pa_nil) (nomark _))))) pss_nil)
      (pss_cons (ps_if (pt_cmpR op_isN (pv 1) pe_non (nomark _)) (pss_one (ps_ret (pe_cmpR op_isN (pv 0) pe_non (nomark _)))) pss_nil)
      (pss_cons (ps_if (pt_val (pe_callB call_isi (by rfl) T.z_isinstance (show bootBuiltins "isinstance" = some (.builtin "isinstance") by decide +kernel) (pa_cons (pv 1) (pa_cons (pe_bltn (v := .ty "str") (by rfl) T.z_str (by decide +kernel) rfl) pa_nil)))) (pss_one (ps_ret (pe_and (pe_callB call_isi (by rfl) T.z_isinstance (show bootBuiltins "isinstance" = some (.builtin "isinstance") by decide +kernel) (pa_cons (pv 0) (pa_cons (pe_bltn (v := .ty "str") (by rfl) T.z_str (by decide +kernel) rfl) pa_nil))) (pe_one (pe_cmpR op_eq (pv 0) (pv 1) (nomark _)))))) pss_nil)
      (pss_cons (ps_if (PW.pt (pw_or (pt_val (pe_callB call_isi (by rfl) T.z_isinstance (show bootBuiltins "isinstance" = some (.builtin "isinstance") by decide +kernel) (pa_cons (pv 1) (pa_cons (pe_bltn (v := .ty "bool") (by rfl) T.z_bool (by decide +kernel) rfl) pa_nil)))) (pw_or1 (pt_val (pe_callB call_isi (by rfl) T.z_isinstance (show bootBuiltins "isinstance" = some (.builtin "isinstance") by decide +kernel) (pa_cons (pv 0) (pa_cons (pe_bltn (v := .ty "bool") (by rfl) T.z_bool (by decide +kernel) rfl) pa_nil))))))) (pss_one (ps_ret (pe_and (pe_callB call_isi (by rfl) T.z_isinstance (show bootBuiltins "isinstance" = some (.builtin "isinstance") by decide +kernel) (pa_cons (pv 1) (pa_cons (pe_bltn (v := .ty "bool") (by rfl) T.z_bool (by decide +kernel) rfl) pa_nil))) (pe_and (pe_callB call_isi (by rfl) T.z_isinstance (show bootBuiltins "isinstance" = some (.builtin "isinstance") by decide +kernel) (pa_cons (pv 0) (pa_cons (pe_bltn (v := .ty "bool") (by rfl) T.z_bool (by decide +kernel) rfl) pa_nil))) (pe_one (pe_cmpR op_eq (pv 0) (pv 1) (nomark _))))))) pss_nil)
      (pss_one (ps_ret (pe_and (pe_callB call_isi (by rfl) T.z_isinstance (show bootBuiltins "isinstance" = some (.builtin "isinstance") by decide +kernel) (pa_cons (pv 0) (pa_cons (pe_bltn (v := .ty "int") (by rfl) T.z_int (by decide +kernel) rfl) pa_nil))) (pe_one (pe_cmpR op_eq (pv 0) (pv 1) (nomark _)))))))))), ?_⟩
    obtain ⟨x, y, rfl, e, q⟩ := h
    cases e with
    | non =>
      refine ⟨_, rfl, _, _, _, _, false, rfl, .ty "tuple", .base .non, kit_ty (by decide +kernel), _, rfl, iteF ?_⟩
      refine ⟨_, rfl, rfl, _, rfl, iteT ?_⟩
      exact ⟨_, rfl, rfl, q H (Same.refl _)⟩
    | bl _ b =>
      refine ⟨_, rfl, _, _, _, _, false, rfl, .ty "tuple", .base (.bl _), kit_ty (by decide +kernel), _, rfl, iteF ?_⟩
      refine ⟨_, rfl, rfl, _, rfl, iteF ?_⟩
      refine ⟨_, rfl, _, _, _, _, false, rfl, .ty "str", .base (.bl _), kit_ty (by decide +kernel), _, rfl, iteF ?_⟩
      refine ⟨_, rfl, _, _, _, _, true, rfl, .ty "bool", .base (.bl _), kit_ty (by decide +kernel), _, rfl, iteT ?_⟩
      refine iteT ?_
      refine ⟨_, rfl, _, _, _, _, true, rfl, .ty "bool", .base (.bl _), kit_ty (by decide +kernel), _, rfl, iteT ?_⟩
      refine ⟨_, rfl, _, _, _, _, true, rfl, .ty "bool", .base (.bl _), kit_ty (by decide +kernel), _, rfl, iteT ?_⟩
      refine ⟨_, rfl, _, rfl, rfl, ?_⟩
      rw [decide_eq_true rfl]
      exact q H (Same.refl _)
    | int _ i =>
      refine ⟨_, rfl, _, _, _, _, false, rfl, .ty "tuple", .base (.int _), kit_ty (by decide +kernel), _, rfl, iteF ?_⟩
      refine ⟨_, rfl, rfl, _, rfl, iteF ?_⟩
      refine ⟨_, rfl, _, _, _, _, false, rfl, .ty "str", .base (.int _), kit_ty (by decide +kernel), _, rfl, iteF ?_⟩
      refine ⟨_, rfl, _, _, _, _, false, rfl, .ty "bool", .base (.int _), kit_ty (by decide +kernel), _, rfl, iteF ?_⟩
      refine ⟨_, rfl, _, _, _, _, false, rfl, .ty "bool", .base (.int _), kit_ty (by decide +kernel), _, rfl, iteF ?_⟩
      refine ⟨_, rfl, _, _, _, _, true, rfl, .ty "int", .base (.int _), kit_ty (by decide +kernel), _, rfl, iteT ?_⟩
      refine ⟨_, rfl, _, rfl, rfl, ?_⟩
      rw [decide_eq_true rfl]
      exact q H (Same.refl _)
    | str _ z =>
      refine ⟨_, rfl, _, _, _, _, false, rfl, .ty "tuple", .base (.str _), kit_ty (by decide +kernel), _, rfl, iteF ?_⟩
      refine ⟨_, rfl, rfl, _, rfl, iteF ?_⟩
      refine ⟨_, rfl, _, _, _, _, true, rfl, .ty "str", .base (.str _), kit_ty (by decide +kernel), _, rfl, iteT ?_⟩
      refine ⟨_, rfl, _, _, _, _, true, rfl, .ty "str", .base (.str _), kit_ty (by decide +kernel), _, rfl, iteT ?_⟩
      refine ⟨_, rfl, _, rfl, rfl, ?_⟩
      rw [decide_eq_true rfl]
      exact q H (Same.refl _)
    | @tup _ p r xs ys hp hq hl hl2 hE =>
      refine ⟨_, rfl, _, _, _, _, true, rfl, .ty "tuple", .base (.tup hq), kit_ty (by decide +kernel), _, rfl, iteT ?_⟩
      refine ⟨_, rfl, _, _, _, _, true, rfl, .ty "tuple", .base (.tup hp), kit_ty (by decide +kernel), _, rfl, iteF ?_⟩
      refine ⟨_, rfl, p, _, rfl, .inr (SqT.of hp), _, rfl, r, _, rfl, .inr (SqT.of hq), rfl, _, rfl, iteNS (by rw [hl]) ?_⟩
      refine ⟨_, rfl, r, _, rfl, .inr (SqT.of hq), _, rfl, by omega, by omega, fun D hD => lc_pureR (lo := 0) (n := ((ys.length : Nat) : Int).toNat) (fun _ => false) (fun v => v) hD (by omega) (fun _ => rfl) ?_ (fun _ _ z => nomatch z) fun H2 s2 hd => ?_⟩
      · intro k hk H2 s2 Q' q'
        have k1 : k < ys.length := by omega
        have k2 : k < xs.length := by omega
        have gx : xs[k]? = some xs[k] := List.getElem?_eq_getElem k2
        have gy : ys[k]? = some ys[k] := List.getElem?_eq_getElem k1
        refine ⟨_, rfl, _, rfl, p, _, _, _, rfl, rfl, SqT.of (s2 _ _ hp), at_of (j := k) (by omega) gx, _, rfl, _, rfl, r, _, _, _, rfl, rfl, SqT.of (s2 _ _ hq), at_of (j := k) (by omega) gy, ?_⟩
        exact ⟨_, _, rfl, (hE k _ _ gx gy).same s2, fun H3 s3 => ⟨true, rfl, q' H3 s3⟩⟩
      · refine ⟨by show 0 ≤ sizeLine; decide, fun l hl => eqL (ns := []) (ms := []) (SqL.of (by rw [upd_ne (ne_of_none hd hl), hd, filt_no]; rfl)) (SqL.of upd_same) ?_⟩
        exact q _ (s2.trans (same_upd hl))
/-! ### law: slots 0 _law_script, 1 _law_state, 2 _law_turn, 3 _law_most, 4 _law_one, 5 _law_other, 6 _law_lacks, 7 _law_over, 8 _law_come, 9 _law_gone, 10 _law_due, 11 _law_mark -/

theorem ok_law (T : Txt K mg A) : FnOk P w K mg base CX0 4 A.f_law A.d_law ["_law_script"] (sp_law K) := by
  refine T.F_law.ok sc_law (fun vs H Q E h => by first | (obtain ⟨_, rfl, _⟩ := h; rfl) | (obtain ⟨_, _, rfl, _⟩ := h; rfl) | (obtain ⟨_, _, _, rfl, _⟩ := h; rfl) | (obtain ⟨_, _, _, _, rfl, _⟩ := h; rfl) | (obtain ⟨_, _, _, _, _, rfl, _⟩ := h; rfl) | (obtain ⟨_, _, _, _, _, _, rfl, _⟩ := h; rfl) | (obtain ⟨_, _, _, _, _, _, _, rfl, _⟩ := h; rfl)) (fun cdv AA outer s H vs Q E hr h => ?_)
  refine ⟨_, (pss_cons (ps_set (i := 1) sc_law.nd rfl (.inl rfl) (pe_call (ok__law_start T) (hr.mono (by decide)) (by rfl) T.g__law_start T.k__law_start T.b__law_start .nil pass0 (pa_cons (pv 0) pa_nil)))
      (pss_cons (ps_for PassesOwn.never rfl (pi_range1 (by rfl) T.z_range (pa_cons pe_int pa_nil)) (pg_name (i := 2) sc_law.nd rfl (.inl rfl))
        (pss_cons (ps_set (i := 3) sc_law.nd rfl (.inl rfl) (pe_ix ix_list (pe_lst (pa_cons pe_int (pa_cons pe_int pa_nil))) (pe_callTy call_int1 (by rfl) T.z_int (by decide +kernel) (pa_cons (pe_cmpR op_eq (pe_call (ok__law_drawn T) (hr.mono (by decide)) (by rfl) T.g__law_drawn T.k__law_drawn T.b__law_drawn .nil pass0 (pa_cons (pv 1) (pa_cons pe_int pa_nil))) pe_int (nomark _)) pa_nil)) (fun _ _ => rfl)))
        (pss_cons (ps_set (i := 4) sc_law.nd rfl (.inr rfl) (pe_call (ok__law_set T) (hr.mono (by decide)) (by rfl) T.g__law_set T.k__law_set T.b__law_set .nil pass0 (pa_cons (pv 1) (pa_cons (pv 3) pa_nil))))
        (pss_cons (ps_set (i := 5) sc_law.nd rfl (.inl rfl) (pe_ix ix_list (pe_lst (pa_cons (pe_call (ok__law_set T) (hr.mono (by decide)) (by rfl) T.g__law_set T.k__law_set T.b__law_set .nil pass0 (pa_cons (pv 1) (pa_cons (pv 3) pa_nil))) (pa_cons (pe_call (ok__law_changed T) (hr.mono (by decide)) (by rfl) T.g__law_changed T.k__law_changed T.b__law_changed .nil pass0 (pa_cons (pv 1) (pa_cons (pv 4) (pa_cons (pe_call (ok__law_drawn T) (hr.mono (by decide)) (by rfl) T.g__law_drawn T.k__law_drawn T.b__law_drawn .nil pass0 (pa_cons (pv 1) (pa_cons pe_int pa_nil))) pa_nil)))) pa_nil))) (pe_call (ok__law_drawn T) (hr.mono (by decide)) (by rfl) T.g__law_drawn T.k__law_drawn T.b__law_drawn .nil pass0 (pa_cons (pv 1) (pa_cons pe_int pa_nil))) (fun _ _ => rfl)))
        (pss_cons (ps_asg (pe_call (ok__law_apart T) (hr.mono (by decide)) (by rfl) T.g__law_apart T.k__law_apart T.b__law_apart .nil pass0 (pa_cons (pv 4) (pa_cons (pv 5) pa_nil))) (pg_tup rfl (pgs_cons (pg_name (i := 6) sc_law.nd rfl (.inl rfl)) (pgs_cons (pg_name (i := 7) sc_law.nd rfl (.inl rfl)) pgs_nil))))
        (pss_cons (ps_if (PW.pt (pw_or (pt_not (pt_val (pe_call (ok__law_same T 2) (hr.mono (by decide)) (by rfl) T.g__law_same T.k__law_same T.b__law_same .nil pass0 (pa_cons (pe_call (ok_apart T) (hr.mono (by decide)) (by rfl) T.g_apart T.k_apart T.b_apart .nil passL (pa_cons (pv 4) (pa_cons (pv 5) pa_nil))) (pa_cons (pe_tup (pa_cons (pv 6) (pa_cons (pv 7) pa_nil))) pa_nil))))) (pw_or1 (pt_not (pt_val (pe_call (ok__law_same T 2) (hr.mono (by decide)) (by rfl) T.g__law_same T.k__law_same T.b__law_same .nil pass0 (pa_cons (pe_call (ok_apart T) (hr.mono (by decide)) (by rfl) T.g_apart T.k_apart T.b_apart .nil passL (pa_cons (pv 5) (pa_cons (pv 4) pa_nil))) (pa_cons (pe_tup (pa_cons (pv 7) (pa_cons (pv 6) pa_nil))) pa_nil)))))))) (pss_one (ps_ret pe_bl)) pss_nil)
        (pss_cons (ps_if (PW.pt (pw_or (pt_not (pt_val (pe_call (ok__law_same T 2) (hr.mono (by decide)) (by rfl) T.g__law_same T.k__law_same T.b__law_same .nil pass0 (pa_cons (pe_call (ok_mended T) (hr.mono (by decide)) (by rfl) T.g_mended T.k_mended T.b_mended .nil passL (pa_cons (pv 4) (pa_cons (pv 6) (pa_cons (pv 7) pa_nil)))) (pa_cons (pv 5) pa_nil))))) (pw_or1 (pt_not (pt_val (pe_call (ok__law_same T 2) (hr.mono (by decide)) (by rfl) T.g__law_same T.k__law_same T.b__law_same .nil pass0 (pa_cons (pe_call (ok_mended T) (hr.mono (by decide)) (by rfl) T.g_mended T.k_mended T.b_mended .nil passL (pa_cons (pv 5) (pa_cons (pv 7) (pa_cons (pv 6) pa_nil)))) (pa_cons (pv 4) pa_nil)))))))) (pss_one (ps_ret pe_bl)) pss_nil)
        (pss_cons (ps_set (i := 8) sc_law.nd rfl (.inr rfl) (pe_call (ok__law_set T) (hr.mono (by decide)) (by rfl) T.g__law_set T.k__law_set T.b__law_set .nil pass0 (pa_cons (pv 1) (pa_cons pe_int pa_nil))))
        (pss_cons (ps_set (i := 9) sc_law.nd rfl (.inr rfl) (pe_ix ix_list (pe_lst (pa_cons (pe_call (ok__law_set T) (hr.mono (by decide)) (by rfl) T.g__law_set T.k__law_set T.b__law_set .nil pass0 (pa_cons (pv 1) (pa_cons pe_int pa_nil))) (pa_cons (My2.pe_step2 (pv 4)) pa_nil))) (pe_call (ok__law_drawn T) (hr.mono (by decide)) (by rfl) T.g__law_drawn T.k__law_drawn T.b__law_drawn .nil pass0 (pa_cons (pv 1) (pa_cons pe_int pa_nil))) (fun _ _ => rfl)))
        (pss_cons (ps_setLc (i := 10) (own := [("_law_mark", 11)]) (g := gName 11)  rfl sc_law.nd rfl rfl (sw_true rfl rfl rfl (by decide +kernel)) (pi_range2 (by rfl) T.z_range (pa_cons pe_int (pa_cons pe_int pa_nil))) (blkOk_by (own := [("_law_mark", 11)]) (N := ["_law_script", "_law_state", "_law_turn", "_law_most", "_law_one", "_law_other", "_law_lacks", "_law_over", "_law_come", "_law_gone", "_law_due", "_law_mark"]) (sc := defScope s_law) (by decide +kernel)) (fun _ _ _ _ _ => pg_name (i := 11) sc_law.nd rfl (Or.inl rfl)) (fun _ _ _ _ _ => (pts_one (PW.pt (pw_or (pt_cmpR (op_in_seqK (K := K) rfl) (pv 11) (pv 8) (by rfl)) (pw_or1 (PW.pt (pw_and (pt_cmpR (op_in_seqK (K := K) rfl) (pv 11) (pv 4) (by rfl)) (pw_and1 (pt_cmpR (op_notIn_seqK (K := K) rfl) (pv 11) (pv 9) (by rfl)))))))))) (fun _ _ _ _ _ => (pv 11)))
        (pss_one (ps_if (PW.pt (pw_or (pt_not (pt_val (pe_call (ok__law_same T 2) (hr.mono (by decide)) (by rfl) T.g__law_same T.k__law_same T.b__law_same .nil pass0 (pa_cons (pe_call (ok_mended T) (hr.mono (by decide)) (by rfl) T.g_mended T.k_mended T.b_mended .nil passL (pa_cons (pv 4) (pa_cons (pv 8) (pa_cons (pv 9) pa_nil)))) (pa_cons (pe_callTy call_tuple_of (by rfl) T.z_tuple (by decide +kernel) (pa_cons (pv 10) pa_nil)) pa_nil))))) (pw_or1 (pt_cmpR op_notBl (pe_call (ok_is_set T) (hr.mono (by decide)) (by rfl) T.g_is_set T.k_is_set T.b_is_set .nil pass0 (pa_cons (pv 4) pa_nil)) pe_bl (nomark _))))) (pss_one (ps_ret pe_bl)) pss_nil))))))))))))
      (pss_one (ps_ret (pe_and (pe_call (ok__law_same T 2) (hr.mono (by decide)) (by rfl) T.g__law_same T.k__law_same T.b__law_same .nil pass0 (pa_cons (pe_call (ok_apart T) (hr.mono (by decide)) (by rfl) T.g_apart T.k_apart T.b_apart .nil passL (pa_cons (pe_tup pa_nil) (pa_cons (pe_tup pa_nil) pa_nil))) (pa_cons (pe_tup (pa_cons (pe_tup pa_nil) (pa_cons (pe_tup pa_nil) pa_nil))) pa_nil))) (pe_one (pe_call (ok__law_same T 2) (hr.mono (by decide)) (by rfl) T.g__law_same T.k__law_same T.b__law_same .nil pass0 (pa_cons (pe_call (ok_mended T) (hr.mono (by decide)) (by rfl) T.g_mended T.k_mended T.b_mended .nil passL (pa_cons (pe_tup pa_nil) (pa_cons (pe_tup pa_nil) (pa_cons (pe_tup pa_nil) pa_nil)))) (pa_cons (pe_tup pa_nil) pa_nil))))))))), ?_⟩
  obtain ⟨a, ns, rfl, hS, hlen, q⟩ := h
  refine ⟨_, rfl, a, ns, rfl, hS, fun st H1 nst sm hSt => ?_⟩
  refine ⟨6, rfl, by decide, by decide, for_range (n := 6) (fun i σ H2 => ∃ w, σ = some (.ref a) :: some (.ref st) :: w ∧ w.length = 10 ∧ Go K st H1 H2) ⟨_, rfl, rfl, Go.refl _⟩ ?_ ?_⟩
  · rintro i σ H2 hi ⟨w, rfl, hw, g⟩
    obtain ⟨v2, v3, v4, v5, v6, v7, v8, v9, v10, v11, rfl⟩ : ∃ v2 v3 v4 v5 v6 v7 v8 v9 v10 v11, w = [v2, v3, v4, v5, v6, v7, v8, v9, v10, v11] := by
      match w, hw with
      | [v2, v3, v4, v5, v6, v7, v8, v9, v10, v11], _ => exact ⟨_, _, _, _, _, _, _, _, _, _, rfl⟩
    have S2 := g.st _ hSt
    refine ⟨by show 2 ≤ sizeLine; decide, fun l hl => ?_⟩
    refine ⟨_, rfl, a, st, 8, rfl, (Go.new hl).st _ S2, by decide, nat8000 (by decide) (by decide +kernel), fun v H3 _ _ g3 => ?_⟩
    have g3' := (Go.new hl).trans g3
    refine ⟨rfl, .inr ⟨_, rfl, ?_⟩⟩
    obtain ⟨n, hat, n1, n2⟩ := pickI (ns := [10, 96]) (lo := 10) (hi := 96) (v := if decide (V.int v = V.int 7) then 1 else 0) (by decide) (by split <;> decide) (by split <;> decide)
    refine ⟨l, _, _, _, rfl, rfl, SqL.of (g3.keep _ _ (S2.fresh hl) upd_same), hat, ?_⟩
    have S3 := g3'.st _ S2
    -- one
    refine ⟨_, rfl, _, rfl, a, st, n, rfl, S3, by omega, by omega, fun t1 xs H4 hx _ g4 _ h1 => ?_⟩
    have S4 := g4.st _ S3
    -- other
    refine ⟨_, rfl, _, rfl, a, st, n, rfl, S4, by omega, by omega, fun t2 ys H5 hy _ g5 _ h2 => ?_⟩
    have S5 := g5.st _ S4
    refine ⟨_, rfl, _, rfl, _, rfl, a, st, 7, rfl, S5, by decide, nat8000 (by decide) (by decide +kernel), fun m H6 m0 m1 g6 => ?_⟩
    have S6 := g6.st _ S5
    have h1' := g6.tup S5 (g5.tup S4 h1)
    refine ⟨a, st, t1, xs, m, rfl, S6, h1', hx, m0, by omega, fun t3 zs H7 hz g7 h3 => ?_⟩
    have S7 := g7.st _ S6
    refine ⟨by show 2 ≤ sizeLine; decide, fun l2 hl2 => ?_⟩
    have gl := Go.new (K := K) (st := st) (o := .lst [.ref t2, .ref t3]) hl2
    have S7' := gl.st _ S7
    refine ⟨_, rfl, a, st, 2, rfl, S7', by decide, nat8000 (by decide) (by decide +kernel), fun c H8 c0 c1 g8 => ?_⟩
    have S8 := g8.st _ S7'
    have hb2 := g8.tup S7' (gl.tup S7 (g7.tup S6 (g6.tup S5 h2)))
    have hb3 := g8.tup S7' (gl.tup S7 h3)
    have hb1 := g8.tup S7' (gl.tup S7 (g7.tup S6 h1'))
    obtain ⟨to, ws, hato, hto, hws⟩ : ∃ (to : Addr) (ws : List Int), atI [V.ref t2, V.ref t3] c = some (.ref to) ∧ H8 to = some (.tup (ws.map V.int)) ∧ SetL ws := by
      rcases (by omega : c = 0 ∨ c = 1) with rfl | rfl
      · exact ⟨t2, ys, rfl, hb2, hy⟩
      · exact ⟨t3, zs, rfl, hb3, hz⟩
    refine ⟨l2, _, _, _, rfl, rfl, SqL.of (g8.keep _ _ (S7.fresh hl2) upd_same), hato, ?_⟩
    have lx := hx.len
    have lw := hws.len
    have gA := (((((g.trans g3').trans g4).trans g5).trans g6).trans g7).trans (gl.trans g8)
    -- lacks, over
    refine ⟨_, rfl, _, rfl, t1, to, xs, ws, rfl, SqT.of hb1, SqT.of hto, by omega, by omega, fun p q1 q2 H9 s9 _ hp hq1 hq2 => ?_⟩
    refine ⟨p, [.ref q1, .ref q2], rfl, SqT.of hp, rfl, .ref q1, [.ref q2], rfl, .ref q2, [], rfl, rfl, ?_⟩
    have hd1 : (diffL ws xs).length ≤ 1000 := Nat.le_trans (List.length_filter_le _ _) (by omega)
    have hd2 : (diffL xs ws).length ≤ 1000 := Nat.le_trans (List.length_filter_le _ _) (by omega)
    have b1 := s9 _ _ hb1
    have bo := s9 _ _ hto
    -- apart(one, other)
    refine ⟨_, rfl, _, rfl, t1, to, xs, ws, rfl, SqT.of b1, SqT.of bo, fun z => z.elim (notset hx) (notset hws), fun _ _ r r1 r2 H10 s10 _ hr hr1 hr2 => ?_⟩
    refine ⟨_, rfl, _, rfl, by show 2 ≤ sizeLine; decide, fun u hu => ?_⟩
    have su := same_upd (o := .tup [.ref q1, .ref q2]) hu
    refine ⟨.ref r, .ref u, rfl, EqV.pair (su _ _ hr) upd_same (EqV.ints (su _ _ hr1) (su _ _ (s10 _ _ hq1)) hd1) (EqV.ints (su _ _ hr2) (su _ _ (s10 _ _ hq2)) hd2), fun H11 s11 => ⟨true, rfl, iteF ?_⟩⟩
    have sB := (s10.trans su).trans s11
    refine ⟨_, rfl, _, rfl, to, t1, ws, xs, rfl, SqT.of (sB _ _ bo), SqT.of (sB _ _ b1), fun z => z.elim (notset hws) (notset hx), fun _ _ r r1 r2 H12 s12 _ hr hr1 hr2 => ?_⟩
    refine ⟨_, rfl, _, rfl, by show 2 ≤ sizeLine; decide, fun u hu => ?_⟩
    have su := same_upd (o := .tup [.ref q2, .ref q1]) hu
    have sB12 := sB.trans s12
    refine ⟨.ref r, .ref u, rfl, EqV.pair (su _ _ hr) upd_same (EqV.ints (su _ _ hr1) (su _ _ (sB12 _ _ hq2)) hd2) (EqV.ints (su _ _ hr2) (su _ _ (sB12 _ _ hq1)) hd1), fun H13 s13 => ⟨true, rfl, iteF ?_⟩⟩
    have sC := (sB12.trans su).trans s13
    -- mended(one, lacks, over)
    refine ⟨_, rfl, _, rfl, _, rfl, t1, q1, q2, xs, diffL ws xs, diffL xs ws, rfl, SqT.of (sC _ _ b1), SqT.of (sC _ _ hq1), SqT.of (sC _ _ hq2), fun z => z.elim (notset hx) fun z => z.elim (notset (diffL_set hws)) (notset (diffL_set hx)), fun _ _ _ r H14 s14 _ hr => ?_⟩
    rw [mendL_diff hx hws] at hr
    refine ⟨_, rfl, .ref r, .ref to, rfl, EqV.ints hr (s14 _ _ (sC _ _ bo)) (by omega), fun H15 s15 => ⟨true, rfl, iteF ?_⟩⟩
    have sD := (sC.trans s14).trans s15
    refine ⟨_, rfl, _, rfl, _, rfl, to, q2, q1, ws, diffL xs ws, diffL ws xs, rfl, SqT.of (sD _ _ bo), SqT.of (sD _ _ hq2), SqT.of (sD _ _ hq1), fun z => z.elim (notset hws) fun z => z.elim (notset (diffL_set hx)) (notset (diffL_set hws)), fun _ _ _ r H16 s16 _ hr => ?_⟩
    rw [mendL_diff hws hx] at hr
    refine ⟨_, rfl, .ref r, .ref t1, rfl, EqV.ints hr (s16 _ _ (sD _ _ b1)) (by omega), fun H17 s17 => ⟨true, rfl, iteF ?_⟩⟩
    have sE := ((s9.trans sD).trans s16).trans s17
    have gE := gA.trans (Go.of sE)
    have SE := (Go.of sE).st _ S8
    have e1 := sE _ _ hb1
    -- come
    refine ⟨_, rfl, a, st, 10, rfl, SE, by decide, by decide, fun tc cs H18 hc _ g18 _ hcs => ?_⟩
    have S18 := g18.st _ SE
    have e18 := g18.tup SE e1
    -- gone
    refine ⟨_, rfl, a, st, 10, rfl, S18, by decide, by decide, fun tg gs H19 hg _ g19 _ hgs => ?_⟩
    have S19 := g19.st _ S18
    have e19 := g19.tup S18 e18
    have hcs19 := g19.tup S18 hcs
    refine ⟨_, rfl, t1, _, rfl, SqT.of e19, fun te he => ?_⟩
    rw [My2.ev_map]
    have ge := Go.new (K := K) (st := st) (o := .tup ((My2.ev xs (((xs.map V.int).length + 1) / 2)).map V.int)) he
    have S20 := ge.st _ S19
    refine ⟨by show 2 ≤ sizeLine; decide, fun l3 hl3 => ?_⟩
    have gl3 := Go.new (K := K) (st := st) (o := .lst [.ref tg, .ref te]) hl3
    have S21 := gl3.st _ S20
    refine ⟨_, rfl, a, st, 2, rfl, S21, by decide, nat8000 (by decide) (by decide +kernel), fun c H22 c0 c1 g22 => ?_⟩
    have gall := (ge.trans gl3).trans g22
    have hev : SetL (My2.ev xs (((xs.map V.int).length + 1) / 2)) := ⟨My2.ev_up hx.up _, fun z hz => hx.bd z (My2.ev_mem hz)⟩
    obtain ⟨tq, qs, hatq, htq, hqs⟩ : ∃ (to : Addr) (ws : List Int), atI [V.ref tg, V.ref te] c = some (.ref to) ∧ H22 to = some (.tup (ws.map V.int)) ∧ SetL ws := by
      rcases (by omega : c = 0 ∨ c = 1) with rfl | rfl
      · exact ⟨tg, gs, rfl, gall.tup S19 hgs, hg⟩
      · exact ⟨te, _, rfl, (gl3.trans g22).tup S20 upd_same, hev⟩
    refine ⟨l3, _, _, _, rfl, rfl, SqL.of (g22.keep _ _ (S20.fresh hl3) upd_same), hatq, ?_⟩
    have e22 := gall.tup S19 e19
    have hc22 := gall.tup S19 hcs19
    have g22' := gE.trans ((g18.trans g19).trans gall)
    -- due
    refine ⟨1, 97, rfl, ⟨by decide, by decide, by decide, by decide⟩, fun D hD => lc_pureR (lo := 1) (n := 96) (fun v => match v with | .int z => decide (z ∈ cs ∨ (z ∈ xs ∧ z ∉ qs)) | _ => false) (fun v => v) hD (by decide) (fun _ => rfl) ?_ (fun i hi _ H2 s2 Q' q' => ⟨_, rfl, q' H2 (Same.refl _)⟩) fun H23 s23 hd => ?_⟩
    · intro i hi H2 s2 Q' q'
      refine ⟨_, rfl, _, rfl, in_turn (SqT.of (s2 _ _ hc22)) ⟨_, rfl, ite2 (fun c => ?_) (fun c => ?_)⟩⟩
      · have c' := of_decide_eq_true c
        have e : decide ((1 + (i : Int)) ∈ cs ∨ ((1 + (i : Int)) ∈ xs ∧ (1 + (i : Int)) ∉ qs)) = true := decide_eq_true (.inl c')
        have this : Q' (decide ((1 + (i : Int)) ∈ cs ∨ ((1 + (i : Int)) ∈ xs ∧ (1 + (i : Int)) ∉ qs))) H2 := q' H2 (Same.refl _)
        rwa [e] at this
      · have c' : (1 + (i : Int)) ∉ cs := fun w => c (decide_eq_true w)
        refine ⟨_, rfl, _, rfl, in_turn (SqT.of (s2 _ _ e22)) ⟨_, rfl, ite2 (fun c2 => ?_) (fun c2 => ?_)⟩⟩
        · have c2' := of_decide_eq_true c2
          refine ⟨_, rfl, _, rfl, notin_turn (SqT.of (s2 _ _ htq)) ⟨_, rfl, ?_⟩⟩
          have e : decide ((1 + (i : Int)) ∈ cs ∨ ((1 + (i : Int)) ∈ xs ∧ (1 + (i : Int)) ∉ qs)) = decide ((1 + (i : Int)) ∉ qs) := decide_eq_decide.mpr ⟨fun h => h.elim (fun h => absurd h c') fun h => h.2, fun h => .inr ⟨c2', h⟩⟩
          rw [← e]
          exact q' H2 (Same.refl _)
        · have c2' : (1 + (i : Int)) ∉ xs := fun w => c2 (decide_eq_true w)
          have e : decide ((1 + (i : Int)) ∈ cs ∨ ((1 + (i : Int)) ∈ xs ∧ (1 + (i : Int)) ∉ qs)) = false := decide_eq_false fun h => h.elim c' fun h => c2' h.1
          have this : Q' (decide ((1 + (i : Int)) ∈ cs ∨ ((1 + (i : Int)) ∈ xs ∧ (1 + (i : Int)) ∉ qs))) H2 := q' H2 (Same.refl _)
          rwa [e] at this
    rw [rgL_ints, int_filter (g := fun z => decide (z ∈ cs ∨ (z ∈ xs ∧ z ∉ qs))) (fun _ _ => rfl)] at hd
    have emd : (((List.range 96).map fun i : Nat => 1 + (i : Int)).filter fun z => decide (z ∈ cs ∨ (z ∈ xs ∧ z ∉ qs))) = mendL xs cs qs := rfl
    rw [emd] at hd
    refine ⟨_, rfl, _, rfl, _, rfl, t1, tc, tq, xs, cs, qs, rfl, SqT.of (s23 _ _ e22), SqT.of (s23 _ _ hc22), SqT.of (s23 _ _ htq), fun z => z.elim (notset hx) fun z => z.elim (notset hc) (notset hqs), fun _ _ _ r H24 s24 _ hr => ?_⟩
    refine ⟨_, rfl, D, _, rfl, .inl ⟨SqL.of (s24 _ _ hd), fun u hu => ?_⟩⟩
    refine ⟨.ref r, .ref u, rfl, EqV.ints ((same_upd hu) _ _ hr) upd_same (Nat.le_trans (mendL_set xs cs qs).len (by decide)), fun H25 s25 => ⟨true, rfl, iteF ?_⟩⟩
    have sF := (s23.trans s24).trans ((same_upd hu).trans s25)
    refine ⟨_, rfl, t1, xs, rfl, SqT.of (sF _ _ e22), ?_⟩
    rw [isSetB_iff.mpr hx]
    refine ⟨true, true, rfl, rfl, _, rfl, iteF ?_⟩
    exact ⟨_, rfl, rfl, g22'.trans (Go.of sF)⟩
  · rintro σ H2 ⟨w, rfl, hw, g⟩
    refine ⟨by show 0 ≤ sizeLine; decide, fun x1 hx1 => ?_⟩
    refine ⟨by show 0 ≤ sizeLine; decide, fun x2 hx2 => ?_⟩
    have nx : SetL [] := SetL.nil
    refine ⟨x1, x2, [], [], rfl, SqT.of ((same_upd hx2) _ _ upd_same), SqT.of upd_same, fun z => z.elim (notset nx) (notset nx), fun _ _ r r1 r2 H10 s10 _ hr hr1 hr2 => ?_⟩
    refine ⟨by show 0 ≤ sizeLine; decide, fun y1 hy1 => ?_⟩
    refine ⟨by show 0 ≤ sizeLine; decide, fun y2 hy2 => ?_⟩
    refine ⟨by show 2 ≤ sizeLine; decide, fun u hu => ?_⟩
    have s1 := same_upd (o := .tup []) hy1
    have s2 := same_upd (o := .tup []) hy2
    have s3 := same_upd (o := .tup [.ref y1, .ref y2]) hu
    have s4 := (s1.trans s2).trans s3
    refine ⟨.ref r, .ref u, rfl, EqV.pair (s4 _ _ hr) upd_same (EqV.ints (ns := []) (s4 _ _ hr1) (s3 _ _ (s2 _ _ upd_same)) (Nat.zero_le _)) (EqV.ints (ns := []) (s4 _ _ hr2) (s3 _ _ upd_same) (Nat.zero_le _)), fun H11 s11 => ⟨true, rfl, iteT ?_⟩⟩
    refine ⟨by show 0 ≤ sizeLine; decide, fun z1 hz1 => ?_⟩
    refine ⟨by show 0 ≤ sizeLine; decide, fun z2 hz2 => ?_⟩
    refine ⟨by show 0 ≤ sizeLine; decide, fun z3 hz3 => ?_⟩
    have r2 := same_upd (o := .tup []) hz2
    have r3 := same_upd (o := .tup []) hz3
    refine ⟨z1, z2, z3, [], [], [], rfl, SqT.of (r3 _ _ (r2 _ _ upd_same)), SqT.of (r3 _ _ upd_same), SqT.of upd_same, fun z => z.elim (notset nx) fun z => z.elim (notset nx) (notset nx), fun _ _ _ r H16 s16 _ hr => ?_⟩
    have en : mendL [] [] [] = [] := List.filter_eq_nil_iff.mpr fun z _ h => by
      have := of_decide_eq_true h
      rcases this with h | h
      · cases h
      · cases h.1
    rw [en] at hr
    refine ⟨by show 0 ≤ sizeLine; decide, fun y hy => ?_⟩
    exact ⟨.ref r, .ref y, rfl, EqV.ints (ns := []) ((same_upd hy) _ _ hr) upd_same (Nat.zero_le _), fun H17 _ => q H17⟩
end
theorem all_mk {l : PySem.W.OpenLaw} {w : World} {K : PySem.W.Frag} {h : Heap} {mg : Str → Option Value} {fa : Addr} (X : K.In h) (G : h.Ns mainGlobals mg) (hfa : mg "law" = some (.ref fa))
    {f0 : Addr} {od0 an0 : Option Addr} {sl0 : Array (Option Value)} {oc0 kV0 dc0 pm0 cd0 ct0 : Value} {f1 : Addr} {od1 an1 : Option Addr} {sl1 : Array (Option Value)} {oc1 kV1 dc1 pm1 cd1 ct1 : Value} {f2 : Addr} {od2 an2 : Option Addr} {sl2 : Array (Option Value)} {oc2 kV2 dc2 pm2 cd2 ct2 : Value} {f3 : Addr} {od3 an3 : Option Addr} {sl3 : Array (Option Value)} {oc3 kV3 dc3 pm3 cd3 ct3 : Value} {f4 : Addr} {od4 an4 : Option Addr} {sl4 : Array (Option Value)} {oc4 kV4 dc4 pm4 cd4 ct4 : Value} {f5 : Addr} {od5 an5 : Option Addr} {sl5 : Array (Option Value)} {oc5 kV5 dc5 pm5 cd5 ct5 : Value} {f6 : Addr} {od6 an6 : Option Addr} {sl6 : Array (Option Value)} {oc6 kV6 dc6 pm6 cd6 ct6 : Value} {f7 : Addr} {od7 an7 : Option Addr} {sl7 : Array (Option Value)} {oc7 kV7 dc7 pm7 cd7 ct7 : Value} {f8 : Addr} {od8 an8 : Option Addr} {sl8 : Array (Option Value)} {oc8 kV8 dc8 pm8 cd8 ct8 : Value} {f9 : Addr} {od9 an9 : Option Addr} {sl9 : Array (Option Value)} {oc9 kV9 dc9 pm9 cd9 ct9 : Value} {f10 : Addr} {od10 an10 : Option Addr} {sl10 : Array (Option Value)} {oc10 kV10 dc10 pm10 cd10 ct10 : Value} {f11 : Addr} {od11 an11 : Option Addr} {sl11 : Array (Option Value)} {oc11 kV11 dc11 pm11 cd11 ct11 : Value} {f12 : Addr} {od12 an12 : Option Addr} {sl12 : Array (Option Value)} {oc12 kV12 dc12 pm12 cd12 ct12 : Value} {eNoSet : Addr} {tLAST_MARK : Nat}
    (a0 : PySem.W.nsIn K mainGlobals "is_set" = some (some (.ref f0)))
    (l0 : K.lookup f0 = some ⟨oc0, od0, .func (PySem.W.fnOf "is_set" "is_set" (defArgs s_is_set) (defBody s_is_set) (defScope s_is_set) .none kV0 dc0 pm0 an0 cd0 ct0), sl0⟩)
    (c0 : PySem.W.codeIn K cd0 "is_set" = true)
    (k0 : PySem.W.keepIn K (.ref f0) = true)
    (a1 : PySem.W.nsIn K mainGlobals "refuse_unless_set" = some (some (.ref f1)))
    (l1 : K.lookup f1 = some ⟨oc1, od1, .func (PySem.W.fnOf "refuse_unless_set" "refuse_unless_set" (defArgs s_refuse_unless_set) (defBody s_refuse_unless_set) (defScope s_refuse_unless_set) .none kV1 dc1 pm1 an1 cd1 ct1), sl1⟩)
    (c1 : PySem.W.codeIn K cd1 "refuse_unless_set" = true)
    (k1 : PySem.W.keepIn K (.ref f1) = true)
    (a2 : PySem.W.nsIn K mainGlobals "without" = some (some (.ref f2)))
    (l2 : K.lookup f2 = some ⟨oc2, od2, .func (PySem.W.fnOf "without" "without" (defArgs s_without) (defBody s_without) (defScope s_without) .none kV2 dc2 pm2 an2 cd2 ct2), sl2⟩)
    (c2 : PySem.W.codeIn K cd2 "without" = true)
    (k2 : PySem.W.keepIn K (.ref f2) = true)
    (a3 : PySem.W.nsIn K mainGlobals "apart" = some (some (.ref f3)))
    (l3 : K.lookup f3 = some ⟨oc3, od3, .func (PySem.W.fnOf "apart" "apart" (defArgs s_apart) (defBody s_apart) (defScope s_apart) .none kV3 dc3 pm3 an3 cd3 ct3), sl3⟩)
    (c3 : PySem.W.codeIn K cd3 "apart" = true)
    (k3 : PySem.W.keepIn K (.ref f3) = true)
    (a4 : PySem.W.nsIn K mainGlobals "mended" = some (some (.ref f4)))
    (l4 : K.lookup f4 = some ⟨oc4, od4, .func (PySem.W.fnOf "mended" "mended" (defArgs s_mended) (defBody s_mended) (defScope s_mended) .none kV4 dc4 pm4 an4 cd4 ct4), sl4⟩)
    (c4 : PySem.W.codeIn K cd4 "mended" = true)
    (k4 : PySem.W.keepIn K (.ref f4) = true)
    (a5 : PySem.W.nsIn K mainGlobals "_law_start" = some (some (.ref f5)))
    (l5 : K.lookup f5 = some ⟨oc5, od5, .func (PySem.W.fnOf "_law_start" "_law_start" (defArgs s__law_start) (defBody s__law_start) (defScope s__law_start) .none kV5 dc5 pm5 an5 cd5 ct5), sl5⟩)
    (c5 : PySem.W.codeIn K cd5 "_law_start" = true)
    (k5 : PySem.W.keepIn K (.ref f5) = true)
    (a6 : PySem.W.nsIn K mainGlobals "_law_drawn" = some (some (.ref f6)))
    (l6 : K.lookup f6 = some ⟨oc6, od6, .func (PySem.W.fnOf "_law_drawn" "_law_drawn" (defArgs s__law_drawn) (defBody s__law_drawn) (defScope s__law_drawn) .none kV6 dc6 pm6 an6 cd6 ct6), sl6⟩)
    (c6 : PySem.W.codeIn K cd6 "_law_drawn" = true)
    (k6 : PySem.W.keepIn K (.ref f6) = true)
    (a7 : PySem.W.nsIn K mainGlobals "_law_set" = some (some (.ref f7)))
    (l7 : K.lookup f7 = some ⟨oc7, od7, .func (PySem.W.fnOf "_law_set" "_law_set" (defArgs s__law_set) (defBody s__law_set) (defScope s__law_set) .none kV7 dc7 pm7 an7 cd7 ct7), sl7⟩)
    (c7 : PySem.W.codeIn K cd7 "_law_set" = true)
    (k7 : PySem.W.keepIn K (.ref f7) = true)
    (a8 : PySem.W.nsIn K mainGlobals "_law_turned" = some (some (.ref f8)))
    (l8 : K.lookup f8 = some ⟨oc8, od8, .func (PySem.W.fnOf "_law_turned" "_law_turned" (defArgs s__law_turned) (defBody s__law_turned) (defScope s__law_turned) .none kV8 dc8 pm8 an8 cd8 ct8), sl8⟩)
    (c8 : PySem.W.codeIn K cd8 "_law_turned" = true)
    (k8 : PySem.W.keepIn K (.ref f8) = true)
    (a9 : PySem.W.nsIn K mainGlobals "_law_changed" = some (some (.ref f9)))
    (l9 : K.lookup f9 = some ⟨oc9, od9, .func (PySem.W.fnOf "_law_changed" "_law_changed" (defArgs s__law_changed) (defBody s__law_changed) (defScope s__law_changed) .none kV9 dc9 pm9 an9 cd9 ct9), sl9⟩)
    (c9 : PySem.W.codeIn K cd9 "_law_changed" = true)
    (k9 : PySem.W.keepIn K (.ref f9) = true)
    (a10 : PySem.W.nsIn K mainGlobals "_law_apart" = some (some (.ref f10)))
    (l10 : K.lookup f10 = some ⟨oc10, od10, .func (PySem.W.fnOf "_law_apart" "_law_apart" (defArgs s__law_apart) (defBody s__law_apart) (defScope s__law_apart) .none kV10 dc10 pm10 an10 cd10 ct10), sl10⟩)
    (c10 : PySem.W.codeIn K cd10 "_law_apart" = true)
    (k10 : PySem.W.keepIn K (.ref f10) = true)
    (a11 : PySem.W.nsIn K mainGlobals "_law_same" = some (some (.ref f11)))
    (l11 : K.lookup f11 = some ⟨oc11, od11, .func (PySem.W.fnOf "_law_same" "_law_same" (defArgs s__law_same) (defBody s__law_same) (defScope s__law_same) .none kV11 dc11 pm11 an11 cd11 ct11), sl11⟩)
    (c11 : PySem.W.codeIn K cd11 "_law_same" = true)
    (k11 : PySem.W.keepIn K (.ref f11) = true)
    (a12 : PySem.W.nsIn K mainGlobals "law" = some (some (.ref f12)))
    (l12 : K.lookup f12 = some ⟨oc12, od12, .func (PySem.W.fnOf "law" "law" (defArgs s_law) (defBody s_law) (defScope s_law) .none kV12 dc12 pm12 an12 cd12 ct12), sl12⟩)
    (c12 : PySem.W.codeIn K cd12 "law" = true)
    (k12 : PySem.W.keepIn K (.ref f12) = true)
    (gNoSet : PySem.W.nsIn K mainGlobals "NoSet" = some (some (.ref eNoSet)))
    (xNoSet : PySem.W.excIn K eNoSet [.type "ValueError", .type "Exception", .type "BaseException", .type "object"] "ValueError.__new__" = true)
    (kkNoSet : PySem.W.keepIn K (.ref eNoSet) = true)
    (bbNoSet : PySem.W.subIn K (.ref eNoSet) (.type "BaseException") = some true)
    (ttNoSet : PySem.W.typeIn K (.ref eNoSet) = some (.type "type"))
    (vLAST_MARK : PySem.W.nsIn K mainGlobals "LAST_MARK" = some (some (.int 96 tLAST_MARK)))
    (zbool : PySem.W.nsIn K mainGlobals "bool" = some none)
    (zint : PySem.W.nsIn K mainGlobals "int" = some none)
    (zisinstance : PySem.W.nsIn K mainGlobals "isinstance" = some none)
    (zlen : PySem.W.nsIn K mainGlobals "len" = some none)
    (zrange : PySem.W.nsIn K mainGlobals "range" = some none)
    (zset : PySem.W.nsIn K mainGlobals "set" = some none)
    (zsorted : PySem.W.nsIn K mainGlobals "sorted" = some none)
    (zstr : PySem.W.nsIn K mainGlobals "str" = some none)
    (ztuple : PySem.W.nsIn K mainGlobals "tuple" = some none) :
    ∃ fd : FuncData, (∀ (s : Shared) (v : Value), BindsTo s fd ⟨[v], []⟩ [("_law_script", v)]) ∧ ∀ base : Heap, K.In base → base.Ns mainGlobals mg → FnOk l.prog w K mg base CX0 4 fa fd ["_law_script"] (sp_law K) := by
  have e := hfa.symm.trans (PySem.W.mg_of X G a12)
  cases e
  have F0 := fun_mk (st := s_is_set) l0 c0 k0
  have b0 := F0.binds (ps := ["marks"]) fun _ _ _ _ _ _ us hl => match us, hl with | [_], _ => rfl
  have F1 := fun_mk (st := s_refuse_unless_set) l1 c1 k1
  have b1 := F1.binds (ps := ["marks"]) fun _ _ _ _ _ _ us hl => match us, hl with | [_], _ => rfl
  have F2 := fun_mk (st := s_without) l2 c2 k2
  have b2 := F2.binds (ps := ["marks", "others"]) fun _ _ _ _ _ _ us hl => match us, hl with | [_, _], _ => rfl
  have F3 := fun_mk (st := s_apart) l3 c3 k3
  have b3 := F3.binds (ps := ["one", "other"]) fun _ _ _ _ _ _ us hl => match us, hl with | [_, _], _ => rfl
  have F4 := fun_mk (st := s_mended) l4 c4 k4
  have b4 := F4.binds (ps := ["own", "lacks", "over"]) fun _ _ _ _ _ _ us hl => match us, hl with | [_, _, _], _ => rfl
  have F5 := fun_mk (st := s__law_start) l5 c5 k5
  have b5 := F5.binds (ps := ["_law_script"]) fun _ _ _ _ _ _ us hl => match us, hl with | [_], _ => rfl
  have F6 := fun_mk (st := s__law_drawn) l6 c6 k6
  have b6 := F6.binds (ps := ["_law_state", "_law_many"]) fun _ _ _ _ _ _ us hl => match us, hl with | [_, _], _ => rfl
  have F7 := fun_mk (st := s__law_set) l7 c7 k7
  have b7 := F7.binds (ps := ["_law_state", "_law_most"]) fun _ _ _ _ _ _ us hl => match us, hl with | [_, _], _ => rfl
  have F8 := fun_mk (st := s__law_turned) l8 c8 k8
  have b8 := F8.binds (ps := ["_law_marks", "_law_mark"]) fun _ _ _ _ _ _ us hl => match us, hl with | [_, _], _ => rfl
  have F9 := fun_mk (st := s__law_changed) l9 c9 k9
  have b9 := F9.binds (ps := ["_law_state", "_law_marks", "_law_many"]) fun _ _ _ _ _ _ us hl => match us, hl with | [_, _, _], _ => rfl
  have F10 := fun_mk (st := s__law_apart) l10 c10 k10
  have b10 := F10.binds (ps := ["_law_one", "_law_other"]) fun _ _ _ _ _ _ us hl => match us, hl with | [_, _], _ => rfl
  have F11 := fun_mk (st := s__law_same) l11 c11 k11
  have b11 := F11.binds (ps := ["_law_found", "_law_due"]) fun _ _ _ _ _ _ us hl => match us, hl with | [_, _], _ => rfl
  have F12 := fun_mk (st := s_law) l12 c12 k12
  have b12 := F12.binds (ps := ["_law_script"]) fun _ _ _ _ _ _ us hl => match us, hl with | [_], _ => rfl
  have T : Txt K mg (⟨f0, _, f1, _, f2, _, f3, _, f4, _, f5, _, f6, _, f7, _, f8, _, f9, _, f10, _, f11, _, fa, _, eNoSet, tLAST_MARK⟩ : Ad) := ⟨F0, k0, PySem.W.mg_of X G a0, b0, F1, k1, PySem.W.mg_of X G a1, b1, F2, k2, PySem.W.mg_of X G a2, b2, F3, k3, PySem.W.mg_of X G a3, b3, F4, k4, PySem.W.mg_of X G a4, b4, F5, k5, PySem.W.mg_of X G a5, b5, F6, k6, PySem.W.mg_of X G a6, b6, F7, k7, PySem.W.mg_of X G a7, b7, F8, k8, PySem.W.mg_of X G a8, b8, F9, k9, PySem.W.mg_of X G a9, b9, F10, k10, PySem.W.mg_of X G a10, b10, F11, k11, PySem.W.mg_of X G a11, b11, F12, k12, PySem.W.mg_of X G a12, b12, PySem.W.mg_of X G vLAST_MARK, PySem.W.mg_none_of X G zbool, PySem.W.mg_none_of X G zint, PySem.W.mg_none_of X G zisinstance, PySem.W.mg_none_of X G zlen, PySem.W.mg_none_of X G zrange, PySem.W.mg_none_of X G zset, PySem.W.mg_none_of X G zsorted, PySem.W.mg_none_of X G zstr, PySem.W.mg_none_of X G ztuple, PySem.W.mg_of X G gNoSet, xNoSet, kkNoSet, bbNoSet, ttNoSet⟩
  exact ⟨PySem.W.fnOf "law" "law" (defArgs s_law) (defBody s_law) (defScope s_law) .none kV12 dc12 pm12 an12 cd12 ct12, fun s v => .of_eq rfl, fun base _ _ => ok_law T⟩
end My
open PySem PySem.W PyProof.Rows
set_option maxHeartbeats 0 in
theorem PySem.Challenge.cw_setmend_k05_apart_and_mended_holds : PySem.Challenge.rw_setmend_k05_apart_and_mended.Holds := by
  w_on; o_law; k_head; (case hw => w_witness2)
  k_fill
  refine L2.walk_ofB (l := PySem.Challenge.rw_setmend_k05_apart_and_mended) (n := 63) (k := 4) (x := "_law_script") (CX := fun _ => L2.CX0) (sp := fun w => My.sp_law _) rfl (by decide) rfl ⟨rfl, by decide, by decide⟩ (fun w h Y => PySem.W.kIn_of Y) ?F (fun _ H a ns hl hb hO hS => ⟨a, ns, rfl, hS, hl, fun _ => rfl⟩) (fun _ _ _ _ _ h => h)
  case F =>
    intro w mg fa h KX G hmg
    refine' My.all_mk KX G hmg ?a0 ?l0 ?c0 ?k0 ?a1 ?l1 ?c1 ?k1 ?a2 ?l2 ?c2 ?k2 ?a3 ?l3 ?c3 ?k3 ?a4 ?l4 ?c4 ?k4 ?a5 ?l5 ?c5 ?k5 ?a6 ?l6 ?c6 ?k6 ?a7 ?l7 ?c7 ?k7 ?a8 ?l8 ?c8 ?k8 ?a9 ?l9 ?c9 ?k9 ?a10 ?l10 ?c10 ?k10 ?a11 ?l11 ?c11 ?k11 ?a12 ?l12 ?c12 ?k12 ?gNoSet ?xNoSet ?kkNoSet ?bbNoSet ?ttNoSet ?vLAST_MARK ?zbool ?zint ?zisinstance ?zlen ?zrange ?zset ?zsorted ?zstr ?ztuple
    (case a0 => first | k_is | (first | rfl | k_is)); (case l0 => first | k_is | (first | rfl | k_is)); (case c0 => first | k_is | (first | rfl | k_is)); (case k0 => first | k_is | (first | rfl | k_is)); (case a1 => first | k_is | (first | rfl | k_is)); (case l1 => first | k_is | (first | rfl | k_is)); (case c1 => first | k_is | (first | rfl | k_is)); (case k1 => first | k_is | (first | rfl | k_is)); (case a2 => first | k_is | (first | rfl | k_is)); (case l2 => first | k_is | (first | rfl | k_is)); (case c2 => first | k_is | (first | rfl | k_is)); (case k2 => first | k_is | (first | rfl | k_is)); (case a3 => first | k_is | (first | rfl | k_is)); (case l3 => first | k_is | (first | rfl | k_is)); (case c3 => first | k_is | (first | rfl | k_is)); (case k3 => first | k_is | (first | rfl | k_is)); (case a4 => first | k_is | (first | rfl | k_is)); (case l4 => first | k_is | (first | rfl | k_is)); (case c4 => first | k_is | (first | rfl | k_is)); (case k4 => first | k_is | (first | rfl | k_is)); (case a5 => first | k_is | (first | rfl | k_is)); (case l5 => first | k_is | (first | rfl | k_is)); (case c5 => first | k_is | (first | rfl | k_is)); (case k5 => first | k_is | (first | rfl | k_is)); (case a6 => first | k_is | (first | rfl | k_is)); (case l6 => first | k_is | (first | rfl | k_is)); (case c6 => first | k_is | (first | rfl | k_is)); (case k6 => first | k_is | (first | rfl | k_is)); (case a7 => first | k_is | (first | rfl | k_is)); (case l7 => first | k_is | (first | rfl | k_is)); (case c7 => first | k_is | (first | rfl | k_is)); (case k7 => first | k_is | (first | rfl | k_is)); (case a8 => first | k_is | (first | rfl | k_is)); (case l8 => first | k_is | (first | rfl | k_is)); (case c8 => first | k_is | (first | rfl | k_is)); (case k8 => first | k_is | (first | rfl | k_is)); (case a9 => first | k_is | (first | rfl | k_is)); (case l9 => first | k_is | (first | rfl | k_is)); (case c9 => first | k_is | (first | rfl | k_is)); (case k9 => first | k_is | (first | rfl | k_is)); (case a10 => first | k_is | (first | rfl | k_is)); (case l10 => first | k_is | (first | rfl | k_is)); (case c10 => first | k_is | (first | rfl | k_is)); (case k10 => first | k_is | (first | rfl | k_is)); (case a11 => first | k_is | (first | rfl | k_is)); (case l11 => first | k_is | (first | rfl | k_is)); (case c11 => first | k_is | (first | rfl | k_is)); (case k11 => first | k_is | (first | rfl | k_is)); (case a12 => first | k_is | (first | rfl | k_is)); (case l12 => first | k_is | (first | rfl | k_is)); (case c12 => first | k_is | (first | rfl | k_is)); (case k12 => first | k_is | (first | rfl | k_is)); (case gNoSet => first | k_is | (first | rfl | k_is)); (case xNoSet => k_exc); (case kkNoSet => first | k_is | (first | rfl | k_is)); (case bbNoSet => first | k_is | (first | rfl | k_is)); (case ttNoSet => first | k_is | (first | rfl | k_is)); (case vLAST_MARK => first | k_is | (first | rfl | k_is)); (case zbool => first | k_is | (first | rfl | k_is)); (case zint => first | k_is | (first | rfl | k_is)); (case zisinstance => first | k_is | (first | rfl | k_is)); (case zlen => first | k_is | (first | rfl | k_is)); (case zrange => first | k_is | (first | rfl | k_is)); (case zset => first | k_is | (first | rfl | k_is)); (case zsorted => first | k_is | (first | rfl | k_is)); (case zstr => first | k_is | (first | rfl | k_is)); (case ztuple => first | k_is | (first | rfl | k_is))
