import PyProof.Rows.All
import Wide.All
import OpenK.AllK
import Wide.FinOn
import PyProof.EqAt
import PyProof.EqKinds
import PyProof.TupleCall
import HandS.ForMost
import HandS.Wide
import HandS.EndBits
import HandS.IsInst
import HandS.TupAny
import HandS.Exc
import HandS.TryOnly
import HandS.ExcOwn
import HandS.WordsExc
import HandS.Strs
import HandS.SetFor
import HandS.SortInts
import HandS.TupMul
import HandS.More
import HandS.Star
import HandS.Rev
import HandS.Conv
import HandS.Style
import HandS.Evl
import HandS.Walk
import HandS.Zip
import KE.GoesEnum
import HandS.ExcIs
import HandS.Lambda
import HandS.EndTab
import HandS.DictComp
import HandS.DictEq
import PySem.Challenge.RW_setmend_k18_deeds_of_hands
set_option Elab.async false
set_option linter.all false
set_option maxRecDepth 100000
set_option maxHeartbeats 4000000
namespace MyS
open PySem PySem.Spec PyProof.Rows L2 Srt
section
variable {prog : Program} {w : World} {A : Around} {E : Value → Shared → Prop} {s : Shared}
/-- sorted(x) where collecting x hands out ints -/
theorem sorted_gen {a : Addr} {J : Shared → Prop} {C : List Value → Prop} {D : List Int → Prop} {Q : Value → Shared → Prop}
    (hcol : ∀ Q' : List Value → Shared → Prop, (∀ s1 vs, J s1 → C vs → Q' vs s1) → wpAny (model prog w) A.in1 (collect (.ref a)) Q' E s)
    (hC : ∀ vs, C vs → ∃ ns, IntsAre vs ns ∧ vs.length ≤ sizeLine ∧ D ns)
    (hQ : ∀ (s1 s' : Shared) (p : Addr) (out : List Value) (c : Nat) (ns ns' : List Int), J s1 → (∀ b o, s1.heap.get? b = some o → s'.heap.get? b = some o) → s'.gens = s1.gens → s'.os = s1.os → s1.heap.objs.size ≤ p → s'.heap.get? p = some (seqObj "list" out.toArray c) →
      IntsAre out ns' → ns'.Perm ns → ns'.Pairwise (· ≤ ·) → D ns → Q (.ref p) s') :
    wpAny (model prog w) A (call (.builtin "sorted") [.ref a]) Q E s := by
  refine Calls.call_function_entry kind_sorted plain_sorted entry_sorted (args_sorted1 _) ?_
  unfold Builtin.«sorted»
  refine wpAny_bind (m := checkCount "sorted" 1 1 _) (wpAny_pure (wpAny_bind (hcol _ fun s1 vs j1 hc => ?_)))
  obtain ⟨ns, hI, hlen, hD⟩ := hC vs hc
  refine wpAny_bind (wpAny_newList ?_ hlen)
  have h0 : (s1.heap.push (seqObj "list" vs.toArray 0)).get? s1.heap.objs.size = some (seqObj "list" vs.toArray 0) := Heap.get?_push_size _ rfl
  refine wpAny_bind (wpAny_holding (wpAny_call_entry slot_list_sort ⟨_, h0, rfl⟩ entry_list_sort (SrtO.list_sort_ord SrtO.swo_int h0 hlen (fun h2 => SrtO.ints_sortable hI h2) fun out hs hb => ⟨_, rfl, ?_⟩) (args_list_sort _)))
  obtain ⟨c, hcell⟩ := sortedHeap_at (vs := vs) (out := out.toArray) h0
  obtain ⟨i1, i2, i3⟩ := SrtO.ints_out hI hs hb
  refine wpAny_pure ⟨_, rfl, hQ s1 _ _ out c ns _ j1 (fun b u e => ?_) rfl rfl (Nat.le_refl _) hcell i1 i2 i3 hD⟩
  have lt1 := Heap.lt_size e
  show (sortedHeap (s1.heap.push (seqObj "list" vs.toArray 0)) s1.heap.objs.size vs out.toArray).get? b = some u
  rw [sortedHeap_old (Nat.ne_of_lt lt1) (by rw [size_push']; exact Nat.lt_succ_of_lt lt1)]
  exact Heap.get?_push_of_some _ e
end
theorem lt_nd : ∀ l : List Int, l.Pairwise (· ≤ ·) → l.Nodup → l.Pairwise (· < ·)
  | [], _, _ => .nil
  | x :: r, h, n => by
    have h' := List.pairwise_cons.mp h
    have n' := List.nodup_cons.mp n
    exact .cons (fun y hy => Int.lt_iff_le_and_ne.mpr ⟨h'.1 y hy, fun e => n'.1 (e ▸ hy)⟩) (lt_nd r h'.2 n'.2)
end MyS
namespace MyS
open PySem PySem.Spec PyProof.Rows L2
section
variable {P : Program} {w : World} {A : Around} {E : Value → Shared → Prop} {s : Shared}
/-- the set that set(..) begins with -/
def set0 (w : World) : Obj := { cls := .type "set", dict := none, data := .set #[] 0 (.fresh 0 0 (!w.params.followText "set-order")) }
set_option maxHeartbeats 3200000 in
theorem set_of_list {l : Addr} {items : Array Value} (ns : List Int) {Q : Value → Shared → Prop} (hh : A.handled = none) (hl : s.heap.IsList l items) (hit : IntsAre items.toList ns) (hb : ns.length + 1 < scanBound)
    (h : ∀ (h' : Heap) (tk c : Nat), SetR w h' s.heap.objs.size (fun j => decide (j ∈ ns)) c → c ≤ ns.length → (∀ b o, s.heap.get? b = some o → h'.get? b = some o) → Q (.ref s.heap.objs.size) { s with heap := h', toks := tk }) :
    wpAny (model P w) A (call (.type "set") [.ref l]) Q E s := by
  have hn : items.size = ns.length := by
    rw [← IntsAre.length hit, Array.length_toList]
  have hval : ∀ (i : Nat) (v : Value), items[i]? = some v → ∃ k t, ns[i]? = some k ∧ v = .int k t := fun i v hv => by
    have hi : i < ns.length := hn ▸ (Array.getElem?_eq_some_iff.mp hv).1
    obtain ⟨t, e⟩ := IntsAre.int_at hit i v (by rw [Array.getElem?_toList]; exact hv)
    have g : ns[i]? = some ns[i] := List.getElem?_eq_getElem hi
    exact ⟨ns[i], t, g, by rw [e, List.getD_eq_getElem?_getD, g]; rfl⟩
  have lt : l < s.heap.objs.size := by
    obtain ⟨o, ho, _⟩ := hl
    exact Heap.lt_size ho
  obtain ⟨c, tl, hmro⟩ := F.called_set.mro
  have f1 := F.called_set.made
  have f2 := F.called_set.sub
  have f3 := F.called_set.notType
  have f4 := F.called_set.canCreate
  have f5 := F.typeCall_set_1 (.ref l)
  refine wpAny_call (codeAny_of_tree ?_)
  show wpAny _ _ (callAny (.type "set") _) _ _ _
  refine wpAny_pure ⟨Code.quiet_builtin _ (by decide +kernel), codeAny_builtin F.entry_type_call ?_⟩
  rw [Around.under_plain (weight_type_call_type "set" [.ref l] []) rfl]
  repeat (any_goals (first | assumption | wp_step))
  refine codeAny_mono (code_set_led1 (.ref l) (E := E) (Q₁ := fun u s₁ => u = .ref s.heap.objs.size ∧ s₁ = { s with heap := s.heap.push (set0 w) }) ⟨rfl, rfl⟩) fun r s₁ hr => ?_
  match r, hr with
  | .error e, hr => exact hr
  | .ok (.ret u), hr =>
    obtain ⟨rfl, rfl⟩ := hr
    have hS : (s.heap.push (set0 w)).get? s.heap.objs.size = some (set0 w) := Heap.get?_push_size _ rfl
    have hT : Shared.TypeIs { s with heap := s.heap.push (set0 w) } (.ref s.heap.objs.size) "set" := ⟨_, hS, rfl⟩
    have i1 := F.called_set.init.lookup
    have i2 := F.called_set.init.bind (.ref s.heap.objs.size)
    repeat (any_goals (first | assumption | wp_step))
    refine codeAny_mono (codeAny_call_builtin (R := wants (fun r s₂ => r = .none ∧ ∃ h' tk c, s₂ = { s with heap := h', toks := tk } ∧ SetR w h' s.heap.objs.size (fun j => decide (j ∈ ns)) c ∧ c ≤ ns.length ∧ (∀ b o, s.heap.get? b = some o → h'.get? b = some o)) E)
      F.called_set.init.plain F.entry_set_init (check_set_init_1 hT ?_)) fun r₂ s₂ hr₂ => ?_
    · obtain ⟨ol, hol, hcl, nl, hdl⟩ := hl
      obtain ⟨ocls, odict, odata, oslots⟩ := ol
      dsimp only at hcl hdl
      subst hcl hdl
      have hol' : (s.heap.push (set0 w)).get? l = some { cls := .type "list", dict := odict, data := .seq items nl, slots := oslots } := Heap.get?_push_of_some _ hol
      have hl1 : (s.heap.push (set0 w)).IsList l items := ⟨_, hol', rfl, nl, rfl⟩
      have n1 := F.sub_list_set
      have n2 := F.sub_list_frozenset
      have n3 : (Value.type "list" == Value.type "dict") = false := by decide
      unfold Builtin.«set.__init__» noKeywords Builtin.Frozenset.updateFrom
      generalize hPI : pyIter = PI
      wp_walk
      subst hPI
      refine wpAny_pyIter_list hl1 (wpAny_bind (wpAny_runValue ?_))
      have sz : (s.heap.push (set0 w)).objs.size = s.heap.objs.size + 1 := Heap.size_push ..
      have a1 : l ≠ (s.heap.push (set0 w)).objs.size := by
        rw [sz]
        exact Nat.ne_of_lt (Nat.lt_succ_of_lt lt)
      have a2 : s.heap.objs.size ∉ [(s.heap.push (set0 w)).objs.size, l] := fun m => by
        rw [sz] at m
        rcases List.mem_cons.mp m with m | m
        · exact absurd m (Nat.ne_of_lt (Nat.lt_succ_self _))
        · exact absurd (List.mem_singleton.mp m) (Nat.ne_of_gt lt)
      have hh3 : A.in1.in1.in1.handled = none := by simp [hh]
      refine set_update_ints ((Walks.list hh3 _ l a1 items).toS) s.heap.objs.size a2 ns hn hb hval (items.size - 0) 0 _ (by omega) (Nat.zero_le _) ⟨⟨_, Heap.get?_push_size _ rfl, rfl, rfl⟩, hl1.push _⟩ ⟨0, Nat.le_refl 0, setR_new_at (Heap.get?_push_of_some _ hS)⟩ ?_
      intro s' c' hm hc' hS'
      obtain ⟨h', g2, d', tk', os'⟩ := s'
      obtain rfl : g2 = s.gens := hm.gens
      obtain rfl : d' = s.drawn := hm.drawn
      obtain rfl : os' = s.os := hm.os
      show wpAny _ _ _ _ _ _
      refine wpAny_pure ?_
      show wpAny _ _ (ret Value.none) _ _ _
      refine wpAny_pure ⟨rfl, h', tk', c', rfl, hS', hn ▸ hc', fun b o e => ?_⟩
      have b0 := Heap.lt_size e
      refine hm.heap b o (fun m => ?_) (Heap.get?_push_of_some _ (Heap.get?_push_of_some _ e))
      rw [sz] at m
      rcases List.mem_cons.mp m with m | m
      · exact absurd m (Nat.ne_of_lt b0)
      · exact absurd (List.mem_singleton.mp m) (Nat.ne_of_lt (Nat.lt_succ_of_lt b0))
    · match r₂, hr₂ with
      | .error e, hr₂ => exact hr₂
      | .ok (.ret r), hr₂ =>
        obtain ⟨rfl, h', tk, c', rfl, hS', hc', hk'⟩ := hr₂
        repeat (any_goals (first | assumption | wp_step))
        exact h _ _ _ hS' hc' hk'
end
end MyS
namespace L2
open PySem PySem.Spec PyProof.Rows
/-- sorted(t), t a list or tuple of ints -/
def rSortedQ (K : PySem.W.Frag) : List V → Hp → VK → Prop := fun vs H Q => ∃ (a : Addr) (ns : List Int), vs = [V.ref a] ∧ (SqL K H a (ns.map V.int) ∨ SqT K H a (ns.map V.int)) ∧
  ∀ (ms : List Int) (p : Addr), ms.Perm ns → ms.Pairwise (· ≤ ·) → H p = none → Q (.ref p) (upd H p (.lst (ms.map V.int)))
/-- sorted(found), any number below 4,000 -/
def rSortedU (w : World) : List V → Hp → VK → Prop := fun vs H Q => ∃ (a : Addr) (S : Int → Bool) (n : Nat), vs = [V.ref a] ∧ H a = some (SetO w a S n) ∧ n ≤ 4000 ∧
  ∀ (ms : List Int) (p : Addr), ms.Pairwise (· < ·) → (∀ k : Int, k ∈ ms ↔ S k = true) → ms.length = n → H p = none → Q (.ref p) (upd H p (.lst (ms.map V.int)))
section
variable {X : Cx}
theorem inv_laid {pins : List (Addr × Obj)} {σ : St} {H : Hp} {s s' : Shared} {p : Addr} {o : HO} (I : Inv X pins σ H s) (k : ∀ b u, s.heap.get? b = some u → s'.heap.get? b = some u) (hp : s.heap.objs.size ≤ p) (g : s'.gens = s.gens) (os : s'.os = s.os)
    (new : ObjOk X.prog X.w (upd H p o) s'.heap p o) : H p = none ∧ Inv X pins σ (upd H p o) s' := by
  have hn : H p = none := I.hok.fresh hp
  exact ⟨hn, I.call' (ch := []) os (Un.laid k hp hn) (I.hok.laid k hp new) (by rw [g]; exact I.bare) fun _ z => nomatch z⟩
theorem call_sortedQ (hc : X.calm = true) : CallR X (.builtin "sorted") (rSortedQ X.K) := by
  intro pins s σ H vs us Q I r h
  obtain ⟨a, ns, rfl, hs, q⟩ := h
  rw [Vals.ref1 r]
  have key : ∀ (T : String) (o : Obj) (its : List Value) (n : Nat), (T = "list" ∨ T = "tuple") → s.heap.get? a = some o → o.cls = .type T → o.data = .seq its.toArray n → IntsAre its ns → its.length ≤ sizeLine →
      wpAny (model X.prog X.w) X.A (call (.builtin "sorted") [.ref a]) (EP X pins σ Q) X.xe s := by
    intro T o its n hT ho hcl hd hi hz
    refine MyS.sorted_gen (J := fun s1 => Inv X pins σ H s1) (C := fun vs => vs = its) (D := fun ms => ms = ns) (fun Q' hq => ?_) (fun vs e => ⟨ns, by rw [e]; exact hi, by rw [e]; exact hz, rfl⟩) fun s1 s' p out c ns1 ms I1 k g os hp hcell i1 i2 i3 e => ?_
    · exact wpAny_collect_seq a hT ho hcl hd (fun h' hk => hq _ _ (I.kept (t' := s.toks) hk) (by simp)) (by rw [List.size_toArray]; exact hz)
    · subst e
      have hlen : (ms.map V.int).length ≤ sizeLine := by
        rw [List.length_map, i2.length_eq, ← IntsAre.length hi]
        exact hz
      obtain ⟨hn, J⟩ := inv_laid I1 k hp g os (o := .lst (ms.map V.int)) ⟨hlen, out, c, vals_of_ints i1, hcell⟩
      exact ⟨.ref p, _, J, rfl, q ms p i2 i3 hn⟩
  rcases hs with hs | hs
  · obtain ⟨its, rv, pl, hz⟩ := I.list hs
    obtain ⟨o, ho, hcl, n, hd⟩ := pl.isList
    exact key "list" o its n (.inl rfl) ho hcl hd rv.ints (by rw [← rv.length]; exact hz)
  · obtain ⟨its, rv, pl, hz⟩ := I.tuple hs
    obtain ⟨o, ho, hcl, n, hd⟩ := pl
    exact key "tuple" o its n (.inr rfl) ho hcl hd rv.ints (by rw [← rv.length]; exact hz)
theorem call_sortedU (hc : X.calm = true) : CallR X (.builtin "sorted") (rSortedU X.w) := by
  intro pins s σ H vs us Q I r h
  obtain ⟨a, S, n, rfl, ha, hsm, q⟩ := h
  obtain ⟨o, es, ep, t, ho, hex, hd, hg, hnd, hmem, hsz, hfit, hn, hris, hled⟩ := setO_get I ha
  rw [Vals.ref1 r]
  refine MyS.sorted_gen (J := fun s1 => Inv X pins σ H s1) (C := fun vs => vs.Perm (es.toList.map (·.2))) (D := fun ms => ms.Perm (es.toList.map keyOf)) (fun Q' hq => ?_) (fun vs e => ?_) fun s1 s' p out c ns1 ms I1 k g os hp hcell i1 i2 i3 e => ?_
  · exact collect_set (A := X.A.in1) (I.ok.hd hc) ⟨o, ho, hex.1, hd⟩ hfit hsz hris hled fun s1 out k _ g os pm => hq s1 out (I.call' (ch := []) os (Un.kept k) (I.hok.kept k) (by rw [g]; exact I.bare) fun _ z => nomatch z) pm
  · have hi : ∀ v ∈ vs, ∃ i t, v = Value.int i t := fun v hv => by
      obtain ⟨x, hx, ex⟩ := List.mem_map.mp (e.mem_iff.mp hv)
      obtain ⟨i, t, h1, _⟩ := hg x hx
      exact ⟨i, t, by rw [← ex]; exact h1⟩
    refine ⟨vs.map SrtO.iv, SrtO.ints_iv hi, ?_, ?_⟩
    · rw [e.length_eq, List.length_map, Array.length_toList, hn]
      exact Nat.le_trans hsm (by decide)
    · have pm := e.map SrtO.iv
      rw [List.map_map] at pm
      have ek : (es.toList.map fun x => SrtO.iv x.2) = es.toList.map keyOf := by
        refine List.map_congr_left fun x hx => ?_
        obtain ⟨i, t, h1, _⟩ := hg x hx
        unfold keyOf
        rw [h1]
        rfl
      rw [← ek]
      exact pm
  · have pm : ms.Perm (es.toList.map keyOf) := i2.trans e
    have hlen0 : ms.length = n := by rw [pm.length_eq, List.length_map, Array.length_toList]; exact hn
    have hlen : (ms.map V.int).length ≤ sizeLine := by
      rw [List.length_map, hlen0]
      exact Nat.le_trans hsm (by decide)
    obtain ⟨hfree, J⟩ := inv_laid I1 k hp g os (o := .lst (ms.map V.int)) ⟨hlen, out, c, vals_of_ints i1, hcell⟩
    exact ⟨.ref p, _, J, rfl, q ms p (MyS.lt_nd ms i3 (pm.nodup_iff.mpr hnd)) (fun z => by rw [pm.mem_iff, ← hmem z]) hlen0 hfree⟩
/-- set(t), t a list or tuple of ints -/
def rSetQ (K : PySem.W.Frag) (w : World) : List V → Hp → VK → Prop := fun vs H Q => ∃ (a : Addr) (ns : List Int), vs = [V.ref a] ∧ (SqL K H a (ns.map V.int) ∨ SqT K H a (ns.map V.int)) ∧ ns.length ≤ 4000 ∧
  ∀ (c : Nat) (p : Addr), c ≤ ns.length → H p = none → Q (.ref p) (upd H p (SetO w p (fun j => decide (j ∈ ns)) c))
theorem call_setQ (hc : X.calm = true) : CallR X (.type "set") (rSetQ X.K X.w) := by
  intro pins s σ H vs us Q I r h
  obtain ⟨a, ns, rfl, hs, hlen, q⟩ := h
  rw [Vals.ref1 r]
  have hb : ns.length + 1 < scanBound := Nat.lt_of_le_of_lt (Nat.succ_le_succ hlen) (by decide)
  have fin : ∀ (h' : Heap) (tk c : Nat), SetR X.w h' s.heap.objs.size (fun j => decide (j ∈ ns)) c → c ≤ ns.length → (∀ b o, s.heap.get? b = some o → h'.get? b = some o) → EP X pins σ Q (.ref s.heap.objs.size) { s with heap := h', toks := tk } := fun h' tk c R lc k => by
    obtain ⟨hn, J⟩ := inv_laid (s' := { s with heap := h', toks := tk }) I k (Nat.le_refl _) rfl rfl (o := SetO X.w s.heap.objs.size (fun j => decide (j ∈ ns)) c) (setO_new R)
    exact ⟨.ref _, _, J, rfl, q c _ lc hn⟩
  rcases hs with hs | hs
  · obtain ⟨its, rv, pl, hz⟩ := I.list hs
    exact MyS.set_of_list ns (I.ok.hd hc) pl.isList rv.ints hb fin
  · obtain ⟨its, rv, pl, hz⟩ := I.tuple hs
    exact call_set_tupI ns (I.ok.hd hc) pl rv.ints hb fin
end
end L2
namespace My
open PySem PySem.Spec PyProof.Rows L2
/-! ### heaps and the drawing state -/
theorem same_upd {H : Hp} {p : Addr} {o : HO} (h : H p = none) : Same H (upd H p o) := fun b x e => by
  rw [upd_ne (ne_of_none e h)]
  exact e
theorem rd_same {H H' : Hp} {a : Addr} {u : HO} (e : Same H H') (h : Rd H a u) : Rd H' a u := by
  rcases h with h | ⟨o, h⟩
  · exact .inl (e a _ h)
  · exact .inr ⟨o, e a _ h⟩
theorem seqT_same {K : PySem.W.Frag} {H H' : Hp} {a : Addr} {xs : List V} (e : Same H H') (h : SqT K H a xs) : SqT K H' a xs := by
  rcases h with h | h
  · exact .inl (rd_same e h)
  · exact .inr h
theorem int_at {ns : List Int} {i : Nat} {y : V} (h : (ns.map V.int)[i]? = some y) : ∃ z, ns[i]? = some z ∧ y = V.int z := by
  rw [List.getElem?_map] at h
  cases e : ns[i]? with
  | none =>
    rw [e] at h
    cases h
  | some z =>
    rw [e] at h
    exact ⟨z, rfl, (Option.some.inj h).symm⟩
/-! rules whose frame is a comprehension's -/
section
variable {X : Cx} {K : PySem.W.Frag}
theorem ix_tupK (h : X.K = K) : IxR X (rIxT K) := h ▸ ix_tup
theorem ix_listK (h : X.K = K) : IxR X (rIxL K) := h ▸ ix_list
theorem op_in_seqK (h : X.K = K) : OpR X (compareOp .In) (rIn K false) := h ▸ op_in_seq
theorem op_notIn_seqK (h : X.K = K) : OpR X (compareOp .NotIn) (rIn K true) := h ▸ op_notIn_seq
theorem call_isiK' (h : X.K = K) : CallR X (.builtin "isinstance") (rIsi K) := h ▸ call_isi
def rLenQ (K : PySem.W.Frag) : List V → Hp → VK → Prop := fun xs H Q => ∃ p ys, xs = [.ref p] ∧ (SqL K H p ys ∨ SqT K H p ys) ∧ Q (.int ys.length) H
theorem call_len_seqK (h : X.K = K) : CallR X (.builtin "len") (rLenQ K) := h ▸ call_len_seq
end
/-- the law's drawing state: a list of the script, how many were taken, a mixed number, a rest -/
structure StAt (K : PySem.W.Frag) (a st : Addr) (H : Hp) : Prop where
  ex : ∃ i m r : Int, 0 ≤ i ∧ H st = some (.lst [.ref a, .int i, .int m, .int r])
  sc : ∃ ns : List Int, SqL K H a (ns.map V.int)
/-- what drawing may do to the heap -/
structure Go (K : PySem.W.Frag) (st : Addr) (H H' : Hp) : Prop where
  keep : ∀ b o, b ≠ st → H b = some o → H' b = some o
  st : ∀ a, StAt K a st H → StAt K a st H'
section
variable {K : PySem.W.Frag} {st a : Addr} {H H1 H2 H' : Hp}
theorem Go.refl (H : Hp) : Go K st H H := ⟨fun _ _ _ e => e, fun _ h => h⟩
theorem Go.trans (x : Go K st H H1) (y : Go K st H1 H2) : Go K st H H2 := ⟨fun b o hb e => y.keep b o hb (x.keep b o hb e), fun a h => y.st a (x.st a h)⟩
theorem StAt.same (e : Same H H') (h : StAt K a st H) : StAt K a st H' := by
  obtain ⟨⟨i, m, r, hi, hs⟩, ns, hn⟩ := h
  exact ⟨⟨i, m, r, hi, e _ _ hs⟩, ns, e.seq hn⟩
theorem Go.of (e : Same H H') : Go K st H H' := ⟨fun b o _ h => e b o h, fun _ h => h.same e⟩
theorem Go.new {p : Addr} {o : HO} (h : H p = none) : Go K st H (upd H p o) := Go.of (same_upd h)
theorem StAt.ne {b : Addr} {o : HO} (h : StAt K a st H) (e : H b = some o) (hb : ∀ xs, o ≠ .lst xs) : b ≠ st := fun z => by
  obtain ⟨⟨i, m, r, _, hs⟩, _⟩ := h
  rw [z, hs] at e
  exact hb _ (Option.some.inj e).symm
/-- a stored state -/
theorem StAt.upd {i m r : Int} (h : StAt K a st H) (hi : 0 ≤ i) : StAt K a st (upd H st (.lst [.ref a, .int i, .int m, .int r])) := by
  obtain ⟨⟨i0, m0, r0, hi0, hs⟩, ns, hn⟩ := h
  refine ⟨⟨i, m, r, hi, upd_same⟩, ns, ?_⟩
  rcases hn with (hn | ⟨o, hn⟩) | hn
  · have hne : a ≠ st := fun z => by
      rw [z, hs] at hn
      have e := HO.lst.inj (Option.some.inj hn)
      cases ns with
      | nil => cases e
      | cons n r => cases e
    exact .inl (.inl (by rw [upd_ne hne]; exact hn))
  · have hne : a ≠ st := fun z => by
      rw [z, hs] at hn
      cases hn
    exact .inl (.inr ⟨o, by rw [upd_ne hne]; exact hn⟩)
  · exact .inr hn
theorem Go.upd {i m r : Int} (h : StAt K a st H) (hi : 0 ≤ i) : Go K st H (L2.upd H st (.lst [.ref a, .int i, .int m, .int r])) := by
  refine ⟨fun b o hb e => by rw [upd_ne hb]; exact e, fun a' h' => ?_⟩
  have e : a' = a := by
    obtain ⟨⟨i0, m0, r0, hi0, hs⟩, _⟩ := h
    obtain ⟨⟨i1, m1, r1, hi1, hs1⟩, _⟩ := h'
    rw [hs] at hs1
    injection hs1 with e1
    injection e1 with e2
    injection e2 with e3
    injection e3 with e4
    exact e4.symm
  subst e
  exact h'.upd hi
theorem Go.seqT {b : Addr} {xs : List V} (g : Go K st H H') (h : StAt K a st H) (hb : SqT K H b xs) : SqT K H' b xs := by
  rcases hb with (e | ⟨o, e⟩) | e
  · exact .inl (.inl (g.keep b _ (h.ne e (fun _ z => nomatch z)) e))
  · exact .inl (.inr ⟨o, g.keep b _ (h.ne e (fun _ z => nomatch z)) e⟩)
  · exact .inr e
theorem Go.free {p : Addr} (g : Go K st H H') (h : StAt K a st H) (hp : H' p = none) : H p = none := by
  cases e : H p with
  | none => rfl
  | some o =>
    by_cases hq : p = st
    · obtain ⟨⟨i, m, r, _, hs⟩, _⟩ := g.st a h
      rw [hq, hs] at hp
      cases hp
    · rw [g.keep p o hq e] at hp
      cases hp
end
theorem StAt.fresh {K : PySem.W.Frag} {a st p : Addr} {H : Hp} (h : StAt K a st H) (hp : H p = none) : p ≠ st := fun z => by
  obtain ⟨⟨i, m, r, _, hs⟩, _⟩ := h
  rw [z, hs] at hp
  cases hp
/-- a new object may change -/
theorem Go.mut {K : PySem.W.Frag} {st a p : Addr} {H H' : Hp} {o : HO} (g : Go K st H H') (h : StAt K a st H) (hp : H p = none) : Go K st H (L2.upd H' p o) := by
  have hne := h.fresh hp
  refine ⟨fun b u hb e => by rw [upd_ne (ne_of_none e hp)]; exact g.keep b u hb e, fun a' h' => ?_⟩
  obtain ⟨⟨i, m, r, hi, hs⟩, _⟩ := g.st a' h'
  obtain ⟨⟨i0, m0, r0, hi0, hs0⟩, ns, hn⟩ := h'
  refine ⟨⟨i, m, r, hi, by rw [upd_ne hne.symm]; exact hs⟩, ns, ?_⟩
  rcases hn with (hn | ⟨o', hn⟩) | hn
  · have hne' : a' ≠ st := fun z => by
      rw [z, hs0] at hn
      have e := HO.lst.inj (Option.some.inj hn)
      cases ns with
      | nil => cases e
      | cons n r => cases e
    exact .inl (.inl (by rw [upd_ne (ne_of_none hn hp)]; exact g.keep _ _ hne' hn))
  · have hne' : a' ≠ st := fun z => by
      rw [z, hs0] at hn
      cases hn
    exact .inl (.inr ⟨o', by rw [upd_ne (ne_of_none hn hp)]; exact g.keep _ _ hne' hn⟩)
  · exact .inr hn
/-- [f(..) for x in range(n)], each an int of which P holds, drawing meanwhile -/
theorem lc_ints {K : PySem.W.Frag} {st a D : Addr} {H : Hp} {te : TE} {σ : L2.St} {vs : List Nat} {j : Nat} {lo : Int} {n : Nat} {Qd : Hp → Prop} (P : Int → Prop) (hS : StAt K a st H) (hD : H D = none) (hn : n ≤ 10000)
    (hw : ∀ x, wipe ((wipe σ vs).set j (some x)) vs = wipe σ vs)
    (ht : ∀ (i : Nat) (H1 : Hp), i < n → Go K st H H1 → ∀ Q : VK, (∀ (v : Int) (H2 : Hp), P v → Go K st H1 H2 → Q (.int v) H2) → te ((wipe σ vs).set j (some (.int (lo + (i : Int))))) H1 Q)
    (q : ∀ (ns : List Int) (H' : Hp), ns.length = n → (∀ z ∈ ns, P z) → Go K st H H' → H' D = some (.lst (ns.map V.int)) → Qd H') :
    ∃ W : Nat → Nat → Hp → Prop, (∃ m, W 0 m (upd H D (.lst []))) ∧ ∀ i m H, W i m H →
      ((Itr lo n).stop i H ∧ Qd H) ∨ ((Itr lo n).go i H ∧ ∃ Nx : Hp → Prop, (∀ H', Nx H' → ∃ m', m' < m ∧ W (i + 1) m' H') ∧ ∀ x H', (Itr lo n).yld i H x H' → (gName j) x (wipe σ vs) H' fun σ2 H2 => wipe σ2 vs = wipe σ vs ∧ tYes σ2 H2 fun b H3 =>
        if b = true then te σ2 H3 fun y H4 => ∃ acc, H4 D = some (.lst acc) ∧ acc.length < sizeLine ∧ Nx (upd H4 D (.lst (acc ++ [y]))) else Nx H3) := by
  refine lc_range (fun i H' => ∃ ns : List Int, ns.length = i ∧ (∀ z ∈ ns, P z) ∧ Go K st H H' ∧ H' D = some (.lst (ns.map V.int))) ⟨[], rfl, (fun _ z => nomatch z), Go.new hD, upd_same⟩ ?_ ?_
  · rintro i H1 hi ⟨ns, hl, hP, g, hd⟩
    refine ⟨hw _, ?_⟩
    show te ((wipe σ vs).set j (some (.int (lo + (i : Int))))) H1 _
    refine ht i H1 hi g _ fun v H2 hv g2 => ?_
    have hd2 : H2 D = some (.lst (ns.map V.int)) := g2.keep _ _ (hS.fresh hD) hd
    refine ⟨_, hd2, ?_, ns ++ [v], ?_, ?_, (g.trans g2).mut hS hD, ?_⟩
    · rw [List.length_map]
      exact Nat.lt_of_lt_of_le (by omega : ns.length < 10000) (by decide)
    · rw [List.length_append, hl]
      rfl
    · intro z hz
      rcases List.mem_append.mp hz with h | h
      · exact hP z h
      · rw [List.mem_singleton.mp h]
        exact hv
    · rw [upd_same, List.map_append]
      rfl
  · rintro H' ⟨ns, hl, hP, g, hd⟩
    exact q ns H' hl hP g hd
theorem _root_.L2.Same.mut {H H' : Hp} {p : Addr} {o : HO} (e : Same H H') (h : H p = none) : Same H (upd H' p o) := fun b u q => by
  rw [upd_ne (ne_of_none q h)]
  exact e b u q
theorem filt_take {xs : List V} {f : V → Bool} {v : V → V} {i : Nat} {x : V} (h : xs[i]? = some x) : ((xs.take (i + 1)).filter f).map v = ((xs.take i).filter f).map v ++ (if f x = true then [v x] else []) := by
  rw [List.take_add_one, h, List.filter_append, List.map_append]
  congr 1
  show ([x].filter f).map v = _
  by_cases c : f x = true
  · rw [if_pos c, List.filter_cons, if_pos c]
    rfl
  · rw [if_neg c, List.filter_cons, if_neg c]
    rfl
/-- what a comprehension without drawing has made behind i turns -/
def Made (H1 : Hp) (D : Addr) (f : V → Bool) (v : V → V) (xs : List V) (i : Nat) (H' : Hp) : Prop := Same H1 H' ∧ H' D = some (.lst (((xs.take i).filter f).map v))
theorem made_turn {H1 H' : Hp} {D : Addr} {f : V → Bool} {v : V → V} {xs : List V} {i : Nat} {x : V} {tt : TT} {te : TE} {σ2 : L2.St} (hD : H1 D = none) (hz : xs.length ≤ 10000) (hx : xs[i]? = some x) (p : Made H1 D f v xs i H')
    (ht : ∀ H2, Same H1 H2 → ∀ Q : Bool → Hp → Prop, (∀ H3, Same H2 H3 → Q (f x) H3) → tt σ2 H2 Q) (he : f x = true → ∀ H2, Same H1 H2 → ∀ Q : VK, (∀ H3, Same H2 H3 → Q (v x) H3) → te σ2 H2 Q) :
    tt σ2 H' fun b H3 => if b = true then te σ2 H3 fun y H4 => ∃ acc, H4 D = some (.lst acc) ∧ acc.length < sizeLine ∧ Made H1 D f v xs (i + 1) (upd H4 D (.lst (acc ++ [y]))) else Made H1 D f v xs (i + 1) H3 := by
  obtain ⟨sm, hd⟩ := p
  refine ht H' sm _ fun H3 s3 => ?_
  have hd3 := s3 _ _ hd
  by_cases c : f x = true
  · rw [if_pos c]
    refine he c H3 (sm.trans s3) _ fun H4 s4 => ?_
    have hd4 := s4 _ _ hd3
    refine ⟨_, hd4, ?_, (sm.trans (s3.trans s4)).mut hD, ?_⟩
    · rw [List.length_map]
      refine Nat.lt_of_le_of_lt (Nat.le_trans (List.length_filter_le _ _) ?_) (show 10000 < sizeLine by decide)
      rw [List.length_take]
      omega
    · rw [upd_same, filt_take hx, if_pos c]
  · rw [if_neg c]
    refine ⟨sm.trans s3, ?_⟩
    rw [hd3, filt_take hx, if_neg c, List.append_nil]
theorem lc_pureT {K : PySem.W.Frag} {D a : Addr} {H1 : Hp} {σ : L2.St} {vs : List Nat} {j : Nat} {tt : TT} {te : TE} {xs : List V} {Qd : Hp → Prop} (f : V → Bool) (v : V → V) (hD : H1 D = none) (ha : SqT K H1 a xs) (hz : xs.length ≤ 10000)
    (hw : ∀ x, wipe ((wipe σ vs).set j (some x)) vs = wipe σ vs)
    (ht : ∀ x ∈ xs, ∀ H2, Same H1 H2 → ∀ Q : Bool → Hp → Prop, (∀ H3, Same H2 H3 → Q (f x) H3) → tt ((wipe σ vs).set j (some x)) H2 Q) (he : ∀ x ∈ xs, f x = true → ∀ H2, Same H1 H2 → ∀ Q : VK, (∀ H3, Same H2 H3 → Q (v x) H3) → te ((wipe σ vs).set j (some x)) H2 Q)
    (q : ∀ H', Same H1 H' → H' D = some (.lst ((xs.filter f).map v)) → Qd H') :
    ∃ W : Nat → Nat → Hp → Prop, (∃ m, W 0 m (upd H1 D (.lst []))) ∧ ∀ i m H, W i m H →
      ((Itt K a).stop i H ∧ Qd H) ∨ ((Itt K a).go i H ∧ ∃ Nx : Hp → Prop, (∀ H', Nx H' → ∃ m', m' < m ∧ W (i + 1) m' H') ∧ ∀ x H', (Itt K a).yld i H x H' → (gName j) x (wipe σ vs) H' fun σ2 H2 => wipe σ2 vs = wipe σ vs ∧ tt σ2 H2 fun b H3 =>
        if b = true then te σ2 H3 fun y H4 => ∃ acc, H4 D = some (.lst acc) ∧ acc.length < sizeLine ∧ Nx (upd H4 D (.lst (acc ++ [y]))) else Nx H3) :=
  lc_tup (xs := xs) (Made H1 D f v xs) ⟨same_upd hD, upd_same⟩ (fun _ _ _ p => seqT_same p.1 ha) (fun i x H' hx p => ⟨hw x, made_turn hD hz hx p (ht x (List.mem_of_getElem? hx)) (he x (List.mem_of_getElem? hx))⟩)
    fun H' p => q H' p.1 (by rw [p.2, List.take_length])
theorem lc_pureL {K : PySem.W.Frag} {D a : Addr} {H1 : Hp} {σ : L2.St} {vs : List Nat} {j : Nat} {tt : TT} {te : TE} {xs : List V} {Qd : Hp → Prop} (f : V → Bool) (v : V → V) (hD : H1 D = none) (ha : SqL K H1 a xs) (hz : xs.length ≤ 10000)
    (hw : ∀ x, wipe ((wipe σ vs).set j (some x)) vs = wipe σ vs)
    (ht : ∀ x ∈ xs, ∀ H2, Same H1 H2 → ∀ Q : Bool → Hp → Prop, (∀ H3, Same H2 H3 → Q (f x) H3) → tt ((wipe σ vs).set j (some x)) H2 Q) (he : ∀ x ∈ xs, f x = true → ∀ H2, Same H1 H2 → ∀ Q : VK, (∀ H3, Same H2 H3 → Q (v x) H3) → te ((wipe σ vs).set j (some x)) H2 Q)
    (q : ∀ H', Same H1 H' → H' D = some (.lst ((xs.filter f).map v)) → Qd H') :
    ∃ W : Nat → Nat → Hp → Prop, (∃ m, W 0 m (upd H1 D (.lst []))) ∧ ∀ i m H, W i m H →
      ((Itl K a).stop i H ∧ Qd H) ∨ ((Itl K a).go i H ∧ ∃ Nx : Hp → Prop, (∀ H', Nx H' → ∃ m', m' < m ∧ W (i + 1) m' H') ∧ ∀ x H', (Itl K a).yld i H x H' → (gName j) x (wipe σ vs) H' fun σ2 H2 => wipe σ2 vs = wipe σ vs ∧ tt σ2 H2 fun b H3 =>
        if b = true then te σ2 H3 fun y H4 => ∃ acc, H4 D = some (.lst acc) ∧ acc.length < sizeLine ∧ Nx (upd H4 D (.lst (acc ++ [y]))) else Nx H3) :=
  lc_list (xs := xs) (Made H1 D f v xs) ⟨same_upd hD, upd_same⟩ (fun _ _ _ p => p.1.seq ha) (fun i x H' hx p => ⟨hw x, made_turn hD hz hx p (ht x (List.mem_of_getElem? hx)) (he x (List.mem_of_getElem? hx))⟩)
    fun H' p => q H' p.1 (by rw [p.2, List.take_length])
def rgL (lo : Int) (n : Nat) : List V := (List.range n).map fun i : Nat => V.int (lo + (i : Int))
theorem rgL_get {lo : Int} {n i : Nat} (h : i < n) : (rgL lo n)[i]? = some (.int (lo + (i : Int))) := by
  unfold rgL
  rw [List.getElem?_map, List.getElem?_range h]
  rfl
theorem rgL_len (lo : Int) (n : Nat) : (rgL lo n).length = n := by
  unfold rgL
  rw [List.length_map, List.length_range]
theorem lc_pureR {D : Addr} {H1 : Hp} {σ : L2.St} {vs : List Nat} {j : Nat} {tt : TT} {te : TE} {lo : Int} {n : Nat} {Qd : Hp → Prop} (f : V → Bool) (v : V → V) (hD : H1 D = none) (hz : n ≤ 10000)
    (hw : ∀ x, wipe ((wipe σ vs).set j (some x)) vs = wipe σ vs)
    (ht : ∀ i : Nat, i < n → ∀ H2, Same H1 H2 → ∀ Q : Bool → Hp → Prop, (∀ H3, Same H2 H3 → Q (f (.int (lo + (i : Int)))) H3) → tt ((wipe σ vs).set j (some (.int (lo + (i : Int))))) H2 Q)
    (he : ∀ i : Nat, i < n → f (.int (lo + (i : Int))) = true → ∀ H2, Same H1 H2 → ∀ Q : VK, (∀ H3, Same H2 H3 → Q (v (.int (lo + (i : Int)))) H3) → te ((wipe σ vs).set j (some (.int (lo + (i : Int))))) H2 Q)
    (q : ∀ H', Same H1 H' → H' D = some (.lst (((rgL lo n).filter f).map v)) → Qd H') :
    ∃ W : Nat → Nat → Hp → Prop, (∃ m, W 0 m (upd H1 D (.lst []))) ∧ ∀ i m H, W i m H →
      ((Itr lo n).stop i H ∧ Qd H) ∨ ((Itr lo n).go i H ∧ ∃ Nx : Hp → Prop, (∀ H', Nx H' → ∃ m', m' < m ∧ W (i + 1) m' H') ∧ ∀ x H', (Itr lo n).yld i H x H' → (gName j) x (wipe σ vs) H' fun σ2 H2 => wipe σ2 vs = wipe σ vs ∧ tt σ2 H2 fun b H3 =>
        if b = true then te σ2 H3 fun y H4 => ∃ acc, H4 D = some (.lst acc) ∧ acc.length < sizeLine ∧ Nx (upd H4 D (.lst (acc ++ [y]))) else Nx H3) :=
  lc_range (Made H1 D f v (rgL lo n)) ⟨same_upd hD, upd_same⟩ (fun i H' hi p => ⟨hw _, made_turn hD (by rw [rgL_len]; exact hz) (rgL_get hi) p (ht i hi) (he i hi)⟩)
    fun H' p => q H' p.1 (by rw [p.2, List.take_of_length_le (by rw [rgL_len]; exact Nat.le_refl _)])
/-- a set of marks as a list -/
structure SetL (ms : List Int) : Prop where
  up : ms.Pairwise (· < ·)
  bd : ∀ z ∈ ms, 1 ≤ z ∧ z ≤ 96
theorem SetL.len {ms : List Int} (h : SetL ms) : ms.length ≤ 96 := by
  have key : ∀ (l : List Int) (lo : Int), l.Pairwise (· < ·) → (∀ z ∈ l, lo ≤ z ∧ z ≤ 96) → (l.length : Int) ≤ 96 - lo + 1 ∨ l = [] := by
    intro l
    induction l with
    | nil => intro _ _ _; exact .inr rfl
    | cons x r ih =>
      intro lo hp hb
      have hp' := List.pairwise_cons.mp hp
      have hx := hb x List.mem_cons_self
      left
      rcases ih (x + 1) hp'.2 (fun z hz => ⟨hp'.1 z hz, (hb z (List.mem_cons_of_mem _ hz)).2⟩) with h | h
      · rw [List.length_cons]
        omega
      · rw [h]
        show ((0 + 1 : Nat) : Int) ≤ _
        omega
  rcases key ms 1 h.up h.bd with h | h
  · omega
  · rw [h]
    exact Nat.zero_le _
theorem SetL.nil : SetL [] := ⟨.nil, fun _ z => nomatch z⟩
def sp__law_set (K : PySem.W.Frag) : Sp := fun vs H Q _ => ∃ (a st : Addr) (most : Int), vs = [.ref st, .int most] ∧ StAt K a st H ∧ 0 ≤ most ∧ most ≤ 96 ∧
  ∀ (t : Addr) (ms : List Int) H', SetL ms → (ms.length : Int) ≤ most → Go K st H H' → H t = none → H' t = some (.tup (ms.map V.int)) → Q (.ref t) H'
theorem pickI {ns : List Int} {v lo hi : Int} (h : ∀ z ∈ ns, lo ≤ z ∧ z ≤ hi) (h0 : 0 ≤ v) (h1 : v < (ns.length : Int)) : ∃ z, atI (ns.map V.int) v = some (.int z) ∧ lo ≤ z ∧ z ≤ hi := by
  have hlt : v.toNat < ns.length := by omega
  refine ⟨ns[v.toNat], at_of (j := v.toNat) (by omega) ?_, h _ (List.getElem_mem hlt)⟩
  rw [List.getElem?_map, List.getElem?_eq_getElem hlt]
  rfl
theorem nat8000 {n : Int} (h0 : 0 ≤ n) (h : n < 10 ^ 70) : n.natAbs < 2 ^ 8000 := Nat.lt_of_lt_of_le (by omega : n.natAbs < 10 ^ 70) (by decide +kernel)
/-! ### the promises of the drawing defs -/
def sp__law_start (K : PySem.W.Frag) : Sp := fun vs H Q _ => ∃ (a : Addr) (ns : List Int), vs = [.ref a] ∧ SqL K H a (ns.map V.int) ∧
  ∀ st H', H st = none → Same H H' → StAt K a st H' → Q (.ref st) H'
def sp__law_drawn (K : PySem.W.Frag) : Sp := fun vs H Q _ => ∃ (a st : Addr) (n : Int), vs = [.ref st, .int n] ∧ StAt K a st H ∧ 0 < n ∧ n.natAbs < 2 ^ 8000 ∧
  ∀ (v : Int) H', 0 ≤ v → v < n → Go K st H H' → Q (.int v) H'
end My
namespace L2
open PySem PySem.Spec PyProof.Rows
/-! ### isinstance of the error that a suite holds -/
def rIsEx (K : PySem.W.Frag) (cls : Value) (d : Option Addr) (a : Addr) : List V → Hp → VK → Prop := fun xs H Q => ∃ (D : Addr), cls = .ref D ∧ d = none ∧ ExcC K D ∧ rIsE K D a xs H Q
theorem call_isEx {X : Cx} {a : Addr} {oe : Obj} {cls : Value} {d : Option Addr} {pn : List (Addr × Obj)} (hz : Zc cls d oe) (hf : ∃ vs, oe.data = .fields vs) : CallR (X.suite a ((a, oe) :: pn)) (.builtin "isinstance") (rIsEx X.K cls d a) := by
  intro pins s σ H xs us Q I r h
  obtain ⟨D, rfl, rfl, C, h⟩ := h
  exact call_isE C hz hf pins s σ H xs us Q I r h
def rIsExT (K : PySem.W.Frag) (cls : Value) (d : Option Addr) (a : Addr) : List V → Hp → VK → Prop := fun xs H Q => ∃ (D tp : Addr) (cs : List V) (ts : List Value) (b : Bool), cls = .ref D ∧ d = none ∧ ExcC K D ∧ xs = [.ref a, .ref tp] ∧ H tp = some (.tup cs) ∧ Paired ClsV cs ts ∧ PySem.W.kitAny K (.ref D) ts = some b ∧ Q (.bl b) H
theorem call_isExT {X : Cx} {a : Addr} {oe : Obj} {cls : Value} {d : Option Addr} {pn : List (Addr × Obj)} (hz : Zc cls d oe) (hf : ∃ vs, oe.data = .fields vs) : CallR (X.suite a ((a, oe) :: pn)) (.builtin "isinstance") (rIsExT X.K cls d a) := by
  intro pins s σ H xs us Q I r h
  obtain ⟨D, tp, cs, ts, b, rfl, rfl, C, rfl, hT, k, e, q⟩ := h
  obtain ⟨u1, u2, rfl, r1, r2⟩ := vals2 r
  cases (show u2 = Value.ref tp from r2)
  cases (show u1 = Value.ref a from r1)
  obtain ⟨hget, _⟩ := I.pin (a, oe) (List.mem_append.mpr (.inl List.mem_cons_self))
  obtain ⟨vs, hv⟩ := hf
  have J : PySem.W.InstAt s.heap a oe D none := by
    obtain ⟨oc, od, oda, osl⟩ := oe
    obtain ⟨h1, h2⟩ := hz
    dsimp only at h1 h2 hv
    subst h1 h2 hv
    exact ⟨hget, rfl, rfl, trivial⟩
  obtain ⟨_, its, rv, o, h1, h2, n, h3⟩ := (show ObjOk X.prog X.w H s.heap tp (.tup cs) from I.hok tp _ hT)
  have e3 := ClsV.all k rv
  subst e3
  obtain ⟨oc, od, dt, sl⟩ := o
  simp only at h2 h3
  subst h2 h3
  exact PySem.W.kia_tup (PySem.W.handS_kitx_exc C.hg C.hk C.hs C.hd C.ha C.hn C.ht C.hm) I.kIn J h1 e (fun z => nomatch z) fun tk => ⟨.bl b, H, I.kept (t' := tk) fun _ _ z => z, rfl, q⟩
end L2
namespace Lm
open PySem PySem.Spec PyProof.Rows L2
/-- a def that makes lambdas: its code object is known -/
theorem okC {P : Program} {w : World} {K : PySem.W.Frag} {mg : Str → Option Value} {base : Heap}
    {x qual : Str} {st : Stmt} {f c : Addr} {fd : FuncData} {N ps : List Str} {k : Nat} {sp : Sp}
    (F : Fun K x qual st f fd) (hc : fd.code = .ref c) (S : FnScope N ps (defScope st))
    (len : ∀ vs H Q E, sp vs H Q E → vs.length = ps.length)
    (hb : ∀ (A : Around) (outer : List Env) (s : Shared) (H : Hp) (vs : List V) (Q : VK) (E : XK),
      Room k (A.deeper (envOfC qual (defScope st) s.heap.objs.size f (.ref c))) → sp vs H Q E →
      ∃ t, PSs (cxOf CX0 P w K mg base N qual (defScope st) f (.ref c) A outer s H E).nox (defBody st) t ∧
        t { nx := fun _ H' => Q .non H', rt := Q } (start N vs) H) :
    FnOk P w K mg base CX0 (k + 1) f fd ps sp := by
  obtain ⟨_, _, _, _, _, _, cdv, _, _, e, lk, hcd⟩ := F.ex
  subst e
  obtain rfl : cdv = .ref c := hc
  refine fn_of lk hcd S len fun A outer s H vs Q E hr z => ?_
  obtain ⟨t, h1, h2⟩ := hb A outer s H vs Q E hr z
  exact ⟨t, h1.nox, h2⟩
/-- what is taken may lean on how many slots there are -/
theorem takes_len {X : Cx} {W : WX} (tk : Takes X W) : Takes X (fun c d σ H => σ.length = X.N.length → W c d σ H) := by
  intro u s' z
  obtain ⟨a, B, sI, pins, σ, H, cls, d, e, I, r1, r2, r3, r4, r5, r6, w⟩ := z
  exact tk u s' ⟨a, B, sI, pins, σ, H, cls, d, e, I, r1, r2, r3, r4, r5, r6, w I.len⟩
/-- any wish for what the lambda raises -/
theorem pe_any {X : Cx} {e : Expr} {W : WX} {tl : XK → TE} (h : ∀ E : XK, (∀ cls d σ H, E cls d H → W cls d σ H) → PE X e (tl E)) :
    PE X e (fun σ H Q => ∃ E : XK, (∀ cls d σ H, E cls d H → W cls d σ H) ∧ tl E σ H Q) :=
  ⟨fun pins s σ H Q I z => by
    obtain ⟨E, hW, r⟩ := z
    exact (h E hW).run pins s σ H Q I r⟩
/-- what the ground tells of the tables of defs -/
def TabF (mg : Str → Option Value) (h : Heap) (ys : List Str) : Prop := ∀ y ∈ ys, ∃ (a : Addr) (o : Obj) (fd : FuncData) (c P : Addr),
  mg y = some (.ref a) ∧ h.get? a = some o ∧ o.data = .func fd ∧ fd.code = .ref c ∧ PySem.W.CodeHd h c P ∧ h.get? P = some { cls := .none, data := .fields #[] }
theorem walk_tabs {l : PySem.W.OpenLaw} {n k : Nat} {q : Program} {loose : List Str} {XP : (Str → Option Value) → Heap → Prop}
    {YP : World → Heap → Prop} {d : DefRec} {K : Params → PySem.W.Frag} {CX : World → CXT} {x : Str} (ys : List Str)
    (hn : l.most = some n) (hn2 : n ≤ sizeLine) (hdf : d.params.defaults = []) (hr : Room k callerA)
    (hrec : (ys.all fun y => (recsOf q).any fun e => e.name == y) = true)
    (hY : ∀ (w : World) (h : Heap), YP w h → (K w.params).In h)
    (F : ∀ (w : World) (mg : Str → Option Value) (fa : Addr) (h : Heap), (K w.params).In h → h.Ns mainGlobals mg →
      mg d.name = some (.ref fa) → TabF mg h ys → LamX.LawAtS l w (K w.params) (CX w) k n x mg fa h)
    (hCX : ∀ (w : World) (H : Hp) (s : Shared) (e : Value) (s' : Shared), CX w [] H s (fun _ _ _ => False) e s' → False) :
    PySem.W.WalkO q loose XP YP l.row.toRowW d [] (fun f vs => PySem.call f vs) := by
  refine Att.attach_callB hn hdf fun w s0 s1 mg mb fa o pm cd doc a vs ns
    G Y ho hd hcd hmg hobj hints hlen hbits hg => ?_
  have KX := hY w _ Y
  have tf : TabF mg s1.heap ys := fun y hy => by
    obtain ⟨dL, hm, e⟩ := List.any_eq_true.mp (List.all_eq_true.mp hrec y hy)
    obtain ⟨a', o', fd', c', P', h1, h2, h3, h4, h5, h6⟩ := G.T.tab dL hm
    rw [beq_iff_eq.mp e] at h1
    exact ⟨a', o', fd', c', P', h1, h2, h3, h4, .of h5 h6, h6.2⟩
  obtain ⟨fd, cs, sp, t1, t2, t3, hb, hsp, hF⟩ := F w mg fa _ KX G.T.g hmg tf
  exact LamX.law_callTs KX G.T.g G.T.b
    G.T.builtins G.T.nolimit hg t1 t2 t3
    G.T.bmain hobj hints
    (Nat.le_trans hlen hn2) hr hF hb
    (fun H hH hS => hsp H a ns hlen hbits hH hS)
    fun H e s' => hCX w H s1 e s'
/-- the table that a def's code object has, by the written part -/
theorem tab_of {K : PySem.W.Frag} {mg : Str → Option Value} {h : Heap} {ys : List Str} {y : Str} {f c P : Addr} {ob oc : Obj} {fd : FuncData} {vs : Array Value}
    (X : K.In h) (tf : TabF mg h ys) (hy : y ∈ ys) (hm : mg y = some (.ref f)) (lk : K.lookup f = some ob) (hd : ob.data = .func fd) (hc : fd.code = .ref c)
    (lc : K.lookup c = some oc) (hv : oc.data = .fields vs) (hP : vs[11]? = some (.ref P)) :
    h.get? P = some { cls := .none, data := .fields #[] } ∧ PySem.W.CodeHd h c P := by
  obtain ⟨a, o, fd', c', P', h1, h2, h3, h4, h5, h6⟩ := tf y hy
  rw [hm] at h1
  cases h1
  rw [X _ _ lk] at h2
  cases h2
  rw [hd] at h3
  cases h3
  rw [hc] at h4
  cases h4
  obtain ⟨o2, vs2, r1, r2, r3, r4, r5, r6, r7, e1, e2, e3, e4, r⟩ := id h5
  rw [X _ _ lc] at e1
  cases e1
  rw [hv] at e3
  cases e3
  rw [hP] at e4
  cases e4
  exact ⟨h6, h5⟩
end Lm
namespace My
open PySem PySem.Spec PyProof.Rows L2
/-- is it a set, from the mark before on -/
def isSetG : Int → List Int → Bool
  | _, [] => true
  | b, x :: r => if x ≤ b ∨ 96 < x then false else isSetG x r
def isSetB (ns : List Int) : Bool := isSetG 0 ns
theorem isSetG_iff : ∀ (ns : List Int) (b : Int), isSetG b ns = true ↔ ns.Pairwise (· < ·) ∧ (∀ z ∈ ns, b < z ∧ z ≤ 96)
  | [], b => ⟨fun _ => ⟨.nil, fun _ z => nomatch z⟩, fun _ => rfl⟩
  | x :: r, b => by
    unfold isSetG
    by_cases c : x ≤ b ∨ 96 < x
    · rw [if_pos c]
      refine ⟨(fun z => nomatch z), fun h => ?_⟩
      have := h.2 x List.mem_cons_self
      omega
    · rw [if_neg c, isSetG_iff r x]
      constructor
      · rintro ⟨h1, h2⟩
        refine ⟨.cons (fun y hy => (h2 y hy).1) h1, fun z hz => ?_⟩
        rcases List.mem_cons.mp hz with e | hz
        · omega
        · have := h2 z hz
          omega
      · rintro ⟨h1, h2⟩
        have h1' := List.pairwise_cons.mp h1
        exact ⟨h1'.2, fun z hz => ⟨h1'.1 z hz, (h2 z (List.mem_cons_of_mem _ hz)).2⟩⟩
theorem isSetB_iff {ns : List Int} : isSetB ns = true ↔ SetL ns := by
  unfold isSetB
  rw [isSetG_iff]
  exact ⟨fun h => ⟨h.1, fun z hz => by have := h.2 z hz; omega⟩, fun h => ⟨h.up, fun z hz => by have := h.bd z hz; omega⟩⟩
def sp_is_set (K : PySem.W.Frag) : Sp := fun vs H Q _ => ∃ (a : Addr) (ns : List Int), vs = [.ref a] ∧ SqT K H a (ns.map V.int) ∧ Q (.bl (isSetB ns)) H
def sp_refuse_unless_set (K : PySem.W.Frag) (C : Addr) : Sp := fun vs H Q E => ∃ (a : Addr) (ns : List Int), vs = [.ref a] ∧ SqT K H a (ns.map V.int) ∧ (isSetB ns = false → E (.ref C) none H) ∧ (isSetB ns = true → Q .non H)
end My
namespace My
open PySem PySem.Spec PyProof.Rows L2
theorem filt_no {α : Type} (xs : List α) : (xs.filter fun _ => false) = [] := List.filter_eq_nil_iff.mpr fun _ _ h => nomatch h
/-! ### == of lists and tuples of ints -/
theorem dpInts {K : PySem.W.Frag} {H : Hp} : ∀ ns : List Int, DpAll K H (ns.map V.int) (ns.map PyData.int)
  | [] => .nil
  | _ :: r => .cons (.int _) (dpInts r)
theorem lay_ints : ∀ ns : List Int, PyData.canLayAll0 (ns.map PyData.int) = true
  | [] => by simp [PyData.canLayAll0]
  | n :: r => by simp [PyData.canLayAll0, PyData.canLay0, lay_ints r]
theorem depth_ints : ∀ ns : List Int, PyData.depthAll (ns.map PyData.int) ≤ 1
  | [] => by simp [PyData.depthAll]
  | n :: r => by
    have h := depth_ints r
    simp only [List.map_cons, PyData.depthAll, PyData.depth]
    omega
theorem shaped_tup (ns : List Int) : SeqAt.shaped (.tuple (ns.map PyData.int)) = true := by
  have h := depth_ints ns
  show (_ && decide (_ ≤ 64)) = true
  rw [Bool.and_eq_true]
  exact ⟨by simp only [PyData.canLay0]; exact lay_ints ns, decide_eq_true (by simp only [PyData.depth]; omega)⟩
theorem shaped_lst (ns : List Int) : SeqAt.shaped (.list (ns.map PyData.int)) = true := by
  have h := depth_ints ns
  show (_ && decide (_ ≤ 64)) = true
  rw [Bool.and_eq_true]
  exact ⟨by simp only [PyData.canLay0]; exact lay_ints ns, decide_eq_true (by simp only [PyData.depth]; omega)⟩
theorem eqv_ints : ∀ ns ms : List Int, PyData.eqvAll (ns.map PyData.int) (ms.map PyData.int) = decide (ns = ms)
  | [], [] => by simp [PyData.eqvAll]
  | [], m :: r => by simp [PyData.eqvAll]
  | n :: r, [] => by simp [PyData.eqvAll]
  | n :: r, m :: t => by
    simp only [List.map_cons, PyData.eqvAll, PyData.eqv, eqv_ints r t, List.cons.injEq, Bool.decide_and]
    rfl
theorem eqv_tup (ns ms : List Int) : PyData.eqv (.tuple (ns.map PyData.int)) (.tuple (ms.map PyData.int)) = decide (ns = ms) := by
  rw [PyData.eqv]
  exact eqv_ints ns ms
theorem eqv_lst (ns ms : List Int) : PyData.eqv (.list (ns.map PyData.int)) (.list (ms.map PyData.int)) = decide (ns = ms) := by
  rw [PyData.eqv]
  exact eqv_ints ns ms
/-- t != u, t == u: tuples, lists of ints -/
theorem neT {K : PySem.W.Frag} {H : Hp} {a b : Addr} {ns ms : List Int} {Q : VK} (ha : SqT K H a (ns.map V.int)) (hb : SqT K H b (ms.map V.int)) (q : Q (.bl (!decide (ns = ms))) H) : rNeD K (.ref a) (.ref b) H Q :=
  ⟨_, _, .tup ha (dpInts ns), .tup hb (dpInts ms), shaped_tup ns, shaped_tup ms, by rw [eqv_tup]; exact q⟩
theorem eqT {K : PySem.W.Frag} {H : Hp} {a b : Addr} {ns ms : List Int} {Q : VK} (ha : SqT K H a (ns.map V.int)) (hb : SqT K H b (ms.map V.int)) (q : Q (.bl (decide (ns = ms))) H) : rEqD K (.ref a) (.ref b) H Q :=
  ⟨_, _, .tup ha (dpInts ns), .tup hb (dpInts ms), shaped_tup ns, shaped_tup ms, by rw [eqv_tup]; exact q⟩
theorem neL {K : PySem.W.Frag} {H : Hp} {a b : Addr} {ns ms : List Int} {Q : VK} (ha : SqL K H a (ns.map V.int)) (hb : SqL K H b (ms.map V.int)) (q : Q (.bl (!decide (ns = ms))) H) : rNeD K (.ref a) (.ref b) H Q :=
  ⟨_, _, .lst ha (dpInts ns), .lst hb (dpInts ms), shaped_lst ns, shaped_lst ms, by rw [eqv_lst]; exact q⟩
theorem eqL {K : PySem.W.Frag} {H : Hp} {a b : Addr} {ns ms : List Int} {Q : VK} (ha : SqL K H a (ns.map V.int)) (hb : SqL K H b (ms.map V.int)) (q : Q (.bl (decide (ns = ms))) H) : rEqD K (.ref a) (.ref b) H Q :=
  ⟨_, _, .lst ha (dpInts ns), .lst hb (dpInts ms), shaped_lst ns, shaped_lst ms, by rw [eqv_lst]; exact q⟩
theorem eq_of_up : ∀ l1 l2 : List Int, l1.Pairwise (· < ·) → l2.Pairwise (· < ·) → (∀ z, z ∈ l1 ↔ z ∈ l2) → l1 = l2
  | [], [], _, _, _ => rfl
  | [], y :: _, _, _, h => nomatch (h y).mpr List.mem_cons_self
  | x :: _, [], _, _, h => nomatch (h x).mp List.mem_cons_self
  | x :: r, y :: s, h1, h2, h => by
    have p1 := List.pairwise_cons.mp h1
    have p2 := List.pairwise_cons.mp h2
    have e : x = y := by
      rcases List.mem_cons.mp ((h x).mp List.mem_cons_self) with e | e
      · exact e
      · rcases List.mem_cons.mp ((h y).mpr List.mem_cons_self) with f | f
        · exact f.symm
        · have := p2.1 x e
          have := p1.1 y f
          omega
    subst e
    congr 1
    refine eq_of_up r s p1.2 p2.2 fun z => ⟨fun hz => ?_, fun hz => ?_⟩
    · rcases List.mem_cons.mp ((h z).mp (List.mem_cons_of_mem _ hz)) with f | f
      · have := p1.1 z hz
        omega
      · exact f
    · rcases List.mem_cons.mp ((h z).mpr (List.mem_cons_of_mem _ hz)) with f | f
      · have := p2.1 z hz
        omega
      · exact f
theorem marks_up : ((List.range 96).map fun i : Nat => 1 + (i : Int)).Pairwise (· < ·) :=
  List.pairwise_map.mpr (List.pairwise_lt_range.imp fun h => by omega)
theorem mem_marks {z : Int} : z ∈ ((List.range 96).map fun i : Nat => 1 + (i : Int)) ↔ 1 ≤ z ∧ z ≤ 96 := by
  rw [List.mem_map]
  constructor
  · rintro ⟨i, hi, rfl⟩
    have := List.mem_range.mp hi
    omega
  · rintro ⟨h0, h1⟩
    exact ⟨(z - 1).toNat, List.mem_range.mpr (by omega), by omega⟩
theorem ne_len {α : Type} {l : List α} {n : Nat} (h : l.length = n + 1) : l ≠ [] := fun e => by
  rw [e] at h
  cases h
/-- t + u, tuples of ints -/
theorem catA_ints {K : PySem.W.Frag} {H : Hp} {z t : Addr} {zs ns : List Int} {Q : VK} (hz : SqT K H z (zs.map V.int)) (ht : SqT K H t (ns.map V.int)) (hl : zs.length + ns.length ≤ 1000)
    (k : ∀ (w : Addr) (H' : Hp), Same H H' → SqT K H' w ((zs ++ ns).map V.int) → Q (.ref w) H') : rCatA K (.ref z) (.ref t) H Q := by
  refine ⟨z, t, zs.map V.int, ns.map V.int, rfl, rfl, hz, ht, ?_, fun e => ?_, fun _ e => ?_, fun _ _ p hp => k p _ (same_upd hp) (SqT.of ?_)⟩
  · rw [List.length_map, List.length_map]
    exact Nat.le_trans hl (by decide)
  · rw [List.map_eq_nil_iff] at e
    refine k t H (Same.refl H) ?_
    rw [e]
    exact ht
  · rw [List.map_eq_nil_iff] at e
    refine k z H (Same.refl H) ?_
    rw [e, List.append_nil]
    exact hz
  · rw [upd_same, List.map_append]
/-! comprehensions over ints -/
theorem int_filter {ns : List Int} {f : V → Bool} {g : Int → Bool} (h : ∀ z ∈ ns, f (.int z) = g z) : ((ns.map V.int).filter f).map (fun x => x) = (ns.filter g).map V.int := by
  rw [List.map_id']
  induction ns with
  | nil => rfl
  | cons x r ih =>
    have ih' := ih fun z hz => h z (List.mem_cons_of_mem _ hz)
    rw [List.map_cons, List.filter_cons, List.filter_cons, h x List.mem_cons_self]
    by_cases c : g x = true
    · rw [if_pos c, if_pos c, List.map_cons, ih']
    · rw [if_neg c, if_neg c, ih']
theorem rgL_ints (lo : Int) (n : Nat) : rgL lo n = ((List.range n).map fun i : Nat => lo + (i : Int)).map V.int := by
  unfold rgL
  rw [List.map_map]
  rfl
end My
namespace My
open PySem PySem.Spec PyProof.Rows L2
/-- x and y are the same data, tuples no deeper than n -/
inductive EqV (H : Hp) : Nat → V → V → Prop
  | non (n : Nat) : EqV H n .non .non
  | bl (n : Nat) (b : Bool) : EqV H n (.bl b) (.bl b)
  | int (n : Nat) (i : Int) : EqV H n (.int i) (.int i)
  | str (n : Nat) (z : Str) : EqV H n (.str z) (.str z)
  | tup {n : Nat} {p q : Addr} {xs ys : List V} (hp : H p = some (.tup xs)) (hq : H q = some (.tup ys)) (hl : xs.length = ys.length) (hl2 : xs.length ≤ 1000) (h : ∀ (k : Nat) (x y : V), xs[k]? = some x → ys[k]? = some y → EqV H n x y) : EqV H (n + 1) (.ref p) (.ref q)
theorem EqV.same {H H' : Hp} (s : Same H H') {n : Nat} {x y : V} (h : EqV H n x y) : EqV H' n x y := by
  induction h with
  | non n => exact .non n
  | bl n b => exact .bl n b
  | int n i => exact .int n i
  | str n z => exact .str n z
  | tup hp hq hl hl2 h ih => exact .tup (s _ _ hp) (s _ _ hq) hl hl2 ih
theorem EqV.ints {H : Hp} {n : Nat} {p q : Addr} {ns : List Int} (hp : H p = some (.tup (ns.map V.int))) (hq : H q = some (.tup (ns.map V.int))) (hl : ns.length ≤ 1000) : EqV H (n + 1) (.ref p) (.ref q) := by
  refine .tup hp hq rfl (by rw [List.length_map]; exact hl) fun k x y hx hy => ?_
  rw [hx] at hy
  obtain ⟨z, _, rfl⟩ := int_at hx
  cases hy
  exact .int n z
theorem EqV.pair {H : Hp} {n : Nat} {p q : Addr} {a b c d : V} (hp : H p = some (.tup [a, b])) (hq : H q = some (.tup [c, d])) (h1 : EqV H n a c) (h2 : EqV H n b d) : EqV H (n + 1) (.ref p) (.ref q) := by
  refine .tup hp hq rfl (by show 2 ≤ 1000; decide) fun k x y hx hy => ?_
  match k, hx, hy with
  | 0, hx, hy =>
    cases hx
    cases hy
    exact h1
  | 1, hx, hy =>
    cases hx
    cases hy
    exact h2
  | k + 2, hx, _ => cases hx
def sp__law_same (K : PySem.W.Frag) (n : Nat) : Sp := fun vs H Q _ => ∃ x y : V, vs = [x, y] ∧ EqV H n x y ∧ ∀ H', Same H H' → Q (.bl true) H'
end My
namespace My
open PySem PySem.Spec PyProof.Rows L2
def rTupleOf (K : PySem.W.Frag) : List V → Hp → VK → Prop := fun xs H Q => ∃ p ys, xs = [.ref p] ∧ ((SqL K H p ys ∧ ∀ l, H l = none → Q (.ref l) (upd H l (.tup ys))) ∨ (SqT K H p ys ∧ Q (.ref p) H))
section
variable {X : Cx} {K : PySem.W.Frag}
theorem call_tuple_ofK (h : X.K = K) : CallR X (.type "tuple") (rTupleOf K) := h ▸ call_tuple_of
theorem cr_sumK (h : X.K = K) (hc : X.calm = true) : CallR X (.builtin "sum") (rSum K) := h ▸ cr_sum hc
theorem sl_tupAK (h : X.K = K) : SlR X (rSlA K) := h ▸ sl_tupA
theorem sl_listK (h : X.K = K) : SlR X (rSlL K) := h ▸ sl_list
theorem op_catAK (h : X.K = K) : OpR X (binaryOp .Add) (rCatA K) := h ▸ op_catA
theorem pe_revLK {e : Expr} {te : TE} {k : Nat} {p1 p2 p3 pos : Pos} (h : X.K = K) (he : PE X e te) : PE X (.Subscript e (.Slice none none (some (.UnaryOp .USub (.Constant (.int 1) k p1) p2)) p3) pos) (tRevL K te) := h ▸ pe_revL he
theorem pi_tupK {tg l : Expr} {tl : TE} (h : X.K = K) (hl : PE X l tl) : PI X tg l (iTup K tl) := h ▸ pi_tup hl
theorem pi_listK {tg l : Expr} {tl : TE} (h : X.K = K) (hl : PE X l tl) : PI X tg l (iList K tl) := h ▸ pi_list hl
end
end My
namespace My
open PySem PySem.Spec PyProof.Rows L2
section
variable {X : Cx} {K : PySem.W.Frag}
theorem call_sortedQK (h : X.K = K) (hc : X.calm = true) : CallR X (.builtin "sorted") (rSortedQ K) := h ▸ call_sortedQ hc
end
end My
namespace My
open PySem PySem.Spec PyProof.Rows L2
/-- those of xs that ys hasn't -/
def diffL (xs ys : List Int) : List Int := xs.filter fun z => decide (z ∉ ys)
/-- mended -/
def mendL (xs ys zs : List Int) : List Int := ((List.range 96).map fun i : Nat => 1 + (i : Int)).filter fun z => decide (z ∈ ys ∨ (z ∈ xs ∧ z ∉ zs))
theorem inV_ints (z : Int) : ∀ ns : List Int, inV (.int z) (ns.map V.int) = decide (z ∈ ns)
  | [] => by simp [inV]
  | n :: r => by
    have ih := inV_ints z r
    unfold inV at ih ⊢
    rw [List.map_cons, List.any_cons, ih]
    by_cases c : z = n
    · subst c
      simp [eqV]
    · have c' : ¬ n = z := fun e => c e.symm
      simp [eqV, c, c']
theorem flat_ints : ∀ ns : List Int, (ns.map V.int).all flatV = true
  | [] => rfl
  | n :: r => by
    rw [List.map_cons, List.all_cons, flat_ints r]
    rfl
theorem diffL_set {xs ys : List Int} (h : SetL xs) : SetL (diffL xs ys) := ⟨h.up.filter _, fun z hz => h.bd z (List.mem_filter.mp hz).1⟩
theorem mem_diffL {xs ys : List Int} {z : Int} : z ∈ diffL xs ys ↔ z ∈ xs ∧ z ∉ ys := by
  unfold diffL
  rw [List.mem_filter, decide_eq_true_eq]
theorem mem_mendL {xs ys zs : List Int} (hx : SetL xs) (hy : SetL ys) {z : Int} : z ∈ mendL xs ys zs ↔ z ∈ ys ∨ (z ∈ xs ∧ z ∉ zs) := by
  unfold mendL
  rw [List.mem_filter, mem_marks, decide_eq_true_eq]
  refine ⟨fun h => h.2, fun h => ⟨?_, h⟩⟩
  rcases h with h | h
  · exact hy.bd z h
  · exact hx.bd z h.1
theorem mendL_set (xs ys zs : List Int) : SetL (mendL xs ys zs) := ⟨marks_up.filter _, fun z hz => mem_marks.mp (List.mem_filter.mp hz).1⟩
theorem mendL_diff {xs ys : List Int} (hx : SetL xs) (hy : SetL ys) : mendL xs (diffL ys xs) (diffL xs ys) = ys := by
  refine eq_of_up _ _ (mendL_set _ _ _).up hy.up fun z => ?_
  rw [mem_mendL hx (diffL_set hy), mem_diffL, mem_diffL]
  constructor
  · rintro (h | ⟨h1, h2⟩)
    · exact h.1
    · exact Classical.byContradiction fun c => h2 ⟨h1, c⟩
  · intro h
    by_cases c : z ∈ xs
    · exact .inr ⟨c, fun w => w.2 h⟩
    · exact .inl ⟨h, c⟩
theorem notset {ms : List Int} {P : Prop} (h : SetL ms) (c : isSetB ms = false) : P := by
  rw [isSetB_iff.mpr h] at c
  cases c
end My
namespace My
open PySem PySem.Spec PyProof.Rows L2
/-- a comprehension over any walk, without ifs, without drawing: item i is F i -/
theorem lc_F {J : It} {n : Nat} {G : Hp → Prop} {Y : Nat → Hp → V → Hp → Prop} (w : Walk J n G Y) {te : TE} {g : TG} {vs : List Nat} {σ : L2.St} {H1 : Hp} {D : Addr} {Qd : Hp → Prop} (F : Nat → V) (hz : n ≤ 10000) (hD : H1 D = none) (hG : ∀ H, Same H1 H → G H)
    (ht : ∀ i x H H', i < n → Same H1 H → Y i H x H' → ∀ Q : VK, (∀ H3, Same H H3 → Q (F i) H3) → g x (wipe σ vs) H' fun σ2 H2 => wipe σ2 vs = wipe σ vs ∧ te σ2 H2 Q)
    (k : ∀ H', Same H1 H' → H' D = some (.lst ((List.range n).map F)) → Qd H') :
    ∃ W : Nat → Nat → Hp → Prop, (∃ m, W 0 m (upd H1 D (.lst []))) ∧ ∀ i m H, W i m H →
      (J.stop i H ∧ Qd H) ∨ (J.go i H ∧ ∃ Nx : Hp → Prop, (∀ H', Nx H' → ∃ m', m' < m ∧ W (i + 1) m' H') ∧ ∀ x H', J.yld i H x H' → g x (wipe σ vs) H' fun σ2 H2 => wipe σ2 vs = wipe σ vs ∧ tYes σ2 H2 fun b H3 =>
        if b = true then te σ2 H3 fun y H4 => ∃ acc, H4 D = some (.lst acc) ∧ acc.length < sizeLine ∧ Nx (upd H4 D (.lst (acc ++ [y]))) else Nx H3) := by
  refine lc_it w (fun i H' => Same H1 H' ∧ H' D = some (.lst ((List.range i).map F))) ⟨same_upd hD, upd_same⟩ (fun i H _ p => hG H p.1) ?_ ?_
  · rintro i x H H' hi ⟨sm, hd⟩ y
    refine ht i x H H' hi sm y _ fun H3 s3 => ?_
    refine ⟨_, s3 _ _ hd, ?_, (sm.trans s3).mut hD, ?_⟩
    · rw [List.length_map, List.length_range]
      exact Nat.lt_of_lt_of_le (by omega : i < 10001) (by decide)
    · rw [upd_same, List.range_succ, List.map_append]
      rfl
  · rintro H' ⟨sm, hd⟩
    exact k H' sm hd
/-- the same with an if: items i of which f i holds -/
theorem lc_FT {J : It} {n : Nat} {G : Hp → Prop} {Y : Nat → Hp → V → Hp → Prop} (w : Walk J n G Y) {tt : TT} {te : TE} {g : TG} {vs : List Nat} {σ : L2.St} {H1 : Hp} {D : Addr} {Qd : Hp → Prop} (f : Nat → Bool) (F : Nat → V) (hz : n ≤ 10000) (hD : H1 D = none) (hG : ∀ H, Same H1 H → G H)
    (ht : ∀ i x H H', i < n → Same H1 H → Y i H x H' → ∀ Q : L2.St → Bool → Hp → Prop, (∀ σ2 H3, Same H H3 → (f i = true → ∀ Q2 : VK, (∀ H4, Same H3 H4 → Q2 (F i) H4) → te σ2 H3 Q2) → Q σ2 (f i) H3) → g x (wipe σ vs) H' fun σ2 H2 => wipe σ2 vs = wipe σ vs ∧ tt σ2 H2 (Q σ2))
    (k : ∀ H', Same H1 H' → H' D = some (.lst (((List.range n).filter f).map F)) → Qd H') :
    ∃ W : Nat → Nat → Hp → Prop, (∃ m, W 0 m (upd H1 D (.lst []))) ∧ ∀ i m H, W i m H →
      (J.stop i H ∧ Qd H) ∨ (J.go i H ∧ ∃ Nx : Hp → Prop, (∀ H', Nx H' → ∃ m', m' < m ∧ W (i + 1) m' H') ∧ ∀ x H', J.yld i H x H' → g x (wipe σ vs) H' fun σ2 H2 => wipe σ2 vs = wipe σ vs ∧ tt σ2 H2 fun b H3 =>
        if b = true then te σ2 H3 fun y H4 => ∃ acc, H4 D = some (.lst acc) ∧ acc.length < sizeLine ∧ Nx (upd H4 D (.lst (acc ++ [y]))) else Nx H3) := by
  refine lc_it w (fun i H' => Same H1 H' ∧ H' D = some (.lst (((List.range i).filter f).map F))) ⟨same_upd hD, upd_same⟩ (fun i H _ p => hG H p.1) ?_ ?_
  · rintro i x H H' hi ⟨sm, hd⟩ y
    refine ht i x H H' hi sm y _ fun σ2 H3 s3 he => ?_
    have hd3 := s3 _ _ hd
    have er : (List.range (i + 1)).filter f = (List.range i).filter f ++ (if f i = true then [i] else []) := by
      rw [List.range_succ, List.filter_append, List.filter_cons]
      rfl
    by_cases c : f i = true
    · rw [if_pos c] at er ⊢
      refine he c _ fun H4 s4 => ⟨_, s4 _ _ hd3, ?_, (sm.trans (s3.trans s4)).mut hD, ?_⟩
      · rw [List.length_map]
        refine Nat.lt_of_le_of_lt (List.length_filter_le _ _) ?_
        rw [List.length_range]
        exact Nat.lt_of_lt_of_le (by omega : i < 10001) (by decide)
      · rw [upd_same, er, List.map_append]
        rfl
    · rw [if_neg c] at er ⊢
      refine ⟨sm.trans s3, ?_⟩
      rw [hd3, er, List.append_nil]
  · rintro H' ⟨sm, hd⟩
    exact k H' sm hd
end My
namespace Mz
open PySem PySem.Spec PyProof.Rows L2
/-! ### zip of a list or a tuple with a list or a tuple -/
/-- a list (true) or a tuple (false) -/
def Sq (K : PySem.W.Frag) (H : Hp) : Bool → Addr → List V → Prop
  | true => SqL K H
  | false => SqT K H
def Wk (h : Heap) : Bool → Addr → Addr → Nat → Prop
  | true => fun it l i => h.IsListIter it l i
  | false => fun it l i => h.IsTupleIter it l i
def Im (h : Heap) : Bool → Addr → Array Value → Prop
  | true => fun l m => h.IsList l m
  | false => fun l m => h.IsTuple l m
theorem drw {P : Program} {w : World} {A : Around} (hh : A.handled = none) {it l : Addr} (ne : l ≠ it) (m : Array Value) : ∀ p : Bool, Draws P w A it [it, l] m.size (fun i v => m[i]? = some v) (fun i h => Wk h p it l i ∧ Im h p l m)
  | true => Draws.list hh it l ne m
  | false => Draws.tuple hh it l ne m
theorem Wk.live {h : Heap} {p : Bool} {it l : Addr} {i : Nat} (x : Wk h p it l i) : ∃ o, h.get? it = some o ∧ ∀ v, o.data ≠ .cell v := by
  cases p with
  | false =>
    obtain ⟨o, e, _, d⟩ := x
    exact ⟨o, e, fun v z => by rw [d] at z; exact nomatch z⟩
  | true =>
    obtain ⟨o, e, _, d⟩ := x
    exact ⟨o, e, fun v z => by rw [d] at z; exact nomatch z⟩
theorem Wk.on {h h' : Heap} {p : Bool} {it l : Addr} {i : Nat} (x : Wk h p it l i) (k : ∀ o, h.get? it = some o → h'.get? it = some o) : Wk h' p it l i := by
  cases p with
  | false => exact Heap.IsTupleIter.at x k
  | true => exact Heap.IsListIter.at x k
theorem stands {X : Cx} {pins : List (Addr × Obj)} {σ : L2.St} {H : Hp} {s : Shared} {a : Addr} {xs : List V} (I : Inv X pins σ H s) {p : Bool} (h : Sq X.K H p a xs) : ∃ its, Vals xs its ∧ Im s.heap p a its.toArray ∧ a < s.heap.objs.size := by
  cases p with
  | false =>
    obtain ⟨its, rv, q, _⟩ := I.tuple h
    obtain ⟨o, ho, _⟩ := id q
    exact ⟨its, rv, q, Heap.lt_size ho⟩
  | true =>
    obtain ⟨its, rv, q, _⟩ := I.list h
    exact ⟨its, rv, q.isList, q.lt⟩
theorem one {X : Cx} {pins : List (Addr × Obj)} {σ : L2.St} {H : Hp} {s : Shared} {a : Addr} {xs ys : List V} (I : Inv X pins σ H s) {p : Bool} (h : Sq X.K H p a xs) (h' : Sq X.K H p a ys) : xs = ys := by
  cases p with
  | false => exact I.tuple_inj h h'
  | true => exact I.list_inj h h'
/-- both as they stand at each turn, the items in new pairs -/
def It2 (K : PySem.W.Frag) (p q : Bool) (a b : Addr) : It where
  go i H := ∃ (xs ys : List V) (x y : V), (Sq K H p a xs ∧ Sq K H q b ys) ∧ xs[i]? = some x ∧ ys[i]? = some y
  yld i H v H' := ∃ (T : Addr) (x y : V), v = .ref T ∧ H T = none ∧ H' = upd H T (.tup [x, y]) ∧ (∀ xs, Sq K H p a xs → xs[i]? = some x) ∧ ∀ ys, Sq K H q b ys → ys[i]? = some y
  stop i H := ∃ xs ys : List V, (Sq K H p a xs ∧ Sq K H q b ys) ∧ i ≤ xs.length ∧ i ≤ ys.length ∧ (i = xs.length ∨ i = ys.length)
theorem turn2 {P : Program} {w : World} {K : PySem.W.Frag} {es : List Expr} {k : Nat} {tp : Pos} {a b z U O j1 j2 : Addr} {p q : Bool} (S : ZipSep2 z U O j1 j2 [j1, a] [j2, b]) (n1 : a ≠ j1) (n2 : b ≠ j2) :
    Turn P w K (.Tuple es k tp) (It2 K p q a b) [z, U, O, j1, j2] z (fun i h => (IsZip h z U O .none ∧ IsTupOf2 h U (.ref j1) (.ref j2) ∧ ∃ x y, IsTupOf2 h O x y) ∧ Wk h p j1 a i ∧ Wk h q j2 b i) where
  mem := List.mem_cons_self
  obj := by
    rintro i h ⟨⟨f1, f2, x, y, f3⟩, f4, f5⟩ c hc
    rcases (by simpa using hc : c = z ∨ c = U ∨ c = O ∨ c = j1 ∨ c = j2) with e | e | e | e | e <;> subst e
    · exact ⟨_, f1, (fun _ y => nomatch y)⟩
    · exact ⟨_, f2, (fun _ y => nomatch y)⟩
    · exact ⟨_, f3, (fun _ y => nomatch y)⟩
    · exact f4.live
    · exact f5.live
  keep := by
    rintro i h h' ⟨⟨f1, f2, x, y, f3⟩, f4, f5⟩ kk
    exact ⟨⟨kk _ (by simp) _ f1, kk _ (by simp) _ f2, x, y, kk _ (by simp) _ f3⟩, f4.on (kk _ (by simp)), f5.on (kk _ (by simp))⟩
  item := by
    rintro X rfl rfl rfl calm i pins s σ H E I fr ⟨⟨f1, f2, x0, y0, f3⟩, f4, f5⟩ ⟨xs, ys, x, y, ⟨g1, g2⟩, gx, gy⟩
    obtain ⟨m1, r1, p1, _⟩ := stands I g1
    obtain ⟨m2, r2, p2, _⟩ := stands I g2
    obtain ⟨u1, k1, t1⟩ := r1.get gx
    obtain ⟨u2, k2, t2⟩ := r2.get gy
    have c1 : i < m1.toArray.size := by
      rw [List.size_toArray]
      exact (List.getElem?_eq_some_iff.mp k1).1
    have c2 : i < m2.toArray.size := by
      rw [List.size_toArray]
      exact (List.getElem?_eq_some_iff.mp k2).1
    have zl : z < s.heap.objs.size := Heap.lt_size f1
    refine wpAny_pyNext_zipD2_item S (drw (A := X.A.in1) (show X.A.in1.handled = none from I.ok.hd calm) n1 m1.toArray p) (drw (A := X.A.in1) (show X.A.in1.handled = none from I.ok.hd calm) n2 m2.toArray q) f1 f2 f3 ⟨f4, p1⟩ ⟨f5, p2⟩ c1 c2 fun v1 v2 h1 tk w1 w2 z1 O1 s1 s2 T1 _ kk => ?_
    have e1 : v1 = u1 := by
      rw [show m1.toArray[i]? = m1[i]? by simp, k1] at w1
      exact (Option.some.inj w1).symm
    have e2 : v2 = u2 := by
      rw [show m2.toArray[i]? = m2[i]? by simp, k2] at w2
      exact (Option.some.inj w2).symm
    subst e1 e2
    refine ⟨_, rfl, wpAny_letOwnedTupleGo_zip (s := { s with heap := h1, toks := tk }) z1 fun h2 z2 sb => ?_⟩
    have T2 := (sb.2 _ (Nat.ne_of_gt zl)).trans T1
    have nw : ObjOk X.prog X.w (upd H s.heap.objs.size (.tup [x, y])) h2 s.heap.objs.size (.tup [x, y]) := ⟨by show 2 ≤ sizeLine; decide, [v1, v2], .cons t1 (.cons t2 .nil), _, T2, rfl, _, rfl⟩
    have fz : ∀ c ∈ [z, U, O, j1, j2], c < s.heap.objs.size := fun c hc => by
      rcases (by simpa using hc : c = z ∨ c = U ∨ c = O ∨ c = j1 ∨ c = j2) with e | e | e | e | e <;> subst e
      · exact zl
      · exact Heap.lt_size f2
      · exact Heap.lt_size f3
      · exact Heap.lt_size f4.live.choose_spec.1
      · exact Heap.lt_size f5.live.choose_spec.1
    have J := I.turnedNew (t' := tk) (ch := [z, U, O, j1, j2]) (fun c o hc e => (sb.2 c fun ez => hc (by rw [ez]; simp)).trans (kk c o (fun ez => hc (by rw [ez]; simp)) (fun ez => hc (by rw [ez]; simp)) (fun ez => hc (by rw [ez]; simp)) (fun ez => hc (by rw [ez]; simp)) e)) fr (Nat.le_refl _) nw
    refine ⟨.ref s.heap.objs.size, _, J, rfl, ⟨_, x, y, rfl, I.hok.fresh (Nat.le_refl _), rfl, fun l hl => one I hl g1 ▸ gx, fun l hl => one I hl g2 ▸ gy⟩, ⟨⟨z2, ?_, v1, v2, ?_⟩, ?_, ?_⟩, fun c hc => ?_⟩
    · exact (sb.2 _ S.TIz).trans (kk _ _ S.TIz S.TITO S.TIi1 S.TIi2 f2)
    · exact (sb.2 _ S.TOz).trans O1
    · exact s1.1.on fun o e => (sb.2 _ S.zi1.symm).trans e
    · exact s2.1.on fun o e => (sb.2 _ S.zi2.symm).trans e
    · rw [upd_ne (Nat.ne_of_lt (fz c hc))]
      exact (fr c hc).1
  done := by
    rintro X rfl rfl rfl calm i pins s σ H E I fr ⟨⟨f1, f2, x0, y0, f3⟩, f4, f5⟩ ⟨xs, ys, ⟨g1, g2⟩, b1, b2, be⟩
    obtain ⟨m1, r1, p1, _⟩ := stands I g1
    obtain ⟨m2, r2, p2, _⟩ := stands I g2
    have l1 : m1.toArray.size = xs.length := by rw [List.size_toArray, r1.length]
    have l2 : m2.toArray.size = ys.length := by rw [List.size_toArray, r2.length]
    refine wpAny_pyNext_zipD2_end S (drw (A := X.A.in1) (show X.A.in1.handled = none from I.ok.hd calm) n1 m1.toArray p) (drw (A := X.A.in1) (show X.A.in1.handled = none from I.ok.hd calm) n2 m2.toArray q) f1 f2 f3 ⟨f4, p1⟩ ⟨f5, p2⟩ (by rw [l1]; exact b1) (by rw [l2]; exact b2) (by rw [l1, l2]; exact be) fun h1 tk kk => ⟨rfl, ?_⟩
    exact I.turnedL (t' := tk) (ch := [z, U, O, j1, j2]) (fun c o hc e => kk c o (fun ez => hc (by rw [ez]; simp)) (fun ez => hc (by rw [ez]; simp)) (fun ez => hc (by rw [ez]; simp)) (fun ez => hc (by rw [ez]; simp)) e) fr
  self := fun A i s Q E st h => wpAny_pyIter_zip st.1.1 h
theorem walk2 {K : PySem.W.Frag} {p q : Bool} {a b : Addr} {xs ys : List V} {n : Nat} (hn : n = min xs.length ys.length) : Walk (It2 K p q a b) n (fun H => Sq K H p a xs ∧ Sq K H q b ys) (YPair (fun i => xs[i]?) (fun i => ys[i]?)) where
  goes i H hi G := ⟨xs, ys, xs[i]'(by omega), ys[i]'(by omega), G, List.getElem?_eq_getElem _, List.getElem?_eq_getElem _⟩
  stops H G := ⟨xs, ys, G, by omega, by omega, by omega⟩
  yields := by
    rintro i H v H' hi G ⟨T, x, y, rfl, fr, e, g1, g2⟩
    exact ⟨T, x, y, rfl, fr, e, g1 xs G.1, g2 ys G.2⟩
def iZip2 (K : PySem.W.Frag) (p q : Bool) (ta : TA) : TI := fun σ H R => ta σ H fun vs H1 => ∃ a b xs ys, vs = [.ref a, .ref b] ∧ Sq K H1 p a xs ∧ Sq K H1 q b ys ∧ R (It2 K p q a b) H1
theorem begins {s : Shared} : ∀ (p : Bool) (a : Addr) (m : Array Value), ∃ o, Begins (.ref a) o (fun h => Im h p a m) ∧ ∀ h b, h.get? b = some o → Wk h p b a 0
  | true, a, m => ⟨_, begins_list a m, fun h b e => ⟨_, e, rfl, rfl⟩⟩
  | false, a, m => ⟨_, begins_tuple a m, fun h b e => ⟨_, e, rfl, rfl⟩⟩
theorem pi_zip2 {X : Cx} {e e2 : Expr} {ta : TA} {l pos tpos : Pos} {es : List Expr} {k : Nat} {p q : Bool} (hg : Gl X "zip") (hm : X.mg "zip" = none) (ha : PA X [e, e2] ta)
    (hs : starEach [e, e2] X.env = (false, eval e X.env) :: starEach [e2] X.env := by rfl) (hpl : (backTo pos (starEach [e2] X.env)).any (·.1) = false := by rfl) :
    PI X (.Tuple es k tpos) (.Call (.Name "zip" l) [e, e2] [] pos) (iZip2 X.K p q ta) where
  run pins s σ H R I h := by
    refine Call_ (ld_blt I hg hm PyProof.Rows.boot_zip (PyProof.Rows.callWith_type1 (thn (ha.run pos pins s σ H _ I h) ?_) hs hpl))
    rintro us s1 ⟨vs, H1, J, rr, a, b, xs, ys, rfl, g1, g2, R1⟩
    obtain ⟨u1, u2, rfl, c1, c2⟩ := vals2 rr
    cases (show u1 = Value.ref a from c1)
    cases (show u2 = Value.ref b from c2)
    obtain ⟨m1, _, p1, l1⟩ := stands J g1
    obtain ⟨m2, _, p2, l2⟩ := stands J g2
    obtain ⟨o1, B1, w1⟩ := begins (s := s1) p a m1.toArray
    obtain ⟨o2, B2, w2⟩ := begins (s := s1) q b m2.toArray
    refine zip_begins2 B1 B2 p1 p2 fun h' z1 U1 O1 k1 k2 _ kk => wpAny_pyIter_zip z1 ?_
    have J2 : Inv X pins σ H1 { s1 with heap := h' } := J.kept (t' := s1.toks) kk
    refine ⟨s1.heap.objs.size + 4, [s1.heap.objs.size + 4, s1.heap.objs.size + 2, s1.heap.objs.size + 3, s1.heap.objs.size, s1.heap.objs.size + 1], _, _, H1, rfl, J2, turn2 (zip_sep2 (N := s1.heap.objs.size) (fp1 := [a]) (fp2 := [b]) (fun c hc => ?_) fun c hc => ?_) (Nat.ne_of_lt l1) (Nat.ne_of_lt (Nat.lt_succ_of_lt l2)), ⟨⟨z1, U1, _, _, O1⟩, w1 _ _ k1, w2 _ _ k2⟩, fun c hc => ?_, R1⟩
    · rw [List.mem_singleton.mp hc]
      exact l1
    · rw [List.mem_singleton.mp hc]
      exact l2
    · have le : s1.heap.objs.size ≤ c := by
        rcases (by simpa using hc : c = s1.heap.objs.size + 4 ∨ c = s1.heap.objs.size + 2 ∨ c = s1.heap.objs.size + 3 ∨ c = s1.heap.objs.size ∨ c = s1.heap.objs.size + 1) with e | e | e | e | e <;> subst e
        · exact Nat.le_add_right _ 4
        · exact Nat.le_add_right _ 2
        · exact Nat.le_add_right _ 3
        · exact Nat.le_refl _
        · exact Nat.le_add_right _ 1
      exact J.fpOk le (J.hok.fresh le)
end Mz
namespace My
open PySem PySem.Spec PyProof.Rows L2
/-- a comprehension over any walk, without ifs, without drawing: of item i P holds -/
theorem lc_P {J : It} {n : Nat} {G : Hp → Prop} {Y : Nat → Hp → V → Hp → Prop} (w : Walk J n G Y) {te : TE} {g : TG} {vs : List Nat} {σ : L2.St} {H1 : Hp} {D : Addr} {Qd : Hp → Prop} (P : Nat → V → Hp → Prop) (hz : n ≤ 10000) (hD : H1 D = none) (hG : ∀ H, Same H1 H → G H)
    (hP : ∀ i v H H' acc, P i v H → H D = some (.lst acc) → (∀ b o, b ≠ D → H b = some o → H' b = some o) → P i v H')
    (ht : ∀ i x H H', i < n → Same H1 H → Y i H x H' → ∀ Q : VK, (∀ v H3, Same H H3 → P i v H3 → Q v H3) → g x (wipe σ vs) H' fun σ2 H2 => wipe σ2 vs = wipe σ vs ∧ te σ2 H2 Q)
    (k : ∀ ws H', Same H1 H' → H' D = some (.lst ws) → ws.length = n → (∀ i v, ws[i]? = some v → P i v H') → Qd H') :
    ∃ W : Nat → Nat → Hp → Prop, (∃ m, W 0 m (upd H1 D (.lst []))) ∧ ∀ i m H, W i m H →
      (J.stop i H ∧ Qd H) ∨ (J.go i H ∧ ∃ Nx : Hp → Prop, (∀ H', Nx H' → ∃ m', m' < m ∧ W (i + 1) m' H') ∧ ∀ x H', J.yld i H x H' → g x (wipe σ vs) H' fun σ2 H2 => wipe σ2 vs = wipe σ vs ∧ tYes σ2 H2 fun b H3 =>
        if b = true then te σ2 H3 fun y H4 => ∃ acc, H4 D = some (.lst acc) ∧ acc.length < sizeLine ∧ Nx (upd H4 D (.lst (acc ++ [y]))) else Nx H3) := by
  refine lc_it w (fun i H' => ∃ ws, Same H1 H' ∧ H' D = some (.lst ws) ∧ ws.length = i ∧ ∀ j v, ws[j]? = some v → P j v H') ⟨[], same_upd hD, upd_same, rfl, (fun _ _ z => nomatch z)⟩ (fun i H _ ⟨_, p, _⟩ => hG H p) ?_ ?_
  · rintro i x H H' hi ⟨ws, sm, hd, hl, hp⟩ y
    refine ht i x H H' hi sm y _ fun v H3 s3 pv => ?_
    have hd3 := s3 _ _ hd
    refine ⟨_, hd3, Nat.lt_of_lt_of_le (by omega : ws.length < 10001) (by decide), ws ++ [v], (sm.trans s3).mut hD, upd_same, by rw [List.length_append, hl]; rfl, fun j u hj => ?_⟩
    have up : ∀ j u, P j u H3 → P j u (upd H3 D (.lst (ws ++ [v]))) := fun j u hu => hP j u H3 _ _ hu hd3 fun b o hb e => by rw [upd_ne hb]; exact e
    rcases Nat.lt_trichotomy j i with c | c | c
    · rw [List.getElem?_append_left (by omega)] at hj
      exact up j u (hP j u H H3 _ (hp j u hj) hd fun b o _ e => s3 b o e)
    · subst c
      rw [List.getElem?_append_right (by omega), hl, Nat.sub_self] at hj
      cases hj
      exact up j v pv
    · rw [List.getElem?_eq_none (by rw [List.length_append, hl]; exact c)] at hj
      cases hj
  · rintro H' ⟨ws, sm, hd, hl, hp⟩
    exact k ws H' sm hd hl hp
end My
namespace My
open PySem PySem.Spec PyProof.Rows L2
theorem Go.tup {K : PySem.W.Frag} {a st p : Addr} {H H' : Hp} {xs : List V} (g : Go K st H H') (h : StAt K a st H) (e : H p = some (.tup xs)) : H' p = some (.tup xs) := g.keep p _ (h.ne e (fun _ z => nomatch z)) e
theorem takeA {K : PySem.W.Frag} {H : Hp} {a : Addr} {ns : List Int} {f : Int} {Q : VK} (hS : H a = some (.tup (ns.map V.int))) (h0 : 0 ≤ f) (h1 : f ≤ (ns.length : Int)) (k : ∀ (w : Addr) (H' : Hp), Same H H' → H' w = some (.tup ((ns.take f.toNat).map V.int)) → Q (.ref w) H') : rSlA K (.ref a) none (some f) H Q := by
  obtain ⟨j, rfl⟩ : ∃ j : Nat, f = (j : Int) := ⟨f.toNat, by omega⟩
  have ej : HT.sIx (ns.map V.int).length (ns.map V.int).length (some (j : Int)) = j := by
    rw [HT.sIx_nat, List.length_map]
    omega
  have e0 : HT.sIx (ns.map V.int).length 0 none = 0 := rfl
  refine ⟨a, _, rfl, SqT.of hS, fun c => ?_, fun c p hp => k p _ (same_upd hp) ?_⟩
  · refine k a H (Same.refl _) ?_
    have c2 := c.2
    rw [ej, List.length_map] at c2
    rw [hS, Int.toNat_natCast, c2, List.take_length]
  · rw [upd_same]
    unfold cutV
    rw [ej, e0, List.drop_zero, Nat.sub_zero, Int.toNat_natCast, List.map_take]
/-- t + u of tuples that stand in the heap -/
theorem catH {K : PySem.W.Frag} {H : Hp} {z t : Addr} {zs ns : List Int} {Q : VK} (hz : H z = some (.tup (zs.map V.int))) (ht : H t = some (.tup (ns.map V.int))) (hl : zs.length + ns.length ≤ 1000)
    (k : ∀ (w : Addr) (H' : Hp), Same H H' → H' w = some (.tup ((zs ++ ns).map V.int)) → Q (.ref w) H') : rCatA K (.ref z) (.ref t) H Q := by
  refine ⟨z, t, zs.map V.int, ns.map V.int, rfl, rfl, SqT.of hz, SqT.of ht, ?_, fun e => ?_, fun _ e => ?_, fun _ _ p hp => k p _ (same_upd hp) ?_⟩
  · rw [List.length_map, List.length_map]
    exact Nat.le_trans hl (by decide)
  · rw [List.map_eq_nil_iff] at e
    refine k t H (Same.refl H) ?_
    rw [e]
    exact ht
  · rw [List.map_eq_nil_iff] at e
    refine k z H (Same.refl H) ?_
    rw [e, List.append_nil]
    exact hz
  · rw [upd_same, List.map_append]
end My
namespace My
open PySem PySem.Spec PyProof.Rows L2
theorem lc_G {K : PySem.W.Frag} {st a : Addr} {J : It} {n : Nat} {G : Hp → Prop} {Y : Nat → Hp → V → Hp → Prop} (w : Walk J n G Y) {te : TE} {g : TG} {vs : List Nat} {σ : L2.St} {H1 : Hp} {D : Addr} {Qd : Hp → Prop} (P : Nat → V → Hp → Prop) (hS : StAt K a st H1) (hz : n ≤ 10000) (hD : H1 D = none) (hG : ∀ H, Go K st H1 H → G H)
    (hP : ∀ i v H H', P i v H → (∀ b o, b ≠ D → b ≠ st → H b = some o → H' b = some o) → P i v H')
    (ht : ∀ i x H H', i < n → Go K st H1 H → (∃ acc, H D = some (.lst acc)) → Y i H x H' → ∀ Q : VK, (∀ v H3, Go K st H H3 → P i v H3 → Q v H3) → g x (wipe σ vs) H' fun σ2 H2 => wipe σ2 vs = wipe σ vs ∧ te σ2 H2 Q)
    (k : ∀ ws H', Go K st H1 H' → H' D = some (.lst ws) → ws.length = n → (∀ i v, ws[i]? = some v → P i v H') → Qd H') :
    ∃ W : Nat → Nat → Hp → Prop, (∃ m, W 0 m (upd H1 D (.lst []))) ∧ ∀ i m H, W i m H →
      (J.stop i H ∧ Qd H) ∨ (J.go i H ∧ ∃ Nx : Hp → Prop, (∀ H', Nx H' → ∃ m', m' < m ∧ W (i + 1) m' H') ∧ ∀ x H', J.yld i H x H' → g x (wipe σ vs) H' fun σ2 H2 => wipe σ2 vs = wipe σ vs ∧ tYes σ2 H2 fun b H3 =>
        if b = true then te σ2 H3 fun y H4 => ∃ acc, H4 D = some (.lst acc) ∧ acc.length < sizeLine ∧ Nx (upd H4 D (.lst (acc ++ [y]))) else Nx H3) := by
  have hne := hS.fresh hD
  refine lc_it w (fun i H' => ∃ ws, Go K st H1 H' ∧ H' D = some (.lst ws) ∧ ws.length = i ∧ ∀ j v, ws[j]? = some v → P j v H') ⟨[], Go.new hD, upd_same, rfl, (fun _ _ z => nomatch z)⟩ (fun i H _ ⟨_, p, _⟩ => hG H p) ?_ ?_
  · rintro i x H H' hi ⟨ws, gg, hd, hl, hp⟩ y
    refine ht i x H H' hi gg ⟨_, hd⟩ y _ fun v H3 g3 pv => ?_
    have hd3 := g3.keep _ _ hne hd
    refine ⟨_, hd3, Nat.lt_of_lt_of_le (by omega : ws.length < 10001) (by decide), ws ++ [v], (gg.trans g3).mut hS hD, upd_same, by rw [List.length_append, hl]; rfl, fun j u hj => ?_⟩
    have up : ∀ j u, P j u H3 → P j u (upd H3 D (.lst (ws ++ [v]))) := fun j u hu => hP j u H3 _ hu fun b o hb _ e => by rw [upd_ne hb]; exact e
    rcases Nat.lt_trichotomy j i with c | c | c
    · rw [List.getElem?_append_left (by omega)] at hj
      exact up j u (hP j u H H3 (hp j u hj) fun b o _ hs e => g3.keep b o hs e)
    · subst c
      rw [List.getElem?_append_right (by omega), hl, Nat.sub_self] at hj
      cases hj
      exact up j v pv
    · rw [List.getElem?_eq_none (by rw [List.length_append, hl]; exact c)] at hj
      cases hj
  · rintro H' ⟨ws, gg, hd, hl, hp⟩
    exact k ws H' gg hd hl hp
theorem pick_ints : ∀ ws : List V, (∀ (i : Nat) (v : V), ws[i]? = some v → ∃ z : Int, v = .int z) → ∃ ts : List Int, ws = ts.map V.int
  | [], _ => ⟨[], rfl⟩
  | v :: ws, h => by
    obtain ⟨z, rfl⟩ := h 0 v rfl
    obtain ⟨ts, rfl⟩ := pick_ints ws fun i u hu => h (i + 1) u hu
    exact ⟨z :: ts, rfl⟩
end My
namespace Lm
open PySem PySem.Spec PyProof.Rows L2
theorem pe_fldK {X : Cx} {K : PySem.W.Frag} {e : Expr} {f : Str} {pos : Pos} {ta : TE} (h : X.K = K) (he : PE X e ta) (hb : attributeBase e f X.env (eval e X.env) = eval e X.env) :
    PE X (.Attribute e f pos) (tFld K ta f) := h ▸ pe_fld he hb
end Lm
namespace Lm
open PySem PySem.Spec PyProof.Rows L2
/-- a test of either answer, which changes nothing -/
theorem pt_any {X : Cx} {c : Expr} {t : TT} (h : PT X c t) : PT X c (fun σ H Q => t σ H (fun _ H1 => H1 = H) ∧ ∀ b, Q b H) := by
  refine ⟨fun pins s σ H Q I z => ?_⟩
  obtain ⟨h1, h2⟩ := z
  refine wpAny_mono (h.run pins s σ H _ I h1) (fun b s1 z => ?_) fun _ _ z => z
  obtain ⟨H1, I1, rfl⟩ := z
  exact ⟨H1, I1, h2 b⟩
end Lm
namespace My
open PySem PySem.Spec PyProof.Rows L2
def sp__law_apart (K : PySem.W.Frag) : Sp := fun vs H Q _ => ∃ (a b : Addr) (xs ys : List Int), vs = [.ref a, .ref b] ∧ SqT K H a (xs.map V.int) ∧ SqT K H b (ys.map V.int) ∧ xs.length ≤ 1000 ∧ ys.length ≤ 1000 ∧
  ∀ t t1 t2 H', Same H H' → H t = none → H' t = some (.tup [.ref t1, .ref t2]) → H' t1 = some (.tup ((diffL ys xs).map V.int)) → H' t2 = some (.tup ((diffL xs ys).map V.int)) → Q (.ref t) H'
end My
namespace My
open PySem PySem.Spec PyProof.Rows L2
/-- the turn of a comprehension over marks that asks «not in» -/
theorem notin_turn {K : PySem.W.Frag} {H2 : Hp} {b : Addr} {ys : List Int} {z : Int} {Q : VK} (hb : SqT K H2 b (ys.map V.int)) (q : Q (.bl (decide (z ∉ ys))) H2) : rIn K true (.int z) (.ref b) H2 Q := by
  refine ⟨b, _, rfl, .inr hb, rfl, flat_ints ys, ?_⟩
  rw [inV_ints]
  have e : (!decide (z ∈ ys)) = decide (z ∉ ys) := by by_cases c : z ∈ ys <;> simp [c]
  rw [if_pos rfl, e]
  exact q
theorem in_turn {K : PySem.W.Frag} {H2 : Hp} {b : Addr} {ys : List Int} {z : Int} {Q : VK} (hb : SqT K H2 b (ys.map V.int)) (q : Q (.bl (decide (z ∈ ys))) H2) : rIn K false (.int z) (.ref b) H2 Q := by
  refine ⟨b, _, rfl, .inr hb, rfl, flat_ints ys, ?_⟩
  rw [inV_ints]
  exact q
def sp_without (K : PySem.W.Frag) : Sp := fun vs H Q _ => ∃ (a b : Addr) (xs ys : List Int), vs = [.ref a, .ref b] ∧ SqT K H a (xs.map V.int) ∧ SqT K H b (ys.map V.int) ∧ xs.length ≤ 1000 ∧ ∀ t H', Same H H' → H t = none → H' t = some (.tup ((diffL xs ys).map V.int)) → Q (.ref t) H'
def sp_apart (K : PySem.W.Frag) (C : Addr) : Sp := fun vs H Q E => ∃ (a b : Addr) (xs ys : List Int), vs = [.ref a, .ref b] ∧ SqT K H a (xs.map V.int) ∧ SqT K H b (ys.map V.int) ∧ (isSetB xs = false ∨ isSetB ys = false → E (.ref C) none H) ∧
  (isSetB xs = true → isSetB ys = true → ∀ t t1 t2 H', Same H H' → H t = none → H' t = some (.tup [.ref t1, .ref t2]) → H' t1 = some (.tup ((diffL ys xs).map V.int)) → H' t2 = some (.tup ((diffL xs ys).map V.int)) → Q (.ref t) H')
def sp_mended (K : PySem.W.Frag) (C : Addr) : Sp := fun vs H Q E => ∃ (a b c : Addr) (xs ys zs : List Int), vs = [.ref a, .ref b, .ref c] ∧ SqT K H a (xs.map V.int) ∧ SqT K H b (ys.map V.int) ∧ SqT K H c (zs.map V.int) ∧ (isSetB xs = false ∨ isSetB ys = false ∨ isSetB zs = false → E (.ref C) none H) ∧
  (isSetB xs = true → isSetB ys = true → isSetB zs = true → ∀ t H', Same H H' → H t = none → H' t = some (.tup ((mendL xs ys zs).map V.int)) → Q (.ref t) H')
end My
namespace My
open PySem PySem.Spec PyProof.Rows L2
theorem putF_le (f : Str) (v : V) : ∀ fs : List (Str × V), (putF f v fs).length ≤ fs.length + 1
  | [] => Nat.le_refl _
  | (g, w) :: r => by
    have ih := putF_le f v r
    unfold putF
    split
    · exact Nat.le_succ _
    · show _ + 1 ≤ _ + 1 + 1
      exact Nat.succ_le_succ ih
end My
namespace My
open PySem PySem.Spec PyProof.Rows L2
/-! ### lists of lists, what a house and its mirror hold -/
/-- lists at these addresses, and tables, alone may change -/
def MvT (S : List Addr) (H H' : Hp) : Prop := ∀ p o, H p = some o → (∀ ps, o ≠ .tbl ps) → ((∃ xs, o = .lst xs) → p ∉ S) → H' p = some o
theorem MvT.of {S : List Addr} {H H' : Hp} (s : Same H H') : MvT S H H' := fun p o e _ _ => s p o e
theorem MvT.extN {S : List Addr} {H H' : Hp} (s : LamX.ExtN H H') : MvT S H H' := fun p o e n _ => s p o e n
theorem MvT.trans {S : List Addr} {H H1 H2 : Hp} (x : MvT S H H1) (y : MvT S H1 H2) : MvT S H H2 := fun p o e n h => y p o (x p o e n h) n h
theorem MvT.mono {S S' : List Addr} {H H' : Hp} (x : MvT S H H') (h : ∀ p ∈ S, p ∈ S') : MvT S' H H' := fun p o e m n => x p o e m fun z hp => n z (h p hp)
theorem MvT.go {K : PySem.W.Frag} {a st : Addr} {H H' : Hp} (g : Go K st H H') (S : StAt K a st H) : MvT [st] H H' := fun p o e _ n => g.keep p o (fun z => by
  subst z
  obtain ⟨⟨i, m, r, _, hs⟩, _⟩ := S
  rw [hs] at e
  exact n ⟨_, (Option.some.inj e).symm⟩ (List.mem_singleton.mpr rfl)) e
theorem MvT.tup {S : List Addr} {H H' : Hp} {p : Addr} {xs : List V} (m : MvT S H H') (e : H p = some (.tup xs)) : H' p = some (.tup xs) := m p _ e (fun _ z => nomatch z) fun ⟨_, z⟩ => nomatch z
theorem MvT.ins {S : List Addr} {H H' : Hp} {p C dx : Addr} {fs : List (Str × V)} (m : MvT S H H') (e : H p = some (.ins C dx fs)) : H' p = some (.ins C dx fs) := m p _ e (fun _ z => nomatch z) fun ⟨_, z⟩ => nomatch z
theorem MvT.dk {S : List Addr} {H H' : Hp} {p : Addr} {kvs : List (Key × V)} (m : MvT S H H') (e : H p = some (.dK kvs)) : H' p = some (.dK kvs) := m p _ e (fun _ z => nomatch z) fun ⟨_, z⟩ => nomatch z
theorem MvT.lst {S : List Addr} {H H' : Hp} {p : Addr} {xs : List V} (m : MvT S H H') (e : H p = some (.lst xs)) (n : p ∉ S) : H' p = some (.lst xs) := m p _ e (fun _ z => nomatch z) fun _ => n
theorem MvT.upd {S : List Addr} {H : Hp} {p : Addr} {xs : List V} {o : HO} (hp : p ∈ S) (e : H p = some (.lst xs)) : MvT S H (L2.upd H p o) := fun b u hb _ n => by
  have nb : b ≠ p := fun z => by
    subst z
    rw [e] at hb
    exact n ⟨_, (Option.some.inj hb).symm⟩ hp
  rw [upd_ne nb]
  exact hb
/-- lists at these addresses alone may change -/
def Mv (S : List Addr) (H H' : Hp) : Prop := ∀ p o, H p = some o → ((∃ xs, o = .lst xs) → p ∉ S) → H' p = some o
theorem Mv.w {S : List Addr} {H H' : Hp} (m : Mv S H H') : MvT S H H' := fun p o e _ n => m p o e n
theorem Mv.of {S : List Addr} {H H' : Hp} (s : Same H H') : Mv S H H' := fun p o e _ => s p o e
theorem Mv.trans {S : List Addr} {H H1 H2 : Hp} (x : Mv S H H1) (y : Mv S H1 H2) : Mv S H H2 := fun p o e h => y p o (x p o e h) h
theorem Mv.mono {S S' : List Addr} {H H' : Hp} (x : Mv S H H') (h : ∀ p ∈ S, p ∈ S') : Mv S' H H' := fun p o e n => x p o e fun z hp => n z (h p hp)
theorem Mv.go {K : PySem.W.Frag} {a st : Addr} {H H' : Hp} (g : Go K st H H') (S : StAt K a st H) : Mv [st] H H' := fun p o e n => g.keep p o (fun z => by
  subst z
  obtain ⟨⟨i, m, r, _, hs⟩, _⟩ := S
  rw [hs] at e
  exact n ⟨_, (Option.some.inj e).symm⟩ (List.mem_singleton.mpr rfl)) e
theorem Mv.tup {S : List Addr} {H H' : Hp} {p : Addr} {xs : List V} (m : Mv S H H') (e : H p = some (.tup xs)) : H' p = some (.tup xs) := m.w.tup e
theorem Mv.ins {S : List Addr} {H H' : Hp} {p C dx : Addr} {fs : List (Str × V)} (m : Mv S H H') (e : H p = some (.ins C dx fs)) : H' p = some (.ins C dx fs) := m.w.ins e
theorem Mv.dk {S : List Addr} {H H' : Hp} {p : Addr} {kvs : List (Key × V)} (m : Mv S H H') (e : H p = some (.dK kvs)) : H' p = some (.dK kvs) := m.w.dk e
theorem Mv.lst {S : List Addr} {H H' : Hp} {p : Addr} {xs : List V} (m : Mv S H H') (e : H p = some (.lst xs)) (n : p ∉ S) : H' p = some (.lst xs) := m.w.lst e n
theorem Mv.upd {S : List Addr} {H : Hp} {p : Addr} {xs : List V} {o : HO} (hp : p ∈ S) (e : H p = some (.lst xs)) : Mv S H (L2.upd H p o) := fun b u hb n => by
  have nb : b ≠ p := fun z => by
    subst z
    rw [e] at hb
    exact n ⟨_, (Option.some.inj hb).symm⟩ hp
  rw [upd_ne nb]
  exact hb
theorem Mv.tabs {S : List Addr} {T : List (Addr × Str)} {H H' : Hp} (m : Mv S H H') (t : LamX.Tabs T H) : LamX.Tabs T H' := fun p hp => by
  obtain ⟨ps, h1, h2, h3⟩ := t p hp
  refine ⟨ps, m _ _ h1 (fun ⟨_, z⟩ => nomatch z), h2, fun pos cv hc => ?_⟩
  obtain ⟨c, e1, e2⟩ := h3 pos cv hc
  exact ⟨c, e1, m _ _ e2 fun ⟨_, z⟩ => nomatch z⟩
/-- lists that are none of the state's -/
def OffK (K : PySem.W.Frag) (a st : Addr) (S : List Addr) : Prop := st ∉ S ∧ (a ∉ S ∨ ∃ ns : List Int, ∀ H, SqL K H a (ns.map V.int))
theorem StAt.off {K : PySem.W.Frag} {a st : Addr} {S : List Addr} {H : Hp} (h : StAt K a st H) (hf : ∀ p ∈ S, H p = none) : OffK K a st S := by
  obtain ⟨⟨i, k, r, hi, hs⟩, ns, hn⟩ := h
  refine ⟨fun z => ?_, ?_⟩
  · rw [hf _ z] at hs
    cases hs
  · rcases hn with (e | ⟨o, e⟩) | e
    · exact .inl fun z => by
        rw [hf _ z] at e
        cases e
    · exact .inl fun z => by
        rw [hf _ z] at e
        cases e
    · exact .inr ⟨ns, fun H => .inr e⟩
/-- a state that other lists' changes leave -/
theorem StAt.mv {K : PySem.W.Frag} {a st : Addr} {S : List Addr} {H H' : Hp} (h : StAt K a st H) (m : MvT S H H') (o : OffK K a st S) : StAt K a st H' := by
  obtain ⟨⟨i, k, r, hi, hs⟩, ns, hn⟩ := h
  refine ⟨⟨i, k, r, hi, m.lst hs o.1⟩, ?_⟩
  rcases o.2 with h2 | ⟨ns2, h2⟩
  · refine ⟨ns, ?_⟩
    rcases hn with (e | ⟨o, e⟩) | e
    · exact .inl (.inl (m.lst e h2))
    · exact .inl (.inr ⟨o, m _ _ e (fun _ z => nomatch z) fun ⟨_, z⟩ => nomatch z⟩)
    · exact .inr e
  · exact ⟨ns2, h2 H'⟩
theorem OffK.left {K : PySem.W.Frag} {a st : Addr} {S S' : List Addr} (o : OffK K a st S') (h : ∀ p ∈ S, p ∈ S') : OffK K a st S := ⟨fun z => o.1 (h _ z), o.2.imp (fun n z => n (h _ z)) id⟩
def rowV (n : Nat) (f : Nat → Int) : List V := (List.range n).map fun j => V.int (f j)
theorem rowV_len (n : Nat) (f : Nat → Int) : (rowV n f).length = n := by
  unfold rowV
  rw [List.length_map, List.length_range]
theorem rowV_at {n j : Nat} (f : Nat → Int) (h : j < n) : (rowV n f)[j]? = some (.int (f j)) := by
  unfold rowV
  rw [List.getElem?_map, List.getElem?_range h]
  rfl
theorem rowV_set {n j : Nat} (f : Nat → Int) (v : Int) (h : j < n) : (rowV n f).set j (.int v) = rowV n fun b => if b = j then v else f b := by
  refine List.ext_getElem? fun k => ?_
  by_cases hk : k < n
  · rw [rowV_at _ hk, List.getElem?_set]
    by_cases e : j = k
    · subst e
      rw [if_pos rfl, if_pos (by rw [rowV_len]; exact hk), if_pos rfl]
    · rw [if_neg e, rowV_at _ hk, if_neg (fun z => e z.symm)]
  · rw [List.getElem?_eq_none (by rw [List.length_set, rowV_len]; omega), List.getElem?_eq_none (by rw [rowV_len]; omega)]
theorem rowV_congr {n : Nat} {f g : Nat → Int} (h : ∀ j, j < n → f j = g j) : rowV n f = rowV n g := by
  unfold rowV
  exact List.map_congr_left fun j hj => by rw [h j (List.mem_range.mp hj)]
theorem atI_int {xs : List V} {i : Int} {v : V} (h0 : 0 ≤ i) (h : xs[i.toNat]? = some v) : atI xs i = some v := by
  obtain ⟨j, rfl⟩ := Int.eq_ofNat_of_zero_le h0
  exact atI_nat h
structure TabAt (H : Hp) (d : Addr) (rows : List Addr) (n : Nat) (f : Nat → Nat → Int) : Prop where
  top : H d = some (.lst (rows.map V.ref))
  len : rows.length = n
  row : ∀ i r, rows[i]? = some r → H r = some (.lst (rowV n (f i)))
structure SetsAt (H : Hp) (l : Addr) (n : Nat) (S : Nat → List Int) : Prop where
  ex : ∃ as : List Addr, H l = some (.lst (as.map V.ref)) ∧ as.length = n ∧ ∀ i a, as[i]? = some a → H a = some (.tup ((S i).map V.int))
theorem SetsAt.get {H : Hp} {l : Addr} {n : Nat} {S : Nat → List Int} (t : SetsAt H l n S) {i : Int} (h0 : 0 ≤ i) (h : i < n) : ∃ xs p, H l = some (.lst xs) ∧ xs.length = n ∧ atI xs i = some (.ref p) ∧ H p = some (.tup ((S i.toNat).map V.int)) := by
  obtain ⟨as, h1, h2, h3⟩ := t.ex
  have hk := List.getElem?_eq_getElem (by omega : i.toNat < as.length)
  exact ⟨_, _, h1, by rw [List.length_map]; exact h2, atI_int h0 (by rw [List.getElem?_map, hk]; rfl), h3 _ _ hk⟩
theorem TabAt.get {H : Hp} {d : Addr} {rows : List Addr} {n : Nat} {f : Nat → Nat → Int} (t : TabAt H d rows n f) {i j : Int} (h0 : 0 ≤ i) (h : i < n) (k0 : 0 ≤ j) (k : j < n) : ∃ r, rows[i.toNat]? = some r ∧ atI (rows.map V.ref) i = some (.ref r) ∧ H r = some (.lst (rowV n (f i.toNat))) ∧ atI (rowV n (f i.toNat)) j = some (.int (f i.toNat j.toNat)) := by
  have hr := List.getElem?_eq_getElem (by rw [t.len]; omega : i.toNat < rows.length)
  exact ⟨_, hr, atI_int h0 (by rw [List.getElem?_map, hr]; rfl), t.row _ _ hr, atI_int k0 (rowV_at _ (by omega))⟩
theorem TabAt.ex {H : Hp} {d : Addr} {rows : List Addr} {n : Nat} {f : Nat → Nat → Int} (t : TabAt H d rows n f) {i : Nat} (h : i < n) : ∃ r, rows[i]? = some r ∧ (rows.map V.ref)[i]? = some (.ref r) ∧ H r = some (.lst (rowV n (f i))) := by
  have hr := List.getElem?_eq_getElem (by rw [t.len]; exact h : i < rows.length)
  exact ⟨_, hr, by rw [List.getElem?_map, hr]; rfl, t.row i _ hr⟩
theorem TabAt.mv {S : List Addr} {H H' : Hp} {d : Addr} {rows : List Addr} {n : Nat} {f : Nat → Nat → Int} (t : TabAt H d rows n f) (m : MvT S H H') (hd : d ∉ S) (hr : ∀ r ∈ rows, r ∉ S) : TabAt H' d rows n f :=
  ⟨m.lst t.top hd, t.len, fun i r e => m.lst (t.row i r e) (hr r (List.mem_of_getElem? e))⟩
theorem SetsAt.mv {S : List Addr} {H H' : Hp} {l : Addr} {n : Nat} {f : Nat → List Int} (t : SetsAt H l n f) (m : MvT S H H') (hl : l ∉ S) : SetsAt H' l n f := by
  obtain ⟨as, h1, h2, h3⟩ := t.ex
  exact ⟨as, m.lst h1 hl, h2, fun i a e => m.tup (h3 i a e)⟩
/-- a row is stored -/
theorem TabAt.set {H : Hp} {d : Addr} {rows : List Addr} {n : Nat} {f : Nat → Nat → Int} (t : TabAt H d rows n f) (nd : rows.Nodup) (hd : d ∉ rows) {i : Nat} {r : Addr} (hr : rows[i]? = some r) (g : Nat → Int) :
    TabAt (upd H r (.lst (rowV n g))) d rows n (fun a b => if a = i then g b else f a b) := by
  have hm := List.mem_of_getElem? hr
  refine ⟨?_, t.len, fun k p hp => ?_⟩
  · have nd2 : d ≠ r := fun z => hd (by rw [z]; exact hm)
    rw [upd_ne nd2]
    exact t.top
  · by_cases e : k = i
    · subst e
      rw [hr] at hp
      cases hp
      rw [upd_same]
      simp
    · have np : p ≠ r := fun z => by
        subst z
        obtain ⟨h1, h2⟩ := List.getElem?_eq_some_iff.mp hr
        obtain ⟨h3, h4⟩ := List.getElem?_eq_some_iff.mp hp
        rcases Nat.lt_or_gt_of_ne e with c | c
        · exact List.pairwise_iff_getElem.mp nd k i h3 h1 c (h4.trans h2.symm)
        · exact List.pairwise_iff_getElem.mp nd i k h1 h3 c (h2.trans h4.symm)
      rw [upd_ne np]
      simp only [if_neg e]
      exact t.row k p hp
def setS (S : Nat → List Int) (i : Nat) (ns : List Int) : Nat → List Int := fun k => if k = i then ns else S k
theorem SetsAt.set {H : Hp} {l : Addr} {n : Nat} {S : Nat → List Int} (as : List Addr) (h1 : H l = some (.lst (as.map V.ref))) (h2 : as.length = n) (h3 : ∀ i a, as[i]? = some a → H a = some (.tup ((S i).map V.int))) {i : Nat} (hi : i < n) {a : Addr} {ns : List Int} (ha : H a = some (.tup (ns.map V.int))) :
    SetsAt (upd H l (.lst ((as.map V.ref).set i (.ref a)))) l n (setS S i ns) := by
  refine ⟨as.set i a, ?_, by rw [List.length_set]; exact h2, fun k p hp => ?_⟩
  · rw [upd_same, List.map_set]
  · rw [List.getElem?_set] at hp
    unfold setS
    by_cases e : i = k
    · subst e
      rw [if_pos rfl, if_pos (by omega)] at hp
      cases hp
      rw [if_pos rfl, upd_ne (ne_of ha h1 fun z => nomatch z)]
      exact ha
    · rw [if_neg e] at hp
      rw [if_neg fun z => e z.symm, upd_ne (ne_of (h3 k p hp) h1 fun z => nomatch z)]
      exact h3 k p hp
/-- where the lists of a house stand -/
structure Cr where
  l : Addr
  d : Addr
  t : Addr
  rd : List Addr
  rt : List Addr
def Cr.ls (c : Cr) : List Addr := c.l :: c.d :: c.t :: (c.rd ++ c.rt)
structure CoreAt (H : Hp) (c : Cr) (n : Nat) (S : Nat → List Int) (D T : Nat → Nat → Int) : Prop where
  sets : SetsAt H c.l n S
  deeds : TabAt H c.d c.rd n D
  turns : TabAt H c.t c.rt n T
  nd : c.ls.Nodup
  n0 : 2 ≤ n
  n4 : n ≤ 4
  ok : ∀ i, SetL (S i)
theorem Cr.l_mem (c : Cr) : c.l ∈ c.ls := List.mem_cons_self
theorem Cr.d_mem (c : Cr) : c.d ∈ c.ls := List.mem_cons_of_mem _ List.mem_cons_self
theorem Cr.t_mem (c : Cr) : c.t ∈ c.ls := List.mem_cons_of_mem _ (List.mem_cons_of_mem _ List.mem_cons_self)
theorem Cr.rd_mem {c : Cr} {r : Addr} (h : r ∈ c.rd) : r ∈ c.ls := List.mem_cons_of_mem _ (List.mem_cons_of_mem _ (List.mem_cons_of_mem _ (List.mem_append_left _ h)))
theorem Cr.rt_mem {c : Cr} {r : Addr} (h : r ∈ c.rt) : r ∈ c.ls := List.mem_cons_of_mem _ (List.mem_cons_of_mem _ (List.mem_cons_of_mem _ (List.mem_append_right _ h)))
theorem CoreAt.mv {X : List Addr} {H H' : Hp} {c : Cr} {n : Nat} {S : Nat → List Int} {D T : Nat → Nat → Int} (h : CoreAt H c n S D T) (m : MvT X H H') (o : ∀ p ∈ c.ls, p ∉ X) : CoreAt H' c n S D T :=
  ⟨h.sets.mv m (o _ c.l_mem), h.deeds.mv m (o _ c.d_mem) fun r hr => o _ (Cr.rd_mem hr), h.turns.mv m (o _ c.t_mem) fun r hr => o _ (Cr.rt_mem hr), h.nd, h.n0, h.n4, h.ok⟩
theorem CoreAt.alive {H : Hp} {c : Cr} {n : Nat} {S : Nat → List Int} {D T : Nat → Nat → Int} (h : CoreAt H c n S D T) : ∀ p ∈ c.ls, H p ≠ none := fun w z nw => by
  rcases List.mem_cons.mp z with rfl | z
  · obtain ⟨_, e, _⟩ := h.sets.ex
    rw [e] at nw
    cases nw
  rcases List.mem_cons.mp z with rfl | z
  · rw [h.deeds.top] at nw
    cases nw
  rcases List.mem_cons.mp z with rfl | z
  · rw [h.turns.top] at nw
    cases nw
  rcases List.mem_append.mp z with z | z
  · obtain ⟨j, hj⟩ := List.mem_iff_getElem?.mp z
    rw [h.deeds.row j w hj] at nw
    cases nw
  · obtain ⟨j, hj⟩ := List.mem_iff_getElem?.mp z
    rw [h.turns.row j w hj] at nw
    cases nw
theorem CoreAt.same {H H' : Hp} {c : Cr} {n : Nat} {S : Nat → List Int} {D T : Nat → Nat → Int} (h : CoreAt H c n S D T) (s : Same H H') : CoreAt H' c n S D T := h.mv (MvT.of (S := []) s) fun _ _ z => nomatch z
/-- how the addresses stand apart -/
theorem Cr.off {c : Cr} (h : c.ls.Nodup) : (c.l ≠ c.d ∧ c.l ≠ c.t ∧ c.d ≠ c.t) ∧ (c.l ∉ c.rd ∧ c.l ∉ c.rt) ∧ (c.d ∉ c.rd ∧ c.d ∉ c.rt) ∧ (c.t ∉ c.rd ∧ c.t ∉ c.rt) ∧ c.rd.Nodup ∧ c.rt.Nodup ∧ (∀ r ∈ c.rd, r ∉ c.rt) := by
  unfold Cr.ls at h
  simp only [List.nodup_cons, List.mem_cons, List.mem_append, not_or, List.nodup_append] at h
  obtain ⟨⟨h1, h2, h3, h4⟩, ⟨h5, h6, h7⟩, ⟨h8, h9⟩, h10, h11, h12⟩ := h
  exact ⟨⟨h1, h2, h5⟩, ⟨h3, h4⟩, ⟨h6, h7⟩, ⟨h8, h9⟩, h10, h11, fun r hr hr2 => h12 r hr r hr2 rfl⟩
theorem CoreAt.setD {H : Hp} {c : Cr} {n : Nat} {S : Nat → List Int} {D T : Nat → Nat → Int} (h : CoreAt H c n S D T) {i : Nat} {r : Addr} (hr : c.rd[i]? = some r) (g : Nat → Int) :
    CoreAt (upd H r (.lst (rowV n g))) c n S (fun a b => if a = i then g b else D a b) T := by
  obtain ⟨o1, o2, o3, o4, o5, o6, o7⟩ := Cr.off h.nd
  have hm := List.mem_of_getElem? hr
  have m : MvT [r] H (upd H r (.lst (rowV n g))) := MvT.upd (List.mem_singleton.mpr rfl) (h.deeds.row i r hr)
  have no : ∀ p, p ≠ r → p ∉ [r] := fun p hp z => hp (List.mem_singleton.mp z)
  exact ⟨h.sets.mv m (no _ fun z => o2.1 (z ▸ hm)), h.deeds.set o5 o3.1 hr g, h.turns.mv m (no _ fun z => o4.1 (z ▸ hm)) fun q hq => no _ fun z => o7 r hm (z ▸ hq), h.nd, h.n0, h.n4, h.ok⟩
theorem CoreAt.setT {H : Hp} {c : Cr} {n : Nat} {S : Nat → List Int} {D T : Nat → Nat → Int} (h : CoreAt H c n S D T) {i : Nat} {r : Addr} (hr : c.rt[i]? = some r) (g : Nat → Int) :
    CoreAt (upd H r (.lst (rowV n g))) c n S D (fun a b => if a = i then g b else T a b) := by
  obtain ⟨o1, o2, o3, o4, o5, o6, o7⟩ := Cr.off h.nd
  have hm := List.mem_of_getElem? hr
  have m : MvT [r] H (upd H r (.lst (rowV n g))) := MvT.upd (List.mem_singleton.mpr rfl) (h.turns.row i r hr)
  have no : ∀ p, p ≠ r → p ∉ [r] := fun p hp z => hp (List.mem_singleton.mp z)
  exact ⟨h.sets.mv m (no _ fun z => o2.2 (z ▸ hm)), h.deeds.mv m (no _ fun z => o3.2 (z ▸ hm)) (fun q hq => no _ fun z => o7 q hq (z ▸ hm)), h.turns.set o6 o4.2 hr g, h.nd, h.n0, h.n4, h.ok⟩
theorem CoreAt.setL {H : Hp} {c : Cr} {n : Nat} {S : Nat → List Int} {D T : Nat → Nat → Int} (h : CoreAt H c n S D T) {as : List Addr} (h1 : H c.l = some (.lst (as.map V.ref))) (h2 : as.length = n) (h3 : ∀ i a, as[i]? = some a → H a = some (.tup ((S i).map V.int)))
    {i : Nat} (hi : i < n) {a : Addr} {ns : List Int} (ha : H a = some (.tup (ns.map V.int))) (hn : SetL ns) :
    CoreAt (upd H c.l (.lst ((as.map V.ref).set i (.ref a)))) c n (setS S i ns) D T := by
  obtain ⟨o1, o2, o3, o4, o5, o6, o7⟩ := Cr.off h.nd
  have m : MvT [c.l] H (upd H c.l (.lst ((as.map V.ref).set i (.ref a)))) := MvT.upd (List.mem_singleton.mpr rfl) h1
  have no : ∀ p, p ≠ c.l → p ∉ [c.l] := fun p hp z => hp (List.mem_singleton.mp z)
  refine ⟨SetsAt.set as h1 h2 h3 hi ha, h.deeds.mv m (no _ o1.1.symm) (fun q hq => no _ fun z => o2.1 (z ▸ hq)), h.turns.mv m (no _ o1.2.1.symm) (fun q hq => no _ fun z => o2.2 (z ▸ hq)), h.nd, h.n0, h.n4, fun k => ?_⟩
  unfold setS
  split
  · exact hn
  · exact h.ok k
/-- a hand's deeds to these others grow -/
def gainL (D : Nat → Nat → Int) (i : Nat) (L : List Nat) (k : Int) : Nat → Nat → Int := fun a b => if a = i ∧ b ∈ L then D a b + k else D a b
def othersN (n i : Nat) : List Nat := (List.range n).filter fun k => decide (k ≠ i)
/-- a hand's deeds to all others grow -/
def gainD (D : Nat → Nat → Int) (i n : Nat) (k : Int) : Nat → Nat → Int := gainL D i (othersN n i) k
theorem gainL_nil {D : Nat → Nat → Int} {i : Nat} {k : Int} : gainL D i [] k = D := by
  funext a b
  unfold gainL
  rw [if_neg fun z => nomatch z.2]
theorem gainL_old {D : Nat → Nat → Int} {i m : Nat} {L : List Nat} {k : Int} (h : m ∉ L) : gainL D i L k i m = D i m := by
  unfold gainL
  rw [if_neg fun z => h z.2]
theorem othersN_lt {n i m : Nat} (h : m ∈ othersN n i) : m < n ∧ m ≠ i := by
  unfold othersN at h
  rw [List.mem_filter, List.mem_range, decide_eq_true_eq] at h
  exact h
theorem othersN_nd (n i : Nat) : (othersN n i).Nodup := List.Pairwise.filter _ List.nodup_range
theorem othersN_succ {m i : Nat} : othersN (m + 1) i = if m = i then othersN m i else othersN m i ++ [m] := by
  unfold othersN
  rw [List.range_succ, List.filter_append]
  by_cases c : m = i
  · rw [if_pos c]
    simp [c]
  · rw [if_neg c]
    simp [c]
theorem othersN_self {m i : Nat} : m ∉ othersN m i := fun z => Nat.lt_irrefl _ (othersN_lt z).1
theorem take_nd {L : List Nat} (h : L.Nodup) {j m : Nat} (e : L[j]? = some m) : m ∉ L.take j := fun z => by
  obtain ⟨i, hi⟩ := List.mem_iff_getElem?.mp z
  obtain ⟨h1, h2⟩ := List.getElem?_eq_some_iff.mp hi
  obtain ⟨h3, h4⟩ := List.getElem?_eq_some_iff.mp e
  rw [List.length_take] at h1
  rw [List.getElem_take] at h2
  exact List.pairwise_iff_getElem.mp h i j (by omega) h3 (by omega) (h2.trans h4.symm)
theorem CoreAt.congrD {H : Hp} {c : Cr} {n : Nat} {S : Nat → List Int} {D D' T : Nat → Nat → Int} (h : CoreAt H c n S D T) (e : ∀ a b, b < n → D a b = D' a b) : CoreAt H c n S D' T :=
  ⟨h.sets, ⟨h.deeds.top, h.deeds.len, fun i r hr => by rw [h.deeds.row i r hr, rowV_congr (e i)]⟩, h.turns, h.nd, h.n0, h.n4, h.ok⟩
/-- one more hand's turn of the growing -/
theorem gain_turn {H : Hp} {c : Cr} {n i m : Nat} {L : List Nat} {S : Nat → List Int} {D T : Nat → Nat → Int} {k : Int} (h : CoreAt H c n S (gainL D i L k) T) (hm : m < n) (hne : m ∉ L) {r : Addr} (hr : c.rd[i]? = some r) :
    CoreAt (upd H r (.lst ((rowV n (gainL D i L k i)).set m (.int (D i m + k))))) c n S (gainL D i (L ++ [m]) k) T := by
  rw [rowV_set _ _ hm]
  refine (h.setD hr _).congrD fun a b hb => ?_
  unfold gainL
  by_cases e : a = i
  · subst e
    rw [if_pos rfl]
    by_cases e2 : b = m
    · subst e2
      rw [if_pos rfl, if_pos ⟨rfl, List.mem_append_right _ (List.mem_singleton.mpr rfl)⟩]
    · rw [if_neg e2]
      by_cases c1 : b ∈ L
      · rw [if_pos ⟨rfl, c1⟩, if_pos ⟨rfl, List.mem_append_left _ c1⟩]
      · rw [if_neg fun z => c1 z.2, if_neg fun z => (List.mem_append.mp z.2).elim c1 fun w => e2 (List.mem_singleton.mp w)]
  · rw [if_neg e, if_neg fun z => e z.1, if_neg fun z => e z.1]
theorem cr_nd {p d e : Addr} {rows rows2 : List Addr} {P1 P2 : Addr → Prop} (h1 : ¬ P1 p) (h2 : ∀ q ∈ d :: rows, P1 q) (h3 : ∀ q ∈ p :: d :: rows, ¬ P2 q) (h4 : ∀ q ∈ e :: rows2, P2 q) (n1 : (d :: rows).Nodup) (n2 : (e :: rows2).Nodup) :
    (Cr.ls ⟨p, d, e, rows, rows2⟩).Nodup := by
  have o1 : ∀ q ∈ d :: rows, p ≠ q := fun q hq z => h1 (z ▸ h2 q hq)
  have o2 : ∀ q ∈ e :: rows2, ∀ r ∈ p :: d :: rows, r ≠ q := fun q hq r hr z => h3 r hr (z ▸ h4 q hq)
  have m1 : ∀ q ∈ rows, q ∈ d :: rows := fun q h => List.mem_cons_of_mem _ h
  have m2 : ∀ q ∈ rows2, q ∈ e :: rows2 := fun q h => List.mem_cons_of_mem _ h
  have m3 : ∀ q ∈ d :: rows, q ∈ p :: d :: rows := fun q h => List.mem_cons_of_mem _ h
  have k1 := List.nodup_cons.mp n1
  have k2 := List.nodup_cons.mp n2
  show (p :: d :: e :: (rows ++ rows2)).Nodup
  refine List.nodup_cons.mpr ⟨fun z => ?_, List.nodup_cons.mpr ⟨fun z => ?_, List.nodup_cons.mpr ⟨fun z => ?_, List.nodup_append.mpr ⟨k1.2, k2.2, fun q hq r hr => o2 r (m2 r hr) q (m3 q (m1 q hq))⟩⟩⟩⟩
  · rcases List.mem_cons.mp z with z | z
    · exact o1 d List.mem_cons_self z
    · rcases List.mem_cons.mp z with z | z
      · exact o2 e List.mem_cons_self p List.mem_cons_self z
      · rcases List.mem_append.mp z with z | z
        · exact o1 p (m1 p z) rfl
        · exact o2 p (m2 p z) p List.mem_cons_self rfl
  · rcases List.mem_cons.mp z with z | z
    · exact o2 e List.mem_cons_self d (m3 d List.mem_cons_self) z
    · rcases List.mem_append.mp z with z | z
      · exact k1.1 z
      · exact o2 d (m2 d z) d (m3 d List.mem_cons_self) rfl
  · rcases List.mem_append.mp z with z | z
    · exact o2 e List.mem_cons_self e (m3 e (m1 e z)) rfl
    · exact k2.1 z
theorem rowV_zero (n : Nat) : rowV n (fun _ => 0) = List.replicate n (.int 0) := by
  unfold rowV
  rw [List.map_const', List.length_range]
theorem rep_one {α : Type} (n : Nat) (x : α) : (List.replicate ((n : Int)).toNat [x]).flatten = List.replicate n x := by
  rw [Int.toNat_natCast, List.flatten_replicate_singleton]
/-! ### a house, and what the law holds beside it -/
def houseF (l d t : Addr) : List (Str × V) := putF "_turns" (.ref t) (putF "_deeds" (.ref d) (putF "_sets" (.ref l) []))
theorem houseF_turns (l d t : Addr) : (houseF l d t).lookup ("_turns" : Str) = some (.ref t) := by
  unfold houseF
  rw [lookup_putF, if_pos rfl]
theorem houseF_deeds (l d t : Addr) : (houseF l d t).lookup ("_deeds" : Str) = some (.ref d) := by
  unfold houseF
  rw [lookup_putF, if_neg (by decide +kernel), lookup_putF, if_pos rfl]
theorem houseF_sets (l d t : Addr) : (houseF l d t).lookup ("_sets" : Str) = some (.ref l) := by
  unfold houseF
  rw [lookup_putF, if_neg (by decide +kernel), lookup_putF, if_neg (by decide +kernel), lookup_putF, if_pos rfl]
theorem houseF_no (l d t : Addr) {m : Str} (h1 : ¬ m = "_turns") (h2 : ¬ m = "_deeds") (h3 : ¬ m = "_sets") : (houseF l d t).lookup m = none := by
  unfold houseF
  rw [lookup_putF, if_neg h1, lookup_putF, if_neg h2, lookup_putF, if_neg h3]
  rfl
theorem houseF_m {l d t : Addr} {m : Str} (h : decide (m = "_turns") = false ∧ decide (m = "_deeds") = false ∧ decide (m = "_sets") = false) : (houseF l d t).lookup m = none := houseF_no l d t (of_decide_eq_false h.1) (of_decide_eq_false h.2.1) (of_decide_eq_false h.2.2)
structure HouseAt (C : Addr) (H : Hp) (x : Addr) (c : Cr) (n : Nat) (S : Nat → List Int) (D T : Nat → Nat → Int) : Prop where
  obj : ∃ dx, H x = some (.ins C dx (houseF c.l c.d c.t))
  core : CoreAt H c n S D T
theorem HouseAt.mv {C : Addr} {X : List Addr} {H H' : Hp} {x : Addr} {c : Cr} {n : Nat} {S : Nat → List Int} {D T : Nat → Nat → Int} (h : HouseAt C H x c n S D T) (m : MvT X H H') (o : ∀ p ∈ c.ls, p ∉ X) : HouseAt C H' x c n S D T := by
  obtain ⟨dx, e⟩ := h.obj
  exact ⟨⟨dx, m.ins e⟩, h.core.mv m o⟩
theorem HouseAt.same {C : Addr} {H H' : Hp} {x : Addr} {c : Cr} {n : Nat} {S : Nat → List Int} {D T : Nat → Nat → Int} (h : HouseAt C H x c n S D T) (s : Same H H') : HouseAt C H' x c n S D T := h.mv (MvT.of (S := []) s) fun _ _ z => nomatch z
def mirK (l d t : Addr) : List (Key × V) := [(Sum.inr "sets", .ref l), (Sum.inr "done", .ref d), (Sum.inr "turns", .ref t)]
theorem mir_sets (l d t : Addr) : valV (mirK l d t) (Sum.inr "sets" : Key) = some (.ref l) := rfl
theorem mir_done (l d t : Addr) : valV (mirK l d t) (Sum.inr "done" : Key) = some (.ref d) := rfl
theorem mir_turns (l d t : Addr) : valV (mirK l d t) (Sum.inr "turns" : Key) = some (.ref t) := rfl
structure MirAt (H : Hp) (x : Addr) (c : Cr) (n : Nat) (S : Nat → List Int) (D T : Nat → Nat → Int) : Prop where
  top : H x = some (.dK (mirK c.l c.d c.t))
  core : CoreAt H c n S D T
theorem MirAt.mv {X : List Addr} {H H' : Hp} {x : Addr} {c : Cr} {n : Nat} {S : Nat → List Int} {D T : Nat → Nat → Int} (h : MirAt H x c n S D T) (m : MvT X H H') (o : ∀ p ∈ c.ls, p ∉ X) : MirAt H' x c n S D T :=
  ⟨m.dk h.top, h.core.mv m o⟩
theorem MirAt.same {H H' : Hp} {x : Addr} {c : Cr} {n : Nat} {S : Nat → List Int} {D T : Nat → Nat → Int} (h : MirAt H x c n S D T) (s : Same H H') : MirAt H' x c n S D T := h.mv (MvT.of (S := []) s) fun _ _ z => nomatch z
theorem MirAt.g_sets {H : Hp} {x : Addr} {c : Cr} {n : Nat} {S : Nat → List Int} {D T : Nat → Nat → Int} (h : MirAt H x c n S D T) : DGet H x (.str "sets") (some (.ref c.l)) := mir_sets c.l c.d c.t ▸ DGet.k (k := Sum.inr "sets") h.top
theorem MirAt.g_done {H : Hp} {x : Addr} {c : Cr} {n : Nat} {S : Nat → List Int} {D T : Nat → Nat → Int} (h : MirAt H x c n S D T) : DGet H x (.str "done") (some (.ref c.d)) := mir_done c.l c.d c.t ▸ DGet.k (k := Sum.inr "done") h.top
theorem MirAt.g_turns {H : Hp} {x : Addr} {c : Cr} {n : Nat} {S : Nat → List Int} {D T : Nat → Nat → Int} (h : MirAt H x c n S D T) : DGet H x (.str "turns") (some (.ref c.t)) := mir_turns c.l c.d c.t ▸ DGet.k (k := Sum.inr "turns") h.top
end My
namespace My
open PySem PySem.Spec PyProof.Rows L2
/-- a comprehension each item of which is a new list -/
theorem lc_rows {J : It} {n : Nat} {G : Hp → Prop} {Y : Nat → Hp → V → Hp → Prop} (w : Walk J n G Y) {te : TE} {g : TG} {vs : List Nat} {σ : L2.St} {H1 : Hp} {D : Addr} {Qd : Hp → Prop} (R : Nat → List V) (hz : n ≤ 10000) (hD : H1 D = none) (hG : ∀ H, Same H1 H → G H)
    (ht : ∀ i x H H', i < n → Same H1 H → Y i H x H' → ∀ Q : VK, (∀ r H3, Same H H3 → H r = none → H3 r = some (.lst (R i)) → Q (.ref r) H3) → g x (wipe σ vs) H' fun σ2 H2 => wipe σ2 vs = wipe σ vs ∧ te σ2 H2 Q)
    (k : ∀ (rows : List Addr) H', Same H1 H' → H' D = some (.lst (rows.map V.ref)) → rows.length = n → (D :: rows).Nodup → (∀ r ∈ D :: rows, H1 r = none) → (∀ i r, rows[i]? = some r → H' r = some (.lst (R i))) → Qd H') :
    ∃ W : Nat → Nat → Hp → Prop, (∃ m, W 0 m (upd H1 D (.lst []))) ∧ ∀ i m H, W i m H →
      (J.stop i H ∧ Qd H) ∨ (J.go i H ∧ ∃ Nx : Hp → Prop, (∀ H', Nx H' → ∃ m', m' < m ∧ W (i + 1) m' H') ∧ ∀ x H', J.yld i H x H' → g x (wipe σ vs) H' fun σ2 H2 => wipe σ2 vs = wipe σ vs ∧ tYes σ2 H2 fun b H3 =>
        if b = true then te σ2 H3 fun y H4 => ∃ acc, H4 D = some (.lst acc) ∧ acc.length < sizeLine ∧ Nx (upd H4 D (.lst (acc ++ [y]))) else Nx H3) := by
  refine lc_it w (fun i H' => ∃ rows : List Addr, Same H1 H' ∧ H' D = some (.lst (rows.map V.ref)) ∧ rows.length = i ∧ (D :: rows).Nodup ∧ (∀ r ∈ D :: rows, H1 r = none) ∧ ∀ j r, rows[j]? = some r → H' r = some (.lst (R j)))
    ⟨[], same_upd hD, upd_same, rfl, List.nodup_cons.mpr ⟨(fun z => nomatch z), List.nodup_nil⟩, (fun r hr => by rw [List.mem_singleton.mp hr]; exact hD), (fun _ _ z => nomatch z)⟩ (fun i H _ ⟨_, p, _⟩ => hG H p) ?_ ?_
  · rintro i x H H' hi ⟨rows, sm, hd, hl, nd, hf, hr⟩ y
    refine ht i x H H' hi sm y _ fun r H3 s3 nr h3 => ?_
    have nrD : r ≠ D := (ne_of_none hd nr).symm
    have hd3 := s3 _ _ hd
    refine ⟨_, hd3, Nat.lt_of_lt_of_le (by rw [List.length_map]; omega : _ < 10001) (by decide), rows ++ [r], (sm.trans s3).mut hD, by rw [upd_same, List.map_append]; rfl, by rw [List.length_append, hl]; rfl, ?_, ?_, fun j q hq => ?_⟩
    · rw [← List.cons_append]
      refine List.nodup_append.mpr ⟨nd, List.nodup_cons.mpr ⟨(fun z => nomatch z), List.nodup_nil⟩, fun p hp q hq => ?_⟩
      rw [List.mem_singleton.mp hq]
      rcases List.mem_cons.mp hp with rfl | hp
      · exact nrD.symm
      · obtain ⟨j, hj⟩ := List.mem_iff_getElem?.mp hp
        exact ne_of_none (hr j p hj) nr
    · intro p hp
      rw [← List.cons_append] at hp
      rcases List.mem_append.mp hp with hp | hp
      · exact hf p hp
      · rw [List.mem_singleton.mp hp]
        exact sm.free nr
    · have nq : q ≠ D := fun z => by
        subst z
        have hm := List.mem_of_getElem? hq
        rcases List.mem_append.mp hm with hm | hm
        · exact (List.nodup_cons.mp nd).1 hm
        · exact nrD (List.mem_singleton.mp hm).symm
      rw [upd_ne nq]
      by_cases c : j < rows.length
      · rw [List.getElem?_append_left c] at hq
        exact s3 _ _ (hr j q hq)
      · have e : j = rows.length := by
          have := (List.getElem?_eq_some_iff.mp hq).1
          rw [List.length_append, List.length_singleton] at this
          omega
        subst e
        rw [List.getElem?_append_right (Nat.le_refl _), Nat.sub_self] at hq
        cases hq
        rw [hl]
        exact h3
  · rintro H' ⟨rows, sm, hd, hl, nd, hf, hr⟩
    exact k rows H' sm hd hl nd hf hr
end My
namespace My
open PySem PySem.Spec PyProof.Rows L2
/-- a house, what the law holds beside it, the drawing state and the tables of lambdas -/
structure WI (K : PySem.W.Frag) (C a st x y : Addr) (c d : Cr) (n : Nat) (S : Nat → List Int) (D T : Nat → Nat → Int) (TT : List (Addr × Str)) (H : Hp) : Prop where
  sa : StAt K a st H
  ho : HouseAt C H x c n S D T
  mi : MirAt H y d n S D T
  tb : LamX.Tabs TT H
  of : OffK K a st (c.ls ++ d.ls)
  cd : ∀ p ∈ c.ls, p ∉ d.ls
section
variable {K : PySem.W.Frag} {C a st x y : Addr} {c d : Cr} {n : Nat} {S : Nat → List Int} {D T : Nat → Nat → Int} {TT : List (Addr × Str)} {H H' : Hp}
theorem WI.offc (w : WI K C a st x y c d n S D T TT H) : ∀ p ∈ c.ls, p ∉ [st] := fun p hp z => w.of.1 (List.mem_append_left _ ((List.mem_singleton.mp z) ▸ hp))
theorem WI.offd (w : WI K C a st x y c d n S D T TT H) : ∀ p ∈ d.ls, p ∉ [st] := fun p hp z => w.of.1 (List.mem_append_right _ ((List.mem_singleton.mp z) ▸ hp))
theorem WI.go (w : WI K C a st x y c d n S D T TT H) (g : Go K st H H') : WI K C a st x y c d n S D T TT H' :=
  ⟨g.st _ w.sa, w.ho.mv (Mv.go g w.sa).w w.offc, w.mi.mv (Mv.go g w.sa).w w.offd, (Mv.go g w.sa).tabs w.tb, w.of, w.cd⟩
theorem WI.same (w : WI K C a st x y c d n S D T TT H) (s : Same H H') : WI K C a st x y c d n S D T TT H' := w.go (Go.of s)
/-- a lambda was made -/
theorem WI.extN (w : WI K C a st x y c d n S D T TT H) (s : LamX.ExtN H H') (t : LamX.Tabs TT H') : WI K C a st x y c d n S D T TT H' :=
  ⟨w.sa.mv (MvT.extN (S := []) s) ⟨(fun z => nomatch z), .inl fun z => nomatch z⟩, w.ho.mv (MvT.extN (S := []) s) (fun _ _ z => nomatch z), w.mi.mv (MvT.extN (S := []) s) (fun _ _ z => nomatch z), t, w.of, w.cd⟩
theorem WI.other {X : List Addr} (w : WI K C a st x y c d n S D T TT H) (m : MvT X H H') (o : ∀ p ∈ c.ls ++ d.ls, p ∉ X) (hs : StAt K a st H') (ht : LamX.Tabs TT H') : WI K C a st x y c d n S D T TT H' :=
  ⟨hs, w.ho.mv m fun p hp => o p (List.mem_append_left _ hp), w.mi.mv m fun p hp => o p (List.mem_append_right _ hp), ht, w.of, w.cd⟩
theorem WI.alive (w : WI K C a st x y c d n S D T TT H) : ∀ p ∈ c.ls ++ d.ls, H p ≠ none := fun p hp => (List.mem_append.mp hp).elim (w.ho.core.alive p) (w.mi.core.alive p)
/-- the house changed -/
theorem WI.house (w : WI K C a st x y c d n S D T TT H) (m : Mv c.ls H H') : StAt K a st H' ∧ MirAt H' y d n S D T ∧ LamX.Tabs TT H' :=
  ⟨w.sa.mv m.w (w.of.left fun _ h => List.mem_append_left _ h), w.mi.mv m.w fun p hp z => w.cd p z hp, m.tabs w.tb⟩
/-- the mirror changed -/
theorem WI.mirror (w : WI K C a st x y c d n S D T TT H) (m : Mv d.ls H H') : StAt K a st H' ∧ HouseAt C H' x c n S D T ∧ LamX.Tabs TT H' :=
  ⟨w.sa.mv m.w (w.of.left fun _ h => List.mem_append_right _ h), w.ho.mv m.w fun p hp z => w.cd p hp z, m.tabs w.tb⟩
end
end My
namespace Lm
open PySem PySem.Spec PyProof.Rows L2
theorem call_list_ofK {X : Cx} {K : PySem.W.Frag} (h : X.K = K) : CallR X (.type "list") (fun xs H Q => ∃ p ys, xs = [.ref p] ∧ (SqL K H p ys ∨ SqT K H p ys) ∧ ∀ l, H l = none → Q (.ref l) (upd H l (.lst ys))) := h ▸ call_list_of
/-- xs[i] read by xs[i] += e -/
theorem get_list {X : Cx} : PGet X (fun x y H Q => ∃ p xs i v, x = .ref p ∧ y = .int i ∧ SqL X.K H p xs ∧ 0 ≤ i ∧ atI xs i = some v ∧ Q v H) := by
  intro pins s σ H x y ov iv Q I rx ry h
  obtain ⟨p, xs, i, z, rfl, rfl, hq, h0, he, q⟩ := h
  cases rx
  obtain ⟨t, rfl⟩ := ry
  obtain ⟨its, r, pl, hz⟩ := I.list hq
  obtain ⟨j, h1, h2, h3, h4, h5⟩ := atI_get he
  obtain ⟨w, ew, rw'⟩ := r.get h2
  have hl := r.length
  have hn := line63
  have hj : i.toNat = j := by
    rw [seqIndex_of h0 h5] at h1
    exact Option.some.inj h1
  exact wpAny_getItem_list pl.isList h0 (by omega) (by rw [hj]; simpa using ew) ⟨z, H, I, rw', q⟩
/-- xs.count(y), flat items -/
def rCntF (K : PySem.W.Frag) : V → List V → Hp → VK → Prop := fun x xs H Q => ∃ (p : Addr) (ys : List V) (y : V), x = .ref p ∧ xs = [y] ∧ SqL K H p ys ∧ flatV y = true ∧ ys.all flatV = true ∧ Q (.int (ys.countP (fun z => eqV z y) : Nat)) H
theorem mt_lcountF {X : Cx} : MtR X "list.count" (rCntF X.K) := by
  intro pins s σ H x xs v us Q I rx rxs h
  obtain ⟨p, ys, y, rfl, rfl, hs, fy, fys, q⟩ := h
  cases rx
  cases rxs with
  | cons ry rt =>
    rename_i uy ut
    cases rt
    obtain ⟨its, rv, ⟨⟨cls, dd, data, sl⟩, n, ho, hc, hdn, hd⟩, hlen⟩ := I.list hs
    simp only at hc hd
    subst hc hd
    refine call_meets PySem.F.slot_list_count ⟨_, ho, rfl⟩ PySem.F.entry_list_count (PySem.F.args_list_count_2 _ _)
      (SeqAt.list_countAt p its.toArray n dd sl uy (eqU y)) ⟨ho, fun u' hu' => mem_eqAt ry fy rv fys u' (by simpa using hu'), ?_⟩
    have ec : its.toArray.toList.countP (eqU y) = ys.countP fun z => eqV z y := by
      clear ho q hlen hs hdn
      show its.countP (eqU y) = _
      induction rv with
      | nil => rfl
      | @cons a b as bs hab _ ih =>
        have fa : flatV a = true := by
          rw [List.all_cons, Bool.and_eq_true] at fys
          exact fys.1
        have fr : as.all flatV = true := by
          rw [List.all_cons, Bool.and_eq_true] at fys
          exact fys.2
        rw [List.countP_cons, List.countP_cons, ih fr, eqU_of hab fa]
    refine ⟨.int (ys.countP (fun z => eqV z y) : Nat), H, I.tok _, ⟨s.toks, ?_⟩, q⟩
    show Value.int ((its.toArray.toList.countP (eqU y) : Nat) : Int) s.toks = Value.int ((ys.countP (fun z => eqV z y) : Nat) : Int) s.toks
    rw [ec]
end Lm
namespace My
open PySem PySem.Spec PyProof.Rows L2
theorem eqv_set {H : Hp} {p q : Addr} {ns : List Int} {n : Nat} (hp : H p = some (.tup (ns.map V.int))) (hq : H q = some (.tup (ns.map V.int))) (hs : SetL ns) : EqV H (n + 1) (.ref p) (.ref q) := by
  have := hs.len
  refine .tup hp hq rfl (by rw [List.length_map]; omega) fun k x y hx hy => ?_
  rw [hx] at hy
  cases hy
  obtain ⟨z, _, rfl⟩ := int_at hx
  exact .int _ _
end My
namespace Lm
open PySem PySem.Spec PyProof.Rows L2
section
variable {X : Cx} {K : PySem.W.Frag} {o e : Expr} {es : List Expr} {to : TE} {t : TA} {name : Str} {apos cpos : Pos} {T id : String} {r : V → List V → Hp → VK → Prop}
theorem pe_bmK (h : X.K = K) (pa : PlainAttrs T) (slot : Slot T name id) (hty : typeOf (.builtin id) = pure (.type "method_descriptor")) (hm : MtR X id r) (ho : PE X o to) (ha : PA X (e :: es) t)
    (hbase : attributeBase o name X.env (eval o X.env) = eval o X.env := by rfl)
    (hfew : ((backTo cpos (starEach (e :: es) X.env)).all (fun x => !x.1) && (backToKw cpos (keywordEach [] X.env)).all (fun x => x.1.isSome)
      && decide ((e :: es).length + ([] : List Keyword).length + (if ([] : List Keyword).isEmpty then 0 else 1) < 30)) = true := by rfl)
    (hline : (apos.endLine == cpos.line) = true := by rfl) (hs : starEach (e :: es) X.env = (false, eval e X.env) :: starEach es X.env := by rfl) (hplain : (backTo cpos (starEach es X.env)).any (·.1) = false := by rfl) :
    PE X (.Call (.Attribute o name apos) (e :: es) [] cpos) (tBM K T r to t) := h ▸ pe_bm pa slot hty hm ho ha hbase hfew hline hs hplain
end
theorem mt_lcountFK {X : Cx} {K : PySem.W.Frag} (h : X.K = K) : MtR X "list.count" (rCntF K) := h ▸ mt_lcountF
theorem mt_indexK {X : Cx} {K : PySem.W.Frag} (h : X.K = K) : MtR X "list.index" (rIndex K) := h ▸ mt_index
end Lm
namespace My
open PySem PySem.Spec PyProof.Rows L2
theorem one_set (m : Int) : isSetB [m] = decide (1 ≤ m ∧ m ≤ 96) := by
  by_cases c : 1 ≤ m ∧ m ≤ 96
  · rw [decide_eq_true c]
    refine isSetB_iff.mpr ⟨List.pairwise_singleton _ _, fun z hz => ?_⟩
    rw [List.mem_singleton.mp hz]
    exact c
  · rw [decide_eq_false c]
    cases e : isSetB [m] with
    | false => rfl
    | true => exact absurd ((isSetB_iff.mp e).bd m (List.mem_singleton.mpr rfl)) c
def sp_refuse_unless_mark (C : Addr) : Sp := fun vs H Q E => ∃ m : Int, vs = [.int m] ∧ (¬ (1 ≤ m ∧ m ≤ 96) → ∀ H', Same H H' → E (.ref C) none H') ∧ (1 ≤ m → m ≤ 96 → ∀ H', Same H H' → Q .non H')
def sp_House___init__ (K : PySem.W.Frag) (C S N : Addr) : Sp := fun vs H Q E => ∃ (x dx o : Addr) (own : List Int) (many : Int), vs = [.ref x, .ref o, .int many] ∧ H x = some (.ins C dx []) ∧ H o = some (.tup (own.map V.int)) ∧
  (isSetB own = false → E (.ref S) none H) ∧ (isSetB own = true → many < 2 ∨ 4 < many → E (.ref N) none H) ∧
  (isSetB own = true → ∀ n : Nat, many = n → 2 ≤ n → n ≤ 4 → ∀ (c : Cr) H', (∀ p ∈ c.ls, H p = none) → HouseAt C H' x c n (fun _ => own) (fun _ _ => 0) (fun _ _ => 0) → (∀ w u, H w = some u → w ≠ x → H' w = some u) → Q .non H')
/-- is there such a hand -/
def sp_hand (C N : Addr) : Sp := fun vs H Q E => ∃ (x : Addr) (c : Cr) (n : Nat) (S : Nat → List Int) (D T : Nat → Nat → Int) (i : Int), vs = [.ref x, .int i] ∧ HouseAt C H x c n S D T ∧ (¬ (0 ≤ i ∧ i < n) → E (.ref N) none H) ∧ (0 ≤ i → i < n → Q .non H)
def sp_House__refuse_unless_hand := sp_hand
def sp_House__refuse_unless_two (C N : Addr) : Sp := fun vs H Q E => ∃ (x : Addr) (c : Cr) (n : Nat) (S : Nat → List Int) (D T : Nat → Nat → Int) (i j : Int), vs = [.ref x, .int i, .int j] ∧ HouseAt C H x c n S D T ∧ (¬ (0 ≤ i ∧ i < n ∧ 0 ≤ j ∧ j < n ∧ i ≠ j) → E (.ref N) none H) ∧ (0 ≤ i → i < n → 0 ≤ j → j < n → i ≠ j → Q .non H)
def sp_House_marks (C N : Addr) : Sp := fun vs H Q E => ∃ (x : Addr) (c : Cr) (n : Nat) (S : Nat → List Int) (D T : Nat → Nat → Int) (i : Int), vs = [.ref x, .int i] ∧ HouseAt C H x c n S D T ∧ (¬ (0 ≤ i ∧ i < n) → E (.ref N) none H) ∧ (0 ≤ i → i < n → ∀ p, H p = some (.tup ((S i.toNat).map V.int)) → Q (.ref p) H)
def sp_cell (C N : Addr) (f : (Nat → Nat → Int) → (Nat → Nat → Int) → Nat → Nat → Int) : Sp := fun vs H Q E => ∃ (x : Addr) (c : Cr) (n : Nat) (S : Nat → List Int) (D T : Nat → Nat → Int) (i j : Int), vs = [.ref x, .int i, .int j] ∧ HouseAt C H x c n S D T ∧ (¬ (0 ≤ i ∧ i < n ∧ 0 ≤ j ∧ j < n ∧ i ≠ j) → E (.ref N) none H) ∧ (0 ≤ i → i < n → 0 ≤ j → j < n → i ≠ j → Q (.int (f D T i.toNat j.toNat)) H)
def sp_House_deeds (C N : Addr) : Sp := sp_cell C N fun D _ => D
def sp_House_turn (C N : Addr) : Sp := sp_cell C N fun _ T => T
def othersL (n i : Nat) : List Int := (othersN n i).map fun k : Nat => (k : Int)
def sp_House__others (C : Addr) : Sp := fun vs H Q _ => ∃ (x : Addr) (c : Cr) (n : Nat) (S : Nat → List Int) (D T : Nat → Nat → Int) (i : Nat), vs = [.ref x, .int (i : Int)] ∧ HouseAt C H x c n S D T ∧ ∀ p H', Same H H' → H p = none → H' p = some (.lst ((othersL n i).map V.int)) → Q (.ref p) H'
/-- how many marks differ -/
def apartN (xs ys : List Int) : Int := ((diffL ys xs).length : Int) + ((diffL xs ys).length : Int)
def sp_House__change (K : PySem.W.Frag) (C S : Addr) : Sp := fun vs H Q _ => ∃ (x : Addr) (c : Cr) (n : Nat) (S : Nat → List Int) (D T : Nat → Nat → Int) (i : Nat) (a : Addr) (ns : List Int), vs = [.ref x, .int (i : Int), .ref a] ∧ HouseAt C H x c n S D T ∧ i < n ∧ H a = some (.tup (ns.map V.int)) ∧ SetL ns ∧
  ∀ H', Mv c.ls H H' → HouseAt C H' x c n (setS S i ns) (gainD D i n (apartN (S i) ns)) T → Q .non H'
/-- a deed: a mark is put or taken -/
def sp_deed (C N M L : Addr) (put : Bool) : Sp := fun vs H Q E => ∃ (x : Addr) (c : Cr) (n : Nat) (S : Nat → List Int) (D T : Nat → Nat → Int) (i m : Int), vs = [.ref x, .int i, .int m] ∧ HouseAt C H x c n S D T ∧
  (¬ (0 ≤ i ∧ i < n) → ∀ H', Same H H' → E (.ref N) none H') ∧
  (0 ≤ i → i < n → ¬ (1 ≤ m ∧ m ≤ 96) → ∀ H', Same H H' → E (.ref M) none H') ∧
  (0 ≤ i → i < n → 1 ≤ m → m ≤ 96 → decide (m ∈ S i.toNat) = put → ∀ H', Same H H' → E (.ref L) none H') ∧
  (∀ k : Nat, i = k → k < n → 1 ≤ m → m ≤ 96 → decide (m ∈ S k) = !put → ∀ (ns : List Int) H', ns = mendL (S k) (bif put then [m] else []) (bif put then [] else [m]) → SetL ns → Mv c.ls H H' → HouseAt C H' x c n (setS S k ns) (gainD D k n (apartN (S k) ns)) T → Q (.int ns.length) H')
def sp_House_put (C N M L : Addr) : Sp := sp_deed C N M L true
def sp_House_take (C N M L : Addr) : Sp := sp_deed C N M L false
end My
namespace My
open PySem PySem.Spec PyProof.Rows L2
def sp__law_house : Sp := fun vs H Q _ => ∃ (o : Addr) (own : List Int) (n : Nat), vs = [.ref o, .int (n : Int)] ∧ H o = some (.tup (own.map V.int)) ∧ SetL own ∧ 2 ≤ n ∧ n ≤ 4 ∧
  ∀ (x : Addr) (c : Cr) H', Same H H' → H x = none → (∀ p ∈ c.ls, H p = none) → MirAt H' x c n (fun _ => own) (fun _ _ => 0) (fun _ _ => 0) → Q (.ref x) H'
def sp__law_gains : Sp := fun vs H Q _ => ∃ (x : Addr) (c : Cr) (n : Nat) (S : Nat → List Int) (D T : Nat → Nat → Int) (i : Nat) (a : Addr) (ns : List Int), vs = [.ref x, .int (i : Int), .ref a] ∧ MirAt H x c n S D T ∧ i < n ∧ H a = some (.tup (ns.map V.int)) ∧ SetL ns ∧
  ∀ H', Mv c.ls H H' → MirAt H' x c n (setS S i ns) (gainD D i n (apartN (S i) ns)) T → Q .non H'
def sp__law_is (C : Addr) : Sp := fun vs H Q _ => ∃ (x y : Addr) (c d : Cr) (n : Nat) (S : Nat → List Int) (D T : Nat → Nat → Int), vs = [.ref x, .ref y] ∧ HouseAt C H x c n S D T ∧ MirAt H y d n S D T ∧ ∀ H', Same H H' → Q (.bl true) H'
def sp__law_odd (K : PySem.W.Frag) : Sp := fun vs H Q _ => ∃ (a st : Addr) (m : Int), vs = [.ref st, .int m] ∧ StAt K a st H ∧ 0 ≤ m ∧ m ≤ 100 ∧ ∀ (z : Int) H', Go K st H H' → (z < 0 ∨ m < z) → Q (.int z) H'
/-- the word of a deed's refusal -/
def dueW (n : Nat) (S : Nat → List Int) (i m : Int) (put : Bool) : Str := if ¬ (0 ≤ i ∧ i < n) then "NoHand" else if ¬ (1 ≤ m ∧ m ≤ 96) then "NoMark" else if decide (m ∈ S i.toNat) = put then (bif put then "Held" else "NotHeld") else ""
def sp__law_due : Sp := fun vs H Q _ => ∃ (x : Addr) (c : Cr) (n : Nat) (S : Nat → List Int) (D T : Nat → Nat → Int) (i m : Int) (put : Bool), vs = [.ref x, .int i, .int m, .bl put] ∧ MirAt H x c n S D T ∧
  (dueW n S i m put ≠ "" → ∀ p H', Same H H' → H' p = some (.tup [.non, .str (dueW n S i m put)]) → Q (.ref p) H') ∧
  (∀ k : Nat, i = k → k < n → 1 ≤ m → m ≤ 96 → decide (m ∈ S k) = !put → ∀ (ns : List Int) p H', ns = mendL (S k) (bif put then [m] else []) (bif put then [] else [m]) → Mv c.ls H H' → MirAt H' x c n (setS S k ns) (gainD D k n (apartN (S k) ns)) T → H' p = some (.tup [.int ns.length, .str ""]) → Q (.ref p) H')
end My
namespace My
open PySem PySem.Spec PyProof.Rows L2
/-! ### the text -/
def topS (i : Nat) : Stmt := PySem.Challenge.pw_setmend_k18_deeds_of_hands.main.body.getD i (.Pass ⟨0, 0, 0, 0⟩)
abbrev s_is_set : Stmt := topS 16
theorem sc_is_set : FnScope ["marks", "before", "mark"] ["marks"] (defScope s_is_set) := ⟨rfl, rfl, rfl, by decide +kernel, rfl, by decide +kernel, by decide +kernel⟩
abbrev s_refuse_unless_set : Stmt := topS 17
theorem sc_refuse_unless_set : FnScope ["marks"] ["marks"] (defScope s_refuse_unless_set) := ⟨rfl, rfl, rfl, by decide +kernel, rfl, by decide +kernel, by decide +kernel⟩
abbrev s_without : Stmt := topS 18
theorem sc_without : FnScope ["marks", "others", "mark"] ["marks", "others"] (defScope s_without) := ⟨rfl, rfl, rfl, by decide +kernel, rfl, by decide +kernel, by decide +kernel⟩
abbrev s_apart : Stmt := topS 19
theorem sc_apart : FnScope ["one", "other"] ["one", "other"] (defScope s_apart) := ⟨rfl, rfl, rfl, by decide +kernel, rfl, by decide +kernel, by decide +kernel⟩
abbrev s_mended : Stmt := topS 20
theorem sc_mended : FnScope ["own", "lacks", "over"] ["own", "lacks", "over"] (defScope s_mended) := ⟨rfl, rfl, rfl, by decide +kernel, rfl, by decide +kernel, by decide +kernel⟩
abbrev s_refuse_unless_mark : Stmt := topS 28
theorem sc_refuse_unless_mark : FnScope ["mark"] ["mark"] (defScope s_refuse_unless_mark) := ⟨rfl, rfl, rfl, by decide +kernel, rfl, by decide +kernel, by decide +kernel⟩
abbrev s_House___init__ : Stmt := inClass (topS 29) 0
theorem sc_House___init__ : FnScope ["self", "marks", "many", "_"] ["self", "marks", "many"] (defScope s_House___init__) := ⟨rfl, rfl, rfl, by decide +kernel, rfl, by decide +kernel, by decide +kernel⟩
abbrev s_House__refuse_unless_hand : Stmt := inClass (topS 29) 10
theorem sc_House__refuse_unless_hand : FnScope ["self", "hand"] ["self", "hand"] (defScope s_House__refuse_unless_hand) := ⟨rfl, rfl, rfl, by decide +kernel, rfl, by decide +kernel, by decide +kernel⟩
abbrev s_House_marks : Stmt := inClass (topS 29) 1
theorem sc_House_marks : FnScope ["self", "hand"] ["self", "hand"] (defScope s_House_marks) := ⟨rfl, rfl, rfl, by decide +kernel, rfl, by decide +kernel, by decide +kernel⟩
abbrev s_House__others : Stmt := inClass (topS 29) 12
theorem sc_House__others : FnScope ["self", "hand", "other"] ["self", "hand"] (defScope s_House__others) := ⟨rfl, rfl, rfl, by decide +kernel, rfl, by decide +kernel, by decide +kernel⟩
abbrev s_House__change : Stmt := inClass (topS 29) 14
theorem sc_House__change : FnScope ["self", "hand", "marks", "come", "gone", "other"] ["self", "hand", "marks"] (defScope s_House__change) := ⟨rfl, rfl, rfl, by decide +kernel, rfl, by decide +kernel, by decide +kernel⟩
abbrev s_House_put : Stmt := inClass (topS 29) 2
theorem sc_House_put : FnScope ["self", "hand", "mark"] ["self", "hand", "mark"] (defScope s_House_put) := ⟨rfl, rfl, rfl, by decide +kernel, rfl, by decide +kernel, by decide +kernel⟩
abbrev s_House_take : Stmt := inClass (topS 29) 3
theorem sc_House_take : FnScope ["self", "hand", "mark"] ["self", "hand", "mark"] (defScope s_House_take) := ⟨rfl, rfl, rfl, by decide +kernel, rfl, by decide +kernel, by decide +kernel⟩
abbrev s_House__refuse_unless_two : Stmt := inClass (topS 29) 11
theorem sc_House__refuse_unless_two : FnScope ["self", "hand", "other"] ["self", "hand", "other"] (defScope s_House__refuse_unless_two) := ⟨rfl, rfl, rfl, by decide +kernel, rfl, by decide +kernel, by decide +kernel⟩
abbrev s_House_deeds : Stmt := inClass (topS 29) 4
theorem sc_House_deeds : FnScope ["self", "hand", "other"] ["self", "hand", "other"] (defScope s_House_deeds) := ⟨rfl, rfl, rfl, by decide +kernel, rfl, by decide +kernel, by decide +kernel⟩
abbrev s_House_turn : Stmt := inClass (topS 29) 5
theorem sc_House_turn : FnScope ["self", "hand", "other"] ["self", "hand", "other"] (defScope s_House_turn) := ⟨rfl, rfl, rfl, by decide +kernel, rfl, by decide +kernel, by decide +kernel⟩
abbrev s__law_start : Stmt := topS 31
theorem sc__law_start : FnScope ["_law_script", "_law_mixed", "_law_cell"] ["_law_script"] (defScope s__law_start) := ⟨rfl, rfl, rfl, by decide +kernel, rfl, by decide +kernel, by decide +kernel⟩
abbrev s__law_drawn : Stmt := topS 32
theorem sc__law_drawn : FnScope ["_law_state", "_law_many", "_law_found", "_law_cell"] ["_law_state", "_law_many"] (defScope s__law_drawn) := ⟨rfl, rfl, rfl, by decide +kernel, rfl, by decide +kernel, by decide +kernel⟩
abbrev s__law_set : Stmt := topS 33
theorem sc__law_set : FnScope ["_law_state", "_law_most", "_law_many", "_law_first", "_law_step", "_law_k"] ["_law_state", "_law_most"] (defScope s__law_set) := ⟨rfl, rfl, rfl, by decide +kernel, rfl, by decide +kernel, by decide +kernel⟩
abbrev s__law_apart : Stmt := topS 34
theorem sc__law_apart : FnScope ["_law_one", "_law_other", "_law_mark"] ["_law_one", "_law_other"] (defScope s__law_apart) := ⟨rfl, rfl, rfl, by decide +kernel, rfl, by decide +kernel, by decide +kernel⟩
abbrev s__law_same : Stmt := topS 35
theorem sc__law_same : FnScope ["_law_found", "_law_due_here", "_law_k"] ["_law_found", "_law_due_here"] (defScope s__law_same) := ⟨rfl, rfl, rfl, by decide +kernel, rfl, by decide +kernel, by decide +kernel⟩
abbrev s__law_house : Stmt := topS 36
theorem sc__law_house : FnScope ["_law_marks", "_law_many", "_law_done", "_law_hand", "_law_other", "_law_row"] ["_law_marks", "_law_many"] (defScope s__law_house) := ⟨rfl, rfl, rfl, by decide +kernel, rfl, by decide +kernel, by decide +kernel⟩
abbrev s__law_gains : Stmt := topS 37
theorem sc__law_gains : FnScope ["_law_h", "_law_hand", "_law_marks", "_law_lacks", "_law_over", "_law_other", "_law_row"] ["_law_h", "_law_hand", "_law_marks"] (defScope s__law_gains) := ⟨rfl, rfl, rfl, by decide +kernel, rfl, by decide +kernel, by decide +kernel⟩
abbrev s__law_is : Stmt := topS 39
theorem sc__law_is : FnScope ["_law_house_here", "_law_h", "_law_hand", "_law_done", "_law_turns", "_law_other", "_law_k"] ["_law_house_here", "_law_h"] (defScope s__law_is) := ⟨rfl, rfl, rfl, by decide +kernel, rfl, by decide +kernel, by decide +kernel⟩
abbrev s__law_kind : Stmt := topS 40
theorem sc__law_kind : FnScope ["_law_work", "e", "_law_kinds", "_law_other"] ["_law_work"] (defScope s__law_kind) := ⟨rfl, rfl, rfl, by decide +kernel, rfl, by decide +kernel, by decide +kernel⟩
abbrev s__law_odd : Stmt := topS 41
theorem sc__law_odd : FnScope ["_law_state", "_law_most", "_law_far"] ["_law_state", "_law_most"] (defScope s__law_odd) := ⟨rfl, rfl, rfl, by decide +kernel, rfl, by decide +kernel, by decide +kernel⟩
abbrev s__law_due : Stmt := topS 42
theorem sc__law_due : FnScope ["_law_h", "_law_hand", "_law_mark", "_law_puts", "_law_marks", "_law_one"] ["_law_h", "_law_hand", "_law_mark", "_law_puts"] (defScope s__law_due) := ⟨rfl, rfl, rfl, by decide +kernel, rfl, by decide +kernel, by decide +kernel⟩
abbrev s__law_deed : Stmt := topS 43
theorem sc__law_deed : FnScope ["_law_state", "_law_house_here", "_law_h", "_law_marks", "_law_way", "_law_puts", "_law_due_here", "_law_hand", "_law_mark"] ["_law_state", "_law_house_here", "_law_h"] (defScope s__law_deed) := ⟨rfl, rfl, rfl, by decide +kernel, rfl, by decide +kernel, by decide +kernel⟩
abbrev s_law : Stmt := topS 44
theorem sc_law : FnScope ["_law_script", "_law_state", "_law_sides", "_law_k", "_law_marks", "_law_many", "_law_turn", "_law_house_here", "_law_h", "_law_odd_here"] ["_law_script"] (defScope s_law) := ⟨rfl, rfl, rfl, by decide +kernel, rfl, by decide +kernel, by decide +kernel⟩
structure Ad where
  f_is_set : Addr
  d_is_set : FuncData
  f_refuse_unless_set : Addr
  d_refuse_unless_set : FuncData
  f_without : Addr
  d_without : FuncData
  f_apart : Addr
  d_apart : FuncData
  f_mended : Addr
  d_mended : FuncData
  f_refuse_unless_mark : Addr
  d_refuse_unless_mark : FuncData
  f_House___init__ : Addr
  d_House___init__ : FuncData
  f_House__refuse_unless_hand : Addr
  d_House__refuse_unless_hand : FuncData
  f_House_marks : Addr
  d_House_marks : FuncData
  f_House__others : Addr
  d_House__others : FuncData
  f_House__change : Addr
  d_House__change : FuncData
  f_House_put : Addr
  d_House_put : FuncData
  f_House_take : Addr
  d_House_take : FuncData
  f_House__refuse_unless_two : Addr
  d_House__refuse_unless_two : FuncData
  f_House_deeds : Addr
  d_House_deeds : FuncData
  f_House_turn : Addr
  d_House_turn : FuncData
  f__law_start : Addr
  d__law_start : FuncData
  f__law_drawn : Addr
  d__law_drawn : FuncData
  f__law_set : Addr
  d__law_set : FuncData
  f__law_apart : Addr
  d__law_apart : FuncData
  f__law_same : Addr
  d__law_same : FuncData
  f__law_house : Addr
  d__law_house : FuncData
  f__law_gains : Addr
  d__law_gains : FuncData
  f__law_is : Addr
  d__law_is : FuncData
  f__law_kind : Addr
  d__law_kind : FuncData
  f__law_odd : Addr
  d__law_odd : FuncData
  f__law_due : Addr
  d__law_due : FuncData
  f__law_deed : Addr
  d__law_deed : FuncData
  f_law : Addr
  d_law : FuncData
  cc__law_deed : Addr
  cp__law_deed : Addr
  cc_law : Addr
  cp_law : Addr
  e_House : Addr
  e_MendError : Addr
  e_NoSet : Addr
  e_NoMark : Addr
  e_NoInverse : Addr
  e_NoCount : Addr
  e_NoHand : Addr
  e_NoLetter : Addr
  e_NoText : Addr
  e_Held : Addr
  e_NotHeld : Addr
  e_Unlike : Addr
  e_Late : Addr
  t_LAST_MARK : Nat
  t_WHEEL : Nat
  t_FEWEST_HANDS : Nat
  t_MOST_HANDS : Nat
structure Txt (K : PySem.W.Frag) (mg : Str → Option Value) (base : Heap) (A : Ad) : Prop where
  F_is_set : Fun K "is_set" "is_set" s_is_set A.f_is_set A.d_is_set
  k_is_set : PySem.W.keepIn K (.ref A.f_is_set) = true
  g_is_set : mg "is_set" = some (.ref A.f_is_set)
  b_is_set : Binds K A.d_is_set ["marks"] []
  F_refuse_unless_set : Fun K "refuse_unless_set" "refuse_unless_set" s_refuse_unless_set A.f_refuse_unless_set A.d_refuse_unless_set
  k_refuse_unless_set : PySem.W.keepIn K (.ref A.f_refuse_unless_set) = true
  g_refuse_unless_set : mg "refuse_unless_set" = some (.ref A.f_refuse_unless_set)
  b_refuse_unless_set : Binds K A.d_refuse_unless_set ["marks"] []
  F_without : Fun K "without" "without" s_without A.f_without A.d_without
  k_without : PySem.W.keepIn K (.ref A.f_without) = true
  g_without : mg "without" = some (.ref A.f_without)
  b_without : Binds K A.d_without ["marks", "others"] []
  F_apart : Fun K "apart" "apart" s_apart A.f_apart A.d_apart
  k_apart : PySem.W.keepIn K (.ref A.f_apart) = true
  g_apart : mg "apart" = some (.ref A.f_apart)
  b_apart : Binds K A.d_apart ["one", "other"] []
  F_mended : Fun K "mended" "mended" s_mended A.f_mended A.d_mended
  k_mended : PySem.W.keepIn K (.ref A.f_mended) = true
  g_mended : mg "mended" = some (.ref A.f_mended)
  b_mended : Binds K A.d_mended ["own", "lacks", "over"] []
  F_refuse_unless_mark : Fun K "refuse_unless_mark" "refuse_unless_mark" s_refuse_unless_mark A.f_refuse_unless_mark A.d_refuse_unless_mark
  k_refuse_unless_mark : PySem.W.keepIn K (.ref A.f_refuse_unless_mark) = true
  g_refuse_unless_mark : mg "refuse_unless_mark" = some (.ref A.f_refuse_unless_mark)
  b_refuse_unless_mark : Binds K A.d_refuse_unless_mark ["mark"] []
  F_House___init__ : Fun K "__init__" "House.__init__" s_House___init__ A.f_House___init__ A.d_House___init__
  k_House___init__ : PySem.W.keepIn K (.ref A.f_House___init__) = true
  m_House___init__ : Meth K A.e_House "__init__" A.f_House___init__
  b_House___init__ : Binds K A.d_House___init__ ["self", "marks", "many"] []
  F_House__refuse_unless_hand : Fun K "_refuse_unless_hand" "House._refuse_unless_hand" s_House__refuse_unless_hand A.f_House__refuse_unless_hand A.d_House__refuse_unless_hand
  k_House__refuse_unless_hand : PySem.W.keepIn K (.ref A.f_House__refuse_unless_hand) = true
  m_House__refuse_unless_hand : Meth K A.e_House "_refuse_unless_hand" A.f_House__refuse_unless_hand
  b_House__refuse_unless_hand : Binds K A.d_House__refuse_unless_hand ["self", "hand"] []
  F_House_marks : Fun K "marks" "House.marks" s_House_marks A.f_House_marks A.d_House_marks
  k_House_marks : PySem.W.keepIn K (.ref A.f_House_marks) = true
  m_House_marks : Meth K A.e_House "marks" A.f_House_marks
  b_House_marks : Binds K A.d_House_marks ["self", "hand"] []
  F_House__others : Fun K "_others" "House._others" s_House__others A.f_House__others A.d_House__others
  k_House__others : PySem.W.keepIn K (.ref A.f_House__others) = true
  m_House__others : Meth K A.e_House "_others" A.f_House__others
  b_House__others : Binds K A.d_House__others ["self", "hand"] []
  F_House__change : Fun K "_change" "House._change" s_House__change A.f_House__change A.d_House__change
  k_House__change : PySem.W.keepIn K (.ref A.f_House__change) = true
  m_House__change : Meth K A.e_House "_change" A.f_House__change
  b_House__change : Binds K A.d_House__change ["self", "hand", "marks"] []
  F_House_put : Fun K "put" "House.put" s_House_put A.f_House_put A.d_House_put
  k_House_put : PySem.W.keepIn K (.ref A.f_House_put) = true
  m_House_put : Meth K A.e_House "put" A.f_House_put
  b_House_put : Binds K A.d_House_put ["self", "hand", "mark"] []
  F_House_take : Fun K "take" "House.take" s_House_take A.f_House_take A.d_House_take
  k_House_take : PySem.W.keepIn K (.ref A.f_House_take) = true
  m_House_take : Meth K A.e_House "take" A.f_House_take
  b_House_take : Binds K A.d_House_take ["self", "hand", "mark"] []
  F_House__refuse_unless_two : Fun K "_refuse_unless_two" "House._refuse_unless_two" s_House__refuse_unless_two A.f_House__refuse_unless_two A.d_House__refuse_unless_two
  k_House__refuse_unless_two : PySem.W.keepIn K (.ref A.f_House__refuse_unless_two) = true
  m_House__refuse_unless_two : Meth K A.e_House "_refuse_unless_two" A.f_House__refuse_unless_two
  b_House__refuse_unless_two : Binds K A.d_House__refuse_unless_two ["self", "hand", "other"] []
  F_House_deeds : Fun K "deeds" "House.deeds" s_House_deeds A.f_House_deeds A.d_House_deeds
  k_House_deeds : PySem.W.keepIn K (.ref A.f_House_deeds) = true
  m_House_deeds : Meth K A.e_House "deeds" A.f_House_deeds
  b_House_deeds : Binds K A.d_House_deeds ["self", "hand", "other"] []
  F_House_turn : Fun K "turn" "House.turn" s_House_turn A.f_House_turn A.d_House_turn
  k_House_turn : PySem.W.keepIn K (.ref A.f_House_turn) = true
  m_House_turn : Meth K A.e_House "turn" A.f_House_turn
  b_House_turn : Binds K A.d_House_turn ["self", "hand", "other"] []
  F__law_start : Fun K "_law_start" "_law_start" s__law_start A.f__law_start A.d__law_start
  k__law_start : PySem.W.keepIn K (.ref A.f__law_start) = true
  g__law_start : mg "_law_start" = some (.ref A.f__law_start)
  b__law_start : Binds K A.d__law_start ["_law_script"] []
  F__law_drawn : Fun K "_law_drawn" "_law_drawn" s__law_drawn A.f__law_drawn A.d__law_drawn
  k__law_drawn : PySem.W.keepIn K (.ref A.f__law_drawn) = true
  g__law_drawn : mg "_law_drawn" = some (.ref A.f__law_drawn)
  b__law_drawn : Binds K A.d__law_drawn ["_law_state", "_law_many"] []
  F__law_set : Fun K "_law_set" "_law_set" s__law_set A.f__law_set A.d__law_set
  k__law_set : PySem.W.keepIn K (.ref A.f__law_set) = true
  g__law_set : mg "_law_set" = some (.ref A.f__law_set)
  b__law_set : Binds K A.d__law_set ["_law_state", "_law_most"] []
  F__law_apart : Fun K "_law_apart" "_law_apart" s__law_apart A.f__law_apart A.d__law_apart
  k__law_apart : PySem.W.keepIn K (.ref A.f__law_apart) = true
  g__law_apart : mg "_law_apart" = some (.ref A.f__law_apart)
  b__law_apart : Binds K A.d__law_apart ["_law_one", "_law_other"] []
  F__law_same : Fun K "_law_same" "_law_same" s__law_same A.f__law_same A.d__law_same
  k__law_same : PySem.W.keepIn K (.ref A.f__law_same) = true
  g__law_same : mg "_law_same" = some (.ref A.f__law_same)
  b__law_same : Binds K A.d__law_same ["_law_found", "_law_due_here"] []
  F__law_house : Fun K "_law_house" "_law_house" s__law_house A.f__law_house A.d__law_house
  k__law_house : PySem.W.keepIn K (.ref A.f__law_house) = true
  g__law_house : mg "_law_house" = some (.ref A.f__law_house)
  b__law_house : Binds K A.d__law_house ["_law_marks", "_law_many"] []
  F__law_gains : Fun K "_law_gains" "_law_gains" s__law_gains A.f__law_gains A.d__law_gains
  k__law_gains : PySem.W.keepIn K (.ref A.f__law_gains) = true
  g__law_gains : mg "_law_gains" = some (.ref A.f__law_gains)
  b__law_gains : Binds K A.d__law_gains ["_law_h", "_law_hand", "_law_marks"] []
  F__law_is : Fun K "_law_is" "_law_is" s__law_is A.f__law_is A.d__law_is
  k__law_is : PySem.W.keepIn K (.ref A.f__law_is) = true
  g__law_is : mg "_law_is" = some (.ref A.f__law_is)
  b__law_is : Binds K A.d__law_is ["_law_house_here", "_law_h"] []
  F__law_kind : Fun K "_law_kind" "_law_kind" s__law_kind A.f__law_kind A.d__law_kind
  k__law_kind : PySem.W.keepIn K (.ref A.f__law_kind) = true
  g__law_kind : mg "_law_kind" = some (.ref A.f__law_kind)
  b__law_kind : Binds K A.d__law_kind ["_law_work"] []
  F__law_odd : Fun K "_law_odd" "_law_odd" s__law_odd A.f__law_odd A.d__law_odd
  k__law_odd : PySem.W.keepIn K (.ref A.f__law_odd) = true
  g__law_odd : mg "_law_odd" = some (.ref A.f__law_odd)
  b__law_odd : Binds K A.d__law_odd ["_law_state", "_law_most"] []
  F__law_due : Fun K "_law_due" "_law_due" s__law_due A.f__law_due A.d__law_due
  k__law_due : PySem.W.keepIn K (.ref A.f__law_due) = true
  g__law_due : mg "_law_due" = some (.ref A.f__law_due)
  b__law_due : Binds K A.d__law_due ["_law_h", "_law_hand", "_law_mark", "_law_puts"] []
  F__law_deed : Fun K "_law_deed" "_law_deed" s__law_deed A.f__law_deed A.d__law_deed
  k__law_deed : PySem.W.keepIn K (.ref A.f__law_deed) = true
  g__law_deed : mg "_law_deed" = some (.ref A.f__law_deed)
  b__law_deed : Binds K A.d__law_deed ["_law_state", "_law_house_here", "_law_h"] []
  F_law : Fun K "law" "law" s_law A.f_law A.d_law
  k_law : PySem.W.keepIn K (.ref A.f_law) = true
  g_law : mg "law" = some (.ref A.f_law)
  b_law : Binds K A.d_law ["_law_script"] []
  c_LAST_MARK : mg "LAST_MARK" = some (.int 96 A.t_LAST_MARK)
  c_WHEEL : mg "WHEEL" = some (.int 97 A.t_WHEEL)
  c_FEWEST_HANDS : mg "FEWEST_HANDS" = some (.int 2 A.t_FEWEST_HANDS)
  c_MOST_HANDS : mg "MOST_HANDS" = some (.int 4 A.t_MOST_HANDS)
  z_ValueError : mg "ValueError" = none
  z_bool : mg "bool" = none
  z_int : mg "int" = none
  z_isinstance : mg "isinstance" = none
  z_len : mg "len" = none
  z_list : mg "list" = none
  z_range : mg "range" = none
  z_set : mg "set" = none
  z_sorted : mg "sorted" = none
  z_str : mg "str" = none
  z_tuple : mg "tuple" = none
  g_MendError : mg "MendError" = some (.ref A.e_MendError)
  g_NoSet : mg "NoSet" = some (.ref A.e_NoSet)
  g_NoMark : mg "NoMark" = some (.ref A.e_NoMark)
  g_NoInverse : mg "NoInverse" = some (.ref A.e_NoInverse)
  g_NoCount : mg "NoCount" = some (.ref A.e_NoCount)
  g_NoHand : mg "NoHand" = some (.ref A.e_NoHand)
  g_NoLetter : mg "NoLetter" = some (.ref A.e_NoLetter)
  g_NoText : mg "NoText" = some (.ref A.e_NoText)
  g_Held : mg "Held" = some (.ref A.e_Held)
  g_NotHeld : mg "NotHeld" = some (.ref A.e_NotHeld)
  g_Unlike : mg "Unlike" = some (.ref A.e_Unlike)
  g_Late : mg "Late" = some (.ref A.e_Late)
  cd__law_deed : A.d__law_deed.code = .ref A.cc__law_deed
  tb__law_deed : LamX.TabB base mg A.cc__law_deed A.cp__law_deed
  cd_law : A.d_law.code = .ref A.cc_law
  tb_law : LamX.TabB base mg A.cc_law A.cp_law
  nt__law_deed_law : A.cp__law_deed ≠ A.cp_law
  g_House : mg "House" = some (.ref A.e_House)
  cl_House : Cls K A.e_House
  mk_House : Mk K A.e_House A.f_House___init__
  na_House__sets : NoAttr K A.e_House "_sets"
  na_House__deeds : NoAttr K A.e_House "_deeds"
  na_House__turns : NoAttr K A.e_House "_turns"
  x_NoSet : PySem.W.excIn K A.e_NoSet [.type "ValueError", .type "Exception", .type "BaseException", .type "object"] "ValueError.__new__" = true
  k_NoSet : PySem.W.keepIn K (.ref A.e_NoSet) = true
  bb_NoSet : PySem.W.subIn K (.ref A.e_NoSet) (.type "BaseException") = some true
  tt_NoSet : PySem.W.typeIn K (.ref A.e_NoSet) = some (.type "type")
  x_NoMark : PySem.W.excIn K A.e_NoMark [.type "ValueError", .type "Exception", .type "BaseException", .type "object"] "ValueError.__new__" = true
  k_NoMark : PySem.W.keepIn K (.ref A.e_NoMark) = true
  bb_NoMark : PySem.W.subIn K (.ref A.e_NoMark) (.type "BaseException") = some true
  tt_NoMark : PySem.W.typeIn K (.ref A.e_NoMark) = some (.type "type")
  x_NoHand : PySem.W.excIn K A.e_NoHand [.type "ValueError", .type "Exception", .type "BaseException", .type "object"] "ValueError.__new__" = true
  k_NoHand : PySem.W.keepIn K (.ref A.e_NoHand) = true
  bb_NoHand : PySem.W.subIn K (.ref A.e_NoHand) (.type "BaseException") = some true
  tt_NoHand : PySem.W.typeIn K (.ref A.e_NoHand) = some (.type "type")
  x_Held : PySem.W.excIn K A.e_Held [.type "ValueError", .type "Exception", .type "BaseException", .type "object"] "ValueError.__new__" = true
  k_Held : PySem.W.keepIn K (.ref A.e_Held) = true
  bb_Held : PySem.W.subIn K (.ref A.e_Held) (.type "BaseException") = some true
  tt_Held : PySem.W.typeIn K (.ref A.e_Held) = some (.type "type")
  x_NotHeld : PySem.W.excIn K A.e_NotHeld [.type "ValueError", .type "Exception", .type "BaseException", .type "object"] "ValueError.__new__" = true
  k_NotHeld : PySem.W.keepIn K (.ref A.e_NotHeld) = true
  bb_NotHeld : PySem.W.subIn K (.ref A.e_NotHeld) (.type "BaseException") = some true
  tt_NotHeld : PySem.W.typeIn K (.ref A.e_NotHeld) = some (.type "type")
  kvNoHand : PySem.W.kitOne K (.ref A.e_NoHand) (.type "ValueError") = some true
  kvNoMark : PySem.W.kitOne K (.ref A.e_NoMark) (.type "ValueError") = some true
  kvHeld : PySem.W.kitOne K (.ref A.e_Held) (.type "ValueError") = some true
  kvNotHeld : PySem.W.kitOne K (.ref A.e_NotHeld) (.type "ValueError") = some true
  k_NoHand_NoHand : PySem.W.kitOne K (.ref A.e_NoHand) (.ref A.e_NoHand) = some true
  k_NoHand_NoMark : PySem.W.kitOne K (.ref A.e_NoHand) (.ref A.e_NoMark) = some false
  k_NoHand_Held : PySem.W.kitOne K (.ref A.e_NoHand) (.ref A.e_Held) = some false
  k_NoHand_NotHeld : PySem.W.kitOne K (.ref A.e_NoHand) (.ref A.e_NotHeld) = some false
  k_NoMark_NoHand : PySem.W.kitOne K (.ref A.e_NoMark) (.ref A.e_NoHand) = some false
  k_NoMark_NoMark : PySem.W.kitOne K (.ref A.e_NoMark) (.ref A.e_NoMark) = some true
  k_NoMark_Held : PySem.W.kitOne K (.ref A.e_NoMark) (.ref A.e_Held) = some false
  k_NoMark_NotHeld : PySem.W.kitOne K (.ref A.e_NoMark) (.ref A.e_NotHeld) = some false
  k_Held_NoHand : PySem.W.kitOne K (.ref A.e_Held) (.ref A.e_NoHand) = some false
  k_Held_NoMark : PySem.W.kitOne K (.ref A.e_Held) (.ref A.e_NoMark) = some false
  k_Held_Held : PySem.W.kitOne K (.ref A.e_Held) (.ref A.e_Held) = some true
  k_Held_NotHeld : PySem.W.kitOne K (.ref A.e_Held) (.ref A.e_NotHeld) = some false
  k_NotHeld_NoHand : PySem.W.kitOne K (.ref A.e_NotHeld) (.ref A.e_NoHand) = some false
  k_NotHeld_NoMark : PySem.W.kitOne K (.ref A.e_NotHeld) (.ref A.e_NoMark) = some false
  k_NotHeld_Held : PySem.W.kitOne K (.ref A.e_NotHeld) (.ref A.e_Held) = some false
  k_NotHeld_NotHeld : PySem.W.kitOne K (.ref A.e_NotHeld) (.ref A.e_NotHeld) = some true
  ktNoHand : PySem.W.kitAny K (.ref A.e_NoHand) [.ref A.e_Late, .ref A.e_NoCount, .ref A.e_NoInverse, .ref A.e_NoLetter, .ref A.e_NoSet, .ref A.e_NoText, .ref A.e_Unlike] = some false
  ktNoMark : PySem.W.kitAny K (.ref A.e_NoMark) [.ref A.e_Late, .ref A.e_NoCount, .ref A.e_NoInverse, .ref A.e_NoLetter, .ref A.e_NoSet, .ref A.e_NoText, .ref A.e_Unlike] = some false
  ktHeld : PySem.W.kitAny K (.ref A.e_Held) [.ref A.e_Late, .ref A.e_NoCount, .ref A.e_NoInverse, .ref A.e_NoLetter, .ref A.e_NoSet, .ref A.e_NoText, .ref A.e_Unlike] = some false
  ktNotHeld : PySem.W.kitAny K (.ref A.e_NotHeld) [.ref A.e_Late, .ref A.e_NoCount, .ref A.e_NoInverse, .ref A.e_NoLetter, .ref A.e_NoSet, .ref A.e_NoText, .ref A.e_Unlike] = some false
  q1_NoHand : PySem.W.findIn K (.ref A.e_NoHand) "__getattribute__" = some (some (.builtin "BaseException.__getattribute__"))
  q2_NoHand : PySem.W.findIn K (.ref A.e_NoHand) "__getattr__" = some none
  q3_NoHand : PySem.W.subIn K (.ref A.e_NoHand) (.type "BaseException") = some true
  q4_NoHand : PySem.W.hasDictIn K A.e_NoHand = true
  q5_NoHand : PySem.W.findIn K (.ref A.e_NoHand) "__class__" = some (some (.builtin "object.__class__"))
  q6_NoHand : PySem.W.specialIn K (.builtin "object.__class__") "__get__" = some (some (.builtin "getset_descriptor.__get__"))
  q7_NoHand : PySem.W.takesIn K (.builtin "object.__class__") = some true
  q8_NoHand : PySem.W.mroIn K A.e_NoHand (.type "object") = some true
  s_NoHand_MendError : PySem.W.subIn K (.ref A.e_NoHand) (.ref A.e_MendError) = some true
  q1_NoMark : PySem.W.findIn K (.ref A.e_NoMark) "__getattribute__" = some (some (.builtin "BaseException.__getattribute__"))
  q2_NoMark : PySem.W.findIn K (.ref A.e_NoMark) "__getattr__" = some none
  q3_NoMark : PySem.W.subIn K (.ref A.e_NoMark) (.type "BaseException") = some true
  q4_NoMark : PySem.W.hasDictIn K A.e_NoMark = true
  q5_NoMark : PySem.W.findIn K (.ref A.e_NoMark) "__class__" = some (some (.builtin "object.__class__"))
  q6_NoMark : PySem.W.specialIn K (.builtin "object.__class__") "__get__" = some (some (.builtin "getset_descriptor.__get__"))
  q7_NoMark : PySem.W.takesIn K (.builtin "object.__class__") = some true
  q8_NoMark : PySem.W.mroIn K A.e_NoMark (.type "object") = some true
  s_NoMark_MendError : PySem.W.subIn K (.ref A.e_NoMark) (.ref A.e_MendError) = some true
  q1_Held : PySem.W.findIn K (.ref A.e_Held) "__getattribute__" = some (some (.builtin "BaseException.__getattribute__"))
  q2_Held : PySem.W.findIn K (.ref A.e_Held) "__getattr__" = some none
  q3_Held : PySem.W.subIn K (.ref A.e_Held) (.type "BaseException") = some true
  q4_Held : PySem.W.hasDictIn K A.e_Held = true
  q5_Held : PySem.W.findIn K (.ref A.e_Held) "__class__" = some (some (.builtin "object.__class__"))
  q6_Held : PySem.W.specialIn K (.builtin "object.__class__") "__get__" = some (some (.builtin "getset_descriptor.__get__"))
  q7_Held : PySem.W.takesIn K (.builtin "object.__class__") = some true
  q8_Held : PySem.W.mroIn K A.e_Held (.type "object") = some true
  s_Held_MendError : PySem.W.subIn K (.ref A.e_Held) (.ref A.e_MendError) = some true
  q1_NotHeld : PySem.W.findIn K (.ref A.e_NotHeld) "__getattribute__" = some (some (.builtin "BaseException.__getattribute__"))
  q2_NotHeld : PySem.W.findIn K (.ref A.e_NotHeld) "__getattr__" = some none
  q3_NotHeld : PySem.W.subIn K (.ref A.e_NotHeld) (.type "BaseException") = some true
  q4_NotHeld : PySem.W.hasDictIn K A.e_NotHeld = true
  q5_NotHeld : PySem.W.findIn K (.ref A.e_NotHeld) "__class__" = some (some (.builtin "object.__class__"))
  q6_NotHeld : PySem.W.specialIn K (.builtin "object.__class__") "__get__" = some (some (.builtin "getset_descriptor.__get__"))
  q7_NotHeld : PySem.W.takesIn K (.builtin "object.__class__") = some true
  q8_NotHeld : PySem.W.mroIn K A.e_NotHeld (.type "object") = some true
  s_NotHeld_MendError : PySem.W.subIn K (.ref A.e_NotHeld) (.ref A.e_MendError) = some true
  h1_MendError : PySem.W.subIn K (.ref A.e_MendError) (.type "BaseException") = some true
  h2_MendError : PySem.W.hasDictIn K A.e_MendError = true
  h3_MendError : PySem.W.typeIn K (.ref A.e_MendError) = some (.type "type")
theorem Txt.ec_NoHand {K : PySem.W.Frag} {mg : Str → Option Value} {base : Heap} {A : Ad} (T : Txt K mg base A) : ExcC K A.e_NoHand := ⟨T.q1_NoHand, T.q2_NoHand, T.q3_NoHand, T.q4_NoHand, T.q5_NoHand, T.q6_NoHand, T.q7_NoHand, T.q8_NoHand⟩
theorem Txt.ex_NoHand_MendError {K : PySem.W.Frag} {mg : Str → Option Value} {base : Heap} {A : Ad} (T : Txt K mg base A) : PySem.W.exmOne K (.ref A.e_NoHand) (.ref A.e_MendError) = some true := PySem.W.exm_ref T.h1_MendError T.h2_MendError T.h3_MendError T.s_NoHand_MendError
theorem Txt.ec_NoMark {K : PySem.W.Frag} {mg : Str → Option Value} {base : Heap} {A : Ad} (T : Txt K mg base A) : ExcC K A.e_NoMark := ⟨T.q1_NoMark, T.q2_NoMark, T.q3_NoMark, T.q4_NoMark, T.q5_NoMark, T.q6_NoMark, T.q7_NoMark, T.q8_NoMark⟩
theorem Txt.ex_NoMark_MendError {K : PySem.W.Frag} {mg : Str → Option Value} {base : Heap} {A : Ad} (T : Txt K mg base A) : PySem.W.exmOne K (.ref A.e_NoMark) (.ref A.e_MendError) = some true := PySem.W.exm_ref T.h1_MendError T.h2_MendError T.h3_MendError T.s_NoMark_MendError
theorem Txt.ec_Held {K : PySem.W.Frag} {mg : Str → Option Value} {base : Heap} {A : Ad} (T : Txt K mg base A) : ExcC K A.e_Held := ⟨T.q1_Held, T.q2_Held, T.q3_Held, T.q4_Held, T.q5_Held, T.q6_Held, T.q7_Held, T.q8_Held⟩
theorem Txt.ex_Held_MendError {K : PySem.W.Frag} {mg : Str → Option Value} {base : Heap} {A : Ad} (T : Txt K mg base A) : PySem.W.exmOne K (.ref A.e_Held) (.ref A.e_MendError) = some true := PySem.W.exm_ref T.h1_MendError T.h2_MendError T.h3_MendError T.s_Held_MendError
theorem Txt.ec_NotHeld {K : PySem.W.Frag} {mg : Str → Option Value} {base : Heap} {A : Ad} (T : Txt K mg base A) : ExcC K A.e_NotHeld := ⟨T.q1_NotHeld, T.q2_NotHeld, T.q3_NotHeld, T.q4_NotHeld, T.q5_NotHeld, T.q6_NotHeld, T.q7_NotHeld, T.q8_NotHeld⟩
theorem Txt.ex_NotHeld_MendError {K : PySem.W.Frag} {mg : Str → Option Value} {base : Heap} {A : Ad} (T : Txt K mg base A) : PySem.W.exmOne K (.ref A.e_NotHeld) (.ref A.e_MendError) = some true := PySem.W.exm_ref T.h1_MendError T.h2_MendError T.h3_MendError T.s_NotHeld_MendError
section
variable {P : Program} {w : World} {K : PySem.W.Frag} {mg : Str → Option Value} {base : Heap} {A : Ad}
/-! ### is_set: slots 0 marks, 1 before, 2 mark -/

theorem ok_is_set (T : Txt K mg base A) : FnOk P w K mg base CX0 1 A.f_is_set A.d_is_set ["marks"] (sp_is_set K) := by
  refine T.F_is_set.ok sc_is_set (fun vs H Q E h => by first | (obtain ⟨_, rfl, _⟩ := h; rfl) | (obtain ⟨_, _, rfl, _⟩ := h; rfl) | (obtain ⟨_, _, _, rfl, _⟩ := h; rfl) | (obtain ⟨_, _, _, _, rfl, _⟩ := h; rfl) | (obtain ⟨_, _, _, _, _, rfl, _⟩ := h; rfl) | (obtain ⟨_, _, _, _, _, _, rfl, _⟩ := h; rfl) | (obtain ⟨_, _, _, _, _, _, _, rfl, _⟩ := h; rfl) | (obtain ⟨_, _, _, _, _, _, _, _, rfl, _⟩ := h; rfl) | (obtain ⟨_, _, _, _, _, _, _, _, _, rfl, _⟩ := h; rfl) | (obtain ⟨_, _, _, _, _, _, _, _, _, _, rfl, _⟩ := h; rfl) | (obtain ⟨_, _, _, _, _, _, _, _, _, _, _, rfl, _⟩ := h; rfl) | (obtain ⟨_, _, _, _, _, _, _, _, _, _, _, _, rfl, _⟩ := h; rfl) | (obtain ⟨_, _, _, _, _, _, _, _, _, _, _, _, _, rfl, _⟩ := h; rfl) | (obtain ⟨_, _, _, _, _, _, _, _, _, _, _, _, _, _, rfl, _⟩ := h; rfl)) (fun cdv AA outer s H vs Q E hr h => ?_)
  refine ⟨_, (pss_cons (ps_set (i := 1) sc_is_set.nd rfl (.inl rfl) pe_int)
      (pss_cons (ps_for PassesOwn.never rfl (pi_tup (pv 0)) (pg_name (i := 2) sc_is_set.nd rfl (.inl rfl))
        (pss_cons (ps_if (PW.pt (pw_or (pt_cmpR op_le (pv 2) (pv 1) (nomark _)) (pw_or1 (pt_cmpR op_gt (pv 2) (pe_glob (v := .int 96) rfl T.c_LAST_MARK ⟨_, rfl⟩) (nomark _))))) (pss_one (ps_ret pe_bl)) pss_nil)
        (pss_one (ps_set (i := 1) sc_is_set.nd rfl (.inl rfl) (pv 2)))))
      (pss_one (ps_ret pe_bl)))), ?_⟩
  obtain ⟨a, ns, rfl, hS, q⟩ := h
  refine ⟨_, rfl, a, rfl, ⟨_, hS⟩, for_tup (K := K) (a := a) (xs := ns.map V.int) (fun i σ H' => ∃ (b : Int) (v : Option V), σ = [some (.ref a), some (.int b), v] ∧ H' = H ∧ isSetG b (ns.drop i) = isSetB ns) ⟨0, none, rfl, rfl, rfl⟩ (fun i σ H' _ ⟨_, _, _, e, _⟩ => e ▸ hS) ?_ ?_⟩
  · rintro i y σ H' hi ⟨b, v, rfl, rfl, hb⟩
    obtain ⟨z, hz, rfl⟩ := int_at hi
    have hd : ns.drop i = z :: ns.drop (i + 1) := by
      have hlt : i < ns.length := (List.getElem?_eq_some_iff.mp hz).1
      rw [List.drop_eq_getElem_cons hlt, (List.getElem?_eq_some_iff.mp hz).2]
    rw [hd] at hb
    unfold isSetG at hb
    refine ⟨_, rfl, _, rfl, _, _, rfl, rfl, _, rfl, ite2 (fun c => ?_) (fun c => ?_)⟩
    · refine iteT ?_
      rw [if_pos (.inl (of_decide_eq_true c))] at hb
      rw [← hb] at q
      exact q
    · refine ⟨_, rfl, _, _, rfl, rfl, _, rfl, ite2 (fun c2 => ?_) (fun c2 => ?_)⟩
      · rw [if_pos (.inr (of_decide_eq_true c2))] at hb
        rw [← hb] at q
        exact q
      · refine ⟨_, rfl, _, _, rfl, rfl, ?_⟩
        rw [if_neg (fun w => w.elim (fun w => c (decide_eq_true w)) fun w => c2 (decide_eq_true w))] at hb
        exact hb
  · rintro σ H' ⟨b, v, rfl, rfl, hb⟩
    rw [List.drop_of_length_le (by rw [List.length_map]; exact Nat.le_refl _)] at hb
    rw [← hb] at q
    exact q
/-! ### refuse_unless_set: slots 0 marks -/

theorem ok_refuse_unless_set (T : Txt K mg base A) : FnOk P w K mg base (L2.CX P w) 2 A.f_refuse_unless_set A.d_refuse_unless_set ["marks"] (sp_refuse_unless_set K A.e_NoSet) := by
  refine T.F_refuse_unless_set.okX sc_refuse_unless_set (fun vs H Q E h => by first | (obtain ⟨_, rfl, _⟩ := h; rfl) | (obtain ⟨_, _, rfl, _⟩ := h; rfl) | (obtain ⟨_, _, _, rfl, _⟩ := h; rfl) | (obtain ⟨_, _, _, _, rfl, _⟩ := h; rfl) | (obtain ⟨_, _, _, _, _, rfl, _⟩ := h; rfl) | (obtain ⟨_, _, _, _, _, _, rfl, _⟩ := h; rfl) | (obtain ⟨_, _, _, _, _, _, _, rfl, _⟩ := h; rfl) | (obtain ⟨_, _, _, _, _, _, _, _, rfl, _⟩ := h; rfl) | (obtain ⟨_, _, _, _, _, _, _, _, _, rfl, _⟩ := h; rfl) | (obtain ⟨_, _, _, _, _, _, _, _, _, _, rfl, _⟩ := h; rfl) | (obtain ⟨_, _, _, _, _, _, _, _, _, _, _, rfl, _⟩ := h; rfl) | (obtain ⟨_, _, _, _, _, _, _, _, _, _, _, _, rfl, _⟩ := h; rfl) | (obtain ⟨_, _, _, _, _, _, _, _, _, _, _, _, _, rfl, _⟩ := h; rfl) | (obtain ⟨_, _, _, _, _, _, _, _, _, _, _, _, _, _, rfl, _⟩ := h; rfl)) (fun cdv AA outer s H vs Q E hr h => ?_)
  refine ⟨_, (pss_one (ps_if (pt_not (pt_val (pe_call (ok_is_set T) (hr.mono (by decide)) (by rfl) T.g_is_set T.k_is_set T.b_is_set .nil pass0 (pa_cons (pv 0) pa_nil)))) (pss_one (ps_raise rfl (takes_of rfl rfl rfl rfl) (pmk_own PySem.F.excBase_ValueError T.x_NoSet T.g_NoSet T.k_NoSet (raises_own T.bb_NoSet T.tt_NoSet) rfl))) pss_nil)), ?_⟩
  obtain ⟨a, ns, rfl, hS, hE, hQ⟩ := h
  refine ⟨_, rfl, a, ns, rfl, hS, _, rfl, ?_⟩
  cases c : isSetB ns with
  | true => exact iteF (hQ c)
  | false => exact iteT (hE c)
/-! ### without: slots 0 marks, 1 others, 2 mark -/

theorem ok_without (T : Txt K mg base A) : FnOk P w K mg base CX0 1 A.f_without A.d_without ["marks", "others"] (sp_without K) := by
  refine T.F_without.ok sc_without (fun vs H Q E h => by first | (obtain ⟨_, rfl, _⟩ := h; rfl) | (obtain ⟨_, _, rfl, _⟩ := h; rfl) | (obtain ⟨_, _, _, rfl, _⟩ := h; rfl) | (obtain ⟨_, _, _, _, rfl, _⟩ := h; rfl) | (obtain ⟨_, _, _, _, _, rfl, _⟩ := h; rfl) | (obtain ⟨_, _, _, _, _, _, rfl, _⟩ := h; rfl) | (obtain ⟨_, _, _, _, _, _, _, rfl, _⟩ := h; rfl) | (obtain ⟨_, _, _, _, _, _, _, _, rfl, _⟩ := h; rfl) | (obtain ⟨_, _, _, _, _, _, _, _, _, rfl, _⟩ := h; rfl) | (obtain ⟨_, _, _, _, _, _, _, _, _, _, rfl, _⟩ := h; rfl) | (obtain ⟨_, _, _, _, _, _, _, _, _, _, _, rfl, _⟩ := h; rfl) | (obtain ⟨_, _, _, _, _, _, _, _, _, _, _, _, rfl, _⟩ := h; rfl) | (obtain ⟨_, _, _, _, _, _, _, _, _, _, _, _, _, rfl, _⟩ := h; rfl) | (obtain ⟨_, _, _, _, _, _, _, _, _, _, _, _, _, _, rfl, _⟩ := h; rfl)) (fun cdv AA outer s H vs Q E hr h => ?_)
  refine ⟨_, (pss_one (ps_ret (pe_callTy call_tuple_of (by rfl) T.z_tuple (by decide +kernel) (pa_cons (pe_lc (own := [("mark", 2)]) (g := gName 2)  rfl sc_without.nd (pi_tup (pv 0)) (blkOk_by (own := [("mark", 2)]) (N := ["marks", "others", "mark"]) (sc := defScope s_without) (by decide +kernel)) (fun _ _ _ _ _ => pg_name (i := 2) sc_without.nd rfl (Or.inl rfl)) (fun _ _ _ _ _ => (pts_one (pt_cmpR (op_notIn_seqK (K := K) rfl) (pv 2) (pv 1) (by rfl)))) (fun _ _ _ _ _ => (pv 2))) pa_nil)))), ?_⟩
  obtain ⟨a, b, xs, ys, rfl, ha, hb, hl, q⟩ := h
  refine ⟨_, rfl, a, rfl, ⟨_, ha⟩, fun D hD => lc_pureT (K := K) (a := a) (xs := xs.map V.int) (fun v => match v with | .int z => decide (z ∉ ys) | _ => false) (fun v => v) hD ha (by rw [List.length_map]; omega) (fun _ => rfl) ?_ (fun x _ _ H2 s2 Q' q' => ⟨_, rfl, q' H2 (Same.refl _)⟩) fun H2 s2 hd => ?_⟩
  · intro x hx H2 s2 Q' q'
    obtain ⟨z, hz, rfl⟩ := List.mem_map.mp hx
    exact ⟨_, rfl, _, rfl, notin_turn (seqT_same s2 hb) ⟨_, rfl, q' H2 (Same.refl _)⟩⟩
  rw [int_filter (g := fun z => decide (z ∉ ys)) (fun _ _ => rfl)] at hd
  exact ⟨D, _, rfl, .inl ⟨SqL.of hd, fun t ht => q t _ (s2.trans (same_upd ht)) (s2.free ht) upd_same⟩⟩
/-! ### apart: slots 0 one, 1 other -/

theorem ok_apart (T : Txt K mg base A) : FnOk P w K mg base (L2.CX P w) 3 A.f_apart A.d_apart ["one", "other"] (sp_apart K A.e_NoSet) := by
  refine T.F_apart.okX sc_apart (fun vs H Q E h => by first | (obtain ⟨_, rfl, _⟩ := h; rfl) | (obtain ⟨_, _, rfl, _⟩ := h; rfl) | (obtain ⟨_, _, _, rfl, _⟩ := h; rfl) | (obtain ⟨_, _, _, _, rfl, _⟩ := h; rfl) | (obtain ⟨_, _, _, _, _, rfl, _⟩ := h; rfl) | (obtain ⟨_, _, _, _, _, _, rfl, _⟩ := h; rfl) | (obtain ⟨_, _, _, _, _, _, _, rfl, _⟩ := h; rfl) | (obtain ⟨_, _, _, _, _, _, _, _, rfl, _⟩ := h; rfl) | (obtain ⟨_, _, _, _, _, _, _, _, _, rfl, _⟩ := h; rfl) | (obtain ⟨_, _, _, _, _, _, _, _, _, _, rfl, _⟩ := h; rfl) | (obtain ⟨_, _, _, _, _, _, _, _, _, _, _, rfl, _⟩ := h; rfl) | (obtain ⟨_, _, _, _, _, _, _, _, _, _, _, _, rfl, _⟩ := h; rfl) | (obtain ⟨_, _, _, _, _, _, _, _, _, _, _, _, _, rfl, _⟩ := h; rfl) | (obtain ⟨_, _, _, _, _, _, _, _, _, _, _, _, _, _, rfl, _⟩ := h; rfl)) (fun cdv AA outer s H vs Q E hr h => ?_)
  refine ⟨_, (pss_cons (ps_expr (pe_call (ok_refuse_unless_set T) (hr.mono (by decide)) (by rfl) T.g_refuse_unless_set T.k_refuse_unless_set T.b_refuse_unless_set .nil (passes_call (takes_of rfl rfl rfl rfl) (fun _ _ _ _ z => z)) (pa_cons (pv 0) pa_nil)))
      (pss_cons (ps_expr (pe_call (ok_refuse_unless_set T) (hr.mono (by decide)) (by rfl) T.g_refuse_unless_set T.k_refuse_unless_set T.b_refuse_unless_set .nil (passes_call (takes_of rfl rfl rfl rfl) (fun _ _ _ _ z => z)) (pa_cons (pv 1) pa_nil)))
      (pss_one (ps_ret (pe_tup (pa_cons (pe_call (ok_without T) (hr.mono (by decide)) (by rfl) T.g_without T.k_without T.b_without .nil pass0 (pa_cons (pv 1) (pa_cons (pv 0) pa_nil))) (pa_cons (pe_call (ok_without T) (hr.mono (by decide)) (by rfl) T.g_without T.k_without T.b_without .nil pass0 (pa_cons (pv 0) (pa_cons (pv 1) pa_nil))) pa_nil))))))), ?_⟩
  obtain ⟨a, b, xs, ys, rfl, ha, hb, hE, q⟩ := h
  refine ⟨_, rfl, a, xs, rfl, ha, fun c => hE (.inl c), fun cx => ?_⟩
  refine ⟨_, rfl, b, ys, rfl, hb, fun c => hE (.inr c), fun cy => ?_⟩
  have lx := (isSetB_iff.mp cx).len
  have ly := (isSetB_iff.mp cy).len
  refine ⟨_, rfl, _, rfl, b, a, ys, xs, rfl, hb, ha, by omega, fun t1 H1 s1 _ h1 => ?_⟩
  refine ⟨_, rfl, _, rfl, a, b, xs, ys, rfl, seqT_same s1 ha, seqT_same s1 hb, by omega, fun t2 H2 s2 _ h2 => ?_⟩
  refine ⟨by show 2 ≤ sizeLine; decide, fun t ht => ?_⟩
  have s3 := same_upd (o := .tup [.ref t1, .ref t2]) ht
  exact q cx cy t t1 t2 _ ((s1.trans s2).trans s3) ((s1.trans s2).free ht) upd_same (s3 _ _ (s2 _ _ h1)) (s3 _ _ h2)
/-! ### mended: slots 0 own, 1 lacks, 2 over -/

theorem ok_mended (T : Txt K mg base A) : FnOk P w K mg base (L2.CX P w) 3 A.f_mended A.d_mended ["own", "lacks", "over"] (sp_mended K A.e_NoSet) := by
  refine T.F_mended.okX sc_mended (fun vs H Q E h => by first | (obtain ⟨_, rfl, _⟩ := h; rfl) | (obtain ⟨_, _, rfl, _⟩ := h; rfl) | (obtain ⟨_, _, _, rfl, _⟩ := h; rfl) | (obtain ⟨_, _, _, _, rfl, _⟩ := h; rfl) | (obtain ⟨_, _, _, _, _, rfl, _⟩ := h; rfl) | (obtain ⟨_, _, _, _, _, _, rfl, _⟩ := h; rfl) | (obtain ⟨_, _, _, _, _, _, _, rfl, _⟩ := h; rfl) | (obtain ⟨_, _, _, _, _, _, _, _, rfl, _⟩ := h; rfl) | (obtain ⟨_, _, _, _, _, _, _, _, _, rfl, _⟩ := h; rfl) | (obtain ⟨_, _, _, _, _, _, _, _, _, _, rfl, _⟩ := h; rfl) | (obtain ⟨_, _, _, _, _, _, _, _, _, _, _, rfl, _⟩ := h; rfl) | (obtain ⟨_, _, _, _, _, _, _, _, _, _, _, _, rfl, _⟩ := h; rfl) | (obtain ⟨_, _, _, _, _, _, _, _, _, _, _, _, _, rfl, _⟩ := h; rfl) | (obtain ⟨_, _, _, _, _, _, _, _, _, _, _, _, _, _, rfl, _⟩ := h; rfl)) (fun cdv AA outer s H vs Q E hr h => ?_)
  refine ⟨_, (pss_cons (ps_expr (pe_call (ok_refuse_unless_set T) (hr.mono (by decide)) (by rfl) T.g_refuse_unless_set T.k_refuse_unless_set T.b_refuse_unless_set .nil (passes_call (takes_of rfl rfl rfl rfl) (fun _ _ _ _ z => z)) (pa_cons (pv 0) pa_nil)))
      (pss_cons (ps_expr (pe_call (ok_refuse_unless_set T) (hr.mono (by decide)) (by rfl) T.g_refuse_unless_set T.k_refuse_unless_set T.b_refuse_unless_set .nil (passes_call (takes_of rfl rfl rfl rfl) (fun _ _ _ _ z => z)) (pa_cons (pv 1) pa_nil)))
      (pss_cons (ps_expr (pe_call (ok_refuse_unless_set T) (hr.mono (by decide)) (by rfl) T.g_refuse_unless_set T.k_refuse_unless_set T.b_refuse_unless_set .nil (passes_call (takes_of rfl rfl rfl rfl) (fun _ _ _ _ z => z)) (pa_cons (pv 2) pa_nil)))
      (pss_one (ps_ret (pe_callTy call_tuple_of (by rfl) T.z_tuple (by decide +kernel) (pa_cons (pe_callB (call_sortedU rfl) (by rfl) T.z_sorted (by decide +kernel) (pa_cons (pe_callTy (call_setQ rfl) (by rfl) T.z_set (by decide +kernel) (pa_cons (pe_op op_catA (pv 1) (pe_call (ok_without T) (hr.mono (by decide)) (by rfl) T.g_without T.k_without T.b_without .nil pass0 (pa_cons (pv 0) (pa_cons (pv 2) pa_nil)))) pa_nil)) pa_nil)) pa_nil))))))), ?_⟩
  obtain ⟨a, b, c, xs, ys, zs, rfl, ha, hb, hc, hE, q⟩ := h
  refine ⟨_, rfl, a, xs, rfl, ha, fun c => hE (.inl c), fun cx => ?_⟩
  refine ⟨_, rfl, b, ys, rfl, hb, fun c => hE (.inr (.inl c)), fun cy => ?_⟩
  refine ⟨_, rfl, c, zs, rfl, hc, fun c => hE (.inr (.inr c)), fun cz => ?_⟩
  have hx := isSetB_iff.mp cx
  have hy := isSetB_iff.mp cy
  have lx := hx.len
  have ly := hy.len
  refine ⟨_, rfl, _, rfl, _, rfl, a, c, xs, zs, rfl, ha, hc, by omega, fun t1 H1 s1 _ h1 => ?_⟩
  have ld : (diffL xs zs).length ≤ xs.length := List.length_filter_le _ _
  refine catA_ints (zs := ys) (ns := diffL xs zs) (seqT_same s1 hb) (SqT.of h1) (by omega) fun w H2 s2 hw => ?_
  refine ⟨w, ys ++ diffL xs zs, rfl, .inr hw, by rw [List.length_append]; omega, fun n p hn hp => ?_⟩
  rw [List.length_append] at hn
  refine ⟨p, _, n, rfl, upd_same, by omega, fun ms p2 hpw hmem hlen hp2 => ?_⟩
  refine ⟨p2, _, rfl, .inl ⟨SqL.of upd_same, fun t ht => ?_⟩⟩
  have e : ms = mendL xs ys zs := eq_of_up _ _ hpw (mendL_set _ _ _).up fun z => by
    rw [hmem z, decide_eq_true_eq, mem_mendL hx hy, List.mem_append, mem_diffL]
  subst e
  exact q cx cy cz t _ ((((s1.trans s2).trans (same_upd hp)).trans (same_upd hp2)).trans (same_upd ht)) ((((s1.trans s2).trans (same_upd hp)).trans (same_upd hp2)).free ht) upd_same
/-! ### refuse_unless_mark: slots 0 mark -/

theorem ok_refuse_unless_mark (T : Txt K mg base A) : FnOk P w K mg base (L2.CX P w) 2 A.f_refuse_unless_mark A.d_refuse_unless_mark ["mark"] (sp_refuse_unless_mark A.e_NoMark) := by
  refine T.F_refuse_unless_mark.okX sc_refuse_unless_mark (fun vs H Q E h => by first | (obtain ⟨_, rfl, _⟩ := h; rfl) | (obtain ⟨_, _, rfl, _⟩ := h; rfl) | (obtain ⟨_, _, _, rfl, _⟩ := h; rfl) | (obtain ⟨_, _, _, _, rfl, _⟩ := h; rfl) | (obtain ⟨_, _, _, _, _, rfl, _⟩ := h; rfl) | (obtain ⟨_, _, _, _, _, _, rfl, _⟩ := h; rfl) | (obtain ⟨_, _, _, _, _, _, _, rfl, _⟩ := h; rfl) | (obtain ⟨_, _, _, _, _, _, _, _, rfl, _⟩ := h; rfl) | (obtain ⟨_, _, _, _, _, _, _, _, _, rfl, _⟩ := h; rfl) | (obtain ⟨_, _, _, _, _, _, _, _, _, _, rfl, _⟩ := h; rfl) | (obtain ⟨_, _, _, _, _, _, _, _, _, _, _, rfl, _⟩ := h; rfl) | (obtain ⟨_, _, _, _, _, _, _, _, _, _, _, _, rfl, _⟩ := h; rfl) | (obtain ⟨_, _, _, _, _, _, _, _, _, _, _, _, _, rfl, _⟩ := h; rfl) | (obtain ⟨_, _, _, _, _, _, _, _, _, _, _, _, _, _, rfl, _⟩ := h; rfl)) (fun cdv AA outer s H vs Q E hr h => ?_)
  refine ⟨_, (pss_one (ps_if (pt_not (pt_val (pe_call (ok_is_set T) (hr.mono (by decide)) (by rfl) T.g_is_set T.k_is_set T.b_is_set .nil pass0 (pa_cons (pe_tup (pa_cons (pv 0) pa_nil)) pa_nil)))) (pss_one (ps_raise rfl (takes_of rfl rfl rfl rfl) (pmk_own PySem.F.excBase_ValueError T.x_NoMark T.g_NoMark T.k_NoMark (raises_own T.bb_NoMark T.tt_NoMark) rfl))) pss_nil)), ?_⟩
  obtain ⟨m, rfl, hE, q⟩ := h
  refine ⟨_, rfl, by show 1 ≤ sizeLine; decide, fun p hp => ?_⟩
  refine ⟨p, [m], rfl, SqT.of upd_same, _, rfl, ?_⟩
  rw [one_set]
  by_cases c : 1 ≤ m ∧ m ≤ 96
  · rw [decide_eq_true c]
    exact iteF (q c.1 c.2 _ (same_upd hp))
  · rw [decide_eq_false c]
    exact iteT (hE c _ (same_upd hp))
/-! ### House___init__: slots 0 self, 1 marks, 2 many, 3 _ -/

theorem ok_House___init__ (T : Txt K mg base A) : FnOk P w K mg base (L2.CX P w) 3 A.f_House___init__ A.d_House___init__ ["self", "marks", "many"] (sp_House___init__ K A.e_House A.e_NoSet A.e_NoHand) := by
  refine T.F_House___init__.okX sc_House___init__ (fun vs H Q E h => by first | (obtain ⟨_, rfl, _⟩ := h; rfl) | (obtain ⟨_, _, rfl, _⟩ := h; rfl) | (obtain ⟨_, _, _, rfl, _⟩ := h; rfl) | (obtain ⟨_, _, _, _, rfl, _⟩ := h; rfl) | (obtain ⟨_, _, _, _, _, rfl, _⟩ := h; rfl) | (obtain ⟨_, _, _, _, _, _, rfl, _⟩ := h; rfl) | (obtain ⟨_, _, _, _, _, _, _, rfl, _⟩ := h; rfl) | (obtain ⟨_, _, _, _, _, _, _, _, rfl, _⟩ := h; rfl) | (obtain ⟨_, _, _, _, _, _, _, _, _, rfl, _⟩ := h; rfl) | (obtain ⟨_, _, _, _, _, _, _, _, _, _, rfl, _⟩ := h; rfl) | (obtain ⟨_, _, _, _, _, _, _, _, _, _, _, rfl, _⟩ := h; rfl) | (obtain ⟨_, _, _, _, _, _, _, _, _, _, _, _, rfl, _⟩ := h; rfl) | (obtain ⟨_, _, _, _, _, _, _, _, _, _, _, _, _, rfl, _⟩ := h; rfl) | (obtain ⟨_, _, _, _, _, _, _, _, _, _, _, _, _, _, rfl, _⟩ := h; rfl)) (fun cdv AA outer s H vs Q E hr h => ?_)
  refine ⟨_, (pss_cons (ps_expr (pe_call (ok_refuse_unless_set T) (hr.mono (by decide)) (by rfl) T.g_refuse_unless_set T.k_refuse_unless_set T.b_refuse_unless_set .nil (passes_call (takes_of rfl rfl rfl rfl) (fun _ _ _ _ z => z)) (pa_cons (pv 1) pa_nil)))
      (pss_cons (ps_if (PW.pt (pw_or (pt_cmpR op_lt (pv 2) (pe_glob (v := .int 2) rfl T.c_FEWEST_HANDS ⟨_, rfl⟩) (nomark _)) (pw_or1 (pt_cmpR op_gt (pv 2) (pe_glob (v := .int 4) rfl T.c_MOST_HANDS ⟨_, rfl⟩) (nomark _))))) (pss_one (ps_raise rfl (takes_of rfl rfl rfl rfl) (pmk_own PySem.F.excBase_ValueError T.x_NoHand T.g_NoHand T.k_NoHand (raises_own T.bb_NoHand T.tt_NoHand) rfl))) pss_nil)
      (pss_cons (ps_fld (pv 0) (pe_op op_rep (pe_lst (pa_cons (pv 1) pa_nil)) (pv 2)) rfl)
      (pss_cons (ps_fld (pv 0) (pe_lc (own := [("_", 3)]) (g := gName 3)  rfl sc_House___init__.nd (pi_range1 (by rfl) T.z_range (pa_cons (pv 2) pa_nil)) (blkOk_by (own := [("_", 3)]) (N := ["self", "marks", "many", "_"]) (sc := defScope s_House___init__) (by decide +kernel)) (fun _ _ _ _ _ => pg_name (i := 3) sc_House___init__.nd rfl (Or.inl rfl)) (fun _ _ _ _ _ => pts_nil) (fun _ _ _ _ _ => (pe_op op_rep (pe_lst (pa_cons pe_int pa_nil)) (pv 2)))) rfl)
      (pss_one (ps_fld (pv 0) (pe_lc (own := [("_", 3)]) (g := gName 3)  rfl sc_House___init__.nd (pi_range1 (by rfl) T.z_range (pa_cons (pv 2) pa_nil)) (blkOk_by (own := [("_", 3)]) (N := ["self", "marks", "many", "_"]) (sc := defScope s_House___init__) (by decide +kernel)) (fun _ _ _ _ _ => pg_name (i := 3) sc_House___init__.nd rfl (Or.inl rfl)) (fun _ _ _ _ _ => pts_nil) (fun _ _ _ _ _ => (pe_op op_rep (pe_lst (pa_cons pe_int pa_nil)) (pv 2)))) rfl)))))), ?_⟩
  obtain ⟨x, dx, o, own, many, rfl, hx, ho, hE1, hE2, q⟩ := h
  refine ⟨_, rfl, o, own, rfl, SqT.of ho, hE1, fun hs => ?_⟩
  refine ⟨_, rfl, _, _, rfl, rfl, _, rfl, ?_⟩
  by_cases c1 : many < 2
  · rw [decide_eq_true c1]
    exact iteT (iteT (hE2 hs (.inl c1)))
  rw [decide_eq_false c1]
  refine iteF ⟨_, rfl, _, _, rfl, rfl, _, rfl, ?_⟩
  by_cases c2 : 4 < many
  · rw [decide_eq_true c2]
    exact iteT (hE2 hs (.inr c2))
  rw [decide_eq_false c2]
  refine iteF ?_
  obtain ⟨n, rfl⟩ : ∃ n : Nat, many = n := ⟨many.toNat, by omega⟩
  have sz : 1000 ≤ sizeLine := by decide
  -- the sets
  refine ⟨_, rfl, by show 1 ≤ sizeLine; decide, fun l hl => ?_⟩
  have s1 := same_upd (o := .lst [V.ref o]) hl
  refine ⟨_, rfl, l, _, _, rfl, rfl, upd_same, by omega, by omega, by show 1 * _ ≤ sizeLine; omega, fun p hp => ?_⟩
  rw [rep_one]
  have hp0 : H p = none := s1.free hp
  have s2 := s1.trans (same_upd (o := .lst (List.replicate n (V.ref o))) hp)
  have hp2 := upd_same (H := upd H l (.lst [V.ref o])) (a := p) (o := .lst (List.replicate n (V.ref o)))
  generalize upd (upd H l (.lst [V.ref o])) p (.lst (List.replicate n (V.ref o))) = H2 at s2 hp2
  have l1 := putF_le "_sets" (V.ref p) []
  have l0 : ([] : List (Str × V)).length = 0 := rfl
  have hx2 := s2 _ _ hx
  refine ⟨_, rfl, x, _, dx, [], rfl, hx2, T.cl_House, T.na_House__sets, by omega, ?_⟩
  have k3 : ∀ w u, H w = some u → w ≠ x → upd H2 x (.ins A.e_House dx (putF "_sets" (V.ref p) [])) w = some u := fun w u e n => by
    rw [upd_ne n]
    exact s2 _ _ e
  have npx : p ≠ x := ne_of hp2 hx2 fun z => nomatch z
  have hp3 : upd H2 x (.ins A.e_House dx (putF "_sets" (V.ref p) [])) p = some (.lst (List.replicate n (V.ref o))) := by
    rw [upd_ne npx]
    exact hp2
  have hx3 := upd_same (H := H2) (a := x) (o := .ins A.e_House dx (putF "_sets" (V.ref p) []))
  generalize upd H2 x (.ins A.e_House dx (putF "_sets" (V.ref p) [])) = H3 at k3 hp3 hx3
  -- the deeds
  refine ⟨_, rfl, (n : Int), rfl, by omega, by omega, fun D hD => lc_rows (walk_range (lo := 0) (n := ((n : Int)).toNat)) (fun _ => rowV n fun _ => 0) (by omega) hD (fun _ _ => trivial) ?_ fun rows H4 s4 hd4 hl4 nd4 hf4 hr4 => ?_⟩
  · rintro i v H5 H6 hi s5 ⟨rfl, rfl⟩ Q' q'
    refine ⟨rfl, by show 1 ≤ sizeLine; decide, fun l hl => ?_⟩
    refine ⟨_, rfl, l, _, _, rfl, rfl, upd_same, by omega, by omega, by show 1 * _ ≤ sizeLine; omega, fun r hr => ?_⟩
    rw [rep_one, ← rowV_zero]
    exact q' r _ ((same_upd hl).trans (same_upd hr)) ((same_upd hl).free hr) upd_same
  have hx4 := s4 _ _ hx3
  have l2 := putF_le "_deeds" (V.ref D) (putF "_sets" (V.ref p) [])
  refine ⟨_, rfl, x, _, dx, _, rfl, hx4, T.cl_House, T.na_House__deeds, by omega, ?_⟩
  have k5 : ∀ w u, H3 w = some u → w ≠ x → upd H4 x (.ins A.e_House dx (putF "_deeds" (V.ref D) (putF "_sets" (V.ref p) []))) w = some u := fun w u e n => by
    rw [upd_ne n]
    exact s4 _ _ e
  have n5 : ∀ q o, H4 q = some (.lst o) → upd H4 x (.ins A.e_House dx (putF "_deeds" (V.ref D) (putF "_sets" (V.ref p) []))) q = some (.lst o) := fun q o e => by
    rw [upd_ne (ne_of e hx4 fun z => nomatch z)]
    exact e
  have hx5 := upd_same (H := H4) (a := x) (o := .ins A.e_House dx (putF "_deeds" (V.ref D) (putF "_sets" (V.ref p) [])))
  generalize upd H4 x (.ins A.e_House dx (putF "_deeds" (V.ref D) (putF "_sets" (V.ref p) []))) = H5 at k5 n5 hx5
  -- the turns
  refine ⟨_, rfl, (n : Int), rfl, by omega, by omega, fun G hG => lc_rows (walk_range (lo := 0) (n := ((n : Int)).toNat)) (fun _ => rowV n fun _ => 0) (by omega) hG (fun _ _ => trivial) ?_ fun rows2 H6 s6 hd6 hl6 nd6 hf6 hr6 => ?_⟩
  · rintro i v H5 H6 hi s5 ⟨rfl, rfl⟩ Q' q'
    refine ⟨rfl, by show 1 ≤ sizeLine; decide, fun l hl => ?_⟩
    refine ⟨_, rfl, l, _, _, rfl, rfl, upd_same, by omega, by omega, by show 1 * _ ≤ sizeLine; omega, fun r hr => ?_⟩
    rw [rep_one, ← rowV_zero]
    exact q' r _ ((same_upd hl).trans (same_upd hr)) ((same_upd hl).free hr) upd_same
  have hx6 := s6 _ _ hx5
  have l3 := putF_le "_turns" (V.ref G) (putF "_deeds" (V.ref D) (putF "_sets" (V.ref p) []))
  refine ⟨_, rfl, x, _, dx, _, rfl, hx6, T.cl_House, T.na_House__turns, by omega, ?_⟩
  have n7 : ∀ q o, H6 q = some (.lst o) → upd H6 x (.ins A.e_House dx (houseF p D G)) q = some (.lst o) := fun q o e => by
    rw [upd_ne (ne_of e hx6 fun z => nomatch z)]
    exact e
  have hlr : rows.length = n := by omega
  have hlr2 : rows2.length = n := by omega
  have f3 : ∀ q, H3 q = none → H q = none := fun q e => by
    cases e2 : H q with
    | none => rfl
    | some u =>
      by_cases c : q = x
      · rw [c, hx3] at e
        cases e
      · rw [k3 q u e2 c] at e
        cases e
  have f5 : ∀ q, H5 q = none → H q = none := fun q e => by
    cases e2 : H3 q with
    | none => exact f3 q e2
    | some u =>
      by_cases c : q = x
      · rw [c, hx5] at e
        cases e
      · rw [k5 q u e2 c] at e
        cases e
  have hD5 := n5 _ _ hd4
  have hr5 : ∀ i r, rows[i]? = some r → H5 r = some (.lst (rowV n fun _ => 0)) := fun i r h => n5 _ _ (hr4 i r h)
  have hp5 := k5 _ _ hp3 npx
  have hox : o ≠ x := ne_of ho hx fun z => nomatch z
  refine q hs n rfl (by omega) (by omega) ⟨p, D, G, rows, rows2⟩ _ ?_ ⟨⟨dx, upd_same⟩, ⟨⟨List.replicate n o, ?_, List.length_replicate, ?_⟩, ⟨?_, hlr, ?_⟩, ⟨?_, hlr2, ?_⟩, ?_, by omega, by omega, fun _ => isSetB_iff.mp hs⟩⟩ fun w u e c => ?_
  · intro q hq
    rcases List.mem_cons.mp hq with rfl | hq
    · exact hp0
    rcases List.mem_cons.mp hq with rfl | hq
    · exact f3 _ (hf4 _ List.mem_cons_self)
    rcases List.mem_cons.mp hq with rfl | hq
    · exact f5 _ (hf6 _ List.mem_cons_self)
    rcases List.mem_append.mp hq with hq | hq
    · exact f3 _ (hf4 _ (List.mem_cons_of_mem _ hq))
    · exact f5 _ (hf6 _ (List.mem_cons_of_mem _ hq))
  · rw [List.map_replicate]
    exact n7 _ _ (s6 _ _ hp5)
  · intro i q hq
    obtain rfl : q = o := by
      have := List.mem_of_getElem? hq
      exact List.eq_of_mem_replicate this
    rw [upd_ne hox]
    exact s6 _ _ (k5 _ _ (k3 _ _ ho hox) hox)
  · exact n7 _ _ (s6 _ _ hD5)
  · intro i r h
    exact n7 _ _ (s6 _ _ (hr5 i r h))
  · exact n7 _ _ hd6
  · intro i r h
    exact n7 _ _ (hr6 i r h)
  · refine cr_nd (P1 := fun q => H3 q = none) (P2 := fun q => H5 q = none) (fun z => ?_) hf4 (fun q hq z => ?_) hf6 nd4 nd6
    · rw [hp3] at z
      cases z
    · rcases List.mem_cons.mp hq with rfl | hq
      · rw [hp5] at z
        cases z
      rcases List.mem_cons.mp hq with rfl | hq
      · rw [hD5] at z
        cases z
      · obtain ⟨j, hj⟩ := List.mem_iff_getElem?.mp hq
        rw [hr5 j q hj] at z
        cases z
  · rw [upd_ne c]
    exact s6 _ _ (k5 _ _ (k3 _ _ e c) c)
/-! ### House__refuse_unless_hand: slots 0 self, 1 hand -/

theorem ok_House__refuse_unless_hand (T : Txt K mg base A) : FnOk P w K mg base (L2.CX P w) 1 A.f_House__refuse_unless_hand A.d_House__refuse_unless_hand ["self", "hand"] (sp_House__refuse_unless_hand A.e_House A.e_NoHand) := by
  refine T.F_House__refuse_unless_hand.okX sc_House__refuse_unless_hand (fun vs H Q E h => by first | (obtain ⟨_, rfl, _⟩ := h; rfl) | (obtain ⟨_, _, rfl, _⟩ := h; rfl) | (obtain ⟨_, _, _, rfl, _⟩ := h; rfl) | (obtain ⟨_, _, _, _, rfl, _⟩ := h; rfl) | (obtain ⟨_, _, _, _, _, rfl, _⟩ := h; rfl) | (obtain ⟨_, _, _, _, _, _, rfl, _⟩ := h; rfl) | (obtain ⟨_, _, _, _, _, _, _, rfl, _⟩ := h; rfl) | (obtain ⟨_, _, _, _, _, _, _, _, rfl, _⟩ := h; rfl) | (obtain ⟨_, _, _, _, _, _, _, _, _, rfl, _⟩ := h; rfl) | (obtain ⟨_, _, _, _, _, _, _, _, _, _, rfl, _⟩ := h; rfl) | (obtain ⟨_, _, _, _, _, _, _, _, _, _, _, rfl, _⟩ := h; rfl) | (obtain ⟨_, _, _, _, _, _, _, _, _, _, _, _, rfl, _⟩ := h; rfl) | (obtain ⟨_, _, _, _, _, _, _, _, _, _, _, _, _, rfl, _⟩ := h; rfl) | (obtain ⟨_, _, _, _, _, _, _, _, _, _, _, _, _, _, rfl, _⟩ := h; rfl)) (fun cdv AA outer s H vs Q E hr h => ?_)
  refine ⟨_, (pss_one (ps_if (PW.pt (pw_or (pt_cmpR op_lt (pv 1) pe_int (nomark _)) (pw_or1 (pt_cmpR op_ge (pv 1) (pe_callB call_len_seq (by rfl) T.z_len PySem.boot_len (pa_cons (pe_fld (pv 0) rfl) pa_nil)) (nomark _))))) (pss_one (ps_raise rfl (takes_of rfl rfl rfl rfl) (pmk_own PySem.F.excBase_ValueError T.x_NoHand T.g_NoHand T.k_NoHand (raises_own T.bb_NoHand T.tt_NoHand) rfl))) pss_nil)), ?_⟩
  obtain ⟨x, c, n, S, D, T', i, rfl, HA, hE, q⟩ := h
  obtain ⟨dx, hx⟩ := HA.obj
  obtain ⟨as, hl, hn, has⟩ := HA.core.sets.ex
  refine ⟨_, rfl, _, _, rfl, rfl, _, rfl, ?_⟩
  by_cases c1 : i < 0
  · rw [decide_eq_true c1]
    exact iteT (iteT (hE fun z => by omega))
  rw [decide_eq_false c1]
  refine iteF ⟨_, rfl, _, rfl, x, _, dx, _, _, rfl, hx, T.cl_House, T.na_House__sets, houseF_sets _ _ _, _, _, rfl, .inl (SqL.of hl), _, _, rfl, rfl, _, rfl, ?_⟩
  rw [List.length_map, hn]
  by_cases c2 : i < (n : Int)
  · rw [decide_eq_false (by omega)]
    exact iteF (q (by omega) c2)
  · rw [decide_eq_true (by omega)]
    exact iteT (hE fun z => by omega)
/-! ### House_marks: slots 0 self, 1 hand -/

theorem ok_House_marks (T : Txt K mg base A) : FnOk P w K mg base (L2.CX P w) 2 A.f_House_marks A.d_House_marks ["self", "hand"] (sp_House_marks A.e_House A.e_NoHand) := by
  refine T.F_House_marks.okX sc_House_marks (fun vs H Q E h => by first | (obtain ⟨_, rfl, _⟩ := h; rfl) | (obtain ⟨_, _, rfl, _⟩ := h; rfl) | (obtain ⟨_, _, _, rfl, _⟩ := h; rfl) | (obtain ⟨_, _, _, _, rfl, _⟩ := h; rfl) | (obtain ⟨_, _, _, _, _, rfl, _⟩ := h; rfl) | (obtain ⟨_, _, _, _, _, _, rfl, _⟩ := h; rfl) | (obtain ⟨_, _, _, _, _, _, _, rfl, _⟩ := h; rfl) | (obtain ⟨_, _, _, _, _, _, _, _, rfl, _⟩ := h; rfl) | (obtain ⟨_, _, _, _, _, _, _, _, _, rfl, _⟩ := h; rfl) | (obtain ⟨_, _, _, _, _, _, _, _, _, _, rfl, _⟩ := h; rfl) | (obtain ⟨_, _, _, _, _, _, _, _, _, _, _, rfl, _⟩ := h; rfl) | (obtain ⟨_, _, _, _, _, _, _, _, _, _, _, _, rfl, _⟩ := h; rfl) | (obtain ⟨_, _, _, _, _, _, _, _, _, _, _, _, _, rfl, _⟩ := h; rfl) | (obtain ⟨_, _, _, _, _, _, _, _, _, _, _, _, _, _, rfl, _⟩ := h; rfl)) (fun cdv AA outer s H vs Q E hr h => ?_)
  refine ⟨_, (pss_cons (ps_expr (pe_meth (pv 0) T.cl_House T.m_House__refuse_unless_hand (ok_House__refuse_unless_hand T) (hr.mono (by decide)) T.b_House__refuse_unless_hand .nil (passes_call (takes_of rfl rfl rfl rfl) (fun _ _ _ _ z => z)) (pa_cons (pv 1) pa_nil)))
      (pss_one (ps_ret (pe_ix ix_list (pe_fld (pv 0) rfl) (pv 1) (fun _ _ => rfl))))), ?_⟩
  obtain ⟨x, c, n, S, D, T', i, rfl, HA, hE, q⟩ := h
  obtain ⟨dx, hx⟩ := HA.obj
  refine ⟨_, rfl, x, _, _, rfl, hx, houseF_m (by decide +kernel), _, rfl, x, c, n, S, D, T', i, rfl, HA, hE, fun i0 i1 => ?_⟩
  obtain ⟨xs, p, hl, hn, hat, hp⟩ := HA.core.sets.get i0 i1
  exact ⟨_, rfl, x, _, dx, _, _, rfl, hx, T.cl_House, T.na_House__sets, houseF_sets _ _ _, _, rfl, c.l, _, i, _, rfl, rfl, SqL.of hl, hat, q i0 i1 _ hp⟩
/-! ### House__others: slots 0 self, 1 hand, 2 other -/

theorem ok_House__others (T : Txt K mg base A) : FnOk P w K mg base CX0 1 A.f_House__others A.d_House__others ["self", "hand"] (sp_House__others A.e_House) := by
  refine T.F_House__others.ok sc_House__others (fun vs H Q E h => by first | (obtain ⟨_, rfl, _⟩ := h; rfl) | (obtain ⟨_, _, rfl, _⟩ := h; rfl) | (obtain ⟨_, _, _, rfl, _⟩ := h; rfl) | (obtain ⟨_, _, _, _, rfl, _⟩ := h; rfl) | (obtain ⟨_, _, _, _, _, rfl, _⟩ := h; rfl) | (obtain ⟨_, _, _, _, _, _, rfl, _⟩ := h; rfl) | (obtain ⟨_, _, _, _, _, _, _, rfl, _⟩ := h; rfl) | (obtain ⟨_, _, _, _, _, _, _, _, rfl, _⟩ := h; rfl) | (obtain ⟨_, _, _, _, _, _, _, _, _, rfl, _⟩ := h; rfl) | (obtain ⟨_, _, _, _, _, _, _, _, _, _, rfl, _⟩ := h; rfl) | (obtain ⟨_, _, _, _, _, _, _, _, _, _, _, rfl, _⟩ := h; rfl) | (obtain ⟨_, _, _, _, _, _, _, _, _, _, _, _, rfl, _⟩ := h; rfl) | (obtain ⟨_, _, _, _, _, _, _, _, _, _, _, _, _, rfl, _⟩ := h; rfl) | (obtain ⟨_, _, _, _, _, _, _, _, _, _, _, _, _, _, rfl, _⟩ := h; rfl)) (fun cdv AA outer s H vs Q E hr h => ?_)
  refine ⟨_, (pss_one (ps_ret (pe_lc (own := [("other", 2)]) (g := gName 2)  rfl sc_House__others.nd (pi_range1 (by rfl) T.z_range (pa_cons (pe_callB call_len_seq (by rfl) T.z_len PySem.boot_len (pa_cons (pe_fld (pv 0) rfl) pa_nil)) pa_nil)) (blkOk_by (own := [("other", 2)]) (N := ["self", "hand", "other"]) (sc := defScope s_House__others) (by decide +kernel)) (fun _ _ _ _ _ => pg_name (i := 2) sc_House__others.nd rfl (Or.inl rfl)) (fun _ _ _ _ _ => (pts_one (pt_cmpR op_ne (pv 2) (pv 1) (nomark _)))) (fun _ _ _ _ _ => (pv 2))))), ?_⟩
  obtain ⟨x, c, n, S, D, T', i, rfl, HA, q⟩ := h
  obtain ⟨dx, hx⟩ := HA.obj
  obtain ⟨as, hl, hn, has⟩ := HA.core.sets.ex
  have n4 := HA.core.n4
  refine ⟨_, rfl, x, _, dx, _, _, rfl, hx, T.cl_House, T.na_House__sets, houseF_sets _ _ _, _, _, rfl, .inl (SqL.of hl), n, by rw [List.length_map, hn], by omega, by omega, fun G hG => lc_FT (walk_range (lo := 0) (n := ((n : Int)).toNat)) (fun k => decide (k ≠ i)) (fun k => V.int (0 + (k : Int))) (by omega) hG (fun _ _ => trivial) ?_ fun H2 s2 hg => ?_⟩
  · rintro k v H3 H4 hk s3 ⟨rfl, rfl⟩ Q' q'
    refine ⟨rfl, _, rfl, _, rfl, rfl, ?_⟩
    have e : (!decide (V.int (0 + (k : Int)) = V.int (i : Int))) = decide (k ≠ i) := by
      by_cases c : k = i
      · subst c
        simp
      · rw [decide_eq_true (show k ≠ i from c), decide_eq_false fun z => c (by have := V.int.inj z; omega)]
        rfl
    rw [e]
    exact ⟨_, rfl, q' _ _ (Same.refl _) fun _ Q2 k2 => ⟨_, rfl, k2 _ (Same.refl _)⟩⟩
  · refine q G H2 s2 hG ?_
    rw [hg]
    unfold othersL othersN
    rw [List.map_map, Int.toNat_natCast]
    congr 2
    refine List.map_congr_left fun k _ => ?_
    show V.int (0 + (k : Int)) = V.int (k : Int)
    rw [Int.zero_add]
/-! ### House__change: slots 0 self, 1 hand, 2 marks, 3 come, 4 gone, 5 other -/

theorem ok_House__change (T : Txt K mg base A) : FnOk P w K mg base (L2.CX P w) 4 A.f_House__change A.d_House__change ["self", "hand", "marks"] (sp_House__change K A.e_House A.e_NoSet) := by
  refine T.F_House__change.okX sc_House__change (fun vs H Q E h => by first | (obtain ⟨_, rfl, _⟩ := h; rfl) | (obtain ⟨_, _, rfl, _⟩ := h; rfl) | (obtain ⟨_, _, _, rfl, _⟩ := h; rfl) | (obtain ⟨_, _, _, _, rfl, _⟩ := h; rfl) | (obtain ⟨_, _, _, _, _, rfl, _⟩ := h; rfl) | (obtain ⟨_, _, _, _, _, _, rfl, _⟩ := h; rfl) | (obtain ⟨_, _, _, _, _, _, _, rfl, _⟩ := h; rfl) | (obtain ⟨_, _, _, _, _, _, _, _, rfl, _⟩ := h; rfl) | (obtain ⟨_, _, _, _, _, _, _, _, _, rfl, _⟩ := h; rfl) | (obtain ⟨_, _, _, _, _, _, _, _, _, _, rfl, _⟩ := h; rfl) | (obtain ⟨_, _, _, _, _, _, _, _, _, _, _, rfl, _⟩ := h; rfl) | (obtain ⟨_, _, _, _, _, _, _, _, _, _, _, _, rfl, _⟩ := h; rfl) | (obtain ⟨_, _, _, _, _, _, _, _, _, _, _, _, _, rfl, _⟩ := h; rfl) | (obtain ⟨_, _, _, _, _, _, _, _, _, _, _, _, _, _, rfl, _⟩ := h; rfl)) (fun cdv AA outer s H vs Q E hr h => ?_)
  refine ⟨_, (pss_cons (ps_asg (pe_call (ok_apart T) (hr.mono (by decide)) (by rfl) T.g_apart T.k_apart T.b_apart .nil (passes_call (takes_of rfl rfl rfl rfl) (fun _ _ _ _ z => z)) (pa_cons (pe_ix ix_list (pe_fld (pv 0) rfl) (pv 1) (fun _ _ => rfl)) (pa_cons (pv 2) pa_nil))) (pg_tup rfl (pgs_cons (pg_name (i := 3) sc_House__change.nd rfl (.inl rfl)) (pgs_cons (pg_name (i := 4) sc_House__change.nd rfl (.inl rfl)) pgs_nil))))
      (pss_cons (ps_asg (pv 2) (pg_sub (pe_fld (pv 0) rfl) (pv 1) set_list))
      (pss_one (ps_for (passes_of rfl) rfl (pi_list (pe_meth (pv 0) T.cl_House T.m_House__others (ok_House__others T) (hr.mono (by decide)) T.b_House__others .nil pass0 (pa_cons (pv 1) pa_nil))) (pg_name (i := 5) sc_House__change.nd rfl (.inl rfl))
        (pss_one (ps_augS (pe_ix ix_list (pe_fld (pv 0) rfl) (pv 1) (fun _ _ => rfl)) (pv 5) Lm.get_list (pe_op op_add (pe_callB call_len_seq (by rfl) T.z_len PySem.boot_len (pa_cons (pv 3) pa_nil)) (pe_callB call_len_seq (by rfl) T.z_len PySem.boot_len (pa_cons (pv 4) pa_nil))) ip_add set_list)))))), ?_⟩
  obtain ⟨x, c, n, S, D, T', i, a, ns, rfl, HA, hi, ha, hs, q⟩ := h
  obtain ⟨dx, hx⟩ := HA.obj
  obtain ⟨as, hl, hn, has⟩ := HA.core.sets.ex
  have hk := List.getElem?_eq_getElem (by omega : i < as.length)
  generalize as[i]'(by omega) = p at hk
  have hp := has i p hk
  have hat : atI (as.map V.ref) (i : Int) = some (.ref p) := atI_nat (by rw [List.getElem?_map, hk]; rfl)
  refine ⟨_, rfl, x, _, dx, _, _, rfl, hx, T.cl_House, T.na_House__sets, houseF_sets _ _ _, _, rfl, c.l, _, i, _, rfl, rfl, SqL.of hl, hat, _, rfl, p, a, S i, ns, rfl, SqT.of hp, SqT.of ha, ?_, ?_⟩
  · rw [isSetB_iff.mpr (HA.core.ok i), isSetB_iff.mpr hs]
    exact fun z => z.elim (fun z => nomatch z) fun z => nomatch z
  intro _ _ t t1 t2 H1 s1 _ ht h1 h2
  refine ⟨t, _, rfl, SqT.of ht, rfl, _, _, rfl, _, _, rfl, rfl, ?_⟩
  have hx1 := s1 _ _ hx
  have hl1 := s1 _ _ hl
  refine ⟨_, rfl, _, rfl, x, _, dx, _, _, rfl, hx1, T.cl_House, T.na_House__sets, houseF_sets _ _ _, _, rfl, c.l, _, i, i, rfl, rfl, hl1, ?_, ?_⟩
  · rw [List.length_map, hn]
    exact Evl.ixN_nat hi
  have HA1 := HA.same s1
  have m2 : Mv c.ls H1 (upd H1 c.l (.lst ((as.map V.ref).set i (.ref a)))) := Mv.upd c.l_mem hl1
  have co2 := HA1.core.setL hl1 hn (fun k p h => s1 _ _ (has k p h)) hi (s1 _ _ ha) hs
  generalize upd H1 c.l (.lst ((as.map V.ref).set i (.ref a))) = H2 at m2 co2
  have hx2 := m2.ins hx1
  have h12 := m2.tup h1
  have h22 := m2.tup h2
  refine ⟨_, rfl, x, _, _, rfl, hx2, houseF_m (by decide +kernel), _, rfl, x, c, n, _, _, _, i, rfl, ⟨⟨dx, hx2⟩, co2⟩, fun w H3 s3 nw hw => ?_⟩
  have wnl : w ∉ c.ls := fun z => by
    rcases List.mem_cons.mp z with rfl | z
    · obtain ⟨_, e, _⟩ := co2.sets.ex
      rw [e] at nw
      cases nw
    rcases List.mem_cons.mp z with rfl | z
    · rw [co2.deeds.top] at nw
      cases nw
    rcases List.mem_cons.mp z with rfl | z
    · rw [co2.turns.top] at nw
      cases nw
    rcases List.mem_append.mp z with z | z
    · obtain ⟨j, hj⟩ := List.mem_iff_getElem?.mp z
      rw [co2.deeds.row j w hj] at nw
      cases nw
    · obtain ⟨j, hj⟩ := List.mem_iff_getElem?.mp z
      rw [co2.turns.row j w hj] at nw
      cases nw
  have co3 := co2.same s3
  have m3 : Mv c.ls H H3 := ((Mv.of s1).trans m2).trans (Mv.of s3)
  refine ⟨w, rfl, ⟨_, SqL.of hw⟩, for_list (K := K) (a := w) (xs := (othersL n i).map V.int) (fun j σ H' => ∃ v5 : Option V, σ = [some (.ref x), some (.int (i : Int)), some (.ref a), some (.ref t1), some (.ref t2), v5] ∧ Mv c.ls H3 H' ∧ H' w = some (.lst ((othersL n i).map V.int)) ∧ CoreAt H' c n (setS S i ns) (gainL D i ((othersN n i).take j) (apartN (S i) ns)) T') ⟨none, rfl, Mv.of (Same.refl _), hw, by rw [List.take_zero, gainL_nil]; exact co3⟩ (fun j σ H' _ ⟨_, _, _, h, _⟩ => SqL.of h) ?_ ?_⟩
  · rintro j y σ H4 hj ⟨v5, rfl, m4, hw4, co4⟩
    obtain ⟨m, hm, rfl⟩ : ∃ m : Nat, (othersN n i)[j]? = some m ∧ y = .int (m : Int) := by
      unfold othersL at hj
      rw [List.map_map, List.getElem?_map] at hj
      cases e : (othersN n i)[j]? with
      | none =>
        rw [e] at hj
        cases hj
      | some m =>
        rw [e] at hj
        exact ⟨m, rfl, (Option.some.inj hj).symm⟩
    have hmn := othersN_lt (List.mem_of_getElem? hm)
    have hnd := take_nd (othersN_nd n i) hm
    have hx4 := m4.ins (s3 _ _ hx2)
    have h14 := m4.tup (s3 _ _ h12)
    have h24 := m4.tup (s3 _ _ h22)
    obtain ⟨r, hr, hat4, hrow⟩ := co4.deeds.ex hi
    have hold : atI (rowV n (gainL D i ((othersN n i).take j) (apartN (S i) ns) i)) (m : Int) = some (.int (D i m)) := by
      rw [← gainL_old (D := D) (i := i) (k := apartN (S i) ns) hnd]
      exact atI_nat (rowV_at _ hmn.1)
    refine ⟨_, rfl, x, _, dx, _, _, rfl, hx4, T.cl_House, T.na_House__deeds, houseF_deeds _ _ _, _, rfl, c.d, _, i, _, rfl, rfl, SqL.of co4.deeds.top, atI_nat hat4, _, rfl, r, _, _, _, rfl, rfl, SqL.of hrow, Int.natCast_nonneg _, hold, ?_⟩
    refine ⟨_, rfl, t1, _, rfl, .inr (SqT.of h14), _, rfl, t2, _, rfl, .inr (SqT.of h24), _, _, rfl, rfl, _, _, rfl, rfl, r, _, _, m, rfl, rfl, hrow, ?_, ?_⟩
    · rw [rowV_len]
      exact Evl.ixN_nat hmn.1
    have wr : w ≠ r := fun z => wnl (z ▸ Cr.rd_mem (List.mem_of_getElem? hr))
    have e1 : (((diffL ns (S i)).map V.int).length : Int) + (((diffL (S i) ns).map V.int).length : Int) = apartN (S i) ns := by
      unfold apartN
      rw [List.length_map, List.length_map]
    rw [e1]
    refine ⟨_, rfl, m4.trans (Mv.upd (Cr.rd_mem (List.mem_of_getElem? hr)) hrow), by rw [upd_ne wr]; exact hw4, ?_⟩
    have ht : (othersN n i).take (j + 1) = (othersN n i).take j ++ [m] := by
      rw [List.take_add_one, hm]
      rfl
    rw [ht]
    exact gain_turn co4 hmn.1 hnd hr
  · rintro σ H4 ⟨v5, rfl, m4, hw4, co4⟩
    rw [List.length_map] at co4
    have hlo : (othersL n i).length = (othersN n i).length := List.length_map _
    rw [hlo, List.take_length] at co4
    exact q _ (m3.trans m4) ⟨⟨dx, m4.ins (s3 _ _ hx2)⟩, co4⟩
/-! ### House_put: slots 0 self, 1 hand, 2 mark -/

theorem ok_House_put (T : Txt K mg base A) : FnOk P w K mg base (L2.CX P w) 5 A.f_House_put A.d_House_put ["self", "hand", "mark"] (sp_House_put A.e_House A.e_NoHand A.e_NoMark A.e_Held) := by
  refine T.F_House_put.okX sc_House_put (fun vs H Q E h => by first | (obtain ⟨_, rfl, _⟩ := h; rfl) | (obtain ⟨_, _, rfl, _⟩ := h; rfl) | (obtain ⟨_, _, _, rfl, _⟩ := h; rfl) | (obtain ⟨_, _, _, _, rfl, _⟩ := h; rfl) | (obtain ⟨_, _, _, _, _, rfl, _⟩ := h; rfl) | (obtain ⟨_, _, _, _, _, _, rfl, _⟩ := h; rfl) | (obtain ⟨_, _, _, _, _, _, _, rfl, _⟩ := h; rfl) | (obtain ⟨_, _, _, _, _, _, _, _, rfl, _⟩ := h; rfl) | (obtain ⟨_, _, _, _, _, _, _, _, _, rfl, _⟩ := h; rfl) | (obtain ⟨_, _, _, _, _, _, _, _, _, _, rfl, _⟩ := h; rfl) | (obtain ⟨_, _, _, _, _, _, _, _, _, _, _, rfl, _⟩ := h; rfl) | (obtain ⟨_, _, _, _, _, _, _, _, _, _, _, _, rfl, _⟩ := h; rfl) | (obtain ⟨_, _, _, _, _, _, _, _, _, _, _, _, _, rfl, _⟩ := h; rfl) | (obtain ⟨_, _, _, _, _, _, _, _, _, _, _, _, _, _, rfl, _⟩ := h; rfl)) (fun cdv AA outer s H vs Q E hr h => ?_)
  refine ⟨_, (pss_cons (ps_expr (pe_meth (pv 0) T.cl_House T.m_House__refuse_unless_hand (ok_House__refuse_unless_hand T) (hr.mono (by decide)) T.b_House__refuse_unless_hand .nil (passes_call (takes_of rfl rfl rfl rfl) (fun _ _ _ _ z => z)) (pa_cons (pv 1) pa_nil)))
      (pss_cons (ps_expr (pe_call (ok_refuse_unless_mark T) (hr.mono (by decide)) (by rfl) T.g_refuse_unless_mark T.k_refuse_unless_mark T.b_refuse_unless_mark .nil (passes_call (takes_of rfl rfl rfl rfl) (fun _ _ _ _ z => z)) (pa_cons (pv 2) pa_nil)))
      (pss_cons (ps_if (pt_cmpR op_in_seq (pv 2) (pe_ix ix_list (pe_fld (pv 0) rfl) (pv 1) (fun _ _ => rfl)) (by rfl)) (pss_one (ps_raise rfl (takes_of rfl rfl rfl rfl) (pmk_own PySem.F.excBase_ValueError T.x_Held T.g_Held T.k_Held (raises_own T.bb_Held T.tt_Held) rfl))) pss_nil)
      (pss_cons (ps_expr (pe_meth (pv 0) T.cl_House T.m_House__change (ok_House__change T) (hr.mono (by decide)) T.b_House__change .nil passL (pa_cons (pv 1) (pa_cons (pe_call (ok_mended T) (hr.mono (by decide)) (by rfl) T.g_mended T.k_mended T.b_mended .nil (passes_call (takes_of rfl rfl rfl rfl) (fun _ _ _ _ z => z)) (pa_cons (pe_ix ix_list (pe_fld (pv 0) rfl) (pv 1) (fun _ _ => rfl)) (pa_cons (pe_tup (pa_cons (pv 2) pa_nil)) (pa_cons (pe_tup pa_nil) pa_nil)))) pa_nil))))
      (pss_one (ps_ret (pe_callB call_len_seq (by rfl) T.z_len PySem.boot_len (pa_cons (pe_ix ix_list (pe_fld (pv 0) rfl) (pv 1) (fun _ _ => rfl)) pa_nil)))))))), ?_⟩
  obtain ⟨x, c, n, S, D, T', i, m, rfl, HA, hE1, hE2, hE3, q⟩ := h
  obtain ⟨dx, hx⟩ := HA.obj
  refine ⟨_, rfl, x, _, _, rfl, hx, houseF_m (by decide +kernel), _, rfl, x, c, n, S, D, T', i, rfl, HA, fun z => hE1 z _ (Same.refl _), fun i0 i1 => ?_⟩
  refine ⟨_, rfl, m, rfl, fun z H' s => hE2 i0 i1 z H' s, fun m0 m1 H1 s1 => ?_⟩
  obtain ⟨k, rfl⟩ := Int.eq_ofNat_of_zero_le i0
  have HA1 := HA.same s1
  obtain ⟨xs, p, hl, hn, hat, hp⟩ := HA1.core.sets.get i0 i1
  rw [Int.toNat_natCast] at hp hE3
  have hx1 := s1 _ _ hx
  have hk : k < n := by omega
  refine ⟨_, rfl, _, rfl, x, _, dx, _, _, rfl, hx1, T.cl_House, T.na_House__sets, houseF_sets _ _ _, _, rfl, c.l, _, _, _, rfl, rfl, SqL.of hl, hat, in_turn (SqT.of hp) ⟨_, rfl, ?_⟩⟩
  by_cases cm : m ∈ S k
  · rw [decide_eq_true cm]
    exact iteT (hE3 i0 i1 m0 m1 (decide_eq_true cm) _ s1)
  rw [decide_eq_false cm]
  refine iteF ?_
  refine ⟨_, rfl, x, _, _, rfl, hx1, houseF_m (by decide +kernel), _, rfl, _, rfl, x, _, dx, _, _, rfl, hx1, T.cl_House, T.na_House__sets, houseF_sets _ _ _, _, rfl, c.l, _, _, _, rfl, rfl, SqL.of hl, hat, ?_⟩
  refine ⟨_, rfl, by show 1 ≤ sizeLine; decide, fun u hu => ⟨by show 0 ≤ sizeLine; decide, fun v hv => ?_⟩⟩
  have s3 := (same_upd (o := .tup [V.int m]) hu).trans (same_upd (o := .tup []) hv)
  have hu3 := (same_upd (o := .tup []) hv) _ _ (upd_same (H := H1) (a := u) (o := .tup [V.int m]))
  have hv3 := upd_same (H := upd H1 u (.tup [V.int m])) (a := v) (o := .tup [])
  generalize upd (upd H1 u (.tup [V.int m])) v (.tup []) = H3 at s3 hu3 hv3
  have hp3 := s3 _ _ hp
  refine ⟨p, u, v, S k, [m], [], rfl, SqT.of hp3, SqT.of hu3, SqT.of hv3, ?_, fun _ _ _ t H4 s4 _ ht => ?_⟩
  · rw [isSetB_iff.mpr (HA.core.ok k), one_set, decide_eq_true ⟨m0, m1⟩]
    exact fun z => z.elim (fun z => nomatch z) fun z => z.elim (fun z => nomatch z) fun z => nomatch z
  have HA4 := HA1.same (s3.trans s4)
  refine ⟨x, c, n, S, D, T', k, t, _, rfl, HA4, hk, ht, mendL_set _ _ _, fun H5 m5 HA5 => ?_⟩
  obtain ⟨dx5, hx5⟩ := HA5.obj
  obtain ⟨xs5, p5, hl5, hn5, hat5, hp5⟩ := HA5.core.sets.get i0 i1
  rw [Int.toNat_natCast] at hp5
  have es : setS S k (mendL (S k) [m] []) k = mendL (S k) [m] [] := if_pos rfl
  rw [es] at hp5
  refine ⟨_, rfl, x, _, dx5, _, _, rfl, hx5, T.cl_House, T.na_House__sets, houseF_sets _ _ _, _, rfl, c.l, _, _, _, rfl, rfl, SqL.of hl5, hat5, p5, _, rfl, .inr (SqT.of hp5), ?_⟩
  rw [List.length_map]
  exact q k rfl hk m0 m1 (decide_eq_false cm) _ _ rfl (mendL_set _ _ _) ((Mv.of (s1.trans (s3.trans s4))).trans m5) HA5
/-! ### House_take: slots 0 self, 1 hand, 2 mark -/

theorem ok_House_take (T : Txt K mg base A) : FnOk P w K mg base (L2.CX P w) 5 A.f_House_take A.d_House_take ["self", "hand", "mark"] (sp_House_take A.e_House A.e_NoHand A.e_NoMark A.e_NotHeld) := by
  refine T.F_House_take.okX sc_House_take (fun vs H Q E h => by first | (obtain ⟨_, rfl, _⟩ := h; rfl) | (obtain ⟨_, _, rfl, _⟩ := h; rfl) | (obtain ⟨_, _, _, rfl, _⟩ := h; rfl) | (obtain ⟨_, _, _, _, rfl, _⟩ := h; rfl) | (obtain ⟨_, _, _, _, _, rfl, _⟩ := h; rfl) | (obtain ⟨_, _, _, _, _, _, rfl, _⟩ := h; rfl) | (obtain ⟨_, _, _, _, _, _, _, rfl, _⟩ := h; rfl) | (obtain ⟨_, _, _, _, _, _, _, _, rfl, _⟩ := h; rfl) | (obtain ⟨_, _, _, _, _, _, _, _, _, rfl, _⟩ := h; rfl) | (obtain ⟨_, _, _, _, _, _, _, _, _, _, rfl, _⟩ := h; rfl) | (obtain ⟨_, _, _, _, _, _, _, _, _, _, _, rfl, _⟩ := h; rfl) | (obtain ⟨_, _, _, _, _, _, _, _, _, _, _, _, rfl, _⟩ := h; rfl) | (obtain ⟨_, _, _, _, _, _, _, _, _, _, _, _, _, rfl, _⟩ := h; rfl) | (obtain ⟨_, _, _, _, _, _, _, _, _, _, _, _, _, _, rfl, _⟩ := h; rfl)) (fun cdv AA outer s H vs Q E hr h => ?_)
  refine ⟨_, (pss_cons (ps_expr (pe_meth (pv 0) T.cl_House T.m_House__refuse_unless_hand (ok_House__refuse_unless_hand T) (hr.mono (by decide)) T.b_House__refuse_unless_hand .nil (passes_call (takes_of rfl rfl rfl rfl) (fun _ _ _ _ z => z)) (pa_cons (pv 1) pa_nil)))
      (pss_cons (ps_expr (pe_call (ok_refuse_unless_mark T) (hr.mono (by decide)) (by rfl) T.g_refuse_unless_mark T.k_refuse_unless_mark T.b_refuse_unless_mark .nil (passes_call (takes_of rfl rfl rfl rfl) (fun _ _ _ _ z => z)) (pa_cons (pv 2) pa_nil)))
      (pss_cons (ps_if (pt_cmpR op_notIn_seq (pv 2) (pe_ix ix_list (pe_fld (pv 0) rfl) (pv 1) (fun _ _ => rfl)) (by rfl)) (pss_one (ps_raise rfl (takes_of rfl rfl rfl rfl) (pmk_own PySem.F.excBase_ValueError T.x_NotHeld T.g_NotHeld T.k_NotHeld (raises_own T.bb_NotHeld T.tt_NotHeld) rfl))) pss_nil)
      (pss_cons (ps_expr (pe_meth (pv 0) T.cl_House T.m_House__change (ok_House__change T) (hr.mono (by decide)) T.b_House__change .nil passL (pa_cons (pv 1) (pa_cons (pe_call (ok_mended T) (hr.mono (by decide)) (by rfl) T.g_mended T.k_mended T.b_mended .nil (passes_call (takes_of rfl rfl rfl rfl) (fun _ _ _ _ z => z)) (pa_cons (pe_ix ix_list (pe_fld (pv 0) rfl) (pv 1) (fun _ _ => rfl)) (pa_cons (pe_tup pa_nil) (pa_cons (pe_tup (pa_cons (pv 2) pa_nil)) pa_nil)))) pa_nil))))
      (pss_one (ps_ret (pe_callB call_len_seq (by rfl) T.z_len PySem.boot_len (pa_cons (pe_ix ix_list (pe_fld (pv 0) rfl) (pv 1) (fun _ _ => rfl)) pa_nil)))))))), ?_⟩
  obtain ⟨x, c, n, S, D, T', i, m, rfl, HA, hE1, hE2, hE3, q⟩ := h
  obtain ⟨dx, hx⟩ := HA.obj
  refine ⟨_, rfl, x, _, _, rfl, hx, houseF_m (by decide +kernel), _, rfl, x, c, n, S, D, T', i, rfl, HA, fun z => hE1 z _ (Same.refl _), fun i0 i1 => ?_⟩
  refine ⟨_, rfl, m, rfl, fun z H' s => hE2 i0 i1 z H' s, fun m0 m1 H1 s1 => ?_⟩
  obtain ⟨k, rfl⟩ := Int.eq_ofNat_of_zero_le i0
  have HA1 := HA.same s1
  obtain ⟨xs, p, hl, hn, hat, hp⟩ := HA1.core.sets.get i0 i1
  rw [Int.toNat_natCast] at hp hE3
  have hx1 := s1 _ _ hx
  have hk : k < n := by omega
  refine ⟨_, rfl, _, rfl, x, _, dx, _, _, rfl, hx1, T.cl_House, T.na_House__sets, houseF_sets _ _ _, _, rfl, c.l, _, _, _, rfl, rfl, SqL.of hl, hat, notin_turn (SqT.of hp) ⟨_, rfl, ?_⟩⟩
  by_cases cm : m ∉ S k
  · rw [decide_eq_true cm]
    exact iteT (hE3 i0 i1 m0 m1 (decide_eq_false cm) _ s1)
  rw [decide_eq_false cm]
  refine iteF ?_
  refine ⟨_, rfl, x, _, _, rfl, hx1, houseF_m (by decide +kernel), _, rfl, _, rfl, x, _, dx, _, _, rfl, hx1, T.cl_House, T.na_House__sets, houseF_sets _ _ _, _, rfl, c.l, _, _, _, rfl, rfl, SqL.of hl, hat, ?_⟩
  refine ⟨by show 0 ≤ sizeLine; decide, fun u hu => ⟨_, rfl, by show 1 ≤ sizeLine; decide, fun v hv => ?_⟩⟩
  have s3 := (same_upd (o := .tup []) hu).trans (same_upd (o := .tup [V.int m]) hv)
  have hu3 := (same_upd (o := .tup [V.int m]) hv) _ _ (upd_same (H := H1) (a := u) (o := .tup []))
  have hv3 := upd_same (H := upd H1 u (.tup [])) (a := v) (o := .tup [V.int m])
  generalize upd (upd H1 u (.tup [])) v (.tup [V.int m]) = H3 at s3 hu3 hv3
  have hp3 := s3 _ _ hp
  refine ⟨p, u, v, S k, [], [m], rfl, SqT.of hp3, SqT.of hu3, SqT.of hv3, ?_, fun _ _ _ t H4 s4 _ ht => ?_⟩
  · rw [isSetB_iff.mpr (HA.core.ok k), one_set, decide_eq_true ⟨m0, m1⟩]
    exact fun z => z.elim (fun z => nomatch z) fun z => z.elim (fun z => nomatch z) fun z => nomatch z
  have HA4 := HA1.same (s3.trans s4)
  refine ⟨x, c, n, S, D, T', k, t, _, rfl, HA4, hk, ht, mendL_set _ _ _, fun H5 m5 HA5 => ?_⟩
  obtain ⟨dx5, hx5⟩ := HA5.obj
  obtain ⟨xs5, p5, hl5, hn5, hat5, hp5⟩ := HA5.core.sets.get i0 i1
  rw [Int.toNat_natCast] at hp5
  have es : setS S k (mendL (S k) [] [m]) k = mendL (S k) [] [m] := if_pos rfl
  rw [es] at hp5
  refine ⟨_, rfl, x, _, dx5, _, _, rfl, hx5, T.cl_House, T.na_House__sets, houseF_sets _ _ _, _, rfl, c.l, _, _, _, rfl, rfl, SqL.of hl5, hat5, p5, _, rfl, .inr (SqT.of hp5), ?_⟩
  rw [List.length_map]
  exact q k rfl hk m0 m1 (decide_eq_true (Classical.not_not.mp cm)) _ _ rfl (mendL_set _ _ _) ((Mv.of (s1.trans (s3.trans s4))).trans m5) HA5
/-! ### House__refuse_unless_two: slots 0 self, 1 hand, 2 other -/

theorem ok_House__refuse_unless_two (T : Txt K mg base A) : FnOk P w K mg base (L2.CX P w) 2 A.f_House__refuse_unless_two A.d_House__refuse_unless_two ["self", "hand", "other"] (sp_House__refuse_unless_two A.e_House A.e_NoHand) := by
  refine T.F_House__refuse_unless_two.okX sc_House__refuse_unless_two (fun vs H Q E h => by first | (obtain ⟨_, rfl, _⟩ := h; rfl) | (obtain ⟨_, _, rfl, _⟩ := h; rfl) | (obtain ⟨_, _, _, rfl, _⟩ := h; rfl) | (obtain ⟨_, _, _, _, rfl, _⟩ := h; rfl) | (obtain ⟨_, _, _, _, _, rfl, _⟩ := h; rfl) | (obtain ⟨_, _, _, _, _, _, rfl, _⟩ := h; rfl) | (obtain ⟨_, _, _, _, _, _, _, rfl, _⟩ := h; rfl) | (obtain ⟨_, _, _, _, _, _, _, _, rfl, _⟩ := h; rfl) | (obtain ⟨_, _, _, _, _, _, _, _, _, rfl, _⟩ := h; rfl) | (obtain ⟨_, _, _, _, _, _, _, _, _, _, rfl, _⟩ := h; rfl) | (obtain ⟨_, _, _, _, _, _, _, _, _, _, _, rfl, _⟩ := h; rfl) | (obtain ⟨_, _, _, _, _, _, _, _, _, _, _, _, rfl, _⟩ := h; rfl) | (obtain ⟨_, _, _, _, _, _, _, _, _, _, _, _, _, rfl, _⟩ := h; rfl) | (obtain ⟨_, _, _, _, _, _, _, _, _, _, _, _, _, _, rfl, _⟩ := h; rfl)) (fun cdv AA outer s H vs Q E hr h => ?_)
  refine ⟨_, (pss_cons (ps_expr (pe_meth (pv 0) T.cl_House T.m_House__refuse_unless_hand (ok_House__refuse_unless_hand T) (hr.mono (by decide)) T.b_House__refuse_unless_hand .nil (passes_call (takes_of rfl rfl rfl rfl) (fun _ _ _ _ z => z)) (pa_cons (pv 1) pa_nil)))
      (pss_cons (ps_expr (pe_meth (pv 0) T.cl_House T.m_House__refuse_unless_hand (ok_House__refuse_unless_hand T) (hr.mono (by decide)) T.b_House__refuse_unless_hand .nil (passes_call (takes_of rfl rfl rfl rfl) (fun _ _ _ _ z => z)) (pa_cons (pv 2) pa_nil)))
      (pss_one (ps_if (pt_cmpR op_eq (pv 1) (pv 2) (nomark _)) (pss_one (ps_raise rfl (takes_of rfl rfl rfl rfl) (pmk_own PySem.F.excBase_ValueError T.x_NoHand T.g_NoHand T.k_NoHand (raises_own T.bb_NoHand T.tt_NoHand) rfl))) pss_nil)))), ?_⟩
  obtain ⟨x, c, n, S, D, T', i, j, rfl, HA, hE, q⟩ := h
  obtain ⟨dx, hx⟩ := HA.obj
  refine ⟨_, rfl, x, _, _, rfl, hx, houseF_m (by decide +kernel), _, rfl, x, c, n, S, D, T', i, rfl, HA, fun z => hE fun y => z ⟨y.1, y.2.1⟩, fun i0 i1 => ?_⟩
  refine ⟨_, rfl, x, _, _, rfl, hx, houseF_m (by decide +kernel), _, rfl, x, c, n, S, D, T', j, rfl, HA, fun z => hE fun y => z ⟨y.2.2.1, y.2.2.2.1⟩, fun j0 j1 => ?_⟩
  refine ⟨_, rfl, _, rfl, rfl, _, rfl, ?_⟩
  by_cases e : i = j
  · rw [decide_eq_true (congrArg V.int e)]
    exact iteT (hE fun y => y.2.2.2.2 e)
  · rw [decide_eq_false fun z => e (V.int.inj z)]
    exact iteF (q i0 i1 j0 j1 e)
/-! ### House_deeds: slots 0 self, 1 hand, 2 other -/

theorem ok_House_deeds (T : Txt K mg base A) : FnOk P w K mg base (L2.CX P w) 3 A.f_House_deeds A.d_House_deeds ["self", "hand", "other"] (sp_House_deeds A.e_House A.e_NoHand) := by
  refine T.F_House_deeds.okX sc_House_deeds (fun vs H Q E h => by first | (obtain ⟨_, rfl, _⟩ := h; rfl) | (obtain ⟨_, _, rfl, _⟩ := h; rfl) | (obtain ⟨_, _, _, rfl, _⟩ := h; rfl) | (obtain ⟨_, _, _, _, rfl, _⟩ := h; rfl) | (obtain ⟨_, _, _, _, _, rfl, _⟩ := h; rfl) | (obtain ⟨_, _, _, _, _, _, rfl, _⟩ := h; rfl) | (obtain ⟨_, _, _, _, _, _, _, rfl, _⟩ := h; rfl) | (obtain ⟨_, _, _, _, _, _, _, _, rfl, _⟩ := h; rfl) | (obtain ⟨_, _, _, _, _, _, _, _, _, rfl, _⟩ := h; rfl) | (obtain ⟨_, _, _, _, _, _, _, _, _, _, rfl, _⟩ := h; rfl) | (obtain ⟨_, _, _, _, _, _, _, _, _, _, _, rfl, _⟩ := h; rfl) | (obtain ⟨_, _, _, _, _, _, _, _, _, _, _, _, rfl, _⟩ := h; rfl) | (obtain ⟨_, _, _, _, _, _, _, _, _, _, _, _, _, rfl, _⟩ := h; rfl) | (obtain ⟨_, _, _, _, _, _, _, _, _, _, _, _, _, _, rfl, _⟩ := h; rfl)) (fun cdv AA outer s H vs Q E hr h => ?_)
  refine ⟨_, (pss_cons (ps_expr (pe_meth (pv 0) T.cl_House T.m_House__refuse_unless_two (ok_House__refuse_unless_two T) (hr.mono (by decide)) T.b_House__refuse_unless_two .nil (passes_call (takes_of rfl rfl rfl rfl) (fun _ _ _ _ z => z)) (pa_cons (pv 1) (pa_cons (pv 2) pa_nil))))
      (pss_one (ps_ret (pe_ix ix_list (pe_ix ix_list (pe_fld (pv 0) rfl) (pv 1) (fun _ _ => rfl)) (pv 2) (fun _ _ => rfl))))), ?_⟩
  obtain ⟨x, c, n, S, D, T', i, j, rfl, HA, hE, q⟩ := h
  obtain ⟨dx, hx⟩ := HA.obj
  refine ⟨_, rfl, x, _, _, rfl, hx, houseF_m (by decide +kernel), _, rfl, _, rfl, x, c, n, S, D, T', i, j, rfl, HA, hE, fun i0 i1 j0 j1 e => ?_⟩
  obtain ⟨r, hr, hat, hrow, hat2⟩ := HA.core.deeds.get i0 i1 j0 j1
  exact ⟨_, rfl, x, _, dx, _, _, rfl, hx, T.cl_House, T.na_House__deeds, houseF_deeds _ _ _, _, rfl, _, _, i, _, rfl, rfl, SqL.of HA.core.deeds.top, hat, _, rfl, r, _, j, _, rfl, rfl, SqL.of hrow, hat2, q i0 i1 j0 j1 e⟩
/-! ### House_turn: slots 0 self, 1 hand, 2 other -/

theorem ok_House_turn (T : Txt K mg base A) : FnOk P w K mg base (L2.CX P w) 3 A.f_House_turn A.d_House_turn ["self", "hand", "other"] (sp_House_turn A.e_House A.e_NoHand) := by
  refine T.F_House_turn.okX sc_House_turn (fun vs H Q E h => by first | (obtain ⟨_, rfl, _⟩ := h; rfl) | (obtain ⟨_, _, rfl, _⟩ := h; rfl) | (obtain ⟨_, _, _, rfl, _⟩ := h; rfl) | (obtain ⟨_, _, _, _, rfl, _⟩ := h; rfl) | (obtain ⟨_, _, _, _, _, rfl, _⟩ := h; rfl) | (obtain ⟨_, _, _, _, _, _, rfl, _⟩ := h; rfl) | (obtain ⟨_, _, _, _, _, _, _, rfl, _⟩ := h; rfl) | (obtain ⟨_, _, _, _, _, _, _, _, rfl, _⟩ := h; rfl) | (obtain ⟨_, _, _, _, _, _, _, _, _, rfl, _⟩ := h; rfl) | (obtain ⟨_, _, _, _, _, _, _, _, _, _, rfl, _⟩ := h; rfl) | (obtain ⟨_, _, _, _, _, _, _, _, _, _, _, rfl, _⟩ := h; rfl) | (obtain ⟨_, _, _, _, _, _, _, _, _, _, _, _, rfl, _⟩ := h; rfl) | (obtain ⟨_, _, _, _, _, _, _, _, _, _, _, _, _, rfl, _⟩ := h; rfl) | (obtain ⟨_, _, _, _, _, _, _, _, _, _, _, _, _, _, rfl, _⟩ := h; rfl)) (fun cdv AA outer s H vs Q E hr h => ?_)
  refine ⟨_, (pss_cons (ps_expr (pe_meth (pv 0) T.cl_House T.m_House__refuse_unless_two (ok_House__refuse_unless_two T) (hr.mono (by decide)) T.b_House__refuse_unless_two .nil (passes_call (takes_of rfl rfl rfl rfl) (fun _ _ _ _ z => z)) (pa_cons (pv 1) (pa_cons (pv 2) pa_nil))))
      (pss_one (ps_ret (pe_ix ix_list (pe_ix ix_list (pe_fld (pv 0) rfl) (pv 1) (fun _ _ => rfl)) (pv 2) (fun _ _ => rfl))))), ?_⟩
  obtain ⟨x, c, n, S, D, T', i, j, rfl, HA, hE, q⟩ := h
  obtain ⟨dx, hx⟩ := HA.obj
  refine ⟨_, rfl, x, _, _, rfl, hx, houseF_m (by decide +kernel), _, rfl, _, rfl, x, c, n, S, D, T', i, j, rfl, HA, hE, fun i0 i1 j0 j1 e => ?_⟩
  obtain ⟨r, hr, hat, hrow, hat2⟩ := HA.core.turns.get i0 i1 j0 j1
  exact ⟨_, rfl, x, _, dx, _, _, rfl, hx, T.cl_House, T.na_House__turns, houseF_turns _ _ _, _, rfl, _, _, i, _, rfl, rfl, SqL.of HA.core.turns.top, hat, _, rfl, r, _, j, _, rfl, rfl, SqL.of hrow, hat2, q i0 i1 j0 j1 e⟩
/-! ### _law_start: slots 0 _law_script, 1 _law_mixed, 2 _law_cell -/

theorem ok__law_start (T : Txt K mg base A) : FnOk P w K mg base CX0 1 A.f__law_start A.d__law_start ["_law_script"] (sp__law_start K) := by
  refine T.F__law_start.ok sc__law_start (fun vs H Q E h => by first | (obtain ⟨_, rfl, _⟩ := h; rfl) | (obtain ⟨_, _, rfl, _⟩ := h; rfl) | (obtain ⟨_, _, _, rfl, _⟩ := h; rfl) | (obtain ⟨_, _, _, _, rfl, _⟩ := h; rfl) | (obtain ⟨_, _, _, _, _, rfl, _⟩ := h; rfl) | (obtain ⟨_, _, _, _, _, _, rfl, _⟩ := h; rfl) | (obtain ⟨_, _, _, _, _, _, _, rfl, _⟩ := h; rfl) | (obtain ⟨_, _, _, _, _, _, _, _, rfl, _⟩ := h; rfl) | (obtain ⟨_, _, _, _, _, _, _, _, _, rfl, _⟩ := h; rfl) | (obtain ⟨_, _, _, _, _, _, _, _, _, _, rfl, _⟩ := h; rfl) | (obtain ⟨_, _, _, _, _, _, _, _, _, _, _, rfl, _⟩ := h; rfl) | (obtain ⟨_, _, _, _, _, _, _, _, _, _, _, _, rfl, _⟩ := h; rfl) | (obtain ⟨_, _, _, _, _, _, _, _, _, _, _, _, _, rfl, _⟩ := h; rfl) | (obtain ⟨_, _, _, _, _, _, _, _, _, _, _, _, _, _, rfl, _⟩ := h; rfl)) (fun cdv AA outer s H vs Q E hr h => ?_)
  refine ⟨_, (pss_cons (ps_set (i := 1) sc__law_start.nd rfl (.inl rfl) pe_int)
      (pss_cons (ps_for PassesOwn.never rfl (pi_list (pv 0)) (pg_name (i := 2) sc__law_start.nd rfl (.inl rfl))
        (pss_one (ps_set (i := 1) sc__law_start.nd rfl (.inl rfl) (pe_op op_mod (pe_op op_add (pe_op op_add (pe_op op_mul (pv 1) pe_int) (pv 2)) pe_int) pe_int))))
      (pss_one (ps_ret (pe_lst (pa_cons (pv 0) (pa_cons pe_int (pa_cons (pv 1) (pa_cons pe_int pa_nil))))))))), ?_⟩
  obtain ⟨a, ns, rfl, hS, q⟩ := h
  refine ⟨_, rfl, a, rfl, ⟨_, hS⟩, for_list (K := K) (a := a) (xs := ns.map V.int) (fun i σ H' => ∃ (m : Int) (v : Option V), σ = [some (.ref a), some (.int m), v] ∧ H' = H) ⟨1, none, rfl, rfl⟩ (fun i σ H' _ ⟨_, _, _, e⟩ => e ▸ hS) ?_ ?_⟩
  · rintro i y σ H' hi ⟨m, v, rfl, rfl⟩
    obtain ⟨z, hz, rfl⟩ := int_at hi
    exact ⟨_, rfl, _, _, rfl, rfl, .inr ⟨by decide, by decide⟩, _, rfl, _, _, rfl, rfl, _, _, rfl, rfl, _, _, rfl, rfl, by show (0:Int) < _; decide, _, _, rfl, rfl⟩
  · rintro σ H' ⟨m, v, rfl, rfl⟩
    refine ⟨_, rfl, _, rfl, by show 4 ≤ sizeLine; decide, fun p hp => ?_⟩
    exact q p _ hp (same_upd hp) ⟨⟨0, m, 0, Int.le_refl 0, upd_same⟩, ns, (same_upd hp).seq hS⟩
/-! ### _law_drawn: slots 0 _law_state, 1 _law_many, 2 _law_found, 3 _law_cell -/

theorem ok__law_drawn (T : Txt K mg base A) : FnOk P w K mg base CX0 1 A.f__law_drawn A.d__law_drawn ["_law_state", "_law_many"] (sp__law_drawn K) := by
  refine T.F__law_drawn.ok sc__law_drawn (fun vs H Q E h => by first | (obtain ⟨_, rfl, _⟩ := h; rfl) | (obtain ⟨_, _, rfl, _⟩ := h; rfl) | (obtain ⟨_, _, _, rfl, _⟩ := h; rfl) | (obtain ⟨_, _, _, _, rfl, _⟩ := h; rfl) | (obtain ⟨_, _, _, _, _, rfl, _⟩ := h; rfl) | (obtain ⟨_, _, _, _, _, _, rfl, _⟩ := h; rfl) | (obtain ⟨_, _, _, _, _, _, _, rfl, _⟩ := h; rfl) | (obtain ⟨_, _, _, _, _, _, _, _, rfl, _⟩ := h; rfl) | (obtain ⟨_, _, _, _, _, _, _, _, _, rfl, _⟩ := h; rfl) | (obtain ⟨_, _, _, _, _, _, _, _, _, _, rfl, _⟩ := h; rfl) | (obtain ⟨_, _, _, _, _, _, _, _, _, _, _, rfl, _⟩ := h; rfl) | (obtain ⟨_, _, _, _, _, _, _, _, _, _, _, _, rfl, _⟩ := h; rfl) | (obtain ⟨_, _, _, _, _, _, _, _, _, _, _, _, _, rfl, _⟩ := h; rfl) | (obtain ⟨_, _, _, _, _, _, _, _, _, _, _, _, _, _, rfl, _⟩ := h; rfl)) (fun cdv AA outer s H vs Q E hr h => ?_)
  refine ⟨_, (pss_cons (ps_if (pt_cmpR op_gt (pe_ix ix_list (pv 0) pe_int (fun _ _ => rfl)) pe_int (nomark _)) (pss_cons (ps_set (i := 2) sc__law_drawn.nd rfl (.inl rfl) (pe_op op_mod (pe_ix ix_list (pv 0) pe_int (fun _ _ => rfl)) (pv 1)))
        (pss_cons (ps_asg (pe_op op_fdivW (pe_ix ix_list (pv 0) pe_int (fun _ _ => rfl)) (pv 1)) (pg_sub (pv 0) pe_int set_list))
        (pss_one (ps_ret (pv 2))))) pss_nil)
      (pss_cons (ps_asg (pe_op op_add (pe_ix ix_list (pv 0) pe_int (fun _ _ => rfl)) pe_int) (pg_sub (pv 0) pe_int set_list))
      (pss_cons (ps_if (pt_cmpR op_le (pe_ix ix_list (pv 0) pe_int (fun _ _ => rfl)) (pe_callB call_len_seq (by rfl) T.z_len PySem.boot_len (pa_cons (pe_ix ix_list (pv 0) pe_int (fun _ _ => rfl)) pa_nil)) (nomark _)) (pss_cons (ps_set (i := 3) sc__law_drawn.nd rfl (.inl rfl) (pe_ix ix_list (pe_ix ix_list (pv 0) pe_int (fun _ _ => rfl)) (pe_op op_sub (pe_ix ix_list (pv 0) pe_int (fun _ _ => rfl)) pe_int) (fun _ _ => rfl)))
        (pss_cons (ps_asg (pe_ifExp (pt_cmpR op_ge (pv 3) (pe_op op_pow pe_int pe_int) (nomark _)) (pe_op op_fdivW (pv 3) (pv 1)) pe_int) (pg_sub (pv 0) pe_int set_list))
        (pss_one (ps_ret (pe_op op_mod (pv 3) (pv 1)))))) pss_nil)
      (pss_cons (ps_asg (pe_op op_mod (pe_op op_add (pe_op op_mul (pe_ix ix_list (pv 0) pe_int (fun _ _ => rfl)) pe_int) pe_int) pe_int) (pg_sub (pv 0) pe_int set_list))
      (pss_one (ps_ret (pe_op op_mod (pe_op op_fdiv (pe_ix ix_list (pv 0) pe_int (fun _ _ => rfl)) pe_int) (pv 1)))))))), ?_⟩
  obtain ⟨a, st, n, rfl, hS, hn, hnb, q⟩ := h
  obtain ⟨⟨i, m, r, hi, hs⟩, ns, hns⟩ := id hS
  -- if state[3] > 0
  refine ⟨_, rfl, st, _, 3, _, rfl, rfl, SqL.of hs, atI_nat (j := 3) rfl, _, _, rfl, rfl, _, rfl, ite2 (fun c => ?_) (fun c => ?_)⟩
  · refine ⟨_, rfl, st, _, 3, _, rfl, rfl, SqL.of hs, atI_nat (j := 3) rfl, _, rfl, _, _, rfl, rfl, hn, ?_⟩
    refine ⟨_, rfl, st, _, 3, _, rfl, rfl, SqL.of hs, atI_nat (j := 3) rfl, _, rfl, _, _, rfl, rfl, wide_div hn hnb (by decide) (by decide), ?_⟩
    refine ⟨_, rfl, st, _, 3, 3, rfl, rfl, hs, rfl, ?_⟩
    exact ⟨_, rfl, q _ _ (Int.emod_nonneg _ (by omega)) (Int.emod_lt_of_pos _ hn) (Go.upd (r := r / n) (m := m) hS hi)⟩
  · -- state[1] = state[1] + 1
    refine ⟨_, rfl, st, _, 1, _, rfl, rfl, SqL.of hs, atI_nat (j := 1) rfl, _, _, rfl, rfl, ?_⟩
    refine ⟨_, rfl, st, _, 1, 1, rfl, rfl, hs, rfl, ?_⟩
    have g1 : Go K st H (upd H st (.lst [.ref a, .int (i + 1), .int m, .int r])) := Go.upd hS (by omega)
    have hS1 := g1.st _ hS
    have hs1 : (upd H st (.lst [.ref a, .int (i + 1), .int m, .int r])) st = some (.lst [.ref a, .int (i + 1), .int m, .int r]) := upd_same
    obtain ⟨_, ns1, hns1⟩ := id hS1
    -- if state[1] <= len(state[0])
    refine ⟨_, rfl, st, _, 1, _, rfl, rfl, SqL.of hs1, atI_nat (j := 1) rfl, _, rfl, st, _, 0, _, rfl, rfl, SqL.of hs1, atI_nat (j := 0) rfl, a, _, rfl, .inl hns1, _, _, rfl, rfl, _, rfl, ite2 (fun c => ?_) (fun c => ?_)⟩
    · have c2 : i + 1 ≤ (ns1.length : Int) := by
        have := of_decide_eq_true c
        rw [List.length_map] at this
        exact this
      have hlt : i.toNat < ns1.length := by omega
      have hat : atI (ns1.map V.int) (i + 1 - 1) = some (.int ns1[i.toNat]) := at_of (j := i.toNat) (by omega) (by rw [List.getElem?_map, List.getElem?_eq_getElem hlt]; rfl)
      -- cell = state[0][state[1] - 1]
      refine ⟨_, rfl, st, _, 0, _, rfl, rfl, SqL.of hs1, atI_nat (j := 0) rfl, _, rfl, st, _, 1, _, rfl, rfl, SqL.of hs1, atI_nat (j := 1) rfl, _, _, rfl, rfl, a, _, _, _, rfl, rfl, hns1, hat, ?_⟩
      -- state[3] = cell // many if cell >= 10 ** 18 else 0
      refine ⟨_, rfl, _, _, rfl, rfl, ⟨by decide, by decide, by decide⟩, _, _, rfl, rfl, _, rfl, ite2 (fun c3 => ?_) (fun c3 => ?_)⟩
      · refine ⟨_, rfl, _, rfl, _, _, rfl, rfl, wide_div hn hnb (by decide) (by decide), _, rfl, st, _, 3, 3, rfl, rfl, hs1, rfl, ?_⟩
        exact ⟨_, rfl, _, rfl, _, _, rfl, rfl, hn, q _ _ (Int.emod_nonneg _ (by omega)) (Int.emod_lt_of_pos _ hn) (g1.trans (Go.upd (m := m) hS1 (by omega)))⟩
      · refine ⟨_, rfl, st, _, 3, 3, rfl, rfl, hs1, rfl, ?_⟩
        exact ⟨_, rfl, _, rfl, _, _, rfl, rfl, hn, q _ _ (Int.emod_nonneg _ (by omega)) (Int.emod_lt_of_pos _ hn) (g1.trans (Go.upd (m := m) hS1 (by omega)))⟩
    · -- state[2] = (state[2] * 48271 + 11) % 2147483647
      refine ⟨_, rfl, st, _, 2, _, rfl, rfl, SqL.of hs1, atI_nat (j := 2) rfl, _, _, rfl, rfl, .inr ⟨by decide, by decide⟩, _, _, rfl, rfl, _, _, rfl, rfl, by show (0:Int) < _; decide, ?_⟩
      refine ⟨_, rfl, st, _, 2, 2, rfl, rfl, hs1, rfl, ?_⟩
      have g2 := g1.trans (Go.upd (m := (m * 48271 + 11) % 2147483647) (r := r) hS1 (by omega : 0 ≤ i + 1))
      refine ⟨_, rfl, st, _, 2, _, rfl, rfl, SqL.of upd_same, atI_nat (j := 2) rfl, _, _, rfl, rfl, ⟨by decide, by decide⟩, _, rfl, _, _, rfl, rfl, hn, ?_⟩
      exact q _ _ (Int.emod_nonneg _ (by omega)) (Int.emod_lt_of_pos _ hn) g2
/-! ### _law_set: slots 0 _law_state, 1 _law_most, 2 _law_many, 3 _law_first, 4 _law_step, 5 _law_k -/

theorem ok__law_set (T : Txt K mg base A) : FnOk P w K mg base CX0 2 A.f__law_set A.d__law_set ["_law_state", "_law_most"] (sp__law_set K) := by
  refine T.F__law_set.ok sc__law_set (fun vs H Q E h => by first | (obtain ⟨_, rfl, _⟩ := h; rfl) | (obtain ⟨_, _, rfl, _⟩ := h; rfl) | (obtain ⟨_, _, _, rfl, _⟩ := h; rfl) | (obtain ⟨_, _, _, _, rfl, _⟩ := h; rfl) | (obtain ⟨_, _, _, _, _, rfl, _⟩ := h; rfl) | (obtain ⟨_, _, _, _, _, _, rfl, _⟩ := h; rfl) | (obtain ⟨_, _, _, _, _, _, _, rfl, _⟩ := h; rfl) | (obtain ⟨_, _, _, _, _, _, _, _, rfl, _⟩ := h; rfl) | (obtain ⟨_, _, _, _, _, _, _, _, _, rfl, _⟩ := h; rfl) | (obtain ⟨_, _, _, _, _, _, _, _, _, _, rfl, _⟩ := h; rfl) | (obtain ⟨_, _, _, _, _, _, _, _, _, _, _, rfl, _⟩ := h; rfl) | (obtain ⟨_, _, _, _, _, _, _, _, _, _, _, _, rfl, _⟩ := h; rfl) | (obtain ⟨_, _, _, _, _, _, _, _, _, _, _, _, _, rfl, _⟩ := h; rfl) | (obtain ⟨_, _, _, _, _, _, _, _, _, _, _, _, _, _, rfl, _⟩ := h; rfl)) (fun cdv AA outer s H vs Q E hr h => ?_)
  refine ⟨_, (pss_cons (ps_set (i := 2) sc__law_set.nd rfl (.inl rfl) (pe_call (ok__law_drawn T) (hr.mono (by decide)) (by rfl) T.g__law_drawn T.k__law_drawn T.b__law_drawn .nil pass0 (pa_cons (pv 0) (pa_cons (pe_op op_add (pv 1) pe_int) pa_nil))))
      (pss_cons (ps_set (i := 3) sc__law_set.nd rfl (.inr rfl) (pe_call (ok__law_drawn T) (hr.mono (by decide)) (by rfl) T.g__law_drawn T.k__law_drawn T.b__law_drawn .nil pass0 (pa_cons (pv 0) (pa_cons pe_int pa_nil))))
      (pss_cons (ps_set (i := 4) sc__law_set.nd rfl (.inr rfl) (pe_ix ix_list (pe_lst (pa_cons pe_int (pa_cons pe_int (pa_cons (pe_op op_add pe_int (pe_call (ok__law_drawn T) (hr.mono (by decide)) (by rfl) T.g__law_drawn T.k__law_drawn T.b__law_drawn .nil pass0 (pa_cons (pv 0) (pa_cons pe_int pa_nil)))) pa_nil)))) (pe_call (ok__law_drawn T) (hr.mono (by decide)) (by rfl) T.g__law_drawn T.k__law_drawn T.b__law_drawn .nil pass0 (pa_cons (pv 0) (pa_cons pe_int pa_nil))) (fun _ _ => rfl)))
      (pss_cons (ps_if (pt_cmpR op_eq (pv 4) pe_int (nomark _)) (pss_one (ps_ret (pe_callTy call_tuple_of (by rfl) T.z_tuple (by decide +kernel) (pa_cons (pe_callB (call_sortedU rfl) (by rfl) T.z_sorted (by decide +kernel) (pa_cons (pe_callTy (call_setQ rfl) (by rfl) T.z_set (by decide +kernel) (pa_cons (pe_lc (own := [("_law_k", 5)]) (g := gName 5)  rfl sc__law_set.nd (pi_range1 (by rfl) T.z_range (pa_cons (pv 2) pa_nil)) (blkOk_by (own := [("_law_k", 5)]) (N := ["_law_state", "_law_most", "_law_many", "_law_first", "_law_step", "_law_k"]) (sc := defScope s__law_set) (by decide +kernel)) (fun _ _ _ _ _ => pg_name (i := 5) sc__law_set.nd rfl (Or.inl rfl)) (fun _ _ _ _ _ => pts_nil) (fun _ _ _ _ _ => (pe_op op_add pe_int (pe_call (ok__law_drawn T) (hr.mono (by decide)) (by rfl) T.g__law_drawn T.k__law_drawn T.b__law_drawn .nil pass0 (pa_cons (pv 0) (pa_cons pe_int pa_nil)))))) pa_nil)) pa_nil)) pa_nil)))) pss_nil)
      (pss_one (ps_ret (pe_callTy call_tuple_of (by rfl) T.z_tuple (by decide +kernel) (pa_cons (pe_callB (call_sortedU rfl) (by rfl) T.z_sorted (by decide +kernel) (pa_cons (pe_callTy (call_setQ rfl) (by rfl) T.z_set (by decide +kernel) (pa_cons (pe_lc (own := [("_law_k", 5)]) (g := gName 5)  rfl sc__law_set.nd (pi_range1 (by rfl) T.z_range (pa_cons (pv 2) pa_nil)) (blkOk_by (own := [("_law_k", 5)]) (N := ["_law_state", "_law_most", "_law_many", "_law_first", "_law_step", "_law_k"]) (sc := defScope s__law_set) (by decide +kernel)) (fun _ _ _ _ _ => pg_name (i := 5) sc__law_set.nd rfl (Or.inl rfl)) (fun _ _ _ _ _ => pts_nil) (fun _ _ _ _ _ => (pe_op op_add pe_int (pe_op op_mod (pe_op op_add (pv 3) (pe_op op_mul (pv 4) (pv 5))) pe_int)))) pa_nil)) pa_nil)) pa_nil)))))))), ?_⟩
  obtain ⟨a, st, most, rfl, hS, m0, m1, q⟩ := h
  refine ⟨_, rfl, _, rfl, _, _, rfl, rfl, a, st, most + 1, rfl, hS, by omega, nat8000 (by omega) (by omega), fun many H1 n0 n1 g1 => ?_⟩
  have S1 := g1.st _ hS
  refine ⟨_, rfl, a, st, 96, rfl, S1, by decide, nat8000 (by decide) (by decide +kernel), fun first H2 _ _ g2 => ?_⟩
  have g2' := g1.trans g2
  have S2 := g2'.st _ hS
  refine ⟨_, rfl, a, st, 95, rfl, S2, by decide, nat8000 (by decide) (by decide +kernel), fun u H3 u0 u1 g3 => ?_⟩
  have g3' := g2'.trans g3
  have S3 := g3'.st _ hS
  refine ⟨_, _, rfl, rfl, by show 3 ≤ sizeLine; decide, fun l hl => ?_⟩
  refine ⟨_, rfl, a, st, 3, rfl, (Go.new hl).st _ S3, by decide, nat8000 (by decide) (by decide +kernel), fun v H4 v0 v1 g4 => ?_⟩
  obtain ⟨step, hat, s0, s1⟩ := pickI (ns := [0, 1, 1 + u]) (lo := 0) (hi := 95) (by simp only [List.mem_cons, List.not_mem_nil, or_false]; rintro z (rfl | rfl | rfl) <;> omega) v0 v1
  have g4' := g3'.trans ((Go.new hl).trans g4)
  have S4 := g4'.st _ hS
  refine ⟨l, _, _, _, rfl, rfl, SqL.of (g4.keep _ _ (S3.fresh hl) upd_same), hat, ?_⟩
  refine ⟨_, rfl, rfl, _, rfl, ite2 (fun c => ?_) (fun c => ?_)⟩
  · refine ⟨_, rfl, many, rfl, by omega, by omega, fun D hD => lc_ints (K := K) (st := st) (a := a) (fun z => 1 ≤ z ∧ z ≤ 96) S4 hD (by omega) (fun _ => rfl) (fun i H5 hi g5 Q' q' => ?_) fun ns H5 hl5 hP g5 hd5 => ?_⟩
    · refine ⟨_, rfl, a, st, 96, rfl, g5.st _ S4, by decide, nat8000 (by decide) (by decide +kernel), fun z H6 z0 z1 g6 => ?_⟩
      exact ⟨_, _, rfl, rfl, q' _ H6 ⟨by omega, by omega⟩ g6⟩
    · refine ⟨D, ns, rfl, .inl (SqL.of hd5), by omega, fun c p hc hp => ?_⟩
      refine ⟨p, _, c, rfl, upd_same, by omega, fun ms p2 hpw hmem hlen hp2 => ?_⟩
      refine ⟨p2, _, rfl, .inl ⟨SqL.of upd_same, fun t ht => ?_⟩⟩
      have g6 := (((g4'.trans g5).trans (Go.new hp)).trans (Go.new hp2)).trans (Go.new (o := .tup (ms.map V.int)) ht)
      exact q t ms _ ⟨hpw, fun z hz => hP z (of_decide_eq_true ((hmem z).mp hz))⟩ (by omega) g6 ((((g4'.trans g5).trans (Go.new hp)).trans (Go.new hp2)).free hS ht) upd_same
  · refine ⟨_, rfl, many, rfl, by omega, by omega, fun D hD => lc_ints (K := K) (st := st) (a := a) (fun z => 1 ≤ z ∧ z ≤ 96) S4 hD (by omega) (fun _ => rfl) (fun i H5 hi g5 Q' q' => ?_) fun ns H5 hl5 hP g5 hd5 => ?_⟩
    · refine ⟨_, rfl, _, rfl, _, rfl, _, _, rfl, rfl, .inl ⟨by omega, by omega⟩, _, _, rfl, rfl, _, _, rfl, rfl, by show (0:Int) < _; decide, _, _, rfl, rfl, ?_⟩
      exact q' _ H5 ⟨by show 1 ≤ 1 + _ % 96; omega, by show 1 + _ % 96 ≤ 96; omega⟩ (Go.refl _)
    · refine ⟨D, ns, rfl, .inl (SqL.of hd5), by omega, fun c p hc hp => ?_⟩
      refine ⟨p, _, c, rfl, upd_same, by omega, fun ms p2 hpw hmem hlen hp2 => ?_⟩
      refine ⟨p2, _, rfl, .inl ⟨SqL.of upd_same, fun t ht => ?_⟩⟩
      have g6 := (((g4'.trans g5).trans (Go.new hp)).trans (Go.new hp2)).trans (Go.new (o := .tup (ms.map V.int)) ht)
      exact q t ms _ ⟨hpw, fun z hz => hP z (of_decide_eq_true ((hmem z).mp hz))⟩ (by omega) g6 ((((g4'.trans g5).trans (Go.new hp)).trans (Go.new hp2)).free hS ht) upd_same
/-! ### _law_apart: slots 0 _law_one, 1 _law_other, 2 _law_mark -/

theorem ok__law_apart (T : Txt K mg base A) : FnOk P w K mg base CX0 1 A.f__law_apart A.d__law_apart ["_law_one", "_law_other"] (sp__law_apart K) := by
  refine T.F__law_apart.ok sc__law_apart (fun vs H Q E h => by first | (obtain ⟨_, rfl, _⟩ := h; rfl) | (obtain ⟨_, _, rfl, _⟩ := h; rfl) | (obtain ⟨_, _, _, rfl, _⟩ := h; rfl) | (obtain ⟨_, _, _, _, rfl, _⟩ := h; rfl) | (obtain ⟨_, _, _, _, _, rfl, _⟩ := h; rfl) | (obtain ⟨_, _, _, _, _, _, rfl, _⟩ := h; rfl) | (obtain ⟨_, _, _, _, _, _, _, rfl, _⟩ := h; rfl) | (obtain ⟨_, _, _, _, _, _, _, _, rfl, _⟩ := h; rfl) | (obtain ⟨_, _, _, _, _, _, _, _, _, rfl, _⟩ := h; rfl) | (obtain ⟨_, _, _, _, _, _, _, _, _, _, rfl, _⟩ := h; rfl) | (obtain ⟨_, _, _, _, _, _, _, _, _, _, _, rfl, _⟩ := h; rfl) | (obtain ⟨_, _, _, _, _, _, _, _, _, _, _, _, rfl, _⟩ := h; rfl) | (obtain ⟨_, _, _, _, _, _, _, _, _, _, _, _, _, rfl, _⟩ := h; rfl) | (obtain ⟨_, _, _, _, _, _, _, _, _, _, _, _, _, _, rfl, _⟩ := h; rfl)) (fun cdv AA outer s H vs Q E hr h => ?_)
  refine ⟨_, (pss_one (ps_ret (pe_tup (pa_cons (pe_callTy call_tuple_of (by rfl) T.z_tuple (by decide +kernel) (pa_cons (pe_lc (own := [("_law_mark", 2)]) (g := gName 2)  rfl sc__law_apart.nd (pi_tup (pv 1)) (blkOk_by (own := [("_law_mark", 2)]) (N := ["_law_one", "_law_other", "_law_mark"]) (sc := defScope s__law_apart) (by decide +kernel)) (fun _ _ _ _ _ => pg_name (i := 2) sc__law_apart.nd rfl (Or.inl rfl)) (fun _ _ _ _ _ => (pts_one (pt_cmpR (op_notIn_seqK (K := K) rfl) (pv 2) (pv 0) (by rfl)))) (fun _ _ _ _ _ => (pv 2))) pa_nil)) (pa_cons (pe_callTy call_tuple_of (by rfl) T.z_tuple (by decide +kernel) (pa_cons (pe_lc (own := [("_law_mark", 2)]) (g := gName 2)  rfl sc__law_apart.nd (pi_tup (pv 0)) (blkOk_by (own := [("_law_mark", 2)]) (N := ["_law_one", "_law_other", "_law_mark"]) (sc := defScope s__law_apart) (by decide +kernel)) (fun _ _ _ _ _ => pg_name (i := 2) sc__law_apart.nd rfl (Or.inl rfl)) (fun _ _ _ _ _ => (pts_one (pt_cmpR (op_notIn_seqK (K := K) rfl) (pv 2) (pv 1) (by rfl)))) (fun _ _ _ _ _ => (pv 2))) pa_nil)) pa_nil))))), ?_⟩
  obtain ⟨a, b, xs, ys, rfl, ha, hb, lx, ly, q⟩ := h
  refine ⟨_, rfl, b, rfl, ⟨_, hb⟩, fun D hD => lc_pureT (K := K) (a := b) (xs := ys.map V.int) (fun v => match v with | .int z => decide (z ∉ xs) | _ => false) (fun v => v) hD hb (by rw [List.length_map]; omega) (fun _ => rfl) ?_ (fun x _ _ H2 s2 Q' q' => ⟨_, rfl, q' H2 (Same.refl _)⟩) fun H2 s2 hd => ?_⟩
  · intro x hx H2 s2 Q' q'
    obtain ⟨z, hz, rfl⟩ := List.mem_map.mp hx
    exact ⟨_, rfl, _, rfl, notin_turn (seqT_same s2 ha) ⟨_, rfl, q' H2 (Same.refl _)⟩⟩
  rw [int_filter (g := fun z => decide (z ∉ xs)) (fun _ _ => rfl)] at hd
  refine ⟨D, _, rfl, .inl ⟨SqL.of hd, fun t1 ht1 => ?_⟩⟩
  have s3 := s2.trans (same_upd (o := .tup ((ys.filter fun z => decide (z ∉ xs)).map V.int)) ht1)
  refine ⟨_, rfl, a, rfl, ⟨_, seqT_same s3 ha⟩, fun D2 hD2 => lc_pureT (K := K) (a := a) (xs := xs.map V.int) (fun v => match v with | .int z => decide (z ∉ ys) | _ => false) (fun v => v) hD2 (seqT_same s3 ha) (by rw [List.length_map]; omega) (fun _ => rfl) ?_ (fun x _ _ H2 s2 Q' q' => ⟨_, rfl, q' H2 (Same.refl _)⟩) fun H4 s4 hd4 => ?_⟩
  · intro x hx H2 s2 Q' q'
    obtain ⟨z, hz, rfl⟩ := List.mem_map.mp hx
    exact ⟨_, rfl, _, rfl, notin_turn (seqT_same (s3.trans s2) hb) ⟨_, rfl, q' H2 (Same.refl _)⟩⟩
  rw [int_filter (g := fun z => decide (z ∉ ys)) (fun _ _ => rfl)] at hd4
  refine ⟨D2, _, rfl, .inl ⟨SqL.of hd4, fun t2 ht2 => ?_⟩⟩
  have s5 := s4.trans (same_upd (o := .tup ((xs.filter fun z => decide (z ∉ ys)).map V.int)) ht2)
  refine ⟨by show 2 ≤ sizeLine; decide, fun t ht => ?_⟩
  have s6 := s5.trans (same_upd (o := .tup [.ref t1, .ref t2]) ht)
  exact q t t1 t2 _ (s3.trans s6) ((s3.trans s5).free ht) upd_same (s6 _ _ upd_same) ((same_upd ht) _ _ upd_same)
/-! ### _law_same: slots 0 _law_found, 1 _law_due_here, 2 _law_k -/

theorem ok__law_same (T : Txt K mg base A) : ∀ n : Nat, FnOk P w K mg base CX0 (n + 1) A.f__law_same A.d__law_same ["_law_found", "_law_due_here"] (sp__law_same K n)
  | 0 => by
    refine T.F__law_same.ok sc__law_same (fun vs H Q E h => by first | (obtain ⟨_, rfl, _⟩ := h; rfl) | (obtain ⟨_, _, rfl, _⟩ := h; rfl) | (obtain ⟨_, _, _, rfl, _⟩ := h; rfl) | (obtain ⟨_, _, _, _, rfl, _⟩ := h; rfl) | (obtain ⟨_, _, _, _, _, rfl, _⟩ := h; rfl) | (obtain ⟨_, _, _, _, _, _, rfl, _⟩ := h; rfl) | (obtain ⟨_, _, _, _, _, _, _, rfl, _⟩ := h; rfl) | (obtain ⟨_, _, _, _, _, _, _, _, rfl, _⟩ := h; rfl) | (obtain ⟨_, _, _, _, _, _, _, _, _, rfl, _⟩ := h; rfl) | (obtain ⟨_, _, _, _, _, _, _, _, _, _, rfl, _⟩ := h; rfl) | (obtain ⟨_, _, _, _, _, _, _, _, _, _, _, rfl, _⟩ := h; rfl) | (obtain ⟨_, _, _, _, _, _, _, _, _, _, _, _, rfl, _⟩ := h; rfl) | (obtain ⟨_, _, _, _, _, _, _, _, _, _, _, _, _, rfl, _⟩ := h; rfl) | (obtain ⟨_, _, _, _, _, _, _, _, _, _, _, _, _, _, rfl, _⟩ := h; rfl)) (fun cdv AA outer s H vs Q E hr h => ?_)
    refine ⟨_, (pss_cons (ps_if (pt_val (pe_callB call_isi (by rfl) T.z_isinstance (show bootBuiltins "isinstance" = some (.builtin "isinstance") by decide +kernel) (pa_cons (pv 1) (pa_cons (pe_bltn (v := .ty "tuple") (by rfl) T.z_tuple (by decide +kernel) rfl) pa_nil)))) (pss_cons ps_never (pss_one ps_never)) pss_nil)
      (pss_cons (ps_if (pt_cmpR op_isN (pv 1) pe_non (nomark _)) (pss_one (ps_ret (pe_cmpR op_isN (pv 0) pe_non (nomark _)))) pss_nil)
      (pss_cons (ps_if (pt_val (pe_callB call_isi (by rfl) T.z_isinstance (show bootBuiltins "isinstance" = some (.builtin "isinstance") by decide +kernel) (pa_cons (pv 1) (pa_cons (pe_bltn (v := .ty "str") (by rfl) T.z_str (by decide +kernel) rfl) pa_nil)))) (pss_one (ps_ret (pe_and (pe_callB call_isi (by rfl) T.z_isinstance (show bootBuiltins "isinstance" = some (.builtin "isinstance") by decide +kernel) (pa_cons (pv 0) (pa_cons (pe_bltn (v := .ty "str") (by rfl) T.z_str (by decide +kernel) rfl) pa_nil))) (pe_one (pe_cmpR op_eq (pv 0) (pv 1) (nomark _)))))) pss_nil)
      (pss_cons (ps_if (PW.pt (pw_or (pt_val (pe_callB call_isi (by rfl) T.z_isinstance (show bootBuiltins "isinstance" = some (.builtin "isinstance") by decide +kernel) (pa_cons (pv 1) (pa_cons (pe_bltn (v := .ty "bool") (by rfl) T.z_bool (by decide +kernel) rfl) pa_nil)))) (pw_or1 (pt_val (pe_callB call_isi (by rfl) T.z_isinstance (show bootBuiltins "isinstance" = some (.builtin "isinstance") by decide +kernel) (pa_cons (pv 0) (pa_cons (pe_bltn (v := .ty "bool") (by rfl) T.z_bool (by decide +kernel) rfl) pa_nil))))))) (pss_one (ps_ret (pe_and (pe_callB call_isi (by rfl) T.z_isinstance (show bootBuiltins "isinstance" = some (.builtin "isinstance") by decide +kernel) (pa_cons (pv 1) (pa_cons (pe_bltn (v := .ty "bool") (by rfl) T.z_bool (by decide +kernel) rfl) pa_nil))) (pe_and (pe_callB call_isi (by rfl) T.z_isinstance (show bootBuiltins "isinstance" = some (.builtin "isinstance") by decide +kernel) (pa_cons (pv 0) (pa_cons (pe_bltn (v := .ty "bool") (by rfl) T.z_bool (by decide +kernel) rfl) pa_nil))) (pe_one (pe_cmpR op_eq (pv 0) (pv 1) (nomark _))))))) pss_nil)
      (pss_one (ps_ret (pe_and (pe_callB call_isi (by rfl) T.z_isinstance (show bootBuiltins "isinstance" = some (.builtin "isinstance") by decide +kernel) (pa_cons (pv 0) (pa_cons (pe_bltn (v := .ty "int") (by rfl) T.z_int (by decide +kernel) rfl) pa_nil))) (pe_one (pe_cmpR op_eq (pv 0) (pv 1) (nomark _)))))))))), ?_⟩
    obtain ⟨x, y, rfl, e, q⟩ := h
    cases e with
    | non =>
      refine ⟨_, rfl, _, _, _, _, false, rfl, .ty "tuple", .base .non, kit_ty (by decide +kernel), _, rfl, iteF ?_⟩
      refine ⟨_, rfl, rfl, _, rfl, iteT ?_⟩
      exact ⟨_, rfl, rfl, q H (Same.refl _)⟩
    | bl b =>
      refine ⟨_, rfl, _, _, _, _, false, rfl, .ty "tuple", .base (.bl _), kit_ty (by decide +kernel), _, rfl, iteF ?_⟩
      refine ⟨_, rfl, rfl, _, rfl, iteF ?_⟩
      refine ⟨_, rfl, _, _, _, _, false, rfl, .ty "str", .base (.bl _), kit_ty (by decide +kernel), _, rfl, iteF ?_⟩
      refine ⟨_, rfl, _, _, _, _, true, rfl, .ty "bool", .base (.bl _), kit_ty (by decide +kernel), _, rfl, iteT ?_⟩
      refine iteT ?_
      refine ⟨_, rfl, _, _, _, _, true, rfl, .ty "bool", .base (.bl _), kit_ty (by decide +kernel), _, rfl, iteT ?_⟩
      refine ⟨_, rfl, _, _, _, _, true, rfl, .ty "bool", .base (.bl _), kit_ty (by decide +kernel), _, rfl, iteT ?_⟩
      refine ⟨_, rfl, _, rfl, rfl, ?_⟩
      rw [decide_eq_true rfl]
      exact q H (Same.refl _)
    | int i =>
      refine ⟨_, rfl, _, _, _, _, false, rfl, .ty "tuple", .base (.int _), kit_ty (by decide +kernel), _, rfl, iteF ?_⟩
      refine ⟨_, rfl, rfl, _, rfl, iteF ?_⟩
      refine ⟨_, rfl, _, _, _, _, false, rfl, .ty "str", .base (.int _), kit_ty (by decide +kernel), _, rfl, iteF ?_⟩
      refine ⟨_, rfl, _, _, _, _, false, rfl, .ty "bool", .base (.int _), kit_ty (by decide +kernel), _, rfl, iteF ?_⟩
      refine ⟨_, rfl, _, _, _, _, false, rfl, .ty "bool", .base (.int _), kit_ty (by decide +kernel), _, rfl, iteF ?_⟩
      refine ⟨_, rfl, _, _, _, _, true, rfl, .ty "int", .base (.int _), kit_ty (by decide +kernel), _, rfl, iteT ?_⟩
      refine ⟨_, rfl, _, rfl, rfl, ?_⟩
      rw [decide_eq_true rfl]
      exact q H (Same.refl _)
    | str z =>
      refine ⟨_, rfl, _, _, _, _, false, rfl, .ty "tuple", .base (.str _), kit_ty (by decide +kernel), _, rfl, iteF ?_⟩
      refine ⟨_, rfl, rfl, _, rfl, iteF ?_⟩
      refine ⟨_, rfl, _, _, _, _, true, rfl, .ty "str", .base (.str _), kit_ty (by decide +kernel), _, rfl, iteT ?_⟩
      refine ⟨_, rfl, _, _, _, _, true, rfl, .ty "str", .base (.str _), kit_ty (by decide +kernel), _, rfl, iteT ?_⟩
      refine ⟨_, rfl, _, rfl, rfl, ?_⟩
      rw [decide_eq_true rfl]
      exact q H (Same.refl _)
  | n + 1 => by
    have IH := ok__law_same T n
    refine T.F__law_same.ok sc__law_same (fun vs H Q E h => by first | (obtain ⟨_, rfl, _⟩ := h; rfl) | (obtain ⟨_, _, rfl, _⟩ := h; rfl) | (obtain ⟨_, _, _, rfl, _⟩ := h; rfl) | (obtain ⟨_, _, _, _, rfl, _⟩ := h; rfl) | (obtain ⟨_, _, _, _, _, rfl, _⟩ := h; rfl) | (obtain ⟨_, _, _, _, _, _, rfl, _⟩ := h; rfl) | (obtain ⟨_, _, _, _, _, _, _, rfl, _⟩ := h; rfl) | (obtain ⟨_, _, _, _, _, _, _, _, rfl, _⟩ := h; rfl) | (obtain ⟨_, _, _, _, _, _, _, _, _, rfl, _⟩ := h; rfl) | (obtain ⟨_, _, _, _, _, _, _, _, _, _, rfl, _⟩ := h; rfl) | (obtain ⟨_, _, _, _, _, _, _, _, _, _, _, rfl, _⟩ := h; rfl) | (obtain ⟨_, _, _, _, _, _, _, _, _, _, _, _, rfl, _⟩ := h; rfl) | (obtain ⟨_, _, _, _, _, _, _, _, _, _, _, _, _, rfl, _⟩ := h; rfl) | (obtain ⟨_, _, _, _, _, _, _, _, _, _, _, _, _, _, rfl, _⟩ := h; rfl)) (fun cdv AA outer s H vs Q E hr h => ?_)
    refine ⟨_, (pss_cons (ps_if (pt_val (pe_callB call_isi (by rfl) T.z_isinstance (show bootBuiltins "isinstance" = some (.builtin "isinstance") by decide +kernel) (pa_cons (pv 1) (pa_cons (pe_bltn (v := .ty "tuple") (by rfl) T.z_tuple (by decide +kernel) rfl) pa_nil)))) (pss_cons (ps_if (PW.pt (pw_or (pt_not (pt_val (pe_callB call_isi (by rfl) T.z_isinstance (show bootBuiltins "isinstance" = some (.builtin "isinstance") by decide +kernel) (pa_cons (pv 0) (pa_cons (pe_bltn (v := .ty "tuple") (by rfl) T.z_tuple (by decide +kernel) rfl) pa_nil))))) (pw_or1 (pt_cmpR op_ne (pe_callB call_len_seq (by rfl) T.z_len PySem.boot_len (pa_cons (pv 0) pa_nil)) (pe_callB call_len_seq (by rfl) T.z_len PySem.boot_len (pa_cons (pv 1) pa_nil)) (nomark _))))) (pss_one (ps_ret pe_bl)) pss_nil)
        (pss_one (ps_ret (pe_cmpR (op_eqD hr.units) (pe_lc (own := [("_law_k", 2)]) (g := gName 2)  rfl sc__law_same.nd (pi_range1 (by rfl) T.z_range (pa_cons (pe_callB call_len_seq (by rfl) T.z_len PySem.boot_len (pa_cons (pv 1) pa_nil)) pa_nil)) (blkOk_by (own := [("_law_k", 2)]) (N := ["_law_found", "_law_due_here", "_law_k"]) (sc := defScope s__law_same) (by decide +kernel)) (fun _ _ _ _ _ => pg_name (i := 2) sc__law_same.nd rfl (Or.inl rfl)) (fun _ _ _ _ _ => (pts_one (pt_not (pt_val (pe_call IH hr (by rfl) T.g__law_same T.k__law_same T.b__law_same .nil pass0 (pa_cons (pe_ix (ix_tupK (K := K) rfl) (pv 0) (pv 2) (fun _ _ => rfl)) (pa_cons (pe_ix (ix_tupK (K := K) rfl) (pv 1) (pv 2) (fun _ _ => rfl)) pa_nil))))))) (fun _ _ _ _ _ => (pv 2))) (pe_lst pa_nil) (nomark _))))) pss_nil)
      (pss_cons (ps_if (pt_cmpR op_isN (pv 1) pe_non (nomark _)) (pss_one (ps_ret (pe_cmpR op_isN (pv 0) pe_non (nomark _)))) pss_nil)
      (pss_cons (ps_if (pt_val (pe_callB call_isi (by rfl) T.z_isinstance (show bootBuiltins "isinstance" = some (.builtin "isinstance") by decide +kernel) (pa_cons (pv 1) (pa_cons (pe_bltn (v := .ty "str") (by rfl) T.z_str (by decide +kernel) rfl) pa_nil)))) (pss_one (ps_ret (pe_and (pe_callB call_isi (by rfl) T.z_isinstance (show bootBuiltins "isinstance" = some (.builtin "isinstance") by decide +kernel) (pa_cons (pv 0) (pa_cons (pe_bltn (v := .ty "str") (by rfl) T.z_str (by decide +kernel) rfl) pa_nil))) (pe_one (pe_cmpR op_eq (pv 0) (pv 1) (nomark _)))))) pss_nil)
      (pss_cons (ps_if (PW.pt (pw_or (pt_val (pe_callB call_isi (by rfl) T.z_isinstance (show bootBuiltins "isinstance" = some (.builtin "isinstance") by decide +kernel) (pa_cons (pv 1) (pa_cons (pe_bltn (v := .ty "bool") (by rfl) T.z_bool (by decide +kernel) rfl) pa_nil)))) (pw_or1 (pt_val (pe_callB call_isi (by rfl) T.z_isinstance (show bootBuiltins "isinstance" = some (.builtin "isinstance") by decide +kernel) (pa_cons (pv 0) (pa_cons (pe_bltn (v := .ty "bool") (by rfl) T.z_bool (by decide +kernel) rfl) pa_nil))))))) (pss_one (ps_ret (pe_and (pe_callB call_isi (by rfl) T.z_isinstance (show bootBuiltins "isinstance" = some (.builtin "isinstance") by decide +kernel) (pa_cons (pv 1) (pa_cons (pe_bltn (v := .ty "bool") (by rfl) T.z_bool (by decide +kernel) rfl) pa_nil))) (pe_and (pe_callB call_isi (by rfl) T.z_isinstance (show bootBuiltins "isinstance" = some (.builtin "isinstance") by decide +kernel) (pa_cons (pv 0) (pa_cons (pe_bltn (v := .ty "bool") (by rfl) T.z_bool (by decide +kernel) rfl) pa_nil))) (pe_one (pe_cmpR op_eq (pv 0) (pv 1) (nomark _))))))) pss_nil)
      (pss_one (ps_ret (pe_and (pe_callB call_isi (by rfl) T.z_isinstance (show bootBuiltins "isinstance" = some (.builtin "isinstance") by decide +kernel) (pa_cons (pv 0) (pa_cons (pe_bltn (v := .ty "int") (by rfl) T.z_int (by decide +kernel) rfl) pa_nil))) (pe_one (pe_cmpR op_eq (pv 0) (pv 1) (nomark _)))))))))), ?_⟩
    obtain ⟨x, y, rfl, e, q⟩ := h
    cases e with
    | non =>
      refine ⟨_, rfl, _, _, _, _, false, rfl, .ty "tuple", .base .non, kit_ty (by decide +kernel), _, rfl, iteF ?_⟩
      refine ⟨_, rfl, rfl, _, rfl, iteT ?_⟩
      exact ⟨_, rfl, rfl, q H (Same.refl _)⟩
    | bl _ b =>
      refine ⟨_, rfl, _, _, _, _, false, rfl, .ty "tuple", .base (.bl _), kit_ty (by decide +kernel), _, rfl, iteF ?_⟩
      refine ⟨_, rfl, rfl, _, rfl, iteF ?_⟩
      refine ⟨_, rfl, _, _, _, _, false, rfl, .ty "str", .base (.bl _), kit_ty (by decide +kernel), _, rfl, iteF ?_⟩
      refine ⟨_, rfl, _, _, _, _, true, rfl, .ty "bool", .base (.bl _), kit_ty (by decide +kernel), _, rfl, iteT ?_⟩
      refine iteT ?_
      refine ⟨_, rfl, _, _, _, _, true, rfl, .ty "bool", .base (.bl _), kit_ty (by decide +kernel), _, rfl, iteT ?_⟩
      refine ⟨_, rfl, _, _, _, _, true, rfl, .ty "bool", .base (.bl _), kit_ty (by decide +kernel), _, rfl, iteT ?_⟩
      refine ⟨_, rfl, _, rfl, rfl, ?_⟩
      rw [decide_eq_true rfl]
      exact q H (Same.refl _)
    | int _ i =>
      refine ⟨_, rfl, _, _, _, _, false, rfl, .ty "tuple", .base (.int _), kit_ty (by decide +kernel), _, rfl, iteF ?_⟩
      refine ⟨_, rfl, rfl, _, rfl, iteF ?_⟩
      refine ⟨_, rfl, _, _, _, _, false, rfl, .ty "str", .base (.int _), kit_ty (by decide +kernel), _, rfl, iteF ?_⟩
      refine ⟨_, rfl, _, _, _, _, false, rfl, .ty "bool", .base (.int _), kit_ty (by decide +kernel), _, rfl, iteF ?_⟩
      refine ⟨_, rfl, _, _, _, _, false, rfl, .ty "bool", .base (.int _), kit_ty (by decide +kernel), _, rfl, iteF ?_⟩
      refine ⟨_, rfl, _, _, _, _, true, rfl, .ty "int", .base (.int _), kit_ty (by decide +kernel), _, rfl, iteT ?_⟩
      refine ⟨_, rfl, _, rfl, rfl, ?_⟩
      rw [decide_eq_true rfl]
      exact q H (Same.refl _)
    | str _ z =>
      refine ⟨_, rfl, _, _, _, _, false, rfl, .ty "tuple", .base (.str _), kit_ty (by decide +kernel), _, rfl, iteF ?_⟩
      refine ⟨_, rfl, rfl, _, rfl, iteF ?_⟩
      refine ⟨_, rfl, _, _, _, _, true, rfl, .ty "str", .base (.str _), kit_ty (by decide +kernel), _, rfl, iteT ?_⟩
      refine ⟨_, rfl, _, _, _, _, true, rfl, .ty "str", .base (.str _), kit_ty (by decide +kernel), _, rfl, iteT ?_⟩
      refine ⟨_, rfl, _, rfl, rfl, ?_⟩
      rw [decide_eq_true rfl]
      exact q H (Same.refl _)
    | @tup _ p r xs ys hp hq hl hl2 hE =>
      refine ⟨_, rfl, _, _, _, _, true, rfl, .ty "tuple", .base (.tup hq), kit_ty (by decide +kernel), _, rfl, iteT ?_⟩
      refine ⟨_, rfl, _, _, _, _, true, rfl, .ty "tuple", .base (.tup hp), kit_ty (by decide +kernel), _, rfl, iteF ?_⟩
      refine ⟨_, rfl, p, _, rfl, .inr (SqT.of hp), _, rfl, r, _, rfl, .inr (SqT.of hq), rfl, _, rfl, iteNS (by rw [hl]) ?_⟩
      refine ⟨_, rfl, r, _, rfl, .inr (SqT.of hq), _, rfl, by omega, by omega, fun D hD => lc_pureR (lo := 0) (n := ((ys.length : Nat) : Int).toNat) (fun _ => false) (fun v => v) hD (by omega) (fun _ => rfl) ?_ (fun _ _ z => nomatch z) fun H2 s2 hd => ?_⟩
      · intro k hk H2 s2 Q' q'
        have k1 : k < ys.length := by omega
        have k2 : k < xs.length := by omega
        have gx : xs[k]? = some xs[k] := List.getElem?_eq_getElem k2
        have gy : ys[k]? = some ys[k] := List.getElem?_eq_getElem k1
        refine ⟨_, rfl, _, rfl, p, _, _, _, rfl, rfl, SqT.of (s2 _ _ hp), at_of (j := k) (by omega) gx, _, rfl, _, rfl, r, _, _, _, rfl, rfl, SqT.of (s2 _ _ hq), at_of (j := k) (by omega) gy, ?_⟩
        exact ⟨_, _, rfl, (hE k _ _ gx gy).same s2, fun H3 s3 => ⟨true, rfl, q' H3 s3⟩⟩
      · refine ⟨by show 0 ≤ sizeLine; decide, fun l hl => eqL (ns := []) (ms := []) (SqL.of (by rw [upd_ne (ne_of_none hd hl), hd, filt_no]; rfl)) (SqL.of upd_same) ?_⟩
        exact q _ (s2.trans (same_upd hl))
/-! ### _law_house: slots 0 _law_marks, 1 _law_many, 2 _law_done, 3 _law_hand, 4 _law_other, 5 _law_row -/

theorem ok__law_house (T : Txt K mg base A) : FnOk P w K mg base CX0 1 A.f__law_house A.d__law_house ["_law_marks", "_law_many"] (sp__law_house ) := by
  refine T.F__law_house.ok sc__law_house (fun vs H Q E h => by first | (obtain ⟨_, rfl, _⟩ := h; rfl) | (obtain ⟨_, _, rfl, _⟩ := h; rfl) | (obtain ⟨_, _, _, rfl, _⟩ := h; rfl) | (obtain ⟨_, _, _, _, rfl, _⟩ := h; rfl) | (obtain ⟨_, _, _, _, _, rfl, _⟩ := h; rfl) | (obtain ⟨_, _, _, _, _, _, rfl, _⟩ := h; rfl) | (obtain ⟨_, _, _, _, _, _, _, rfl, _⟩ := h; rfl) | (obtain ⟨_, _, _, _, _, _, _, _, rfl, _⟩ := h; rfl) | (obtain ⟨_, _, _, _, _, _, _, _, _, rfl, _⟩ := h; rfl) | (obtain ⟨_, _, _, _, _, _, _, _, _, _, rfl, _⟩ := h; rfl) | (obtain ⟨_, _, _, _, _, _, _, _, _, _, _, rfl, _⟩ := h; rfl) | (obtain ⟨_, _, _, _, _, _, _, _, _, _, _, _, rfl, _⟩ := h; rfl) | (obtain ⟨_, _, _, _, _, _, _, _, _, _, _, _, _, rfl, _⟩ := h; rfl) | (obtain ⟨_, _, _, _, _, _, _, _, _, _, _, _, _, _, rfl, _⟩ := h; rfl)) (fun cdv AA outer s H vs Q E hr h => ?_)
  refine ⟨_, (pss_cons (ps_setLc (i := 2) (own := [("_law_hand", 3)]) (g := gName 3)  rfl sc__law_house.nd rfl rfl (sw_true rfl rfl rfl (by decide +kernel)) (pi_range1 (by rfl) T.z_range (pa_cons (pv 1) pa_nil)) (blkOk_by (own := [("_law_hand", 3)]) (N := ["_law_marks", "_law_many", "_law_done", "_law_hand", "_law_other", "_law_row"]) (sc := defScope s__law_house) (by decide +kernel)) (fun _ _ _ _ _ => pg_name (i := 3) sc__law_house.nd rfl (Or.inl rfl)) (fun _ _ _ _ _ => pts_nil) (fun _ _ _ _ _ => (pe_lc (own := [("_law_other", 4)]) (g := gName 4)  rfl sc__law_house.nd (pi_range1 (by rfl) T.z_range (pa_cons (pv 1) pa_nil)) (blkOk_by (own := [("_law_other", 4)]) (N := ["_law_marks", "_law_many", "_law_done", "_law_hand", "_law_other", "_law_row"]) (sc := ⟨.function, [(".0", .local), ("_law_hand", .local), ("range", .globalImplicit), ("_law_many", .cell)], false, false, []⟩) (by decide +kernel)) (fun _ _ _ _ _ => pg_name (i := 4) sc__law_house.nd rfl (Or.inl rfl)) (fun _ _ _ _ _ => pts_nil) (fun _ _ _ _ _ => pe_int))))
      (pss_one (ps_ret (pe_disp (pps_cons pe_str (pe_lc (own := [("_law_hand", 3)]) (g := gName 3)  rfl sc__law_house.nd (pi_range1 (by rfl) T.z_range (pa_cons (pv 1) pa_nil)) (blkOk_by (own := [("_law_hand", 3)]) (N := ["_law_marks", "_law_many", "_law_done", "_law_hand", "_law_other", "_law_row"]) (sc := defScope s__law_house) (by decide +kernel)) (fun _ _ _ _ _ => pg_name (i := 3) sc__law_house.nd rfl (Or.inl rfl)) (fun _ _ _ _ _ => pts_nil) (fun _ _ _ _ _ => (pv 0))) (pps_cons pe_str (pv 2) (pps_cons pe_str (pe_lc (own := [("_law_row", 5)]) (g := gName 5)  rfl sc__law_house.nd (pi_list (pv 2)) (blkOk_by (own := [("_law_row", 5)]) (N := ["_law_marks", "_law_many", "_law_done", "_law_hand", "_law_other", "_law_row"]) (sc := defScope s__law_house) (by decide +kernel)) (fun _ _ _ _ _ => pg_name (i := 5) sc__law_house.nd rfl (Or.inl rfl)) (fun _ _ _ _ _ => pts_nil) (fun _ _ _ _ _ => (pe_callTy (Lm.call_list_ofK (K := K) rfl) (by rfl) T.z_list (by decide +kernel) (pa_cons (pv 5) pa_nil)))) pps_nil))) (by rfl) (by rfl) (fun z => by cases z) (by decide))))), ?_⟩
  obtain ⟨o, own, n, rfl, ho, hs, n0, n4, q⟩ := h
  refine ⟨_, rfl, (n : Int), rfl, by omega, by omega, fun G hG => lc_rows (walk_range (lo := 0) (n := ((n : Int)).toNat)) (fun _ => rowV n fun _ => 0) (by omega) hG (fun _ _ => trivial) ?_ fun rows H1 s1 hd1 hl1 nd1 hf1 hr1 => ?_⟩
  · rintro i v H2 H3 hi s2 ⟨rfl, rfl⟩ Q' q'
    refine ⟨rfl, _, rfl, (n : Int), rfl, by omega, by omega, fun E hE => lc_F (te := tC (.int 0)) (walk_range (lo := 0) (n := ((n : Int)).toNat)) (fun _ => V.int 0) (by omega) hE (fun _ _ => trivial) ?_ fun H4 s4 he => q' E H4 s4 hE ?_⟩
    · rintro i v H2 H3 hi s2 ⟨rfl, rfl⟩ Q' q'
      exact ⟨rfl, q' _ (Same.refl _)⟩
    · rw [he, Int.toNat_natCast]
      rfl
  have hlr : rows.length = n := by omega
  refine fun p hp => ?_
  have sp := same_upd (o := .dK []) hp
  have hp1 := upd_same (H := H1) (a := p) (o := .dK [])
  have hpn : ∀ q ∈ G :: rows, q ≠ p := fun q hq => by
    rcases List.mem_cons.mp hq with rfl | hq
    · exact ne_of_none hd1 hp
    · obtain ⟨j, hj⟩ := List.mem_iff_getElem?.mp hq
      exact ne_of_none (hr1 j q hj) hp
  have hd2 := sp _ _ hd1
  have hr2 : ∀ i r, rows[i]? = some r → upd H1 p (.dK []) r = some (.lst (rowV n fun _ => 0)) := fun i r h => sp _ _ (hr1 i r h)
  have hpH : H p = none := s1.free hp
  generalize upd H1 p (.dK []) = H2 at sp hp1 hd2 hr2
  refine ⟨_, rfl, (n : Int), rfl, by omega, by omega, fun F hF => lc_F (te := tVar 0) (walk_range (lo := 0) (n := ((n : Int)).toNat)) (fun _ => V.ref o) (by omega) hF (fun _ _ => trivial) ?_ fun H3 s3 hf3 => ?_⟩
  · rintro i v H2 H3 hi s2 ⟨rfl, rfl⟩ Q' q'
    exact ⟨rfl, _, rfl, q' _ (Same.refl _)⟩
  have hd3 := s3 _ _ hd2
  have hr3 : ∀ i r, rows[i]? = some r → H3 r = some (.lst (rowV n fun _ => 0)) := fun i r h => s3 _ _ (hr2 i r h)
  refine ⟨_, rfl, _, rfl, G, rfl, ⟨_, SqL.of hd3⟩, fun F2 hF2 => lc_rows (walk_list (K := K) (a := G) (xs := rows.map V.ref)) (fun _ => rowV n fun _ => 0) (by rw [List.length_map]; omega) hF2 (fun _ s => SqL.of (s _ _ hd3)) ?_ fun rows2 H4 s4 hd4 hl4 nd4 hf4 hr4 => ?_⟩
  · rintro i v H5 H6 hi s5 ⟨rfl, hv⟩ Q' q'
    rw [List.getElem?_map] at hv
    cases hr : rows[i]? with
    | none =>
      rw [hr] at hv
      cases hv
    | some r =>
      rw [hr] at hv
      cases hv
      exact ⟨rfl, _, rfl, r, _, rfl, .inl (SqL.of (s5 _ _ (hr3 i r hr))), fun l hl => q' l _ (same_upd hl) hl upd_same⟩
  have hp4 := s4 _ _ (s3 _ _ hp1)
  rw [List.length_map] at hl4
  have sA := s1.trans (sp.trans (s3.trans s4))
  have n5 : ∀ q xs, H4 q = some (.lst xs) → upd H4 p (.dK (mirK F G F2)) q = some (.lst xs) := fun q xs e => by
    rw [upd_ne (ne_of e hp4 fun z => nomatch z)]
    exact e
  have fH : ∀ q, H1 q = none → H q = none := fun q => s1.free
  have f2 : ∀ q, H2 q = none → H q = none := fun q => (s1.trans sp).free
  have f3 : ∀ q, H3 q = none → H q = none := fun q => ((s1.trans sp).trans s3).free
  refine ⟨hp4, mirK F G F2, rfl, by show 3 ≤ 15; decide, q p ⟨F, G, F2, rows, rows2⟩ _ ((sA).mut hpH) hpH ?_ ⟨upd_same, ⟨⟨List.replicate n o, ?_, List.length_replicate, ?_⟩, ⟨?_, hlr, ?_⟩, ⟨?_, by show rows2.length = n; omega, ?_⟩, ?_, n0, n4, fun _ => hs⟩⟩⟩
  · intro q hq
    rcases List.mem_cons.mp hq with rfl | hq
    · exact f2 _ hF
    rcases List.mem_cons.mp hq with rfl | hq
    · exact hf1 _ List.mem_cons_self
    rcases List.mem_cons.mp hq with rfl | hq
    · exact f3 _ (hf4 _ List.mem_cons_self)
    rcases List.mem_append.mp hq with hq | hq
    · exact hf1 _ (List.mem_cons_of_mem _ hq)
    · exact f3 _ (hf4 _ (List.mem_cons_of_mem _ hq))
  · refine n5 _ _ (s4 _ _ ?_)
    rw [hf3, Int.toNat_natCast, List.map_const', List.length_range, List.map_replicate]
  · intro i q hq
    obtain rfl : q = o := List.eq_of_mem_replicate (List.mem_of_getElem? hq)
    rw [upd_ne (ne_of_none ho hpH)]
    exact sA _ _ ho
  · exact n5 _ _ (s4 _ _ hd3)
  · intro i r h
    exact n5 _ _ (s4 _ _ (hr3 i r h))
  · exact n5 _ _ hd4
  · intro i r h
    exact n5 _ _ (hr4 i r h)
  · have a2 : ∀ q ∈ G :: rows, H2 q ≠ none := fun q hq z => by
      rcases List.mem_cons.mp hq with rfl | hq
      · rw [hd2] at z
        cases z
      · obtain ⟨j, hj⟩ := List.mem_iff_getElem?.mp hq
        rw [hr2 j q hj] at z
        cases z
    refine cr_nd (P1 := fun q => H2 q ≠ none) (P2 := fun q => H3 q = none) (fun z => z hF) a2 (fun q hq z => ?_) hf4 nd1 nd4
    rcases List.mem_cons.mp hq with rfl | hq
    · rw [hf3] at z
      cases z
    · exact a2 q hq (s3.free z)
/-! ### _law_gains: slots 0 _law_h, 1 _law_hand, 2 _law_marks, 3 _law_lacks, 4 _law_over, 5 _law_other, 6 _law_row -/

theorem ok__law_gains (T : Txt K mg base A) : FnOk P w K mg base CX0 2 A.f__law_gains A.d__law_gains ["_law_h", "_law_hand", "_law_marks"] (sp__law_gains ) := by
  refine T.F__law_gains.ok sc__law_gains (fun vs H Q E h => by first | (obtain ⟨_, rfl, _⟩ := h; rfl) | (obtain ⟨_, _, rfl, _⟩ := h; rfl) | (obtain ⟨_, _, _, rfl, _⟩ := h; rfl) | (obtain ⟨_, _, _, _, rfl, _⟩ := h; rfl) | (obtain ⟨_, _, _, _, _, rfl, _⟩ := h; rfl) | (obtain ⟨_, _, _, _, _, _, rfl, _⟩ := h; rfl) | (obtain ⟨_, _, _, _, _, _, _, rfl, _⟩ := h; rfl) | (obtain ⟨_, _, _, _, _, _, _, _, rfl, _⟩ := h; rfl) | (obtain ⟨_, _, _, _, _, _, _, _, _, rfl, _⟩ := h; rfl) | (obtain ⟨_, _, _, _, _, _, _, _, _, _, rfl, _⟩ := h; rfl) | (obtain ⟨_, _, _, _, _, _, _, _, _, _, _, rfl, _⟩ := h; rfl) | (obtain ⟨_, _, _, _, _, _, _, _, _, _, _, _, rfl, _⟩ := h; rfl) | (obtain ⟨_, _, _, _, _, _, _, _, _, _, _, _, _, rfl, _⟩ := h; rfl) | (obtain ⟨_, _, _, _, _, _, _, _, _, _, _, _, _, _, rfl, _⟩ := h; rfl)) (fun cdv AA outer s H vs Q E hr h => ?_)
  refine ⟨_, (pss_cons (ps_asg (pe_call (ok__law_apart T) (hr.mono (by decide)) (by rfl) T.g__law_apart T.k__law_apart T.b__law_apart .nil pass0 (pa_cons (pe_ix ix_list (pe_dget (hu_of hr) (pv 0) pe_str (fun _ _ => rfl)) (pv 1) (fun _ _ => rfl)) (pa_cons (pv 2) pa_nil))) (pg_tup rfl (pgs_cons (pg_name (i := 3) sc__law_gains.nd rfl (.inl rfl)) (pgs_cons (pg_name (i := 4) sc__law_gains.nd rfl (.inl rfl)) pgs_nil))))
      (pss_cons (ps_for PassesOwn.never rfl (pi_range1 (by rfl) T.z_range (pa_cons (pe_callB call_len_seq (by rfl) T.z_len PySem.boot_len (pa_cons (pe_dget (hu_of hr) (pv 0) pe_str (fun _ _ => rfl)) pa_nil)) pa_nil)) (pg_name (i := 5) sc__law_gains.nd rfl (.inl rfl))
        (pss_one (ps_if (pt_cmpR op_ne (pv 5) (pv 1) (nomark _)) (pss_cons (ps_set (i := 6) sc__law_gains.nd rfl (.inl rfl) (pe_ix ix_list (pe_dget (hu_of hr) (pv 0) pe_str (fun _ _ => rfl)) (pv 1) (fun _ _ => rfl)))
          (pss_one (ps_asg (pe_op op_add (pe_op op_add (pe_ix ix_list (pv 6) (pv 5) (fun _ _ => rfl)) (pe_callB call_len_seq (by rfl) T.z_len PySem.boot_len (pa_cons (pv 3) pa_nil))) (pe_callB call_len_seq (by rfl) T.z_len PySem.boot_len (pa_cons (pv 4) pa_nil))) (pg_sub (pv 6) (pv 5) set_list)))) pss_nil)))
      (pss_one (ps_asg (pv 2) (pg_sub (pe_dget (hu_of hr) (pv 0) pe_str (fun _ _ => rfl)) (pv 1) set_list))))), ?_⟩
  obtain ⟨x, c, n, S, D, T', i, a, ns, rfl, MA, hi, ha, hs, q⟩ := h
  obtain ⟨as, hl, hn, has⟩ := MA.core.sets.ex
  have hk := List.getElem?_eq_getElem (by omega : i < as.length)
  generalize as[i]'(by omega) = p at hk
  have hp := has i p hk
  have hat : atI (as.map V.ref) (i : Int) = some (.ref p) := atI_nat (by rw [List.getElem?_map, hk]; rfl)
  refine ⟨_, rfl, _, _, rfl, MA.g_sets, _, rfl, c.l, _, i, _, rfl, rfl, SqL.of hl, hat, _, rfl, p, a, S i, ns, rfl, SqT.of hp, SqT.of ha, ?_, ?_, ?_⟩
  · have := (MA.core.ok i).len
    omega
  · have := hs.len
    omega
  intro t t1 t2 H1 s1 _ ht h1 h2
  refine ⟨t, _, rfl, SqT.of ht, rfl, _, _, rfl, _, _, rfl, rfl, ?_⟩
  have MA1 := MA.same s1
  have hl1 := s1 _ _ hl
  refine ⟨_, rfl, _, _, rfl, MA1.g_sets, _, _, rfl, .inl (SqL.of hl1), ?_⟩
  have n4 := MA.core.n4
  have e1 : (((diffL ns (S i)).map V.int).length : Int) + (((diffL (S i) ns).map V.int).length : Int) = apartN (S i) ns := by
    unfold apartN
    rw [List.length_map, List.length_map]
  refine ⟨(n : Int), by rw [List.length_map, hn], by omega, by omega, for_range (n := ((n : Int)).toNat) (fun j σ H' => ∃ v5 v6 : Option V, σ = [some (.ref x), some (.int (i : Int)), some (.ref a), some (.ref t1), some (.ref t2), v5, v6] ∧ Mv c.ls H1 H' ∧ CoreAt H' c n S (gainL D i (othersN j i) (apartN (S i) ns)) T') ⟨none, none, rfl, Mv.of (Same.refl _), by rw [show othersN 0 i = [] from rfl, gainL_nil]; exact MA1.core⟩ ?_ ?_⟩
  · rintro j σ H4 hj ⟨v5, v6, rfl, m4, co4⟩
    have hjn : j < n := by omega
    have h14 := m4.tup h1
    have h24 := m4.tup h2
    have MA4 : MirAt H4 x c n S (gainL D i (othersN j i) (apartN (S i) ns)) T' := ⟨m4.dk MA1.top, co4⟩
    refine ⟨_, rfl, _, rfl, rfl, _, rfl, ?_⟩
    by_cases cj : j = i
    · have e : (!decide (V.int (0 + (j : Int)) = V.int (i : Int))) = false := by
        subst cj
        simp
      rw [e]
      refine iteF ⟨_, _, rfl, m4, ?_⟩
      rw [othersN_succ, if_pos cj]
      exact co4
    have e : (!decide (V.int (0 + (j : Int)) = V.int (i : Int))) = true := by
      rw [decide_eq_false fun z => cj (by have := V.int.inj z; omega)]
      rfl
    rw [e]
    obtain ⟨r, hr, hat4, hrow⟩ := co4.deeds.ex hi
    have hnd : j ∉ othersN j i := othersN_self
    have hold : atI (rowV n (gainL D i (othersN j i) (apartN (S i) ns) i)) (0 + (j : Int)) = some (.int (D i j)) := by
      rw [← gainL_old (D := D) (i := i) (k := apartN (S i) ns) hnd, Int.zero_add]
      exact atI_nat (rowV_at _ hjn)
    refine iteT ⟨_, rfl, _, _, rfl, MA4.g_done, _, rfl, c.d, _, i, _, rfl, rfl, SqL.of co4.deeds.top, atI_nat hat4, ?_⟩
    refine ⟨_, rfl, _, rfl, r, _, _, _, rfl, rfl, SqL.of hrow, hold, _, rfl, t1, _, rfl, .inr (SqT.of h14), _, _, rfl, rfl, _, rfl, t2, _, rfl, .inr (SqT.of h24), _, _, rfl, rfl, _, rfl, _, rfl, r, _, _, j, rfl, rfl, hrow, ?_, ?_⟩
    · rw [rowV_len, Int.zero_add]
      exact Evl.ixN_nat hjn
    have gt := gain_turn (k := apartN (S i) ns) co4 hjn hnd hr
    rw [show D i j + apartN (S i) ns = D i j + (((diffL ns (S i)).map V.int).length : Int) + (((diffL (S i) ns).map V.int).length : Int) by rw [Int.add_assoc, e1]] at gt
    refine ⟨_, _, rfl, m4.trans (Mv.upd (Cr.rd_mem (List.mem_of_getElem? hr)) hrow), ?_⟩
    rw [othersN_succ, if_neg cj]
    exact gt
  · rintro σ H4 ⟨v5, v6, rfl, m4, co4⟩
    rw [Int.toNat_natCast] at co4
    obtain ⟨as4, hl4, hn4, has4⟩ := co4.sets.ex
    have hx4 := m4.dk MA1.top
    have MA4 : MirAt H4 x c n S (gainD D i n (apartN (S i) ns)) T' := ⟨hx4, co4⟩
    refine ⟨_, rfl, _, rfl, _, _, rfl, MA4.g_sets, _, rfl, c.l, _, _, i, rfl, rfl, hl4, ?_, ?_⟩
    · rw [List.length_map, hn4]
      exact Evl.ixN_nat hi
    have m5 : Mv c.ls H4 (upd H4 c.l (.lst ((as4.map V.ref).set i (.ref a)))) := Mv.upd c.l_mem hl4
    exact q _ (((Mv.of s1).trans m4).trans m5) ⟨m5.dk hx4, co4.setL hl4 hn4 has4 hi (m4.tup (s1 _ _ ha)) hs⟩
/-! ### _law_is: slots 0 _law_house_here, 1 _law_h, 2 _law_hand, 3 _law_done, 4 _law_turns, 5 _law_other, 6 _law_k -/

theorem ok__law_is (T : Txt K mg base A) : FnOk P w K mg base CX0 4 A.f__law_is A.d__law_is ["_law_house_here", "_law_h"] (sp__law_is A.e_House) := by
  refine T.F__law_is.ok sc__law_is (fun vs H Q E h => by first | (obtain ⟨_, rfl, _⟩ := h; rfl) | (obtain ⟨_, _, rfl, _⟩ := h; rfl) | (obtain ⟨_, _, _, rfl, _⟩ := h; rfl) | (obtain ⟨_, _, _, _, rfl, _⟩ := h; rfl) | (obtain ⟨_, _, _, _, _, rfl, _⟩ := h; rfl) | (obtain ⟨_, _, _, _, _, _, rfl, _⟩ := h; rfl) | (obtain ⟨_, _, _, _, _, _, _, rfl, _⟩ := h; rfl) | (obtain ⟨_, _, _, _, _, _, _, _, rfl, _⟩ := h; rfl) | (obtain ⟨_, _, _, _, _, _, _, _, _, rfl, _⟩ := h; rfl) | (obtain ⟨_, _, _, _, _, _, _, _, _, _, rfl, _⟩ := h; rfl) | (obtain ⟨_, _, _, _, _, _, _, _, _, _, _, rfl, _⟩ := h; rfl) | (obtain ⟨_, _, _, _, _, _, _, _, _, _, _, _, rfl, _⟩ := h; rfl) | (obtain ⟨_, _, _, _, _, _, _, _, _, _, _, _, _, rfl, _⟩ := h; rfl) | (obtain ⟨_, _, _, _, _, _, _, _, _, _, _, _, _, _, rfl, _⟩ := h; rfl)) (fun cdv AA outer s H vs Q E hr h => ?_)
  refine ⟨_, (pss_cons (ps_for PassesOwn.never rfl (pi_range1 (by rfl) T.z_range (pa_cons (pe_callB call_len_seq (by rfl) T.z_len PySem.boot_len (pa_cons (pe_dget (hu_of hr) (pv 1) pe_str (fun _ _ => rfl)) pa_nil)) pa_nil)) (pg_name (i := 2) sc__law_is.nd rfl (.inr rfl))
        (pss_cons (ps_if (pt_not (pt_val (pe_call (ok__law_same T 2) (hr.mono (by decide)) (by rfl) T.g__law_same T.k__law_same T.b__law_same .nil pass0 (pa_cons (pe_meth (pv 0) T.cl_House T.m_House_marks (ok_House_marks T) (hr.mono (by decide)) T.b_House_marks .nil passL (pa_cons (pv 2) pa_nil)) (pa_cons (pe_ix ix_list (pe_dget (hu_of hr) (pv 1) pe_str (fun _ _ => rfl)) (pv 2) (fun _ _ => rfl)) pa_nil))))) (pss_one (ps_ret pe_bl)) pss_nil)
        (pss_cons (ps_set (i := 3) sc__law_is.nd rfl (.inl rfl) (pe_ix ix_list (pe_dget (hu_of hr) (pv 1) pe_str (fun _ _ => rfl)) (pv 2) (fun _ _ => rfl)))
        (pss_cons (ps_set (i := 4) sc__law_is.nd rfl (.inl rfl) (pe_ix ix_list (pe_dget (hu_of hr) (pv 1) pe_str (fun _ _ => rfl)) (pv 2) (fun _ _ => rfl)))
        (pss_one (ps_for PassesOwn.never rfl (pi_list (pe_lc (own := [("_law_k", 6)]) (g := gName 6)  rfl sc__law_is.nd (pi_range1 (by rfl) T.z_range (pa_cons (pe_callB call_len_seq (by rfl) T.z_len PySem.boot_len (pa_cons (pv 3) pa_nil)) pa_nil)) (blkOk_by (own := [("_law_k", 6)]) (N := ["_law_house_here", "_law_h", "_law_hand", "_law_done", "_law_turns", "_law_other", "_law_k"]) (sc := defScope s__law_is) (by decide +kernel)) (fun _ _ _ _ _ => pg_name (i := 6) sc__law_is.nd rfl (Or.inl rfl)) (fun _ _ _ _ _ => (pts_one (pt_cmpR op_ne (pv 6) (pv 2) (nomark _)))) (fun _ _ _ _ _ => (pv 6)))) (pg_name (i := 5) sc__law_is.nd rfl (.inl rfl))
          (pss_cons (ps_if (pt_not (pt_val (pe_call (ok__law_same T 2) (hr.mono (by decide)) (by rfl) T.g__law_same T.k__law_same T.b__law_same .nil pass0 (pa_cons (pe_meth (pv 0) T.cl_House T.m_House_deeds (ok_House_deeds T) (hr.mono (by decide)) T.b_House_deeds .nil passL (pa_cons (pv 2) (pa_cons (pv 5) pa_nil))) (pa_cons (pe_ix ix_list (pv 3) (pv 5) (fun _ _ => rfl)) pa_nil))))) (pss_one (ps_ret pe_bl)) pss_nil)
          (pss_one (ps_if (pt_not (pt_val (pe_call (ok__law_same T 2) (hr.mono (by decide)) (by rfl) T.g__law_same T.k__law_same T.b__law_same .nil pass0 (pa_cons (pe_meth (pv 0) T.cl_House T.m_House_turn (ok_House_turn T) (hr.mono (by decide)) T.b_House_turn .nil passL (pa_cons (pv 2) (pa_cons (pv 5) pa_nil))) (pa_cons (pe_ix ix_list (pv 4) (pv 5) (fun _ _ => rfl)) pa_nil))))) (pss_one (ps_ret pe_bl)) pss_nil)))))))))
      (pss_one (ps_ret pe_bl))), ?_⟩
  obtain ⟨x, y, c, d, n, S, D, T', rfl, HA, MA, q⟩ := h
  obtain ⟨dx, hx⟩ := HA.obj
  obtain ⟨as, hl, hn, has⟩ := MA.core.sets.ex
  have n4 := MA.core.n4
  refine ⟨_, rfl, _, _, rfl, MA.g_sets, _, _, rfl, .inl (SqL.of hl), (n : Int), by rw [List.length_map, hn], by omega, by omega, for_range (n := ((n : Int)).toNat) (fun j σ H' => ∃ v2 v3 v4 v5 v6 : Option V, σ = [some (.ref x), some (.ref y), v2, v3, v4, v5, v6] ∧ Same H H') ⟨none, none, none, none, none, rfl, Same.refl _⟩ ?_ ?_⟩
  · rintro i σ H1 hi ⟨v2, v3, v4, v5, v6, rfl, s1⟩
    have HA1 := HA.same s1
    have MA1 := MA.same s1
    have i0 : (0 : Int) ≤ 0 + (i : Int) := by omega
    have i1 : 0 + (i : Int) < n := by omega
    obtain ⟨xs, p, hl1, _, hat1, hp1⟩ := MA1.core.sets.get i0 i1
    have ei : (0 + (i : Int)).toNat = i := by omega
    refine ⟨_, rfl, x, _, _, rfl, s1 _ _ hx, houseF_m (by decide +kernel), _, rfl, x, c, n, S, D, T', _, rfl, HA1, fun z => absurd ⟨i0, i1⟩ z, fun _ _ p' hp' => ?_⟩
    refine ⟨_, rfl, _, _, rfl, MA1.g_sets, _, rfl, d.l, _, _, _, rfl, rfl, SqL.of hl1, hat1, ?_⟩
    dsimp only [tNil]
    rw [ei] at hp' hp1
    refine ⟨_, _, rfl, eqv_set hp' hp1 (MA1.core.ok i), fun H2 s2 => ⟨true, rfl, iteF ?_⟩⟩
    have HA2 := HA1.same s2
    have MA2 := MA1.same s2
    have hin : i < n := by omega
    obtain ⟨r, hr, hatr, hrow⟩ := MA2.core.deeds.ex hin
    obtain ⟨u, hu, hatu, hurow⟩ := MA2.core.turns.ex hin
    have hx2 := s2 _ _ (s1 _ _ hx)
    refine ⟨_, rfl, _, _, rfl, MA2.g_done, _, rfl, d.d, _, _, _, rfl, rfl, SqL.of MA2.core.deeds.top, atI_int i0 (by rw [ei]; exact hatr), ?_⟩
    refine ⟨_, rfl, _, _, rfl, MA2.g_turns, _, rfl, d.t, _, _, _, rfl, rfl, SqL.of MA2.core.turns.top, atI_int i0 (by rw [ei]; exact hatu), ?_⟩
    refine ⟨_, rfl, r, _, rfl, .inl (SqL.of hrow), (n : Int), by rw [rowV_len], by omega, by omega, fun G hG => lc_FT (walk_range (lo := 0) (n := ((n : Int)).toNat)) (fun k => decide (k ≠ i)) (fun k => V.int (0 + (k : Int))) (by omega) hG (fun _ _ => trivial) ?_ fun H3 s3 hg => ⟨G, rfl, ⟨_, SqL.of hg⟩, for_list (K := K) (a := G) (xs := ((List.range ((n : Int)).toNat).filter fun k => decide (k ≠ i)).map fun k : Nat => V.int (0 + (k : Int))) (fun _ σ H' => ∃ v5 v6 : Option V, σ = [some (.ref x), some (.ref y), some (.int (0 + (i : Int))), some (.ref r), some (.ref u), v5, v6] ∧ Same H3 H') ⟨_, _, rfl, Same.refl _⟩ (fun _ σ H' _ z => by obtain ⟨_, _, _, s⟩ := z; exact SqL.of (s _ _ hg)) ?_ ?_⟩⟩
    · rintro k v H4 H5 hk s4 ⟨rfl, rfl⟩ Q' q'
      refine ⟨rfl, _, rfl, _, rfl, rfl, ?_⟩
      have e : (!decide (V.int (0 + (k : Int)) = V.int (0 + (i : Int)))) = decide (k ≠ i) := by
        by_cases c : k = i
        · subst c
          simp
        · rw [decide_eq_true (show k ≠ i from c), decide_eq_false fun z => c (by have := V.int.inj z; omega)]
          rfl
      rw [e]
      exact ⟨_, rfl, q' _ _ (Same.refl _) fun _ Q2 k2 => ⟨_, rfl, k2 _ (Same.refl _)⟩⟩
    · rintro j w σ H4 hj ⟨w5, w6, rfl, s4⟩
      obtain ⟨k, hk, hki, rfl⟩ : ∃ k : Nat, k < n ∧ k ≠ i ∧ w = .int (0 + (k : Int)) := by
        have hm := List.mem_of_getElem? hj
        obtain ⟨k, hk, e⟩ := List.mem_map.mp hm
        rw [List.mem_filter, List.mem_range, decide_eq_true_eq, Int.toNat_natCast] at hk
        exact ⟨k, hk.1, hk.2, e.symm⟩
      have s24 := s3.trans s4
      have HA4 := HA2.same s24
      have k0 : (0 : Int) ≤ 0 + (k : Int) := by omega
      have k1 : 0 + (k : Int) < n := by omega
      have ek : (0 + (k : Int)).toNat = k := by omega
      have ne : (0 + (i : Int)) ≠ 0 + (k : Int) := by omega
      refine ⟨_, rfl, x, _, _, rfl, s24 _ _ hx2, houseF_m (by decide +kernel), _, rfl, _, rfl, x, c, n, S, D, T', _, _, rfl, HA4, fun z => absurd ⟨i0, i1, k0, k1, ne⟩ z, fun _ _ _ _ _ => ?_⟩
      refine ⟨_, rfl, _, rfl, r, _, _, _, rfl, rfl, SqL.of (s24 _ _ hrow), atI_int k0 (by rw [ek]; exact rowV_at _ hk), ?_⟩
      dsimp only [tNil]
      rw [ei, ek]
      refine ⟨_, _, rfl, EqV.int _ _, fun H5 s5 => ⟨true, rfl, iteF ?_⟩⟩
      have s25 := s24.trans s5
      have HA5 := HA2.same s25
      refine ⟨_, rfl, x, _, _, rfl, s25 _ _ hx2, houseF_m (by decide +kernel), _, rfl, _, rfl, x, c, n, S, D, T', _, _, rfl, HA5, fun z => absurd ⟨i0, i1, k0, k1, ne⟩ z, fun _ _ _ _ _ => ?_⟩
      refine ⟨_, rfl, _, rfl, u, _, _, _, rfl, rfl, SqL.of (s25 _ _ hurow), atI_int k0 (by rw [ek]; exact rowV_at _ hk), ?_⟩
      dsimp only [tNil]
      rw [ei, ek]
      refine ⟨_, _, rfl, EqV.int _ _, fun H6 s6 => ⟨true, rfl, iteF ⟨_, _, rfl, (s4.trans s5).trans s6⟩⟩⟩
    · rintro σ H4 ⟨w5, w6, rfl, s4⟩
      exact ⟨_, _, _, _, _, rfl, s1.trans (s2.trans (s3.trans s4))⟩
  · rintro σ H1 ⟨v2, v3, v4, v5, v6, rfl, s1⟩
    exact q _ s1
/-! ### _law_kind: slots 0 _law_work, 1 e, 2 _law_kinds, 3 _law_other -/
/-- what is asked of the lambda: it returns, or is refused with one of these -/
def KindE (A : Ad) (Q : VK) : XK := fun cls d H1 => d = none ∧ ∃ w : Str, ((cls = .ref A.e_NoHand ∧ w = "NoHand") ∨ (cls = .ref A.e_NoMark ∧ w = "NoMark") ∨ (cls = .ref A.e_Held ∧ w = "Held") ∨ (cls = .ref A.e_NotHeld ∧ w = "NotHeld")) ∧ ∀ p H2, Same H1 H2 → H2 p = some (.tup [.non, .str w]) → Q (.ref p) H2
def TT__law_kind (K : PySem.W.Frag) (A : Ad) : (XK → Hp → VK → Prop) → Hp → VK → Prop := fun tl H Q => tl (KindE A Q) H (fun v H1 => ([v, V.str ""] : List V).length ≤ sizeLine ∧ ∀ p, H1 p = none → Q (.ref p) (upd H1 p (.tup [v, .str ""])))
theorem gv__law_kind (T : Txt K mg base A) {q : Str} (AA : Around) (outer : List Env) (cdg : Value) (f c1 : Addr) (s : Shared) (H : Hp) (Q : VK) (tl : XK → Hp → VK → Prop)
    (act : ∀ (W : WX) (pn : List (Addr × Obj)) (xe : Value → Shared → Prop) (E : XK) (p1 p2 : Pos), Takes ((cxOf C8.CX0 P w K mg base ["_law_work", "e", "_law_kinds", "_law_other"] "_law_kind" (defScope s__law_kind) A.f__law_kind cdg AA outer s H C8.E0).tr pn xe) W → (∀ cls d σ1 H1, E cls d H1 → W cls d σ1 H1) →
      PE ((cxOf C8.CX0 P w K mg base ["_law_work", "e", "_law_kinds", "_law_other"] "_law_kind" (defScope s__law_kind) A.f__law_kind cdg AA outer s H C8.E0).tr pn xe) (.Call (.Name "_law_work" p1) [] [] p2) (fun σZ HZ Q => σZ[0]? = some (some (.ref f)) ∧ HZ c1 = some (LamX.CodeO c1 q) ∧ tl E HZ Q))
    (hc : H c1 = some (LamX.CodeO c1 q)) (h : TT__law_kind K A tl H Q) : ∃ t, PSs (cxOf C8.CX0 P w K mg base ["_law_work", "e", "_law_kinds", "_law_other"] "_law_kind" (defScope s__law_kind) A.f__law_kind cdg AA outer s H C8.E0).nox (defBody s__law_kind) t ∧ t { nx := fun _ H1 => Q .non H1, rt := Q } (L2.start ["_law_work", "e", "_law_kinds", "_law_other"] [.ref f]) H := by
  refine ⟨_, (pss_one (ps_try_as (i := 1) rfl rfl sc__law_kind.nd rfl rfl ⟨rfl, by decide, .inl T.g_MendError⟩ takes0
        (fun W pn xe tk _ => (pss_one (ps_ret (pe_tup (pa_cons (Lm.pe_any (W := fun c d σ H => σ.length = (4 : Nat) → W c d σ H) fun E hW => act _ pn xe E _ _ (Lm.takes_len tk) hW) (pa_cons pe_str pa_nil))))))
        (fun a oe cls d pn hz hf => (pss_cons (ps_set (i := 2) sc__law_kind.nd rfl (.inl rfl) (pe_lst (pa_cons (pe_callB (call_isEx hz hf) (by rfl) T.z_isinstance (show bootBuiltins "isinstance" = some (.builtin "isinstance") by decide +kernel) (pa_cons (pv 1) (pa_cons (pe_glob (v := .ref A.e_NoHand) rfl T.g_NoHand rfl) pa_nil))) (pa_cons (pe_callB (call_isEx hz hf) (by rfl) T.z_isinstance (show bootBuiltins "isinstance" = some (.builtin "isinstance") by decide +kernel) (pa_cons (pv 1) (pa_cons (pe_glob (v := .ref A.e_NoMark) rfl T.g_NoMark rfl) pa_nil))) (pa_cons (pe_callB (call_isEx hz hf) (by rfl) T.z_isinstance (show bootBuiltins "isinstance" = some (.builtin "isinstance") by decide +kernel) (pa_cons (pv 1) (pa_cons (pe_glob (v := .ref A.e_Held) rfl T.g_Held rfl) pa_nil))) (pa_cons (pe_callB (call_isEx hz hf) (by rfl) T.z_isinstance (show bootBuiltins "isinstance" = some (.builtin "isinstance") by decide +kernel) (pa_cons (pv 1) (pa_cons (pe_glob (v := .ref A.e_NotHeld) rfl T.g_NotHeld rfl) pa_nil))) pa_nil))))))
        (pss_cons (ps_set (i := 3) sc__law_kind.nd rfl (.inl rfl) (pe_callB (call_isExT hz hf) (by rfl) T.z_isinstance (show bootBuiltins "isinstance" = some (.builtin "isinstance") by decide +kernel) (pa_cons (pv 1) (pa_cons (pe_tup (pa_cons (pe_glob (v := .ref A.e_Late) rfl T.g_Late rfl) (pa_cons (pe_glob (v := .ref A.e_NoCount) rfl T.g_NoCount rfl) (pa_cons (pe_glob (v := .ref A.e_NoInverse) rfl T.g_NoInverse rfl) (pa_cons (pe_glob (v := .ref A.e_NoLetter) rfl T.g_NoLetter rfl) (pa_cons (pe_glob (v := .ref A.e_NoSet) rfl T.g_NoSet rfl) (pa_cons (pe_glob (v := .ref A.e_NoText) rfl T.g_NoText rfl) (pa_cons (pe_glob (v := .ref A.e_Unlike) rfl T.g_Unlike rfl) pa_nil)))))))) pa_nil))))
        (pss_cons (ps_if (PW.pt (pw_or (pt_val (pv 3)) (pw_or (pt_cmpR op_ne (Lm.pe_bmK (K := K) rfl PySem.F.plainAttrs_list PySem.F.slot_list_count PySem.F.type_list_count (Lm.mt_lcountFK (K := K) rfl) (pv 2) (pa_cons pe_bl pa_nil)) pe_int (nomark _)) (pw_or1 (pt_not (pt_val (pe_callB (call_isEx hz hf) (by rfl) T.z_isinstance (show bootBuiltins "isinstance" = some (.builtin "isinstance") by decide +kernel) (pa_cons (pv 1) (pa_cons (pe_bltn (v := .ty "ValueError") (by rfl) T.z_ValueError (by decide +kernel) rfl) pa_nil))))))))) (pss_one (ps_ret (pe_tup (pa_cons pe_non (pa_cons pe_str pa_nil))))) pss_nil)
        (pss_one (ps_ret (pe_tup (pa_cons pe_non (pa_cons (pe_ix (ix_listK (K := K) rfl) (pe_lst (pa_cons pe_str (pa_cons pe_str (pa_cons pe_str (pa_cons pe_str pa_nil))))) (Lm.pe_bmK (K := K) rfl PySem.F.plainAttrs_list PySem.F.slot_list_index PySem.F.type_list_index (Lm.mt_indexK (K := K) rfl) (pv 2) (pa_cons pe_bl pa_nil)) (fun _ _ => rfl)) pa_nil))))))))))), ?_⟩
  refine ⟨KindE A Q, ?_, rfl, hc, ?_⟩
  · rintro cls d σ' H1 ⟨rfl, w, hw, hq⟩ hlen
    obtain ⟨v0, v1, v2, v3, rfl⟩ : ∃ v0 v1 v2 v3, σ' = [v0, v1, v2, v3] := by
      match σ', hlen with
      | [_, _, _, _], _ => exact ⟨_, _, _, _, rfl⟩
    rcases hw with ⟨rfl, rfl⟩ | ⟨rfl, rfl⟩ | ⟨rfl, rfl⟩ | ⟨rfl, rfl⟩
    · refine ⟨true, T.ex_NoHand_MendError, fun _ x hx => ?_, fun z => Bool.noConfusion z⟩
      refine ⟨_, rfl, _, rfl, rfl, T.ec_NoHand, _, _, true, rfl, fun _ r => r, T.k_NoHand_NoHand, _, rfl, _, rfl, rfl, T.ec_NoHand, _, _, false, rfl, fun _ r => r, T.k_NoHand_NoMark, _, rfl, _, rfl, rfl, T.ec_NoHand, _, _, false, rfl, fun _ r => r, T.k_NoHand_Held, _, rfl, _, rfl, rfl, T.ec_NoHand, _, _, false, rfl, fun _ r => r, T.k_NoHand_NotHeld, by show 4 ≤ sizeLine; decide, fun l hl => ?_⟩
      have s1 := same_upd (o := .lst [V.bl true, V.bl false, V.bl false, V.bl false]) hl
      have hl1 := upd_same (H := H1) (a := l) (o := .lst [V.bl true, V.bl false, V.bl false, V.bl false])
      generalize upd H1 l (.lst [V.bl true, V.bl false, V.bl false, V.bl false]) = H2 at s1 hl1
      refine ⟨_, rfl, by show 7 ≤ sizeLine; decide, fun tp htp => ?_⟩
      have s2 := same_upd (o := .tup [V.ref A.e_Late, V.ref A.e_NoCount, V.ref A.e_NoInverse, V.ref A.e_NoLetter, V.ref A.e_NoSet, V.ref A.e_NoText, V.ref A.e_Unlike]) htp
      refine ⟨_, tp, _, _, false, rfl, rfl, T.ec_NoHand, rfl, upd_same, .cons (.own _) (.cons (.own _) (.cons (.own _) (.cons (.own _) (.cons (.own _) (.cons (.own _) (.cons (.own _) .nil)))))), T.ktNoHand, ?_⟩
      have hl2 := s2 _ _ hl1
      refine ⟨_, rfl, _, rfl, iteF ?_⟩
      refine ⟨_, rfl, .inl ⟨rfl, _, SqL.of hl2⟩, l, _, _, rfl, rfl, SqL.of hl2, rfl, rfl, rfl, _, rfl, ite2 (fun c => absurd c (by decide +kernel)) fun _ => ?_⟩
      refine ⟨_, rfl, _, rfl, rfl, T.ec_NoHand, _, _, true, rfl, fun _ r => r, T.kvNoHand, _, rfl, iteF ?_⟩
      refine ⟨by show 4 ≤ sizeLine; decide, fun ls hls => ?_⟩
      have s3 := same_upd (o := .lst [V.str "NoHand", V.str "NoMark", V.str "Held", V.str "NotHeld"]) hls
      have hl3 := s3 _ _ hl2
      refine ⟨_, rfl, .inl ⟨rfl, _, SqL.of hl3⟩, l, _, _, 0, _, rfl, rfl, SqL.of hl3, rfl, rfl, rfl, rfl, ?_, ls, _, _, _, rfl, rfl, SqL.of upd_same, atI_nat (j := 0) rfl, by show 2 ≤ sizeLine; decide, fun p hp => ?_⟩
      · rintro (_ | _ | _ | _ | m) z' hm h <;> first | omega | (cases h; rfl)
      · exact hq p _ (s1.trans (s2.trans (s3.trans (same_upd hp)))) upd_same
    · refine ⟨true, T.ex_NoMark_MendError, fun _ x hx => ?_, fun z => Bool.noConfusion z⟩
      refine ⟨_, rfl, _, rfl, rfl, T.ec_NoMark, _, _, false, rfl, fun _ r => r, T.k_NoMark_NoHand, _, rfl, _, rfl, rfl, T.ec_NoMark, _, _, true, rfl, fun _ r => r, T.k_NoMark_NoMark, _, rfl, _, rfl, rfl, T.ec_NoMark, _, _, false, rfl, fun _ r => r, T.k_NoMark_Held, _, rfl, _, rfl, rfl, T.ec_NoMark, _, _, false, rfl, fun _ r => r, T.k_NoMark_NotHeld, by show 4 ≤ sizeLine; decide, fun l hl => ?_⟩
      have s1 := same_upd (o := .lst [V.bl false, V.bl true, V.bl false, V.bl false]) hl
      have hl1 := upd_same (H := H1) (a := l) (o := .lst [V.bl false, V.bl true, V.bl false, V.bl false])
      generalize upd H1 l (.lst [V.bl false, V.bl true, V.bl false, V.bl false]) = H2 at s1 hl1
      refine ⟨_, rfl, by show 7 ≤ sizeLine; decide, fun tp htp => ?_⟩
      have s2 := same_upd (o := .tup [V.ref A.e_Late, V.ref A.e_NoCount, V.ref A.e_NoInverse, V.ref A.e_NoLetter, V.ref A.e_NoSet, V.ref A.e_NoText, V.ref A.e_Unlike]) htp
      refine ⟨_, tp, _, _, false, rfl, rfl, T.ec_NoMark, rfl, upd_same, .cons (.own _) (.cons (.own _) (.cons (.own _) (.cons (.own _) (.cons (.own _) (.cons (.own _) (.cons (.own _) .nil)))))), T.ktNoMark, ?_⟩
      have hl2 := s2 _ _ hl1
      refine ⟨_, rfl, _, rfl, iteF ?_⟩
      refine ⟨_, rfl, .inl ⟨rfl, _, SqL.of hl2⟩, l, _, _, rfl, rfl, SqL.of hl2, rfl, rfl, rfl, _, rfl, ite2 (fun c => absurd c (by decide +kernel)) fun _ => ?_⟩
      refine ⟨_, rfl, _, rfl, rfl, T.ec_NoMark, _, _, true, rfl, fun _ r => r, T.kvNoMark, _, rfl, iteF ?_⟩
      refine ⟨by show 4 ≤ sizeLine; decide, fun ls hls => ?_⟩
      have s3 := same_upd (o := .lst [V.str "NoHand", V.str "NoMark", V.str "Held", V.str "NotHeld"]) hls
      have hl3 := s3 _ _ hl2
      refine ⟨_, rfl, .inl ⟨rfl, _, SqL.of hl3⟩, l, _, _, 1, _, rfl, rfl, SqL.of hl3, rfl, rfl, rfl, rfl, ?_, ls, _, _, _, rfl, rfl, SqL.of upd_same, atI_nat (j := 1) rfl, by show 2 ≤ sizeLine; decide, fun p hp => ?_⟩
      · rintro (_ | _ | _ | _ | m) z' hm h <;> first | omega | (cases h; rfl)
      · exact hq p _ (s1.trans (s2.trans (s3.trans (same_upd hp)))) upd_same
    · refine ⟨true, T.ex_Held_MendError, fun _ x hx => ?_, fun z => Bool.noConfusion z⟩
      refine ⟨_, rfl, _, rfl, rfl, T.ec_Held, _, _, false, rfl, fun _ r => r, T.k_Held_NoHand, _, rfl, _, rfl, rfl, T.ec_Held, _, _, false, rfl, fun _ r => r, T.k_Held_NoMark, _, rfl, _, rfl, rfl, T.ec_Held, _, _, true, rfl, fun _ r => r, T.k_Held_Held, _, rfl, _, rfl, rfl, T.ec_Held, _, _, false, rfl, fun _ r => r, T.k_Held_NotHeld, by show 4 ≤ sizeLine; decide, fun l hl => ?_⟩
      have s1 := same_upd (o := .lst [V.bl false, V.bl false, V.bl true, V.bl false]) hl
      have hl1 := upd_same (H := H1) (a := l) (o := .lst [V.bl false, V.bl false, V.bl true, V.bl false])
      generalize upd H1 l (.lst [V.bl false, V.bl false, V.bl true, V.bl false]) = H2 at s1 hl1
      refine ⟨_, rfl, by show 7 ≤ sizeLine; decide, fun tp htp => ?_⟩
      have s2 := same_upd (o := .tup [V.ref A.e_Late, V.ref A.e_NoCount, V.ref A.e_NoInverse, V.ref A.e_NoLetter, V.ref A.e_NoSet, V.ref A.e_NoText, V.ref A.e_Unlike]) htp
      refine ⟨_, tp, _, _, false, rfl, rfl, T.ec_Held, rfl, upd_same, .cons (.own _) (.cons (.own _) (.cons (.own _) (.cons (.own _) (.cons (.own _) (.cons (.own _) (.cons (.own _) .nil)))))), T.ktHeld, ?_⟩
      have hl2 := s2 _ _ hl1
      refine ⟨_, rfl, _, rfl, iteF ?_⟩
      refine ⟨_, rfl, .inl ⟨rfl, _, SqL.of hl2⟩, l, _, _, rfl, rfl, SqL.of hl2, rfl, rfl, rfl, _, rfl, ite2 (fun c => absurd c (by decide +kernel)) fun _ => ?_⟩
      refine ⟨_, rfl, _, rfl, rfl, T.ec_Held, _, _, true, rfl, fun _ r => r, T.kvHeld, _, rfl, iteF ?_⟩
      refine ⟨by show 4 ≤ sizeLine; decide, fun ls hls => ?_⟩
      have s3 := same_upd (o := .lst [V.str "NoHand", V.str "NoMark", V.str "Held", V.str "NotHeld"]) hls
      have hl3 := s3 _ _ hl2
      refine ⟨_, rfl, .inl ⟨rfl, _, SqL.of hl3⟩, l, _, _, 2, _, rfl, rfl, SqL.of hl3, rfl, rfl, rfl, rfl, ?_, ls, _, _, _, rfl, rfl, SqL.of upd_same, atI_nat (j := 2) rfl, by show 2 ≤ sizeLine; decide, fun p hp => ?_⟩
      · rintro (_ | _ | _ | _ | m) z' hm h <;> first | omega | (cases h; rfl)
      · exact hq p _ (s1.trans (s2.trans (s3.trans (same_upd hp)))) upd_same
    · refine ⟨true, T.ex_NotHeld_MendError, fun _ x hx => ?_, fun z => Bool.noConfusion z⟩
      refine ⟨_, rfl, _, rfl, rfl, T.ec_NotHeld, _, _, false, rfl, fun _ r => r, T.k_NotHeld_NoHand, _, rfl, _, rfl, rfl, T.ec_NotHeld, _, _, false, rfl, fun _ r => r, T.k_NotHeld_NoMark, _, rfl, _, rfl, rfl, T.ec_NotHeld, _, _, false, rfl, fun _ r => r, T.k_NotHeld_Held, _, rfl, _, rfl, rfl, T.ec_NotHeld, _, _, true, rfl, fun _ r => r, T.k_NotHeld_NotHeld, by show 4 ≤ sizeLine; decide, fun l hl => ?_⟩
      have s1 := same_upd (o := .lst [V.bl false, V.bl false, V.bl false, V.bl true]) hl
      have hl1 := upd_same (H := H1) (a := l) (o := .lst [V.bl false, V.bl false, V.bl false, V.bl true])
      generalize upd H1 l (.lst [V.bl false, V.bl false, V.bl false, V.bl true]) = H2 at s1 hl1
      refine ⟨_, rfl, by show 7 ≤ sizeLine; decide, fun tp htp => ?_⟩
      have s2 := same_upd (o := .tup [V.ref A.e_Late, V.ref A.e_NoCount, V.ref A.e_NoInverse, V.ref A.e_NoLetter, V.ref A.e_NoSet, V.ref A.e_NoText, V.ref A.e_Unlike]) htp
      refine ⟨_, tp, _, _, false, rfl, rfl, T.ec_NotHeld, rfl, upd_same, .cons (.own _) (.cons (.own _) (.cons (.own _) (.cons (.own _) (.cons (.own _) (.cons (.own _) (.cons (.own _) .nil)))))), T.ktNotHeld, ?_⟩
      have hl2 := s2 _ _ hl1
      refine ⟨_, rfl, _, rfl, iteF ?_⟩
      refine ⟨_, rfl, .inl ⟨rfl, _, SqL.of hl2⟩, l, _, _, rfl, rfl, SqL.of hl2, rfl, rfl, rfl, _, rfl, ite2 (fun c => absurd c (by decide +kernel)) fun _ => ?_⟩
      refine ⟨_, rfl, _, rfl, rfl, T.ec_NotHeld, _, _, true, rfl, fun _ r => r, T.kvNotHeld, _, rfl, iteF ?_⟩
      refine ⟨by show 4 ≤ sizeLine; decide, fun ls hls => ?_⟩
      have s3 := same_upd (o := .lst [V.str "NoHand", V.str "NoMark", V.str "Held", V.str "NotHeld"]) hls
      have hl3 := s3 _ _ hl2
      refine ⟨_, rfl, .inl ⟨rfl, _, SqL.of hl3⟩, l, _, _, 3, _, rfl, rfl, SqL.of hl3, rfl, rfl, rfl, rfl, ?_, ls, _, _, _, rfl, rfl, SqL.of upd_same, atI_nat (j := 3) rfl, by show 2 ≤ sizeLine; decide, fun p hp => ?_⟩
      · rintro (_ | _ | _ | _ | m) z' hm h <;> first | omega | (cases h; rfl)
      · exact hq p _ (s1.trans (s2.trans (s3.trans (same_upd hp)))) upd_same
  · exact h
/-! ### _law_odd: slots 0 _law_state, 1 _law_most, 2 _law_far -/

theorem ok__law_odd (T : Txt K mg base A) : FnOk P w K mg base CX0 2 A.f__law_odd A.d__law_odd ["_law_state", "_law_most"] (sp__law_odd K) := by
  refine T.F__law_odd.ok sc__law_odd (fun vs H Q E h => by first | (obtain ⟨_, rfl, _⟩ := h; rfl) | (obtain ⟨_, _, rfl, _⟩ := h; rfl) | (obtain ⟨_, _, _, rfl, _⟩ := h; rfl) | (obtain ⟨_, _, _, _, rfl, _⟩ := h; rfl) | (obtain ⟨_, _, _, _, _, rfl, _⟩ := h; rfl) | (obtain ⟨_, _, _, _, _, _, rfl, _⟩ := h; rfl) | (obtain ⟨_, _, _, _, _, _, _, rfl, _⟩ := h; rfl) | (obtain ⟨_, _, _, _, _, _, _, _, rfl, _⟩ := h; rfl) | (obtain ⟨_, _, _, _, _, _, _, _, _, rfl, _⟩ := h; rfl) | (obtain ⟨_, _, _, _, _, _, _, _, _, _, rfl, _⟩ := h; rfl) | (obtain ⟨_, _, _, _, _, _, _, _, _, _, _, rfl, _⟩ := h; rfl) | (obtain ⟨_, _, _, _, _, _, _, _, _, _, _, _, rfl, _⟩ := h; rfl) | (obtain ⟨_, _, _, _, _, _, _, _, _, _, _, _, _, rfl, _⟩ := h; rfl) | (obtain ⟨_, _, _, _, _, _, _, _, _, _, _, _, _, _, rfl, _⟩ := h; rfl)) (fun cdv AA outer s H vs Q E hr h => ?_)
  refine ⟨_, (pss_cons (ps_set (i := 2) sc__law_odd.nd rfl (.inl rfl) (pe_ix ix_list (pe_lst (pa_cons pe_int (pa_cons pe_int (pa_cons (pe_op op_pow pe_int pe_int) pa_nil)))) (pe_call (ok__law_drawn T) (hr.mono (by decide)) (by rfl) T.g__law_drawn T.k__law_drawn T.b__law_drawn .nil pass0 (pa_cons (pv 0) (pa_cons pe_int pa_nil))) (fun _ _ => rfl)))
      (pss_one (ps_ret (pe_ix ix_list (pe_lst (pa_cons (pe_op op_sub (pe_op op_sub pe_int pe_int) (pe_call (ok__law_drawn T) (hr.mono (by decide)) (by rfl) T.g__law_drawn T.k__law_drawn T.b__law_drawn .nil pass0 (pa_cons (pv 0) (pa_cons (pv 2) pa_nil)))) (pa_cons (pe_op op_add (pe_op op_add (pv 1) pe_int) (pe_call (ok__law_drawn T) (hr.mono (by decide)) (by rfl) T.g__law_drawn T.k__law_drawn T.b__law_drawn .nil pass0 (pa_cons (pv 0) (pa_cons (pv 2) pa_nil)))) pa_nil))) (pe_call (ok__law_drawn T) (hr.mono (by decide)) (by rfl) T.g__law_drawn T.k__law_drawn T.b__law_drawn .nil pass0 (pa_cons (pv 0) (pa_cons pe_int pa_nil))) (fun _ _ => rfl))))), ?_⟩
  obtain ⟨a, st, m, rfl, hS, m0, m1, q⟩ := h
  refine ⟨_, _, rfl, rfl, ⟨by decide, by decide, by decide⟩, by show 3 ≤ sizeLine; decide, fun l hl => ?_⟩
  have gl := Go.new (K := K) (st := st) (o := .lst [.int 1, .int 200, .int (10 ^ Int.toNat 59)]) hl
  have S1 := gl.st _ hS
  refine ⟨_, rfl, a, st, 3, rfl, S1, by decide, nat8000 (by decide) (by decide +kernel), fun v H2 v0 v1 g2 => ?_⟩
  have S2 := g2.st _ S1
  obtain ⟨f, hat, f1, f2⟩ := pickI (ns := [1, 200, 10 ^ Int.toNat 59]) (lo := 1) (hi := 10 ^ 59) (by decide +kernel) v0 v1
  refine ⟨l, _, _, _, rfl, rfl, SqL.of (g2.keep _ _ (hS.fresh hl) upd_same), hat, ?_⟩
  refine ⟨_, _, rfl, rfl, _, rfl, _, rfl, a, st, f, rfl, S2, by omega, nat8000 (by omega) (by omega), fun z1 H3 y0 y1 g3 => ?_⟩
  have S3 := g3.st _ S2
  refine ⟨_, _, rfl, rfl, _, rfl, _, _, rfl, rfl, _, rfl, _, rfl, a, st, f, rfl, S3, by omega, nat8000 (by omega) (by omega), fun z2 H4 x0 x1 g4 => ?_⟩
  have S4 := g4.st _ S3
  refine ⟨_, _, rfl, rfl, by show 2 ≤ sizeLine; decide, fun l2 hl2 => ?_⟩
  have gl2 := Go.new (K := K) (st := st) (o := .lst [.int (0 - 1 - z1), .int (m + 1 + z2)]) hl2
  refine ⟨_, rfl, a, st, 2, rfl, gl2.st _ S4, by decide, nat8000 (by decide) (by decide +kernel), fun u H5 u0 u1 g5 => ?_⟩
  have gA := gl.trans (g2.trans (g3.trans (g4.trans (gl2.trans g5))))
  have hl5 := g5.keep _ _ (S4.fresh hl2) (upd_same (H := H4) (a := l2) (o := .lst [.int (0 - 1 - z1), .int (m + 1 + z2)]))
  obtain rfl | rfl : u = 0 ∨ u = 1 := by omega
  · exact ⟨l2, _, _, _, rfl, rfl, SqL.of hl5, atI_nat (j := 0) rfl, q _ _ gA (.inl (by omega))⟩
  · exact ⟨l2, _, _, _, rfl, rfl, SqL.of hl5, atI_nat (j := 1) rfl, q _ _ gA (.inr (by omega))⟩
/-! ### _law_due: slots 0 _law_h, 1 _law_hand, 2 _law_mark, 3 _law_puts, 4 _law_marks, 5 _law_one -/

theorem ok__law_due (T : Txt K mg base A) : FnOk P w K mg base CX0 3 A.f__law_due A.d__law_due ["_law_h", "_law_hand", "_law_mark", "_law_puts"] (sp__law_due ) := by
  refine T.F__law_due.ok sc__law_due (fun vs H Q E h => by first | (obtain ⟨_, rfl, _⟩ := h; rfl) | (obtain ⟨_, _, rfl, _⟩ := h; rfl) | (obtain ⟨_, _, _, rfl, _⟩ := h; rfl) | (obtain ⟨_, _, _, _, rfl, _⟩ := h; rfl) | (obtain ⟨_, _, _, _, _, rfl, _⟩ := h; rfl) | (obtain ⟨_, _, _, _, _, _, rfl, _⟩ := h; rfl) | (obtain ⟨_, _, _, _, _, _, _, rfl, _⟩ := h; rfl) | (obtain ⟨_, _, _, _, _, _, _, _, rfl, _⟩ := h; rfl) | (obtain ⟨_, _, _, _, _, _, _, _, _, rfl, _⟩ := h; rfl) | (obtain ⟨_, _, _, _, _, _, _, _, _, _, rfl, _⟩ := h; rfl) | (obtain ⟨_, _, _, _, _, _, _, _, _, _, _, rfl, _⟩ := h; rfl) | (obtain ⟨_, _, _, _, _, _, _, _, _, _, _, _, rfl, _⟩ := h; rfl) | (obtain ⟨_, _, _, _, _, _, _, _, _, _, _, _, _, rfl, _⟩ := h; rfl) | (obtain ⟨_, _, _, _, _, _, _, _, _, _, _, _, _, _, rfl, _⟩ := h; rfl)) (fun cdv AA outer s H vs Q E hr h => ?_)
  refine ⟨_, (pss_cons (ps_if (pt_not (pt_chain op_le op_lt pe_int (pv 1) (pe_callB call_len_seq (by rfl) T.z_len PySem.boot_len (pa_cons (pe_dget (hu_of hr) (pv 0) pe_str (fun _ _ => rfl)) pa_nil)))) (pss_one (ps_ret (pe_tup (pa_cons pe_non (pa_cons pe_str pa_nil))))) pss_nil)
      (pss_cons (ps_if (pt_not (pt_chain op_le op_le pe_int (pv 2) pe_int)) (pss_one (ps_ret (pe_tup (pa_cons pe_non (pa_cons pe_str pa_nil))))) pss_nil)
      (pss_cons (ps_set (i := 4) sc__law_due.nd rfl (.inl rfl) (pe_ix ix_list (pe_dget (hu_of hr) (pv 0) pe_str (fun _ _ => rfl)) (pv 1) (fun _ _ => rfl)))
      (pss_cons (ps_if (PW.pt (pw_and (pt_val (pv 3)) (pw_and1 (pt_cmpR op_in_seq (pv 2) (pv 4) (by rfl))))) (pss_one (ps_ret (pe_tup (pa_cons pe_non (pa_cons pe_str pa_nil))))) pss_nil)
      (pss_cons (ps_if (PW.pt (pw_and (pt_not (pt_val (pv 3))) (pw_and1 (pt_cmpR op_notIn_seq (pv 2) (pv 4) (by rfl))))) (pss_one (ps_ret (pe_tup (pa_cons pe_non (pa_cons pe_str pa_nil))))) pss_nil)
      (pss_cons (ps_expr (pe_call (ok__law_gains T) (hr.mono (by decide)) (by rfl) T.g__law_gains T.k__law_gains T.b__law_gains .nil pass0 (pa_cons (pv 0) (pa_cons (pv 1) (pa_cons (pe_ifExp (pt_val (pv 3)) (pe_callTy call_tuple_of (by rfl) T.z_tuple (by decide +kernel) (pa_cons (pe_callB (call_sortedQ rfl) (by rfl) T.z_sorted (by decide +kernel) (pa_cons (pe_op op_catA (pv 4) (pe_tup (pa_cons (pv 2) pa_nil))) pa_nil)) pa_nil)) (pe_callTy call_tuple_of (by rfl) T.z_tuple (by decide +kernel) (pa_cons (pe_lc (own := [("_law_one", 5)]) (g := gName 5)  rfl sc__law_due.nd (pi_tup (pv 4)) (blkOk_by (own := [("_law_one", 5)]) (N := ["_law_h", "_law_hand", "_law_mark", "_law_puts", "_law_marks", "_law_one"]) (sc := defScope s__law_due) (by decide +kernel)) (fun _ _ _ _ _ => pg_name (i := 5) sc__law_due.nd rfl (Or.inl rfl)) (fun _ _ _ _ _ => (pts_one (pt_cmpR op_ne (pv 5) (pv 2) (nomark _)))) (fun _ _ _ _ _ => (pv 5))) pa_nil))) pa_nil)))))
      (pss_one (ps_ret (pe_tup (pa_cons (pe_callB call_len_seq (by rfl) T.z_len PySem.boot_len (pa_cons (pe_ix ix_list (pe_dget (hu_of hr) (pv 0) pe_str (fun _ _ => rfl)) (pv 1) (fun _ _ => rfl)) pa_nil)) (pa_cons pe_str pa_nil))))))))))), ?_⟩
  obtain ⟨x, c, n, S, D, T', i, m, put, rfl, MA, qe, q⟩ := h
  have ret : ∀ w : Str, dueW n S i m put = w → w ≠ "" → ∀ p H', Same H H' → H' p = some (.tup [.non, .str w]) → Q (.ref p) H' := fun w e hw p H' s h => by
    subst e
    exact qe hw p H' s h
  have two : ([V.non, V.str "x"] : List V).length ≤ sizeLine := by
    show 2 ≤ sizeLine
    decide
  refine ⟨_, rfl, _, _, rfl, rfl, ?_⟩
  by_cases i0 : 0 ≤ i
  case neg => exact ⟨false, congrArg V.bl (decide_eq_false i0), iteF ⟨_, rfl, iteT ⟨two, fun p hp => ret "NoHand" (if_pos fun z => i0 z.1) (by decide +kernel) p _ (same_upd hp) upd_same⟩⟩⟩
  obtain ⟨k, rfl⟩ := Int.eq_ofNat_of_zero_le i0
  have ek : ((k : Int)).toNat = k := Int.toNat_natCast k
  obtain ⟨as, hl, hn, has⟩ := MA.core.sets.ex
  refine ⟨true, congrArg V.bl (decide_eq_true i0), iteT ?_⟩
  refine ⟨_, rfl, _, _, rfl, MA.g_sets, _, _, rfl, .inl (SqL.of hl), _, _, rfl, rfl, _, rfl, ?_⟩
  rw [List.length_map, hn]
  by_cases i1 : (k : Int) < n
  case neg =>
    rw [decide_eq_false i1]
    exact iteT ⟨two, fun p hp => ret "NoHand" (if_pos fun z => i1 z.2) (by decide +kernel) p _ (same_upd hp) upd_same⟩
  rw [decide_eq_true i1]
  refine iteF ?_
  have d1 : ∀ w : Str, (if ¬ (1 ≤ m ∧ m ≤ 96) then ("NoMark" : Str) else if decide (m ∈ S ((k : Int)).toNat) = put then (bif put then ("Held" : Str) else ("NotHeld" : Str)) else ("" : Str)) = w → dueW n S (k : Int) m put = w := fun w e => (if_neg fun z => z ⟨i0, i1⟩).trans e
  refine ⟨_, rfl, _, _, rfl, rfl, ?_⟩
  by_cases m0 : 1 ≤ m
  case neg => exact ⟨false, congrArg V.bl (decide_eq_false m0), iteF ⟨_, rfl, iteT ⟨two, fun p hp => ret "NoMark" (d1 _ (if_pos fun z => m0 z.1)) (by decide +kernel) p _ (same_upd hp) upd_same⟩⟩⟩
  refine ⟨true, congrArg V.bl (decide_eq_true m0), iteT ?_⟩
  refine ⟨_, _, rfl, rfl, _, rfl, ?_⟩
  by_cases m1 : m ≤ 96
  case neg =>
    rw [decide_eq_false m1]
    exact iteT ⟨two, fun p hp => ret "NoMark" (d1 _ (if_pos fun z => m1 z.2)) (by decide +kernel) p _ (same_upd hp) upd_same⟩
  rw [decide_eq_true m1]
  refine iteF ?_
  have d2 : ∀ w : Str, (if decide (m ∈ S k) = put then (bif put then ("Held" : Str) else ("NotHeld" : Str)) else ("" : Str)) = w → dueW n S (k : Int) m put = w := fun w e => d1 w ((if_neg fun z => z ⟨m0, m1⟩).trans (by rw [ek]; exact e))
  have hk : k < n := by omega
  obtain ⟨xs, p, hl1, _, hat, hp⟩ := MA.core.sets.get i0 i1
  rw [ek] at hp
  have hs := MA.core.ok k
  have hlen := hs.len
  refine ⟨_, rfl, _, _, rfl, MA.g_sets, _, rfl, c.l, _, _, _, rfl, rfl, SqL.of hl1, hat, ?_⟩
  cases put with
  | true =>
    refine ⟨_, rfl, _, rfl, iteT ⟨_, rfl, _, rfl, in_turn (SqT.of hp) ⟨_, rfl, ?_⟩⟩⟩
    by_cases cm : m ∈ S k
    · rw [decide_eq_true cm]
      exact iteT ⟨two, fun p hp => ret "Held" (d2 _ (if_pos (decide_eq_true cm))) (by decide +kernel) p _ (same_upd hp) upd_same⟩
    rw [decide_eq_false cm]
    refine iteF ⟨_, rfl, _, rfl, iteF (iteF ?_)⟩
    refine ⟨_, rfl, _, rfl, _, rfl, _, rfl, iteT ?_⟩
    refine ⟨_, rfl, _, rfl, by show 1 ≤ sizeLine; decide, fun u hu => ?_⟩
    refine catA_ints (zs := S k) (ns := [m]) (SqT.of ((same_upd hu) _ _ hp)) (SqT.of upd_same) (by show (S k).length + 1 ≤ 1000; omega) fun w H2 s2 hw => ?_
    refine ⟨w, S k ++ [m], rfl, .inr hw, fun ns v hperm hle hv => ?_⟩
    refine ⟨v, _, rfl, .inl ⟨SqL.of upd_same, fun t ht => ?_⟩⟩
    have hnd : (S k ++ [m]).Nodup := by
      refine List.nodup_append.mpr ⟨hs.up.imp fun h => Int.ne_of_lt h, (List.nodup_cons.mpr ⟨(fun h => nomatch h), List.nodup_nil⟩), fun x hx y hy e => ?_⟩
      rw [List.mem_singleton.mp hy] at e
      exact cm (e ▸ hx)
    have ens : ns = mendL (S k) [m] [] := eq_of_up _ _ (MyS.lt_nd ns hle (hperm.nodup_iff.mpr hnd)) (mendL_set _ _ _).up fun z => by
      rw [mem_mendL hs (isSetB_iff.mp (by rw [one_set, decide_eq_true ⟨m0, m1⟩])), hperm.mem_iff, List.mem_append, List.mem_singleton]
      exact ⟨fun h => h.elim (fun h => .inr ⟨h, fun z => nomatch z⟩) .inl, fun h => h.elim .inr fun h => .inl h.1⟩
    have sA := (((same_upd hu).trans s2).trans (same_upd hv)).trans (same_upd (o := .tup (ns.map V.int)) ht)
    refine ⟨x, c, n, S, D, T', k, t, ns, rfl, MA.same sA, hk, upd_same, ens ▸ mendL_set _ _ _, fun H5 m5 MA5 => ?_⟩
    obtain ⟨xs5, p5, hl5, _, hat5, hp5⟩ := MA5.core.sets.get i0 i1
    rw [ek] at hp5
    have es : setS S k ns k = ns := if_pos rfl
    rw [es] at hp5
    refine ⟨_, rfl, _, _, rfl, MA5.g_sets, _, rfl, c.l, _, _, _, rfl, rfl, SqL.of hl5, hat5, p5, _, rfl, .inr (SqT.of hp5), by show 2 ≤ sizeLine; decide, fun r hr => ?_⟩
    have sr := same_upd (o := .tup [V.int ((ns.map V.int).length : Nat), V.str ""]) hr
    refine q k rfl hk m0 m1 (decide_eq_false cm) ns r _ (by rw [ens]; rfl) (((Mv.of sA).trans m5).trans (Mv.of sr)) (MA5.same sr) ?_
    rw [upd_same, List.length_map]
  | false =>
    refine ⟨_, rfl, _, rfl, iteF (iteF ?_)⟩
    refine ⟨_, rfl, _, rfl, iteT ⟨_, rfl, _, rfl, notin_turn (SqT.of hp) ⟨_, rfl, ?_⟩⟩⟩
    by_cases cm : m ∈ S k
    case neg =>
      rw [decide_eq_true cm]
      exact iteT ⟨two, fun p hp => ret "NotHeld" (d2 _ (if_pos (decide_eq_false cm))) (by decide +kernel) p _ (same_upd hp) upd_same⟩
    rw [decide_eq_false fun z => z cm]
    refine iteF ?_
    refine ⟨_, rfl, _, rfl, _, rfl, _, rfl, iteF ?_⟩
    refine ⟨_, rfl, p, rfl, ⟨_, SqT.of hp⟩, fun G hG => lc_pureT (K := K) (a := p) (xs := (S k).map V.int) (fun v => !decide (v = .int m)) (fun v => v) hG (SqT.of hp) (by rw [List.length_map]; omega) (fun _ => rfl) ?_ (fun x _ _ H2 s2 Q' q' => ⟨_, rfl, q' H2 (Same.refl _)⟩) fun H2 s2 hd => ?_⟩
    · intro x hx H2 s2 Q' q'
      obtain ⟨z, hz, rfl⟩ := List.mem_map.mp hx
      exact ⟨_, rfl, _, rfl, rfl, _, rfl, q' H2 (Same.refl _)⟩
    rw [int_filter (g := fun z => !decide (z = m)) (fun z _ => by
      have e : decide (V.int z = V.int m) = decide (z = m) := decide_eq_decide.mpr ⟨fun h => V.int.inj h, fun h => congrArg V.int h⟩
      show (!decide (V.int z = V.int m)) = _
      rw [e])] at hd
    refine ⟨G, _, rfl, .inl ⟨SqL.of hd, fun t ht => ?_⟩⟩
    generalize hns : (S k).filter (fun z => !decide (z = m)) = ns at hd ⊢
    have ens : ns = mendL (S k) [] [m] := by
      rw [← hns]
      refine eq_of_up _ _ (hs.up.filter _) (mendL_set _ _ _).up fun z => ?_
      rw [mem_mendL hs (isSetB_iff.mp rfl), List.mem_filter, List.mem_singleton]
      constructor
      · intro h
        exact .inr ⟨h.1, fun e => by rw [decide_eq_true e] at h; exact Bool.noConfusion h.2⟩
      · rintro (h | h)
        · cases h
        · exact ⟨h.1, by rw [decide_eq_false h.2]; rfl⟩
    have sA : Same H _ := s2.trans (same_upd (o := .tup (ns.map V.int)) ht)
    refine ⟨x, c, n, S, D, T', k, t, ns, rfl, MA.same sA, hk, upd_same, ens ▸ mendL_set _ _ _, fun H5 m5 MA5 => ?_⟩
    obtain ⟨xs5, p5, hl5, _, hat5, hp5⟩ := MA5.core.sets.get i0 i1
    rw [ek] at hp5
    have es : setS S k ns k = ns := if_pos rfl
    rw [es] at hp5
    refine ⟨_, rfl, _, _, rfl, MA5.g_sets, _, rfl, c.l, _, _, _, rfl, rfl, SqL.of hl5, hat5, p5, _, rfl, .inr (SqT.of hp5), by show 2 ≤ sizeLine; decide, fun r hr => ?_⟩
    have sr := same_upd (o := .tup [V.int ((ns.map V.int).length : Nat), V.str ""]) hr
    refine q k rfl hk m0 m1 (decide_eq_true cm) ns r _ (by rw [ens]; rfl) (((Mv.of sA).trans m5).trans (Mv.of sr)) (MA5.same sr) ?_
    rw [upd_same, List.length_map]
/-! ### _law_deed: slots 0 _law_state, 1 _law_house_here, 2 _law_h, 3 _law_marks, 4 _law_way, 5 _law_puts, 6 _law_due_here, 7 _law_hand, 8 _law_mark -/
theorem eqNS {K : PySem.W.Frag} {H : Hp} {a b : Addr} {Q : VK} (ha : SqT K H a [V.non, V.str "NoHand"]) (hb : SqT K H b [V.non, V.str "NoHand"]) (q : Q (.bl true) H) : rEqD K (.ref a) (.ref b) H Q := by
  have sh : SeqAt.shaped (.tuple [PyData.none, PyData.str "NoHand"]) = true := by decide +kernel
  have e : PyData.eqv (.tuple [PyData.none, PyData.str "NoHand"]) (.tuple [PyData.none, PyData.str "NoHand"]) = true := by decide +kernel
  exact ⟨_, _, .tup ha (.cons .non (.cons (.str _) .nil)), .tup hb (.cons .non (.cons (.str _) .nil)), sh, sh, by rw [e]; exact q⟩
def tabs2 (P0 P1 : Addr) : List (Addr × Str) := [(P0, "_law_deed.<locals>.<lambda>"), (P1, "law.<locals>.<lambda>")]
def sp__law_deed (K : PySem.W.Frag) (C P0 P1 : Addr) : Sp := fun vs H Q _ => ∃ (a st x y : Addr) (c d : Cr) (n : Nat) (S : Nat → List Int) (D T : Nat → Nat → Int), vs = [.ref st, .ref x, .ref y] ∧ WI K C a st x y c d n S D T (tabs2 P0 P1) H ∧
  ∀ S' D' H', MvT (st :: (c.ls ++ d.ls)) H H' → WI K C a st x y c d n S' D' T (tabs2 P0 P1) H' → Q (.bl true) H'
theorem ok__law_deed (T : Txt K mg base A) : FnOk P w K mg base CX0 12 A.f__law_deed A.d__law_deed ["_law_state", "_law_house_here", "_law_h"] (sp__law_deed K A.e_House A.cp__law_deed A.cp_law) := by
  obtain ⟨oc__law_kind, od__law_kind, kV__law_kind, doc__law_kind, pm__law_kind, an__law_kind, cdv__law_kind, ct__law_kind, osl__law_kind, efd__law_kind, lk__law_kind, hcd__law_kind⟩ := T.F__law_kind.ex
  have bd__law_kind := T.b__law_kind
  rw [efd__law_kind] at bd__law_kind lk__law_kind
  refine Lm.okC T.F__law_deed T.cd__law_deed sc__law_deed (fun vs H Q E h => by first | (obtain ⟨_, rfl, _⟩ := h; rfl) | (obtain ⟨_, _, rfl, _⟩ := h; rfl) | (obtain ⟨_, _, _, rfl, _⟩ := h; rfl) | (obtain ⟨_, _, _, _, rfl, _⟩ := h; rfl) | (obtain ⟨_, _, _, _, _, rfl, _⟩ := h; rfl) | (obtain ⟨_, _, _, _, _, _, rfl, _⟩ := h; rfl) | (obtain ⟨_, _, _, _, _, _, _, rfl, _⟩ := h; rfl) | (obtain ⟨_, _, _, _, _, _, _, _, rfl, _⟩ := h; rfl) | (obtain ⟨_, _, _, _, _, _, _, _, _, rfl, _⟩ := h; rfl) | (obtain ⟨_, _, _, _, _, _, _, _, _, _, rfl, _⟩ := h; rfl) | (obtain ⟨_, _, _, _, _, _, _, _, _, _, _, rfl, _⟩ := h; rfl) | (obtain ⟨_, _, _, _, _, _, _, _, _, _, _, _, rfl, _⟩ := h; rfl) | (obtain ⟨_, _, _, _, _, _, _, _, _, _, _, _, _, rfl, _⟩ := h; rfl) | (obtain ⟨_, _, _, _, _, _, _, _, _, _, _, _, _, _, rfl, _⟩ := h; rfl)) (fun AA outer s H vs Q E hr h => ?_)
  refine ⟨_, (pss_cons (ps_set (i := 7) sc__law_deed.nd rfl (.inr rfl) (pe_call (ok__law_drawn T) (hr.mono (by decide)) (by rfl) T.g__law_drawn T.k__law_drawn T.b__law_drawn .nil pass0 (pa_cons (pv 0) (pa_cons (pe_callB call_len_seq (by rfl) T.z_len PySem.boot_len (pa_cons (pe_dget (hu_of hr) (pv 2) pe_str (fun _ _ => rfl)) pa_nil)) pa_nil))))
      (pss_cons (ps_set (i := 3) sc__law_deed.nd rfl (.inl rfl) (pe_ix ix_list (pe_dget (hu_of hr) (pv 2) pe_str (fun _ _ => rfl)) (pv 7) (fun _ _ => rfl)))
      (pss_cons (ps_set (i := 8) sc__law_deed.nd rfl (.inr rfl) (pe_op op_add pe_int (pe_call (ok__law_drawn T) (hr.mono (by decide)) (by rfl) T.g__law_drawn T.k__law_drawn T.b__law_drawn .nil pass0 (pa_cons (pv 0) (pa_cons pe_int pa_nil)))))
      (Evl.pss_cut (ps_if (PW.pt (pw_and (pt_cmpR (op_neD hr.units) (pv 3) (pe_tup pa_nil) (nomark _)) (pw_and1 (pt_cmpR op_eq (pe_call (ok__law_drawn T) (hr.mono (by decide)) (by rfl) T.g__law_drawn T.k__law_drawn T.b__law_drawn .nil pass0 (pa_cons (pv 0) (pa_cons pe_int pa_nil))) pe_int (nomark _))))) (pss_one (ps_set (i := 8) sc__law_deed.nd rfl (.inr rfl) (pe_ix ix_tup (pv 3) (pe_call (ok__law_drawn T) (hr.mono (by decide)) (by rfl) T.g__law_drawn T.k__law_drawn T.b__law_drawn .nil pass0 (pa_cons (pv 0) (pa_cons (pe_callB call_len_seq (by rfl) T.z_len PySem.boot_len (pa_cons (pv 3) pa_nil)) pa_nil))) (fun _ _ => rfl)))) pss_nil)
      (pss_cons (ps_set (i := 4) sc__law_deed.nd rfl (.inl rfl) (pe_call (ok__law_drawn T) (hr.mono (by decide)) (by rfl) T.g__law_drawn T.k__law_drawn T.b__law_drawn .nil pass0 (pa_cons (pv 0) (pa_cons pe_int pa_nil))))
      (Evl.pss_cut (ps_if (pt_cmpR op_in_seq (pv 4) (pe_tup (pa_cons pe_int (pa_cons pe_int pa_nil))) (by rfl)) (pss_one (ps_set (i := 7) sc__law_deed.nd rfl (.inr rfl) (pe_call (ok__law_odd T) (hr.mono (by decide)) (by rfl) T.g__law_odd T.k__law_odd T.b__law_odd .nil pass0 (pa_cons (pv 0) (pa_cons (pe_op op_sub (pe_callB call_len_seq (by rfl) T.z_len PySem.boot_len (pa_cons (pe_dget (hu_of hr) (pv 2) pe_str (fun _ _ => rfl)) pa_nil)) pe_int) pa_nil))))) pss_nil)
      (Evl.pss_cut (ps_if (pt_cmpR op_in_seq (pv 4) (pe_tup (pa_cons pe_int (pa_cons pe_int pa_nil))) (by rfl)) (pss_one (ps_set (i := 8) sc__law_deed.nd rfl (.inr rfl) (pe_ix ix_list (pe_lst (pa_cons pe_int (pa_cons (pe_call (ok__law_odd T) (hr.mono (by decide)) (by rfl) T.g__law_odd T.k__law_odd T.b__law_odd .nil pass0 (pa_cons (pv 0) (pa_cons pe_int pa_nil))) pa_nil))) (pe_call (ok__law_drawn T) (hr.mono (by decide)) (by rfl) T.g__law_drawn T.k__law_drawn T.b__law_drawn .nil pass0 (pa_cons (pv 0) (pa_cons pe_int pa_nil))) (fun _ _ => rfl)))) pss_nil)
      (pss_cons (ps_set (i := 5) sc__law_deed.nd rfl (.inl rfl) (pe_cmpR op_eq (pe_call (ok__law_drawn T) (hr.mono (by decide)) (by rfl) T.g__law_drawn T.k__law_drawn T.b__law_drawn .nil pass0 (pa_cons (pv 0) (pa_cons pe_int pa_nil))) pe_int (nomark _)))
      (pss_cons (ps_set (i := 6) sc__law_deed.nd rfl (.inl rfl) (pe_call (ok__law_due T) (hr.mono (by decide)) (by rfl) T.g__law_due T.k__law_due T.b__law_due .nil pass0 (pa_cons (pv 2) (pa_cons (pv 7) (pa_cons (pv 8) (pa_cons (pv 5) pa_nil))))))
      (pss_cons (ps_if (pt_val (pv 5)) (pss_one (ps_ret (pe_call (ok__law_same T 2) (hr.mono (by decide)) (by rfl) T.g__law_same T.k__law_same T.b__law_same .nil pass0 (pa_cons (LamX.pe_lamcall (k := 5) (T := [(A.cp__law_deed, "_law_deed.<locals>.<lambda>"), (A.cp_law, "law.<locals>.<lambda>")]) (TT := TT__law_kind K A) (a := "_law_work") (by rfl) T.g__law_kind T.k__law_kind lk__law_kind hcd__law_kind bd__law_kind sc__law_kind rfl (by first | exact Or.inl rfl | exact Or.inr (Or.inl rfl) | exact Or.inr (Or.inr rfl)) (fun f3 c3 s3 H3 Q3 tl act hc3 h3 => gv__law_kind T _ _ _ f3 c3 s3 H3 Q3 tl act hc3 h3) T.tb__law_deed rfl List.mem_cons_self (by intro p hp e; simp only [List.mem_cons, List.not_mem_nil, or_false] at hp; rcases hp with rfl | rfl <;> first | rfl | exact absurd e T.nt__law_deed_law | exact absurd e.symm T.nt__law_deed_law) (hr.mono (by decide)) (LamX.lamS_by (sc := defScope s__law_deed) (by decide +kernel)) rfl (fun _ _ _ _ _ => rfl) (fun A2 o2 s2 H2 E2 f2 c2 hr2 => (pe_meth (pv 1) T.cl_House T.m_House_put (ok_House_put T) (hr2.mono (by decide)) T.b_House_put .nil (passes_call (takes_of rfl rfl rfl rfl) (fun _ _ _ _ z => z)) (pa_cons (pv 7) (pa_cons (pv 8) pa_nil))))) (pa_cons (pv 6) pa_nil))))) pss_nil)
      (pss_one (ps_ret (pe_call (ok__law_same T 2) (hr.mono (by decide)) (by rfl) T.g__law_same T.k__law_same T.b__law_same .nil pass0 (pa_cons (LamX.pe_lamcall (k := 5) (T := [(A.cp__law_deed, "_law_deed.<locals>.<lambda>"), (A.cp_law, "law.<locals>.<lambda>")]) (TT := TT__law_kind K A) (a := "_law_work") (by rfl) T.g__law_kind T.k__law_kind lk__law_kind hcd__law_kind bd__law_kind sc__law_kind rfl (by first | exact Or.inl rfl | exact Or.inr (Or.inl rfl) | exact Or.inr (Or.inr rfl)) (fun f3 c3 s3 H3 Q3 tl act hc3 h3 => gv__law_kind T _ _ _ f3 c3 s3 H3 Q3 tl act hc3 h3) T.tb__law_deed rfl List.mem_cons_self (by intro p hp e; simp only [List.mem_cons, List.not_mem_nil, or_false] at hp; rcases hp with rfl | rfl <;> first | rfl | exact absurd e T.nt__law_deed_law | exact absurd e.symm T.nt__law_deed_law) (hr.mono (by decide)) (LamX.lamS_by (sc := defScope s__law_deed) (by decide +kernel)) rfl (fun _ _ _ _ _ => rfl) (fun A2 o2 s2 H2 E2 f2 c2 hr2 => (pe_meth (pv 1) T.cl_House T.m_House_take (ok_House_take T) (hr2.mono (by decide)) T.b_House_take .nil (passes_call (takes_of rfl rfl rfl rfl) (fun _ _ _ _ z => z)) (pa_cons (pv 7) (pa_cons (pv 8) pa_nil))))) (pa_cons (pv 6) pa_nil))))))))))))))), ?_⟩
  obtain ⟨a, st, x, y, c, d, n, S, D, T', rfl, W, q⟩ := h
  have n0 := W.mi.core.n0
  have n4 := W.mi.core.n4
  obtain ⟨as, hl, hn, has⟩ := W.mi.core.sets.ex
  refine ⟨_, rfl, _, rfl, _, _, rfl, W.mi.g_sets, _, _, rfl, .inl (SqL.of hl), a, st, (n : Int), by rw [List.length_map, hn]; rfl, W.sa, by omega, nat8000 (by omega) (by omega), fun i H1 i0 i1 g1 => ?_⟩
  have W1 := W.go g1
  obtain ⟨xs1, p, hl1, _, hat1, hp1⟩ := W1.mi.core.sets.get i0 i1
  obtain ⟨k, rfl⟩ := Int.eq_ofNat_of_zero_le i0
  rw [Int.toNat_natCast] at hp1
  have hs := W1.mi.core.ok k
  have hlen := hs.len
  refine ⟨_, rfl, _, _, rfl, W1.mi.g_sets, _, rfl, d.l, _, _, _, rfl, rfl, SqL.of hl1, hat1, ?_⟩
  refine ⟨_, rfl, a, st, 96, rfl, W1.sa, by decide, nat8000 (by decide) (by decide +kernel), fun v H2 v0 v1 g2 => ⟨_, _, rfl, rfl, ?_⟩⟩
  have W2 := W1.go g2
  have hp2 := g2.tup W1.sa hp1
  refine ⟨fun σ H' => ∃ m : Int, σ = [some (.ref st), some (.ref x), some (.ref y), some (.ref p), none, none, none, some (.int (k : Int)), some (.int m)] ∧ Go K st H2 H', ?_, ?_⟩
  · refine ⟨_, rfl, by show 0 ≤ sizeLine; decide, fun u hu => neT (ns := S k) (ms := []) (SqT.of ((same_upd hu) _ _ hp2)) (SqT.of upd_same) ⟨_, rfl, ?_⟩⟩
    have g3 := Go.new (K := K) (st := st) (o := .tup []) hu
    have W3 := W2.go g3
    by_cases e : S k = []
    · rw [decide_eq_true e]
      exact iteF (iteF ⟨_, rfl, g3⟩)
    rw [decide_eq_false e]
    refine iteT ⟨_, rfl, a, st, 2, rfl, W3.sa, by decide, nat8000 (by decide) (by decide +kernel), fun w H4 w0 w1 g4 => ?_⟩
    have W4 := W3.go g4
    have g34 := g3.trans g4
    have hp4 := g34.tup W2.sa hp2
    refine ⟨rfl, _, rfl, ite2 (fun _ => ?_) fun _ => ⟨_, rfl, g34⟩⟩
    have hpos : 0 < (S k).length := List.length_pos_iff.mpr e
    refine ⟨_, rfl, _, rfl, _, rfl, p, _, rfl, .inr (SqT.of hp4), a, st, ((S k).length : Int), by rw [List.length_map]; rfl, W4.sa, by omega, nat8000 (by omega) (by omega), fun j H5 j0 j1 g5 => ?_⟩
    have hp5 := g5.tup W4.sa hp4
    have hj : j.toNat < (S k).length := by omega
    exact ⟨p, _, j, _, rfl, rfl, SqT.of hp5, atI_int j0 (by rw [List.getElem?_map, List.getElem?_eq_getElem hj]; rfl), _, rfl, g34.trans g5⟩
  rintro σ H3 ⟨m, rfl, g3⟩
  have W3 := W2.go g3
  refine ⟨_, rfl, a, st, 12, rfl, W3.sa, by decide, nat8000 (by decide) (by decide +kernel), fun way H4 _ _ g4 => ?_⟩
  have W4 := W3.go g4
  refine ⟨fun σ H' => ∃ i : Int, σ = [some (.ref st), some (.ref x), some (.ref y), some (.ref p), some (.int way), none, none, some (.int i), some (.int m)] ∧ Go K st H4 H', ?_, ?_⟩
  · refine ⟨_, rfl, by show 2 ≤ sizeLine; decide, fun u hu => in_turn (ys := [0, 1]) (SqT.of upd_same) ⟨_, rfl, ite2 (fun _ => ?_) fun _ => ⟨_, rfl, Go.new hu⟩⟩⟩
    have W5 := W4.go (Go.new (o := .tup [V.int 0, V.int 1]) hu)
    obtain ⟨as5, hl5, hn5, _⟩ := W5.mi.core.sets.ex
    exact ⟨_, rfl, _, rfl, _, _, rfl, W5.mi.g_sets, _, _, rfl, .inl (SqL.of hl5), _, _, rfl, rfl, a, st, (n : Int) - 1, by rw [List.length_map, hn5]; rfl, W5.sa, by omega, by omega, fun z H6 g6 _ => ⟨_, rfl, (Go.new hu).trans g6⟩⟩
  rintro σ H5 ⟨i, rfl, g5⟩
  have W5 := W4.go g5
  refine ⟨fun σ H' => ∃ m : Int, σ = [some (.ref st), some (.ref x), some (.ref y), some (.ref p), some (.int way), none, none, some (.int i), some (.int m)] ∧ Go K st H5 H', ?_, ?_⟩
  · refine ⟨_, rfl, by show 2 ≤ sizeLine; decide, fun u hu => in_turn (ys := [1, 2]) (SqT.of upd_same) ⟨_, rfl, ite2 (fun _ => ?_) fun _ => ⟨_, rfl, Go.new hu⟩⟩⟩
    have W6 := W5.go (Go.new (o := .tup [V.int 1, V.int 2]) hu)
    refine ⟨_, rfl, a, st, 96, rfl, W6.sa, by decide, by decide, fun z H6 g6 _ => ⟨by show 2 ≤ sizeLine; decide, fun l hl => ?_⟩⟩
    have W7 := W6.go g6
    have g7 := Go.new (K := K) (st := st) (o := .lst [V.int 0, V.int z]) hl
    refine ⟨_, rfl, a, st, 2, rfl, (W7.go g7).sa, by decide, nat8000 (by decide) (by decide +kernel), fun w H8 w0 w1 g8 => ?_⟩
    have hl8 := g8.keep _ _ (W7.sa.fresh hl) (upd_same (H := H6) (a := l) (o := .lst [V.int 0, V.int z]))
    have gg := (Go.new (K := K) (st := st) hu).trans (g6.trans (g7.trans g8))
    obtain rfl | rfl : w = 0 ∨ w = 1 := by omega
    · exact ⟨l, _, _, _, rfl, rfl, SqL.of hl8, atI_nat (j := 0) rfl, _, rfl, gg⟩
    · exact ⟨l, _, _, _, rfl, rfl, SqL.of hl8, atI_nat (j := 1) rfl, _, rfl, gg⟩
  rintro σ H6 ⟨m2, rfl, g6⟩
  have W6 := W5.go g6
  refine ⟨_, rfl, a, st, 2, rfl, W6.sa, by decide, nat8000 (by decide) (by decide +kernel), fun w H7 _ _ g7 => ⟨rfl, ?_⟩⟩
  have W7 := W6.go g7
  have gA := g1.trans (g2.trans (g3.trans (g4.trans (g5.trans (g6.trans g7)))))
  have mA : MvT (st :: (c.ls ++ d.ls)) H H7 := (Mv.go gA W.sa).w.mono fun p hp => by rw [List.mem_singleton.mp hp]; exact List.mem_cons_self
  have mc : ∀ p ∈ c.ls, p ∈ st :: (c.ls ++ d.ls) := fun p hp => List.mem_cons_of_mem _ (List.mem_append_left _ hp)
  have md : ∀ p ∈ d.ls, p ∈ st :: (c.ls ++ d.ls) := fun p hp => List.mem_cons_of_mem _ (List.mem_append_right _ hp)
  obtain ⟨dx, hx7⟩ := W7.ho.obj
  generalize hput : decide (V.int w = V.int 0) = put
  refine ⟨_, rfl, _, rfl, _, rfl, _, rfl, y, d, n, S, D, T', i, m2, put, rfl, W7.mi, fun hne r H8 s8 hr8 => ?_, fun k hik hk m0 m1 hdec ns r H8 ens m8 MA8 hr8 => ?_⟩
  · have W8 := W7.same s8
    have m8 := mA.trans (MvT.of s8)
    have fin : ∀ (w : Str) (p : Addr) (H9 H10 : Hp), dueW n S i m2 put = w → LamX.ExtN H8 H9 → LamX.Tabs (tabs2 A.cp__law_deed A.cp_law) H9 → Same H9 H10 → H10 p = some (.tup [.non, .str w]) → ∃ x_1 y_1, [V.ref p, V.ref r] = [x_1, y_1] ∧ EqV H10 2 x_1 y_1 ∧ ∀ H', Same H10 H' → Q (.bl true) H' := fun w p H9 H10 ew x9 t9 s10 hp => by
      have W9 := W8.extN x9 t9
      have hr10 := s10 _ _ (x9 _ _ hr8 fun _ z => nomatch z)
      rw [ew] at hr10
      exact ⟨_, _, rfl, EqV.pair hp hr10 (.non _) (.str _ _), fun H' s => q S D H' (((m8.trans (MvT.extN x9)).trans (MvT.of s10)).trans (MvT.of s)) ((W9.same s10).same s)⟩
    cases put with
    | true =>
      refine ⟨_, rfl, _, rfl, iteT ?_⟩
      refine ⟨W8.tb, fun H9 x9 t9 => ?_⟩
      have HA9 := (W8.extN x9 t9).ho
      refine ⟨_, rfl, x, _, _, rfl, x9 _ _ (s8 _ _ hx7) (fun _ z => nomatch z), houseF_m (by decide +kernel), _, rfl, _, rfl, x, c, n, S, D, T', i, m2, rfl, HA9, fun z H10 s10 => ⟨rfl, "NoHand", .inl ⟨rfl, rfl⟩, fun p H11 s11 hp => ⟨_, rfl, fin _ p H9 H11 (if_pos z) x9 t9 (s10.trans s11) hp⟩⟩, fun a0 a1 z H10 s10 => ⟨rfl, "NoMark", .inr (.inl ⟨rfl, rfl⟩), fun p H11 s11 hp => ⟨_, rfl, fin _ p H9 H11 ((if_neg fun y => y ⟨a0, a1⟩).trans (if_pos z)) x9 t9 (s10.trans s11) hp⟩⟩,
        fun a0 a1 b0 b1 z H10 s10 => ⟨rfl, "Held", .inr (.inr (.inl ⟨rfl, rfl⟩)), fun p H11 s11 hp => ⟨_, rfl, fin _ p H9 H11 ((if_neg fun y => y ⟨a0, a1⟩).trans ((if_neg fun y => y ⟨b0, b1⟩).trans (if_pos z))) x9 t9 (s10.trans s11) hp⟩⟩, fun k hik hk b0 b1 z => absurd ((if_neg fun y => y ⟨by omega, by omega⟩).trans ((if_neg fun y => y ⟨b0, b1⟩).trans (if_neg fun y => by rw [hik, Int.toNat_natCast, z] at y; cases y))) hne⟩
    | false =>
      refine ⟨_, rfl, _, rfl, iteF ?_⟩
      refine ⟨W8.tb, fun H9 x9 t9 => ?_⟩
      have HA9 := (W8.extN x9 t9).ho
      refine ⟨_, rfl, x, _, _, rfl, x9 _ _ (s8 _ _ hx7) (fun _ z => nomatch z), houseF_m (by decide +kernel), _, rfl, _, rfl, x, c, n, S, D, T', i, m2, rfl, HA9, fun z H10 s10 => ⟨rfl, "NoHand", .inl ⟨rfl, rfl⟩, fun p H11 s11 hp => ⟨_, rfl, fin _ p H9 H11 (if_pos z) x9 t9 (s10.trans s11) hp⟩⟩, fun a0 a1 z H10 s10 => ⟨rfl, "NoMark", .inr (.inl ⟨rfl, rfl⟩), fun p H11 s11 hp => ⟨_, rfl, fin _ p H9 H11 ((if_neg fun y => y ⟨a0, a1⟩).trans (if_pos z)) x9 t9 (s10.trans s11) hp⟩⟩,
        fun a0 a1 b0 b1 z H10 s10 => ⟨rfl, "NotHeld", .inr (.inr (.inr ⟨rfl, rfl⟩)), fun p H11 s11 hp => ⟨_, rfl, fin _ p H9 H11 ((if_neg fun y => y ⟨a0, a1⟩).trans ((if_neg fun y => y ⟨b0, b1⟩).trans (if_pos z))) x9 t9 (s10.trans s11) hp⟩⟩, fun k hik hk b0 b1 z => absurd ((if_neg fun y => y ⟨by omega, by omega⟩).trans ((if_neg fun y => y ⟨b0, b1⟩).trans (if_neg fun y => by rw [hik, Int.toNat_natCast, z] at y; cases y))) hne⟩
  · have w8 := W7.mirror m8
    have mm8 := mA.trans (m8.w.mono md)
    cases put with
    | true =>
      refine ⟨_, rfl, _, rfl, iteT ?_⟩
      refine ⟨w8.2.2, fun H9 x9 t9 => ?_⟩
      have HA9 := w8.2.1.mv (MvT.extN (S := []) x9) fun _ _ z => nomatch z
      have MA9 := MA8.mv (MvT.extN (S := []) x9) fun _ _ z => nomatch z
      have S9 := w8.1.mv (MvT.extN (S := []) x9) ⟨(fun z => nomatch z), .inl fun z => nomatch z⟩
      refine ⟨_, rfl, x, _, _, rfl, x9 _ _ (m8.ins hx7) (fun _ z => nomatch z), houseF_m (by decide +kernel), _, rfl, _, rfl, x, c, n, S, D, T', i, m2, rfl, HA9, fun z => absurd ⟨by omega, by omega⟩ z, fun _ _ z => absurd ⟨m0, m1⟩ z, fun _ _ _ _ z => (by rw [hik, Int.toNat_natCast, hdec] at z; cases z), fun k2 hik2 _ _ _ _ ns2 H10 ens2 hns2 m10 HA10 => ?_⟩
      obtain rfl : k2 = k := by omega
      obtain rfl : ns2 = ns := ens2.trans ens.symm
      refine ⟨by show 2 ≤ sizeLine; decide, fun p hp => ⟨_, rfl, ?_⟩⟩
      have s11 := same_upd (o := .tup [V.int (ns2.length : Nat), V.str ""]) hp
      have hr11 := s11 _ _ (m10.tup (x9 _ _ hr8 fun _ z => nomatch z))
      refine ⟨_, _, rfl, EqV.pair upd_same hr11 (.int _ _) (.str _ _), fun H12 s12 => ?_⟩
      refine q _ _ H12 ((((mm8.trans (MvT.extN x9)).trans (m10.w.mono mc)).trans (MvT.of s11)).trans (MvT.of s12)) (WI.same (H := H10) ⟨S9.mv m10.w (W7.of.left fun _ h => List.mem_append_left _ h), HA10, MA9.mv m10.w fun p hp z => W7.cd p z hp, m10.tabs t9, W7.of, W7.cd⟩ (s11.trans s12))
    | false =>
      refine ⟨_, rfl, _, rfl, iteF ?_⟩
      refine ⟨w8.2.2, fun H9 x9 t9 => ?_⟩
      have HA9 := w8.2.1.mv (MvT.extN (S := []) x9) fun _ _ z => nomatch z
      have MA9 := MA8.mv (MvT.extN (S := []) x9) fun _ _ z => nomatch z
      have S9 := w8.1.mv (MvT.extN (S := []) x9) ⟨(fun z => nomatch z), .inl fun z => nomatch z⟩
      refine ⟨_, rfl, x, _, _, rfl, x9 _ _ (m8.ins hx7) (fun _ z => nomatch z), houseF_m (by decide +kernel), _, rfl, _, rfl, x, c, n, S, D, T', i, m2, rfl, HA9, fun z => absurd ⟨by omega, by omega⟩ z, fun _ _ z => absurd ⟨m0, m1⟩ z, fun _ _ _ _ z => (by rw [hik, Int.toNat_natCast, hdec] at z; cases z), fun k2 hik2 _ _ _ _ ns2 H10 ens2 hns2 m10 HA10 => ?_⟩
      obtain rfl : k2 = k := by omega
      obtain rfl : ns2 = ns := ens2.trans ens.symm
      refine ⟨by show 2 ≤ sizeLine; decide, fun p hp => ⟨_, rfl, ?_⟩⟩
      have s11 := same_upd (o := .tup [V.int (ns2.length : Nat), V.str ""]) hp
      have hr11 := s11 _ _ (m10.tup (x9 _ _ hr8 fun _ z => nomatch z))
      refine ⟨_, _, rfl, EqV.pair upd_same hr11 (.int _ _) (.str _ _), fun H12 s12 => ?_⟩
      refine q _ _ H12 ((((mm8.trans (MvT.extN x9)).trans (m10.w.mono mc)).trans (MvT.of s11)).trans (MvT.of s12)) (WI.same (H := H10) ⟨S9.mv m10.w (W7.of.left fun _ h => List.mem_append_left _ h), HA10, MA9.mv m10.w fun p hp z => W7.cd p z hp, m10.tabs t9, W7.of, W7.cd⟩ (s11.trans s12))
/-! ### law: slots 0 _law_script, 1 _law_state, 2 _law_sides, 3 _law_k, 4 _law_marks, 5 _law_many, 6 _law_turn, 7 _law_house_here, 8 _law_h, 9 _law_odd_here -/
structure Sd where
  p : Addr
  x : Addr
  y : Addr
  c : Cr
  d : Cr
  n : Nat
def Sd.ls (s : Sd) : List Addr := s.c.ls ++ s.d.ls
def SideI (K : PySem.W.Frag) (C a st : Addr) (TT : List (Addr × Str)) (H : Hp) (s : Sd) : Prop := H s.p = some (.tup [.ref s.x, .ref s.y]) ∧ ∃ S D T, WI K C a st s.x s.y s.c s.d s.n S D T TT H
def sp_law (K : PySem.W.Frag) (P0 P1 : Addr) : Sp := fun vs H Q _ => ∃ (a : Addr) (ns : List Int), vs = [.ref a] ∧ SqL K H a (ns.map V.int) ∧ ns.length ≤ 63 ∧ H P0 = some (.tbl #[]) ∧ H P1 = some (.tbl #[]) ∧ ∀ H', Q (.bl true) H'
theorem ok_law (T : Txt K mg base A) : FnOk P w K mg base CX0 16 A.f_law A.d_law ["_law_script"] (sp_law K A.cp__law_deed A.cp_law) := by
  obtain ⟨oc__law_kind, od__law_kind, kV__law_kind, doc__law_kind, pm__law_kind, an__law_kind, cdv__law_kind, ct__law_kind, osl__law_kind, efd__law_kind, lk__law_kind, hcd__law_kind⟩ := T.F__law_kind.ex
  have bd__law_kind := T.b__law_kind
  rw [efd__law_kind] at bd__law_kind lk__law_kind
  refine Lm.okC T.F_law T.cd_law sc_law (fun vs H Q E h => by first | (obtain ⟨_, rfl, _⟩ := h; rfl) | (obtain ⟨_, _, rfl, _⟩ := h; rfl) | (obtain ⟨_, _, _, rfl, _⟩ := h; rfl) | (obtain ⟨_, _, _, _, rfl, _⟩ := h; rfl) | (obtain ⟨_, _, _, _, _, rfl, _⟩ := h; rfl) | (obtain ⟨_, _, _, _, _, _, rfl, _⟩ := h; rfl) | (obtain ⟨_, _, _, _, _, _, _, rfl, _⟩ := h; rfl) | (obtain ⟨_, _, _, _, _, _, _, _, rfl, _⟩ := h; rfl) | (obtain ⟨_, _, _, _, _, _, _, _, _, rfl, _⟩ := h; rfl) | (obtain ⟨_, _, _, _, _, _, _, _, _, _, rfl, _⟩ := h; rfl) | (obtain ⟨_, _, _, _, _, _, _, _, _, _, _, rfl, _⟩ := h; rfl) | (obtain ⟨_, _, _, _, _, _, _, _, _, _, _, _, rfl, _⟩ := h; rfl) | (obtain ⟨_, _, _, _, _, _, _, _, _, _, _, _, _, rfl, _⟩ := h; rfl) | (obtain ⟨_, _, _, _, _, _, _, _, _, _, _, _, _, _, rfl, _⟩ := h; rfl)) (fun AA outer s H vs Q E hr h => ?_)
  refine ⟨_, (pss_cons (ps_set (i := 1) sc_law.nd rfl (.inl rfl) (pe_call (ok__law_start T) (hr.mono (by decide)) (by rfl) T.g__law_start T.k__law_start T.b__law_start .nil pass0 (pa_cons (pv 0) pa_nil)))
      (pss_cons (ps_set (i := 2) sc_law.nd rfl (.inl rfl) (pe_lst pa_nil))
      (pss_cons (ps_for PassesOwn.never rfl (pi_range1 (by rfl) T.z_range (pa_cons pe_int pa_nil)) (pg_name (i := 3) sc_law.nd rfl (.inl rfl))
        (pss_cons (ps_set (i := 4) sc_law.nd rfl (.inl rfl) (pe_call (ok__law_set T) (hr.mono (by decide)) (by rfl) T.g__law_set T.k__law_set T.b__law_set .nil pass0 (pa_cons (pv 1) (pa_cons (pe_ix ix_list (pe_lst (pa_cons pe_int (pa_cons pe_int (pa_cons pe_int (pa_cons pe_int (pa_cons pe_int (pa_cons pe_int (pa_cons pe_int (pa_cons pe_int pa_nil))))))))) (pe_call (ok__law_drawn T) (hr.mono (by decide)) (by rfl) T.g__law_drawn T.k__law_drawn T.b__law_drawn .nil pass0 (pa_cons (pv 1) (pa_cons pe_int pa_nil))) (fun _ _ => rfl)) pa_nil))))
        (pss_cons (ps_set (i := 5) sc_law.nd rfl (.inl rfl) (pe_op op_add pe_int (pe_call (ok__law_drawn T) (hr.mono (by decide)) (by rfl) T.g__law_drawn T.k__law_drawn T.b__law_drawn .nil pass0 (pa_cons (pv 1) (pa_cons pe_int pa_nil)))))
        (pss_one (ps_expr (pe_bm PySem.F.plainAttrs_list PySem.F.slot_list_append PySem.F.type_list_append mt_append (pv 2) (pa_cons (pe_tup (pa_cons (pe_make T.mk_House (ok_House___init__ T) (hr.mono (by decide)) (by rfl) T.g_House T.b_House___init__ .nil passL (pa_cons (pv 4) (pa_cons (pv 5) pa_nil))) (pa_cons (pe_call (ok__law_house T) (hr.mono (by decide)) (by rfl) T.g__law_house T.k__law_house T.b__law_house .nil pass0 (pa_cons (pv 4) (pa_cons (pv 5) pa_nil))) pa_nil))) pa_nil)))))))
      (pss_cons (ps_for PassesOwn.never rfl (pi_range1 (by rfl) T.z_range (pa_cons pe_int pa_nil)) (pg_name (i := 6) sc_law.nd rfl (.inl rfl))
        (pss_cons (ps_asg (pe_ix ix_list (pv 2) (pe_call (ok__law_drawn T) (hr.mono (by decide)) (by rfl) T.g__law_drawn T.k__law_drawn T.b__law_drawn .nil pass0 (pa_cons (pv 1) (pa_cons pe_int pa_nil))) (fun _ _ => rfl)) (pg_tup rfl (pgs_cons (pg_name (i := 7) sc_law.nd rfl (.inl rfl)) (pgs_cons (pg_name (i := 8) sc_law.nd rfl (.inl rfl)) pgs_nil))))
        (pss_cons (ps_if (pt_not (pt_val (pe_call (ok__law_deed T) (hr.mono (by decide)) (by rfl) T.g__law_deed T.k__law_deed T.b__law_deed .nil pass0 (pa_cons (pv 1) (pa_cons (pv 7) (pa_cons (pv 8) pa_nil)))))) (pss_one (ps_ret pe_bl)) pss_nil)
        (pss_one (ps_if (PW.pt (pw_or (pt_not (pt_val (pe_call (ok__law_is T) (hr.mono (by decide)) (by rfl) T.g__law_is T.k__law_is T.b__law_is .nil pass0 (pa_cons (pe_ix ix_tup (pe_ix ix_list (pv 2) pe_int (fun _ _ => rfl)) pe_int (fun _ _ => rfl)) (pa_cons (pe_ix ix_tup (pe_ix ix_list (pv 2) pe_int (fun _ _ => rfl)) pe_int (fun _ _ => rfl)) pa_nil))))) (pw_or1 (pt_not (pt_val (pe_call (ok__law_is T) (hr.mono (by decide)) (by rfl) T.g__law_is T.k__law_is T.b__law_is .nil pass0 (pa_cons (pe_ix ix_tup (pe_ix ix_list (pv 2) pe_int (fun _ _ => rfl)) pe_int (fun _ _ => rfl)) (pa_cons (pe_ix ix_tup (pe_ix ix_list (pv 2) pe_int (fun _ _ => rfl)) pe_int (fun _ _ => rfl)) pa_nil)))))))) (pss_one (ps_ret pe_bl)) pss_nil)))))
      (pss_cons (ps_set (i := 9) sc_law.nd rfl (.inr rfl) (pe_ix ix_list (pe_lst (pa_cons pe_int (pa_cons pe_int (pa_cons pe_int (pa_cons (pe_call (ok__law_odd T) (hr.mono (by decide)) (by rfl) T.g__law_odd T.k__law_odd T.b__law_odd .nil pass0 (pa_cons (pv 1) (pa_cons pe_int pa_nil))) pa_nil))))) (pe_call (ok__law_drawn T) (hr.mono (by decide)) (by rfl) T.g__law_drawn T.k__law_drawn T.b__law_drawn .nil pass0 (pa_cons (pv 1) (pa_cons pe_int pa_nil))) (fun _ _ => rfl)))
      (pss_one (ps_ret (pe_cmpR (op_eqD hr.units) (LamX.pe_lamcall (k := 4) (T := [(A.cp__law_deed, "_law_deed.<locals>.<lambda>"), (A.cp_law, "law.<locals>.<lambda>")]) (TT := TT__law_kind K A) (a := "_law_work") (by rfl) T.g__law_kind T.k__law_kind lk__law_kind hcd__law_kind bd__law_kind sc__law_kind rfl (by first | exact Or.inl rfl | exact Or.inr (Or.inl rfl) | exact Or.inr (Or.inr rfl)) (fun f3 c3 s3 H3 Q3 tl act hc3 h3 => gv__law_kind T _ _ _ f3 c3 s3 H3 Q3 tl act hc3 h3) T.tb_law rfl (List.mem_cons_of_mem _ List.mem_cons_self) (by intro p hp e; simp only [List.mem_cons, List.not_mem_nil, or_false] at hp; rcases hp with rfl | rfl <;> first | rfl | exact absurd e T.nt__law_deed_law | exact absurd e.symm T.nt__law_deed_law) (hr.mono (by decide)) (LamX.lamS_by (sc := defScope s_law) (by decide +kernel)) rfl (fun _ _ _ _ _ => rfl) (fun A2 o2 s2 H2 E2 f2 c2 hr2 => (pe_make T.mk_House (ok_House___init__ T) (hr2.mono (by decide)) (by rfl) T.g_House T.b_House___init__ .nil (passes_call (takes_of rfl rfl rfl rfl) (fun _ _ _ _ z => z)) (pa_cons (pe_tup (pa_cons pe_int (pa_cons pe_int pa_nil))) (pa_cons (pv 9) pa_nil))))) (pe_tup (pa_cons pe_non (pa_cons pe_str pa_nil))) (nomark _))))))))), ?_⟩
  obtain ⟨a, ns, rfl, hS0, hl, hT0, hT1, q⟩ := h
  refine ⟨_, rfl, a, ns, rfl, hS0, fun st H1 nst sm S1 => ?_⟩
  refine ⟨by show 0 ≤ sizeLine; decide, fun ls hls => ?_⟩
  have nls : ls ≠ st := S1.fresh hls
  have s2 := same_upd (o := .lst []) hls
  have S2 := S1.same s2
  have TB : LamX.Tabs (tabs2 A.cp__law_deed A.cp_law) (upd H1 ls (.lst [])) := fun p hp => by
    rcases List.mem_cons.mp hp with rfl | hp
    · exact LamX.TabS.nil (s2 _ _ (sm _ _ hT0))
    · rw [List.mem_singleton.mp hp]
      exact LamX.TabS.nil (s2 _ _ (sm _ _ hT1))
  have hl2 := upd_same (H := H1) (a := ls) (o := .lst [])
  generalize upd H1 ls (.lst []) = H2 at s2 S2 TB hl2
  have hoff : OffK K a st [ls] := S1.off fun p hp => by rw [List.mem_singleton.mp hp]; exact hls
  refine ⟨2, rfl, by decide, by decide, for_range (n := 2) (fun i σ H' => ∃ (v3 v4 v5 : Option V) (L : List Sd), σ = [some (.ref a), some (.ref st), some (.ref ls), v3, v4, v5, none, none, none, none] ∧ StAt K a st H' ∧ LamX.Tabs (tabs2 A.cp__law_deed A.cp_law) H' ∧ H' ls = some (.lst (L.map fun s => .ref s.p)) ∧ L.length = i ∧ (∀ s ∈ L, SideI K A.e_House a st (tabs2 A.cp__law_deed A.cp_law) H' s ∧ ls ∉ s.ls) ∧ L.Pairwise fun s t => ∀ p ∈ s.ls, p ∉ t.ls) ⟨none, none, none, [], rfl, S2, TB, hl2, rfl, (fun _ z => nomatch z), .nil⟩ ?_ ?_⟩
  · rintro i σ H3 hi ⟨v3, v4, v5, L, rfl, S3, T3, hl3, rfl, hL, hPw⟩
    refine ⟨_, rfl, by show 8 ≤ sizeLine; decide, fun l8 hl8 => ?_⟩
    have g8 := Go.new (K := K) (st := st) (o := .lst [V.int 8, V.int 8, V.int 8, V.int 8, V.int 8, V.int 8, V.int 8, V.int 96]) hl8
    have S4 := g8.st _ S3
    refine ⟨_, rfl, a, st, 8, rfl, S4, by decide, nat8000 (by decide) (by decide +kernel), fun v H5 v0 v1 g5 => ?_⟩
    have S5 := g5.st _ S4
    obtain ⟨most, hat, o0, o1⟩ := pickI (ns := [8, 8, 8, 8, 8, 8, 8, 96]) (lo := 8) (hi := 96) (by decide) v0 v1
    refine ⟨l8, _, _, _, rfl, rfl, SqL.of (g5.keep _ _ (S3.fresh hl8) upd_same), hat, a, st, most, rfl, S5, by omega, by omega, fun o own H6 hs _ g6 _ ho6 => ?_⟩
    have S6 := g6.st _ S5
    refine ⟨_, rfl, a, st, 3, rfl, S6, by decide, nat8000 (by decide) (by decide +kernel), fun m H7 m0 m1 g7 => ⟨_, _, rfl, rfl, ?_⟩⟩
    have S7 := g7.st _ S6
    have gA := g8.trans (g5.trans (g6.trans g7))
    have ho7 := g7.tup S6 ho6
    have hl7 := gA.keep _ _ nls hl3
    refine ⟨_, rfl, .inl ⟨rfl, _, SqL.of hl7⟩, _, rfl, _, rfl, fun x dx nx ndx nex => ?_⟩
    have k8 : ∀ w u, H7 w = some u → upd (upd H7 dx (.own x)) x (.ins A.e_House dx []) w = some u := fun w u hw => by
      rw [upd_ne (ne_of_none hw nx), upd_ne (ne_of_none hw ndx)]
      exact hw
    refine ⟨x, dx, o, own, 2 + m, rfl, upd_same, k8 _ _ ho7, fun z => notset hs z, fun _ z => absurd z (by omega), fun _ n hn n2 n4 c H8 hfc HA kp => ⟨rfl, ?_⟩⟩
    have s8 : Same H7 H8 := fun w u hw => kp w u (k8 w u hw) (ne_of_none hw nx)
    have hfc7 : ∀ p ∈ c.ls, H7 p = none := fun p hp => by
      cases e : H7 p with
      | none => rfl
      | some u =>
        have := hfc p hp
        rw [k8 _ _ e] at this
        cases this
    refine ⟨_, rfl, _, rfl, o, own, n, by show [V.ref o, V.int (2 + m)] = _; rw [hn], s8 _ _ ho7, hs, n2, n4, fun y d H9 s9 ny hfd MA => ⟨by show 2 ≤ sizeLine; decide, fun p hp => ?_⟩⟩
    have s10 := same_upd (o := .tup [V.ref x, V.ref y]) hp
    have hp10 := upd_same (H := H9) (a := p) (o := .tup [V.ref x, V.ref y])
    generalize upd H9 p (.tup [V.ref x, V.ref y]) = H10 at s10 hp10
    have s7 := s8.trans (s9.trans s10)
    have hl10 := s7 _ _ hl7
    have S10 := S7.same s7
    have gB := gA.trans (Go.of (K := K) (st := st) s7)
    have T10 := (Mv.go gB S3).tabs T3
    have hf7 : ∀ p ∈ c.ls ++ d.ls, H7 p = none := fun p hp => (List.mem_append.mp hp).elim (hfc7 p) fun z => s8.free (hfd p z)
    have WN : WI K A.e_House a st x y c d n (fun _ => own) (fun _ _ => 0) (fun _ _ => 0) (tabs2 A.cp__law_deed A.cp_law) H10 :=
      ⟨S10, HA.same (s9.trans s10), MA.same s10, T10, S7.off hf7, fun p hp z => HA.core.alive p hp (hfd p z)⟩
    refine ⟨ls, _, _, rfl, rfl, hl10, Nat.lt_of_lt_of_le (by rw [List.length_map]; omega : _ < 100) (by decide), ?_⟩
    have m11 : Mv [ls] H10 (upd H10 ls (.lst (L.map (fun s => V.ref s.p) ++ [.ref p]))) := Mv.upd (List.mem_singleton.mpr rfl) hl10
    have S11 := S10.mv m11.w hoff
    have T11 := m11.tabs T10
    have nl : ∀ q ∈ c.ls ++ d.ls, q ∉ [ls] := fun q hq z => by
      have := hf7 q hq
      rw [List.mem_singleton.mp z, hl7] at this
      cases this
    refine ⟨_, _, _, L ++ [⟨p, x, y, c, d, n⟩], rfl, S11, T11, ?_, ?_, ?_, ?_⟩
    · rw [upd_same, List.map_append]
      rfl
    · rw [List.length_append]
      rfl
    · intro s hs
      rcases List.mem_append.mp hs with hs | hs
      · obtain ⟨⟨h1, S, D, T', W⟩, h2⟩ := hL s hs
        exact ⟨⟨m11.tup (gB.tup S3 h1), S, D, T', (W.go gB).other m11.w (fun q hq z => h2 ((List.mem_singleton.mp z) ▸ hq)) S11 T11⟩, h2⟩
      · obtain rfl := List.mem_singleton.mp hs
        exact ⟨⟨m11.tup hp10, _, _, _, WN.other m11.w nl S11 T11⟩, fun z => nl ls z (List.mem_singleton.mpr rfl)⟩
    · refine List.pairwise_append.mpr ⟨hPw, List.pairwise_singleton _ _, fun s hs t ht q hq z => ?_⟩
      obtain rfl := List.mem_singleton.mp ht
      obtain ⟨⟨h1, S, D, T', W⟩, h2⟩ := hL s hs
      exact (W.go gA).alive q hq (hf7 q z)
  · rintro σ H3 ⟨v3, v4, v5, L, rfl, S3, T3, hl3, hll, hL, hPw⟩
    obtain ⟨sA, sB, rfl⟩ : ∃ sA sB, L = [sA, sB] := by
      match L, hll with
      | [x, y], _ => exact ⟨x, y, rfl⟩
    obtain ⟨Sj, hSj⟩ : ∃ Sj : Bool → Sd, Sj = fun j => bif j then sB else sA := ⟨_, rfl⟩
    have hoth : ∀ j k : Bool, j ≠ k → ∀ p ∈ (Sj j).ls, p ∉ (Sj k).ls := by
      have h0 : ∀ p ∈ sA.ls, p ∉ sB.ls := (List.pairwise_cons.mp hPw).1 sB List.mem_cons_self
      rw [hSj]
      intro j k n
      cases j <;> cases k
      · exact absurd rfl n
      · exact h0
      · exact fun p hp z => h0 p z hp
      · exact absurd rfl n
    have hsd : ∀ j, SideI K A.e_House a st (tabs2 A.cp__law_deed A.cp_law) H3 (Sj j) ∧ ls ∉ (Sj j).ls := by
      rw [hSj]
      intro j
      cases j
      · exact hL sA List.mem_cons_self
      · exact hL sB (List.mem_cons_of_mem _ List.mem_cons_self)
    have hl3 : H3 ls = some (.lst [.ref (Sj false).p, .ref (Sj true).p]) := by
      rw [hl3, hSj]
      rfl
    have hnl := fun j => (hsd j).2
    have hsd := fun j => (hsd j).1
    clear hSj hL hPw hll
    refine ⟨16, rfl, by decide, by decide, for_range (n := 16) (fun i σ H' => ∃ (v3 v4 v5 v6 v7 v8 : Option V), σ = [some (.ref a), some (.ref st), some (.ref ls), v3, v4, v5, v6, v7, v8, none] ∧ StAt K a st H' ∧ LamX.Tabs (tabs2 A.cp__law_deed A.cp_law) H' ∧ H' ls = some (.lst [.ref (Sj false).p, .ref (Sj true).p]) ∧ ∀ j, SideI K A.e_House a st (tabs2 A.cp__law_deed A.cp_law) H' (Sj j)) ⟨_, _, _, _, _, _, rfl, S3, T3, hl3, hsd⟩ ?_ ?_⟩
    · clear hsd S3 T3 hl3 v3 v4 v5
      rintro i σ H4 hi ⟨v3, v4, v5, v6, v7, v8, rfl, S4, T4, hl4, hsd⟩
      refine ⟨_, rfl, _, rfl, a, st, 2, rfl, S4, by decide, nat8000 (by decide) (by decide +kernel), fun v H5 p0 p1 g5 => ?_⟩
      have S5 := g5.st _ S4
      have T5 := (Mv.go g5 S4).tabs T4
      have hl5 := g5.keep _ _ nls hl4
      have hsd5 : ∀ j, SideI K A.e_House a st (tabs2 A.cp__law_deed A.cp_law) H5 (Sj j) := fun j => by
        obtain ⟨h1, S, D, T', W⟩ := hsd j
        exact ⟨g5.tup S4 h1, S, D, T', W.go g5⟩
      obtain ⟨j, hat⟩ : ∃ j : Bool, atI [V.ref (Sj false).p, .ref (Sj true).p] v = some (.ref (Sj j).p) := by
        rcases (by omega : v = 0 ∨ v = 1) with rfl | rfl
        · exact ⟨false, rfl⟩
        · exact ⟨true, rfl⟩
      obtain ⟨h1, S, D, T', W⟩ := hsd5 j
      refine ⟨ls, _, _, _, rfl, rfl, SqL.of hl5, hat, ?_⟩
      refine ⟨(Sj j).p, _, rfl, SqT.of h1, rfl, _, _, rfl, _, _, rfl, rfl, ?_⟩
      refine ⟨_, rfl, _, rfl, _, rfl, a, st, (Sj j).x, (Sj j).y, (Sj j).c, (Sj j).d, (Sj j).n, S, D, T', rfl, W, fun S' D' H6 m6 W6 => ⟨true, rfl, iteF ?_⟩⟩
      have nst' : ∀ k, st ∉ (Sj k).ls := fun k => by
        obtain ⟨_, _, _, _, Wk⟩ := hsd5 k
        exact Wk.of.1
      have hl6 := m6.lst hl5 fun z => by
        rcases List.mem_cons.mp z with z | z
        · exact nls z
        · exact hnl j z
      have hsd6 : ∀ k, SideI K A.e_House a st (tabs2 A.cp__law_deed A.cp_law) H6 (Sj k) := fun k => by
        obtain ⟨h1, S, D, T', W⟩ := hsd5 k
        by_cases e : k = j
        · subst e
          exact ⟨m6.tup h1, _, _, _, W6⟩
        · refine ⟨m6.tup h1, S, D, T', W.other m6 (fun q hq z => ?_) W6.sa W6.tb⟩
          rcases List.mem_cons.mp z with z | z
          · exact nst' k (z ▸ hq)
          · exact hoth k j e q hq z
      obtain ⟨hA, SA, DA, TA, WA⟩ := hsd6 false
      obtain ⟨hB, SB, DB, TB', WB⟩ := hsd6 true
      have at2 : ∀ (q : Nat) (xs : List V) (u : V), xs[q]? = some u → atI xs (q : Int) = some u := fun q xs u h => atI_nat (j := q) h
      refine ⟨_, rfl, ls, _, _, _, rfl, rfl, SqL.of hl6, at2 0 _ _ rfl, (Sj false).p, _, _, _, rfl, rfl, SqT.of hA, at2 0 _ _ rfl, _, rfl, ls, _, _, _, rfl, rfl, SqL.of hl6, at2 0 _ _ rfl, (Sj false).p, _, _, _, rfl, rfl, SqT.of hA, at2 1 _ _ rfl, ?_⟩
      refine ⟨_, _, _, _, _, _, _, _, rfl, WA.ho, WA.mi, fun H7 s7 => ⟨true, rfl, iteF ?_⟩⟩
      have hl7 := s7 _ _ hl6
      have WB7 := WB.same s7
      have hB7 := s7 _ _ hB
      refine ⟨_, rfl, ls, _, _, _, rfl, rfl, SqL.of hl7, at2 1 _ _ rfl, (Sj true).p, _, _, _, rfl, rfl, SqT.of hB7, at2 0 _ _ rfl, _, rfl, ls, _, _, _, rfl, rfl, SqL.of hl7, at2 1 _ _ rfl, (Sj true).p, _, _, _, rfl, rfl, SqT.of hB7, at2 1 _ _ rfl, ?_⟩
      refine ⟨_, _, _, _, _, _, _, _, rfl, WB7.ho, WB7.mi, fun H8 s8 => ⟨true, rfl, iteF ?_⟩⟩
      have s78 := s7.trans s8
      refine ⟨_, _, _, _, _, _, rfl, W6.sa.same s78, W6.tb.ext s78, s78 _ _ hl6, fun k => ?_⟩
      obtain ⟨h1, S, D, T', W⟩ := hsd6 k
      exact ⟨s78 _ _ h1, S, D, T', W.same s78⟩
    · rintro σ H4 ⟨w3, w4, w5, w6, w7, w8, rfl, S4, T4, hl4, hsd4⟩
      refine ⟨_, rfl, a, st, 4, rfl, S4, by decide, by decide, fun z H5 g5 hz => ⟨by show 4 ≤ sizeLine; decide, fun l hl => ?_⟩⟩
      have S5 := g5.st _ S4
      have g6 := Go.new (K := K) (st := st) (o := .lst [V.int 1, V.int 5, V.int 0, V.int z]) hl
      refine ⟨_, rfl, a, st, 4, rfl, g6.st _ S5, by decide, nat8000 (by decide) (by decide +kernel), fun w H7 w0 w1 g7 => ?_⟩
      have hl7 := g7.keep _ _ (S5.fresh hl) (upd_same (H := H5) (a := l) (o := .lst [V.int 1, V.int 5, V.int 0, V.int z]))
      have T7 := (Mv.go (g5.trans (g6.trans g7)) S4).tabs T4
      obtain ⟨m, hat, hm⟩ : ∃ m : Int, atI [V.int 1, V.int 5, V.int 0, V.int z] w = some (V.int m) ∧ (m < 2 ∨ 4 < m) := by
        obtain rfl | rfl | rfl | rfl : w = 0 ∨ w = 1 ∨ w = 2 ∨ w = 3 := by omega
        · exact ⟨1, rfl, by omega⟩
        · exact ⟨5, rfl, by omega⟩
        · exact ⟨0, rfl, by omega⟩
        · exact ⟨z, rfl, by omega⟩
      refine ⟨l, _, _, _, rfl, rfl, SqL.of hl7, hat, ?_⟩
      refine ⟨T7, fun H8 x8 t8 => ⟨by show 2 ≤ sizeLine; decide, fun t ht => ?_⟩⟩
      have ht9 := upd_same (H := H8) (a := t) (o := .tup [V.int 1, V.int 2])
      generalize upd H8 t (.tup [V.int 1, V.int 2]) = H9 at ht9
      refine ⟨_, rfl, fun x dx nx ndx nex => ?_⟩
      have k8 : ∀ w u, H9 w = some u → upd (upd H9 dx (.own x)) x (.ins A.e_House dx []) w = some u := fun w u hw => by
        rw [upd_ne (ne_of_none hw nx), upd_ne (ne_of_none hw ndx)]
        exact hw
      refine ⟨x, dx, t, [1, 2], m, rfl, upd_same, k8 _ _ ht9, fun z => absurd z (by decide +kernel), fun _ _ => ⟨rfl, "NoHand", .inl ⟨rfl, rfl⟩, fun p H10 s10 hp => ?_⟩, fun _ n hn n2 n4 => absurd hm (by omega)⟩
      refine ⟨by show 2 ≤ sizeLine; decide, fun u hu => ?_⟩
      exact eqNS (SqT.of ((same_upd hu) _ _ hp)) (SqT.of upd_same) (q _)
end
theorem all_mk {l : PySem.W.OpenLaw} {w : World} {K : PySem.W.Frag} {h : Heap} {mg : Str → Option Value} {fa : Addr} (X : K.In h) (G : h.Ns mainGlobals mg) (hfa : mg "law" = some (.ref fa)) (tf : Lm.TabF mg h ["_law_deed", "law"])
    {eHouse : Addr} {f0 : Addr} {od0 an0 : Option Addr} {sl0 : Array (Option Value)} {oc0 kV0 dc0 pm0 cd0 ct0 : Value} {f1 : Addr} {od1 an1 : Option Addr} {sl1 : Array (Option Value)} {oc1 kV1 dc1 pm1 cd1 ct1 : Value} {f2 : Addr} {od2 an2 : Option Addr} {sl2 : Array (Option Value)} {oc2 kV2 dc2 pm2 cd2 ct2 : Value} {f3 : Addr} {od3 an3 : Option Addr} {sl3 : Array (Option Value)} {oc3 kV3 dc3 pm3 cd3 ct3 : Value} {f4 : Addr} {od4 an4 : Option Addr} {sl4 : Array (Option Value)} {oc4 kV4 dc4 pm4 cd4 ct4 : Value} {f5 : Addr} {od5 an5 : Option Addr} {sl5 : Array (Option Value)} {oc5 kV5 dc5 pm5 cd5 ct5 : Value} {f6 : Addr} {od6 an6 : Option Addr} {sl6 : Array (Option Value)} {oc6 kV6 dc6 pm6 cd6 ct6 : Value} {f7 : Addr} {od7 an7 : Option Addr} {sl7 : Array (Option Value)} {oc7 kV7 dc7 pm7 cd7 ct7 : Value} {f8 : Addr} {od8 an8 : Option Addr} {sl8 : Array (Option Value)} {oc8 kV8 dc8 pm8 cd8 ct8 : Value} {f9 : Addr} {od9 an9 : Option Addr} {sl9 : Array (Option Value)} {oc9 kV9 dc9 pm9 cd9 ct9 : Value} {f10 : Addr} {od10 an10 : Option Addr} {sl10 : Array (Option Value)} {oc10 kV10 dc10 pm10 cd10 ct10 : Value} {f11 : Addr} {od11 an11 : Option Addr} {sl11 : Array (Option Value)} {oc11 kV11 dc11 pm11 cd11 ct11 : Value} {f12 : Addr} {od12 an12 : Option Addr} {sl12 : Array (Option Value)} {oc12 kV12 dc12 pm12 cd12 ct12 : Value} {f13 : Addr} {od13 an13 : Option Addr} {sl13 : Array (Option Value)} {oc13 kV13 dc13 pm13 cd13 ct13 : Value} {f14 : Addr} {od14 an14 : Option Addr} {sl14 : Array (Option Value)} {oc14 kV14 dc14 pm14 cd14 ct14 : Value} {f15 : Addr} {od15 an15 : Option Addr} {sl15 : Array (Option Value)} {oc15 kV15 dc15 pm15 cd15 ct15 : Value} {f16 : Addr} {od16 an16 : Option Addr} {sl16 : Array (Option Value)} {oc16 kV16 dc16 pm16 cd16 ct16 : Value} {f17 : Addr} {od17 an17 : Option Addr} {sl17 : Array (Option Value)} {oc17 kV17 dc17 pm17 cd17 ct17 : Value} {f18 : Addr} {od18 an18 : Option Addr} {sl18 : Array (Option Value)} {oc18 kV18 dc18 pm18 cd18 ct18 : Value} {f19 : Addr} {od19 an19 : Option Addr} {sl19 : Array (Option Value)} {oc19 kV19 dc19 pm19 cd19 ct19 : Value} {f20 : Addr} {od20 an20 : Option Addr} {sl20 : Array (Option Value)} {oc20 kV20 dc20 pm20 cd20 ct20 : Value} {f21 : Addr} {od21 an21 : Option Addr} {sl21 : Array (Option Value)} {oc21 kV21 dc21 pm21 cd21 ct21 : Value} {f22 : Addr} {od22 an22 : Option Addr} {sl22 : Array (Option Value)} {oc22 kV22 dc22 pm22 cd22 ct22 : Value} {f23 : Addr} {od23 an23 : Option Addr} {sl23 : Array (Option Value)} {oc23 kV23 dc23 pm23 cd23 ct23 : Value} {f24 : Addr} {od24 an24 : Option Addr} {sl24 : Array (Option Value)} {oc24 kV24 dc24 pm24 cd24 ct24 : Value} {f25 : Addr} {od25 an25 : Option Addr} {sl25 : Array (Option Value)} {oc25 kV25 dc25 pm25 cd25 ct25 : Value} {f26 : Addr} {od26 an26 : Option Addr} {sl26 : Array (Option Value)} {oc26 kV26 dc26 pm26 cd26 ct26 : Value} {f27 : Addr} {od27 an27 : Option Addr} {sl27 : Array (Option Value)} {oc27 kV27 dc27 pm27 cd27 ct27 : Value} {cT27 PT27 : Addr} {eT27 : Value} {dT27 : Option Addr} {vT27 : Array Value} {sT27 : Array (Option Value)} {f28 : Addr} {od28 an28 : Option Addr} {sl28 : Array (Option Value)} {oc28 kV28 dc28 pm28 cd28 ct28 : Value} {cT28 PT28 : Addr} {eT28 : Value} {dT28 : Option Addr} {vT28 : Array Value} {sT28 : Array (Option Value)} {eMendError : Addr} {eNoSet : Addr} {eNoMark : Addr} {eNoInverse : Addr} {eNoCount : Addr} {eNoHand : Addr} {eNoLetter : Addr} {eNoText : Addr} {eHeld : Addr} {eNotHeld : Addr} {eUnlike : Addr} {eLate : Addr} {tLAST_MARK : Nat} {tWHEEL : Nat} {tFEWEST_HANDS : Nat} {tMOST_HANDS : Nat}
    (gHouse : PySem.W.nsIn K mainGlobals "House" = some (some (.ref eHouse)))
    (pgHouse : PySem.W.plainGet K eHouse Str.empty = true) (hdHouse : PySem.W.hasDictIn K eHouse = true) (poHouse : PySem.W.plainOver K eHouse = true) (saHouse : PySem.W.findIn K (.ref eHouse) "__setattr__" = some (some (.builtin "object.__setattr__"))) (mkHouse : PySem.W.makesIn K eHouse = true) (kcHouse : PySem.W.keepIn K (.ref eHouse) = true)
    (naHouse_sets : PySem.W.findIn K (.ref eHouse) "_sets" = some none)
    (naHouse_deeds : PySem.W.findIn K (.ref eHouse) "_deeds" = some none)
    (naHouse_turns : PySem.W.findIn K (.ref eHouse) "_turns" = some none)
    (a0 : PySem.W.nsIn K mainGlobals "is_set" = some (some (.ref f0)))
    (l0 : K.lookup f0 = some ⟨oc0, od0, .func (PySem.W.fnOf "is_set" "is_set" (defArgs s_is_set) (defBody s_is_set) (defScope s_is_set) .none kV0 dc0 pm0 an0 cd0 ct0), sl0⟩)
    (c0 : PySem.W.codeIn K cd0 "is_set" = true)
    (k0 : PySem.W.keepIn K (.ref f0) = true)
    (a1 : PySem.W.nsIn K mainGlobals "refuse_unless_set" = some (some (.ref f1)))
    (l1 : K.lookup f1 = some ⟨oc1, od1, .func (PySem.W.fnOf "refuse_unless_set" "refuse_unless_set" (defArgs s_refuse_unless_set) (defBody s_refuse_unless_set) (defScope s_refuse_unless_set) .none kV1 dc1 pm1 an1 cd1 ct1), sl1⟩)
    (c1 : PySem.W.codeIn K cd1 "refuse_unless_set" = true)
    (k1 : PySem.W.keepIn K (.ref f1) = true)
    (a2 : PySem.W.nsIn K mainGlobals "without" = some (some (.ref f2)))
    (l2 : K.lookup f2 = some ⟨oc2, od2, .func (PySem.W.fnOf "without" "without" (defArgs s_without) (defBody s_without) (defScope s_without) .none kV2 dc2 pm2 an2 cd2 ct2), sl2⟩)
    (c2 : PySem.W.codeIn K cd2 "without" = true)
    (k2 : PySem.W.keepIn K (.ref f2) = true)
    (a3 : PySem.W.nsIn K mainGlobals "apart" = some (some (.ref f3)))
    (l3 : K.lookup f3 = some ⟨oc3, od3, .func (PySem.W.fnOf "apart" "apart" (defArgs s_apart) (defBody s_apart) (defScope s_apart) .none kV3 dc3 pm3 an3 cd3 ct3), sl3⟩)
    (c3 : PySem.W.codeIn K cd3 "apart" = true)
    (k3 : PySem.W.keepIn K (.ref f3) = true)
    (a4 : PySem.W.nsIn K mainGlobals "mended" = some (some (.ref f4)))
    (l4 : K.lookup f4 = some ⟨oc4, od4, .func (PySem.W.fnOf "mended" "mended" (defArgs s_mended) (defBody s_mended) (defScope s_mended) .none kV4 dc4 pm4 an4 cd4 ct4), sl4⟩)
    (c4 : PySem.W.codeIn K cd4 "mended" = true)
    (k4 : PySem.W.keepIn K (.ref f4) = true)
    (a5 : PySem.W.nsIn K mainGlobals "refuse_unless_mark" = some (some (.ref f5)))
    (l5 : K.lookup f5 = some ⟨oc5, od5, .func (PySem.W.fnOf "refuse_unless_mark" "refuse_unless_mark" (defArgs s_refuse_unless_mark) (defBody s_refuse_unless_mark) (defScope s_refuse_unless_mark) .none kV5 dc5 pm5 an5 cd5 ct5), sl5⟩)
    (c5 : PySem.W.codeIn K cd5 "refuse_unless_mark" = true)
    (k5 : PySem.W.keepIn K (.ref f5) = true)
    (a6 : PySem.W.findIn K (.ref eHouse) "__init__" = some (some (.ref f6))) (i6 : PySem.W.isFn K (.ref f6) = true)
    (l6 : K.lookup f6 = some ⟨oc6, od6, .func (PySem.W.fnOf "__init__" "House.__init__" (defArgs s_House___init__) (defBody s_House___init__) (defScope s_House___init__) .none kV6 dc6 pm6 an6 cd6 ct6), sl6⟩)
    (c6 : PySem.W.codeIn K cd6 "House.__init__" = true)
    (k6 : PySem.W.keepIn K (.ref f6) = true)
    (a7 : PySem.W.findIn K (.ref eHouse) "_refuse_unless_hand" = some (some (.ref f7))) (i7 : PySem.W.isFn K (.ref f7) = true)
    (l7 : K.lookup f7 = some ⟨oc7, od7, .func (PySem.W.fnOf "_refuse_unless_hand" "House._refuse_unless_hand" (defArgs s_House__refuse_unless_hand) (defBody s_House__refuse_unless_hand) (defScope s_House__refuse_unless_hand) .none kV7 dc7 pm7 an7 cd7 ct7), sl7⟩)
    (c7 : PySem.W.codeIn K cd7 "House._refuse_unless_hand" = true)
    (k7 : PySem.W.keepIn K (.ref f7) = true)
    (a8 : PySem.W.findIn K (.ref eHouse) "marks" = some (some (.ref f8))) (i8 : PySem.W.isFn K (.ref f8) = true)
    (l8 : K.lookup f8 = some ⟨oc8, od8, .func (PySem.W.fnOf "marks" "House.marks" (defArgs s_House_marks) (defBody s_House_marks) (defScope s_House_marks) .none kV8 dc8 pm8 an8 cd8 ct8), sl8⟩)
    (c8 : PySem.W.codeIn K cd8 "House.marks" = true)
    (k8 : PySem.W.keepIn K (.ref f8) = true)
    (a9 : PySem.W.findIn K (.ref eHouse) "_others" = some (some (.ref f9))) (i9 : PySem.W.isFn K (.ref f9) = true)
    (l9 : K.lookup f9 = some ⟨oc9, od9, .func (PySem.W.fnOf "_others" "House._others" (defArgs s_House__others) (defBody s_House__others) (defScope s_House__others) .none kV9 dc9 pm9 an9 cd9 ct9), sl9⟩)
    (c9 : PySem.W.codeIn K cd9 "House._others" = true)
    (k9 : PySem.W.keepIn K (.ref f9) = true)
    (a10 : PySem.W.findIn K (.ref eHouse) "_change" = some (some (.ref f10))) (i10 : PySem.W.isFn K (.ref f10) = true)
    (l10 : K.lookup f10 = some ⟨oc10, od10, .func (PySem.W.fnOf "_change" "House._change" (defArgs s_House__change) (defBody s_House__change) (defScope s_House__change) .none kV10 dc10 pm10 an10 cd10 ct10), sl10⟩)
    (c10 : PySem.W.codeIn K cd10 "House._change" = true)
    (k10 : PySem.W.keepIn K (.ref f10) = true)
    (a11 : PySem.W.findIn K (.ref eHouse) "put" = some (some (.ref f11))) (i11 : PySem.W.isFn K (.ref f11) = true)
    (l11 : K.lookup f11 = some ⟨oc11, od11, .func (PySem.W.fnOf "put" "House.put" (defArgs s_House_put) (defBody s_House_put) (defScope s_House_put) .none kV11 dc11 pm11 an11 cd11 ct11), sl11⟩)
    (c11 : PySem.W.codeIn K cd11 "House.put" = true)
    (k11 : PySem.W.keepIn K (.ref f11) = true)
    (a12 : PySem.W.findIn K (.ref eHouse) "take" = some (some (.ref f12))) (i12 : PySem.W.isFn K (.ref f12) = true)
    (l12 : K.lookup f12 = some ⟨oc12, od12, .func (PySem.W.fnOf "take" "House.take" (defArgs s_House_take) (defBody s_House_take) (defScope s_House_take) .none kV12 dc12 pm12 an12 cd12 ct12), sl12⟩)
    (c12 : PySem.W.codeIn K cd12 "House.take" = true)
    (k12 : PySem.W.keepIn K (.ref f12) = true)
    (a13 : PySem.W.findIn K (.ref eHouse) "_refuse_unless_two" = some (some (.ref f13))) (i13 : PySem.W.isFn K (.ref f13) = true)
    (l13 : K.lookup f13 = some ⟨oc13, od13, .func (PySem.W.fnOf "_refuse_unless_two" "House._refuse_unless_two" (defArgs s_House__refuse_unless_two) (defBody s_House__refuse_unless_two) (defScope s_House__refuse_unless_two) .none kV13 dc13 pm13 an13 cd13 ct13), sl13⟩)
    (c13 : PySem.W.codeIn K cd13 "House._refuse_unless_two" = true)
    (k13 : PySem.W.keepIn K (.ref f13) = true)
    (a14 : PySem.W.findIn K (.ref eHouse) "deeds" = some (some (.ref f14))) (i14 : PySem.W.isFn K (.ref f14) = true)
    (l14 : K.lookup f14 = some ⟨oc14, od14, .func (PySem.W.fnOf "deeds" "House.deeds" (defArgs s_House_deeds) (defBody s_House_deeds) (defScope s_House_deeds) .none kV14 dc14 pm14 an14 cd14 ct14), sl14⟩)
    (c14 : PySem.W.codeIn K cd14 "House.deeds" = true)
    (k14 : PySem.W.keepIn K (.ref f14) = true)
    (a15 : PySem.W.findIn K (.ref eHouse) "turn" = some (some (.ref f15))) (i15 : PySem.W.isFn K (.ref f15) = true)
    (l15 : K.lookup f15 = some ⟨oc15, od15, .func (PySem.W.fnOf "turn" "House.turn" (defArgs s_House_turn) (defBody s_House_turn) (defScope s_House_turn) .none kV15 dc15 pm15 an15 cd15 ct15), sl15⟩)
    (c15 : PySem.W.codeIn K cd15 "House.turn" = true)
    (k15 : PySem.W.keepIn K (.ref f15) = true)
    (a16 : PySem.W.nsIn K mainGlobals "_law_start" = some (some (.ref f16)))
    (l16 : K.lookup f16 = some ⟨oc16, od16, .func (PySem.W.fnOf "_law_start" "_law_start" (defArgs s__law_start) (defBody s__law_start) (defScope s__law_start) .none kV16 dc16 pm16 an16 cd16 ct16), sl16⟩)
    (c16 : PySem.W.codeIn K cd16 "_law_start" = true)
    (k16 : PySem.W.keepIn K (.ref f16) = true)
    (a17 : PySem.W.nsIn K mainGlobals "_law_drawn" = some (some (.ref f17)))
    (l17 : K.lookup f17 = some ⟨oc17, od17, .func (PySem.W.fnOf "_law_drawn" "_law_drawn" (defArgs s__law_drawn) (defBody s__law_drawn) (defScope s__law_drawn) .none kV17 dc17 pm17 an17 cd17 ct17), sl17⟩)
    (c17 : PySem.W.codeIn K cd17 "_law_drawn" = true)
    (k17 : PySem.W.keepIn K (.ref f17) = true)
    (a18 : PySem.W.nsIn K mainGlobals "_law_set" = some (some (.ref f18)))
    (l18 : K.lookup f18 = some ⟨oc18, od18, .func (PySem.W.fnOf "_law_set" "_law_set" (defArgs s__law_set) (defBody s__law_set) (defScope s__law_set) .none kV18 dc18 pm18 an18 cd18 ct18), sl18⟩)
    (c18 : PySem.W.codeIn K cd18 "_law_set" = true)
    (k18 : PySem.W.keepIn K (.ref f18) = true)
    (a19 : PySem.W.nsIn K mainGlobals "_law_apart" = some (some (.ref f19)))
    (l19 : K.lookup f19 = some ⟨oc19, od19, .func (PySem.W.fnOf "_law_apart" "_law_apart" (defArgs s__law_apart) (defBody s__law_apart) (defScope s__law_apart) .none kV19 dc19 pm19 an19 cd19 ct19), sl19⟩)
    (c19 : PySem.W.codeIn K cd19 "_law_apart" = true)
    (k19 : PySem.W.keepIn K (.ref f19) = true)
    (a20 : PySem.W.nsIn K mainGlobals "_law_same" = some (some (.ref f20)))
    (l20 : K.lookup f20 = some ⟨oc20, od20, .func (PySem.W.fnOf "_law_same" "_law_same" (defArgs s__law_same) (defBody s__law_same) (defScope s__law_same) .none kV20 dc20 pm20 an20 cd20 ct20), sl20⟩)
    (c20 : PySem.W.codeIn K cd20 "_law_same" = true)
    (k20 : PySem.W.keepIn K (.ref f20) = true)
    (a21 : PySem.W.nsIn K mainGlobals "_law_house" = some (some (.ref f21)))
    (l21 : K.lookup f21 = some ⟨oc21, od21, .func (PySem.W.fnOf "_law_house" "_law_house" (defArgs s__law_house) (defBody s__law_house) (defScope s__law_house) .none kV21 dc21 pm21 an21 cd21 ct21), sl21⟩)
    (c21 : PySem.W.codeIn K cd21 "_law_house" = true)
    (k21 : PySem.W.keepIn K (.ref f21) = true)
    (a22 : PySem.W.nsIn K mainGlobals "_law_gains" = some (some (.ref f22)))
    (l22 : K.lookup f22 = some ⟨oc22, od22, .func (PySem.W.fnOf "_law_gains" "_law_gains" (defArgs s__law_gains) (defBody s__law_gains) (defScope s__law_gains) .none kV22 dc22 pm22 an22 cd22 ct22), sl22⟩)
    (c22 : PySem.W.codeIn K cd22 "_law_gains" = true)
    (k22 : PySem.W.keepIn K (.ref f22) = true)
    (a23 : PySem.W.nsIn K mainGlobals "_law_is" = some (some (.ref f23)))
    (l23 : K.lookup f23 = some ⟨oc23, od23, .func (PySem.W.fnOf "_law_is" "_law_is" (defArgs s__law_is) (defBody s__law_is) (defScope s__law_is) .none kV23 dc23 pm23 an23 cd23 ct23), sl23⟩)
    (c23 : PySem.W.codeIn K cd23 "_law_is" = true)
    (k23 : PySem.W.keepIn K (.ref f23) = true)
    (a24 : PySem.W.nsIn K mainGlobals "_law_kind" = some (some (.ref f24)))
    (l24 : K.lookup f24 = some ⟨oc24, od24, .func (PySem.W.fnOf "_law_kind" "_law_kind" (defArgs s__law_kind) (defBody s__law_kind) (defScope s__law_kind) .none kV24 dc24 pm24 an24 cd24 ct24), sl24⟩)
    (c24 : PySem.W.codeIn K cd24 "_law_kind" = true)
    (k24 : PySem.W.keepIn K (.ref f24) = true)
    (a25 : PySem.W.nsIn K mainGlobals "_law_odd" = some (some (.ref f25)))
    (l25 : K.lookup f25 = some ⟨oc25, od25, .func (PySem.W.fnOf "_law_odd" "_law_odd" (defArgs s__law_odd) (defBody s__law_odd) (defScope s__law_odd) .none kV25 dc25 pm25 an25 cd25 ct25), sl25⟩)
    (c25 : PySem.W.codeIn K cd25 "_law_odd" = true)
    (k25 : PySem.W.keepIn K (.ref f25) = true)
    (a26 : PySem.W.nsIn K mainGlobals "_law_due" = some (some (.ref f26)))
    (l26 : K.lookup f26 = some ⟨oc26, od26, .func (PySem.W.fnOf "_law_due" "_law_due" (defArgs s__law_due) (defBody s__law_due) (defScope s__law_due) .none kV26 dc26 pm26 an26 cd26 ct26), sl26⟩)
    (c26 : PySem.W.codeIn K cd26 "_law_due" = true)
    (k26 : PySem.W.keepIn K (.ref f26) = true)
    (a27 : PySem.W.nsIn K mainGlobals "_law_deed" = some (some (.ref f27)))
    (l27 : K.lookup f27 = some ⟨oc27, od27, .func (PySem.W.fnOf "_law_deed" "_law_deed" (defArgs s__law_deed) (defBody s__law_deed) (defScope s__law_deed) .none kV27 dc27 pm27 an27 cd27 ct27), sl27⟩)
    (c27 : PySem.W.codeIn K cd27 "_law_deed" = true)
    (k27 : PySem.W.keepIn K (.ref f27) = true)
    (tc27 : cd27 = .ref cT27) (tl27 : K.lookup cT27 = some ⟨eT27, dT27, .fields vT27, sT27⟩) (tp27 : vT27[11]? = some (.ref PT27)) (tn27 : K.lookup PT27 = none)
    (a28 : PySem.W.nsIn K mainGlobals "law" = some (some (.ref f28)))
    (l28 : K.lookup f28 = some ⟨oc28, od28, .func (PySem.W.fnOf "law" "law" (defArgs s_law) (defBody s_law) (defScope s_law) .none kV28 dc28 pm28 an28 cd28 ct28), sl28⟩)
    (c28 : PySem.W.codeIn K cd28 "law" = true)
    (k28 : PySem.W.keepIn K (.ref f28) = true)
    (tc28 : cd28 = .ref cT28) (tl28 : K.lookup cT28 = some ⟨eT28, dT28, .fields vT28, sT28⟩) (tp28 : vT28[11]? = some (.ref PT28)) (tn28 : K.lookup PT28 = none)
    (nt27_28 : PT27 ≠ PT28)
    (gMendError : PySem.W.nsIn K mainGlobals "MendError" = some (some (.ref eMendError)))
    (gNoSet : PySem.W.nsIn K mainGlobals "NoSet" = some (some (.ref eNoSet)))
    (gNoMark : PySem.W.nsIn K mainGlobals "NoMark" = some (some (.ref eNoMark)))
    (gNoInverse : PySem.W.nsIn K mainGlobals "NoInverse" = some (some (.ref eNoInverse)))
    (gNoCount : PySem.W.nsIn K mainGlobals "NoCount" = some (some (.ref eNoCount)))
    (gNoHand : PySem.W.nsIn K mainGlobals "NoHand" = some (some (.ref eNoHand)))
    (gNoLetter : PySem.W.nsIn K mainGlobals "NoLetter" = some (some (.ref eNoLetter)))
    (gNoText : PySem.W.nsIn K mainGlobals "NoText" = some (some (.ref eNoText)))
    (gHeld : PySem.W.nsIn K mainGlobals "Held" = some (some (.ref eHeld)))
    (gNotHeld : PySem.W.nsIn K mainGlobals "NotHeld" = some (some (.ref eNotHeld)))
    (gUnlike : PySem.W.nsIn K mainGlobals "Unlike" = some (some (.ref eUnlike)))
    (gLate : PySem.W.nsIn K mainGlobals "Late" = some (some (.ref eLate)))
    (xNoSet : PySem.W.excIn K eNoSet [.type "ValueError", .type "Exception", .type "BaseException", .type "object"] "ValueError.__new__" = true)
    (kkNoSet : PySem.W.keepIn K (.ref eNoSet) = true)
    (bbNoSet : PySem.W.subIn K (.ref eNoSet) (.type "BaseException") = some true)
    (ttNoSet : PySem.W.typeIn K (.ref eNoSet) = some (.type "type"))
    (xNoMark : PySem.W.excIn K eNoMark [.type "ValueError", .type "Exception", .type "BaseException", .type "object"] "ValueError.__new__" = true)
    (kkNoMark : PySem.W.keepIn K (.ref eNoMark) = true)
    (bbNoMark : PySem.W.subIn K (.ref eNoMark) (.type "BaseException") = some true)
    (ttNoMark : PySem.W.typeIn K (.ref eNoMark) = some (.type "type"))
    (xNoHand : PySem.W.excIn K eNoHand [.type "ValueError", .type "Exception", .type "BaseException", .type "object"] "ValueError.__new__" = true)
    (kkNoHand : PySem.W.keepIn K (.ref eNoHand) = true)
    (bbNoHand : PySem.W.subIn K (.ref eNoHand) (.type "BaseException") = some true)
    (ttNoHand : PySem.W.typeIn K (.ref eNoHand) = some (.type "type"))
    (xHeld : PySem.W.excIn K eHeld [.type "ValueError", .type "Exception", .type "BaseException", .type "object"] "ValueError.__new__" = true)
    (kkHeld : PySem.W.keepIn K (.ref eHeld) = true)
    (bbHeld : PySem.W.subIn K (.ref eHeld) (.type "BaseException") = some true)
    (ttHeld : PySem.W.typeIn K (.ref eHeld) = some (.type "type"))
    (xNotHeld : PySem.W.excIn K eNotHeld [.type "ValueError", .type "Exception", .type "BaseException", .type "object"] "ValueError.__new__" = true)
    (kkNotHeld : PySem.W.keepIn K (.ref eNotHeld) = true)
    (bbNotHeld : PySem.W.subIn K (.ref eNotHeld) (.type "BaseException") = some true)
    (ttNotHeld : PySem.W.typeIn K (.ref eNotHeld) = some (.type "type"))
    (vLAST_MARK : PySem.W.nsIn K mainGlobals "LAST_MARK" = some (some (.int 96 tLAST_MARK)))
    (vWHEEL : PySem.W.nsIn K mainGlobals "WHEEL" = some (some (.int 97 tWHEEL)))
    (vFEWEST_HANDS : PySem.W.nsIn K mainGlobals "FEWEST_HANDS" = some (some (.int 2 tFEWEST_HANDS)))
    (vMOST_HANDS : PySem.W.nsIn K mainGlobals "MOST_HANDS" = some (some (.int 4 tMOST_HANDS)))
    (zValueError : PySem.W.nsIn K mainGlobals "ValueError" = some none)
    (zbool : PySem.W.nsIn K mainGlobals "bool" = some none)
    (zint : PySem.W.nsIn K mainGlobals "int" = some none)
    (zisinstance : PySem.W.nsIn K mainGlobals "isinstance" = some none)
    (zlen : PySem.W.nsIn K mainGlobals "len" = some none)
    (zlist : PySem.W.nsIn K mainGlobals "list" = some none)
    (zrange : PySem.W.nsIn K mainGlobals "range" = some none)
    (zset : PySem.W.nsIn K mainGlobals "set" = some none)
    (zsorted : PySem.W.nsIn K mainGlobals "sorted" = some none)
    (zstr : PySem.W.nsIn K mainGlobals "str" = some none)
    (ztuple : PySem.W.nsIn K mainGlobals "tuple" = some none)
    (ykvNoHand : PySem.W.kitOne K (.ref eNoHand) (.type "ValueError") = some true)
    (ykvNoMark : PySem.W.kitOne K (.ref eNoMark) (.type "ValueError") = some true)
    (ykvHeld : PySem.W.kitOne K (.ref eHeld) (.type "ValueError") = some true)
    (ykvNotHeld : PySem.W.kitOne K (.ref eNotHeld) (.type "ValueError") = some true)
    (yk_NoHand_NoHand : PySem.W.kitOne K (.ref eNoHand) (.ref eNoHand) = some true)
    (yk_NoHand_NoMark : PySem.W.kitOne K (.ref eNoHand) (.ref eNoMark) = some false)
    (yk_NoHand_Held : PySem.W.kitOne K (.ref eNoHand) (.ref eHeld) = some false)
    (yk_NoHand_NotHeld : PySem.W.kitOne K (.ref eNoHand) (.ref eNotHeld) = some false)
    (yk_NoMark_NoHand : PySem.W.kitOne K (.ref eNoMark) (.ref eNoHand) = some false)
    (yk_NoMark_NoMark : PySem.W.kitOne K (.ref eNoMark) (.ref eNoMark) = some true)
    (yk_NoMark_Held : PySem.W.kitOne K (.ref eNoMark) (.ref eHeld) = some false)
    (yk_NoMark_NotHeld : PySem.W.kitOne K (.ref eNoMark) (.ref eNotHeld) = some false)
    (yk_Held_NoHand : PySem.W.kitOne K (.ref eHeld) (.ref eNoHand) = some false)
    (yk_Held_NoMark : PySem.W.kitOne K (.ref eHeld) (.ref eNoMark) = some false)
    (yk_Held_Held : PySem.W.kitOne K (.ref eHeld) (.ref eHeld) = some true)
    (yk_Held_NotHeld : PySem.W.kitOne K (.ref eHeld) (.ref eNotHeld) = some false)
    (yk_NotHeld_NoHand : PySem.W.kitOne K (.ref eNotHeld) (.ref eNoHand) = some false)
    (yk_NotHeld_NoMark : PySem.W.kitOne K (.ref eNotHeld) (.ref eNoMark) = some false)
    (yk_NotHeld_Held : PySem.W.kitOne K (.ref eNotHeld) (.ref eHeld) = some false)
    (yk_NotHeld_NotHeld : PySem.W.kitOne K (.ref eNotHeld) (.ref eNotHeld) = some true)
    (yktNoHand : PySem.W.kitAny K (.ref eNoHand) [.ref eLate, .ref eNoCount, .ref eNoInverse, .ref eNoLetter, .ref eNoSet, .ref eNoText, .ref eUnlike] = some false)
    (yktNoMark : PySem.W.kitAny K (.ref eNoMark) [.ref eLate, .ref eNoCount, .ref eNoInverse, .ref eNoLetter, .ref eNoSet, .ref eNoText, .ref eUnlike] = some false)
    (yktHeld : PySem.W.kitAny K (.ref eHeld) [.ref eLate, .ref eNoCount, .ref eNoInverse, .ref eNoLetter, .ref eNoSet, .ref eNoText, .ref eUnlike] = some false)
    (yktNotHeld : PySem.W.kitAny K (.ref eNotHeld) [.ref eLate, .ref eNoCount, .ref eNoInverse, .ref eNoLetter, .ref eNoSet, .ref eNoText, .ref eUnlike] = some false)
    (yq1_NoHand : PySem.W.findIn K (.ref eNoHand) "__getattribute__" = some (some (.builtin "BaseException.__getattribute__")))
    (yq2_NoHand : PySem.W.findIn K (.ref eNoHand) "__getattr__" = some none)
    (yq3_NoHand : PySem.W.subIn K (.ref eNoHand) (.type "BaseException") = some true)
    (yq4_NoHand : PySem.W.hasDictIn K eNoHand = true)
    (yq5_NoHand : PySem.W.findIn K (.ref eNoHand) "__class__" = some (some (.builtin "object.__class__")))
    (yq6_NoHand : PySem.W.specialIn K (.builtin "object.__class__") "__get__" = some (some (.builtin "getset_descriptor.__get__")))
    (yq7_NoHand : PySem.W.takesIn K (.builtin "object.__class__") = some true)
    (yq8_NoHand : PySem.W.mroIn K eNoHand (.type "object") = some true)
    (ys_NoHand_MendError : PySem.W.subIn K (.ref eNoHand) (.ref eMendError) = some true)
    (yq1_NoMark : PySem.W.findIn K (.ref eNoMark) "__getattribute__" = some (some (.builtin "BaseException.__getattribute__")))
    (yq2_NoMark : PySem.W.findIn K (.ref eNoMark) "__getattr__" = some none)
    (yq3_NoMark : PySem.W.subIn K (.ref eNoMark) (.type "BaseException") = some true)
    (yq4_NoMark : PySem.W.hasDictIn K eNoMark = true)
    (yq5_NoMark : PySem.W.findIn K (.ref eNoMark) "__class__" = some (some (.builtin "object.__class__")))
    (yq6_NoMark : PySem.W.specialIn K (.builtin "object.__class__") "__get__" = some (some (.builtin "getset_descriptor.__get__")))
    (yq7_NoMark : PySem.W.takesIn K (.builtin "object.__class__") = some true)
    (yq8_NoMark : PySem.W.mroIn K eNoMark (.type "object") = some true)
    (ys_NoMark_MendError : PySem.W.subIn K (.ref eNoMark) (.ref eMendError) = some true)
    (yq1_Held : PySem.W.findIn K (.ref eHeld) "__getattribute__" = some (some (.builtin "BaseException.__getattribute__")))
    (yq2_Held : PySem.W.findIn K (.ref eHeld) "__getattr__" = some none)
    (yq3_Held : PySem.W.subIn K (.ref eHeld) (.type "BaseException") = some true)
    (yq4_Held : PySem.W.hasDictIn K eHeld = true)
    (yq5_Held : PySem.W.findIn K (.ref eHeld) "__class__" = some (some (.builtin "object.__class__")))
    (yq6_Held : PySem.W.specialIn K (.builtin "object.__class__") "__get__" = some (some (.builtin "getset_descriptor.__get__")))
    (yq7_Held : PySem.W.takesIn K (.builtin "object.__class__") = some true)
    (yq8_Held : PySem.W.mroIn K eHeld (.type "object") = some true)
    (ys_Held_MendError : PySem.W.subIn K (.ref eHeld) (.ref eMendError) = some true)
    (yq1_NotHeld : PySem.W.findIn K (.ref eNotHeld) "__getattribute__" = some (some (.builtin "BaseException.__getattribute__")))
    (yq2_NotHeld : PySem.W.findIn K (.ref eNotHeld) "__getattr__" = some none)
    (yq3_NotHeld : PySem.W.subIn K (.ref eNotHeld) (.type "BaseException") = some true)
    (yq4_NotHeld : PySem.W.hasDictIn K eNotHeld = true)
    (yq5_NotHeld : PySem.W.findIn K (.ref eNotHeld) "__class__" = some (some (.builtin "object.__class__")))
    (yq6_NotHeld : PySem.W.specialIn K (.builtin "object.__class__") "__get__" = some (some (.builtin "getset_descriptor.__get__")))
    (yq7_NotHeld : PySem.W.takesIn K (.builtin "object.__class__") = some true)
    (yq8_NotHeld : PySem.W.mroIn K eNotHeld (.type "object") = some true)
    (ys_NotHeld_MendError : PySem.W.subIn K (.ref eNotHeld) (.ref eMendError) = some true)
    (yh1_MendError : PySem.W.subIn K (.ref eMendError) (.type "BaseException") = some true)
    (yh2_MendError : PySem.W.hasDictIn K eMendError = true)
    (yh3_MendError : PySem.W.typeIn K (.ref eMendError) = some (.type "type")) :
    LamX.LawAtS l w K L2.CX0 16 63 "_law_script" mg fa h := by
  have e := hfa.symm.trans (PySem.W.mg_of X G a28)
  cases e
  have F0 := fun_mk (st := s_is_set) l0 c0 k0
  have b0 := F0.binds (ps := ["marks"]) fun _ _ _ _ _ _ us hl => match us, hl with | [_], _ => rfl
  have F1 := fun_mk (st := s_refuse_unless_set) l1 c1 k1
  have b1 := F1.binds (ps := ["marks"]) fun _ _ _ _ _ _ us hl => match us, hl with | [_], _ => rfl
  have F2 := fun_mk (st := s_without) l2 c2 k2
  have b2 := F2.binds (ps := ["marks", "others"]) fun _ _ _ _ _ _ us hl => match us, hl with | [_, _], _ => rfl
  have F3 := fun_mk (st := s_apart) l3 c3 k3
  have b3 := F3.binds (ps := ["one", "other"]) fun _ _ _ _ _ _ us hl => match us, hl with | [_, _], _ => rfl
  have F4 := fun_mk (st := s_mended) l4 c4 k4
  have b4 := F4.binds (ps := ["own", "lacks", "over"]) fun _ _ _ _ _ _ us hl => match us, hl with | [_, _, _], _ => rfl
  have F5 := fun_mk (st := s_refuse_unless_mark) l5 c5 k5
  have b5 := F5.binds (ps := ["mark"]) fun _ _ _ _ _ _ us hl => match us, hl with | [_], _ => rfl
  have F6 := fun_mk (st := s_House___init__) l6 c6 k6
  have b6 := F6.binds (ps := ["self", "marks", "many"]) fun _ _ _ _ _ _ us hl => match us, hl with | [_, _, _], _ => rfl
  have F7 := fun_mk (st := s_House__refuse_unless_hand) l7 c7 k7
  have b7 := F7.binds (ps := ["self", "hand"]) fun _ _ _ _ _ _ us hl => match us, hl with | [_, _], _ => rfl
  have F8 := fun_mk (st := s_House_marks) l8 c8 k8
  have b8 := F8.binds (ps := ["self", "hand"]) fun _ _ _ _ _ _ us hl => match us, hl with | [_, _], _ => rfl
  have F9 := fun_mk (st := s_House__others) l9 c9 k9
  have b9 := F9.binds (ps := ["self", "hand"]) fun _ _ _ _ _ _ us hl => match us, hl with | [_, _], _ => rfl
  have F10 := fun_mk (st := s_House__change) l10 c10 k10
  have b10 := F10.binds (ps := ["self", "hand", "marks"]) fun _ _ _ _ _ _ us hl => match us, hl with | [_, _, _], _ => rfl
  have F11 := fun_mk (st := s_House_put) l11 c11 k11
  have b11 := F11.binds (ps := ["self", "hand", "mark"]) fun _ _ _ _ _ _ us hl => match us, hl with | [_, _, _], _ => rfl
  have F12 := fun_mk (st := s_House_take) l12 c12 k12
  have b12 := F12.binds (ps := ["self", "hand", "mark"]) fun _ _ _ _ _ _ us hl => match us, hl with | [_, _, _], _ => rfl
  have F13 := fun_mk (st := s_House__refuse_unless_two) l13 c13 k13
  have b13 := F13.binds (ps := ["self", "hand", "other"]) fun _ _ _ _ _ _ us hl => match us, hl with | [_, _, _], _ => rfl
  have F14 := fun_mk (st := s_House_deeds) l14 c14 k14
  have b14 := F14.binds (ps := ["self", "hand", "other"]) fun _ _ _ _ _ _ us hl => match us, hl with | [_, _, _], _ => rfl
  have F15 := fun_mk (st := s_House_turn) l15 c15 k15
  have b15 := F15.binds (ps := ["self", "hand", "other"]) fun _ _ _ _ _ _ us hl => match us, hl with | [_, _, _], _ => rfl
  have F16 := fun_mk (st := s__law_start) l16 c16 k16
  have b16 := F16.binds (ps := ["_law_script"]) fun _ _ _ _ _ _ us hl => match us, hl with | [_], _ => rfl
  have F17 := fun_mk (st := s__law_drawn) l17 c17 k17
  have b17 := F17.binds (ps := ["_law_state", "_law_many"]) fun _ _ _ _ _ _ us hl => match us, hl with | [_, _], _ => rfl
  have F18 := fun_mk (st := s__law_set) l18 c18 k18
  have b18 := F18.binds (ps := ["_law_state", "_law_most"]) fun _ _ _ _ _ _ us hl => match us, hl with | [_, _], _ => rfl
  have F19 := fun_mk (st := s__law_apart) l19 c19 k19
  have b19 := F19.binds (ps := ["_law_one", "_law_other"]) fun _ _ _ _ _ _ us hl => match us, hl with | [_, _], _ => rfl
  have F20 := fun_mk (st := s__law_same) l20 c20 k20
  have b20 := F20.binds (ps := ["_law_found", "_law_due_here"]) fun _ _ _ _ _ _ us hl => match us, hl with | [_, _], _ => rfl
  have F21 := fun_mk (st := s__law_house) l21 c21 k21
  have b21 := F21.binds (ps := ["_law_marks", "_law_many"]) fun _ _ _ _ _ _ us hl => match us, hl with | [_, _], _ => rfl
  have F22 := fun_mk (st := s__law_gains) l22 c22 k22
  have b22 := F22.binds (ps := ["_law_h", "_law_hand", "_law_marks"]) fun _ _ _ _ _ _ us hl => match us, hl with | [_, _, _], _ => rfl
  have F23 := fun_mk (st := s__law_is) l23 c23 k23
  have b23 := F23.binds (ps := ["_law_house_here", "_law_h"]) fun _ _ _ _ _ _ us hl => match us, hl with | [_, _], _ => rfl
  have F24 := fun_mk (st := s__law_kind) l24 c24 k24
  have b24 := F24.binds (ps := ["_law_work"]) fun _ _ _ _ _ _ us hl => match us, hl with | [_], _ => rfl
  have F25 := fun_mk (st := s__law_odd) l25 c25 k25
  have b25 := F25.binds (ps := ["_law_state", "_law_most"]) fun _ _ _ _ _ _ us hl => match us, hl with | [_, _], _ => rfl
  have F26 := fun_mk (st := s__law_due) l26 c26 k26
  have b26 := F26.binds (ps := ["_law_h", "_law_hand", "_law_mark", "_law_puts"]) fun _ _ _ _ _ _ us hl => match us, hl with | [_, _, _, _], _ => rfl
  have F27 := fun_mk (st := s__law_deed) l27 c27 k27
  have b27 := F27.binds (ps := ["_law_state", "_law_house_here", "_law_h"]) fun _ _ _ _ _ _ us hl => match us, hl with | [_, _, _], _ => rfl
  have F28 := fun_mk (st := s_law) l28 c28 k28
  have b28 := F28.binds (ps := ["_law_script"]) fun _ _ _ _ _ _ us hl => match us, hl with | [_], _ => rfl
  subst tc27
  have tt27 := Lm.tab_of X tf (by decide) (PySem.W.mg_of X G a27) l27 rfl rfl tl27 rfl tp27
  subst tc28
  have tt28 := Lm.tab_of X tf (by decide) (PySem.W.mg_of X G a28) l28 rfl rfl tl28 rfl tp28
  refine ⟨PySem.W.fnOf "law" "law" (defArgs s_law) (defBody s_law) (defScope s_law) .none kV28 dc28 pm28 an28 (.ref cT28) ct28, [(cT27, PT27), (cT28, PT28)], sp_law K PT27 PT28, List.forall_mem_cons.mpr ⟨tt27.1, List.forall_mem_cons.mpr ⟨tt28.1, (fun _ z => nomatch z)⟩⟩, List.forall_mem_cons.mpr ⟨tn27, List.forall_mem_cons.mpr ⟨tn28, (fun _ z => nomatch z)⟩⟩, List.forall_mem_cons.mpr ⟨tt27.2, List.forall_mem_cons.mpr ⟨tt28.2, (fun _ z => nomatch z)⟩⟩, fun s v => .of_eq rfl, fun H a ns hl hb hT hS => ⟨a, ns, rfl, hS, hl, hT _ List.mem_cons_self, hT _ (List.mem_cons_of_mem _ List.mem_cons_self), fun _ => rfl⟩, fun base _ _ hTB => ?_⟩
  have TB27 : LamX.TabB base mg cT27 PT27 := hTB (cT27, PT27) (by simp)
  have TB28 : LamX.TabB base mg cT28 PT28 := hTB (cT28, PT28) (by simp)
  have T : Txt K mg base (⟨f0, _, f1, _, f2, _, f3, _, f4, _, f5, _, f6, _, f7, _, f8, _, f9, _, f10, _, f11, _, f12, _, f13, _, f14, _, f15, _, f16, _, f17, _, f18, _, f19, _, f20, _, f21, _, f22, _, f23, _, f24, _, f25, _, f26, _, f27, _, fa, _, cT27, PT27, cT28, PT28, eHouse, eMendError, eNoSet, eNoMark, eNoInverse, eNoCount, eNoHand, eNoLetter, eNoText, eHeld, eNotHeld, eUnlike, eLate, tLAST_MARK, tWHEEL, tFEWEST_HANDS, tMOST_HANDS⟩ : Ad) := ⟨F0, k0, PySem.W.mg_of X G a0, b0, F1, k1, PySem.W.mg_of X G a1, b1, F2, k2, PySem.W.mg_of X G a2, b2, F3, k3, PySem.W.mg_of X G a3, b3, F4, k4, PySem.W.mg_of X G a4, b4, F5, k5, PySem.W.mg_of X G a5, b5, F6, k6, ⟨a6, i6, k6⟩, b6, F7, k7, ⟨a7, i7, k7⟩, b7, F8, k8, ⟨a8, i8, k8⟩, b8, F9, k9, ⟨a9, i9, k9⟩, b9, F10, k10, ⟨a10, i10, k10⟩, b10, F11, k11, ⟨a11, i11, k11⟩, b11, F12, k12, ⟨a12, i12, k12⟩, b12, F13, k13, ⟨a13, i13, k13⟩, b13, F14, k14, ⟨a14, i14, k14⟩, b14, F15, k15, ⟨a15, i15, k15⟩, b15, F16, k16, PySem.W.mg_of X G a16, b16, F17, k17, PySem.W.mg_of X G a17, b17, F18, k18, PySem.W.mg_of X G a18, b18, F19, k19, PySem.W.mg_of X G a19, b19, F20, k20, PySem.W.mg_of X G a20, b20, F21, k21, PySem.W.mg_of X G a21, b21, F22, k22, PySem.W.mg_of X G a22, b22, F23, k23, PySem.W.mg_of X G a23, b23, F24, k24, PySem.W.mg_of X G a24, b24, F25, k25, PySem.W.mg_of X G a25, b25, F26, k26, PySem.W.mg_of X G a26, b26, F27, k27, PySem.W.mg_of X G a27, b27, F28, k28, PySem.W.mg_of X G a28, b28, PySem.W.mg_of X G vLAST_MARK, PySem.W.mg_of X G vWHEEL, PySem.W.mg_of X G vFEWEST_HANDS, PySem.W.mg_of X G vMOST_HANDS, PySem.W.mg_none_of X G zValueError, PySem.W.mg_none_of X G zbool, PySem.W.mg_none_of X G zint, PySem.W.mg_none_of X G zisinstance, PySem.W.mg_none_of X G zlen, PySem.W.mg_none_of X G zlist, PySem.W.mg_none_of X G zrange, PySem.W.mg_none_of X G zset, PySem.W.mg_none_of X G zsorted, PySem.W.mg_none_of X G zstr, PySem.W.mg_none_of X G ztuple, PySem.W.mg_of X G gMendError, PySem.W.mg_of X G gNoSet, PySem.W.mg_of X G gNoMark, PySem.W.mg_of X G gNoInverse, PySem.W.mg_of X G gNoCount, PySem.W.mg_of X G gNoHand, PySem.W.mg_of X G gNoLetter, PySem.W.mg_of X G gNoText, PySem.W.mg_of X G gHeld, PySem.W.mg_of X G gNotHeld, PySem.W.mg_of X G gUnlike, PySem.W.mg_of X G gLate, rfl, TB27, rfl, TB28, nt27_28, PySem.W.mg_of X G gHouse, ⟨pgHouse, hdHouse, poHouse, saHouse⟩, ⟨mkHouse, a6, i6, kcHouse⟩, naHouse_sets, naHouse_deeds, naHouse_turns, xNoSet, kkNoSet, bbNoSet, ttNoSet, xNoMark, kkNoMark, bbNoMark, ttNoMark, xNoHand, kkNoHand, bbNoHand, ttNoHand, xHeld, kkHeld, bbHeld, ttHeld, xNotHeld, kkNotHeld, bbNotHeld, ttNotHeld, ykvNoHand, ykvNoMark, ykvHeld, ykvNotHeld, yk_NoHand_NoHand, yk_NoHand_NoMark, yk_NoHand_Held, yk_NoHand_NotHeld, yk_NoMark_NoHand, yk_NoMark_NoMark, yk_NoMark_Held, yk_NoMark_NotHeld, yk_Held_NoHand, yk_Held_NoMark, yk_Held_Held, yk_Held_NotHeld, yk_NotHeld_NoHand, yk_NotHeld_NoMark, yk_NotHeld_Held, yk_NotHeld_NotHeld, yktNoHand, yktNoMark, yktHeld, yktNotHeld, yq1_NoHand, yq2_NoHand, yq3_NoHand, yq4_NoHand, yq5_NoHand, yq6_NoHand, yq7_NoHand, yq8_NoHand, ys_NoHand_MendError, yq1_NoMark, yq2_NoMark, yq3_NoMark, yq4_NoMark, yq5_NoMark, yq6_NoMark, yq7_NoMark, yq8_NoMark, ys_NoMark_MendError, yq1_Held, yq2_Held, yq3_Held, yq4_Held, yq5_Held, yq6_Held, yq7_Held, yq8_Held, ys_Held_MendError, yq1_NotHeld, yq2_NotHeld, yq3_NotHeld, yq4_NotHeld, yq5_NotHeld, yq6_NotHeld, yq7_NotHeld, yq8_NotHeld, ys_NotHeld_MendError, yh1_MendError, yh2_MendError, yh3_MendError⟩
  exact ok_law T
end My
open PySem PySem.W PyProof.Rows
set_option maxHeartbeats 0 in
theorem PySem.Challenge.cw_setmend_k18_deeds_of_hands_holds : PySem.Challenge.rw_setmend_k18_deeds_of_hands.Holds := by
  w_on; o_law; k_head; (case hw => w_witness2)
  k_fill
  refine Lm.walk_tabs (l := PySem.Challenge.rw_setmend_k18_deeds_of_hands) (n := 63) (k := 16) (x := "_law_script") (CX := fun _ => L2.CX0) ["_law_deed", "law"] rfl (by decide) rfl ⟨rfl, by decide, by decide⟩ (by decide +kernel) (fun w h Y => PySem.W.km_in_of Y) ?F (fun _ _ _ _ _ h => h)
  case F =>
    intro w mg fa h KX G hmg tf
    refine' My.all_mk KX G hmg tf ?gHouse ?pgHouse ?hdHouse ?poHouse ?saHouse ?mkHouse ?kcHouse ?naHouse_sets ?naHouse_deeds ?naHouse_turns ?a0 ?l0 ?c0 ?k0 ?a1 ?l1 ?c1 ?k1 ?a2 ?l2 ?c2 ?k2 ?a3 ?l3 ?c3 ?k3 ?a4 ?l4 ?c4 ?k4 ?a5 ?l5 ?c5 ?k5 ?a6 ?i6 ?l6 ?c6 ?k6 ?a7 ?i7 ?l7 ?c7 ?k7 ?a8 ?i8 ?l8 ?c8 ?k8 ?a9 ?i9 ?l9 ?c9 ?k9 ?a10 ?i10 ?l10 ?c10 ?k10 ?a11 ?i11 ?l11 ?c11 ?k11 ?a12 ?i12 ?l12 ?c12 ?k12 ?a13 ?i13 ?l13 ?c13 ?k13 ?a14 ?i14 ?l14 ?c14 ?k14 ?a15 ?i15 ?l15 ?c15 ?k15 ?a16 ?l16 ?c16 ?k16 ?a17 ?l17 ?c17 ?k17 ?a18 ?l18 ?c18 ?k18 ?a19 ?l19 ?c19 ?k19 ?a20 ?l20 ?c20 ?k20 ?a21 ?l21 ?c21 ?k21 ?a22 ?l22 ?c22 ?k22 ?a23 ?l23 ?c23 ?k23 ?a24 ?l24 ?c24 ?k24 ?a25 ?l25 ?c25 ?k25 ?a26 ?l26 ?c26 ?k26 ?a27 ?l27 ?c27 ?k27 ?tc27 ?tl27 ?tp27 ?tn27 ?a28 ?l28 ?c28 ?k28 ?tc28 ?tl28 ?tp28 ?tn28 ?nt27_28 ?gMendError ?gNoSet ?gNoMark ?gNoInverse ?gNoCount ?gNoHand ?gNoLetter ?gNoText ?gHeld ?gNotHeld ?gUnlike ?gLate ?xNoSet ?kkNoSet ?bbNoSet ?ttNoSet ?xNoMark ?kkNoMark ?bbNoMark ?ttNoMark ?xNoHand ?kkNoHand ?bbNoHand ?ttNoHand ?xHeld ?kkHeld ?bbHeld ?ttHeld ?xNotHeld ?kkNotHeld ?bbNotHeld ?ttNotHeld ?vLAST_MARK ?vWHEEL ?vFEWEST_HANDS ?vMOST_HANDS ?zValueError ?zbool ?zint ?zisinstance ?zlen ?zlist ?zrange ?zset ?zsorted ?zstr ?ztuple ?ykvNoHand ?ykvNoMark ?ykvHeld ?ykvNotHeld ?yk_NoHand_NoHand ?yk_NoHand_NoMark ?yk_NoHand_Held ?yk_NoHand_NotHeld ?yk_NoMark_NoHand ?yk_NoMark_NoMark ?yk_NoMark_Held ?yk_NoMark_NotHeld ?yk_Held_NoHand ?yk_Held_NoMark ?yk_Held_Held ?yk_Held_NotHeld ?yk_NotHeld_NoHand ?yk_NotHeld_NoMark ?yk_NotHeld_Held ?yk_NotHeld_NotHeld ?yktNoHand ?yktNoMark ?yktHeld ?yktNotHeld ?yq1_NoHand ?yq2_NoHand ?yq3_NoHand ?yq4_NoHand ?yq5_NoHand ?yq6_NoHand ?yq7_NoHand ?yq8_NoHand ?ys_NoHand_MendError ?yq1_NoMark ?yq2_NoMark ?yq3_NoMark ?yq4_NoMark ?yq5_NoMark ?yq6_NoMark ?yq7_NoMark ?yq8_NoMark ?ys_NoMark_MendError ?yq1_Held ?yq2_Held ?yq3_Held ?yq4_Held ?yq5_Held ?yq6_Held ?yq7_Held ?yq8_Held ?ys_Held_MendError ?yq1_NotHeld ?yq2_NotHeld ?yq3_NotHeld ?yq4_NotHeld ?yq5_NotHeld ?yq6_NotHeld ?yq7_NotHeld ?yq8_NotHeld ?ys_NotHeld_MendError ?yh1_MendError ?yh2_MendError ?yh3_MendError
    (case gHouse => first | k_is | (first | rfl | k_is)); (case pgHouse => first | k_is | (first | rfl | k_is)); (case hdHouse => first | k_is | (first | rfl | k_is)); (case poHouse => first | k_is | (first | rfl | k_is)); (case saHouse => first | k_is | (first | rfl | k_is)); (case mkHouse => first | k_is | (first | rfl | k_is)); (case kcHouse => first | k_is | (first | rfl | k_is)); (case naHouse_sets => first | k_is | (first | rfl | k_is)); (case naHouse_deeds => first | k_is | (first | rfl | k_is)); (case naHouse_turns => first | k_is | (first | rfl | k_is)); (case a0 => first | k_is | (first | rfl | k_is)); (case l0 => first | k_is | (first | rfl | k_is)); (case c0 => first | k_is | (first | rfl | k_is)); (case k0 => first | k_is | (first | rfl | k_is)); (case a1 => first | k_is | (first | rfl | k_is)); (case l1 => first | k_is | (first | rfl | k_is)); (case c1 => first | k_is | (first | rfl | k_is)); (case k1 => first | k_is | (first | rfl | k_is)); (case a2 => first | k_is | (first | rfl | k_is)); (case l2 => first | k_is | (first | rfl | k_is)); (case c2 => first | k_is | (first | rfl | k_is)); (case k2 => first | k_is | (first | rfl | k_is)); (case a3 => first | k_is | (first | rfl | k_is)); (case l3 => first | k_is | (first | rfl | k_is)); (case c3 => first | k_is | (first | rfl | k_is)); (case k3 => first | k_is | (first | rfl | k_is)); (case a4 => first | k_is | (first | rfl | k_is)); (case l4 => first | k_is | (first | rfl | k_is)); (case c4 => first | k_is | (first | rfl | k_is)); (case k4 => first | k_is | (first | rfl | k_is)); (case a5 => first | k_is | (first | rfl | k_is)); (case l5 => first | k_is | (first | rfl | k_is)); (case c5 => first | k_is | (first | rfl | k_is)); (case k5 => first | k_is | (first | rfl | k_is)); (case a6 => first | k_is | (first | rfl | k_is)); (case i6 => first | k_is | (first | rfl | k_is)); (case l6 => first | k_is | (first | rfl | k_is)); (case c6 => first | k_is | (first | rfl | k_is)); (case k6 => first | k_is | (first | rfl | k_is)); (case a7 => first | k_is | (first | rfl | k_is)); (case i7 => first | k_is | (first | rfl | k_is)); (case l7 => first | k_is | (first | rfl | k_is)); (case c7 => first | k_is | (first | rfl | k_is)); (case k7 => first | k_is | (first | rfl | k_is)); (case a8 => first | k_is | (first | rfl | k_is)); (case i8 => first | k_is | (first | rfl | k_is)); (case l8 => first | k_is | (first | rfl | k_is)); (case c8 => first | k_is | (first | rfl | k_is)); (case k8 => first | k_is | (first | rfl | k_is)); (case a9 => first | k_is | (first | rfl | k_is)); (case i9 => first | k_is | (first | rfl | k_is)); (case l9 => first | k_is | (first | rfl | k_is)); (case c9 => first | k_is | (first | rfl | k_is)); (case k9 => first | k_is | (first | rfl | k_is)); (case a10 => first | k_is | (first | rfl | k_is)); (case i10 => first | k_is | (first | rfl | k_is)); (case l10 => first | k_is | (first | rfl | k_is)); (case c10 => first | k_is | (first | rfl | k_is)); (case k10 => first | k_is | (first | rfl | k_is)); (case a11 => first | k_is | (first | rfl | k_is)); (case i11 => first | k_is | (first | rfl | k_is)); (case l11 => first | k_is | (first | rfl | k_is)); (case c11 => first | k_is | (first | rfl | k_is)); (case k11 => first | k_is | (first | rfl | k_is)); (case a12 => first | k_is | (first | rfl | k_is)); (case i12 => first | k_is | (first | rfl | k_is)); (case l12 => first | k_is | (first | rfl | k_is)); (case c12 => first | k_is | (first | rfl | k_is)); (case k12 => first | k_is | (first | rfl | k_is)); (case a13 => first | k_is | (first | rfl | k_is)); (case i13 => first | k_is | (first | rfl | k_is)); (case l13 => first | k_is | (first | rfl | k_is)); (case c13 => first | k_is | (first | rfl | k_is)); (case k13 => first | k_is | (first | rfl | k_is)); (case a14 => first | k_is | (first | rfl | k_is)); (case i14 => first | k_is | (first | rfl | k_is)); (case l14 => first | k_is | (first | rfl | k_is)); (case c14 => first | k_is | (first | rfl | k_is)); (case k14 => first | k_is | (first | rfl | k_is)); (case a15 => first | k_is | (first | rfl | k_is)); (case i15 => first | k_is | (first | rfl | k_is)); (case l15 => first | k_is | (first | rfl | k_is)); (case c15 => first | k_is | (first | rfl | k_is)); (case k15 => first | k_is | (first | rfl | k_is)); (case a16 => first | k_is | (first | rfl | k_is)); (case l16 => first | k_is | (first | rfl | k_is)); (case c16 => first | k_is | (first | rfl | k_is)); (case k16 => first | k_is | (first | rfl | k_is)); (case a17 => first | k_is | (first | rfl | k_is)); (case l17 => first | k_is | (first | rfl | k_is)); (case c17 => first | k_is | (first | rfl | k_is)); (case k17 => first | k_is | (first | rfl | k_is)); (case a18 => first | k_is | (first | rfl | k_is)); (case l18 => first | k_is | (first | rfl | k_is)); (case c18 => first | k_is | (first | rfl | k_is)); (case k18 => first | k_is | (first | rfl | k_is)); (case a19 => first | k_is | (first | rfl | k_is)); (case l19 => first | k_is | (first | rfl | k_is)); (case c19 => first | k_is | (first | rfl | k_is)); (case k19 => first | k_is | (first | rfl | k_is)); (case a20 => first | k_is | (first | rfl | k_is)); (case l20 => first | k_is | (first | rfl | k_is)); (case c20 => first | k_is | (first | rfl | k_is)); (case k20 => first | k_is | (first | rfl | k_is)); (case a21 => first | k_is | (first | rfl | k_is)); (case l21 => first | k_is | (first | rfl | k_is)); (case c21 => first | k_is | (first | rfl | k_is)); (case k21 => first | k_is | (first | rfl | k_is)); (case a22 => first | k_is | (first | rfl | k_is)); (case l22 => first | k_is | (first | rfl | k_is)); (case c22 => first | k_is | (first | rfl | k_is)); (case k22 => first | k_is | (first | rfl | k_is)); (case a23 => first | k_is | (first | rfl | k_is)); (case l23 => first | k_is | (first | rfl | k_is)); (case c23 => first | k_is | (first | rfl | k_is)); (case k23 => first | k_is | (first | rfl | k_is)); (case a24 => first | k_is | (first | rfl | k_is)); (case l24 => first | k_is | (first | rfl | k_is)); (case c24 => first | k_is | (first | rfl | k_is)); (case k24 => first | k_is | (first | rfl | k_is)); (case a25 => first | k_is | (first | rfl | k_is)); (case l25 => first | k_is | (first | rfl | k_is)); (case c25 => first | k_is | (first | rfl | k_is)); (case k25 => first | k_is | (first | rfl | k_is)); (case a26 => first | k_is | (first | rfl | k_is)); (case l26 => first | k_is | (first | rfl | k_is)); (case c26 => first | k_is | (first | rfl | k_is)); (case k26 => first | k_is | (first | rfl | k_is)); (case a27 => first | k_is | (first | rfl | k_is)); (case l27 => first | k_is | (first | rfl | k_is)); (case c27 => first | k_is | (first | rfl | k_is)); (case k27 => first | k_is | (first | rfl | k_is)); (case tc27 => first | k_is | (first | rfl | k_is)); (case tl27 => first | k_is | (first | rfl | k_is)); (case tp27 => first | k_is | (first | rfl | k_is)); (case tn27 => first | k_is | (first | rfl | k_is)); (case a28 => first | k_is | (first | rfl | k_is)); (case l28 => first | k_is | (first | rfl | k_is)); (case c28 => first | k_is | (first | rfl | k_is)); (case k28 => first | k_is | (first | rfl | k_is)); (case tc28 => first | k_is | (first | rfl | k_is)); (case tl28 => first | k_is | (first | rfl | k_is)); (case tp28 => first | k_is | (first | rfl | k_is)); (case tn28 => first | k_is | (first | rfl | k_is)); (case nt27_28 => decide); (case gMendError => first | k_is | (first | rfl | k_is)); (case gNoSet => first | k_is | (first | rfl | k_is)); (case gNoMark => first | k_is | (first | rfl | k_is)); (case gNoInverse => first | k_is | (first | rfl | k_is)); (case gNoCount => first | k_is | (first | rfl | k_is)); (case gNoHand => first | k_is | (first | rfl | k_is)); (case gNoLetter => first | k_is | (first | rfl | k_is)); (case gNoText => first | k_is | (first | rfl | k_is)); (case gHeld => first | k_is | (first | rfl | k_is)); (case gNotHeld => first | k_is | (first | rfl | k_is)); (case gUnlike => first | k_is | (first | rfl | k_is)); (case gLate => first | k_is | (first | rfl | k_is)); (case xNoSet => k_exc); (case kkNoSet => first | k_is | (first | rfl | k_is)); (case bbNoSet => first | k_is | (first | rfl | k_is)); (case ttNoSet => first | k_is | (first | rfl | k_is)); (case xNoMark => k_exc); (case kkNoMark => first | k_is | (first | rfl | k_is)); (case bbNoMark => first | k_is | (first | rfl | k_is)); (case ttNoMark => first | k_is | (first | rfl | k_is)); (case xNoHand => k_exc); (case kkNoHand => first | k_is | (first | rfl | k_is)); (case bbNoHand => first | k_is | (first | rfl | k_is)); (case ttNoHand => first | k_is | (first | rfl | k_is)); (case xHeld => k_exc); (case kkHeld => first | k_is | (first | rfl | k_is)); (case bbHeld => first | k_is | (first | rfl | k_is)); (case ttHeld => first | k_is | (first | rfl | k_is)); (case xNotHeld => k_exc); (case kkNotHeld => first | k_is | (first | rfl | k_is)); (case bbNotHeld => first | k_is | (first | rfl | k_is)); (case ttNotHeld => first | k_is | (first | rfl | k_is)); (case vLAST_MARK => first | k_is | (first | rfl | k_is)); (case vWHEEL => first | k_is | (first | rfl | k_is)); (case vFEWEST_HANDS => first | k_is | (first | rfl | k_is)); (case vMOST_HANDS => first | k_is | (first | rfl | k_is)); (case zValueError => first | k_is | (first | rfl | k_is)); (case zbool => first | k_is | (first | rfl | k_is)); (case zint => first | k_is | (first | rfl | k_is)); (case zisinstance => first | k_is | (first | rfl | k_is)); (case zlen => first | k_is | (first | rfl | k_is)); (case zlist => first | k_is | (first | rfl | k_is)); (case zrange => first | k_is | (first | rfl | k_is)); (case zset => first | k_is | (first | rfl | k_is)); (case zsorted => first | k_is | (first | rfl | k_is)); (case zstr => first | k_is | (first | rfl | k_is)); (case ztuple => first | k_is | (first | rfl | k_is)); (case ykvNoHand => first | k_is | (first | rfl | k_is)); (case ykvNoMark => first | k_is | (first | rfl | k_is)); (case ykvHeld => first | k_is | (first | rfl | k_is)); (case ykvNotHeld => first | k_is | (first | rfl | k_is)); (case yk_NoHand_NoHand => first | k_is | (first | rfl | k_is)); (case yk_NoHand_NoMark => first | k_is | (first | rfl | k_is)); (case yk_NoHand_Held => first | k_is | (first | rfl | k_is)); (case yk_NoHand_NotHeld => first | k_is | (first | rfl | k_is)); (case yk_NoMark_NoHand => first | k_is | (first | rfl | k_is)); (case yk_NoMark_NoMark => first | k_is | (first | rfl | k_is)); (case yk_NoMark_Held => first | k_is | (first | rfl | k_is)); (case yk_NoMark_NotHeld => first | k_is | (first | rfl | k_is)); (case yk_Held_NoHand => first | k_is | (first | rfl | k_is)); (case yk_Held_NoMark => first | k_is | (first | rfl | k_is)); (case yk_Held_Held => first | k_is | (first | rfl | k_is)); (case yk_Held_NotHeld => first | k_is | (first | rfl | k_is)); (case yk_NotHeld_NoHand => first | k_is | (first | rfl | k_is)); (case yk_NotHeld_NoMark => first | k_is | (first | rfl | k_is)); (case yk_NotHeld_Held => first | k_is | (first | rfl | k_is)); (case yk_NotHeld_NotHeld => first | k_is | (first | rfl | k_is)); (case yktNoHand => first | k_is | (first | rfl | k_is)); (case yktNoMark => first | k_is | (first | rfl | k_is)); (case yktHeld => first | k_is | (first | rfl | k_is)); (case yktNotHeld => first | k_is | (first | rfl | k_is)); (case yq1_NoHand => first | k_is | (first | rfl | k_is)); (case yq2_NoHand => first | k_is | (first | rfl | k_is)); (case yq3_NoHand => first | k_is | (first | rfl | k_is)); (case yq4_NoHand => first | k_is | (first | rfl | k_is)); (case yq5_NoHand => first | k_is | (first | rfl | k_is)); (case yq6_NoHand => first | k_is | (first | rfl | k_is)); (case yq7_NoHand => first | k_is | (first | rfl | k_is)); (case yq8_NoHand => first | k_is | (first | rfl | k_is)); (case ys_NoHand_MendError => first | k_is | (first | rfl | k_is)); (case yq1_NoMark => first | k_is | (first | rfl | k_is)); (case yq2_NoMark => first | k_is | (first | rfl | k_is)); (case yq3_NoMark => first | k_is | (first | rfl | k_is)); (case yq4_NoMark => first | k_is | (first | rfl | k_is)); (case yq5_NoMark => first | k_is | (first | rfl | k_is)); (case yq6_NoMark => first | k_is | (first | rfl | k_is)); (case yq7_NoMark => first | k_is | (first | rfl | k_is)); (case yq8_NoMark => first | k_is | (first | rfl | k_is)); (case ys_NoMark_MendError => first | k_is | (first | rfl | k_is)); (case yq1_Held => first | k_is | (first | rfl | k_is)); (case yq2_Held => first | k_is | (first | rfl | k_is)); (case yq3_Held => first | k_is | (first | rfl | k_is)); (case yq4_Held => first | k_is | (first | rfl | k_is)); (case yq5_Held => first | k_is | (first | rfl | k_is)); (case yq6_Held => first | k_is | (first | rfl | k_is)); (case yq7_Held => first | k_is | (first | rfl | k_is)); (case yq8_Held => first | k_is | (first | rfl | k_is)); (case ys_Held_MendError => first | k_is | (first | rfl | k_is)); (case yq1_NotHeld => first | k_is | (first | rfl | k_is)); (case yq2_NotHeld => first | k_is | (first | rfl | k_is)); (case yq3_NotHeld => first | k_is | (first | rfl | k_is)); (case yq4_NotHeld => first | k_is | (first | rfl | k_is)); (case yq5_NotHeld => first | k_is | (first | rfl | k_is)); (case yq6_NotHeld => first | k_is | (first | rfl | k_is)); (case yq7_NotHeld => first | k_is | (first | rfl | k_is)); (case yq8_NotHeld => first | k_is | (first | rfl | k_is)); (case ys_NotHeld_MendError => first | k_is | (first | rfl | k_is)); (case yh1_MendError => first | k_is | (first | rfl | k_is)); (case yh2_MendError => first | k_is | (first | rfl | k_is)); (case yh3_MendError => first | k_is | (first | rfl | k_is))
