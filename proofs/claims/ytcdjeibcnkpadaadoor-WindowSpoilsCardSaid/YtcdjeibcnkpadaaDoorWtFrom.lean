/-
  From: a range over nodes that tells pairs; regions that draw their order, in a round.
-/
import Derived.Test.YtcdjeibcnkpadaaDoorWa1
import Derived.Deep.RegionHeld3
namespace Go.Proofs.YtcdjeibcnkpadaaDoor
open Go.RowKit Go.Shelf Go.Maps Dg
set_option linter.unusedVariables false
/-- In a round an operation that defers nothing does what it does elsewhere. -/
theorem wpIn_round {n l : Nat} {P : Program} {o : Oper} {a : Act} {w : World} {K : Act → World → Prop} {Q : Exit → Act → World → Prop} (hd : ∀ c, o.op ≠ .defer c)
    (h : o.wp P a w K Q) : Oper.wpIn (Fence.wide.inRound l) n P o a w K Q := by
  unfold Oper.wpIn
  refine ⟨fun _ _ => trivial, ?_⟩
  rw [Oper.semAt_plain (Fence.wide.inRound l) _ _ hd]
  unfold Oper.wp at h
  cases hres : (execOp a.eval o).run P w with
  | ok x W =>
    rw [hres] at h
    cases x with
    | enter f args =>
      rw [Oper.upon_enter] at h
      exact ⟨fun hh => (by cases hh), CallsIn.mono (CallsIn.inRound l (callsIn_wide.2 h)) (fun e W2 he => by cases e <;> exact he)⟩
    | row r args =>
      rw [Oper.upon_row] at h
      exact ⟨fun hh => (by cases hh), fun c cs _ => let ⟨v, w', r, s⟩ := h c cs; ⟨v, w', r, stepsIn_wide.2 s⟩⟩
    | _ => first | exact h | exact h.elim
  | halt x W =>
    rw [hres] at h
    cases x <;> first | exact h | exact h.elim
theorem wpOpIn_round {n l : Nat} {P : Program} {ops : Array Oper} {Q : Exit → Act → World → Prop} (hd : ∀ (i : Nat) o c, ops[i]? = some o → o.op ≠ .defer c) (hq : ¬ LetsOut Q) {i : Nat} {K K' : Act → World → Prop} (hK : ∀ a w, K a w → K' a w) {a : Act} {w : World}
    (h : wpOp P ops Q i K a w) : wpOpIn (Fence.wide.inRound l) n P ops Q i K' a w := by
  unfold wpOp at h
  unfold wpOpIn
  cases ho : ops[i]? with
  | none => rw [ho] at h; exact hK _ _ h
  | some o =>
    rw [ho] at h
    simp only at h ⊢
    split
    · rename_i hw
      rw [if_pos hw] at h
      rcases h with h | ⟨-, h⟩
      · exact Oper.wpIn_mono hK (wpIn_round (fun c => hd i o c ho) h)
      · exact absurd h hq
    · rename_i hw
      rw [if_neg hw] at h
      exact ⟨fun _ _ => trivial, hK _ _ h⟩
theorem wpAnyIn_round {n l : Nat} {P : Program} {md : Region.Mode} {ops : Array Oper} {Q : Exit → Act → World → Prop} (hd : ∀ (i : Nat) o c, ops[i]? = some o → o.op ≠ .defer c) (hq : ¬ LetsOut Q) :
    ∀ (fuel : Nat) (listed : Array Bool) (a : Act) (w : World), wpAny P md ops Q fuel listed a w → wpAnyIn (Fence.wide.inRound l) n P md ops Q fuel listed a w
  | 0, _, _, _, h => h
  | fuel + 1, listed, _, _, h => ⟨h.1, fun i hi => wpOpIn_round hd hq (fun a w h2 => wpAnyIn_round hd hq fuel _ a w h2) (h.2 i hi)⟩
/-- Is nothing deferred? -/
def deferless (ops : Array Oper) : Bool := ops.all fun o => match o.op with | .defer _ => false | _ => true
theorem deferless_at {ops : Array Oper} (h : deferless ops = true) : ∀ (i : Nat) o c, ops[i]? = some o → o.op ≠ .defer c := by
  intro i o c ho e
  unfold deferless at h
  rw [Array.all_eq_true] at h
  obtain ⟨hi, hx⟩ := Array.getElem?_eq_some_iff.1 ho
  have := h i hi
  rw [hx, e] at this
  cases this
/-- A region that draws its order, in a round. -/
theorem wpIn_held_round {n l : Nat} {P : Program} {ops : Array Oper} {Q : Exit → Act → World → Prop} {S : World → Prop} {id : Nat} {a : Act} {w : World} (hm : P.follows .mixedOrders = true) (hd : deferless ops = true) (hq : ¬ LetsOut Q) (hS : S w.drew)
    (h : S w.drew → wpAnyH P .any ops Q S ops.size (Array.replicate ops.size false) a w.drew) : (Code.region id ops true).wpIn (Fence.wide.inRound l) n P Q a w :=
  wpIn_region_any hm (wpAnyIn_round (deferless_at hd) hq _ _ _ _ (wpAny_of_held _ _ _ _ (h hS)))
/-- Whatever order is picked in a round, S holding behind each step. -/
def anyR (l n : Nat) (P : Program) (md : Region.Mode) (ops : Array Oper) (Q : Exit → Act → World → Prop) (S : World → Prop) : Nat → Array Bool → Act → World → Prop
  | 0, listed, a, w => Region.ready md ops listed = [] ∧ Q .normal a w
  | k + 1, listed, a, w => (Region.ready md ops listed = [] → Q .normal a w) ∧
    ∀ i ∈ Region.ready md ops listed, wpOpIn (Fence.wide.inRound l) n P ops Q i (fun a' w' => S w' ∧ anyR l n P md ops Q S k (listed.setIfInBounds i true) a' w') a w
theorem anyR_sound {l n : Nat} {P : Program} {md : Region.Mode} {ops : Array Oper} {Q : Exit → Act → World → Prop} {S : World → Prop} : ∀ (k : Nat) (listed : Array Bool) (a : Act) (w : World), anyR l n P md ops Q S k listed a w → wpAnyIn (Fence.wide.inRound l) n P md ops Q k listed a w
  | 0, _, _, _, h => h
  | k + 1, _, _, _, h => ⟨h.1, fun i hi => wpOpIn_mono (fun a' w' h2 => anyR_sound k _ a' w' h2.2) (h.2 i hi)⟩
section
variable {l n : Nat} {P : Program} {md : Region.Mode} {ops : Array Oper} {Q : Exit → Act → World → Prop} {S : World → Prop}
/-- A value that is there already, and a step that looks not at it, may change places. -/
theorem swapR {j : Nat} {oi oj : Oper} {v : Value} (hdj : ∀ c, oj.op ≠ .defer c) (hj : ops[j]? = some oj) (hap : oi.apart ops oj = true) (hsi : ∀ cs b, oi.op ≠ .select cs b) (hsj : ∀ cs b, oj.op ≠ .select cs b)
    (hQ : ∀ c a w, Q (.panic c) (a.put oi.dst v) w → Q (.panic c) a w) {K : Act → World → Prop} {a : Act} {w : World} (hy : YieldsIf P ops S oi v a) (h : wpOpIn (Fence.wide.inRound l) n P ops Q j K (a.put oi.dst v) w) :
    wpOpIn (Fence.wide.inRound l) n P ops Q j (fun a' w' => YieldsIf P ops S oi v a' ∧ K (a'.put oi.dst v) w') a w := by
  obtain ⟨h1, h2, h3⟩ := Oper.apart_spec hap
  have go : ∀ b : Act, YieldsIf P ops S oi v b → ∀ u, K ((b.put oi.dst v).put oj.dst u) w → True := fun _ _ _ _ => trivial
  have stay : ∀ b : Act, YieldsIf P ops S oi v b → ∀ u, YieldsIf P ops S oi v (b.put oj.dst u) := fun b hb u => hb.of_same (execOp_put oi hsi b oj.dst u h3) (wanted_put oi b oj.dst u h3)
  have fin : ∀ u W, K ((a.put oi.dst v).put oj.dst u) W → YieldsIf P ops S oi v (a.put oj.dst u) ∧ K ((a.put oj.dst u).put oi.dst v) W := fun u W hk => ⟨stay a hy u, by rw [← Act.put_comm a v u h2]; exact hk⟩
  unfold wpOpIn at *
  simp only [hj] at *
  rw [wanted_put oj a oi.dst v h1] at h
  split
  · rename_i hw
    rw [if_pos hw] at h
    unfold Oper.wpIn at *
    rw [Oper.semAt_plain (Fence.wide.inRound l) _ _ hdj, execOp_put oj hsj a oi.dst v h1] at h
    rw [Oper.semAt_plain (Fence.wide.inRound l) _ _ hdj]
    refine ⟨fun _ _ => trivial, ?_⟩
    obtain ⟨-, h⟩ := h
    generalize (execOp a.eval oj).run P w = r at *
    cases r with
    | ok x W =>
      cases x with
      | value u => exact fin u W h
      | skip => exact fin _ W h
      | defer d =>
        refine ⟨stay { a with defers := d :: a.defers } (hy.of_same rfl rfl) undef, ?_⟩
        have hk : K (({ a.put oi.dst v with defers := d :: (a.put oi.dst v).defers } : Act).put oj.dst undef) W := h
        rw [Act.put_defers] at hk
        rw [← Act.put_comm _ v undef h2]
        exact hk
      | enter f args =>
        rw [Oper.uponIn_enter] at h ⊢
        refine ⟨h.1, CallsIn.mono h.2 fun e W2 he => ?_⟩
        cases e with
        | returned u => exact fin u W2 he
        | panicked c => exact hQ _ _ _ he
        | outgrown => exact he
      | row r args =>
        rw [Oper.uponIn_row] at h ⊢
        exact ⟨h.1, RowsIn.mono h.2 fun u W2 he => fin u W2 he⟩
      | round l2 f tmps assign body =>
        rw [Oper.uponIn_round] at h ⊢
        refine ⟨h.1, RoundIn.mono h.2 fun e W2 he => ?_⟩
        cases e with
        | returned u => exact fin u W2 he
        | panicked c => exact hQ _ _ _ he
        | outgrown => exact he
      | _ => exact h.elim
    | halt x W => cases x <;> first | exact hQ _ _ _ h | exact h.elim
  · rename_i hw
    rw [if_neg hw] at h
    exact ⟨fun _ _ => trivial, fin undef w h.2⟩
theorem yieldR {i : Nat} {o : Oper} {v : Value} {a : Act} (hdi : ∀ c, o.op ≠ .defer c) (hi : ops[i]? = some o) (hy : YieldsIf P ops S o v a) {K : Act → World → Prop} {w : World} (hS : S w) (h : K (a.put o.dst v) w) : wpOpIn (Fence.wide.inRound l) n P ops Q i K a w := by
  unfold wpOpIn
  simp only [hi]
  rcases hy with ⟨hw, hv⟩ | ⟨hw, rfl⟩
  · rw [if_pos hw]
    unfold Oper.wpIn
    rw [Oper.semAt_plain (Fence.wide.inRound l) _ _ hdi, hv w hS]
    exact ⟨fun _ _ => trivial, h⟩
  · rw [if_neg (by rw [hw]; simp)]
    exact ⟨fun _ _ => trivial, h⟩
theorem firstR (hdl : ∀ (i : Nat) o c, ops[i]? = some o → o.op ≠ .defer c) {i : Nat} {oi : Oper} {v : Value} (hi : ops[i]? = some oi) (hsel : ∀ (j : Nat) (o : Oper) cs b, ops[j]? = some o → o.op ≠ .select cs b) (hQ : ∀ c a w, Q (.panic c) (a.put oi.dst v) w → Q (.panic c) a w) :
    ∀ (k : Nat) (listed : Array Bool) (a : Act) (w : World), (∀ j oj, ops[j]? = some oj → j ≠ i → listed.getD j true = false → (∀ e ∈ oj.after, Region.binds md e = true → e.on ≠ i) → oi.apart ops oj = true) → i ∈ Region.ready md ops listed → YieldsIf P ops S oi v a → S w →
      anyR l n P md ops Q S k (listed.setIfInBounds i true) (a.put oi.dst v) w → anyR l n P md ops Q S (k + 1) listed a w := by
  intro k
  induction k with
  | zero =>
    intro listed a w _ hr hy hS H
    refine ⟨fun h => absurd hr (by rw [h]; simp), fun j hj => ?_⟩
    by_cases e : j = i
    · subst e
      exact yieldR (fun c => hdl j oi c hi) hi hy hS ⟨hS, H⟩
    · have := ready_mono hj e
      rw [H.1] at this
      cases this
  | succ k ih =>
    intro listed a w hfree hr hy hS H
    refine ⟨fun h => absurd hr (by rw [h]; simp), fun j hj => ?_⟩
    by_cases e : j = i
    · subst e
      exact yieldR (fun c => hdl j oi c hi) hi hy hS ⟨hS, H⟩
    · obtain ⟨hun, oj, hoj, hall⟩ := mem_ready.1 hj
      have hun2 := (mem_ready.1 hr).1
      have hnot : ∀ x ∈ oj.after, Region.binds md x = true → x.on ≠ i := fun x hx hb q => by
        have p1 := hall x hx hb
        rw [q] at p1
        rcases Nat.lt_or_ge i listed.size with q2 | q2
        · simp [q2] at hun2 p1
          rw [hun2] at p1
          cases p1
        · simp [Array.getElem?_eq_none q2] at p1
      refine wpOpIn_mono (fun a' w' h3 => ⟨h3.2.1, ih (listed.setIfInBounds j true) a' w' ?_ (ready_mono hr (Ne.symm e)) h3.1 h3.2.1 ?_⟩) (swapR (fun c => hdl j oj c hoj) hoj (hfree j oj hoj e hun hnot) (fun cs b => hsel i oi cs b hi) (fun cs b => hsel j oj cs b hoj) hQ hy (H.2 j (ready_mono hj e)))
      · intro m om hm hmi hmu hmn
        refine hfree m om hm hmi ?_ hmn
        by_cases q : j = m
        · subst q; exact hun
        · rw [getD_set_ne true q] at hmu; exact hmu
      · rw [Array.setIfInBounds_comm _ _ e]
        exact h3.2.2
theorem anyR_take (hd : deferless ops = true) {i : Nat} {oi : Oper} {v : Value} {k : Nat} {listed : Array Bool} {a : Act} {w : World} (hi : ops[i]? = some oi)
    (hs : Region.noSelect ops = true) (hf : Region.free md ops listed i = true) (hr : (Region.ready md ops listed).contains i = true)
    (hQ : ∀ c a w, Q (.panic c) (a.put oi.dst v) w → Q (.panic c) a w) (hy : YieldsIf P ops S oi v a) (hS : S w)
    (h : anyR l n P md ops Q S k (listed.setIfInBounds i true) (a.put oi.dst v) w) : anyR l n P md ops Q S (k + 1) listed a w :=
  firstR (deferless_at hd) hi (Region.noSelect_spec hs) hQ k listed a w (Region.free_spec hi hf) (by simpa using hr) hy hS h
/-- One alone may come up. -/
theorem anyR_one {i : Nat} {o : Oper} {k : Nat} {listed : Array Bool} {a : Act} {w : World} (hr : Region.ready md ops listed = [i]) (ho : ops[i]? = some o)
    (h : ∀ K' : Act → World → Prop, Shut (∀ a w, S w → anyR l n P md ops Q S k (listed.setIfInBounds i true) a w → K' a w) → if Region.wanted o (yielded ops a.tmps) = true then Oper.wpIn (Fence.wide.inRound l) n P o a w K' Q else K' (a.put o.dst undef) w) : anyR l n P md ops Q S (k + 1) listed a w := by
  refine ⟨fun h0 => absurd h0 (by rw [hr]; simp), fun j hj => ?_⟩
  rw [hr] at hj
  obtain rfl : j = i := by simpa using hj
  have h2 := h (fun a' w' => S w' ∧ anyR l n P md ops Q S k (listed.setIfInBounds j true) a' w') (fun a' w' hS hA => ⟨hS, hA⟩)
  unfold wpOpIn
  simp only [ho]
  split
  · rename_i hw
    rw [if_pos hw] at h2
    exact h2
  · rename_i hw
    rw [if_neg hw] at h2
    exact ⟨fun _ _ => trivial, h2⟩
theorem anyR_done {listed : Array Bool} {a : Act} {w : World} (hr : Region.ready md ops listed = []) (h : Q .normal a w) : ∀ k, anyR l n P md ops Q S k listed a w
  | 0 => ⟨hr, h⟩
  | _ + 1 => ⟨fun _ => h, by rw [hr]; simp⟩
theorem wpIn_anyR {id : Nat} {a : Act} {w : World} (hm : P.follows .mixedOrders = true) (h : anyR l n P .any ops Q S ops.size (Array.replicate ops.size false) a w.drew) : (Code.region id ops true).wpIn (Fence.wide.inRound l) n P Q a w :=
  wpIn_region_any hm (anyR_sound _ _ _ _ h)
end
attribute [local go_sem] Oper.semAt_some
/-- A pair, as it is told. -/
def Nd.enc2 (x : Nd) : Array Value := #[.string x.k, .slice x.v.a x.v.n x.v.c]
set_option maxRecDepth 100000 in
set_option maxHeartbeats 1000000 in
theorem from_any (w : World) (tb : Nat) (key : ByteArray) :
    Calls Tryd.prog 50 #[.pointer (some ⟨tb, 0, none⟩), .string key] w fun e w' => e = .returned (.func (.func 69) #[] #[.pointer (some ⟨w.heap.size, 0, none⟩), .pointer (some ⟨w.heap.size + 1, 0, none⟩)]) ∧
      w' = (w.alloc (.cells #[.pointer (some ⟨tb, 0, none⟩)] 78)).alloc (.cells #[.string key] 9) := by
  go_enter Tryd.func50, Tryd.ntmps50
  go_wp2_with fail
  go_ret
  exact ⟨rfl, rfl⟩
set_option maxRecDepth 100000 in
set_option maxHeartbeats 4000000 in
theorem from1_tells (n₀ tb : Nat) (key : ByteArray) (T : Tr) (w : World) (nb kb : Nat) (hT : IsTr n₀ w T) (hn : n₀ ≤ w.heap.size) (htb : tb < n₀) (ht : Has w tb 107 #[.pointer T.ptr]) (hnb : Has w nb 78 #[.pointer (some ⟨tb, 0, none⟩)]) (hkb : Has w kb 9 #[.string key]) :
    Tells Fence.wide Tryd.prog 69 #[.pointer (some ⟨nb, 0, none⟩), .pointer (some ⟨kb, 0, none⟩)] Nd.enc2 (fun b => b < n₀ ∨ b = nb ∨ b = kb) (T.from key) w := by
  intro m l J Jx W X hs hK hX hJ hJx hJl hR h0
  have hnW : Has W nb 78 #[.pointer (some ⟨tb, 0, none⟩)] := (hK nb (.inr (.inl rfl))).trans hnb
  have hkW : Has W kb 9 #[.string key] := (hK kb (.inr (.inr rfl))).trans hkb
  have htW : Has W tb 107 #[.pointer T.ptr] := (hK tb (.inl htb)).trans ht
  have hTW := hT.keep fun c hc => hK c (.inl hc)
  have n1 := hnW.alloc (.cells #[.func (.yield l) #[] #[]] 110)
  have k1 := hkW.alloc (.cells #[.func (.yield l) #[] #[]] 110)
  have r1 := htW.alloc (.cells #[.func (.yield l) #[] #[]] 110)
  have y1 := Has.new W 110 #[.func (.yield l) #[] #[]]
  have t1 : Tur [] W (W.alloc (.cells #[.func (.yield l) #[] #[]] 110)) := Tur.alloc [] W _
  have b1 : Below W.heap.size W (W.alloc (.cells #[.func (.yield l) #[] #[]] 110)) := (Below.refl _ W).alloc (Nat.le_refl _) _
  have hT1 := hTW.keep fun c hc => b1.block c (by omega)
  have j1 := hJ _ _ _ _ [] h0 t1 (by simp)
  have s1 : (W.alloc (.cells #[.func (.yield l) #[] #[]] 110)).heap.size = W.heap.size + 1 := by simp
  have q1 : ∀ c, (c < n₀ ∨ c = nb ∨ c = kb) ∨ c = W.heap.size → c < (W.alloc (.cells #[.func (.yield l) #[] #[]] 110)).heap.size := by
    intro c hc
    have := hnW.lt
    have := hkW.lt
    omega
  have x1 : ∀ c ∈ X, ¬ ((c < n₀ ∨ c = nb ∨ c = kb) ∨ c = W.heap.size) := fun c hc h => h.elim (hX c hc) fun e => by have := hJl _ _ _ h0 c hc; omega
  obtain ⟨W1, hW1⟩ : ∃ W1, Hid (W1 = W.alloc (.cells #[.func (.yield l) #[] #[]] 110)) := ⟨_, rfl⟩
  have cn := n1.cell 0
  have hro : Fence.wide.round = none := rfl
  refine callsIn_of_wp_marks Tryd.func69 rfl trivial ?_ rfl
  simp only [Tryd.ntmps69, List.size_toArray, List.length_cons, List.length_nil, Nat.reduceAdd, Nat.reduceSub, Array.replicate_succ, Array.replicate_zero, List.push_toArray, List.append_toArray, List.nil_append, List.cons_append]
  gi_wp2
  rw [← hW1.out] at n1 k1 r1 y1 hT1 j1 s1 q1 t1 ⊢
  clear cn b1
  have cn : W1.cell? ⟨nb, 0, none⟩ = some (.pointer (some ⟨tb, 0, none⟩)) := n1.cell 0
  have ck : W1.cell? ⟨kb, 0, none⟩ = some (.string key) := k1.cell 0
  have c0 : W1.cell? ⟨tb, 0, none⟩ = some (.pointer T.ptr) := r1.cell 0
  have hdd : ∀ k : Nat, (Fence.wide.depth.isSome = true → 1 ≤ k) := fun k h => by cases h
  have hmix : Tryd.prog.follows .mixedOrders = true := by kernel_rfl
  clear hnb hkb ht hT hnW hkW htW hTW
  apply meet
  · intro hT
    (first | gi_region_with_o ((refine ⟨trivial, hdd _, ?_⟩); gi_at_call 70; refine (callsIn_wide.2 (nodes_any _ _ _)).mono ?_; rintro e w' ⟨rfl, rfl⟩) | fail)
    all_goals gi_wp2
    all_goals exact hT.out
  obtain ⟨V2, hV2⟩ : ∃ V, Hid (V = ((W1.alloc (.cells #[.pointer T.ptr] 105)).alloc (.cells #[.string key] 9)).drew) := ⟨_, rfl⟩
  rw [← hV2.out]
  have t2 : Tur [] W1 V2 := by
    rw [hV2.out]
    exact ((Tur.alloc [] W1 _).trans (Tur.alloc [] _ _) (Fre.refl _ _)).trans (Tur.drew [] _) (Fre.refl _ _)
  have z2 : V2.heap.size = W1.heap.size + 2 := by rw [hV2.out]; simp
  have nn2 : Has V2 W1.heap.size 105 #[.pointer T.ptr] := by
    rw [hV2.out]
    exact (Has.new W1 _ _).alloc _
  have kk2 : Has V2 (W1.heap.size + 1) 9 #[.string key] := by
    rw [hV2.out]
    have := Has.new (W1.alloc (.cells #[.pointer T.ptr] 105)) 9 #[.string key]
    rw [World.size_alloc] at this
    exact this
  have tt2 : IsTr n₀ V2 T := hT1.keep fun c hc => t2.block c (by omega) (by simp)
  have jj2 : J [] X V2 := hJ _ _ _ _ [] j1 t2 (by simp)
  have xl2 := hJl _ _ _ j1
  have hK2 : ∀ c, (fun c => c < n₀ ∨ c = W.heap.size) c → c < V2.heap.size := by
    intro c hc
    have hc' : c < n₀ ∨ c = W.heap.size := hc
    omega
  have kp2 : KeptT (fun c => c < n₀ ∨ c = W.heap.size) V2 X V2 := ⟨(fun c hc h => x1 c hc (h.elim (fun e => .inl (.inl e)) .inr)), fun _ _ => rfl⟩
  have y2 : Has V2 W.heap.size 110 #[.func (.yield l) #[] #[]] := y1.tur t2 (by simp)
  clear hV2
  rw [← s1]
  refine wp_tells (xs := T.from key) rfl rfl (gf := 82) (lb := #[.pointer (some ⟨W1.heap.size, 0, none⟩), .pointer (some ⟨W1.heap.size + 1, 0, none⟩)]) (rfl) trivial (enters_of Tryd.func82 (by kernel_rfl) rfl)
    (nodes1_tells n₀ key T V2 W1.heap.size (W1.heap.size + 1) tt2 (by omega) nn2 kk2) (Nat.le_refl _) (fun _ _ => rfl) (by intro c hc; have := nn2.lt; have := kk2.lt; omega) (fun _ => rfl)
    (fun p Y V => J p Y V ∧ KeptT (fun c => c < n₀ ∨ c = W.heap.size) V2 Y V) (fun c p Y V => c = .ret ∧ Jx p Y V ∧ KeptT (fun c => c < n₀ ∨ c = W.heap.size) V2 Y V)
    (Stays.and (hJ.mono (by omega)) (KeptT.stays hK2)) (fun c => Stays.and (Stays.pure _) (Stays.and (hJx.mono (by omega)) (KeptT.stays hK2))) (fun _ _ _ h => hJl _ _ _ h.1)
    X (by intro c hc h; have := xl2 c hc; have := x1 c hc; omega) ⟨jj2, kp2⟩ ?loop2 ?done2 ?stop2
  case loop2 =>
    apply Exists.intro
    constructor
    · intro m' l' x V K hK
      dsimp only [Nd.enc]
      gi_wp2
      exact hK
    · rintro m' l' p x Y V ⟨hj, hk⟩ hpre
      have hx : x ∈ T.from key := hpre.subset (by simp)
      obtain ⟨xlt, xk, xv⟩ := from_at key tt2 x hx
      have same : ∀ o, V.cell? ⟨x.b, o, none⟩ = V2.cell? ⟨x.b, o, none⟩ := fun o => by
        unfold World.cell?
        rw [show V.heap[(⟨x.b, o, none⟩ : Addr).block]? = V2.heap[(⟨x.b, o, none⟩ : Addr).block]? from hk.2 x.b (.inl xlt)]
      have ck0 : V.drew.cell? ⟨x.b, 0, none⟩ = some (.string x.k) := (same 0).trans xk
      have cv0 : V.drew.cell? ⟨x.b, 1, none⟩ = some (.slice x.v.a x.v.n x.v.c) := (same 1).trans xv
      have hjd : J p Y V.drew := hJ _ _ _ _ [] hj (Tur.drew [] V) (by simp)
      have hkd : KeptT (fun c => c < n₀ ∨ c = W.heap.size) V2 Y V.drew := hk
      obtain ⟨fn, tmps, assign, body, hy0, hRR⟩ := hR (m' - 1) p x Y V.drew hjd hpre
      have hy : Sem.run Tryd.prog (Instr.yield l #[.string x.k, .slice x.v.a x.v.n x.v.c]) V.drew = .ok (.round l fn tmps assign body) V.drew := hy0
      have cy : V.drew.cell? ⟨W.heap.size, 0, none⟩ = some (.func (.yield l) #[] #[]) := (y2.kept hk (by simp)).cell 0
      clear same hy0
      have hRR2 : RoundIn Fence.wide (m' - 1) Tryd.prog l fn tmps assign body V.drew fun e W' => ∃ (bb : Bool) (X' : List Nat), e = .returned (.bool bb) ∧ ((bb = true ∧ J (p ++ [x]) X' W') ∨ (bb = false ∧ Jx (p ++ [x]) X' W')) ∧ Tur Y V.drew W' ∧ Fre Y X' V.drew := by
        refine RoundIn.mono hRR ?_
        rintro e W' ⟨X', (⟨he, hj2⟩ | ⟨he, hj2⟩), h3, h4⟩
        · exact ⟨true, X', he, .inl ⟨rfl, hj2⟩, h3, h4⟩
        · exact ⟨false, X', he, .inr ⟨rfl, hj2⟩, h3, h4⟩
      clear hRR
      gi_wp2
      have hS0 : V.drew.cell? ⟨W.heap.size, 0, none⟩ = some (.func (.yield l) #[] #[]) ∧ V.drew.cell? ⟨x.b, 0, none⟩ = some (.string x.k) ∧ V.drew.cell? ⟨x.b, 1, none⟩ = some (.slice x.v.a x.v.n x.v.c) := ⟨cy, ck0, cv0⟩
      refine wpIn_anyR (S := fun U => U.cell? ⟨W.heap.size, 0, none⟩ = some (.func (.yield l) #[] #[]) ∧ U.cell? ⟨x.b, 0, none⟩ = some (.string x.k) ∧ U.cell? ⟨x.b, 1, none⟩ = some (.slice x.v.a x.v.n x.v.c)) hmix ?_
      (refine anyR_take (by kernel_rfl) (i := 0) (v := ?_) rfl (by kernel_rfl) (by kernel_rfl) (by kernel_rfl) (fun _ _ _ h => h) (Or.inl ⟨by rfl, ?_⟩) (by assumption) ?_; rotate_left; (intro w hSw; (try dsimp only at hSw); go_simp; try with_reducible rfl); ((try simp only [List.getElem_toArray]); (try simp only [List.getElem_cons_succ]); (try simp only [List.getElem_cons_zero]); (try simp only [Act.put]); (try simp only [List.setIfInBounds_toArray]); (try simp only [List.set_cons_succ]); (try simp only [List.set_cons_zero])))
      (refine anyR_take (by kernel_rfl) (i := 1) (v := ?_) rfl (by kernel_rfl) (by kernel_rfl) (by kernel_rfl) (fun _ _ _ h => h) (Or.inl ⟨by rfl, ?_⟩) (by assumption) ?_; rotate_left; (intro w hSw; (try dsimp only at hSw); go_simp; try with_reducible rfl); ((try simp only [List.getElem_toArray]); (try simp only [List.getElem_cons_succ]); (try simp only [List.getElem_cons_zero]); (try simp only [Act.put]); (try simp only [List.setIfInBounds_toArray]); (try simp only [List.set_cons_succ]); (try simp only [List.set_cons_zero])))
      (refine anyR_take (by kernel_rfl) (i := 2) (v := ?_) rfl (by kernel_rfl) (by kernel_rfl) (by kernel_rfl) (fun _ _ _ h => h) (Or.inl ⟨by rfl, ?_⟩) (by assumption) ?_; rotate_left; (intro w hSw; (try dsimp only at hSw); go_simp; try with_reducible rfl); ((try simp only [List.getElem_toArray]); (try simp only [List.getElem_cons_succ]); (try simp only [List.getElem_cons_zero]); (try simp only [Act.put]); (try simp only [List.setIfInBounds_toArray]); (try simp only [List.set_cons_succ]); (try simp only [List.set_cons_zero])))
      (refine anyR_take (by kernel_rfl) (i := 3) (v := ?_) rfl (by kernel_rfl) (by kernel_rfl) (by kernel_rfl) (fun _ _ _ h => h) (Or.inl ⟨by rfl, ?_⟩) (by assumption) ?_; rotate_left; (intro w hSw; (try dsimp only at hSw); go_simp; try with_reducible rfl); ((try simp only [List.getElem_toArray]); (try simp only [List.getElem_cons_succ]); (try simp only [List.getElem_cons_zero]); (try simp only [Act.put]); (try simp only [List.setIfInBounds_toArray]); (try simp only [List.set_cons_succ]); (try simp only [List.set_cons_zero])))
      (refine anyR_take (by kernel_rfl) (i := 4) (v := ?_) rfl (by kernel_rfl) (by kernel_rfl) (by kernel_rfl) (fun _ _ _ h => h) (Or.inl ⟨by rfl, ?_⟩) (by assumption) ?_; rotate_left; (intro w hSw; (try dsimp only at hSw); go_simp; try with_reducible rfl); ((try simp only [List.getElem_toArray]); (try simp only [List.getElem_cons_succ]); (try simp only [List.getElem_cons_zero]); (try simp only [Act.put]); (try simp only [List.setIfInBounds_toArray]); (try simp only [List.set_cons_succ]); (try simp only [List.set_cons_zero])))
      (refine anyR_take (by kernel_rfl) (i := 5) (v := ?_) rfl (by kernel_rfl) (by kernel_rfl) (by kernel_rfl) (fun _ _ _ h => h) (Or.inl ⟨by rfl, ?_⟩) (by assumption) ?_; rotate_left; (intro w hSw; (try dsimp only at hSw); go_simp; try with_reducible rfl); ((try simp only [List.getElem_toArray]); (try simp only [List.getElem_cons_succ]); (try simp only [List.getElem_cons_zero]); (try simp only [Act.put]); (try simp only [List.setIfInBounds_toArray]); (try simp only [List.set_cons_succ]); (try simp only [List.set_cons_zero])))
      (refine anyR_take (by kernel_rfl) (i := 6) (v := ?_) rfl (by kernel_rfl) (by kernel_rfl) (by kernel_rfl) (fun _ _ _ h => h) (Or.inl ⟨by rfl, ?_⟩) (by assumption) ?_; rotate_left; (intro w hSw; (try dsimp only at hSw); go_simp; try with_reducible rfl); ((try simp only [List.getElem_toArray]); (try simp only [List.getElem_cons_succ]); (try simp only [List.getElem_cons_zero]); (try simp only [Act.put]); (try simp only [List.setIfInBounds_toArray]); (try simp only [List.set_cons_succ]); (try simp only [List.set_cons_zero])))
      (refine anyR_take (by kernel_rfl) (i := 7) (v := ?_) rfl (by kernel_rfl) (by kernel_rfl) (by kernel_rfl) (fun _ _ _ h => h) (Or.inl ⟨by rfl, ?_⟩) (by assumption) ?_; rotate_left; (intro w hSw; (try dsimp only at hSw); go_simp; try with_reducible rfl); ((try simp only [List.getElem_toArray]); (try simp only [List.getElem_cons_succ]); (try simp only [List.getElem_cons_zero]); (try simp only [Act.put]); (try simp only [List.setIfInBounds_toArray]); (try simp only [List.set_cons_succ]); (try simp only [List.set_cons_zero])))
      (refine anyR_take (by kernel_rfl) (i := 8) (v := ?_) rfl (by kernel_rfl) (by kernel_rfl) (by kernel_rfl) (fun _ _ _ h => h) (Or.inl ⟨by rfl, ?_⟩) (by assumption) ?_; rotate_left; (intro w hSw; (try dsimp only at hSw); go_simp; try with_reducible rfl); ((try simp only [List.getElem_toArray]); (try simp only [List.getElem_cons_succ]); (try simp only [List.getElem_cons_zero]); (try simp only [Act.put]); (try simp only [List.setIfInBounds_toArray]); (try simp only [List.set_cons_succ]); (try simp only [List.set_cons_zero])))
      refine anyR_one (i := 9) (by kernel_rfl) rfl (fun K9 hK9 => ?_)
      go_simp
      refine ⟨hdd _, ?_⟩
      refine (RoundIn.inR hRR2).mono ?_
      rintro e V3 ⟨bb, Y', rfl, hj3, ht, hf⟩
      have hk3 := hkd.step hK2 ht hf
      have same3 : ∀ o, V3.cell? ⟨x.b, o, none⟩ = V2.cell? ⟨x.b, o, none⟩ := fun o => by
        unfold World.cell?
        rw [show V3.heap[(⟨x.b, o, none⟩ : Addr).block]? = V2.heap[(⟨x.b, o, none⟩ : Addr).block]? from hk3.2 x.b (.inl xlt)]
      refine hK9 _ _ (by exact ⟨(y2.kept hk3 (by simp)).cell 0, (same3 0).trans xk, (same3 1).trans xv⟩) ?_
      clear hK9 K9
      ((try simp only [List.getElem_toArray]); (try simp only [List.getElem_cons_succ]); (try simp only [List.getElem_cons_zero]); (try simp only [Act.put]); (try simp only [List.setIfInBounds_toArray]); (try simp only [List.set_cons_succ]); (try simp only [List.set_cons_zero]))
      have hS3 : V3.cell? ⟨W.heap.size, 0, none⟩ = some (.func (.yield l) #[] #[]) ∧ V3.cell? ⟨x.b, 0, none⟩ = some (.string x.k) ∧ V3.cell? ⟨x.b, 1, none⟩ = some (.slice x.v.a x.v.n x.v.c) := ⟨(y2.kept hk3 (by simp)).cell 0, (same3 0).trans xk, (same3 1).trans xv⟩
      (refine anyR_take (by kernel_rfl) (i := 10) (v := ?_) rfl (by kernel_rfl) (by kernel_rfl) (by kernel_rfl) (fun _ _ _ h => h) (Or.inl ⟨by rfl, ?_⟩) (by assumption) ?_; rotate_left; (intro w hSw; (try dsimp only at hSw); go_simp; try with_reducible rfl); ((try simp only [List.getElem_toArray]); (try simp only [List.getElem_cons_succ]); (try simp only [List.getElem_cons_zero]); (try simp only [Act.put]); (try simp only [List.setIfInBounds_toArray]); (try simp only [List.set_cons_succ]); (try simp only [List.set_cons_zero])))
      refine anyR_done (by kernel_rfl) ?_ _
      rcases hj3 with ⟨rfl, hj3⟩ | ⟨rfl, hj3⟩
      · gi_wp2
        exact ⟨Y', ⟨hj3, hk3⟩, (Tur.drew Y V).trans ht (Fre.refl _ _), hf⟩
      · gi_wp2
        exact ⟨Y', ⟨rfl, hj3, hk3⟩, (Tur.drew Y V).trans ht (Fre.refl _ _), hf⟩
  case done2 =>
    rintro D Y V hD ⟨hj, hk⟩ hDY hDd
    gi_wp2
    refine ⟨by simp, .inl ⟨_, _, rfl, run_takeDeferred hDd, ?_⟩⟩
    refine ⟨_, results_none rfl _ _ _, ⟨_, rfl⟩, Y, .inl ?_⟩
    exact hJ _ _ _ _ [D] hj (Tur.putObj V (by simp) _) (fun c hcD => by rw [List.mem_singleton.1 hcD]; exact ⟨by omega, hDY⟩)
  case stop2 =>
    rintro D c p Y V hD ⟨rfl, hj, hk⟩ hDY hDd
    gi_wp2
    refine ⟨by simp, .inl ⟨_, _, rfl, run_takeDeferred hDd, ?_⟩⟩
    refine ⟨_, results_none rfl _ _ _, ⟨_, rfl⟩, Y, .inr ⟨p, ?_⟩⟩
    exact hJx _ _ _ _ [D] hj (Tur.putObj V (by simp) _) (fun c hcD => by rw [List.mem_singleton.1 hcD]; exact ⟨by omega, hDY⟩)
end Go.Proofs.YtcdjeibcnkpadaaDoor
