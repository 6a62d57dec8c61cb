/-
  Trees in memory, and the iterator over their nodes.
-/
import Derived.Test.YtmapclocbhkpbaaTrL
import Derived.Test.YtmapclocbhkpbaaProg
import Derived.WalkKit
import Derived.OwnWalkIn
import Derived.TacticsInMore
import Derived.LoopNIn
import Derived.LoopIn
import Derived.Shelf.RegionOpen
namespace Go.Proofs.Ytmapclocbhkpbaa
open Go.RowKit Go.Shelf
set_option linter.unusedVariables false
/-- A tree: each node with its block, its key and thing, and two numbers of which nothing is said. -/
inductive Tr where
  | nil
  | node (b : Nat) (l : Tr) (k : ByteArray) (v lo le : Int) (r : Tr)
namespace Tr
def ptr : Tr → Option Addr
  | nil => none
  | node b _ _ _ _ _ _ => some ⟨b, 0, none⟩
def size : Tr → Nat
  | nil => 0
  | node _ l _ _ _ _ r => l.size + 1 + r.size
def ht : Tr → Nat
  | nil => 0
  | node _ l _ _ _ _ r => 1 + max l.ht r.ht
def row (l : Tr) (k : ByteArray) (v lo le : Int) (r : Tr) : Array Value :=
  #[.string k, .int .i64 v, .pointer l.ptr, .pointer r.ptr, .int .i64 ((l.size + 1 + r.size : Nat) : Int), .int .i64 ((1 + max l.ht r.ht : Nat) : Int), .int .i64 lo, .int .i64 le]
end Tr
/-- It lies there, below n. -/
def IsTr (n : Nat) (w : World) : Tr → Prop
  | .nil => True
  | .node b l k v lo le r => b < n ∧ Has w b 57 (Tr.row l k v lo le r) ∧ IsTr n w l ∧ IsTr n w r
theorem IsTr.keep {n : Nat} {w w' : World} (h : ∀ b, b < n → w'.heap[b]? = w.heap[b]?) : ∀ {T : Tr}, IsTr n w T → IsTr n w' T
  | .nil, _ => trivial
  | .node b l k v lo le r, ⟨h1, h2, h3, h4⟩ => ⟨h1, (h b h1).trans h2, IsTr.keep h h3, IsTr.keep h h4⟩
theorem IsTr.mono {n m : Nat} {w : World} (h : n ≤ m) : ∀ {T : Tr}, IsTr n w T → IsTr m w T
  | .nil, _ => trivial
  | .node b l k v lo le r, ⟨h1, h2, h3, h4⟩ => ⟨Nat.lt_of_lt_of_le h1 h, h2, h3.mono h, h4.mono h⟩
theorem IsTr.below {n : Nat} {w w' : World} {T : Tr} (h : IsTr n w T) (hb : Below n w w') : IsTr n w' T := h.keep hb.block
/-- One text comes ahead of another one. -/
def kl (a b : ByteArray) : Bool := Op.bytesLess a.toList b.toList
/-- A node, as it is handed over. -/
structure Nd where
  b : Nat
  k : ByteArray
  v : Int
def Nd.enc (x : Nd) : Array Value := #[.pointer (some ⟨x.b, 0, none⟩)]
def Tr.from (key : ByteArray) : Tr → List Nd
  | .nil => []
  | .node b l k v _ _ r => (if kl k key then [] else l.from key ++ [⟨b, k, v⟩]) ++ r.from key
theorem RoundIn.inR {F : Fence} {n : Nat} {P : Program} {l₀ l : Nat} {f : FuncId} {tmps : Array Value} {assign body : Code} {w : World} {R : Ending → World → Prop} (h : RoundIn F n P l f tmps assign body w R) : RoundIn (F.inRound l₀) n P l f tmps assign body w R := h
attribute [local go_sem] Oper.semAt_some
set_option maxRecDepth 100000 in
set_option maxHeartbeats 1000000 in
theorem nodes_any (w : World) (p : Option Addr) (key : ByteArray) :
    Calls Try.prog 26 #[.pointer p, .string key] w fun e w' => e = .returned (.func (.func 34) #[] #[.pointer (some ⟨w.heap.size, 0, none⟩), .pointer (some ⟨w.heap.size + 1, 0, none⟩)]) ∧
      w' = (w.alloc (.cells #[.pointer p] 47)).alloc (.cells #[.string key] 9) := by
  go_enter Try.func26, Try.ntmps26
  go_wp2_with fail
  go_ret
  exact ⟨rfl, rfl⟩
/-! ### the iterator -/
/-- Nothing of K is among X, and all of it lies as it lay. -/
def Kept (K : Nat → Prop) (W0 : World) (X : List Nat) (W : World) : Prop := (∀ c ∈ X, ¬ K c) ∧ ∀ c, K c → W.heap[c]? = W0.heap[c]?
theorem lt_of_some {W : World} {c : Nat} {o : Obj} (h : W.heap[c]? = some o) : c < W.heap.size := (Array.getElem?_eq_some_iff.1 h).1
theorem Kept.lt {K : Nat → Prop} {W0 W : World} {X : List Nat} (h : Kept K W0 X W) (hK : ∀ c, K c → c < W0.heap.size) {c : Nat} (hc : K c) : c < W.heap.size := by
  have h1 := h.2 c hc
  rw [Array.getElem?_eq_getElem (hK c hc)] at h1
  exact lt_of_some h1
theorem Kept.stays {α : Type} {K : Nat → Prop} {W0 : World} (hK : ∀ c, K c → c < W0.heap.size) : Stays W0.heap.size (fun (_ : List α) X W => Kept K W0 X W) :=
  fun _ X W W' Z h ht hz => ⟨h.1, fun c hc => (ht.block c (h.lt hK hc) fun hcz => by have := (hz c hcz).1; have := hK c hc; omega).trans (h.2 c hc)⟩
theorem Kept.step {K : Nat → Prop} {W0 W W' : World} {X X' : List Nat} (h : Kept K W0 X W) (hK : ∀ c, K c → c < W0.heap.size) (ht : Tur X W W') (hf : Fre X X' W) : Kept K W0 X' W' :=
  ⟨fun c hc hk => (hf c hc).elim (fun hx => h.1 c hx hk) (fun hl => by have := h.lt hK hk; omega), fun c hc => (ht.block c (h.lt hK hc) fun hx => h.1 c hx hc).trans (h.2 c hc)⟩
theorem Stays.and {α : Type} {B : Nat} {J J' : List α → List Nat → World → Prop} (h : Stays B J) (h' : Stays B J') : Stays B (fun p X W => J p X W ∧ J' p X W) :=
  fun p X W W' Z hj ht hz => ⟨h p X W W' Z hj.1 ht hz, h' p X W W' Z hj.2 ht hz⟩
theorem Stays.pure {α : Type} {B : Nat} (p : Prop) : Stays B (fun (_ : List α) _ _ => p) := fun _ _ _ _ _ h _ _ => h
theorem Stays.at {α : Type} {B : Nat} {J : List α → List Nat → World → Prop} (h : Stays B J) (q : List α) : Stays B (fun p X W => J (q ++ p) X W) :=
  fun p X W W' Z hj ht hz => h (q ++ p) X W W' Z hj ht hz
theorem Has.kept {K : Nat → Prop} {W0 W : World} {X : List Nat} {g : Nat} {t : TypeId} {cs : Array Value} (h : Has W0 g t cs) (hk : Kept K W0 X W) (hg : K g) : Has W g t cs := (hk.2 g hg).trans h
structure Bx (T : Prop) : Prop where
  out : T
theorem meet {T G : Prop} (r : Bx T → G) (p : T) : G := r ⟨p⟩
set_option maxRecDepth 100000 in
set_option maxHeartbeats 4000000 in
theorem nodes1_tells (n₀ : Nat) (key : ByteArray) (T : Tr) : ∀ (w : World) (nb kb : Nat), IsTr n₀ w T → n₀ ≤ w.heap.size → Has w nb 47 #[.pointer T.ptr] → Has w kb 9 #[.string key] →
    Tells Fence.wide Try.prog 34 #[.pointer (some ⟨nb, 0, none⟩), .pointer (some ⟨kb, 0, none⟩)] Nd.enc (fun b => b < n₀ ∨ b = nb ∨ b = kb) (T.from key) w := by
  induction T with
  | nil =>
    intro w nb kb hT hn hnb hkb m l J Jx W X hs hK hX hJ hJx hJl hR h0
    have hnW : Has W nb 47 #[.pointer none] := (hK nb (.inr (.inl rfl))).trans hnb
    have cn := (hnW.alloc (.cells #[.func (.yield l) #[] #[]] 62)).cell 0
    have hro : Fence.wide.round = none := rfl
    refine callsIn_of_wp_marks Try.func34 rfl trivial ?_ rfl
    simp only [Try.ntmps34, List.size_toArray, List.length_cons, List.length_nil, Nat.reduceAdd, Nat.reduceSub, Array.replicate_succ, Array.replicate_zero, List.push_toArray, List.append_toArray, List.nil_append, List.cons_append]
    gi_wp2
    refine ⟨_, results_none rfl _ _ _, ⟨_, rfl⟩, X, .inl ?_⟩
    exact hJ _ _ _ _ [] h0 (Tur.alloc [] W _) (by simp)
  | node b tl k v lo le tr ihl ihr =>
    intro w nb kb hT hn hnb hkb m l J Jx W X hs hK hX hJ hJx hJl hR h0
    obtain ⟨hb, hrow, hTl, hTr⟩ := hT
    have hnW : Has W nb 47 #[.pointer (some ⟨b, 0, none⟩)] := (hK nb (.inr (.inl rfl))).trans hnb
    have hkW : Has W kb 9 #[.string key] := (hK kb (.inr (.inr rfl))).trans hkb
    have hrW : Has W b 57 (Tr.row tl k v lo le tr) := (hK b (.inl hb)).trans hrow
    have hTlW := hTl.keep fun c hc => hK c (.inl hc)
    have hTrW := hTr.keep fun c hc => hK c (.inl hc)
    have n1 := hnW.alloc (.cells #[.func (.yield l) #[] #[]] 62)
    have k1 := hkW.alloc (.cells #[.func (.yield l) #[] #[]] 62)
    have r1 := hrW.alloc (.cells #[.func (.yield l) #[] #[]] 62)
    have y1 := Has.new W 62 #[.func (.yield l) #[] #[]]
    have t1 : Tur [] W (W.alloc (.cells #[.func (.yield l) #[] #[]] 62)) := Tur.alloc [] W _
    have b1 : Below W.heap.size W (W.alloc (.cells #[.func (.yield l) #[] #[]] 62)) := (Below.refl _ W).alloc (Nat.le_refl _) _
    have hTl1 := hTlW.keep fun c hc => b1.block c (by omega)
    have hTr1 := hTrW.keep fun c hc => b1.block c (by omega)
    have j1 := hJ _ _ _ _ [] h0 t1 (by simp)
    have s1 : (W.alloc (.cells #[.func (.yield l) #[] #[]] 62)).heap.size = W.heap.size + 1 := by simp
    have q1 : ∀ c, (c < n₀ ∨ c = nb ∨ c = kb) ∨ c = W.heap.size → c < (W.alloc (.cells #[.func (.yield l) #[] #[]] 62)).heap.size := by
      intro c hc
      have := hnW.lt
      have := hkW.lt
      omega
    have x1 : ∀ c ∈ X, ¬ ((c < n₀ ∨ c = nb ∨ c = kb) ∨ c = W.heap.size) := fun c hc h => h.elim (hX c hc) fun e => by have := hJl _ _ _ h0 c hc; omega
    obtain ⟨W1, hW1⟩ : ∃ W1, Hid (W1 = W.alloc (.cells #[.func (.yield l) #[] #[]] 62)) := ⟨_, rfl⟩
    have cn := n1.cell 0
    have hro : Fence.wide.round = none := rfl
    refine callsIn_of_wp_marks Try.func34 rfl trivial ?_ rfl
    simp only [Try.ntmps34, List.size_toArray, List.length_cons, List.length_nil, Nat.reduceAdd, Nat.reduceSub, Array.replicate_succ, Array.replicate_zero, List.push_toArray, List.append_toArray, List.nil_append, List.cons_append]
    gi_wp2
    rw [← hW1.out] at n1 k1 r1 y1 hTl1 hTr1 j1 s1 q1 t1 ⊢
    clear cn b1
    have cn : W1.cell? ⟨nb, 0, none⟩ = some (.pointer (some ⟨b, 0, none⟩)) := n1.cell 0
    have ck : W1.cell? ⟨kb, 0, none⟩ = some (.string key) := k1.cell 0
    have c0 : W1.cell? ⟨b, 0, none⟩ = some (.string k) := r1.cell 0
    have c2 : W1.cell? ⟨b, 2, none⟩ = some (.pointer tl.ptr) := r1.cell 2
    have c3 : W1.cell? ⟨b, 3, none⟩ = some (.pointer tr.ptr) := r1.cell 3
    have hdd : ∀ k : Nat, (Fence.wide.depth.isSome = true → 1 ≤ k) := fun k h => by cases h
    have hmix : Try.prog.follows .mixedOrders = true := by kernel_rfl
    clear hnb hkb hrow hTl hTr hnW hkW hrW hTlW hTrW
    cases hc : kl k key with
    | true =>
      have hlt : Op.bytesLess k.toList key.toList = true := hc
      gi_region_o
      all_goals gi_wp2
      obtain ⟨X2, hX2⟩ : ∃ X2, X2 = X := ⟨_, rfl⟩
      rw [← hX2] at j1 x1
      have hXn2 : ∀ c ∈ X2, ¬ c < n₀ := fun c hc h => x1 c hc (.inl (.inl h))
      apply meet
      · intro hT
        (first | gi_region_with_o ((refine ⟨trivial, hdd _, ?_⟩); gi_at_call 26; refine (callsIn_wide.2 (nodes_any _ _ _)).mono ?_; rintro e w' ⟨rfl, rfl⟩) | fail)
        all_goals gi_wp2
        all_goals exact hT.out
      obtain ⟨V2, hV2⟩ : ∃ V, Hid (V = ((W1.alloc (.cells #[.pointer tr.ptr] 47)).alloc (.cells #[.string key] 9)).drew.drew) := ⟨_, rfl⟩
      rw [← hV2.out]
      have t2 : Tur [] W1 V2 := by
        rw [hV2.out]
        exact (((Tur.alloc [] W1 _).trans (Tur.alloc [] _ _) (Fre.refl _ _)).trans (Tur.drew [] _) (Fre.refl _ _)).trans (Tur.drew [] _) (Fre.refl _ _)
      have z2 : V2.heap.size = W1.heap.size + 2 := by rw [hV2.out]; simp
      have nn2 : Has V2 W1.heap.size 47 #[.pointer tr.ptr] := by
        rw [hV2.out]
        exact (Has.new W1 _ _).alloc _
      have kk2 : Has V2 (W1.heap.size + 1) 9 #[.string key] := by
        rw [hV2.out]
        have := Has.new (W1.alloc (.cells #[.pointer tr.ptr] 47)) 9 #[.string key]
        rw [World.size_alloc] at this
        exact this
      have tt2 : IsTr n₀ V2 tr := hTr1.keep fun c hc => t2.block c (by omega) (by simp)
      have jj2 : J ([]) X2 V2 := hJ _ _ _ _ [] j1 t2 (by simp)
      have xl2 := hJl _ _ _ j1
      have hK2 : ∀ c, (fun c => c = W.heap.size) c → c < V2.heap.size := by
        intro c hc
        have := (fun (c : Nat) (hc : c = W.heap.size) => (by rw [hc, s1]; exact Nat.lt_succ_self _ : c < W1.heap.size)) c hc
        omega
      have kp2 : Kept (fun c => c = W.heap.size) V2 X2 V2 := ⟨(fun c hc h => x1 c hc (.inr h)), fun _ _ => rfl⟩
      clear hV2
      have y2 : Has V2 W.heap.size 62 #[.func (.yield l) #[] #[]] := y1.tur t2 (by simp)
      rw [← s1]
      refine wp_tells (xs := tr.from key) rfl rfl (gf := 34) (lb := #[.pointer (some ⟨W1.heap.size, 0, none⟩), .pointer (some ⟨W1.heap.size + 1, 0, none⟩)]) (rfl) trivial (enters_of Try.func34 (by kernel_rfl) rfl)
        (ihr V2 W1.heap.size (W1.heap.size + 1) tt2 (by omega) nn2 kk2) (Nat.le_refl _) (fun _ _ => rfl) (by intro c hc; have := nn2.lt; have := kk2.lt; omega) (fun _ => rfl)
        (fun p Y V => J ([] ++ p) Y V ∧ Kept (fun c => c = W.heap.size) V2 Y V) (fun c p Y V => c = .ret ∧ Jx ([] ++ p) Y V ∧ Kept (fun c => c = W.heap.size) V2 Y V)
        (Stays.and ((hJ.at _).mono (by omega)) (Kept.stays hK2)) (fun c => Stays.and (Stays.pure _) (Stays.and ((hJx.at _).mono (by omega)) (Kept.stays hK2))) (fun _ _ _ h => hJl _ _ _ h.1)
        X2 (by intro c hc h; have := xl2 c hc; have := hXn2 c hc; omega) ⟨by rw [List.append_nil]; exact jj2, kp2⟩ ?loop2 ?done2 ?stop2
      case loop2 =>
        apply Exists.intro
        constructor
        · intro m' l' x V K hK
          dsimp only [Nd.enc]
          gi_wp2
          exact hK
        · rintro m' l' p x Y V ⟨hj, hk⟩ hpre
          have hpre2 : [] ++ p ++ [x] <+: (Tr.node b tl k v lo le tr).from key := by
            simpa [Tr.from, hc] using hpre
          obtain ⟨fn, tmps, assign, body, hy0, hRR⟩ := hR (m' - 1) ([] ++ p) x Y V hj hpre2
          have hy : Sem.run Try.prog (Instr.yield l #[.pointer (some ⟨x.b, 0, none⟩)]) V = .ok (.round l fn tmps assign body) V := hy0
          have cy : V.cell? ⟨W.heap.size, 0, none⟩ = some (.func (.yield l) #[] #[]) := (y2.kept hk (by simp)).cell 0
          gi_wp2_with ((refine ⟨hdd _, ?_⟩); refine (RoundIn.inR hRR).mono ?_; rintro e V3 ⟨Y', (⟨rfl, hj3⟩ | ⟨rfl, hj3⟩), ht, hf⟩)
          · rw [List.append_assoc] at hj3
            exact ⟨Y', ⟨hj3, hk.step hK2 ht hf⟩, ht, hf⟩
          · rw [List.append_assoc] at hj3
            exact ⟨Y', ⟨rfl, hj3, hk.step hK2 ht hf⟩, ht, hf⟩
      case done2 =>
        rintro D Y V hD ⟨hj, hk⟩ hDY hDd
        gi_wp2
        refine ⟨by simp, .inl ⟨_, _, rfl, run_takeDeferred hDd, ?_⟩⟩
        refine ⟨_, results_none rfl _ _ _, ⟨_, rfl⟩, Y, .inl ?_⟩
        have hq : [] ++ tr.from key = (Tr.node b tl k v lo le tr).from key := by simp [Tr.from, hc]
        rw [← hq]
        exact hJ _ _ _ _ [D] hj (Tur.putObj V (by simp) _) (fun c hcD => by rw [List.mem_singleton.1 hcD]; exact ⟨by omega, hDY⟩)
      case stop2 =>
        rintro D c p Y V hD ⟨rfl, hj, hk⟩ hDY hDd
        gi_wp2
        refine ⟨by simp, .inl ⟨_, _, rfl, run_takeDeferred hDd, ?_⟩⟩
        refine ⟨_, results_none rfl _ _ _, ⟨_, rfl⟩, Y, .inr ⟨[] ++ p, ?_⟩⟩
        exact hJx _ _ _ _ [D] hj (Tur.putObj V (by simp) _) (fun c hcD => by rw [List.mem_singleton.1 hcD]; exact ⟨by omega, hDY⟩)
    | false =>
      have hlt : Op.bytesLess k.toList key.toList = false := hc
      gi_region_o
      all_goals gi_wp2
      obtain ⟨X3, hX3⟩ : ∃ X2, X2 = X := ⟨_, rfl⟩
      rw [← hX3] at j1 x1
      have hXn3 : ∀ c ∈ X3, ¬ c < n₀ := fun c hc h => x1 c hc (.inl (.inl h))
      apply meet
      · intro hT
        (first | gi_region_with_o ((refine ⟨trivial, hdd _, ?_⟩); gi_at_call 26; refine (callsIn_wide.2 (nodes_any _ _ _)).mono ?_; rintro e w' ⟨rfl, rfl⟩) | fail)
        all_goals gi_wp2
        all_goals exact hT.out
      obtain ⟨V3, hV3⟩ : ∃ V, Hid (V = ((W1.alloc (.cells #[.pointer tl.ptr] 47)).alloc (.cells #[.string key] 9)).drew.drew) := ⟨_, rfl⟩
      rw [← hV3.out]
      have t3 : Tur [] W1 V3 := by
        rw [hV3.out]
        exact (((Tur.alloc [] W1 _).trans (Tur.alloc [] _ _) (Fre.refl _ _)).trans (Tur.drew [] _) (Fre.refl _ _)).trans (Tur.drew [] _) (Fre.refl _ _)
      have z3 : V3.heap.size = W1.heap.size + 2 := by rw [hV3.out]; simp
      have nn3 : Has V3 W1.heap.size 47 #[.pointer tl.ptr] := by
        rw [hV3.out]
        exact (Has.new W1 _ _).alloc _
      have kk3 : Has V3 (W1.heap.size + 1) 9 #[.string key] := by
        rw [hV3.out]
        have := Has.new (W1.alloc (.cells #[.pointer tl.ptr] 47)) 9 #[.string key]
        rw [World.size_alloc] at this
        exact this
      have tt3 : IsTr n₀ V3 tl := hTl1.keep fun c hc => t3.block c (by omega) (by simp)
      have jj3 : J ([]) X3 V3 := hJ _ _ _ _ [] j1 t3 (by simp)
      have xl3 := hJl _ _ _ j1
      have hK3 : ∀ c, (fun c => (c < n₀ ∨ c = nb ∨ c = kb) ∨ c = W.heap.size) c → c < V3.heap.size := by
        intro c hc
        have := q1 c hc
        omega
      have kp3 : Kept (fun c => (c < n₀ ∨ c = nb ∨ c = kb) ∨ c = W.heap.size) V3 X3 V3 := ⟨x1, fun _ _ => rfl⟩
      clear hV3
      have y3 : Has V3 W.heap.size 62 #[.func (.yield l) #[] #[]] := y1.tur t3 (by simp)
      have n3 := n1.tur t3 (by simp)
      have k3 := k1.tur t3 (by simp)
      have r3 := r1.tur t3 (by simp)
      have tr3 : IsTr n₀ V3 tr := hTr1.keep fun c hc => t3.block c (by omega) (by simp)
      rw [← s1]
      refine wp_tells (xs := tl.from key) rfl rfl (gf := 34) (lb := #[.pointer (some ⟨W1.heap.size, 0, none⟩), .pointer (some ⟨W1.heap.size + 1, 0, none⟩)]) (rfl) trivial (enters_of Try.func34 (by kernel_rfl) rfl)
        (ihl V3 W1.heap.size (W1.heap.size + 1) tt3 (by omega) nn3 kk3) (Nat.le_refl _) (fun _ _ => rfl) (by intro c hc; have := nn3.lt; have := kk3.lt; omega) (fun _ => rfl)
        (fun p Y V => J ([] ++ p) Y V ∧ Kept (fun c => (c < n₀ ∨ c = nb ∨ c = kb) ∨ c = W.heap.size) V3 Y V) (fun c p Y V => c = .ret ∧ Jx ([] ++ p) Y V ∧ Kept (fun c => (c < n₀ ∨ c = nb ∨ c = kb) ∨ c = W.heap.size) V3 Y V)
        (Stays.and ((hJ.at _).mono (by omega)) (Kept.stays hK3)) (fun c => Stays.and (Stays.pure _) (Stays.and ((hJx.at _).mono (by omega)) (Kept.stays hK3))) (fun _ _ _ h => hJl _ _ _ h.1)
        X3 (by intro c hc h; have := xl3 c hc; have := hXn3 c hc; omega) ⟨by rw [List.append_nil]; exact jj3, kp3⟩ ?loop3 ?done3 ?stop3
      case loop3 =>
        apply Exists.intro
        constructor
        · intro m' l' x V K hK
          dsimp only [Nd.enc]
          gi_wp2
          exact hK
        · rintro m' l' p x Y V ⟨hj, hk⟩ hpre
          have hpre2 : [] ++ p ++ [x] <+: (Tr.node b tl k v lo le tr).from key := by
            have := hpre.trans (List.prefix_append (tl.from key) ([⟨b, k, v⟩] ++ tr.from key)); simpa [Tr.from, hc] using this
          obtain ⟨fn, tmps, assign, body, hy0, hRR⟩ := hR (m' - 1) ([] ++ p) x Y V hj hpre2
          have hy : Sem.run Try.prog (Instr.yield l #[.pointer (some ⟨x.b, 0, none⟩)]) V = .ok (.round l fn tmps assign body) V := hy0
          have cy : V.cell? ⟨W.heap.size, 0, none⟩ = some (.func (.yield l) #[] #[]) := (y3.kept hk (by simp)).cell 0
          gi_wp2_with ((refine ⟨hdd _, ?_⟩); refine (RoundIn.inR hRR).mono ?_; rintro e V3 ⟨Y', (⟨rfl, hj3⟩ | ⟨rfl, hj3⟩), ht, hf⟩)
          · rw [List.append_assoc] at hj3
            exact ⟨Y', ⟨hj3, hk.step hK3 ht hf⟩, ht, hf⟩
          · rw [List.append_assoc] at hj3
            exact ⟨Y', ⟨rfl, hj3, hk.step hK3 ht hf⟩, ht, hf⟩
      case done3 =>
        rintro D Y V hD ⟨hj, hk⟩ hDY hDd
        have hpre2 : ([] ++ tl.from key) ++ [⟨b, k, v⟩] <+: (Tr.node b tl k v lo le tr).from key := by simp [Tr.from, hc]
        obtain ⟨fn, tmps, assign, body, hy0, hRR⟩ := hR (m - 1) ([] ++ tl.from key) ⟨b, k, v⟩ Y V hj hpre2
        have hy : Sem.run Try.prog (Instr.yield l #[.pointer (some ⟨b, 0, none⟩)]) V = .ok (.round l fn tmps assign body) V := hy0
        have cy : V.cell? ⟨W.heap.size, 0, none⟩ = some (.func (.yield l) #[] #[]) := (y3.kept hk (.inr rfl)).cell 0
        have cnV : V.cell? ⟨nb, 0, none⟩ = some (.pointer (some ⟨b, 0, none⟩)) := (n3.kept hk (.inl (.inr (.inl rfl)))).cell 0
        gi_wp2_with ((refine ⟨hdd _, ?_⟩); refine hRR.mono ?_; rintro e V4 ⟨Y', (⟨rfl, hj4⟩ | ⟨rfl, hj4⟩), ht, hf⟩)
        · have hk4 := hk.step hK3 ht hf
          have hD5 : V4.heap[D]? = some (.deferred (some [])) := (ht.block D (lt_of_some hDd) hDY).trans hDd
          have hDY5 : D ∉ Y' := fun h => (hf _ h).elim hDY (fun hh => by have := lt_of_some hDd; omega)
          have n4 := n3.kept hk4 (.inl (.inr (.inl rfl)))
          have k4 := k3.kept hk4 (.inl (.inr (.inr rfl)))
          have r4 := r3.kept hk4 (.inl (.inl hb))
          have y4 := y3.kept hk4 (.inr rfl)
          have tr4 : IsTr n₀ V4 tr := tr3.keep fun c hc => hk4.2 c (.inl (.inl hc))
          have l4 := n4.lt
          have l5 := y4.lt
          have z4 : n₀ ≤ V4.heap.size := by have := ht.size; have := hk.lt hK3 (c := W.heap.size) (.inr rfl); omega
          clear hy hy0 hRR cy cnV cn ck c0 c2 c3 hj ht hf
          have cn : V4.cell? ⟨nb, 0, none⟩ = some (.pointer (some ⟨b, 0, none⟩)) := n4.cell 0
          have ck : V4.cell? ⟨kb, 0, none⟩ = some (.string key) := k4.cell 0
          have c3 : V4.cell? ⟨b, 3, none⟩ = some (.pointer tr.ptr) := r4.cell 3
          obtain ⟨X5, hX5⟩ : ∃ X2, X2 = Y' := ⟨_, rfl⟩
          rw [← hX5] at hj4 hk4 hDY5
          have hXn5 : ∀ c ∈ X5, ¬ c < n₀ := fun c hc h => hk4.1 c hc (.inl (.inl h))
          have hj4' : J (tl.from key ++ [⟨b, k, v⟩]) X5 V4 := by simpa using hj4
          apply meet
          · intro hT
            (first | gi_region_with_o ((refine ⟨trivial, hdd _, ?_⟩); gi_at_call 26; refine (callsIn_wide.2 (nodes_any _ _ _)).mono ?_; rintro e w' ⟨rfl, rfl⟩) | fail)
            all_goals gi_wp2
            all_goals exact hT.out
          obtain ⟨V5, hV5⟩ : ∃ V, Hid (V = ((V4.alloc (.cells #[.pointer tr.ptr] 47)).alloc (.cells #[.string key] 9)).drew) := ⟨_, rfl⟩
          rw [← hV5.out]
          have t5 : Tur [] V4 V5 := by
            rw [hV5.out]
            exact ((Tur.alloc [] V4 _).trans (Tur.alloc [] _ _) (Fre.refl _ _)).trans (Tur.drew [] _) (Fre.refl _ _)
          have z5 : V5.heap.size = V4.heap.size + 2 := by rw [hV5.out]; simp
          have nn5 : Has V5 V4.heap.size 47 #[.pointer tr.ptr] := by
            rw [hV5.out]
            exact (Has.new V4 _ _).alloc _
          have kk5 : Has V5 (V4.heap.size + 1) 9 #[.string key] := by
            rw [hV5.out]
            have := Has.new (V4.alloc (.cells #[.pointer tr.ptr] 47)) 9 #[.string key]
            rw [World.size_alloc] at this
            exact this
          have tt5 : IsTr n₀ V5 tr := tr4.keep fun c hc => t5.block c (by omega) (by simp)
          have jj5 : J ((tl.from key ++ [⟨b, k, v⟩])) X5 V5 := hJ _ _ _ _ [] hj4' t5 (by simp)
          have xl5 := hJl _ _ _ hj4'
          have hK5 : ∀ c, (fun c => c = W.heap.size ∨ c = D) c → c < V5.heap.size := by
            intro c hc
            have := (fun (c : Nat) (hc : c = W.heap.size ∨ c = D) => (by have := lt_of_some hD5; rcases hc with rfl | rfl <;> omega : c < V4.heap.size)) c hc
            omega
          have kp5 : Kept (fun c => c = W.heap.size ∨ c = D) V5 X5 V5 := ⟨(fun c hc h => h.elim (fun e => hk4.1 c hc (.inr e)) (fun e => hDY5 (e ▸ hc))), fun _ _ => rfl⟩
          clear hV5
          have y5 : Has V5 W.heap.size 62 #[.func (.yield l) #[] #[]] := y4.tur t5 (by simp)
          have hD5 : V5.heap[D]? = some (.deferred (some [])) := (t5.block D (lt_of_some hD5) (by simp)).trans hD5
          refine wp_tells (xs := tr.from key) rfl rfl (gf := 34) (lb := #[.pointer (some ⟨V4.heap.size, 0, none⟩), .pointer (some ⟨V4.heap.size + 1, 0, none⟩)]) (rfl) trivial (enters_of Try.func34 (by kernel_rfl) rfl)
            (ihr V5 V4.heap.size (V4.heap.size + 1) tt5 (by omega) nn5 kk5) (Nat.le_refl _) (fun _ _ => rfl) (by intro c hc; have := nn5.lt; have := kk5.lt; omega) (fun _ => rfl)
            (fun p Y V => J ((tl.from key ++ [⟨b, k, v⟩]) ++ p) Y V ∧ Kept (fun c => c = W.heap.size ∨ c = D) V5 Y V) (fun c p Y V => c = .ret ∧ Jx ((tl.from key ++ [⟨b, k, v⟩]) ++ p) Y V ∧ Kept (fun c => c = W.heap.size ∨ c = D) V5 Y V)
            (Stays.and ((hJ.at _).mono (by omega)) (Kept.stays hK5)) (fun c => Stays.and (Stays.pure _) (Stays.and ((hJx.at _).mono (by omega)) (Kept.stays hK5))) (fun _ _ _ h => hJl _ _ _ h.1)
            X5 (by intro c hc h; have := xl5 c hc; have := hXn5 c hc; omega) ⟨by rw [List.append_nil]; exact jj5, kp5⟩ ?loop5 ?done5 ?stop5
          case loop5 =>
            apply Exists.intro
            constructor
            · intro m' l' x V K hK
              dsimp only [Nd.enc]
              gi_wp2
              exact hK
            · rintro m' l' p x Y V ⟨hj, hk⟩ hpre
              have hpre2 : (tl.from key ++ [⟨b, k, v⟩]) ++ p ++ [x] <+: (Tr.node b tl k v lo le tr).from key := by
                simpa [Tr.from, hc] using hpre
              obtain ⟨fn, tmps, assign, body, hy0, hRR⟩ := hR (m' - 1) ((tl.from key ++ [⟨b, k, v⟩]) ++ p) x Y V hj hpre2
              have hy : Sem.run Try.prog (Instr.yield l #[.pointer (some ⟨x.b, 0, none⟩)]) V = .ok (.round l fn tmps assign body) V := hy0
              have cy : V.cell? ⟨W.heap.size, 0, none⟩ = some (.func (.yield l) #[] #[]) := (y5.kept hk (by simp)).cell 0
              gi_wp2_with ((refine ⟨hdd _, ?_⟩); refine (RoundIn.inR hRR).mono ?_; rintro e V3 ⟨Y', (⟨rfl, hj3⟩ | ⟨rfl, hj3⟩), ht, hf⟩)
              · rw [List.append_assoc] at hj3
                exact ⟨Y', ⟨hj3, hk.step hK5 ht hf⟩, ht, hf⟩
              · rw [List.append_assoc] at hj3
                exact ⟨Y', ⟨rfl, hj3, hk.step hK5 ht hf⟩, ht, hf⟩
          case done5 =>
            rintro D2 Y2 V6 hD2 ⟨hj, hk⟩ hDY2 hDd2
            have hD6 : V6.heap[D]? = some (.deferred (some [])) := (hk.2 D (.inr rfl)).trans hD5
            have hne : D ≠ D2 := by have := lt_of_some hD5; omega
            gi_wp2
            refine ⟨by simp, .inl ⟨_, _, rfl, run_takeDeferred hDd2, ?_⟩⟩
            refine ⟨by simp, .inl ⟨_, _, rfl, run_takeDeferred ((World.putObj_heap_other hne).trans hD6), ?_⟩⟩
            refine ⟨_, results_none rfl _ _ _, ⟨_, rfl⟩, Y2, .inl ?_⟩
            have hq : (tl.from key ++ [⟨b, k, v⟩]) ++ tr.from key = (Tr.node b tl k v lo le tr).from key := by simp [Tr.from, hc]
            rw [← hq]
            have j7 := hJ _ _ _ _ [D2] hj (Tur.putObj (l := D2) V6 (by simp) (.deferred none)) (fun c hcD => by rw [List.mem_singleton.1 hcD]; exact ⟨by omega, hDY2⟩)
            exact hJ _ _ _ _ [D] j7 (Tur.putObj _ (by simp) _) (fun c hcD => by rw [List.mem_singleton.1 hcD]; exact ⟨by omega, fun h => hk.1 _ h (.inr rfl)⟩)
          case stop5 =>
            rintro D2 c p Y2 V6 hD2 ⟨rfl, hj, hk⟩ hDY2 hDd2
            have hD6 : V6.heap[D]? = some (.deferred (some [])) := (hk.2 D (.inr rfl)).trans hD5
            have hne : D ≠ D2 := by have := lt_of_some hD5; omega
            gi_wp2
            refine ⟨by simp, .inl ⟨_, _, rfl, run_takeDeferred hDd2, ?_⟩⟩
            refine ⟨by simp, .inl ⟨_, _, rfl, run_takeDeferred ((World.putObj_heap_other hne).trans hD6), ?_⟩⟩
            refine ⟨_, results_none rfl _ _ _, ⟨_, rfl⟩, Y2, .inr ⟨(tl.from key ++ [⟨b, k, v⟩]) ++ p, ?_⟩⟩
            have j7 := hJx _ _ _ _ [D2] hj (Tur.putObj (l := D2) V6 (by simp) (.deferred none)) (fun c hcD => by rw [List.mem_singleton.1 hcD]; exact ⟨by omega, hDY2⟩)
            exact hJx _ _ _ _ [D] j7 (Tur.putObj _ (by simp) _) (fun c hcD => by rw [List.mem_singleton.1 hcD]; exact ⟨by omega, fun h => hk.1 _ h (.inr rfl)⟩)
        · gi_wp2
          have hD5 : V4.heap[D]? = some (.deferred (some [])) := (ht.block D (lt_of_some hDd) hDY).trans hDd
          have hDY5 : D ∉ Y' := fun h => (hf _ h).elim hDY (fun hh => by have := lt_of_some hDd; omega)
          refine ⟨by simp, .inl ⟨_, _, rfl, run_takeDeferred hD5, ?_⟩⟩
          refine ⟨_, results_none rfl _ _ _, ⟨_, rfl⟩, Y', .inr ⟨[] ++ tl.from key ++ [⟨b, k, v⟩], ?_⟩⟩
          exact hJx _ _ _ _ [D] hj4 (Tur.putObj V4 (by simp) _) (fun c hcD => by rw [List.mem_singleton.1 hcD]; exact ⟨by omega, hDY5⟩)
      case stop3 =>
        rintro D c p Y V hD ⟨rfl, hj, hk⟩ hDY hDd
        gi_wp2
        refine ⟨by simp, .inl ⟨_, _, rfl, run_takeDeferred hDd, ?_⟩⟩
        refine ⟨_, results_none rfl _ _ _, ⟨_, rfl⟩, Y, .inr ⟨[] ++ p, ?_⟩⟩
        exact hJx _ _ _ _ [D] hj (Tur.putObj V (by simp) _) (fun c hcD => by rw [List.mem_singleton.1 hcD]; exact ⟨by omega, hDY⟩)
end Go.Proofs.Ytmapclocbhkpbaa
