/-
  Both disks in one world, and a block beside them that no call changes.
-/
import Derived.Test.YtoooainecoappaaRu
namespace Go.Proofs.Ytoooainecoappaa
open Go.RowKit Go.Maps Go.WideShapes
def TwoZ (B d r z : Nat) (w : World) (S T : Ds) : Prop := ∃ X v ra, DAt B d w S X ∧ RIn r w T v ra ∧ (∀ b ∈ rft r v, b ∉ X) ∧ (∀ b ∈ rft r v, B ≤ b) ∧ B ≤ w.heap.size ∧ z < w.heap.size ∧ z ∉ X ∧ z ∉ rft r v
section
variable {B d r z : Nat} {w w' : World} {S T S' T' : Ds} {X : List Nat} {v v' : Value} {ra rb : Int}
theorem Two.box (h : Two B d r w S T) (o : Obj) : TwoZ B d r w.heap.size (w.alloc o) S T := by
  obtain ⟨X, v, ra, ⟨m, gs, rfl, h0⟩, hr, hx, hlo, hB⟩ := h
  have hb := (Below.refl w.heap.size w).alloc (Nat.le_refl _) o
  exact ⟨_, v, ra, ⟨m, gs, rfl, h0.below hb⟩, hr.keep (fun b hb2 => hb.block b (hr.lt b hb2)), hx, hlo, Nat.le_trans hB hb.size, by simp, fun hh => absurd (h0.lt _ hh) (Nat.lt_irrefl _), fun hh => absurd (hr.lt _ hh) (Nat.lt_irrefl _)⟩
theorem TwoZ.two (h : TwoZ B d r z w S T) : Two B d r w S T := by
  obtain ⟨X, v, ra, hd, hr, hx, hlo, hB, _⟩ := h
  exact ⟨X, v, ra, hd, hr, hx, hlo, hB⟩
theorem TwoZ.disk (hd : DAt B d w S X) (hr : RIn r w T v ra) (hx : ∀ b ∈ rft r v, b ∉ X) (hlo : ∀ b ∈ rft r v, B ≤ b) (hB : B ≤ w.heap.size) (z1 : z < w.heap.size) (z2 : z ∉ X) (z3 : z ∉ rft r v) (ho : Out B d X w S' w') : TwoZ B d r z w' S' T ∧ Below B w w' ∧ w'.heap[z]? = w.heap[z]? := by
  obtain ⟨X', hd', ht, hf⟩ := ho
  obtain ⟨m, gs, rfl, h0⟩ := hd
  exact ⟨⟨X', v, ra, hd', hr.keep (fun b hb => ht.block b (hr.lt b hb) (hx b hb)), fun b hb h2 => (hf b h2).elim (hx b hb) (fun hh => by have := hr.lt b hb; omega), hlo, Nat.le_trans hB ht.size, Nat.lt_of_lt_of_le z1 ht.size, fun hh => (hf z hh).elim z2 (fun h4 => by omega), z3⟩, ht.below h0.ge hB, ht.block z z1 z2⟩
theorem TwoZ.ref (hd : DAt B d w S X) (hx : ∀ b ∈ rft r v, b ∉ X) (hlo : ∀ b ∈ rft r v, B ≤ b) (hB : B ≤ w.heap.size) (z1 : z < w.heap.size) (z2 : z ∉ X) (z3 : z ∉ rft r v) (h' : RIn r w' T' v' rb) (ht : Tur (rft r v) w w') (hf : Fre (rft r v) (rft r v') w) : TwoZ B d r z w' S T' ∧ Below B w w' ∧ w'.heap[z]? = w.heap[z]? := by
  obtain ⟨m, gs, rfl, h0⟩ := hd
  exact ⟨⟨foot d m gs, v', rb, ⟨m, gs, rfl, h0.tur ht (fun b hb h2 => hx b h2 hb)⟩, h', fun b hb h2 => (hf b hb).elim (fun h3 => hx b h3 h2) (fun hh => by have := h0.lt b h2; omega), fun b hb => (hf b hb).elim (hlo b) (fun hh => Nat.le_trans hB hh), Nat.le_trans hB ht.size, Nat.lt_of_lt_of_le z1 ht.size, z2, fun hh => (hf z hh).elim z3 (fun h4 => by omega)⟩, ht.below hlo hB, ht.block z z1 z3⟩
theorem TwoZ.below (h : TwoZ B d r z w S T) (hb : Below w.heap.size w w') : TwoZ B d r z w' S T := by
  obtain ⟨X, v, ra, ⟨m, gs, rfl, h0⟩, hr, hx, hlo, hB, z1, z2, z3⟩ := h
  exact ⟨_, v, ra, ⟨m, gs, rfl, h0.below hb⟩, hr.keep (fun b hb2 => hb.block b (hr.lt b hb2)), hx, hlo, Nat.le_trans hB hb.size, Nat.lt_of_lt_of_le z1 hb.size, z2, z3⟩
theorem create_z (h : TwoZ B d r z w S T) (s : ByteArray) (hs : s.size ≤ 140737488355328) (hlen : S.fs.length ≤ 100000) :
    Calls Try.prog 29 #[.pointer (some ⟨d, 0, none⟩), .string s] w fun e w' => ∃ k : Nat, e = .returned (.int .i64 k) ∧ Hid (k = (createD S s).2) ∧ Hid (TwoZ B d r z w' (createD S s).1 T) ∧ Hid (Below B w w' ∧ w'.heap[z]? = w.heap[z]?) := by
  obtain ⟨X, v, ra, hd, hr, hx, hlo, hB, z1, z2, z3⟩ := h
  exact (create_any B d w S X hd hB s hs hlen).mono fun e w' ⟨k, he, hk, ho⟩ => ⟨k, he, hk, (TwoZ.disk hd hr hx hlo hB z1 z2 z3 ho.out).1, (TwoZ.disk hd hr hx hlo hB z1 z2 z3 ho.out).2⟩
theorem remove_z (h : TwoZ B d r z w S T) (s : ByteArray) (hs : s.size ≤ 140737488355328) :
    Calls Try.prog 34 #[.pointer (some ⟨d, 0, none⟩), .string s] w fun e w' => ∃ k : Nat, e = .returned (.int .i64 k) ∧ Hid (k = (removeD S s).2) ∧ Hid (TwoZ B d r z w' (removeD S s).1 T) ∧ Hid (Below B w w' ∧ w'.heap[z]? = w.heap[z]?) := by
  obtain ⟨X, v, ra, hd, hr, hx, hlo, hB, z1, z2, z3⟩ := h
  exact (remove_any B d w S X hd s hs).mono fun e w' ⟨k, he, hk, ho⟩ => ⟨k, he, hk, (TwoZ.disk hd hr hx hlo hB z1 z2 z3 ho.out).1, (TwoZ.disk hd hr hx hlo hB z1 z2 z3 ho.out).2⟩
theorem sync_z (h : TwoZ B d r z w S T) (s : ByteArray) (hs : s.size ≤ 140737488355328) :
    Calls Try.prog 32 #[.pointer (some ⟨d, 0, none⟩), .string s] w fun e w' => ∃ k : Nat, e = .returned (.int .i64 k) ∧ Hid (k = (syncD S s).2) ∧ Hid (TwoZ B d r z w' (syncD S s).1 T) ∧ Hid (Below B w w' ∧ w'.heap[z]? = w.heap[z]?) := by
  obtain ⟨X, v, ra, hd, hr, hx, hlo, hB, z1, z2, z3⟩ := h
  exact (sync_any B d w S X hd hB s hs).mono fun e w' ⟨k, he, hk, ho⟩ => ⟨k, he, hk, (TwoZ.disk hd hr hx hlo hB z1 z2 z3 ho.out).1, (TwoZ.disk hd hr hx hlo hB z1 z2 z3 ho.out).2⟩
theorem rename_z (h : TwoZ B d r z w S T) (s t : ByteArray) (hs : s.size ≤ 140737488355328) (ht : t.size ≤ 140737488355328) (hlen : S.fs.length ≤ 100000) :
    Calls Try.prog 33 #[.pointer (some ⟨d, 0, none⟩), .string s, .string t] w fun e w' => ∃ k : Nat, e = .returned (.int .i64 k) ∧ Hid (k = (renameD S s t).2) ∧ Hid (TwoZ B d r z w' (renameD S s t).1 T) ∧ Hid (Below B w w' ∧ w'.heap[z]? = w.heap[z]?) := by
  obtain ⟨X, v, ra, hd, hr, hx, hlo, hB, z1, z2, z3⟩ := h
  exact (rename_any B d w S X hd s t hs ht hlen).mono fun e w' ⟨k, he, hk, ho⟩ => ⟨k, he, hk, (TwoZ.disk hd hr hx hlo hB z1 z2 z3 ho.out).1, (TwoZ.disk hd hr hx hlo hB z1 z2 z3 ho.out).2⟩
theorem append_z (h : TwoZ B d r z w S T) (s : ByteArray) (hs : s.size ≤ 140737488355328) (A : Option Addr) (b : List Nat) (n c : Nat) (hn : b.length = n) (hm : Rd w A b) (hA : A = none → c = 0) (hb : ∀ x ∈ b, x < 256) :
    Calls Try.prog 31 #[.pointer (some ⟨d, 0, none⟩), .string s, .slice A n c] w fun e w' => ∃ k : Nat, e = .returned (.int .i64 k) ∧ Hid (k = (appendD S s b).2) ∧ Hid (TwoZ B d r z w' (appendD S s b).1 T) ∧ Hid (Below B w w' ∧ w'.heap[z]? = w.heap[z]?) := by
  obtain ⟨X, v, ra, hd, hr, hx, hlo, hB, z1, z2, z3⟩ := h
  exact (append_any B d w S X hd hB s hs A b n c hn hm hA hb).mono fun e w' ⟨k, he, hk, ho⟩ => ⟨k, he, hk, (TwoZ.disk hd hr hx hlo hB z1 z2 z3 ho.out).1, (TwoZ.disk hd hr hx hlo hB z1 z2 z3 ho.out).2⟩
theorem rcreate_z (h : TwoZ B d r z w S T) (hg : Good T) (hl : T.fs.length ≤ 100000) (s : ByteArray) (hs : s.size ≤ 140737488355328) :
    Calls Try.prog 30 #[.pointer (some ⟨r, 0, none⟩), .int .u8 99, .string s, .string ⟨#[]⟩, .string ⟨#[]⟩] w fun e w' => ∃ k : Nat, e = .returned (.int .i64 k) ∧ Hid (k = (createD T s).2) ∧ Hid (TwoZ B d r z w' S (createD T s).1) ∧ Hid (Below B w w' ∧ w'.heap[z]? = w.heap[z]?) := by
  obtain ⟨X, v, ra, hd, hr, hx, hlo, hB, z1, z2, z3⟩ := h
  refine (rcreate_any hr hg hl s hs).mono fun e w' ho => ?_
  obtain ⟨k, he, hk, v', rb, h1, h2, h3⟩ := ho.out
  exact ⟨k, he, hk, (TwoZ.ref hd hx hlo hB z1 z2 z3 h1 h2 h3).1, (TwoZ.ref hd hx hlo hB z1 z2 z3 h1 h2 h3).2⟩
theorem rremove_z (h : TwoZ B d r z w S T) (hg : Good T) (hl : T.fs.length ≤ 100000) (s : ByteArray) (hs : s.size ≤ 140737488355328) :
    Calls Try.prog 30 #[.pointer (some ⟨r, 0, none⟩), .int .u8 114, .string s, .string ⟨#[]⟩, .string ⟨#[]⟩] w fun e w' => ∃ k : Nat, e = .returned (.int .i64 k) ∧ Hid (k = (removeD T s).2) ∧ Hid (TwoZ B d r z w' S (removeD T s).1) ∧ Hid (Below B w w' ∧ w'.heap[z]? = w.heap[z]?) := by
  obtain ⟨X, v, ra, hd, hr, hx, hlo, hB, z1, z2, z3⟩ := h
  refine (rremove_any hr hg hl s hs).mono fun e w' ho => ?_
  obtain ⟨k, he, hk, v', rb, h1, h2, h3⟩ := ho.out
  exact ⟨k, he, hk, (TwoZ.ref hd hx hlo hB z1 z2 z3 h1 h2 h3).1, (TwoZ.ref hd hx hlo hB z1 z2 z3 h1 h2 h3).2⟩
theorem rsync_z (h : TwoZ B d r z w S T) (hg : Good T) (hl : T.fs.length ≤ 100000) (s : ByteArray) (hs : s.size ≤ 140737488355328) :
    Calls Try.prog 30 #[.pointer (some ⟨r, 0, none⟩), .int .u8 115, .string s, .string ⟨#[]⟩, .string ⟨#[]⟩] w fun e w' => ∃ k : Nat, e = .returned (.int .i64 k) ∧ Hid (k = (syncD T s).2) ∧ Hid (TwoZ B d r z w' S (syncD T s).1) ∧ Hid (Below B w w' ∧ w'.heap[z]? = w.heap[z]?) := by
  obtain ⟨X, v, ra, hd, hr, hx, hlo, hB, z1, z2, z3⟩ := h
  refine (rsync_any hr hg hl s hs).mono fun e w' ho => ?_
  obtain ⟨k, he, hk, v', rb, h1, h2, h3⟩ := ho.out
  exact ⟨k, he, hk, (TwoZ.ref hd hx hlo hB z1 z2 z3 h1 h2 h3).1, (TwoZ.ref hd hx hlo hB z1 z2 z3 h1 h2 h3).2⟩
theorem rrename_z (h : TwoZ B d r z w S T) (hg : Good T) (hl : T.fs.length ≤ 100000) (s t : ByteArray) (hs : s.size ≤ 140737488355328) (ht : t.size ≤ 140737488355328) :
    Calls Try.prog 30 #[.pointer (some ⟨r, 0, none⟩), .int .u8 110, .string s, .string t, .string ⟨#[]⟩] w fun e w' => ∃ k : Nat, e = .returned (.int .i64 k) ∧ Hid (k = (renameD T s t).2) ∧ Hid (TwoZ B d r z w' S (renameD T s t).1) ∧ Hid (Below B w w' ∧ w'.heap[z]? = w.heap[z]?) := by
  obtain ⟨X, v, ra, hd, hr, hx, hlo, hB, z1, z2, z3⟩ := h
  refine (rrename_any hr hg hl s hs t ht).mono fun e w' ho => ?_
  obtain ⟨k, he, hk, v', rb, h1, h2, h3⟩ := ho.out
  exact ⟨k, he, hk, (TwoZ.ref hd hx hlo hB z1 z2 z3 h1 h2 h3).1, (TwoZ.ref hd hx hlo hB z1 z2 z3 h1 h2 h3).2⟩
theorem rappend_z (h : TwoZ B d r z w S T) (hg : Good T) (hl : T.fs.length ≤ 100000) (s : ByteArray) (hs : s.size ≤ 140737488355328) (b : List Nat) (hb : b.length ≤ 1000) :
    Calls Try.prog 30 #[.pointer (some ⟨r, 0, none⟩), .int .u8 97, .string s, .string ⟨#[]⟩, .string (bs b)] w fun e w' => ∃ k : Nat, e = .returned (.int .i64 k) ∧ Hid (k = (appendD T s b).2) ∧ Hid (TwoZ B d r z w' S (appendD T s b).1) ∧ Hid (Below B w w' ∧ w'.heap[z]? = w.heap[z]?) := by
  obtain ⟨X, v, ra, hd, hr, hx, hlo, hB, z1, z2, z3⟩ := h
  refine (rappend_any hr hg hl s hs b hb).mono fun e w' ho => ?_
  obtain ⟨k, he, hk, v', rb, h1, h2, h3⟩ := ho.out
  exact ⟨k, he, hk, (TwoZ.ref hd hx hlo hB z1 z2 z3 h1 h2 h3).1, (TwoZ.ref hd hx hlo hB z1 z2 z3 h1 h2 h3).2⟩
theorem up_z (h : TwoZ B d r z w S T) (hlen : S.fs.length ≤ 100000) (A : Option Addr) (keep : List Int) (nk c : Nat) (hnk : keep.length = nk) (hnk2 : nk ≤ 140737488355328) (hI : Ints w A keep) (hX : keep ≠ [] → ∀ a, A = some a → a.block < B) (hrg : ∀ x ∈ keep, -9223372036854775808 ≤ x ∧ x ≤ 9223372036854775807) :
    Calls Try.prog 37 #[.pointer (some ⟨d, 0, none⟩), .slice A nk c] w fun e w' => e = .returned (.tuple #[]) ∧ Hid (TwoZ B d r z w' (upD S keep) T) ∧ Hid (Below B w w' ∧ w'.heap[z]? = w.heap[z]?) := by
  obtain ⟨X, v, ra, hd, hr, hx, hlo, hB, z1, z2, z3⟩ := h
  refine (up_any B d w S X hd hB hlen A keep nk c hnk hnk2 hI (fun he a ha hh => by
    obtain ⟨m, gs, rfl, h0⟩ := hd
    have := h0.ge _ hh
    have := hX he a ha
    omega) hrg).mono fun e w' ⟨he, ho⟩ => ⟨he, (TwoZ.disk hd hr hx hlo hB z1 z2 z3 ho.out).1, (TwoZ.disk hd hr hx hlo hB z1 z2 z3 ho.out).2⟩
theorem rup_z (h : TwoZ B d r z w S T) (hg : Good T) (hl : T.fs.length ≤ 100000) (A : Option Addr) (keep : List Int) (nk c : Nat) (hnk : keep.length = nk) (hnk2 : nk ≤ 140737488355328) (hI : Ints w A keep) (hX : keep ≠ [] → ∀ a, A = some a → a.block < B) (hrg : ∀ x ∈ keep, -9223372036854775808 ≤ x ∧ x ≤ 9223372036854775807) :
    Calls Try.prog 38 #[.pointer (some ⟨r, 0, none⟩), .slice A nk c] w fun e w' => e = .returned (.tuple #[]) ∧ Hid (TwoZ B d r z w' S (upD T keep)) ∧ Hid (Below B w w' ∧ w'.heap[z]? = w.heap[z]?) := by
  obtain ⟨X, v, ra, hd, hr, hx, hlo, hB, z1, z2, z3⟩ := h
  refine (rup_any hr hg hl A keep nk c hnk hnk2 hI (fun he a ha hh => by
    have := hlo _ hh
    have := hX he a ha
    omega) hrg).mono fun e w' ⟨he, hu⟩ => ?_
  obtain ⟨rb, h1, h2⟩ := hu
  exact ⟨he, (TwoZ.ref hd hx hlo hB z1 z2 z3 h1.out h2.out (Fre.refl _ _)).1, (TwoZ.ref hd hx hlo hB z1 z2 z3 h1.out h2.out (Fre.refl _ _)).2⟩
theorem rarm_z (h : TwoZ B d r z w S T) (n : Int) (hn : -9223372036854775808 ≤ n ∧ n ≤ 9223372036854775807) :
    Calls Try.prog 36 #[.pointer (some ⟨r, 0, none⟩), .int .i64 n] w fun e w' => e = .returned (.tuple #[]) ∧ Hid (TwoZ B d r z w' S { T with armed := n }) ∧ Hid (Below B w w' ∧ w'.heap[z]? = w.heap[z]?) := by
  obtain ⟨X, v, ra, hd, hr, hx, hlo, hB, z1, z2, z3⟩ := h
  refine (rarm_any hr n hn).mono fun e w' ⟨he, h1, h2, h3⟩ => ?_
  obtain ⟨rb, h1⟩ := h1.out
  have ht : Tur (rft r v) w w' := h2.out.sub (by intro b hb; rw [List.mem_singleton.1 hb]; simp [rft])
  exact ⟨he, (TwoZ.ref hd hx hlo hB z1 z2 z3 h1 ht (Fre.refl _ _)).1, (TwoZ.ref hd hx hlo hB z1 z2 z3 h1 ht (Fre.refl _ _)).2⟩
set_option maxHeartbeats 2000000 in
set_option maxRecDepth 100000 in
theorem arm_z (h : TwoZ B d r z w S T) (n : Int) (hn : -9223372036854775808 ≤ n ∧ n ≤ 9223372036854775807) :
    Calls Try.prog 35 #[.pointer (some ⟨d, 0, none⟩), .int .i64 n] w fun e w' => e = .returned (.tuple #[]) ∧ Hid (TwoZ B d r z w' { S with armed := n } T) ∧ Hid (Below B w w' ∧ w'.heap[z]? = w.heap[z]?) := by
  obtain ⟨X, v, ra, hd, hr, hx, hlo, hB, z1, z2, z3⟩ := h
  obtain ⟨m, gs, rfl, h0⟩ := hd
  have d2 := h0.top.cell 2
  have f2 := h0.top.free 2
  have HT := Lib.hid (Tur.setCell (X := foot d m gs) w (p := ⟨d, 2, none⟩) (by simp [foot]) (.int .i64 n))
  have HQ := Lib.hid (TwoZ.disk ⟨m, gs, rfl, h0⟩ hr hx hlo hB z1 z2 z3 (⟨_, ⟨m, gs, rfl, h0.arms n hn⟩, HT.out, Fre.refl _ _⟩ : Out B d (foot d m gs) w { S with armed := n } _))
  clear h0 hr hx hlo z2 z3
  go_enter Try.func35, Try.ntmps35
  go_wp2_with fail
  go_end0
  exact ⟨rfl, HQ.out.1, HQ.out.2⟩
end
end Go.Proofs.Ytoooainecoappaa
