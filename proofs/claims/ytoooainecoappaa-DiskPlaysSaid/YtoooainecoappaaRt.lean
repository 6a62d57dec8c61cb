/-
  Both disks in one world: the program's and the document's.
-/
import Derived.Test.YtoooainecoappaaRj
import Derived.Test.YtoooainecoappaaDkX
namespace Go.Proofs.Ytoooainecoappaa
open Go.RowKit Go.Maps Go.WideShapes
def Two (B d r : Nat) (w : World) (S T : Ds) : Prop := ∃ X v ra, DAt B d w S X ∧ RIn r w T v ra ∧ (∀ b ∈ rft r v, b ∉ X) ∧ (∀ b ∈ rft r v, B ≤ b) ∧ B ≤ w.heap.size
section
variable {B d r : Nat} {w w' : World} {S T S' T' : Ds} {X : List Nat} {v v' : Value} {ra rb : Int}
theorem Two.disk (hd : DAt B d w S X) (hr : RIn r w T v ra) (hx : ∀ b ∈ rft r v, b ∉ X) (hlo : ∀ b ∈ rft r v, B ≤ b) (hB : B ≤ w.heap.size) (ho : Out B d X w S' w') : Two B d r w' S' T ∧ Below B w w' := by
  obtain ⟨X', hd', ht, hf⟩ := ho
  obtain ⟨m, gs, rfl, h0⟩ := hd
  exact ⟨⟨X', v, ra, hd', hr.keep (fun b hb => ht.block b (hr.lt b hb) (hx b hb)), fun b hb h2 => (hf b h2).elim (hx b hb) (fun hh => by have := hr.lt b hb; omega), hlo, Nat.le_trans hB ht.size⟩, ht.below h0.ge hB⟩
theorem Two.ref (hd : DAt B d w S X) (hx : ∀ b ∈ rft r v, b ∉ X) (hlo : ∀ b ∈ rft r v, B ≤ b) (hB : B ≤ w.heap.size) (h' : RIn r w' T' v' rb) (ht : Tur (rft r v) w w') (hf : Fre (rft r v) (rft r v') w) : Two B d r w' S T' ∧ Below B w w' := by
  obtain ⟨m, gs, rfl, h0⟩ := hd
  exact ⟨⟨foot d m gs, v', rb, ⟨m, gs, rfl, h0.tur ht (fun b hb h2 => hx b h2 hb)⟩, h', fun b hb h2 => (hf b hb).elim (fun h3 => hx b h3 h2) (fun hh => by have := h0.lt b h2; omega), fun b hb => (hf b hb).elim (hlo b) (fun hh => Nat.le_trans hB hh), Nat.le_trans hB ht.size⟩, ht.below hlo hB⟩
theorem Two.below (h : Two B d r w S T) (hb : Below w.heap.size w w') : Two B d r w' S T := by
  obtain ⟨X, v, ra, ⟨m, gs, rfl, h0⟩, hr, hx, hlo, hB⟩ := h
  exact ⟨_, v, ra, ⟨m, gs, rfl, h0.below hb⟩, hr.keep (fun b hb2 => hb.block b (hr.lt b hb2)), hx, hlo, Nat.le_trans hB hb.size⟩
theorem Two.dk (h : Two B d r w S T) : DK B d w S := by
  obtain ⟨X, v, ra, hd, _, _, _, hB⟩ := h
  exact ⟨X, hd, hB⟩
theorem Two.good (h : Two B d r w S T) : Good S := by
  obtain ⟨X, v, ra, hd, _⟩ := h
  exact hd.good
theorem Two.size (h : Two B d r w S T) : B ≤ w.heap.size := by
  obtain ⟨X, v, ra, _, _, _, _, hB⟩ := h
  exact hB
theorem Two.rin (h : Two B d r w S T) : ∃ v ra, RIn r w T v ra := by
  obtain ⟨X, v, ra, _, hr, _⟩ := h
  exact ⟨v, ra, hr⟩
theorem create_two (h : Two B d r w S T) (s : ByteArray) (hs : s.size ≤ 140737488355328) (hlen : S.fs.length ≤ 100000) :
    Calls Try.prog 29 #[.pointer (some ⟨d, 0, none⟩), .string s] w fun e w' => ∃ k : Nat, e = .returned (.int .i64 k) ∧ Hid (k = (createD S s).2) ∧ Hid (Two B d r w' (createD S s).1 T) ∧ Hid (Below B w w') := by
  obtain ⟨X, v, ra, hd, hr, hx, hlo, hB⟩ := h
  exact (create_any B d w S X hd hB s hs hlen).mono fun e w' ⟨k, he, hk, ho⟩ => ⟨k, he, hk, (Two.disk hd hr hx hlo hB ho.out).1, (Two.disk hd hr hx hlo hB ho.out).2⟩
theorem remove_two (h : Two B d r w S T) (s : ByteArray) (hs : s.size ≤ 140737488355328) :
    Calls Try.prog 34 #[.pointer (some ⟨d, 0, none⟩), .string s] w fun e w' => ∃ k : Nat, e = .returned (.int .i64 k) ∧ Hid (k = (removeD S s).2) ∧ Hid (Two B d r w' (removeD S s).1 T) ∧ Hid (Below B w w') := by
  obtain ⟨X, v, ra, hd, hr, hx, hlo, hB⟩ := h
  exact (remove_any B d w S X hd s hs).mono fun e w' ⟨k, he, hk, ho⟩ => ⟨k, he, hk, (Two.disk hd hr hx hlo hB ho.out).1, (Two.disk hd hr hx hlo hB ho.out).2⟩
theorem sync_two (h : Two B d r w S T) (s : ByteArray) (hs : s.size ≤ 140737488355328) :
    Calls Try.prog 32 #[.pointer (some ⟨d, 0, none⟩), .string s] w fun e w' => ∃ k : Nat, e = .returned (.int .i64 k) ∧ Hid (k = (syncD S s).2) ∧ Hid (Two B d r w' (syncD S s).1 T) ∧ Hid (Below B w w') := by
  obtain ⟨X, v, ra, hd, hr, hx, hlo, hB⟩ := h
  exact (sync_any B d w S X hd hB s hs).mono fun e w' ⟨k, he, hk, ho⟩ => ⟨k, he, hk, (Two.disk hd hr hx hlo hB ho.out).1, (Two.disk hd hr hx hlo hB ho.out).2⟩
theorem rename_two (h : Two B d r w S T) (s t : ByteArray) (hs : s.size ≤ 140737488355328) (ht : t.size ≤ 140737488355328) (hlen : S.fs.length ≤ 100000) :
    Calls Try.prog 33 #[.pointer (some ⟨d, 0, none⟩), .string s, .string t] w fun e w' => ∃ k : Nat, e = .returned (.int .i64 k) ∧ Hid (k = (renameD S s t).2) ∧ Hid (Two B d r w' (renameD S s t).1 T) ∧ Hid (Below B w w') := by
  obtain ⟨X, v, ra, hd, hr, hx, hlo, hB⟩ := h
  exact (rename_any B d w S X hd s t hs ht hlen).mono fun e w' ⟨k, he, hk, ho⟩ => ⟨k, he, hk, (Two.disk hd hr hx hlo hB ho.out).1, (Two.disk hd hr hx hlo hB ho.out).2⟩
theorem append_two (h : Two B d r w S T) (s : ByteArray) (hs : s.size ≤ 140737488355328) (A : Option Addr) (b : List Nat) (n c : Nat) (hn : b.length = n) (hm : Rd w A b) (hA : A = none → c = 0) (hb : ∀ x ∈ b, x < 256) :
    Calls Try.prog 31 #[.pointer (some ⟨d, 0, none⟩), .string s, .slice A n c] w fun e w' => ∃ k : Nat, e = .returned (.int .i64 k) ∧ Hid (k = (appendD S s b).2) ∧ Hid (Two B d r w' (appendD S s b).1 T) ∧ Hid (Below B w w') := by
  obtain ⟨X, v, ra, hd, hr, hx, hlo, hB⟩ := h
  exact (append_any B d w S X hd hB s hs A b n c hn hm hA hb).mono fun e w' ⟨k, he, hk, ho⟩ => ⟨k, he, hk, (Two.disk hd hr hx hlo hB ho.out).1, (Two.disk hd hr hx hlo hB ho.out).2⟩
theorem rcreate_two (h : Two B d r w S T) (hg : Good T) (hl : T.fs.length ≤ 100000) (s : ByteArray) (hs : s.size ≤ 140737488355328) :
    Calls Try.prog 30 #[.pointer (some ⟨r, 0, none⟩), .int .u8 99, .string s, .string ⟨#[]⟩, .string ⟨#[]⟩] w fun e w' => ∃ k : Nat, e = .returned (.int .i64 k) ∧ Hid (k = (createD T s).2) ∧ Hid (Two B d r w' S (createD T s).1) ∧ Hid (Below B w w') := by
  obtain ⟨X, v, ra, hd, hr, hx, hlo, hB⟩ := h
  refine (rcreate_any hr hg hl s hs).mono fun e w' ho => ?_
  obtain ⟨k, he, hk, v', rb, h1, h2, h3⟩ := ho.out
  exact ⟨k, he, hk, (Two.ref hd hx hlo hB h1 h2 h3).1, (Two.ref hd hx hlo hB h1 h2 h3).2⟩
theorem rremove_two (h : Two B d r w S T) (hg : Good T) (hl : T.fs.length ≤ 100000) (s : ByteArray) (hs : s.size ≤ 140737488355328) :
    Calls Try.prog 30 #[.pointer (some ⟨r, 0, none⟩), .int .u8 114, .string s, .string ⟨#[]⟩, .string ⟨#[]⟩] w fun e w' => ∃ k : Nat, e = .returned (.int .i64 k) ∧ Hid (k = (removeD T s).2) ∧ Hid (Two B d r w' S (removeD T s).1) ∧ Hid (Below B w w') := by
  obtain ⟨X, v, ra, hd, hr, hx, hlo, hB⟩ := h
  refine (rremove_any hr hg hl s hs).mono fun e w' ho => ?_
  obtain ⟨k, he, hk, v', rb, h1, h2, h3⟩ := ho.out
  exact ⟨k, he, hk, (Two.ref hd hx hlo hB h1 h2 h3).1, (Two.ref hd hx hlo hB h1 h2 h3).2⟩
theorem rsync_two (h : Two B d r w S T) (hg : Good T) (hl : T.fs.length ≤ 100000) (s : ByteArray) (hs : s.size ≤ 140737488355328) :
    Calls Try.prog 30 #[.pointer (some ⟨r, 0, none⟩), .int .u8 115, .string s, .string ⟨#[]⟩, .string ⟨#[]⟩] w fun e w' => ∃ k : Nat, e = .returned (.int .i64 k) ∧ Hid (k = (syncD T s).2) ∧ Hid (Two B d r w' S (syncD T s).1) ∧ Hid (Below B w w') := by
  obtain ⟨X, v, ra, hd, hr, hx, hlo, hB⟩ := h
  refine (rsync_any hr hg hl s hs).mono fun e w' ho => ?_
  obtain ⟨k, he, hk, v', rb, h1, h2, h3⟩ := ho.out
  exact ⟨k, he, hk, (Two.ref hd hx hlo hB h1 h2 h3).1, (Two.ref hd hx hlo hB h1 h2 h3).2⟩
theorem rrename_two (h : Two B d r w S T) (hg : Good T) (hl : T.fs.length ≤ 100000) (s t : ByteArray) (hs : s.size ≤ 140737488355328) (ht : t.size ≤ 140737488355328) :
    Calls Try.prog 30 #[.pointer (some ⟨r, 0, none⟩), .int .u8 110, .string s, .string t, .string ⟨#[]⟩] w fun e w' => ∃ k : Nat, e = .returned (.int .i64 k) ∧ Hid (k = (renameD T s t).2) ∧ Hid (Two B d r w' S (renameD T s t).1) ∧ Hid (Below B w w') := by
  obtain ⟨X, v, ra, hd, hr, hx, hlo, hB⟩ := h
  refine (rrename_any hr hg hl s hs t ht).mono fun e w' ho => ?_
  obtain ⟨k, he, hk, v', rb, h1, h2, h3⟩ := ho.out
  exact ⟨k, he, hk, (Two.ref hd hx hlo hB h1 h2 h3).1, (Two.ref hd hx hlo hB h1 h2 h3).2⟩
theorem rappend_two (h : Two B d r w S T) (hg : Good T) (hl : T.fs.length ≤ 100000) (s : ByteArray) (hs : s.size ≤ 140737488355328) (b : List Nat) (hb : b.length ≤ 1000) :
    Calls Try.prog 30 #[.pointer (some ⟨r, 0, none⟩), .int .u8 97, .string s, .string ⟨#[]⟩, .string (bs b)] w fun e w' => ∃ k : Nat, e = .returned (.int .i64 k) ∧ Hid (k = (appendD T s b).2) ∧ Hid (Two B d r w' S (appendD T s b).1) ∧ Hid (Below B w w') := by
  obtain ⟨X, v, ra, hd, hr, hx, hlo, hB⟩ := h
  refine (rappend_any hr hg hl s hs b hb).mono fun e w' ho => ?_
  obtain ⟨k, he, hk, v', rb, h1, h2, h3⟩ := ho.out
  exact ⟨k, he, hk, (Two.ref hd hx hlo hB h1 h2 h3).1, (Two.ref hd hx hlo hB h1 h2 h3).2⟩
theorem up_two (h : Two B d r w S T) (hlen : S.fs.length ≤ 100000) (A : Option Addr) (keep : List Int) (nk c : Nat) (hnk : keep.length = nk) (hnk2 : nk ≤ 140737488355328) (hI : Ints w A keep) (hX : keep ≠ [] → ∀ a, A = some a → a.block < B) (hrg : ∀ x ∈ keep, -9223372036854775808 ≤ x ∧ x ≤ 9223372036854775807) :
    Calls Try.prog 37 #[.pointer (some ⟨d, 0, none⟩), .slice A nk c] w fun e w' => e = .returned (.tuple #[]) ∧ Hid (Two B d r w' (upD S keep) T) ∧ Hid (Below B w w') := by
  obtain ⟨X, v, ra, hd, hr, hx, hlo, hB⟩ := h
  refine (up_any B d w S X hd hB hlen A keep nk c hnk hnk2 hI (fun he a ha hh => by
    obtain ⟨m, gs, rfl, h0⟩ := hd
    have := h0.ge _ hh
    have := hX he a ha
    omega) hrg).mono fun e w' ⟨he, ho⟩ => ⟨he, (Two.disk hd hr hx hlo hB ho.out).1, (Two.disk hd hr hx hlo hB ho.out).2⟩
theorem rup_two (h : Two B d r w S T) (hg : Good T) (hl : T.fs.length ≤ 100000) (A : Option Addr) (keep : List Int) (nk c : Nat) (hnk : keep.length = nk) (hnk2 : nk ≤ 140737488355328) (hI : Ints w A keep) (hX : keep ≠ [] → ∀ a, A = some a → a.block < B) (hrg : ∀ x ∈ keep, -9223372036854775808 ≤ x ∧ x ≤ 9223372036854775807) :
    Calls Try.prog 38 #[.pointer (some ⟨r, 0, none⟩), .slice A nk c] w fun e w' => e = .returned (.tuple #[]) ∧ Hid (Two B d r w' S (upD T keep)) ∧ Hid (Below B w w') := by
  obtain ⟨X, v, ra, hd, hr, hx, hlo, hB⟩ := h
  refine (rup_any hr hg hl A keep nk c hnk hnk2 hI (fun he a ha hh => by
    have := hlo _ hh
    have := hX he a ha
    omega) hrg).mono fun e w' ⟨he, hu⟩ => ?_
  obtain ⟨rb, h1, h2⟩ := hu
  exact ⟨he, (Two.ref hd hx hlo hB h1.out h2.out (Fre.refl _ _)).1, (Two.ref hd hx hlo hB h1.out h2.out (Fre.refl _ _)).2⟩
theorem rarm_two (h : Two B d r w S T) (n : Int) (hn : -9223372036854775808 ≤ n ∧ n ≤ 9223372036854775807) :
    Calls Try.prog 36 #[.pointer (some ⟨r, 0, none⟩), .int .i64 n] w fun e w' => e = .returned (.tuple #[]) ∧ Hid (Two B d r w' S { T with armed := n }) ∧ Hid (Below B w w') := by
  obtain ⟨X, v, ra, hd, hr, hx, hlo, hB⟩ := h
  refine (rarm_any hr n hn).mono fun e w' ⟨he, h1, h2, h3⟩ => ?_
  obtain ⟨rb, h1⟩ := h1.out
  have ht : Tur (rft r v) w w' := h2.out.sub (by intro b hb; rw [List.mem_singleton.1 hb]; simp [rft])
  exact ⟨he, (Two.ref hd hx hlo hB h1 ht (Fre.refl _ _)).1, (Two.ref hd hx hlo hB h1 ht (Fre.refl _ _)).2⟩
set_option maxHeartbeats 2000000 in
set_option maxRecDepth 100000 in
theorem arm_two (h : Two B d r w S T) (n : Int) (hn : -9223372036854775808 ≤ n ∧ n ≤ 9223372036854775807) :
    Calls Try.prog 35 #[.pointer (some ⟨d, 0, none⟩), .int .i64 n] w fun e w' => e = .returned (.tuple #[]) ∧ Hid (Two B d r w' { S with armed := n } T) ∧ Hid (Below B w w') := by
  obtain ⟨X, v, ra, hd, hr, hx, hlo, hB⟩ := h
  obtain ⟨m, gs, rfl, h0⟩ := hd
  have d2 := h0.top.cell 2
  have f2 := h0.top.free 2
  have HT := Lib.hid (Tur.setCell (X := foot d m gs) w (p := ⟨d, 2, none⟩) (by simp [foot]) (.int .i64 n))
  have HQ := Lib.hid (Two.disk ⟨m, gs, rfl, h0⟩ hr hx hlo hB (⟨_, ⟨m, gs, rfl, h0.arms n hn⟩, HT.out, Fre.refl _ _⟩ : Out B d (foot d m gs) w { S with armed := n } _))
  clear h0 hr hx hlo
  go_enter Try.func35, Try.ntmps35
  go_wp2_with fail
  go_end0
  exact ⟨rfl, HQ.out.1, HQ.out.2⟩
end
end Go.Proofs.Ytoooainecoappaa
