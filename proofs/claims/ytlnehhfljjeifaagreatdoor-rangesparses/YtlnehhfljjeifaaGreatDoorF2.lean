/-
  What is proved here: what internal/strconv.formatBits answers in base 16: a number's digits in small letters; strconv.FormatInt.
-/
import Derived.Test.YtlnehhfljjeifaaGreatDoorF1
import Derived.Laws.BitsLemmas
import Derived.Laws.Rows
import Derived.OneCell
namespace Go.Proofs.YtlnehhfljjeifaaGreatDoor
open Go.RowKit

/-- the digit that counts d: small letters -/
def sdig (d : Nat) : UInt8 := if d < 10 then UInt8.ofNat (48 + d) else UInt8.ofNat (87 + d)
/-- a number's digits in base 16, small letters; f: as many digits at most -/
def sgs : Nat → Nat → List UInt8
  | 0, _ => []
  | f + 1, n => if n < 16 then [sdig n] else sgs f (n / 16) ++ [sdig (n % 16)]
theorem sgs_end {f n : Nat} (h : n < 16) : sgs (f + 1) n = [sdig n] := by simp [sgs, h]
theorem sgs_more {f n : Nat} (h : ¬ n < 16) : sgs (f + 1) n = sgs f (n / 16) ++ [sdig (n % 16)] := by simp [sgs, h]
theorem sgs_len : ∀ f n, (sgs f n).length ≤ f
  | 0, _ => by simp [sgs]
  | f + 1, n => by
    have := sgs_len f (n / 16)
    unfold sgs
    split <;> simp <;> omega
/-- what ToUpper makes of a byte -/
def upB (c : UInt8) : UInt8 := if 97 ≤ c.toNat ∧ c.toNat ≤ 122 then UInt8.ofNat (c.toNat - 32) else c
theorem up_sdig (d : Nat) (h : d < 16) : upB (sdig d) = dig d := by
  have : ∀ d : Fin 16, upB (sdig d.1) = dig d.1 := by decide
  exact this ⟨d, h⟩
theorem up_sgs : ∀ f n, (sgs f n).map upB = digs 16 f n
  | 0, _ => rfl
  | f + 1, n => by
    unfold sgs digs
    split
    · rename_i h; simp [up_sdig n h]
    · rename_i h; simp [up_sgs f (n / 16), up_sdig (n % 16) (Nat.mod_lt _ (by omega))]
theorem sdig_low (d : Nat) (h : d < 16) : (sdig d).toNat < 128 := by
  have : ∀ d : Fin 16, (sdig d.1).toNat < 128 := by decide
  exact this ⟨d, h⟩
theorem sgs_low : ∀ f n, ∀ c ∈ sgs f n, c.toNat < 128
  | 0, _ => by simp [sgs]
  | f + 1, n => by
    intro c hc
    unfold sgs at hc
    split at hc
    · rename_i h
      simp at hc; subst hc; exact sdig_low n h
    · rename_i h
      rcases List.mem_append.1 hc with q | q
      · exact sgs_low f _ c q
      · simp at q; subst q; exact sdig_low _ (Nat.mod_lt _ (by omega))
/-- the block B holds these cells -/
def Blk (w : World) (B : Nat) (T : TypeId) (xs : List Value) : Prop := w.heap[B]? = some (.cells xs.toArray T (0, 0))
theorem Blk.lt {w : World} {B : Nat} {T : TypeId} {xs : List Value} (h : Blk w B T xs) : B < w.heap.size := by
  rcases Nat.lt_or_ge B w.heap.size with g | g
  · exact g
  · unfold Blk at h; rw [Array.getElem?_eq_none g] at h; cases h
theorem Blk.cell {w : World} {B : Nat} {T : TypeId} {xs : List Value} (h : Blk w B T xs) (o : Nat) {v : Value} (hv : xs[o]? = some v) : w.cell? ⟨B, o, none⟩ = some v := by
  unfold Blk at h
  simp [World.cell?, h, hv]
theorem Blk.free {w : World} {B : Nat} {T : TypeId} {xs : List Value} (h : Blk w B T xs) (o : Nat) : w.frozen? ⟨B, o, none⟩ = false := by
  unfold Blk at h
  simp [World.frozen?, h]
theorem Blk.set {w : World} {B : Nat} {T : TypeId} {xs : List Value} (h : Blk w B T xs) (o : Nat) (u : Value) : Blk (w.setCell ⟨B, o, none⟩ u) B T (xs.set o u) := by
  have hlt := h.lt
  unfold Blk at *
  have h' : w.heap[B] = .cells xs.toArray T (0, 0) := by simpa [Array.getElem?_eq_getElem hlt] using h
  show (w.heap.modify B _)[B]? = _
  rw [Array.getElem?_eq_getElem (by simpa using hlt), Array.getElem_modify_self, h']
  simp
theorem Blk.new (w : World) (T : TypeId) (xs : List Value) : Blk (w.alloc (.cells xs.toArray T)) w.heap.size T xs := Array.getElem?_push_size
def digS : ByteArray := ⟨#[48, 49, 50, 51, 52, 53, 54, 55, 56, 57, 97, 98, 99, 100, 101, 102, 103, 104, 105, 106, 107, 108, 109, 110, 111, 112, 113, 114, 115, 116, 117, 118, 119, 120, 121, 122]⟩
theorem dig_at (m : Nat) (h : m < 16) (hs : m < digS.size) : digS[m]'hs = sdig m := by
  have key : ∀ d : Fin 16, digS.data[d.1]? = some (sdig d.1) := by decide
  have k := key ⟨m, h⟩
  have e : digS.data[m]? = some (digS.data[m]'hs) := Array.getElem?_eq_getElem hs
  exact Option.some.inj (e.symm.trans k)
theorem zero65 : Tryz.zeroCells205 = (List.replicate 65 (Value.int .u8 0)).toArray := by kernel_rfl
/-- the row: k noughts, then bytes -/
def rowB (k : Nat) (t : List UInt8) : List Value := List.replicate k (Value.int .u8 0) ++ t.map fun c => Value.int .u8 c.toNat
theorem rowB_at (k j : Nat) (t : List UInt8) (h : j < t.length) : (rowB k t)[k + j]? = some (.int .u8 t[j].toNat) := by
  unfold rowB
  rw [List.getElem?_append_right (by simp)]
  simp [h]
theorem rowB_len (k : Nat) (t : List UInt8) : (rowB k t).length = k + t.length := by simp [rowB]
theorem rowB_get (k : Nat) (t : List UInt8) : (rowB (k + 1) t)[k]? = some (.int .u8 0) := by
  unfold rowB
  rw [List.getElem?_append_left (by simp), List.getElem?_replicate]
  simp
theorem rowB_set (k : Nat) (t : List UInt8) (c : UInt8) : (rowB (k + 1) t).set k (.int .u8 c.toNat) = rowB k (c :: t) := by
  unfold rowB
  rw [List.replicate_succ', List.append_assoc, List.set_append_right _ _ (by simp)]
  simp
theorem and15 (m : Nat) (hm : m < 4294967296) : bits BinOp.and IntKind.u64 (m : Int) 15 = ((m % 16 : Nat) : Int) := by
  have h := bits_mask .u64 63 (by decide) (fun n h0 h1 => by
    have e : (2 : Int) ^ 63 = 9223372036854775808 := by decide
    rw [e] at h1
    have e3 : (2 : Int) ^ IntKind.u64.bits = 18446744073709551616 := by decide
    show n % (2 : Int) ^ IntKind.u64.bits = n
    rw [e3]
    exact Int.emod_eq_of_lt h0 (by omega)) 4 (by decide) (m : Int) (by omega) (by
    have e : (2 : Int) ^ 63 = 9223372036854775808 := by decide
    rw [e]; omega)
  have e : ((2 : Int) ^ 4 - 1) = 15 := by decide
  have e2 : ((2 : Int) ^ 4) = 16 := by decide
  rw [e, e2] at h
  rw [h]
  omega
set_option maxRecDepth 100000 in
set_option maxHeartbeats 4000000 in
theorem formatBits_any (n : Nat) (hn : n < 4294967296) (w : World) (h64 : w.cell? ⟨26, 15, none⟩ = some (.int .u8 4)) :
    Calls Tryz.prog 123 #[.slice none 0 0, .int .u64 n, .int .i64 16, .bool false, .bool false] w fun e w' => e = .returned (.tuple #[.slice none 0 0, .string (strL (sgs 8 n))]) ∧ Below w.heap.size w w' := by
  have HP : Hid (∀ W, _) := fun W => pow2_16 W
  have HT : Hid (∀ W, Below w.heap.size w W → _) := fun W hb => tz_16 W ((hb.cell (p := ⟨26, 15, none⟩) (lt_of_cell h64)).trans h64)
  have HB0 : Hid (Below w.heap.size w (w.alloc (.cells Tryz.zeroCells205 205))) := (Below.refl _ _).alloc (Nat.le_refl _) _
  have HK0 : Hid (Blk (w.alloc (.cells Tryz.zeroCells205 205)) w.heap.size 205 (rowB 65 [])) := by
    rw [zero65]
    have e : rowB 65 [] = List.replicate 65 (Value.int .u8 0) := by unfold rowB; simp
    rw [e]
    exact Blk.new w _ _
  have HN := Hid.mk' hn
  go_enter Tryz.func123, Tryz.ntmps123
  go_wp2_with fail
  refine (HP.out _).mono ?_
  rintro e w1 ⟨rfl, rfl⟩
  go_wp2_with fail
  refine (HT.out _ HB0.out).mono ?_
  rintro e w2 ⟨rfl, rfl⟩
  go_wp2
  go_loopw [1, 13] (fun x y wr => ∃ (f m k : Nat) (t : List UInt8), x = .int .u64 m ∧ y = .int .i64 k ∧ m < 4294967296 ∧ Hid (k = f + 58) ∧ 58 ≤ k ∧ k ≤ 65 ∧ Hid (m < 16 ^ (f + 1)) ∧ Hid (sgs (f + 1) m ++ t = sgs 8 n) ∧ Hid (k + t.length = 65) ∧ Hid (Blk wr w.heap.size 205 (rowB k t)) ∧ Below w.heap.size w wr) (fun x _ _ => (intOf x).toNat)
  case atStart => exact ⟨7, n, 65, [], rfl, rfl, hn, rfl, by omega, by omega, (by show n < 16 ^ 8; omega), by simp [Hid], rfl, HK0.out, HB0.out⟩
  case round =>
    obtain ⟨f, m, k, t, rfl, rfl, hm, hk, hk58, hk65, hmf, hs, hkt, hblk, hb⟩ := hrel
    obtain ⟨q, rfl⟩ : ∃ q, k = q + 1 := ⟨k - 1, by omega⟩
    have hcell := hblk.out.cell q (rowB_get q t)
    have hfree := hblk.out.free q
    have hqz : IntKind.i64.wrap (q : Int) = q := by rw [IntKind.wrap_i64]; omega
    have hW : Hid (∀ c : UInt8, Blk (wr.setCell ⟨w.heap.size, q, none⟩ (.int .u8 c.toNat)) w.heap.size 205 (rowB q (c :: t))) := fun c => by
      rw [← rowB_set]
      exact hblk.out.set q _
    by_cases h16 : m < 16
    · have hd : decide ((16 : Int) ≤ (m : Int)) = false := decide_eq_false (by omega)
      have hd2 : decide (16 ≤ m) = false := decide_eq_false (by omega)
      have hdig : (⟨#[48, 49, 50, 51, 52, 53, 54, 55, 56, 57, 97, 98, 99, 100, 101, 102, 103, 104, 105, 106, 107, 108, 109, 110, 111, 112, 113, 114, 115, 116, 117, 118, 119, 120, 121, 122]⟩ : ByteArray)[m]'(by show m < 36; omega) = sdig m := dig_at m h16 _
      have hfin : Hid (sdig m :: t = sgs 8 n) := by have := hs.out; rw [sgs_end h16] at this; exact this
      have hsl : ∀ W, (Instr.sliceAt 205 (.pointer (some ⟨w.heap.size, 0, none⟩)) (some (.int .i64 q)) none none).run Tryz.prog W = .ok (.slice (some ⟨w.heap.size, q, none⟩) (65 - q) (65 - q)) W := fun W => by
        have hal : Tryz.prog.arrayLen 205 = 65 := by kernel_rfl
        rw [run_sliceAt_array_l W 205 ⟨w.heap.size, 0, none⟩ (by kernel_rfl) .i64 (q : Int) (by omega) (by rw [hal]; omega)]
        go_simp
        omega
      have hcv : (convert 56 9 (.slice (some ⟨w.heap.size, q, none⟩) (65 - q) (65 - q))).run Tryz.prog (wr.setCell ⟨w.heap.size, q, none⟩ (.int .u8 (sdig m).toNat)) = .ok (.string (strL (sgs 8 n))) (wr.setCell ⟨w.heap.size, q, none⟩ (.int .u8 (sdig m).toNat)) := by
        have hlen : (sgs 8 n).length = 65 - q := by rw [← hfin.out]; have := hkt.out; simp; omega
        have hB := hW.out (sdig m)
        rw [hfin.out] at hB
        have h := run_convert_bytes_back (P := Tryz.prog) (wr.setCell ⟨w.heap.size, q, none⟩ (.int .u8 (sdig m).toNat)) 56 9 5 ⟨w.heap.size, q, none⟩ (65 - q) (sgs 8 n) Tryz.underlying56 Tryz.underlying5 Tryz.underlying9 (fun j hj => by
          rw [Addr.add_lit]
          exact hB.cell (q + j) (rowB_at q j _ hj))
        rw [hlen] at h
        exact h
      have hb' : Below w.heap.size w (wr.setCell ⟨w.heap.size, q, none⟩ (.int .u8 (sdig m).toNat)) := hb.setCell (p := ⟨w.heap.size, q, none⟩) (Nat.le_refl _) _
      go_wp2
      go_ret2
      exact ⟨rfl, hb'⟩
    · have hd : decide ((16 : Int) ≤ (m : Int)) = true := decide_eq_true (by omega)
      have hd2 : decide (16 ≤ m) = true := decide_eq_true (by omega)
      have ha := and15 m hm
      have hm16 : m % 16 < 16 := Nat.mod_lt _ (by omega)
      have hs' : Hid (sgs (f + 1) m ++ t = sgs f (m / 16) ++ (sdig (m % 16) :: t)) := by show _ = _; rw [sgs_more h16]; simp
      have hdiv : Hid ((m : Int) / 16 = ((m / 16 : Nat) : Int) ∧ m / 16 < m) := ⟨by omega, by omega⟩
      generalize hr : m % 16 = r at *
      have hdig : (⟨#[48, 49, 50, 51, 52, 53, 54, 55, 56, 57, 97, 98, 99, 100, 101, 102, 103, 104, 105, 106, 107, 108, 109, 110, 111, 112, 113, 114, 115, 116, 117, 118, 119, 120, 121, 122]⟩ : ByteArray)[r]'(by show r < 36; omega) = sdig r := dig_at r hm16 _
      have hb' : Below w.heap.size w (wr.setCell ⟨w.heap.size, q, none⟩ (.int .u8 (sdig r).toNat)) := hb.setCell (p := ⟨w.heap.size, q, none⟩) (Nat.le_refl _) _
      go_wp2
      go_roundw
      case rel =>
        obtain ⟨g, hg⟩ : ∃ g, f = g + 1 := ⟨f - 1, by
          have := hmf.out
          rcases f with _ | f
          · simp at this; omega
          · omega⟩
        refine ⟨g, m / 16, q, sdig r :: t, by rw [hdiv.out.1], rfl, by have := hdiv.out.2; omega, ?_, ?_, by omega, ?_, ?_, ?_, hW.out (sdig r), hb'⟩
        · have := hk.out; show q = g + 58; omega
        · have := hk.out; omega
        · have := hmf.out
          show m / 16 < 16 ^ (g + 1)
          rw [hg, Nat.pow_succ] at this
          exact Nat.div_lt_of_lt_mul (by rw [Nat.mul_comm]; exact this)
        · have := hs.out
          rw [hs'.out, hg] at this
          exact this
        · have := hkt.out; show q + (sdig r :: t).length = 65; simp; omega
      case measure => simp [intOf]; omega
end Go.Proofs.YtlnehhfljjeifaaGreatDoor
