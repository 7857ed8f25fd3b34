/- What readData of package pack returns: the bytes that the symbols make, or nothing, as the document's reading has it. -/
import Derived.Test.YtodmdkhdbfbfgaaReadLens
namespace Go.Proofs.Ytodmdkhdbfbfgaa
open Go.RowKit Pk
set_option linter.unusedVariables false

theorem grown_any {a b c : World} {rb : Nat} {row : Option Nat} (h : a.grownBy b (some rb)) (k : b.grownBy c row) (hr : ∀ g, row = some g → a.heap.size ≤ g) : a.grownBy c (some rb) :=
  ⟨k.os.trans h.os, k.tape.trans h.tape, k.output.trans h.output, Nat.le_trans h.size k.size, fun i hi hne =>
    (k.block i (Nat.lt_of_lt_of_le hi h.size) (fun e => by have := hr i e.symm; omega)).trans (h.block i hi hne)⟩

set_option maxRecDepth 100000 in
set_option maxHeartbeats 4000000 in
theorem readData (rb db base : Nat) (z : Nat → Int) (s : List UInt8) (pos size : Nat) (w : World) (hs : s.length ≤ 140737488351232) (hf : Fits z 288) (hr : Rd w rb s pos) (hp : pos ≤ 8 * s.length) (hdc : Dc w base db z) (h1 : 1 ≤ size) (h4 : size ≤ 4000)
    (RD : Option (List UInt8 × Nat)) (hRD : dataF s z 288 size size [] pos = RD) :
    Calls Try.prog 69 #[.pointer (some ⟨rb, 0, none⟩), .pointer (some ⟨db, 0, none⟩), .int .i64 (size : Nat)] w fun e w' => w.grownBy w' (some rb) ∧
      ((∃ out p a c n, RD = some (out, p) ∧ p ≤ 8 * s.length ∧ e = .returned (.tuple #[.slice a n c, .bool true]) ∧ w'.ownsRow w.heap.size 5 1 (.slice a n c) n (Lib.strCells (txt out)) ∧ Rd w' rb s p) ∨
       (RD = none ∧ e = .returned (.tuple #[.slice none 0 0, .bool false]))) := by
  obtain ⟨i0, hi, hz0, hz1, hz2⟩ := info_parts Try.info5
  have Hst : Hid (DataAt s z size RD [] pos) := ⟨by simp, hp, size, by simp, hRD⟩
  clear hRD
  go_enter Try.func69, Try.ntmps69
  go_wp2_with (at_make; refine wpList_make_own _ rfl _ _ 67 rfl w.heap.size 5 i0 (.int .u8 0) 1 Try.underlying67 hi hz0 hz1 .i64 .i64 (size : Int) size rfl rfl ?k0 ?k1 ?k2 ?k3 ?_)
  case k0 => rfl
  case k1 => rw [hz2]; omega
  case k2 => unfold maxLen; omega
  case k3 => omega
  intro w0 hown0 hgrow0
  have hT0 : RowT w none 86 := fun g hg => by cases hg
  have hr0 := hr.keep hgrow0 (tr := 5) (fun g hg => by cases hg) (by decide)
  have hdc0 := hdc.keep hgrow0 (tr := 5) (fun g hg => by cases hg) (by decide) (by decide)
  have hg0 : w.grownBy w0 (some rb) := ⟨hgrow0.os, hgrow0.tape, hgrow0.output, hgrow0.size, fun k hk _ => hgrow0.block k hk (by simp)⟩
  clear hgrow0 hr hdc hT0
  go_wp2
  go_loopw [8] (fun v wr => ∃ (out : List UInt8) (P n : Nat), n ≤ out.length ∧ out.length ≤ n ∧ (∃ a' c', v = .slice a' n c') ∧ n ≤ size ∧ P ≤ 8 * s.length ∧ Hid (DataAt s z size RD out P) ∧ wr.ownsRow w.heap.size 5 1 v n (Lib.strCells (txt out)) ∧ Rd wr rb s P ∧ Dc wr base db z ∧ w.grownBy wr (some rb)) (fun v _ => 4001 - lenOf v)
  case atStart => exact ⟨[], pos, 0, by simp, by simp, ⟨_, _, rfl⟩, by omega, hp, Hst, hown0, hr0, hdc0, hg0⟩
  case round =>
    clear Hst hown0 hr0 hdc0 hg0 hp
    obtain ⟨out, P, n, hn1, hn2, ⟨a', c', rfl⟩, hn, hP, Hd, hown, hrd, hdc, hg⟩ := hrel
    have hol : out.length = n := by omega
    have Hol := hidI hol
    have hsz := hg.size
    clear hol
    by_cases hlt : n < size
    · have Hlts : Hid (out.length < size) := by have h1 := Hol.out; show _ < _; omega
      go_wp2_with fail
      refine (next_any rb db base z s P _ hs hf hrd hP hdc).mono ?_
      rintro e w1 ⟨hg1, hres⟩
      have hown1 := own_keep hown hg1 hrd.rowT (by decide)
      have hdc1 := hdc.keep hg1 hrd.rowT (by decide) (by decide)
      have hg2 := grown_then hg hg1
      have hsz2 := hg2.size
      clear hown hdc hg hg1 hrd
      rcases hres with ⟨i, hi8, hhit, rfl, hrd1⟩ | ⟨hnone, rfl⟩
      · have hh := (hit_iff s z P i).1 hhit
        have hpe : P + (z i).toNat ≤ 8 * s.length := hh.2.1
        have Hb1 := hidI (fun h => dataAt_byte Hd.out Hlts.out hhit h)
        have Hb2 := hidI (fun h h2 => dataAt_short Hd.out Hlts.out hi8 hhit h h2)
        have Hb3 := hidI (fun h h2 h3 => dataAt_far Hd.out Hlts.out hi8 hhit h h2 h3)
        have Hb4 := hidI (fun h h2 h3 => dataAt_copy Hd.out Hlts.out hi8 hhit h h2 h3)
        clear hh hhit Hd
        generalize (z i).toNat = zi at *
        by_cases hi256 : i < 256
        · have Hnew := hidI (Hb1.out hi256)
          clear Hb1 Hb2 Hb3 Hb4
          go_wp2_with (at_builtin; refine wpList_append_own _ rfl (.tmp 30) (.tmp 33) 67 rfl w.heap.size 5 i0 (.int .u8 0) 1 1 Try.underlying67 hi hz0 hz1 hz2 rfl (by decide) _ _ _ rfl (hown1.alloc _) ⟨w1.heap.size, 0, none⟩ 1 1 [.int .u8 i] rfl rfl ?c1 ?c2 ?c3 ?c4 ?c5 ?_)
          case c1 => exact cell_one_new _ _ _
          case c2 => intro u hu; simp at hu; subst hu; rfl
          case c3 => unfold maxLen; omega
          case c4 => omega
          case c5 => simp; omega
          intro v5 w5 hown5 hgrow _
          have e1 : ((UInt8.ofNat i).toNat : Int) = (i : Int) := by rw [ofNat_byte i hi256]
          rw [← e1, strCells_snoc] at hown5
          have hTo := own_rowT (hown1.alloc (.cells #[.int .u8 (i : Nat)] 5))
          have hal := World.grownBy_alloc w1 (.cells #[.int .u8 (i : Nat)] 5) none
          have hg5 := grown_any (grown_any hg2 hal (fun g hg => by cases hg)) hgrow (fun g hg => (hown1.lt g hg).1)
          have hrd5 := (hrd1.keep hal (tr := 5) (fun g hg => by cases hg) (by decide)).keep hgrow hTo (by decide)
          have hdc5 := (hdc1.keep hal (tr := 5) (fun g hg => by cases hg) (by decide) (by decide)).keep hgrow hTo (by decide) (by decide)
          obtain ⟨_, a5, c5, hv5⟩ := own_len hown5
          subst hv5
          clear hown1 hgrow hg2 hdc1 hrd1 e1 hTo hal
          go_wp2
          go_roundw
          case rel => exact ⟨_, P + zi, n + 1, by simp; omega, by simp; omega, ⟨a5, c5, rfl⟩, by omega, hpe, Hnew, hown5, hrd5, hdc5, hg5⟩
          case measure => simp [lenOf]; omega
        · by_cases hsh : 8 * s.length < P + zi + 12
          · have HN := hidI (Hb2.out hi256 hsh)
            clear Hb1 Hb2 Hb3 Hb4
            go_wp2_with fail
            refine (take_no rb s (P + zi) 12 _ hs hpe hrd1 (by omega) hsh).mono ?_
            rintro e w3 ⟨rfl, q, rfl⟩
            have hg3 := grown_then hg2 (grown_drewN _ q _)
            go_wp2
            go_ret2
            exact ⟨hg3, .inr ⟨HN.out, rfl⟩⟩
          · go_wp2_with fail
            refine (take_yes rb s (P + zi) 12 _ hs hrd1 (by omega) (by omega)).mono ?_
            rintro e w3 ⟨rfl, hrd3, hg3⟩
            have hown3 := own_keep hown1 hg3 hrd1.rowT (by decide)
            have hdc3 := hdc1.keep hg3 hrd1.rowT (by decide) (by decide)
            have hg4 := grown_then hg2 hg3
            have hsz4 := hg4.size
            have h4096 := val_lt s (P + zi) 12
            have Hb3' := hidI (Hb3.out hi256 hsh)
            have Hb4' := hidI (Hb4.out hi256 hsh)
            clear Hb1 Hb2 Hb3 Hb4 hown1 hdc1 hg2 hg3 hrd1
            generalize val s (P + zi) 12 = v12 at *
            by_cases hback : n < v12 + 1
            · have hd1 : decide ((n : Int) < (v12 : Int) + 1) = true := by simp; omega
              have HN := hidI (Hb3'.out (by have h1 := Hol.out; omega))
              go_wp2
              go_ret2
              exact ⟨hg4, .inr ⟨HN.out, rfl⟩⟩
            · have hd1 : decide ((n : Int) < (v12 : Int) + 1) = false := by simp; omega
              by_cases hlong : size < n + (i - 253)
              · have hd2 : decide ((size : Int) - (n : Int) < (i : Int) - 253) = true := by simp; omega
                have HN := hidI (Hb3'.out (by have h1 := Hol.out; omega))
                go_wp2
                go_ret2
                exact ⟨hg4, .inr ⟨HN.out, rfl⟩⟩
              · have hd2 : decide ((size : Int) - (n : Int) < (i : Int) - 253) = false := by simp; omega
                have Hnew := hidI (Hb4'.out (by have h1 := Hol.out; omega))
                clear Hb3' Hb4'
                go_wp2
                go_loopw [8, 61] (fun v x wr => ∃ k : Nat, k ≤ i - 253 ∧ x = .int .i64 k ∧ wr.ownsRow w.heap.size 5 1 v (n + k) (Lib.strCells (txt (cpy out (v12 + 1) k))) ∧ (∃ a' c', v = .slice a' (n + k) c') ∧ Rd wr rb s (P + zi + 12) ∧ Dc wr base db z ∧ w.grownBy wr (some rb)) (fun _ x _ => (i - 253) - (intOf x).toNat)
                case atStart => exact ⟨0, by omega, rfl, hown3, ⟨_, _, rfl⟩, hrd3, hdc3, hg4⟩
                case round =>
                  clear hown3 hrd3 hdc3 hg4 hsz4
                  obtain ⟨k, hk, rfl, hown, ⟨ak, ck, rfl⟩, hrd, hdc, hg⟩ := hrel
                  have hszk := hg.size
                  by_cases hki : k < i - 253
                  · have hki' : (k : Int) < (i : Int) - 253 := by omega
                    obtain ⟨g, cap, hv, hcell⟩ := own_byte hown (by omega)
                    simp at hv
                    obtain ⟨rfl, rfl⟩ := hv
                    have hlen := (own_len hown).1
                    have hck := hcell (n + k - (v12 + 1)) (by omega)
                    obtain ⟨x, hx⟩ : ∃ x, x = (cpy out (v12 + 1) k).getD (n + k - (v12 + 1)) 0 := ⟨_, rfl⟩
                    rw [← hx] at hck
                    have Hx : Hid (cpy out (v12 + 1) k ++ [x] = cpy out (v12 + 1) (k + 1)) := by
                      show _ = cpy out (v12 + 1) k ++ [_]
                      rw [hlen, hx]
                    have hx256 := x.toNat_lt
                    clear hx hcell hlen
                    go_wp2_with (at_builtin; refine wpList_append_own _ rfl (.tmp 63) (.tmp 71) 67 rfl w.heap.size 5 i0 (.int .u8 0) 1 1 Try.underlying67 hi hz0 hz1 hz2 rfl (by decide) _ _ _ rfl (hown.alloc _) ⟨wr.heap.size, 0, none⟩ 1 1 [.int .u8 x.toNat] rfl rfl ?d1 ?d2 ?d3 ?d4 ?d5 ?_)
                    case d1 => exact cell_one_new _ _ _
                    case d2 => intro u hu; simp at hu; subst hu; rfl
                    case d3 => unfold maxLen; omega
                    case d4 => omega
                    case d5 => simp; omega
                    intro v6 w6 hown6 hgrow _
                    rw [strCells_snoc, Hx.out] at hown6
                    have hTo := own_rowT (hown.alloc (.cells #[.int .u8 (x.toNat : Nat)] 5))
                    have hal := World.grownBy_alloc wr (.cells #[.int .u8 (x.toNat : Nat)] 5) none
                    have hg6 := grown_any (grown_any hg hal (fun g hg => by cases hg)) hgrow (fun g hg => (hown.lt g hg).1)
                    have hrd6 := (hrd.keep hal (tr := 5) (fun g hg => by cases hg) (by decide)).keep hgrow hTo (by decide)
                    have hdc6 := (hdc.keep hal (tr := 5) (fun g hg => by cases hg) (by decide) (by decide)).keep hgrow hTo (by decide) (by decide)
                    obtain ⟨_, a6, c6, hv6⟩ := own_len hown6
                    subst hv6
                    clear hown hgrow hg hdc hrd hTo hal hck
                    go_wp2
                    go_roundw
                    case rel => exact ⟨k + 1, by omega, by go_num, hown6, ⟨a6, c6, rfl⟩, hrd6, hdc6, hg6⟩
                    case measure => simp [intOf]; omega
                  · have hki' : ¬ (k : Int) < (i : Int) - 253 := by omega
                    have hke : k = i - 253 := by omega
                    have Hk := hidI hke
                    clear hke
                    go_wp2
                    go_roundw
                    case rel =>
                      have hl := (own_len hown).1
                      exact ⟨cpy out (v12 + 1) k, P + zi + 12, n + k, by omega, by omega, ⟨ak, ck, rfl⟩, by omega, by omega, by rw [Hk.out]; exact Hnew, hown, hrd, hdc, hg⟩
                    case measure => simp [lenOf]; omega
      · have HN := hidI (dataAt_none Hd.out Hlts.out (symF_none s z P 288 hnone))
        go_wp2
        go_ret2
        exact ⟨hg2, .inr ⟨HN.out, rfl⟩⟩
    · have HN := hidI (dataAt_end Hd.out (by have h1 := Hol.out; omega))
      go_wp2
      go_ret2
      exact ⟨hg, .inl ⟨out, P, _, _, _, HN.out, hP, rfl, hown, hrd⟩⟩
end Go.Proofs.Ytodmdkhdbfbfgaa
