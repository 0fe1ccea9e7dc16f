/-
  The reader of wire: a key behind those that are there; conditions: the weight so far is at most 2048, the form's own reach.
-/
import Derived.Test.YtfdnhpmldnmncaaWRdB
namespace Go.Proofs.Ytfdnhpmldnmncaa
open Go.RowKit

theorem infoSs : (Try.prog.info? 9).map (fun i => (i.zero, i.size, i.bytes)) = some (some (.string ⟨#[]⟩), 1, 16) := by kernel_rfl

def ResK (gr : Nat) (bv : Value) (w : World) (r : Except (Int × Int) (ByteArray × Nat × Nat)) (e : Ending) (w' : World) : Prop :=
  match r with
  | .error p => e = fault p.1 p.2 ∧ Beside gr w w'
  | .ok (s, a', t') => e = .returned (.string s) ∧ Rdr w' gr bv a' t' ∧ Beside gr w w'

theorem key_res (zs : List Int) (ks : List ByteArray) (Kv : Value) (base a t gr : Nat) (ao : Option Addr) (len cap : Nat) (w : World) (h : Rdr w gr (.slice ao len cap) a t) (hS : Src w gr ao len cap zs) (ht : t ≤ 2048) (own : w.ownsRow base 9 1 Kv ks.length (ks.map Value.string)) :
    Calls Try.prog 92 #[.pointer (some ⟨gr, 0, none⟩), Kv] w fun e w' => ResK gr (.slice ao len cap) w (rdKey zs ks.getLast? a t) e w' := by
  obtain ⟨s, nx, er, hr⟩ : ∃ s nx er, textOfU zs 32 (uintAt zs a) = (s, nx, er) := ⟨_, _, _, rfl⟩
  by_cases h0 : er = 0
  · subst h0
    obtain ⟨b, b1, b2, b3, b4, b5⟩ := text_form zs 32 a hS.row.small (by rw [hr])
    rw [hr] at b3 b4
    dsimp only at b3 b4
    subst b3
    have hs : s.size ≤ 32 := by omega
    obtain ⟨ak, ck, rfl, nk, lk, mk, hk⟩ := slice_form own
    have hkey : rdKey zs ks.getLast? a t = if notBehind s ks.getLast? = true then .error (41, (a : Int)) else if 2048 < t + (1 + s.size) then .error (42, (a : Int)) else .ok (s, b, t + (1 + s.size)) := by
      unfold rdKey
      rw [hr]
      simp
    rw [hkey]
    rcases List.eq_nil_or_concat ks with rfl | ⟨ks', l, rfl⟩
    · simp only [List.getLast?_nil, notBehind, Bool.false_eq_true, if_false]
      by_cases hh : 2048 < t + (1 + s.size)
      · rw [if_pos hh]
        exact key_heavy0 gr ao len cap a t zs ak ck w h hS (by omega) s b hr hs (by omega)
      · rw [if_neg hh]
        refine (key_ok0 gr ao len cap a t zs ak ck w h hS (by omega) s b hr hs (by omega)).mono fun e w' ⟨he, r, b⟩ => ⟨he, ?_, b⟩
        rw [show ((t + (1 + s.size) : Nat) : Int) = (t : Int) + (1 + (s.size : Int)) by omega]
        exact r
    · rw [List.concat_eq_append] at *
      have hlen : (ks' ++ [l]).length = ks'.length + 1 := by simp
      rw [hlen] at own lk nk ⊢
      obtain ⟨⟨kb, ko, kf⟩, rfl⟩ : ∃ a2, ak = some a2 := by
        cases ak with
        | none => have := (nk rfl).1; omega
        | some a2 => exact ⟨a2, rfl⟩
      obtain ⟨h1, h2⟩ := hk _ rfl
      cases h2
      have hl : w.cell? ⟨kb, 0 + ks'.length, none⟩ = some (.string l) := by
        have hc := own.cells h1 ks'.length (.string l) (by simp)
        unfold Addr.add at hc
        by_cases hz : ks'.length = 0
        · simpa [hz] using hc
        · simpa [hz] using hc
      simp only [List.getLast?_append, List.getLast?_singleton, Option.some_or, notBehind]
      by_cases hb : (Op.bytesLess s.toList l.toList || s.toList == l.toList) = true
      · rw [if_pos hb]
        exact key_order gr ao len cap a t zs _ ks'.length ck l w h hS s b hr ⟨lk, mk⟩ kb 0 rfl hl hb
      · rw [if_neg hb]
        have hb' : (Op.bytesLess s.toList l.toList || s.toList == l.toList) = false := by simpa using hb
        by_cases hh : 2048 < t + (1 + s.size)
        · rw [if_pos hh]
          exact key_heavy1 gr ao len cap a t zs ks'.length ck l kb 0 w h hS (by omega) s b hr hs ⟨lk, mk⟩ hl hb' (by omega)
        · rw [if_neg hh]
          refine (key_ok1 gr ao len cap a t zs ks'.length ck l kb 0 w h hS (by omega) s b hr hs ⟨lk, mk⟩ hl hb' (by omega)).mono fun e w' ⟨he, r, b⟩ => ⟨he, ?_, b⟩
          rw [show ((t + (1 + s.size) : Nat) : Int) = (t : Int) + (1 + (s.size : Int)) by omega]
          exact r
  · have hkey : rdKey zs ks.getLast? a t = .error (41, (a : Int)) := by
      unfold rdKey
      rw [hr]
      simp [h0]
    rw [hkey]
    exact key_bad gr ao len cap a t zs Kv w h hS s nx er hr h0
end Go.Proofs.Ytfdnhpmldnmncaa
