/-
  Entries sorted by keys that rise: there is one order; no conditions.
-/
import Derived.Test.YtcopkhmmpamboaaL41
import Derived.Test.YtcopkhmmpamboaaL38
namespace Go.Proofs.Ytcopkhmmpamboaa
open Go.RowKit
set_option linter.unusedVariables false
set_option linter.unusedSimpArgs false

theorem one_order : ∀ (E D : List Ent), E.Pairwise (fun a b => bl a.1 b.1 = true) → D.Perm E → D.Pairwise (fun a b => bl b.1 a.1 = false) → D = E
  | [], D, _, hp, _ => hp.eq_nil
  | e :: E, [], _, hp, _ => by simpa using hp.length_eq
  | e :: E, a :: D, hE, hp, hD => by
    rw [List.pairwise_cons] at hE hD
    have hae : a = e := by
      have h1 : a ∈ e :: E := hp.mem_iff.1 (List.mem_cons_self ..)
      have h2 : e ∈ a :: D := hp.mem_iff.2 (List.mem_cons_self ..)
      rcases List.mem_cons.1 h1 with h | h
      · exact h
      · rcases List.mem_cons.1 h2 with h' | h'
        · exact h'.symm
        · have h3 := hE.1 a h
          have h4 := hD.1 e h'
          rw [h3] at h4
          cases h4
    subst hae
    rw [one_order E D hE.2 (List.perm_cons a |>.1 hp) hD.2]

theorem one_sorted (E : List Ent) (d d' : Array Ent) (hE : RisesK (E.map (fun x => x.1))) (hd : d.toList = E.reverse) (hs : d'.size = d.size) (hp : d'.toList.Perm d.toList) (ho : ∀ i j, i < j → j < d.size → bl d'[j]!.1 d'[i]!.1 = false) : d'.toList = E := by
  refine one_order E d'.toList ?_ (hp.trans (by rw [hd]; exact List.reverse_perm E)) ?_
  · rw [List.pairwise_iff_getElem]
    intro i j hi hj hij
    exact hE i j _ _ hij (by rw [List.getElem?_map, List.getElem?_eq_getElem hi]; rfl) (by rw [List.getElem?_map, List.getElem?_eq_getElem hj]; rfl)
  · rw [List.pairwise_iff_getElem]
    intro i j hi hj hij
    have h1 : i < d'.size := by simpa using hi
    have h2 : j < d'.size := by simpa using hj
    have h := ho i j hij (by omega)
    rw [getElem!_pos d' i h1, getElem!_pos d' j h2] at h
    simpa using h
end Go.Proofs.Ytcopkhmmpamboaa
