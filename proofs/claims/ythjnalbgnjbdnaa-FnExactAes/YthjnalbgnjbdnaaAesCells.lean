/-
  impl: the cells of an aesCipher.
-/
import Derived.Test.YthjnalbgnjbdnaaAesKeys
import Derived.Test.YthjnalbgnjbdnaaSteps
namespace Go.Proofs.Ythjnalbgnjbdnaa
open Go.RowKit

def fnS (S : Nat) : Value := .func (.func 124) #[] #[.pointer (some ⟨S, 0, none⟩)]
def fnM (S : Nat) : Value := .func (.func 125) #[] #[.pointer (some ⟨S, 0, none⟩)]
def aesCells (ks : List Value) (S1 S2 S3 S4 : Nat) : List Value := ks ++ [fnS S1, fnS S2, fnM S3, fnM S4]
def zeroAes : List Value := zerosOf 176 .u8 ++ [.nilFunc, .nilFunc, .nilFunc, .nilFunc]
theorem zeroAes_length : zeroAes.length = 180 := by unfold zeroAes; rw [List.length_append, zerosOf_length]; rfl
theorem aesCells_length (ks : List Value) (S1 S2 S3 S4 : Nat) (h : ks.length = 176) : (aesCells ks S1 S2 S3 S4).length = 180 := by simp [aesCells, h]
theorem Try.zero86 : (Try.prog.info? 86).map (fun i => (i.zero, i.size)) = some (some (.agg zeroAes.toArray), 180) := by kernel_rfl
theorem allOne_aes (l : List UInt8) (S1 S2 S3 S4 : Nat) : (aesCells (l.map byte) S1 S2 S3 S4).toArray.all (·.oneCell') = true := by
  rw [Array.all_eq_true_iff_forall_mem]
  intro v hv
  simp only [aesCells, List.mem_toArray, List.mem_append] at hv
  rcases hv with hv | hv
  · exact (Array.all_eq_true_iff_forall_mem.1 (allOne_bytes l)) v (by simpa using hv)
  · simp only [List.mem_cons, List.not_mem_nil, or_false] at hv
    rcases hv with rfl | rfl | rfl | rfl <;> rfl
/-- Where the fields lie. -/
def aesPlaces : Array (Nat × Nat) := #[(0, 176), (176, 1), (177, 1), (178, 1), (179, 1)]
theorem fill_aes (a cells : List Value) (f1 f2 f3 f4 : Value) (h1 : f1.cells = #[f1]) (h2 : f2.cells = #[f2]) (h3 : f3.cells = #[f3]) (h4 : f4.cells = #[f4]) (ha : a.length = 176) (hc : cells.length = 180) :
    Instr.fill (fun i => aesPlaces[i]?) cells.toArray [(0, .agg a.toArray), (1, f1), (2, f2), (3, f3), (4, f4)] = some (a ++ [f1, f2, f3, f4]).toArray := by
  have e1 := fold_whole a 0 cells.toArray (by simp; omega)
  simp only [Nat.zero_add, List.take_zero, List.nil_append, ha] at e1
  have hd : (cells.drop 176).length = 4 := by rw [List.length_drop]; omega
  obtain ⟨z0, z1, z2, z3, hz⟩ : ∃ z0 z1 z2 z3, cells.drop 176 = [z0, z1, z2, z3] := by
    match cells.drop 176, hd with
    | [z0, z1, z2, z3], _ => exact ⟨z0, z1, z2, z3, rfl⟩
  rw [hz] at e1
  have p0 : aesPlaces[0]? = some (0, 176) := rfl
  have p1 : aesPlaces[1]? = some (176, 1) := rfl
  have p2 : aesPlaces[2]? = some (177, 1) := rfl
  have p3 : aesPlaces[3]? = some (178, 1) := rfl
  have p4 : aesPlaces[4]? = some (179, 1) := rfl
  have st : ∀ (k : Nat) (x : Value) (l : List Value), ((#[x] : Array Value).zipIdx.foldl (fun (cs : Array Value) (c : Value × Nat) => cs.setIfInBounds (k + c.2) c.1) l.toArray) = (l.set k x).toArray := by
    intro k x l; simp
  have s1 : (a ++ [z0, z1, z2, z3]).set 176 f1 = a ++ [f1, z1, z2, z3] := by rw [List.set_append_right _ _ (by omega), ha]; rfl
  have s2 : (a ++ [f1, z1, z2, z3]).set 177 f2 = a ++ [f1, f2, z2, z3] := by rw [List.set_append_right _ _ (by omega), ha]; rfl
  have s3 : (a ++ [f1, f2, z2, z3]).set 178 f3 = a ++ [f1, f2, f3, z3] := by rw [List.set_append_right _ _ (by omega), ha]; rfl
  have s4 : (a ++ [f1, f2, f3, z3]).set 179 f4 = a ++ [f1, f2, f3, f4] := by rw [List.set_append_right _ _ (by omega), ha]; rfl
  have e0 : ((Value.agg a.toArray).cells.zipIdx.foldl (fun (cs : Array Value) (c : Value × Nat) => cs.setIfInBounds (0 + c.2) c.1) cells.toArray) = (a ++ [z0, z1, z2, z3]).toArray := by
    show (a.toArray.zipIdx.foldl _ cells.toArray) = _
    rw [← Array.foldl_toList, Array.toList_zipIdx]
    simpa using e1
  have ca : (Value.agg a.toArray).cells.size = 176 := by show a.toArray.size = 176; simpa using ha
  simp only [Instr.fill, p0, p1, p2, p3, p4]
  rw [if_neg (by rw [ca]; simp; omega), e0]
  rw [h1, h2, h3, h4]
  rw [if_neg (by simp [ha]), st, s1, if_neg (by simp [ha]), st, s2, if_neg (by simp [ha]), st, s3, if_neg (by simp [ha]), st, s4]
theorem aes_places (parts : List (Nat × Value)) : Try.prog.built 86 parts = Instr.fill (fun i => aesPlaces[i]?) zeroAes.toArray parts := by kernel_rfl
theorem built_aes (a : List Value) (S1 S2 S3 S4 : Nat) (ha : a.length = 176) : Try.prog.built 86 [(0, .agg a.toArray), (1, fnS S1), (2, fnS S2), (3, fnM S3), (4, fnM S4)] = some (aesCells a S1 S2 S3 S4).toArray := by
  rw [aes_places]
  exact fill_aes a zeroAes (fnS S1) (fnS S2) (fnM S3) (fnM S4) rfl rfl rfl rfl ha zeroAes_length
end Go.Proofs.Ythjnalbgnjbdnaa
