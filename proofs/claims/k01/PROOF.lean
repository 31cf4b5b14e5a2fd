import PyProof.Rows.All
import Wide.All
import OpenK.AllK
import Wide.FinOn
import HandS.ForMost
import HandS.Codes
import HandS.StrMore
import HandS.Defaults
import HandS.IntHex
import HandS.IsInst
import HandS.TupAny
import HandS.TupMul
import PyProof.FString3
import PyProof.Rows.StrIntSpec
import PyProof.StrOps2
import KE.IntText
import KE.KIntText
import KE.IntTextLaws

import PySem.Challenge.RW_breakback_k01_strings_of_bits
set_option Elab.async false
set_option linter.all false
set_option maxRecDepth 100000
set_option maxHeartbeats 4000000
namespace My
open PySem PySem.Spec PyProof.Rows L2
theorem snocInd {α : Type} {P : List α → Prop} (h0 : P []) (h1 : ∀ l a, P l → P (l ++ [a])) (l : List α) : P l := by
  have h : ∀ (n : Nat) (l : List α), l.length = n → P l := by
    intro n
    induction n with
    | zero =>
      intro l e
      rw [List.eq_nil_of_length_eq_zero e]
      exact h0
    | succ n ih =>
      intro l e
      have hn : l ≠ [] := fun z => by
        rw [z] at e
        cases e
      rw [← List.dropLast_concat_getLast hn]
      exact h1 _ _ (ih _ (by rw [List.length_dropLast, e]; rfl))
  exact h _ l rfl
/-! ### strings of bits -/
def cB (b : Bool) : Nat := if b then 49 else 48
def sb (bs : List Bool) : Str := SX.S (bs.map cB)
def toB : Nat → Nat → List Bool
  | 0, _ => []
  | n + 1, k => toB n (k / 2) ++ [k % 2 == 1]
def bit (b : Bool) : Nat := if b then 1 else 0
def val (bs : List Bool) : Nat := bs.foldl (fun a b => 2 * a + bit b) 0
theorem toB_len : ∀ n k, (toB n k).length = n
  | 0, _ => rfl
  | n + 1, k => by
    show (toB n (k / 2) ++ [k % 2 == 1]).length = n + 1
    rw [List.length_append, toB_len n]
    rfl
theorem sb_len (bs : List Bool) : (sb bs).length = bs.length := by
  unfold sb
  rw [SX.S_len, List.length_map]
theorem cB_inj {a b : Bool} (h : cB a = cB b) : a = b := by
  cases a <;> cases b <;> first | rfl | (exact absurd h (by decide))
theorem map_cB_inj : ∀ {l m : List Bool}, l.map cB = m.map cB → l = m
  | [], [], _ => rfl
  | [], _ :: _, h => by simp at h
  | _ :: _, [], h => by simp at h
  | a :: l, b :: m, h => by
    rw [List.map_cons, List.map_cons] at h
    injection h with h1 h2
    rw [cB_inj h1, map_cB_inj h2]
theorem sb_inj {l m : List Bool} (h : sb l = sb m) : l = m := map_cB_inj (SX.S_inj h)
theorem sb_cat (l m : List Bool) : sb l ++ sb m = sb (l ++ m) := by
  unfold sb
  rw [SX.S_cat, List.map_append]
theorem val_snoc (l : List Bool) (b : Bool) : val (l ++ [b]) = 2 * val l + bit b := by
  unfold val
  rw [List.foldl_append]
  rfl
theorem bit_lt (b : Bool) : bit b < 2 := by cases b <;> decide
theorem toB_val (bs : List Bool) : toB bs.length (val bs) = bs := by
  induction bs using snocInd with
  | h0 => rfl
  | h1 l b ih =>
    rw [List.length_append, val_snoc]
    show toB (l.length + 1) _ = _
    show toB l.length ((2 * val l + bit b) / 2) ++ [(2 * val l + bit b) % 2 == 1] = l ++ [b]
    have h := bit_lt b
    rw [show (2 * val l + bit b) / 2 = val l by omega, ih, show (2 * val l + bit b) % 2 = bit b by omega]
    cases b <;> rfl
theorem val_lt (bs : List Bool) : val bs < 2 ^ bs.length := by
  induction bs using snocInd with
  | h0 => exact Nat.one_pos
  | h1 l b ih =>
    rw [List.length_append, val_snoc]
    show _ < 2 ^ (l.length + 1)
    have h := bit_lt b
    rw [Nat.pow_succ]
    omega
theorem val_toB : ∀ (n k : Nat), k < 2 ^ n → val (toB n k) = k
  | 0, k, h => by
    have e : k = 0 := by
      have : k < 1 := h
      omega
    subst e
    rfl
  | n + 1, k, h => by
    show val (toB n (k / 2) ++ [k % 2 == 1]) = k
    rw [Nat.pow_succ] at h
    rw [val_snoc, val_toB n (k / 2) (by omega)]
    have e : bit (k % 2 == 1) = k % 2 := by
      rcases Nat.mod_two_eq_zero_or_one k with z | z <;> rw [z] <;> rfl
    rw [e]
    omega
theorem toB_zero (n : Nat) : toB n 0 = List.replicate n false := by
  induction n with
  | zero => rfl
  | succ n ih =>
    show toB n 0 ++ [false] = _
    rw [ih, List.replicate_succ']
/-! ### two strings place by place -/
theorem toB_xor : ∀ (n a b : Nat), toB n (a ^^^ b) = List.zipWith (fun x y => x != y) (toB n a) (toB n b)
  | 0, _, _ => rfl
  | n + 1, a, b => by
    show toB n ((a ^^^ b) / 2) ++ [(a ^^^ b) % 2 == 1] = List.zipWith (fun x y => x != y) (toB n (a / 2) ++ [a % 2 == 1]) (toB n (b / 2) ++ [b % 2 == 1])
    rw [List.zipWith_append (by rw [toB_len, toB_len]), Nat.xor_div_two, toB_xor n]
    congr 1
    have e : (a ^^^ b) % 2 = (a % 2) ^^^ (b % 2) := by
      have h := Nat.xor_mod_two_pow (a := a) (b := b) (n := 1)
      rw [Nat.pow_one] at h
      exact h
    rw [e]
    rcases Nat.mod_two_eq_zero_or_one a with z | z <;> rcases Nat.mod_two_eq_zero_or_one b with y | y <;> rw [z, y] <;> rfl
theorem toB_and : ∀ (n a b : Nat), toB n (a &&& b) = List.zipWith (fun x y => x && y) (toB n a) (toB n b)
  | 0, _, _ => rfl
  | n + 1, a, b => by
    show toB n ((a &&& b) / 2) ++ [(a &&& b) % 2 == 1] = List.zipWith (fun x y => x && y) (toB n (a / 2) ++ [a % 2 == 1]) (toB n (b / 2) ++ [b % 2 == 1])
    rw [List.zipWith_append (by rw [toB_len, toB_len]), Nat.and_div_two, toB_and n]
    congr 1
    have e : (a &&& b) % 2 = (a % 2) * (b % 2) := by
      have h := Nat.and_mod_two_pow (a := a) (b := b) (n := 1)
      rw [Nat.pow_one] at h
      rw [h]
      rcases Nat.mod_two_eq_zero_or_one a with z | z <;> rcases Nat.mod_two_eq_zero_or_one b with y | y <;> rw [z, y] <;> rfl
    rw [e]
    rcases Nat.mod_two_eq_zero_or_one a with z | z <;> rcases Nat.mod_two_eq_zero_or_one b with y | y <;> rw [z, y] <;> rfl
/-! ### the digits that Python writes -/
def dig (k : Nat) : List Nat := (Nat.toDigits 2 k).map Char.toNat
theorem dig_lt {k : Nat} (h : k < 2) : dig k = [cB (k == 1)] := by
  unfold dig
  rw [Nat.toDigits_of_lt_base h]
  have : k = 0 ∨ k = 1 := by omega
  rcases this with e | e <;> subst e <;> rfl
theorem dig_ge {k : Nat} (h : 2 ≤ k) : dig k = dig (k / 2) ++ [cB (k % 2 == 1)] := by
  unfold dig
  rw [Nat.toDigits_of_base_le (by decide) h, List.map_append]
  congr 1
  rcases Nat.mod_two_eq_zero_or_one k with z | z <;> rw [z] <;> rfl
theorem dig_toB : ∀ (n k : Nat), k < 2 ^ (n + 1) → ∃ p, (toB (n + 1) k).map cB = List.replicate p 48 ++ dig k
  | 0, k, h => by
    have hk : k < 2 := h
    refine ⟨0, ?_⟩
    rw [dig_lt hk]
    show [cB (k % 2 == 1)] = [cB (k == 1)]
    rw [Nat.mod_eq_of_lt hk]
  | n + 1, k, h => by
    show ∃ p, (toB (n + 1) (k / 2) ++ [k % 2 == 1]).map cB = _
    rw [List.map_append]
    by_cases hk : k < 2
    · refine ⟨n + 1, ?_⟩
      rw [dig_lt hk, show k / 2 = 0 by omega, toB_zero, List.map_replicate, Nat.mod_eq_of_lt hk]
      rfl
    · have h' : k < 2 ^ (n + 1) * 2 := by
        rw [← Nat.pow_succ]
        exact h
      obtain ⟨p, e⟩ := dig_toB n (k / 2) (by omega)
      refine ⟨p, ?_⟩
      rw [e, dig_ge (k := k) (by omega), List.append_assoc]
      rfl
theorem dig_len_pos (k : Nat) : 0 < (dig k).length := by
  unfold dig
  rw [List.length_map]
  exact Nat.length_toDigits_pos
theorem dig_head (k : Nat) : ∃ c r, dig k = c :: r ∧ (c = 48 ∨ c = 49) := by
  induction k using Nat.strongRecOn with
  | _ k ih =>
    by_cases hk : k < 2
    · rw [dig_lt hk]
      exact ⟨_, _, rfl, by cases (k == 1) <;> decide⟩
    · obtain ⟨c, r, e, h⟩ := ih (k / 2) (by omega)
      rw [dig_ge (by omega), e]
      exact ⟨c, r ++ [_], rfl, h⟩
theorem zfill_dig (n k : Nat) (h : k < 2 ^ (n + 1)) : Txt.zfill (SX.S (dig k)) ((n + 1 : Nat) : Int) = sb (toB (n + 1) k) := by
  obtain ⟨p, e⟩ := dig_toB n k h
  have hl : n + 1 = p + (dig k).length := by
    have := congrArg List.length e
    rw [List.length_map, toB_len, List.length_append, List.length_replicate] at this
    exact this
  unfold sb
  rw [e]
  unfold Txt.zfill
  rw [SX.S_len]
  by_cases hp : p = 0
  · subst hp
    rw [if_pos (by omega)]
    rfl
  · rw [if_neg (by omega)]
    obtain ⟨c, r, ed, hc⟩ := dig_head k
    have hm : ((n + 1 : Nat) : Int).toNat - (dig k).length = p := by omega
    rw [hm]
    unfold zfilled
    rw [ed]
    rcases hc with rfl | rfl
    · show Builtin.Str.padded _ p 0 48 = _
      refine TL.ext_tl ?_
      simp [Builtin.Str.padded, TL.tl, SX.S]
    · show Builtin.Str.padded _ p 0 48 = _
      refine TL.ext_tl ?_
      simp [Builtin.Str.padded, TL.tl, SX.S]
section
open Builtin Builtin.Str Builtin.Int Builtin.Float
theorem ite_n {c : Prop} [Decidable c] {X Y : Prop} (hc : ¬ c) (h : Y) : if c then X else Y := by
  rw [if_neg hc]
  exact h
theorem ite_y {c : Prop} [Decidable c] {X Y : Prop} (hc : c) (h : X) : if c then X else Y := by
  rw [if_pos hc]
  exact h
/-- the text of the bits of n, as the format "b" makes it -/
theorem field_b (l : List Nat) (hl : l ≠ []) : intField' { fill := 32, align := 62, type := some 98 } false [] l [] 4 = ⟨l.toArray⟩ := by
  unfold intField'
  have h0 : l.isEmpty = false := by
    cases l with
    | nil => exact absurd rfl hl
    | cons a r => rfl
  simp [h0]
theorem wp_eq {α : Type} {M : Model} {A : Around} {t t' : Sem α} {Q : α → Shared → Prop} {E : Value → Shared → Prop} {s : Shared} (e : t = t') (h : wpAny M A t' Q E s) : wpAny M A t Q E s := by
  rw [e]
  exact h
set_option maxHeartbeats 1000000 in
theorem gives_fmtB {spec : PySem.Str} (n : Nat) (t u : Tok) (hz : (Nat.toDigits 2 n).length ≤ sizeLine)
    (hp : parseFormatSpec spec.cps.toList "int" 62 = .ok { fill := 32, align := 62, type := some 98 }) (hne : (spec.length == 0) = false)
    (hasc : ((spec.cps.toList.drop 1).any (· ≥ 128) || (spec.cps.getD 0 0 ≥ 128 && !([60, 62, 61, 94] : List Nat).contains (spec.cps.getD 1 0))) = false) :
    Gives («int.__format__» ⟨[.int (n : Int) t, .str spec u], []⟩) (.str ⟨((Nat.toDigits 2 n).map Char.toNat).toArray⟩) := by
  intro prog w A R s hq
  unfold Builtin.«int.__format__»
  simp only [selfAndOne, noKeywords, Int.intOfSelf, asInt?, asStr?, List.isEmpty_nil, if_true, pure_bind, bind_pure, bind_assoc, hne, hasc, Bool.false_eq_true, if_false,
    show (Value.str spec u == Value.none) = false from rfl]
  refine wpAny_bind (wpAny_typeNameOf (T := "str") (typeIs_str _ _ _) (by decide) fun _ => ?_)
  refine wpAny_bind (wpAny_typeNameOfCut_int ?_)
  simp only [hp, Option.getD_some]
  refine wpAny_ite (ite_y (by decide) ?_)
  refine wp_eq (t' := retStr (intField' { fill := 32, align := 62, type := some 98 } (decide ((n : Int) < 0)) [] ((Nat.toDigits 2 n).map fun c => (if (98 : Nat) == 88 then c.toUpper else c).toNat) [] 4)) (by kernel_rfl) ?_
  rw [show decide ((n : Int) < 0) = false from decide_eq_false (by omega), field_b _ (by
    have := Nat.length_toDigits_pos (b := 2) (n := n)
    intro z
    rw [List.map_eq_nil_iff] at z
    rw [z] at this
    exact absurd this (by decide))]
  refine wpAny_bind (wpAny_mkStr (wpAny_pure hq.2) ?_)
  show (List.toArray _).size ≤ _
  rw [List.size_toArray, List.length_map]
  exact hz
end
/-! ### a text times an int -/
theorem foldl_app (x : Array Nat) : ∀ (n : Nat) (acc : Array Nat), ((List.replicate n x).foldl (· ++ ·) acc).toList = acc.toList ++ (List.replicate n x.toList).flatten
  | 0, acc => by simp
  | n + 1, acc => by
    rw [List.replicate_succ, List.foldl_cons, foldl_app x n, List.replicate_succ, List.flatten_cons, Array.toList_append, List.append_assoc]
def rRepS : R2 := fun x y H Q => ∃ (l : List Nat) (k : Int), x = .str (SX.S l) ∧ y = .int k ∧ (0 ≤ k ∧ l.length * k.toNat ≤ 16777216 ∧ k ≤ 16777216) ∧ Q (.str (SX.S (List.replicate k.toNat l).flatten)) H
theorem op_repS {X : Cx} : OpR X (binaryOp .Mult) rRepS := by
  intro pins s σ H x y v u Q I rx ry h
  obtain ⟨l, k, rfl, rfl, ⟨h0, hz, hk⟩, q⟩ := h
  obtain ⟨t, rfl⟩ := rx
  obtain ⟨t', rfl⟩ := ry
  have hs : sizeLine = 16777216 := sizeLine_eq
  refine PySem.P.mul_str ?_ (fun h1 _ => ?_) (fun _ _ => ?_) ?_
  · rw [decide_eq_false (by omega), decide_eq_false (by omega)]
    rfl
  · rw [SX.S_len]
    have hp : 0 < k := by omega
    have : (l.length : Int) * k ≤ 16777216 := by
      have e : ((l.length * k.toNat : Nat) : Int) = (l.length : Int) * k := by
        rw [Int.natCast_mul, Int.toNat_of_nonneg h0]
      omega
    have := (Int.le_ediv_iff_mul_le hp (a := (l.length : Int)) (b := 2 ^ 63 - 1)).mpr (by omega)
    omega
  · rw [SX.S_len]
    unfold Builtin.Str.tooLong
    rw [sizeLine_eq]
    exact decide_eq_false (by omega)
  · by_cases h1 : k < 1
    · rw [if_pos h1]
      have e : k = 0 := by omega
      subst e
      exact ⟨by decide, .str (SX.S []), H, I.tok _, ⟨_, rfl⟩, q⟩
    · rw [if_neg h1]
      by_cases h2 : (k == 1 || (SX.S l).length == 0) = true
      · rw [if_pos h2]
        have e : (List.replicate k.toNat l).flatten = l := by
          rw [Bool.or_eq_true, beq_iff_eq, beq_iff_eq, SX.S_len] at h2
          rcases h2 with e | e
          · subst e
            simp
          · rw [List.eq_nil_of_length_eq_zero e]
            simp
        rw [e] at q
        exact ⟨.str (SX.S l), H, I, ⟨t, rfl⟩, q⟩
      · rw [if_neg h2]
        have e : (⟨(List.replicate k.toNat (SX.S l).cps).foldl (· ++ ·) #[]⟩ : Str) = SX.S (List.replicate k.toNat l).flatten := by
          refine TL.ext_tl ?_
          show (List.foldl (· ++ ·) (#[] : Array Nat) (List.replicate k.toNat l.toArray)).toList = _
          rw [foldl_app]
          rfl
        rw [e]
        refine ⟨?_, .str _, H, I.tok _, ⟨_, rfl⟩, q⟩
        rw [SX.S_len, List.length_flatten, List.map_replicate, List.sum_replicate_nat, hs]
        rw [Nat.mul_comm]
        exact hz
/-! ### f(k = v, ..): keywords alone -/
theorem pe_callN0 {X : Cx} {CX : CXT} {k : Nat} {f : Addr} {fd : FuncData} {ps ks : List Str} {sp : Sp} {E : XK} {x : Str} {p pos : Pos} {kws : List Keyword} {tk : TA} {g : List Value → List Value → List Value} {gV : List V → List V → List V}
    (F : FnOk X.prog X.w X.K X.mg X.base CX k f fd ps sp) (hr : Room k X.A) (hg : Gl X x) (hm : X.mg x = some (.ref f)) (hk : PySem.W.keepIn X.K (.ref f) = true) (hb : KBn X.K fd ps 0 ks g gV) (hx : Passes CX X E)
    (hkw : PK X kws tk) (hall : (backToKw pos (keywordEach kws X.env)).all (·.1.isSome) = true := by rfl) (hks : (backToKw pos (keywordEach kws X.env)).filterMap (·.1) = ks := by rfl)
    (hdb : (x == ("__debug__" : Str)) = false := by decide)
    (hpl : ((backTo pos (starEach [] X.env)).any (·.1) || (backToKw pos (keywordEach kws X.env)).any (·.1.isNone)) = false := by rfl) :
    PE X (.Call (.Name x p) [] kws pos) (tCallN 0 ks.length sp gV E tNil tk) := by
  refine ⟨fun pins s σ H Q I h => ?_⟩
  refine wpAny_Call_Name_kw (ld_glob I hg hm ?_ hdb)
  refine PySem.W.callWith_KW0 (h₀ := X.base) I.ok.mod.kin hk hall ?_ hpl
  refine thn (hkw.run pos pins s σ H _ I h) fun ws s2 ⟨zs, H2, I2, rz, l1, l2, q2⟩ => ⟨I2.kIn, ?_⟩
  rw [hks]
  exact run_fnN (us := []) (vs := []) F hr hb hx I2 .nil rz rfl l2 q2
/-! ### int(t, 2) -/
namespace Two
open PySem.NumText PySem.Calls
def Bin (c : Nat) : Prop := c = 48 ∨ c = 49
def num (l : List Nat) : Nat := l.foldl (fun a c => a * 2 + (c - 48)) 0
theorem Bin.plain {c : Nat} (h : Bin c) : c ≠ 95 ∧ c ≠ 0 ∧ c < 128 ∧ 33 ≤ c ∧ c ≠ 32 ∧ c ≠ 43 ∧ c ≠ 45 := by
  rcases h with e | e <;> subst e <;> decide
theorem one {ds : Array Nat} {b : Bool} {c : Nat} (h : Bin c) : PySem.NumText.step 2 (ds, b) c = some (ds.push (c - 48), true) := by
  rcases h with e | e <;> subst e <;> rfl
theorem more : ∀ (cs : List Nat) (ds : Array Nat), (∀ c ∈ cs, Bin c) → cs.foldlM (PySem.NumText.step 2) (ds, true) = some ((ds.toList ++ cs.map (· - 48)).toArray, true)
  | [], ds, _ => by simp
  | c :: cs, ds, h => by
    rw [List.foldlM_cons, one (h c (List.mem_cons_self ..))]
    refine (more cs (ds.push (c - 48)) fun d hd => h d (List.mem_cons_of_mem _ hd)).trans ?_
    simp
theorem all {cs : List Nat} (h : ∀ c ∈ cs, Bin c) (hne : cs ≠ []) : digits? 2 cs = some (cs.map (· - 48)).toArray := by
  cases cs with
  | nil => exact absurd rfl hne
  | cons c cs =>
    have e : List.foldlM (PySem.NumText.step 2) ((#[] : Array Nat), false) (c :: cs) = some (((c :: cs).map (· - 48)).toArray, true) := by
      rw [List.foldlM_cons, one (h c (List.mem_cons_self ..))]
      refine (more cs (#[].push (c - 48)) fun d hd => h d (List.mem_cons_of_mem _ hd)).trans ?_
      simp
    unfold digits?
    rw [e]
    rfl
theorem worth (l : List Nat) : (l.map (· - 48)).toArray.foldl (fun acc d => acc * 2 + d) 0 = num l := by
  rw [← Array.foldl_toList]
  unfold num
  rw [List.foldl_map]
theorem noBlank {cs : List Nat} (h : ∀ c ∈ cs, Bin c) : cs.dropWhile blank = cs := by
  cases cs with
  | nil => rfl
  | cons c cs =>
    have := (h c (List.mem_cons_self ..)).plain
    exact dropWhile_of (by omega)
theorem noSign {cs : List Nat} (h : ∀ c ∈ cs, Bin c) : sign cs = (false, cs) := by
  cases cs with
  | nil => rfl
  | cons c cs =>
    have := (h c (List.mem_cons_self ..)).plain
    exact sign_of (by omega) (by omega)
theorem noPre {cs : List Nat} (h : ∀ c ∈ cs, Bin c) : based 2 cs = (2, false, cs) := by
  match cs, h with
  | [], _ => rfl
  | [a], h =>
    rcases h a (List.mem_cons_self ..) with e | e <;> subst e <;> rfl
  | a :: c :: r, h =>
    rcases h a (List.mem_cons_self ..) with e | e <;> subst e <;>
      rcases h c (List.mem_cons_of_mem _ (List.mem_cons_self ..)) with e | e <;> subst e <;> rfl
theorem read {cs : List Nat} (h : ∀ c ∈ cs, Bin c) (hne : cs ≠ []) : (int_private% "readNumeral") 0 2 cs = (int_private% "Numeral.value") ((num cs : Nat) : Int) := by
  have hb : based 2 cs = (2, false, cs) := noPre h
  have hr : ∀ c ∈ cs.reverse, Bin c := fun c hc => h c (List.mem_reverse.mp hc)
  rw [readNumeral_eq 0 2 cs, noBlank h, noSign h]
  show judge 0 false (based 2 cs).1 (based 2 cs).2.1 (digits? (based 2 cs).1 (((based 2 cs).2.2.reverse.dropWhile blank).reverse)) = _
  rw [hb]
  show judge 0 false 2 false (digits? 2 ((cs.reverse.dropWhile blank).reverse)) = _
  rw [noBlank hr, List.reverse_reverse, all h hne]
  show (int_private% "Numeral.value") (((cs.map (· - 48)).toArray.foldl (fun acc d => acc * 2 + d) 0 : Nat) : Int) = _
  rw [worth]
theorem seen {x : Str} (h : ∀ c ∈ x.cps.toList, Bin c) : numTextOf x = x.cps.toList ∧ numSeenOf x = x.cps.toList := by
  have e1 : numTextOf x = x.cps.toList := if_pos (by
    rw [← Array.all_toList, List.all_eq_true]
    exact fun c hc => decide_eq_true (h c hc).plain.2.2.1)
  refine ⟨e1, ?_⟩
  show List.takeWhile _ (numTextOf x) = _
  rw [e1]
  exact takeWhile_all fun c hc => bne_iff_ne.mpr (h c hc).plain.2.1
set_option maxHeartbeats 4000000 in
theorem gives {x : PySem.Str} {u t : Tok} (hl : x.length ≤ 640) (h : ∀ c ∈ x.cps.toList, Bin c) (hne : x.cps.toList ≠ []) :
    Gives (Builtin.«int.__new__» ⟨[.type "int", .str x u, .int 2 t], []⟩) (.int ((num x.cps.toList : Nat) : Int)) :=
  .of_wp fun M A E s Q hQ => by
    obtain ⟨hp, g, d, tk, os⟩ := s
    have f1 := F.conv_sub_int
    have f2 := F.madeHere_int
    have f6 : typeOf (.str x u) = pure (.type "str") := rfl
    obtain ⟨e1, e2⟩ := seen h
    have hk : Hx.Hid ((numSeenOf x).length ≤ 640 ∧ (int_private% "readNumeral") 0 2 (numSeenOf x) = (int_private% "Numeral.value") ((num x.cps.toList : Nat) : Int) ∧ ((numSeenOf x).length == (numTextOf x).length) = true) := by
      refine ⟨?_, ?_, ?_⟩
      · rw [e2, Array.length_toList]
        exact hl
      · rw [e2]
        exact read h hne
      · rw [e1, e2]
        exact beq_self_eq_true _
    clear e1 e2 hl hne h
    repeat (any_goals (first
      | assumption
      | ((with_reducible show wpAny _ _ ((int_private% "intFromText") _ _ _) _ _ _); refine Hx.wp_textB hk.out.1 hk.out.2.1 hk.out.2.2 ?_)
      | wp_step))
    all_goals (try exact ⟨_, rfl, hQ⟩)
end Two
def rIntBin : List V → Hp → VK → Prop := fun xs H Q => ∃ l : List Nat, xs = [.str (SX.S l), .int 2] ∧ (l ≠ [] ∧ l.length ≤ 640 ∧ ∀ c ∈ l, Two.Bin c) ∧ Q (.int ((Two.num l : Nat) : Int)) H
theorem call_int_bin {X : Cx} : CallR X (.type "int") rIntBin := by
  intro pins s σ H xs us Q I r h
  obtain ⟨l, rfl, ⟨hne, hl, hx⟩, q⟩ := h
  obtain ⟨u, w', rfl, ⟨t1, rfl⟩, ⟨t2, rfl⟩⟩ := vals2 r
  exact callType_new F.called_int F.newNe_int (Hx.typeCall_int_2 _ _) (Hx.newCall_int_2 _ _) (fun obj => F.initArgs_range_2 obj _ _) F.entry_int_new
    (Two.gives (x := SX.S l) (u := t1) (t := t2) (by rw [SX.S_len]; exact hl) hx hne).meets (show (Made.int ((Two.num l : Nat) : Int)).post _ s from ⟨rfl, .int ((Two.num l : Nat) : Int), H, I.tok _, ⟨_, rfl⟩, q⟩)
/-! ### f"{n:b}" -/
def tFmtB (te : TE) : TE := fun σ H Q => te σ H fun x H1 => ∃ n : Nat, x = .int (n : Int) ∧ (dig n).length ≤ 16777216 ∧ Q (.str (SX.S (dig n))) H1
theorem spec_b : Builtin.Float.parseFormatSpec (Str.ofString "b").cps.toList "int" 62 = .ok { fill := 32, align := 62, type := some 98 } := by kernel_rfl
theorem pe_fmtB {X : Cx} {e : Expr} {te : TE} {j : Nat} {p1 p2 p3 p4 : Pos} (he : PE X e te) : PE X (.JoinedStr [.FormattedValue e (-1) (some (.JoinedStr [.Constant (.str "b") j p1] p2)) p3] p4) (tFmtB te) := by
  refine ⟨fun pins s σ H Q I h => ?_⟩
  refine wpAny_JoinedStr_one (wpAny_FormattedValue_spec (thn (he.run pins s σ H _ I h) fun v s1 hv => ?_))
  obtain ⟨x, H1, I1, r1, n, rfl, hz, q⟩ := hv
  obtain ⟨t, rfl⟩ := r1
  refine wpAny_JoinedStr_one (thn ((pe_str (X := X) (x := "b") (j := j) (pos := p1)).run pins s1 σ H1 (fun v H2 => v = .str "b" ∧ H2 = H1) I1 ⟨rfl, rfl⟩) fun v s2 hv => ?_)
  obtain ⟨x, H2, I2, r2, rfl, rfl⟩ := hv
  obtain ⟨t2, rfl⟩ := r2
  have hd : (Nat.toDigits 2 n).length ≤ sizeLine := by
    have h := hz
    unfold dig at h
    rw [List.length_map] at h
    rw [sizeLine_eq]
    exact h
  refine ⟨_, t2, rfl, wpAny_formatField_spec (by decide) (fun s' => typeIs_int s' _ t) F.slot_int_format F.entry_int_format F.args_int_format_2 (fun u => gives_fmtB n t u hd spec_b (by decide) (by decide)) ⟨.str (SX.S (dig n)), _, I2.tok _, ⟨_, rfl⟩, q⟩ (by decide) ?_⟩
  show (List.toArray _).size ≤ _
  rw [List.size_toArray, List.length_map]
  exact hd
/-! ### a def under its name, with its promise -/
structure Df (K : PySem.W.Frag) (mg : Str → Option Value) (x : Str) (st : Stmt) (ps : List Str) (f : Addr) (fd : FuncData) : Prop where
  fn : Fun K x x st f fd
  bi : Binds K fd ps []
  gl : mg x = some (.ref f)
structure Cl (P : Program) (w : World) (K : PySem.W.Frag) (mg : Str → Option Value) (base : Heap) (CX : CXT) (k : Nat) (x : Str) (sp : Sp) : Prop where
  ex : ∃ (f : Addr) (fd : FuncData) (ps : List Str), FnOk P w K mg base CX k f fd ps sp ∧ mg x = some (.ref f) ∧ PySem.W.keepIn K (.ref f) = true ∧ Binds K fd ps []
structure Ck (P : Program) (w : World) (K : PySem.W.Frag) (mg : Str → Option Value) (base : Heap) (CX : CXT) (k n : Nat) (x : Str) (ks : List Str) (gV : List V → List V → List V) (sp : Sp) : Prop where
  ex : ∃ (f : Addr) (fd : FuncData) (ps : List Str) (g : List Value → List Value → List Value), FnOk P w K mg base CX k f fd ps sp ∧ mg x = some (.ref f) ∧ PySem.W.keepIn K (.ref f) = true ∧ KBn K fd ps n ks g gV
section
variable {P : Program} {w : World} {K : PySem.W.Frag} {mg : Str → Option Value} {base : Heap} {CX : CXT} {k j : Nat} {x : Str} {sp : Sp}
theorem Df.cl {st : Stmt} {ps : List Str} {f : Addr} {fd : FuncData} (D : Df K mg x st ps f fd) (h : FnOk P w K mg base CX k f fd ps sp) : Cl P w K mg base CX k x sp := ⟨f, fd, ps, h, D.gl, D.fn.kp, D.bi⟩
theorem pe_cl {X : Cx} {p pos : Pos} {e : Expr} {es : List Expr} {t : TA} (c : Cl X.prog X.w X.K X.mg X.base CX0 k x sp) (hr : Room j X.A) (hk : k ≤ j) (hg : Gl X x) (ha : PA X (e :: es) t)
    (hdb : (x == ("__debug__" : Str)) = false := by decide) (he : starEach (e :: es) X.env = (false, eval e X.env) :: starEach es X.env := by rfl) (hpl : (backTo pos (starEach es X.env)).any (·.1) = false := by rfl) :
    PE X (.Call (.Name x p) (e :: es) [] pos) (tCall sp [] E0 t) := by
  obtain ⟨f, fd, ps, F, hm, kp, b⟩ := c.ex
  exact pe_call F (hr.mono hk) hg hm kp b .nil pass0 ha hdb he hpl
theorem pe_ck0 {X : Cx} {p pos : Pos} {kws : List Keyword} {tk : TA} {ks : List Str} {gV : List V → List V → List V} (c : Ck X.prog X.w X.K X.mg X.base CX0 k 0 x ks gV sp) (hr : Room j X.A) (hk : k ≤ j) (hg : Gl X x) (hkw : PK X kws tk)
    (hall : (backToKw pos (keywordEach kws X.env)).all (·.1.isSome) = true := by rfl) (hks : (backToKw pos (keywordEach kws X.env)).filterMap (·.1) = ks := by rfl)
    (hdb : (x == ("__debug__" : Str)) = false := by decide)
    (hpl : ((backTo pos (starEach [] X.env)).any (·.1) || (backToKw pos (keywordEach kws X.env)).any (·.1.isNone)) = false := by rfl) :
    PE X (.Call (.Name x p) [] kws pos) (tCallN 0 ks.length sp gV E0 tNil tk) := by
  obtain ⟨f, fd, ps, g, F, hm, kp, b⟩ := c.ex
  exact pe_callN0 F (hr.mono hk) hg hm kp b pass0 hkw hall hks hdb hpl
end
/-! ### rules that speak of the written part, K named (a comprehension's block asks it so) -/
section
variable {X : Cx}
theorem ixL (K : PySem.W.Frag) (h : X.K = K := by rfl) : IxR X (rIxL K) := by
  subst h
  exact ix_list
theorem ixT (K : PySem.W.Frag) (h : X.K = K := by rfl) : IxR X (rIxT K) := by
  subst h
  exact ix_tup
def rLenS (K : PySem.W.Frag) : List V → Hp → VK → Prop := fun xs H Q => ∃ p ys, xs = [.ref p] ∧ (SqL K H p ys ∨ SqT K H p ys) ∧ Q (.int (ys.length : Nat)) H
theorem lenS (K : PySem.W.Frag) (h : X.K = K := by rfl) : CallR X (.builtin "len") (rLenS K) := by
  subst h
  exact call_len_seq
def rListOf (K : PySem.W.Frag) : List V → Hp → VK → Prop := fun xs H Q => ∃ p ys, xs = [.ref p] ∧ (SqL K H p ys ∨ SqT K H p ys) ∧ ∀ l, H l = none → Q (.ref l) (upd H l (.lst ys))
theorem listOf (K : PySem.W.Frag) (h : X.K = K := by rfl) : CallR X (.type "list") (rListOf K) := by
  subst h
  exact call_list_of
def rTupOf (K : PySem.W.Frag) : List V → Hp → VK → Prop := fun xs H Q => ∃ p ys, xs = [.ref p] ∧ ((SqL K H p ys ∧ ∀ l, H l = none → Q (.ref l) (upd H l (.tup ys))) ∨ (SqT K H p ys ∧ Q (.ref p) H))
theorem tupOf (K : PySem.W.Frag) (h : X.K = K := by rfl) : CallR X (.type "tuple") (rTupOf K) := by
  subst h
  exact call_tuple_of
theorem crSum (K : PySem.W.Frag) (hc : X.calm = true) (h : X.K = K := by rfl) : CallR X (.builtin "sum") (rSum K) := by
  subst h
  exact cr_sum hc
theorem crAll (K : PySem.W.Frag) (hc : X.calm = true) (h : X.K = K := by rfl) : CallR X (.builtin "all") (rAll K) := by
  subst h
  exact cr_all hc
theorem isiK (K : PySem.W.Frag) (h : X.K = K := by rfl) : CallR X (.builtin "isinstance") (rIsi K) := by
  subst h
  exact call_isi
theorem opCatA (K : PySem.W.Frag) (h : X.K = K := by rfl) : OpR X (binaryOp .Add) (rCatA K) := by
  subst h
  exact op_catA
theorem slL (K : PySem.W.Frag) (h : X.K = K := by rfl) : SlR X (rSlL K) := by
  subst h
  exact sl_list
def rJoin (K : PySem.W.Frag) : V → List V → Hp → VK → Prop := fun x xs H Q => ∃ (a : Str) (p : Addr) (ys : List Str), x = .str a ∧ xs = [.ref p] ∧ (SqL K H p (ys.map V.str) ∨ SqT K H p (ys.map V.str)) ∧ (ys.map (·.length)).sum + ys.length * a.length ≤ 16777216 ∧ Q (.str (Txt.join a ys)) H
theorem mtJoin (K : PySem.W.Frag) (h : X.K = K := by rfl) : MtR X "str.join" (rJoin K) := by
  subst h
  exact mt_join
theorem slTA (K : PySem.W.Frag) (h : X.K = K := by rfl) : SlR X (rSlA K) := by
  subst h
  exact sl_tupA
/-- a built-in class as a value -/
theorem pe_ty {x : Str} {pos : Pos} (t : String) (hg : Gl X x) (hm : X.mg x = none) (hv : bootBuiltins x = some (.type t)) (hn : x ≠ "__name__" := by decide +kernel) (hd : (x == ("__debug__" : Str)) = false := by decide +kernel) : PE X (.Name x pos) (tC (.ty t)) := pe_bltn hg hm hv rfl hn hd
end

theorem Vals.rev : ∀ {xs : List V} {us : List Value}, Vals xs us → Vals xs.reverse us.reverse
  | _, _, .nil => .nil
  | _, _, .cons r t => by
    rw [List.reverse_cons, List.reverse_cons]
    exact Vals.append (Vals.rev t) (.cons r .nil)
theorem Fun.kb {K : PySem.W.Frag} {x qual : Str} {st : Stmt} {f : Addr} {fd : FuncData} {ps ks : List Str} {g : List Value → List Value → List Value} {gV : List V → List V → List V} (F : Fun K x qual st f fd) (n : Nat)
    (h : ∀ (kV doc pm : Value) (an : Option Addr) (cdv ct : Value) (us ws : List Value), us.length = n → ws.length = ks.length → bindArgs (PySem.W.fnOf x qual (defArgs st) (defBody st) (defScope st) .none kV doc pm an cdv ct) ⟨us, ks.zip ws⟩ = pure (ps.zip (g us ws)))
    (hrel : ∀ {vs : List V} {us : List Value} {zs : List V} {ws : List Value}, Vals vs us → Vals zs ws → Vals (gV vs zs) (g us ws)) : KBn K fd ps n ks g gV := by
  obtain ⟨oc, od, kV, doc, pm, an, cdv, ct, osl, rfl, lk, hcd⟩ := F.ex
  exact ⟨fun s us ws _ l1 l2 => .of_eq (h kV doc pm an cdv ct us ws l1 l2), hrel⟩

def topS (i : Nat) : Stmt := PySem.Challenge.pw_breakback_k01_strings_of_bits.main.body.getD i (.Pass ⟨0, 0, 0, 0⟩)
abbrev s_bits : Stmt := topS 1
abbrev s_number_of : Stmt := topS 2
abbrev s_xor : Stmt := topS 3
abbrev s_parity : Stmt := topS 4
abbrev s_law_draws : Stmt := topS 6
abbrev s_law_take : Stmt := topS 7
abbrev s_law_string : Stmt := topS 8
abbrev s_law_bits : Stmt := topS 9
abbrev s_law_is_string : Stmt := topS 10
abbrev s_law_is_number : Stmt := topS 11
abbrev s_law_pair_right : Stmt := topS 12
abbrev s_law : Stmt := topS 13
theorem sc_bits : FnScope ["length", "number"] ["length", "number"] (defScope s_bits) := ⟨rfl, rfl, rfl, by decide +kernel, rfl, by decide +kernel, by decide +kernel⟩
theorem sc_number_of : FnScope ["string"] ["string"] (defScope s_number_of) := ⟨rfl, rfl, rfl, by decide +kernel, rfl, by decide +kernel, by decide +kernel⟩
theorem sc_xor : FnScope ["first", "second"] ["first", "second"] (defScope s_xor) := ⟨rfl, rfl, rfl, by decide +kernel, rfl, by decide +kernel, by decide +kernel⟩
theorem sc_parity : FnScope ["first", "second", "both"] ["first", "second"] (defScope s_parity) := ⟨rfl, rfl, rfl, by decide +kernel, rfl, by decide +kernel, by decide +kernel⟩
theorem sc_law_draws : FnScope ["script", "many", "rests", "draws", "k", "cell", "at", "mixed"] ["script", "many"] (defScope s_law_draws) := ⟨rfl, rfl, rfl, by decide +kernel, rfl, by decide +kernel, by decide +kernel⟩
theorem sc_law_take : FnScope ["hand", "many", "at", "draws"] ["hand", "many"] (defScope s_law_take) := ⟨rfl, rfl, rfl, by decide +kernel, rfl, by decide +kernel, by decide +kernel⟩
theorem sc_law_string : FnScope ["hand", "length", "k"] ["hand", "length"] (defScope s_law_string) := ⟨rfl, rfl, rfl, by decide +kernel, rfl, by decide +kernel, by decide +kernel⟩
theorem sc_law_bits : FnScope ["length", "number", "found", "k"] ["length", "number"] (defScope s_law_bits) := ⟨rfl, rfl, rfl, by decide +kernel, rfl, by decide +kernel, by decide +kernel⟩
theorem sc_law_is_string : FnScope ["found", "due"] ["found", "due"] (defScope s_law_is_string) := ⟨rfl, rfl, rfl, by decide +kernel, rfl, by decide +kernel, by decide +kernel⟩
theorem sc_law_is_number : FnScope ["found", "due"] ["found", "due"] (defScope s_law_is_number) := ⟨rfl, rfl, rfl, by decide +kernel, rfl, by decide +kernel, by decide +kernel⟩
theorem sc_law_pair_right : FnScope ["first", "second", "differ", "both", "k", "one", "other"] ["first", "second"] (defScope s_law_pair_right) := ⟨rfl, rfl, rfl, by decide +kernel, rfl, by decide +kernel, by decide +kernel⟩
theorem sc_law : FnScope ["script", "hand", "length", "first", "number", "sign", "second", "near", "step", "at", "other", "small", "value", "told"] ["script"] (defScope s_law) := ⟨rfl, rfl, rfl, by decide +kernel, rfl, by decide +kernel, by decide +kernel⟩
structure Txt (K : PySem.W.Frag) (mg : Str → Option Value) : Prop where
  n_abs : mg "abs" = none
  n_bool : mg "bool" = none
  n_int : mg "int" = none
  n_isinstance : mg "isinstance" = none
  n_len : mg "len" = none
  n_range : mg "range" = none
  n_str : mg "str" = none
/-! ### the promises -/
/-- the hand: a list of the draws' list and the number of the next draw -/
def Hnd (H : Hp) (a d : Addr) : Prop := ∃ (ds : List Int) (i : Nat), H a = some (.lst [.ref d, .int (i : Int)]) ∧ H d = some (.lst (ds.map V.int)) ∧ (∀ x ∈ ds, 0 ≤ x) ∧ d ≠ a
/-- all but the hand is as it was -/
def Keep (a : Addr) (H H' : Hp) : Prop := ∀ b o, H b = some o → b ≠ a → H' b = some o
theorem Keep.trans {a : Addr} {H H1 H2 : Hp} (h : Keep a H H1) (h' : Keep a H1 H2) : Keep a H H2 := fun b o e n => h' b o (h b o e n) n
theorem Keep.refl (a : Addr) (H : Hp) : Keep a H H := fun _ _ e _ => e
theorem Keep.new {a p : Addr} {H : Hp} {o : HO} (np : H p = none) : Keep a H (upd H p o) := fun b u e _ => by
  rw [upd_ne (ne_of_none e np)]
  exact e
theorem same_new {H : Hp} {p : Addr} {o : HO} (h : H p = none) : Same H (upd H p o) := fun b x e => by
  rw [upd_ne (ne_of_none e h)]
  exact e
theorem Hnd.same {H H' : Hp} {a d : Addr} (h : Hnd H a d) (s : Same H H') : Hnd H' a d := by
  obtain ⟨ds, i, h1, h2, h3, h4⟩ := h
  exact ⟨ds, i, s _ _ h1, s _ _ h2, h3, h4⟩
theorem Hnd.new {H : Hp} {a d p : Addr} {o : HO} (h : Hnd H a d) (np : H p = none) : Hnd (upd H p o) a d := h.same (same_new np)
theorem Hnd.some {H : Hp} {a d : Addr} (h : Hnd H a d) : ∃ o, H a = some o := by
  obtain ⟨ds, i, h1, _⟩ := h
  exact ⟨_, h1⟩
/-- what is new is neither the hand nor the draws -/
theorem Hnd.ne {H : Hp} {a d p : Addr} (h : Hnd H a d) (np : H p = none) : p ≠ a ∧ p ≠ d := by
  obtain ⟨ds, i, h1, h2, _⟩ := h
  exact ⟨(ne_of_none h1 np).symm, (ne_of_none h2 np).symm⟩
/-- an object beside the hand may change -/
theorem Hnd.set {H : Hp} {a d p : Addr} {o : HO} (h : Hnd H a d) (pa : p ≠ a) (pd : p ≠ d) : Hnd (upd H p o) a d := by
  obtain ⟨ds, i, h1, h2, h3, h4⟩ := h
  exact ⟨ds, i, by rw [upd_ne pa.symm]; exact h1, by rw [upd_ne pd.symm]; exact h2, h3, h4⟩
theorem Keep.same {a : Addr} {H H' : Hp} (s : Same H H') : Keep a H H' := fun b o e _ => s b o e
def spDraws (K : PySem.W.Frag) : Sp := fun vs H Q _ => ∃ (a : Addr) (ns : List Int) (many : Nat), vs = [.ref a, .int (many : Int)] ∧ SqL K H a (ns.map V.int) ∧ ns.length ≤ 63 ∧ many ≤ 5000 ∧
  ∀ (p : Addr) (ds : List Int) (H' : Hp), H p = none → Same H H' → H' p = some (.lst (ds.map V.int)) → (∀ x ∈ ds, (0 : Int) ≤ x) → Q (.ref p) H'
def spTake : Sp := fun vs H Q _ => ∃ (a d : Addr) (many : Int), vs = [.ref a, .int many] ∧ 0 < many ∧ Hnd H a d ∧ ∀ r H', 0 ≤ r → r < many → Hnd H' a d → Keep a H H' → Q (.int r) H'
def spString : Sp := fun vs H Q _ => ∃ (a d : Addr) (n : Nat), vs = [.ref a, .int (n : Int)] ∧ n ≤ 5000 ∧ Hnd H a d ∧ ∀ bs H', bs.length = n → Hnd H' a d → Keep a H H' → Q (.str (sb bs)) H'
def spBits : Sp := fun vs H Q _ => ∃ n k : Nat, vs = [.int (n : Int), .int (k : Int)] ∧ n ≤ 5000 ∧ k < 2 ^ n ∧ Q (.str (sb (toB n k))) H
def spNumber : Sp := fun vs H Q _ => ∃ bs : List Bool, vs = [.str (sb bs)] ∧ bs.length ≤ 640 ∧ Q (.int ((val bs : Nat) : Int)) H
def spXor : Sp := fun vs H Q _ => ∃ l m : List Bool, vs = [.str (sb l), .str (sb m)] ∧ l.length = m.length ∧ l.length ≤ 640 ∧ Q (.str (sb (List.zipWith (fun x y => x != y) l m))) H
def spParity : Sp := fun vs H Q _ => ∃ l m : List Bool, vs = [.str (sb l), .str (sb m)] ∧ l.length = m.length ∧ l.length ≤ 640 ∧ Q (.int ((((List.zipWith (fun x y => x && y) l m).count true : Nat) : Int) % 2)) H
def spIsS : Sp := fun vs H Q _ => ∃ x y : Str, vs = [.str x, .str y] ∧ Q (.bl (decide (x = y))) H
def spIsN : Sp := fun vs H Q _ => ∃ x y : Int, vs = [.int x, .int y] ∧ Q (.bl (decide (x = y))) H
def spPair : Sp := fun vs H Q _ => ∃ l m : List Bool, vs = [.str (sb l), .str (sb m)] ∧ l.length = m.length ∧ l.length ≤ 640 ∧ ∀ H', Same H H' → Q (.bl true) H'
def spLaw (K : PySem.W.Frag) : Sp := fun vs H Q _ => ∃ (a : Addr) (ns : List Int), vs = [.ref a] ∧ SqL K H a (ns.map V.int) ∧ ns.length ≤ 63 ∧ ∀ H', Q (.bl true) H'
/-- what was made anew may change: nothing that was there is it -/
theorem Keep.set {a p : Addr} {H H' : Hp} {o : HO} (h : Keep a H H') (np : H p = none) : Keep a H (upd H' p o) := fun b u e n => by
  rw [upd_ne (ne_of_none e np)]
  exact h b u e n
theorem Keep.free {a p : Addr} {H H' : Hp} (h : Keep a H H') (np : H' p = none) (pa : p ≠ a) : H p = none := by
  cases e : H p with
  | none => rfl
  | some o =>
    have := h p o e pa
    rw [np] at this
    cases this

def top_level : Nat := 4
section
variable {P : Program} {w : World} {K : PySem.W.Frag} {mg : Str → Option Value} {base : Heap}
theorem map_int_set (rs : List Int) (j : Nat) (x : Int) : (rs.map V.int).set j (.int x) = (rs.set j x).map V.int := by
  rw [List.map_set]
theorem at_int {rs : List Int} {j : Nat} {z : Int} (h : rs[j]? = some z) : atI (rs.map V.int) ((j : Nat) : Int) = some (.int z) := atI_nat (by
  rw [List.getElem?_map, h]
  rfl)
theorem ok_draws {f : Addr} {fd : FuncData} (D : Df K mg "_law_draws" s_law_draws ["script", "many"] f fd) (T : Txt K mg) : FnOk P w K mg base CX0 1 f fd ["script", "many"] (spDraws K) := by
  refine D.fn.ok sc_law_draws (fun vs H Q E h => ?_) (fun cdv A outer s H vs Q E hr h => ?_)
  · obtain ⟨a, ns, many, rfl, _⟩ := h
    rfl
  · obtain ⟨a, ns, many, rfl, hS, hl, hm, q⟩ := h
    refine ⟨_, (pss_cons (ps_setLc (i := 2) (own := [("cell", 5)]) (g := gName 5) (tt := tYes) rfl sc_law_draws.nd rfl rfl (sw_true rfl rfl rfl (by decide +kernel)) (pi_list (pv 0)) (blkOk_by (own := [("cell", 5)]) (N := ["script", "many", "rests", "draws", "k", "cell", "at", "mixed"]) (sc := defScope s_law_draws) (by decide +kernel)) (fun _ _ _ _ _ => (pg_name (i := 5) sc_law_draws.nd rfl (.inl rfl))) (fun _ _ _ _ _ => pts_nil) (fun _ _ _ _ _ => (pe_callB call_abs (by rfl) T.n_abs (by decide +kernel) (pa_cons (pe_callTy call_int1 (by rfl) T.n_int (by decide +kernel) (pa_cons (pv 5) pa_nil)) pa_nil)))) (pss_cons (ps_set (i := 3) sc_law_draws.nd rfl (.inl rfl) (pe_lst pa_nil)) (pss_cons (ps_for PassesOwn.never rfl (pi_range1 (by rfl) T.n_range (pa_cons (pv 1) pa_nil)) (pg_name (i := 4) sc_law_draws.nd rfl (.inl rfl)) (pss_cons (ps_set (i := 5) sc_law_draws.nd rfl (.inl rfl) (pv 4)) (C8.pss_cut (ps_if (pt_cmpR op_gt (pe_callB (lenS K) (by rfl) T.n_len (by decide +kernel) (pa_cons (pv 0) pa_nil)) pe_int (nomark _)) (pss_cons (ps_set (i := 6) sc_law_draws.nd rfl (.inl rfl) (pe_op op_mod (pv 4) (pe_callB (lenS K) (by rfl) T.n_len (by decide +kernel) (pa_cons (pv 0) pa_nil)))) (pss_cons (ps_set (i := 5) sc_law_draws.nd rfl (.inl rfl) (pe_callTy call_int1 (by rfl) T.n_int (by decide +kernel) (pa_cons (pe_ix (ixL K) (pv 0) (pv 6) (fun _ _ => rfl)) pa_nil))) (pss_one (ps_if (PW.pt (pw_and (pt_cmpR op_ge (pv 5) (pe_op op_pow pe_int pe_int) (nomark _)) (pw_and1 (pt_cmpR op_gt (pe_ix (ixL K) (pv 2) (pv 6) (fun _ _ => rfl)) pe_int (nomark _))))) (pss_cons (ps_expr (pe_bm PySem.F.plainAttrs_list PySem.F.slot_list_append PySem.F.type_list_append mt_append (pv 3) (pa_cons (pe_op op_mod (pe_callTy call_int1 (by rfl) T.n_int (by decide +kernel) (pa_cons (pe_ix (ixL K) (pv 2) (pv 6) (fun _ _ => rfl)) pa_nil)) pe_int) pa_nil))) (pss_cons (ps_asg (pe_op op_fdiv (pe_callTy call_int1 (by rfl) T.n_int (by decide +kernel) (pa_cons (pe_ix (ixL K) (pv 2) (pv 6) (fun _ _ => rfl)) pa_nil)) pe_int) (pg_sub (pv 2) (pv 6) set_list)) (pss_one ps_continue))) pss_nil)))) pss_nil) (pss_cons (ps_set (i := 7) sc_law_draws.nd rfl (.inl rfl) (pe_op op_mod (pe_callTy call_int1 (by rfl) T.n_int (by decide +kernel) (pa_cons (pe_op op_add (pe_op op_add (pe_op op_mul (pv 5) pe_int) (pe_op op_mul (pv 4) pe_int)) pe_int) pa_nil)) pe_int)) (pss_cons (ps_set (i := 7) sc_law_draws.nd rfl (.inl rfl) (pe_op op_mod (pe_callTy call_int1 (by rfl) T.n_int (by decide +kernel) (pa_cons (pe_op op_add (pe_op op_fdiv (pe_op op_mul (pv 7) (pv 7)) pe_int) (pv 7)) pa_nil)) pe_int)) (pss_one (ps_expr (pe_bm PySem.F.plainAttrs_list PySem.F.slot_list_append PySem.F.type_list_append mt_append (pv 3) (pa_cons (pe_op op_mod (pe_callTy call_int1 (by rfl) T.n_int (by decide +kernel) (pa_cons (pe_op op_add (pe_op op_fdiv (pe_op op_mul (pv 7) (pv 7)) pe_int) (pe_op op_mul (pv 4) pe_int)) pa_nil)) pe_int) pa_nil))))))))) (pss_one (ps_ret (pv 3)))))), ?_⟩
    -- rests
    refine ⟨_, rfl, a, rfl, ⟨_, hS⟩, fun R hR => ?_⟩
    refine lc_list (xs := ns.map V.int) (fun i H' => ∃ rs : List Int, rs.length = i ∧ (∀ x ∈ rs, 0 ≤ x) ∧ Same H H' ∧ H' R = some (.lst (rs.map V.int))) ?_ ?_ ?_ ?_
    · exact ⟨[], rfl, fun x hx => (nomatch hx), same_new hR, upd_same⟩
    · rintro i H' _ ⟨rs, _, _, hs, _⟩
      exact hs.seq hS
    · rintro i x H' hx ⟨rs, hn, h0, hs, hr'⟩
      obtain ⟨z, hz⟩ : ∃ z, x = V.int z := by
        rw [List.getElem?_map] at hx
        cases e : ns[i]? with
        | none =>
          rw [e] at hx
          cases hx
        | some z =>
          rw [e] at hx
          exact ⟨z, (Option.some.inj hx).symm⟩
      subst hz
      have hi : i < ns.length := by
        have := (List.getElem?_eq_some_iff.mp hx).1
        rw [List.length_map] at this
        exact this
      refine ⟨rfl, ?_⟩
      refine ⟨_, rfl, .inl ⟨_, rfl, _, rfl, _, hr', ?_, ?_⟩⟩
      · rw [List.length_map]
        exact small1000 (by omega)
      · refine ⟨rs ++ [if z < 0 then -z else z], by rw [List.length_append, hn]; rfl, ?_, ?_, ?_⟩
        · intro y hy
          rcases List.mem_append.mp hy with hy | hy
          · exact h0 y hy
          · rw [List.mem_singleton.mp hy]
            split <;> omega
        · intro b o e
          rw [upd_ne (ne_of_none e hR)]
          exact hs b o e
        · rw [upd_same, List.map_append]
          rfl
    · rintro H1 ⟨rs, hn, h0, s1, e1⟩
      rw [List.length_map] at hn
      -- draws = []
      refine ⟨Nat.zero_le _, fun L hL => ?_⟩
      have nRL : R ≠ L := ne_of_none e1 hL
      have hL0 : H L = none := s1.free hL
      -- the loop
      refine ⟨_, rfl, _, rfl, by omega, by omega, for_range (lo := 0) (n := many) (fun i σ H' => ∃ (rs ds : List Int) (y4 y5 y6 y7 : Option V), σ = [some (.ref a), some (.int (many : Int)), some (.ref R), some (.ref L), y4, y5, y6, y7] ∧
        rs.length = ns.length ∧ (∀ x ∈ rs, 0 ≤ x) ∧ ds.length = i ∧ (∀ x ∈ ds, 0 ≤ x) ∧ Same H H' ∧ H' R = some (.lst (rs.map V.int)) ∧ H' L = some (.lst (ds.map V.int))) ?_ ?_ ?_⟩
      · refine ⟨rs, [], none, none, none, none, rfl, hn, h0, rfl, fun x hx => (nomatch hx), s1.trans (same_new hL), ?_, upd_same⟩
        rw [upd_ne nRL]
        exact e1
      · clear e1 hn h0 rs s1 hL
        rintro i σ H' hi ⟨rs, ds, y4, y5, y6, y7, rfl, hn, h0, hd, hd0, s1, e1, e2⟩
        have hSL : SqL K H' a (ns.map V.int) := s1.seq hS
        -- what the rest of the turn asks: a number is put behind the draws
        have put : ∀ (x : Int) (σ' : L2.St) (H2 : Hp) (rs' : List Int), 0 ≤ x → rs'.length = ns.length → (∀ x ∈ rs', 0 ≤ x) → Same H H2 → H2 R = some (.lst (rs'.map V.int)) → H2 L = some (.lst ((ds ++ [x]).map V.int)) →
            (∃ y4 y5 y6 y7 : Option V, σ' = [some (.ref a), some (.int (many : Int)), some (.ref R), some (.ref L), y4, y5, y6, y7]) →
            (fun (i : Nat) (σ : L2.St) (H' : Hp) => ∃ (rs ds : List Int) (y4 y5 y6 y7 : Option V), σ = [some (.ref a), some (.int (many : Int)), some (.ref R), some (.ref L), y4, y5, y6, y7] ∧
              rs.length = ns.length ∧ (∀ x ∈ rs, 0 ≤ x) ∧ ds.length = i ∧ (∀ x ∈ ds, 0 ≤ x) ∧ Same H H' ∧ H' R = some (.lst (rs.map V.int)) ∧ H' L = some (.lst (ds.map V.int))) (i + 1) σ' H2 := by
          rintro x σ' H2 rs' hx g1 g2 g3 g4 g5 ⟨z4, z5, z6, z7, rfl⟩
          refine ⟨rs', ds ++ [x], z4, z5, z6, z7, rfl, g1, g2, by rw [List.length_append, hd]; rfl, ?_, g3, g4, g5⟩
          intro y hy
          rcases List.mem_append.mp hy with hy | hy
          · exact hd0 y hy
          · rw [List.mem_singleton.mp hy]
            exact hx
        have app : ∀ (x : Int), upd H' L (.lst (ds.map V.int ++ [.int x])) R = some (.lst (rs.map V.int)) ∧ Same H (upd H' L (.lst (ds.map V.int ++ [.int x]))) ∧ upd H' L (.lst (ds.map V.int ++ [.int x])) L = some (.lst ((ds ++ [x]).map V.int)) := by
          intro x
          refine ⟨by rw [upd_ne nRL]; exact e1, fun b u e => ?_, ?_⟩
          · rw [upd_ne (ne_of_none e hL0)]
            exact s1 b u e
          · rw [upd_same, List.map_append]
            rfl
        have hsz : (ds.map V.int).length < sizeLine := by
          rw [List.length_map]
          exact Nat.lt_of_lt_of_le (show ds.length < 10000 by omega) (by decide)
        -- cell = k
        refine ⟨_, rfl, ?_⟩
        refine ⟨fun σ2 H2 => H2 = H' ∧ ∃ (c : Int) (y6 : Option V), σ2 = [some (.ref a), some (.int (many : Int)), some (.ref R), some (.ref L), some (.int (0 + (i : Int))), some (.int c), y6, y7], ?_, ?_⟩
        · -- if len(script) > 0
          refine ⟨_, rfl, a, _, rfl, .inl hSL, _, _, rfl, rfl, _, rfl, ite2 (fun c => ?_) (fun c => ?_)⟩
          · have hp : 0 < ns.length := by
              have c' : (0 : Int) < (((ns.map V.int).length : Nat) : Int) := of_decide_eq_true c
              rw [List.length_map] at c'
              omega
            -- at = k % len(script)
            refine ⟨_, rfl, _, rfl, a, _, rfl, .inl hSL, _, _, rfl, rfl, ?_, ?_⟩
            · rw [List.length_map]
              omega
            · obtain ⟨j, hj, hjl⟩ : ∃ j : Nat, (0 + (i : Int)) % (((ns.map V.int).length : Nat) : Int) = (j : Int) ∧ j < ns.length := by
                rw [List.length_map]
                have h1 := Int.emod_nonneg (0 + (i : Int)) (b := (ns.length : Int)) (by omega)
                have h2 := Int.emod_lt_of_pos (0 + (i : Int)) (b := (ns.length : Int)) (by omega)
                exact ⟨((0 + (i : Int)) % (ns.length : Int)).toNat, by omega, by omega⟩
              show gName 6 (V.int ((0 + (i : Int)) % (((ns.map V.int).length : Nat) : Int))) _ _ _
              rw [hj]
              have hx : (ns.map V.int)[j]? = some (.int ns[j]) := by
                rw [List.getElem?_map, List.getElem?_eq_getElem hjl]
                rfl
              have hjr : j < rs.length := by omega
              have hy : (rs.map V.int)[j]? = some (.int rs[j]) := by
                rw [List.getElem?_map, List.getElem?_eq_getElem hjr]
                rfl
              -- cell = int(script[at])
              refine ⟨_, rfl, _, rfl, a, _, (j : Int), _, rfl, rfl, hSL, atI_nat hx, .inl ⟨_, rfl, ?_⟩⟩
              -- if cell >= 10 ** 18 and rests[at] > 0
              refine ⟨_, rfl, _, _, rfl, rfl, ⟨by decide, by decide, by decide⟩, _, _, rfl, rfl, _, rfl, ite2 (fun c => ?_) (fun c => ?_)⟩
              · refine ⟨_, rfl, _, rfl, R, _, (j : Int), _, rfl, rfl, .inl (.inl e1), atI_nat hy, _, _, rfl, rfl, _, rfl, ite2 (fun c => ?_) (fun c => ?_)⟩
                · have hr0 : 0 ≤ rs[j] := h0 _ (List.getElem_mem hjr)
                  -- draws.append(int(rests[at]) % 1000003)
                  refine ⟨_, rfl, .inl ⟨rfl, _, .inl (.inl e2)⟩, _, rfl, _, rfl, R, _, (j : Int), _, rfl, rfl, .inl (.inl e1), atI_nat hy, .inl ⟨_, rfl, _, _, rfl, rfl, (by show (0 : Int) < 1000003; decide), L, _, _, rfl, rfl, e2, hsz, ?_⟩⟩
                  obtain ⟨p1, p2, p3⟩ := app (rs[j] % 1000003)
                  -- rests[at] = int(rests[at]) // 1000003
                  refine ⟨_, rfl, _, rfl, R, _, (j : Int), _, rfl, rfl, .inl (.inl p1), atI_nat hy, .inl ⟨_, rfl, _, _, rfl, rfl, ⟨by decide, by decide⟩, _, rfl, _, rfl, R, _, (j : Int), j, rfl, rfl, p1, ?_, ?_⟩⟩
                  · unfold ixN
                    rw [if_pos (by omega), if_pos (by rw [List.length_map]; omega)]
                    rfl
                  · refine put (rs[j] % 1000003) _ _ (rs.set j (rs[j] / 1000003)) (by omega) (by rw [List.length_set]; exact hn) ?_ ?_ ?_ ?_ ⟨_, _, _, _, rfl⟩
                    · intro y hy'
                      rcases List.mem_or_eq_of_mem_set hy' with z | z
                      · exact h0 y z
                      · rw [z]
                        omega
                    · intro b u e
                      rw [upd_ne (ne_of_none e hR)]
                      exact p2 b u e
                    · rw [upd_same, List.map_set]
                    · rw [upd_ne nRL.symm]
                      exact p3
                · exact ⟨rfl, _, _, rfl⟩
              · exact ⟨rfl, _, _, rfl⟩
          · exact ⟨rfl, _, _, rfl⟩
        · rintro σ2 H2 ⟨rfl, c, z6, rfl⟩
          -- mixed, twice
          refine ⟨_, rfl, _, _, rfl, rfl, .inr ⟨by decide, by decide⟩, _, rfl, _, _, rfl, rfl, .inr ⟨by decide, by decide⟩, _, _, rfl, rfl, _, _, rfl, rfl, .inl ⟨_, rfl, _, _, rfl, rfl, (by show (0 : Int) < 2147483647; decide), ?_⟩⟩
          refine ⟨_, rfl, _, rfl, _, _, rfl, rfl, .inl ⟨?_, ?_⟩, _, _, rfl, rfl, ⟨by decide, by decide⟩, _, rfl, _, _, rfl, rfl, .inl ⟨_, rfl, _, _, rfl, rfl, (by show (0 : Int) < 2147483629; decide), ?_⟩⟩
          · omega
          · omega
          -- draws.append
          refine ⟨_, rfl, .inl ⟨rfl, _, .inl (.inl e2)⟩, _, rfl, _, rfl, _, _, rfl, rfl, .inl ⟨?_, ?_⟩, _, _, rfl, rfl, ⟨by decide, by decide⟩, _, rfl, _, _, rfl, rfl, .inr ⟨by decide, by decide⟩, _, _, rfl, rfl, .inl ⟨_, rfl, _, _, rfl, rfl, (by show (0 : Int) < 2147483629; decide), L, _, _, rfl, rfl, e2, hsz, ?_⟩⟩
          · omega
          · omega
          refine put _ _ _ rs ?_ hn h0 (app _).2.1 (app _).1 (app _).2.2 ⟨_, _, _, _, rfl⟩
          exact Int.emod_nonneg _ (by decide)
      · rintro σ H2 ⟨rs, ds, y4, y5, y6, y7, rfl, hn, h0, hd, hd0, s2, e1, e2⟩
        exact ⟨_, rfl, q L ds H2 hL0 s2 e2 hd0⟩

theorem ok_take {f : Addr} {fd : FuncData} (D : Df K mg "_law_take" s_law_take ["hand", "many"] f fd) (T : Txt K mg) : FnOk P w K mg base CX0 1 f fd ["hand", "many"] spTake := by
  refine D.fn.ok sc_law_take (fun vs H Q E h => ?_) (fun cdv A outer s H vs Q E hr h => ?_)
  · obtain ⟨a, d, many, rfl, _⟩ := h
    rfl
  · obtain ⟨a, d, many, rfl, hm, ⟨ds, i, h1, h2, h3, h4⟩, q⟩ := h
    refine ⟨_, (pss_cons (ps_set (i := 2) sc_law_take.nd rfl (.inl rfl) (pe_ix (ixL K) (pv 0) pe_int (fun _ _ => rfl))) (pss_cons (ps_asg (pe_op op_add (pv 2) pe_int) (pg_sub (pv 0) pe_int set_list)) (pss_cons (ps_set (i := 3) sc_law_take.nd rfl (.inl rfl) (pe_ix (ixL K) (pv 0) pe_int (fun _ _ => rfl))) (pss_cons (ps_if (pt_cmpR op_ge (pv 2) (pe_callB (lenS K) (by rfl) T.n_len (by decide +kernel) (pa_cons (pv 3) pa_nil)) (nomark _)) (pss_one (ps_ret pe_int)) pss_nil) (pss_one (ps_ret (pe_op op_mod (pe_op op_fdiv (pe_callTy call_int1 (by rfl) T.n_int (by decide +kernel) (pa_cons (pe_ix (ixL K) (pv 3) (pv 2) (fun _ _ => rfl)) pa_nil)) pe_int) (pv 1)))))))), ?_⟩
    have s1 : Same H H := Same.refl H
    -- at = hand[1]
    refine ⟨_, rfl, a, _, 1, .int (i : Int), rfl, rfl, .inl (.inl h1), rfl, ?_⟩
    -- hand[1] = at + 1
    refine ⟨_, rfl, _, _, rfl, rfl, _, rfl, a, _, 1, 1, rfl, rfl, h1, rfl, ?_⟩
    -- draws = hand[0]
    refine ⟨_, rfl, a, _, 0, .ref d, rfl, rfl, .inl (.inl upd_same), rfl, ?_⟩
    have hd : (upd H a (.lst [.ref d, .int ((i : Int) + 1)])) d = some (.lst (ds.map V.int)) := by
      rw [upd_ne h4]
      exact h2
    have hn : Hnd (upd H a (.lst [.ref d, .int ((i : Int) + 1)])) a d := ⟨ds, i + 1, upd_same, hd, h3, h4⟩
    have hk : Keep a H (upd H a (.lst [.ref d, .int ((i : Int) + 1)])) := fun b o e n => by
      rw [upd_ne n]
      exact e
    -- at >= len(draws)
    refine ⟨_, rfl, _, rfl, d, _, rfl, .inl (.inl (.inl hd)), _, _, rfl, rfl, _, rfl, ite2 (fun c => ?_) (fun c => ?_)⟩
    · exact q 0 _ (Int.le_refl 0) hm hn hk
    · have hi : i < ds.length := by
        have c' : ¬ (((ds.map V.int).length : Int) ≤ (i : Int)) := fun z => c (decide_eq_true z)
        rw [List.length_map] at c'
        omega
      have hx : (ds.map V.int)[i]? = some (.int ds[i]) := by
        rw [List.getElem?_map, List.getElem?_eq_getElem hi]
        rfl
      have h0 := h3 ds[i] (List.getElem_mem hi)
      refine ⟨_, rfl, _, rfl, d, _, (i : Int), .int ds[i], rfl, rfl, .inl (.inl hd), atI_nat hx, .inl ⟨_, rfl, ?_⟩⟩
      refine ⟨_, _, rfl, rfl, ⟨by decide, by decide⟩, _, rfl, _, _, rfl, rfl, hm, ?_⟩
      exact q _ _ (Int.emod_nonneg _ (by omega)) (Int.emod_lt_of_pos _ hm) hn hk

theorem join_bits (bs : List Bool) : Txt.join "" (bs.map fun b => sb [b]) = sb bs := by
  have e : bs.map (fun b => sb [b]) = (bs.map fun b => [cB b]).map SX.S := by
    rw [List.map_map]
    rfl
  have j : ∀ ps : List (List Nat), TL.joinL [] ps = ps.flatten := by
    intro ps
    induction ps with
    | nil => rfl
    | cons x r ih =>
      cases r with
      | nil => exact (List.append_nil x).symm
      | cons y r =>
        show x ++ ([] ++ TL.joinL [] (y :: r)) = x ++ (y :: r).flatten
        rw [ih, List.nil_append]
  rw [e]
  refine (SX.join_S [] _).trans ?_
  rw [j]
  unfold sb
  congr 1
  clear e j
  induction bs with
  | nil => rfl
  | cons b bs ih =>
    rw [List.map_cons, List.flatten_cons, ih]
    rfl
theorem ok_string {f : Addr} {fd : FuncData} (D : Df K mg "_law_string" s_law_string ["hand", "length"] f fd) (T : Txt K mg) (c_law_take : Cl P w K mg base CX0 1 "_law_take" spTake) : FnOk P w K mg base CX0 2 f fd ["hand", "length"] spString := by
  refine D.fn.ok sc_law_string (fun vs H Q E h => ?_) (fun cdv A outer s H vs Q E hr h => ?_)
  · obtain ⟨a, d, n, rfl, _⟩ := h
    rfl
  · obtain ⟨a, d, n, rfl, hn, hh, q⟩ := h
    refine ⟨_, (pss_one (ps_ret (pe_m1 PySem.F.slot_str_join PySem.F.type_str_join (mtJoin K) pe_str (pe_lc (own := [("k", 2)]) (g := gName 2) (tt := tYes) rfl sc_law_string.nd (pi_range1 (by rfl) T.n_range (pa_cons (pv 1) pa_nil)) (blkOk_by (own := [("k", 2)]) (N := ["hand", "length", "k"]) (sc := defScope s_law_string) (by decide +kernel)) (fun _ _ _ _ _ => (pg_name (i := 2) sc_law_string.nd rfl (.inl rfl))) (fun _ _ _ _ _ => pts_nil) (fun _ _ _ _ _ => (pe_ix (ixL K) (pe_lst (pa_cons pe_str (pa_cons pe_str pa_nil))) (pe_cl c_law_take hr (by decide) (by rfl) (pa_cons (pv 0) (pa_cons pe_int pa_nil))) (fun _ _ => rfl))))))), ?_⟩
    refine ⟨⟨_, rfl⟩, _, rfl, _, rfl, by omega, by omega, fun Dl hD => ?_⟩
    obtain ⟨nDa, nDd⟩ := hh.ne hD
    refine lc_range (lo := 0) (n := n) (fun i H' => ∃ bs : List Bool, bs.length = i ∧ Hnd H' a d ∧ Keep a H H' ∧ H' Dl = some (.lst (bs.map fun b => V.str (sb [b])))) ?_ ?_ ?_
    · exact ⟨[], rfl, hh.new hD, Keep.new hD, upd_same⟩
    · rintro i H' hi ⟨bs, hl, h1, h2, h3⟩
      refine ⟨rfl, ?_⟩
      -- the list ['0', '1'], then the draw
      refine ⟨by decide, fun p np => ?_⟩
      obtain ⟨npa, npd⟩ := h1.ne np
      refine ⟨_, rfl, a, d, 2, rfl, by decide, h1.new np, fun r H2 hr0 hr2 hh2 hk2 => ?_⟩
      have e2 : H2 Dl = some (.lst (bs.map fun b => V.str (sb [b]))) := hk2 _ _ (by rw [upd_ne (ne_of_none h3 np)]; exact h3) nDa
      have hb : ∃ b : Bool, atI [V.str "0", V.str "1"] r = some (V.str (sb [b])) := by
        have er : r = 0 ∨ r = 1 := by omega
        rcases er with e | e <;> subst e
        · exact ⟨false, rfl⟩
        · exact ⟨true, rfl⟩
      obtain ⟨b, hb⟩ := hb
      refine ⟨p, _, r, _, rfl, rfl, .inl (.inl (hk2 _ _ upd_same npa)), hb, _, e2, ?_, ?_⟩
      · rw [List.length_map]
        exact Nat.lt_of_lt_of_le (show bs.length < 10000 by omega) (by decide)
      · refine ⟨bs ++ [b], by rw [List.length_append, hl]; rfl, hh2.set nDa nDd, ((h2.trans (Keep.new np)).trans hk2).set hD, ?_⟩
        rw [upd_same, List.map_append]
        rfl
    · rintro H' ⟨bs, hl, h1, h2, h3⟩
      refine ⟨_, Dl, bs.map (fun b => sb [b]), rfl, rfl, .inl (.inl (.inl (by rw [List.map_map]; exact h3))), ?_, ?_⟩
      · have e : ((bs.map fun b => sb [b]).map (·.length)).sum = bs.length := by
          rw [List.map_map]
          clear h3 hl
          induction bs with
          | nil => rfl
          | cons b bs ih =>
            rw [List.map_cons, List.sum_cons, ih, List.length_cons]
            show 1 + _ = _
            omega
        rw [e]
        show _ + _ * 0 ≤ _
        omega
      · rw [join_bits]
        exact q bs H' hl h1 h2

theorem dig_len {n k : Nat} (h : k < 2 ^ (n + 1)) : (dig k).length ≤ n + 1 := by
  obtain ⟨p, e⟩ := dig_toB n k h
  have := congrArg List.length e
  rw [List.length_map, toB_len, List.length_append, List.length_replicate] at this
  omega
theorem ok_bits {f : Addr} {fd : FuncData} (D : Df K mg "bits" s_bits ["length", "number"] f fd) (T : Txt K mg) : FnOk P w K mg base CX0 1 f fd ["length", "number"] spBits := by
  refine D.fn.ok sc_bits (fun vs H Q E h => ?_) (fun cdv A outer s H vs Q E hr h => ?_)
  · obtain ⟨n, k, rfl, _⟩ := h
    rfl
  · obtain ⟨n, k, rfl, hn, hk, q⟩ := h
    refine ⟨_, (pss_cons (ps_if (pt_cmpR op_eq (pv 0) pe_int (nomark _)) (pss_one (ps_ret pe_str)) pss_nil) (pss_one (ps_ret (pe_m1 PySem.F.slot_str_zfill PySem.F.type_str_zfill mt_zfill (pe_fmtB (pv 1)) (pv 0))))), ?_⟩
    refine ⟨_, rfl, rfl, _, rfl, ite2 (fun c => ?_) (fun c => ?_)⟩
    · have e : (n : Int) = 0 := V.int.inj (of_decide_eq_true c)
      have e : n = 0 := by omega
      subst e
      exact q
    · obtain ⟨m, rfl⟩ : ∃ m, n = m + 1 := by
        cases n with
        | zero => exact absurd (decide_eq_true rfl) c
        | succ m => exact ⟨m, rfl⟩
      refine ⟨_, rfl, k, rfl, ?_, ⟨_, rfl⟩, _, rfl, _, _, rfl, rfl, padOk_of (by omega) (by omega), ?_⟩
      · have := dig_len hk
        omega
      · rw [zfill_dig m k hk]
        exact q

theorem num_val (bs : List Bool) : Two.num (bs.map cB) = val bs := by
  unfold Two.num val
  rw [List.foldl_map]
  congr 1
  funext a b
  cases b
  · show a * 2 + 0 = 2 * a + 0
    omega
  · show a * 2 + 1 = 2 * a + 1
    omega
theorem ok_number {f : Addr} {fd : FuncData} (D : Df K mg "number_of" s_number_of ["string"] f fd) (T : Txt K mg) : FnOk P w K mg base CX0 1 f fd ["string"] spNumber := by
  refine D.fn.ok sc_number_of (fun vs H Q E h => ?_) (fun cdv A outer s H vs Q E hr h => ?_)
  · obtain ⟨bs, rfl, _⟩ := h
    rfl
  · obtain ⟨bs, rfl, hl, q⟩ := h
    refine ⟨_, (pss_cons (ps_if (pt_cmpR op_eq (pv 0) pe_str (nomark _)) (pss_one (ps_ret pe_int)) pss_nil) (pss_one (ps_ret (pe_callTy call_int_bin (by rfl) T.n_int (by decide +kernel) (pa_cons (pv 0) (pa_cons pe_int pa_nil)))))), ?_⟩
    refine ⟨_, rfl, rfl, _, rfl, ite2 (fun c => ?_) (fun c => ?_)⟩
    · have e : sb bs = sb [] := V.str.inj (of_decide_eq_true c)
      have e := sb_inj e
      subst e
      exact q
    · refine ⟨_, rfl, bs.map cB, rfl, ⟨?_, ?_, ?_⟩, ?_⟩
      · intro z
        have e : bs = [] := List.map_eq_nil_iff.mp z
        subst e
        exact c (decide_eq_true rfl)
      · rw [List.length_map]
        exact hl
      · intro x hx
        obtain ⟨b, _, rfl⟩ := List.mem_map.mp hx
        cases b
        · exact .inl rfl
        · exact .inr rfl
      · rw [num_val]
        exact q

theorem sb_size {bs : List Bool} (h : bs.length ≤ 16777216) : (sb bs).length ≤ sizeLine := by
  rw [sb_len, sizeLine_eq]
  exact h
theorem xor_nat (a b : Nat) : Builtin.bitXor (a : Int) (b : Int) = ((a ^^^ b : Nat) : Int) := by
  rw [Bits.bitXor_pp (by omega) (by omega)]
  rfl
theorem val_lt' {l m : List Bool} (h : l.length = m.length) : val m < 2 ^ l.length := by
  rw [h]
  exact val_lt m

theorem ok_xor {f : Addr} {fd : FuncData} (D : Df K mg "xor" s_xor ["first", "second"] f fd) (T : Txt K mg) (c_bits : Cl P w K mg base CX0 1 "bits" spBits) (c_number_of : Cl P w K mg base CX0 1 "number_of" spNumber) : FnOk P w K mg base CX0 2 f fd ["first", "second"] spXor := by
  refine D.fn.ok sc_xor (fun vs H Q E h => ?_) (fun cdv A outer s H vs Q E hr h => ?_)
  · obtain ⟨l, m, rfl, _⟩ := h
    rfl
  · obtain ⟨l, m, rfl, he, hl, q⟩ := h
    refine ⟨_, (pss_one (ps_ret (pe_cl c_bits hr (by decide) (by rfl) (pa_cons (pe_callB call_len_str (by rfl) T.n_len (by decide +kernel) (pa_cons (pv 0) pa_nil)) (pa_cons (pe_op op_xor (pe_cl c_number_of hr (by decide) (by rfl) (pa_cons (pv 0) pa_nil)) (pe_cl c_number_of hr (by decide) (by rfl) (pa_cons (pv 1) pa_nil))) pa_nil))))), ?_⟩
    refine ⟨_, rfl, _, rfl, sb_size (by omega), _, rfl, l, rfl, hl, _, rfl, m, rfl, by omega, _, _, rfl, rfl, l.length, val l ^^^ val m, ?_, by omega, Nat.xor_lt_two_pow (val_lt l) (val_lt' he), ?_⟩
    · show [V.int _, V.int (Builtin.bitXor ((val l : Nat) : Int) ((val m : Nat) : Int))] = _
      rw [sb_len, xor_nat]
    · rw [toB_xor, toB_val l, he, toB_val m]
      exact q

theorem chain_count (x : Str) (c : Nat) : ∀ (cuts : List Nat) (a f : Nat), PySem.StrLaws.ChainG x ⟨#[c]⟩ x.length a cuts f → (∀ k, f ≤ k → ¬ PySem.StrLaws.At x ⟨#[c]⟩ x.length k) → (x.cps.toList.drop a).count c = cuts.length
  | [], a, f, h, hn => by
    have e : f = a := h
    subst e
    refine List.count_eq_zero.mpr fun hm => ?_
    obtain ⟨j, hj⟩ := List.getElem?_of_mem hm
    rw [List.getElem?_drop] at hj
    exact hn (f + j) (by omega) ((PySem.StrLaws.subAt_one x c (f + j)).mpr hj)
  | i :: r, a, f, h, hn => by
    obtain ⟨h1, h2, h3, h4⟩ := h
    have ih := chain_count x c r (i + 1) f h4 hn
    have hi : x.cps.toList[i]? = some c := (PySem.StrLaws.subAt_one x c i).mp h2
    have e1 : x.cps.toList.drop a = (x.cps.toList.drop a).take (i - a) ++ c :: x.cps.toList.drop (i + 1) := by
      have hlt : i < x.cps.toList.length := (List.getElem?_eq_some_iff.mp hi).1
      have hc : x.cps.toList[i] = c := (List.getElem?_eq_some_iff.mp hi).2
      have e2 : x.cps.toList.drop i = c :: x.cps.toList.drop (i + 1) := by
        rw [List.drop_eq_getElem_cons hlt, hc]
      rw [← e2]
      have e3 : x.cps.toList.drop i = (x.cps.toList.drop a).drop (i - a) := by
        rw [List.drop_drop]
        congr 1
        omega
      rw [e3, List.take_append_drop]
    have e4 : ((x.cps.toList.drop a).take (i - a)).count c = 0 := List.count_eq_zero.mpr fun hm => by
      obtain ⟨j, hj⟩ := List.getElem?_of_mem hm
      have hjl : j < i - a := by
        have := (List.getElem?_eq_some_iff.mp hj).1
        rw [List.length_take] at this
        omega
      rw [List.getElem?_take_of_lt hjl, List.getElem?_drop] at hj
      exact h3 (a + j) (by omega) (by omega) ((PySem.StrLaws.subAt_one x c (a + j)).mpr hj)
    rw [e1, List.count_append, e4, List.count_cons_self, ih, Nat.zero_add]
    rfl
theorem count_sign (x : Str) (c : Nat) : Txt.count x ⟨#[c]⟩ = ((x.cps.toList.count c : Nat) : Int) := by
  obtain ⟨f, hG, hn⟩ := PySem.StrLaws.occ_tight x ⟨#[c]⟩ (Nat.le_refl 1)
  have h := chain_count x c _ 0 f hG hn
  rw [List.drop_zero] at h
  unfold Txt.count
  rw [h]
theorem count_bits (bs : List Bool) : Txt.count (sb bs) "1" = ((bs.count true : Nat) : Int) := by
  refine (count_sign (sb bs) 49).trans ?_
  congr 1
  show (bs.map cB).count 49 = _
  induction bs with
  | nil => rfl
  | cons b bs ih =>
    rw [List.map_cons, List.count_cons, List.count_cons, ih]
    cases b <;> rfl
theorem ok_parity {f : Addr} {fd : FuncData} (D : Df K mg "parity" s_parity ["first", "second"] f fd) (T : Txt K mg) (c_bits : Cl P w K mg base CX0 1 "bits" spBits) (c_number_of : Cl P w K mg base CX0 1 "number_of" spNumber) : FnOk P w K mg base CX0 2 f fd ["first", "second"] spParity := by
  refine D.fn.ok sc_parity (fun vs H Q E h => ?_) (fun cdv A outer s H vs Q E hr h => ?_)
  · obtain ⟨l, m, rfl, _⟩ := h
    rfl
  · obtain ⟨l, m, rfl, he, hl, q⟩ := h
    refine ⟨_, (pss_cons (ps_set (i := 2) sc_parity.nd rfl (.inl rfl) (pe_cl c_bits hr (by decide) (by rfl) (pa_cons (pe_callB call_len_str (by rfl) T.n_len (by decide +kernel) (pa_cons (pv 0) pa_nil)) (pa_cons (pe_op op_and (pe_cl c_number_of hr (by decide) (by rfl) (pa_cons (pv 0) pa_nil)) (pe_cl c_number_of hr (by decide) (by rfl) (pa_cons (pv 1) pa_nil))) pa_nil)))) (pss_one (ps_ret (pe_op op_mod (pe_m1 PySem.F.slot_str_count PySem.F.type_str_count mt_count (pv 2) pe_str) pe_int)))), ?_⟩
    refine ⟨_, rfl, _, rfl, sb_size (by omega), _, rfl, l, rfl, hl, _, rfl, m, rfl, by omega, _, _, rfl, rfl, l.length, val l &&& val m, ?_, by omega, Nat.lt_of_le_of_lt Nat.and_le_left (val_lt l), ?_⟩
    · rw [sb_len]
      rfl
    · refine ⟨_, rfl, ⟨_, rfl⟩, _, _, rfl, rfl, _, _, rfl, rfl, (by show (0 : Int) < 2; decide), ?_⟩
      rw [toB_and, toB_val l, he, toB_val m, count_bits]
      exact q

theorem str_bit (k : Nat) : Str.ofString (toString ((k : Int) % 2)) = sb [k % 2 == 1] := by
  have h : ((k : Int) % 2) = ((k % 2 : Nat) : Int) := by omega
  rw [h]
  rcases Nat.mod_two_eq_zero_or_one k with z | z <;> rw [z] <;> decide +kernel
theorem ok_lawbits {f : Addr} {fd : FuncData} (D : Df K mg "_law_bits" s_law_bits ["length", "number"] f fd) (T : Txt K mg) : FnOk P w K mg base CX0 1 f fd ["length", "number"] spBits := by
  refine D.fn.ok sc_law_bits (fun vs H Q E h => ?_) (fun cdv A outer s H vs Q E hr h => ?_)
  · obtain ⟨n, k, rfl, _⟩ := h
    rfl
  · obtain ⟨n, k, rfl, hn, hk, q⟩ := h
    refine ⟨_, (pss_cons (ps_set (i := 2) sc_law_bits.nd rfl (.inl rfl) pe_str) (pss_cons (ps_for PassesOwn.never rfl (pi_range1 (by rfl) T.n_range (pa_cons (pv 0) pa_nil)) (pg_name (i := 3) sc_law_bits.nd rfl (.inl rfl)) (pss_cons (ps_set (i := 2) sc_law_bits.nd rfl (.inl rfl) (pe_op op_add_str (pe_callTy call_str_int (by rfl) T.n_str (by decide +kernel) (pa_cons (pe_op op_mod (pe_callTy call_int1 (by rfl) T.n_int (by decide +kernel) (pa_cons (pv 1) pa_nil)) pe_int) pa_nil)) (pv 2))) (pss_one (ps_set (i := 1) sc_law_bits.nd rfl (.inl rfl) (pe_op op_fdiv (pv 1) pe_int))))) (pss_one (ps_ret (pv 2))))), ?_⟩
    refine ⟨_, rfl, _, rfl, by omega, by omega, for_range (lo := 0) (n := n) (fun i σ H' => ∃ (j : Nat) (r : List Bool) (y : Option V), σ = [some (.int (n : Int)), some (.int (j : Int)), some (.str (sb r)), y] ∧ r.length = i ∧ i ≤ n ∧ toB n k = toB (n - i) j ++ r ∧ H' = H) ?_ ?_ ?_⟩
    · exact ⟨k, [], none, rfl, rfl, Nat.zero_le _, (List.append_nil _).symm, rfl⟩
    · rintro i σ H' hi ⟨j, r, y, rfl, hl, hin, he, rfl⟩
      refine ⟨_, rfl, .inl ⟨_, rfl, _, _, rfl, rfl, (by show (0 : Int) < 2; decide), _, rfl, ?_, _, rfl, _, _, rfl, rfl, ?_, ?_⟩⟩
      · have h2 : ((j : Int) % 2).natAbs < 2 := by omega
        have : ((j : Int) % 2).natAbs.log2 ≤ ((j : Int) % 2).natAbs := Nat.log2_le_self _
        omega
      · rw [str_bit, sb_len, sb_len, sizeLine_eq]
        show 1 + r.length ≤ 16777216
        omega
      · refine ⟨_, rfl, _, _, rfl, rfl, ⟨by decide, by decide⟩, j / 2, [j % 2 == 1] ++ r, some (.int (0 + (i : Int))), ?_, ?_, by omega, ?_, rfl⟩
        · rw [str_bit, sb_cat]
          rfl
        · rw [List.length_append, hl]
          exact Nat.add_comm _ _
        · rw [he, show n - i = (n - (i + 1)) + 1 by omega]
          show toB (n - (i + 1)) (j / 2) ++ [j % 2 == 1] ++ r = _
          rw [List.append_assoc]
    · rintro σ H' ⟨j, r, y, rfl, hl, hin, he, rfl⟩
      have e : toB n k = r := by
        rw [he, Nat.sub_self]
        rfl
      rw [e] at q
      exact ⟨_, rfl, q⟩

theorem ok_iss {f : Addr} {fd : FuncData} (D : Df K mg "_law_is_string" s_law_is_string ["found", "due"] f fd) (T : Txt K mg) : FnOk P w K mg base CX0 1 f fd ["found", "due"] spIsS := by
  refine D.fn.ok sc_law_is_string (fun vs H Q E h => ?_) (fun cdv A outer s H vs Q E hr h => ?_)
  · obtain ⟨x, y, rfl, _⟩ := h
    rfl
  · obtain ⟨x, y, rfl, q⟩ := h
    refine ⟨_, (pss_one (ps_ret (pe_and (pe_callB (isiK K) (by rfl) T.n_isinstance (by decide +kernel) (pa_cons (pv 0) (pa_cons (pe_ty "str" (by rfl) T.n_str (by decide +kernel)) pa_nil))) (pe_one (pe_cmpR op_eq (pv 0) (pv 1) (nomark _)))))), ?_⟩
    refine ⟨_, rfl, _, _, _, _, true, rfl, .ty "str", .base (.str x), kit_ty (by decide +kernel), true, rfl, ?_⟩
    refine ⟨_, rfl, _, rfl, rfl, ?_⟩
    have e : decide (V.str x = V.str y) = decide (x = y) := by
      by_cases h : x = y
      · rw [h, decide_eq_true rfl, decide_eq_true rfl]
      · rw [decide_eq_false h, decide_eq_false fun z => h (V.str.inj z)]
    rw [e]
    exact q
theorem ok_isn {f : Addr} {fd : FuncData} (D : Df K mg "_law_is_number" s_law_is_number ["found", "due"] f fd) (T : Txt K mg) : FnOk P w K mg base CX0 1 f fd ["found", "due"] spIsN := by
  refine D.fn.ok sc_law_is_number (fun vs H Q E h => ?_) (fun cdv A outer s H vs Q E hr h => ?_)
  · obtain ⟨x, y, rfl, _⟩ := h
    rfl
  · obtain ⟨x, y, rfl, q⟩ := h
    refine ⟨_, (pss_one (ps_ret (pe_and (pe_callB (isiK K) (by rfl) T.n_isinstance (by decide +kernel) (pa_cons (pv 0) (pa_cons (pe_ty "int" (by rfl) T.n_int (by decide +kernel)) pa_nil))) (pe_and (pe_not (pe_callB (isiK K) (by rfl) T.n_isinstance (by decide +kernel) (pa_cons (pv 0) (pa_cons (pe_ty "bool" (by rfl) T.n_bool (by decide +kernel)) pa_nil)))) (pe_one (pe_cmpR op_eq (pv 0) (pv 1) (nomark _))))))), ?_⟩
    refine ⟨_, rfl, _, _, _, _, true, rfl, .ty "int", .base (.int x), kit_ty (by decide +kernel), true, rfl, ?_⟩
    refine ⟨_, rfl, _, _, _, _, false, rfl, .ty "bool", .base (.int x), kit_ty (by decide +kernel), false, rfl, true, rfl, ?_⟩
    refine ⟨_, rfl, _, rfl, rfl, ?_⟩
    have e : decide (V.int x = V.int y) = decide (x = y) := by
      by_cases h : x = y
      · rw [h, decide_eq_true rfl, decide_eq_true rfl]
      · rw [decide_eq_false h, decide_eq_false fun z => h (V.int.inj z)]
    rw [e]
    exact q

theorem atI_bits {l : List Bool} {i : Nat} (h : i < l.length) : atI (sb l).cps.toList ((0 : Int) + (i : Int)) = some (cB l[i]) := by
  rw [Int.zero_add]
  refine atI_nat ?_
  show (l.map cB)[i]? = _
  rw [List.getElem?_map, List.getElem?_eq_getElem h]
  rfl
theorem sign_ne (a b : Bool) : (!decide (V.str ⟨#[cB a]⟩ = V.str ⟨#[cB b]⟩)) = (a != b) := by
  cases a <;> cases b <;> rfl
theorem sign_is (a : Bool) : decide (V.str ⟨#[cB a]⟩ = V.str "1") = a := by
  cases a <;> rfl
theorem str_bool (b : Bool) : Str.ofString (toString (if b = true then (1 : Int) else 0)) = sb [b] := by
  cases b <;> decide +kernel
theorem zip_take (f : Bool → Bool → Bool) : ∀ (l m : List Bool) (i : Nat) (h : i < l.length) (h' : i < m.length), (List.zipWith f l m).take (i + 1) = (List.zipWith f l m).take i ++ [f l[i] m[i]]
  | a :: l, b :: m, 0, _, _ => rfl
  | a :: l, b :: m, i + 1, h, h' => by
    have h1 : i < l.length := Nat.lt_of_succ_lt_succ h
    have h2 : i < m.length := Nat.lt_of_succ_lt_succ h'
    show f a b :: (List.zipWith f l m).take (i + 1) = f a b :: ((List.zipWith f l m).take i ++ [f l[i] m[i]])
    rw [zip_take f l m i h1 h2]
theorem zip_comm (f : Bool → Bool → Bool) (hf : ∀ a b, f a b = f b a) : ∀ l m : List Bool, List.zipWith f l m = List.zipWith f m l
  | [], [] => rfl
  | [], _ :: _ => rfl
  | _ :: _, [] => rfl
  | a :: l, b :: m => by
    show f a b :: _ = f b a :: _
    rw [hf, zip_comm f hf l m]

theorem ok_pair {f : Addr} {fd : FuncData} (D : Df K mg "_law_pair_right" s_law_pair_right ["first", "second"] f fd) (T : Txt K mg) (c_xor : Cl P w K mg base CX0 2 "xor" spXor) (c_parity : Cl P w K mg base CX0 2 "parity" spParity)
    (c_law_is_string : Cl P w K mg base CX0 1 "_law_is_string" spIsS) (c_law_is_number : Cl P w K mg base CX0 1 "_law_is_number" spIsN) : FnOk P w K mg base CX0 3 f fd ["first", "second"] spPair := by
  refine D.fn.ok sc_law_pair_right (fun vs H Q E h => ?_) (fun cdv A outer s H vs Q E hr h => ?_)
  · obtain ⟨l, m, rfl, _⟩ := h
    rfl
  · obtain ⟨l, m, rfl, he, hl, q⟩ := h
    refine ⟨_, (pss_cons (ps_set (i := 2) sc_law_pair_right.nd rfl (.inl rfl) pe_str) (pss_cons (ps_set (i := 3) sc_law_pair_right.nd rfl (.inl rfl) pe_int) (pss_cons (ps_for PassesOwn.never rfl (pi_range1 (by rfl) T.n_range (pa_cons (pe_callB call_len_str (by rfl) T.n_len (by decide +kernel) (pa_cons (pv 0) pa_nil)) pa_nil)) (pg_name (i := 4) sc_law_pair_right.nd rfl (.inl rfl)) (pss_cons (ps_set (i := 2) sc_law_pair_right.nd rfl (.inl rfl) (pe_op op_add_str (pv 2) (pe_callTy call_str_int (by rfl) T.n_str (by decide +kernel) (pa_cons (pe_callTy call_int1 (by rfl) T.n_int (by decide +kernel) (pa_cons (pe_cmpR op_ne (pe_ix ix_str (pv 0) (pv 4) (fun _ _ => rfl)) (pe_ix ix_str (pv 1) (pv 4) (fun _ _ => rfl)) (nomark _)) pa_nil)) pa_nil)))) (pss_one (ps_set (i := 3) sc_law_pair_right.nd rfl (.inl rfl) (pe_op op_add (pv 3) (pe_callTy call_int1 (by rfl) T.n_int (by decide +kernel) (pa_cons (pe_and (pe_cmpR op_eq (pe_ix ix_str (pv 0) (pv 4) (fun _ _ => rfl)) pe_str (nomark _)) (pe_one (pe_cmpR op_eq (pe_ix ix_str (pv 1) (pv 4) (fun _ _ => rfl)) pe_str (nomark _)))) pa_nil))))))) (pss_cons (ps_for PassesOwn.never rfl (pi_list (pe_lst (pa_cons (pe_tup (pa_cons (pv 0) (pa_cons (pv 1) pa_nil))) (pa_cons (pe_tup (pa_cons (pv 1) (pa_cons (pv 0) pa_nil))) pa_nil)))) (pg_tup (by rfl) (pgs_cons (pg_name (i := 5) sc_law_pair_right.nd rfl (.inl rfl)) (pgs_cons (pg_name (i := 6) sc_law_pair_right.nd rfl (.inl rfl)) pgs_nil))) (pss_one (ps_if (PW.pt (pw_or (pt_not (pt_val (pe_cl c_law_is_string hr (by decide) (by rfl) (pa_cons (pe_cl c_xor hr (by decide) (by rfl) (pa_cons (pv 5) (pa_cons (pv 6) pa_nil))) (pa_cons (pv 2) pa_nil))))) (pw_or1 (pt_not (pt_val (pe_cl c_law_is_number hr (by decide) (by rfl) (pa_cons (pe_cl c_parity hr (by decide) (by rfl) (pa_cons (pv 5) (pa_cons (pv 6) pa_nil))) (pa_cons (pe_op op_mod (pe_callTy call_int1 (by rfl) T.n_int (by decide +kernel) (pa_cons (pv 3) pa_nil)) pe_int) pa_nil)))))))) (pss_one (ps_ret pe_bl)) pss_nil))) (pss_one (ps_ret pe_bl)))))), ?_⟩
    refine ⟨_, rfl, _, rfl, sb_size (by omega), _, rfl, by rw [sb_len]; omega, by rw [sb_len]; omega, for_range (lo := 0) (n := _) (fun i σ H' => ∃ (y4 : Option V), σ = [some (.str (sb l)), some (.str (sb m)), some (.str (sb ((List.zipWith (fun x y => x != y) l m).take i))), some (.int ((((List.zipWith (fun x y => x && y) l m).take i).count true : Nat) : Int)), y4, none, none] ∧ H' = H) ?_ ?_ ?_⟩
    · exact ⟨none, rfl, rfl⟩
    · rintro i σ H' hi ⟨y4, rfl, rfl⟩
      have hi1 : i < l.length := by
        rw [sb_len] at hi
        omega
      have hi2 : i < m.length := by omega
      refine ⟨_, rfl, _, rfl, _, rfl, _, _, _, rfl, rfl, sb_size (by omega), atI_bits hi1, _, rfl, _, rfl, _, _, _, rfl, rfl, sb_size (by omega), atI_bits hi2, rfl, .inr ⟨_, rfl, _, rfl, ?_, _, _, rfl, rfl, ?_, ?_⟩⟩
      · cases !decide (V.str { cps := #[cB l[i]] } = V.str { cps := #[cB m[i]] }) <;> decide
      · rw [str_bool, sb_len, sb_len, sizeLine_eq, List.length_take]
        show min i _ + 1 ≤ _
        omega
      refine ⟨_, rfl, _, rfl, _, rfl, _, _, _, rfl, rfl, sb_size (by omega), atI_bits hi1, rfl, _, rfl, ?_⟩
      rw [sign_is, str_bool, sign_ne, sb_cat]
      have z1 := zip_take (fun x y => x != y) l m i hi1 hi2
      have z2 := zip_take (fun x y => x && y) l m i hi1 hi2
      rw [z1]
      have fin : ∀ (b : Bool), (l[i] && m[i]) = b → ((((List.zipWith (fun x y => x && y) l m).take i).count true : Nat) : Int) + (if b = true then (1 : Int) else 0) = ((((List.zipWith (fun x y => x && y) l m).take (i + 1)).count true : Nat) : Int) := by
        intro b hb
        rw [z2, List.count_append, hb]
        cases b
        · show _ + (0 : Int) = ((_ + 0 : Nat) : Int)
          omega
        · show _ + (1 : Int) = ((_ + 1 : Nat) : Int)
          omega
      cases hb : l[i] with
      | true =>
        refine iteT ?_
        refine ⟨_, rfl, _, rfl, _, _, _, rfl, rfl, sb_size (by omega), atI_bits hi2, rfl, .inr ⟨_, rfl, _, _, rfl, rfl, some (.int (0 + (i : Int))), ?_, rfl⟩⟩
        show [_, _, _, some (V.int _), _, _, _] = _
        rw [sign_is, fin m[i] (by rw [hb]; rfl)]
      | false =>
        refine iteF ?_
        refine .inr ⟨_, rfl, _, _, rfl, rfl, some (.int (0 + (i : Int))), ?_, rfl⟩
        show [_, _, _, some (V.int _), _, _, _] = _
        rw [fin false (by rw [hb]; rfl)]
    · rintro σ H' ⟨y4, rfl, rfl⟩
      have e1 : (List.zipWith (fun x y => x != y) l m).take (sb l).length = List.zipWith (fun x y => x != y) l m := List.take_of_length_le (by rw [List.length_zipWith, sb_len]; omega)
      have e2 : (List.zipWith (fun x y => x && y) l m).take (sb l).length = List.zipWith (fun x y => x && y) l m := List.take_of_length_le (by rw [List.length_zipWith, sb_len]; omega)
      show tSeq _ _ _ [_, _, some (V.str (sb (List.take (sb l).length _))), some (V.int ((List.count true (List.take (sb l).length _) : Nat) : Int)), _, _, _] _
      rw [e1, e2]
      -- the two pairs
      refine ⟨_, rfl, _, rfl, (by show 2 ≤ sizeLine; decide), fun p np => ⟨_, rfl, _, rfl, (by show 2 ≤ sizeLine; decide), fun r nr => ⟨(by show 2 ≤ sizeLine; decide), fun L nL => ?_⟩⟩⟩
      have npr : p ≠ r := ne_of_none upd_same nr
      have npL : p ≠ L := ne_of_none (by rw [upd_ne npr]; exact upd_same) nL
      have nrL : r ≠ L := ne_of_none upd_same nL
      generalize hH : (upd (upd (upd H' p (.tup [.str (sb l), .str (sb m)])) r (.tup [.str (sb m), .str (sb l)])) L (.lst [.ref p, .ref r])) = H1
      have eP : H1 p = some (.tup [.str (sb l), .str (sb m)]) := by
        rw [← hH, upd_ne npL, upd_ne npr, upd_same]
      have eR : H1 r = some (.tup [.str (sb m), .str (sb l)]) := by
        rw [← hH, upd_ne nrL, upd_same]
      have eL : H1 L = some (.lst [.ref p, .ref r]) := by
        rw [← hH, upd_same]
      have sm : Same H' H1 := by
        rw [← hH]
        exact ((same_new np).trans (same_new nr)).trans (same_new nL)
      refine ⟨L, rfl, ⟨_, .inl (.inl eL)⟩, for_list (xs := [.ref p, .ref r]) (fun i σ H2 => ∃ y4 y5 y6 : Option V, σ = [some (.str (sb l)), some (.str (sb m)), some (.str (sb (List.zipWith (fun x y => x != y) l m))), some (.int (((List.zipWith (fun x y => x && y) l m).count true : Nat) : Int)), y4, y5, y6] ∧ H2 = H1) ?_ ?_ ?_ ?_⟩
      · exact ⟨_, _, _, rfl, rfl⟩
      · rintro i σ H2 _ ⟨_, _, _, _, rfl⟩
        exact .inl (.inl eL)
      · rintro i x σ H2 hx ⟨y4', y5, y6, rfl, rfl⟩
        -- which of the two
        have two : ∃ (u : List Bool) (v : List Bool) (t : Addr), x = .ref t ∧ H2 t = some (.tup [.str (sb u), .str (sb v)]) ∧ u.length = v.length ∧ u.length ≤ 640 ∧ List.zipWith (fun x y => x != y) u v = List.zipWith (fun x y => x != y) l m ∧ List.zipWith (fun x y => x && y) u v = List.zipWith (fun x y => x && y) l m := by
          match i, hx with
          | 0, hx => exact ⟨l, m, p, (Option.some.inj hx).symm, eP, he, hl, rfl, rfl⟩
          | 1, hx => exact ⟨m, l, r, (Option.some.inj hx).symm, eR, he.symm, by omega, zip_comm _ (fun a b => by cases a <;> cases b <;> rfl) m l, zip_comm _ (fun a b => by cases a <;> cases b <;> rfl) m l⟩
          | i + 2, hx => simp at hx
        obtain ⟨u, v, t, rfl, et, huv, hul, hz1, hz2⟩ := two
        refine ⟨t, _, rfl, .inl (.inl et), rfl, _, _, rfl, _, _, rfl, rfl, ?_⟩
        refine ⟨_, rfl, _, rfl, u, v, rfl, huv, hul, _, rfl, _, _, rfl, ?_⟩
        rw [hz1, decide_eq_true rfl]
        refine ⟨true, rfl, ?_⟩
        refine ⟨_, rfl, _, rfl, u, v, rfl, huv, hul, _, rfl, .inl ⟨_, rfl, _, _, rfl, rfl, (by show (0 : Int) < 2; decide), _, _, rfl, ?_⟩⟩
        rw [hz2, decide_eq_true rfl]
        exact ⟨true, rfl, _, _, _, rfl, rfl⟩
      · rintro σ H2 ⟨y4', y5, y6, rfl, rfl⟩
        exact q _ sm

theorem ix_nat (n d i : Nat) : HT.sIx n d (some (i : Int)) = min i n := by
  unfold HT.sIx
  show (if (i : Int) < 0 then _ else min (i : Int).toNat n) = _
  rw [if_neg (by omega)]
  rfl
theorem sb_drop_take (l : List Bool) (a b : Nat) : (⟨(((sb l).cps.toList.drop a).take b).toArray⟩ : Str) = sb ((l.drop a).take b) := by
  unfold sb
  rw [List.map_take, List.map_drop]
theorem cut_pre {l : List Bool} {i : Nat} : cutS (sb l) none (some (i : Int)) = sb (l.take i) := by
  unfold cutS
  rw [sb_drop_take, ix_nat, HT.sIx_none, sb_len, List.drop_zero, Nat.sub_zero]
  congr 1
  by_cases h : i ≤ l.length
  · rw [Nat.min_eq_left h]
  · rw [List.take_of_length_le (by omega), List.take_of_length_le (by omega)]
theorem cut_suf {l : List Bool} {i : Nat} : cutS (sb l) (some (i : Int)) none = sb (l.drop i) := by
  unfold cutS
  rw [sb_drop_take, ix_nat, HT.sIx_none, sb_len, List.take_of_length_le (by rw [List.length_drop]; omega)]
  congr 1
  by_cases h : i ≤ l.length
  · rw [Nat.min_eq_left h]
  · rw [Nat.min_eq_right (by omega), List.drop_length, List.drop_of_length_le (by omega)]
theorem cut_one {l : List Bool} {i : Nat} : cutS (sb l) (some (i : Int)) (some ((i : Int) + 1)) = sb ((l.drop i).take 1) := by
  unfold cutS
  rw [show ((i : Int) + 1) = ((i + 1 : Nat) : Int) by omega, sb_drop_take, ix_nat, ix_nat, sb_len]
  congr 1
  by_cases h : i + 1 ≤ l.length
  · rw [Nat.min_eq_left h, Nat.min_eq_left (by omega)]
    congr 1
    omega
  · by_cases h' : i = l.length
    · subst h'
      rw [Nat.min_self, List.drop_length]
      simp
    · rw [Nat.min_eq_right (show l.length ≤ i by omega), List.drop_length, List.drop_eq_nil_of_le (show l.length ≤ i by omega)]
      simp
theorem rep_bits (b : Bool) (n : Nat) : SX.S (List.replicate n [cB b]).flatten = sb (List.replicate n b) := by
  unfold sb
  congr 1
  induction n with
  | zero => rfl
  | succ n ih =>
    rw [List.replicate_succ, List.flatten_cons, ih]
    rfl
theorem val_take (l : List Bool) (i : Nat) (h : i < l.length) : val (l.take (i + 1)) = 2 * val (l.take i) + bit l[i] := by
  rw [List.take_add_one, List.getElem?_eq_getElem h]
  exact val_snoc _ _
theorem val_zeros (n : Nat) : val (List.replicate n false) = 0 := by
  induction n with
  | zero => rfl
  | succ n ih =>
    rw [List.replicate_succ', val_snoc, ih]
    rfl
theorem for_text {x : Str} {g : TG} {tb : TS} {D : Ends} {σ : L2.St} {H : Hp} (Pv : Nat → L2.St → Hp → Prop) (h0 : Pv 0 σ H)
    (hs : ∀ i c σ H, x.cps[i]? = some c → Pv i σ H → g (.str ⟨#[c]⟩) σ H fun σ2 H2 => tb { D with nx := Pv (i + 1), ct := Pv (i + 1), bk := D.nx } σ2 H2) (hd : ∀ σ H, Pv x.cps.size σ H → D.nx σ H) :
    ∃ W : Nat → Nat → L2.St → Hp → Prop, (∃ m, W 0 m σ H) ∧ ∀ i m σ H, W i m σ H →
      ((Its x).stop i H ∧ D.nx σ H) ∨ ((Its x).go i H ∧ ∃ N : L2.St → Hp → Prop, (∀ σ' H', N σ' H' → ∃ m', m' < m ∧ W (i + 1) m' σ' H') ∧ ∀ y H', (Its x).yld i H y H' → g y σ H' fun σ2 H2 => tb { D with nx := N, ct := N, bk := D.nx } σ2 H2) := by
  refine ⟨fun i m σ H => m = x.cps.size - i ∧ i ≤ x.cps.size ∧ Pv i σ H, ⟨x.cps.size, by omega, Nat.zero_le _, h0⟩, ?_⟩
  rintro i m σ H ⟨rfl, hi, p⟩
  by_cases c : i < x.cps.size
  · refine .inr ⟨c, Pv (i + 1), fun σ' H' p' => ⟨x.cps.size - (i + 1), by omega, rfl, c, p'⟩, ?_⟩
    rintro y H' ⟨rfl, k, hk, rfl⟩
    exact hs i k σ _ hk p
  · have e : i = x.cps.size := by omega
    subst e
    exact .inl ⟨Nat.le_refl _, hd σ H p⟩
theorem sb_at {l : List Bool} {i c : Nat} (h : (sb l).cps[i]? = some c) : ∃ h : i < l.length, c = cB l[i] := by
  have e : (l.map cB)[i]? = some c := by
    rw [← h]
    show _ = ((l.map cB).toArray)[i]?
    simp
  rw [List.getElem?_map] at e
  obtain ⟨b, hb, rfl⟩ := Option.map_eq_some_iff.mp e
  obtain ⟨hi, rfl⟩ := List.getElem?_eq_some_iff.mp hb
  exact ⟨hi, rfl⟩
/-- a string with the place i turned round (none, if there is no such place) -/
def turnAt (l : List Bool) (i : Nat) : List Bool := l.take i ++ ((l.drop i).take 1).map (!·) ++ l.drop (i + 1)
theorem turnAt_len (l : List Bool) (i : Nat) : (turnAt l i).length = l.length := by
  unfold turnAt
  rw [List.length_append, List.length_append, List.length_map, List.length_take, List.length_take, List.length_drop, List.length_drop]
  omega
theorem one_is (l : List Bool) (i : Nat) : ∃ b : Bool, decide (V.str (sb ((l.drop i).take 1)) = V.str "1") = b ∧ (b = true → (l.drop i).take 1 = [true]) ∧ (b = false → (l.drop i).take 1 = [] ∨ (l.drop i).take 1 = [false]) := by
  match h : (l.drop i).take 1 with
  | [] => exact ⟨false, rfl, fun z => (nomatch z), fun _ => .inl rfl⟩
  | [true] => exact ⟨true, rfl, fun _ => rfl, fun z => (nomatch z)⟩
  | [false] => exact ⟨false, rfl, fun z => (nomatch z), fun _ => .inr rfl⟩
  | a :: b :: r =>
    have := congrArg List.length h
    rw [List.length_take, List.length_cons, List.length_cons] at this
    omega

theorem ok_law {f : Addr} {fd : FuncData} (F : Fun K "law" "law" s_law f fd) (T : Txt K mg) (c_bits : Cl P w K mg base CX0 1 "bits" spBits) (k_bits : Ck P w K mg base CX0 1 0 "bits" ["number", "length"] (fun _ zs => zs.reverse) spBits) (c_number_of : Cl P w K mg base CX0 1 "number_of" spNumber)
    (c_law_draws : Cl P w K mg base CX0 1 "_law_draws" (spDraws K)) (c_law_take : Cl P w K mg base CX0 1 "_law_take" spTake) (c_law_string : Cl P w K mg base CX0 2 "_law_string" spString) (c_law_bits : Cl P w K mg base CX0 1 "_law_bits" spBits)
    (c_law_is_string : Cl P w K mg base CX0 1 "_law_is_string" spIsS) (c_law_is_number : Cl P w K mg base CX0 1 "_law_is_number" spIsN) (c_law_pair_right : Cl P w K mg base CX0 3 "_law_pair_right" spPair) : FnOk P w K mg base CX0 4 f fd ["script"] (spLaw K) := by
  refine F.ok sc_law (fun vs H Q E h => ?_) (fun cdv A outer s H vs Q E hr h => ?_)
  · obtain ⟨a, ns, rfl, _⟩ := h
    rfl
  · obtain ⟨a, ns, rfl, hS, hlen, q⟩ := h
    refine ⟨_, (pss_cons (ps_set (i := 1) sc_law.nd rfl (.inl rfl) (pe_lst (pa_cons (pe_cl c_law_draws hr (by decide) (by rfl) (pa_cons (pv 0) (pa_cons pe_int pa_nil))) (pa_cons pe_int pa_nil)))) (pss_cons (ps_set (i := 2) sc_law.nd rfl (.inl rfl) (pe_ix (ixL K) (pe_lst (pa_cons (pe_cl c_law_take hr (by decide) (by rfl) (pa_cons (pv 1) (pa_cons pe_int pa_nil))) (pa_cons (pe_cl c_law_take hr (by decide) (by rfl) (pa_cons (pv 1) (pa_cons pe_int pa_nil))) (pa_cons (pe_cl c_law_take hr (by decide) (by rfl) (pa_cons (pv 1) (pa_cons pe_int pa_nil))) pa_nil)))) (pe_cl c_law_take hr (by decide) (by rfl) (pa_cons (pv 1) (pa_cons pe_int pa_nil))) (fun _ _ => rfl))) (pss_cons (ps_set (i := 3) sc_law.nd rfl (.inl rfl) (pe_cl c_law_string hr (by decide) (by rfl) (pa_cons (pv 1) (pa_cons (pv 2) pa_nil)))) (pss_cons (ps_set (i := 4) sc_law.nd rfl (.inl rfl) pe_int) (pss_cons (ps_for PassesOwn.never rfl (pi_str (pv 3)) (pg_name (i := 5) sc_law.nd rfl (.inl rfl)) (pss_one (ps_set (i := 4) sc_law.nd rfl (.inl rfl) (pe_op op_add (pe_op op_mul pe_int (pv 4)) (pe_callTy call_int1 (by rfl) T.n_int (by decide +kernel) (pa_cons (pe_cmpR op_eq (pv 5) pe_str (nomark _)) pa_nil)))))) (pss_cons (ps_if (PW.pt (pw_or (pt_not (pt_val (pe_cl c_law_is_string hr (by decide) (by rfl) (pa_cons (pe_cl c_bits hr (by decide) (by rfl) (pa_cons (pv 2) (pa_cons (pv 4) pa_nil))) (pa_cons (pv 3) pa_nil))))) (pw_or1 (pt_not (pt_val (pe_cl c_law_is_number hr (by decide) (by rfl) (pa_cons (pe_cl c_number_of hr (by decide) (by rfl) (pa_cons (pv 3) pa_nil)) (pa_cons (pv 4) pa_nil)))))))) (pss_one (ps_ret pe_bl)) pss_nil) (pss_cons (ps_if (PW.pt (pw_or (pt_not (pt_val (pe_cl c_law_is_string hr (by decide) (by rfl) (pa_cons (pe_ck0 k_bits hr (by decide) (by rfl) (pk_cons pe_int (pk_cons (pv 2) pk_nil))) (pa_cons (pe_op op_repS pe_str (pv 2)) pa_nil))))) (pw_or1 (pt_not (pt_val (pe_cl c_law_is_number hr (by decide) (by rfl) (pa_cons (pe_cl c_number_of hr (by decide) (by rfl) (pa_cons (pe_op op_repS pe_str (pv 2)) pa_nil)) (pa_cons pe_int pa_nil)))))))) (pss_one (ps_ret pe_bl)) pss_nil) (pss_cons (ps_set (i := 6) sc_law.nd rfl (.inl rfl) (pe_cl c_law_string hr (by decide) (by rfl) (pa_cons (pv 1) (pa_cons (pv 2) pa_nil)))) (pss_cons (ps_set (i := 7) sc_law.nd rfl (.inl rfl) (pv 3)) (pss_cons (ps_for PassesOwn.never rfl (pi_range1 (by rfl) T.n_range (pa_cons (pe_cl c_law_take hr (by decide) (by rfl) (pa_cons (pv 1) (pa_cons pe_int pa_nil))) pa_nil)) (pg_name (i := 8) sc_law.nd rfl (.inl rfl)) (pss_cons (ps_set (i := 9) sc_law.nd rfl (.inl rfl) (pe_cl c_law_take hr (by decide) (by rfl) (pa_cons (pv 1) (pa_cons (pe_op op_add (pv 2) pe_int) pa_nil)))) (pss_one (ps_set (i := 7) sc_law.nd rfl (.inl rfl) (pe_op op_add_str (pe_op op_add_str (pe_slice sl_str (pv 7) po_none (po_some (pv 9))) (pe_op op_repS (pe_ix (ixL K) (pe_lst (pa_cons pe_str (pa_cons pe_str pa_nil))) (pe_callTy call_int1 (by rfl) T.n_int (by decide +kernel) (pa_cons (pe_cmpR op_eq (pe_slice sl_str (pv 7) (po_some (pv 9)) (po_some (pe_op op_add (pv 9) pe_int))) pe_str (nomark _)) pa_nil)) (fun _ _ => rfl)) (pe_callB call_len_str (by rfl) T.n_len (by decide +kernel) (pa_cons (pe_slice sl_str (pv 7) (po_some (pv 9)) (po_some (pe_op op_add (pv 9) pe_int))) pa_nil)))) (pe_slice sl_str (pv 7) (po_some (pe_op op_add (pv 9) pe_int)) po_none)))))) (pss_cons (ps_for PassesOwn.never rfl (pi_list (pe_lst (pa_cons (pv 6) (pa_cons (pv 7) (pa_cons (pv 3) (pa_cons (pe_op op_repS pe_str (pv 2)) (pa_cons (pe_op op_repS pe_str (pv 2)) pa_nil))))))) (pg_name (i := 10) sc_law.nd rfl (.inl rfl)) (pss_one (ps_if (pt_not (pt_val (pe_cl c_law_pair_right hr (by decide) (by rfl) (pa_cons (pv 3) (pa_cons (pv 10) pa_nil))))) (pss_one (ps_ret pe_bl)) pss_nil))) (pss_cons (ps_set (i := 11) sc_law.nd rfl (.inl rfl) (pe_cl c_law_take hr (by decide) (by rfl) (pa_cons (pv 1) (pa_cons pe_int pa_nil)))) (pss_cons (ps_for PassesOwn.never rfl (pi_range1 (by rfl) T.n_range (pa_cons (pe_op op_shl pe_int (pv 11)) pa_nil)) (pg_name (i := 12) sc_law.nd rfl (.inl rfl)) (pss_cons (ps_set (i := 13) sc_law.nd rfl (.inl rfl) (pe_cl c_bits hr (by decide) (by rfl) (pa_cons (pv 11) (pa_cons (pv 12) pa_nil)))) (pss_one (ps_if (PW.pt (pw_or (pt_not (pt_val (pe_cl c_law_is_string hr (by decide) (by rfl) (pa_cons (pv 13) (pa_cons (pe_cl c_law_bits hr (by decide) (by rfl) (pa_cons (pv 11) (pa_cons (pv 12) pa_nil))) pa_nil))))) (pw_or1 (pt_not (pt_val (pe_cl c_law_is_number hr (by decide) (by rfl) (pa_cons (pe_cl c_number_of hr (by decide) (by rfl) (pa_cons (pv 13) pa_nil)) (pa_cons (pv 12) pa_nil)))))))) (pss_one (ps_ret pe_bl)) pss_nil)))) (pss_one (ps_ret pe_bl))))))))))))))), ?_⟩
    -- hand = [_law_draws(script, 500), 0]
    refine ⟨_, rfl, a, ns, 500, rfl, hS, hlen, by omega, fun d ds H1 nd s1 ed hd0 => ⟨(by show 2 ≤ sizeLine; decide), fun b nb => ?_⟩⟩
    have hn1 : Hnd (upd H1 b (.lst [.ref d, .int 0])) b d := ⟨ds, 0, upd_same, by rw [upd_ne (ne_of_none ed nb)]; exact ed, hd0, ne_of_none ed nb⟩
    generalize upd H1 b (.lst [.ref d, .int 0]) = H2 at hn1
    clear nb ed nd s1
    -- length = [take, take, take][take]
    refine ⟨_, rfl, b, d, 41, rfl, by decide, hn1, fun r1 H3 l1 u1 hn3 k3 => ⟨_, rfl, b, d, 9, rfl, by decide, hn3, fun r2 H4 l2 u2 hn4 k4 => ⟨_, rfl, b, d, 201, rfl, by decide, hn4, fun r3 H5 l3 u3 hn5 k5 => ⟨(by show 3 ≤ sizeLine; decide), fun c nc => ⟨_, rfl, b, d, 3, rfl, by decide, hn5.new nc, fun r4 H6 l4 u4 hn6 k6 => ?_⟩⟩⟩⟩⟩
    obtain ⟨n, hat, hle⟩ : ∃ n : Nat, atI [V.int r1, V.int r2, V.int r3] r4 = some (.int (n : Int)) ∧ n ≤ 200 := by
      have er : r4 = 0 ∨ r4 = 1 ∨ r4 = 2 := by omega
      rcases er with e | e | e <;> subst e
      · exact ⟨r1.toNat, by rw [Int.toNat_of_nonneg l1]; rfl, by omega⟩
      · exact ⟨r2.toNat, by rw [Int.toNat_of_nonneg l2]; rfl, by omega⟩
      · exact ⟨r3.toNat, by rw [Int.toNat_of_nonneg l3]; rfl, by omega⟩
    refine ⟨c, _, r4, _, rfl, rfl, .inl (.inl (k6 _ _ upd_same (hn5.ne nc).1)), hat, ?_⟩
    clear hat k3 k4 k5 k6 nc l1 u1 l2 u2 l3 u3 l4 u4 hn1 hn3 hn4 hn5
    -- first = _law_string(hand, length)
    refine ⟨_, rfl, _, rfl, b, d, n, rfl, by omega, hn6, fun l H7 hl hn7 k7 => ?_⟩
    clear k7 hn6
    -- number = 0; for sign in first
    refine ⟨_, rfl, _, rfl, for_text (fun i σ H' => ∃ y5 : Option V, σ = [some (.ref a), some (.ref b), some (.int (n : Int)), some (.str (sb l)), some (.int ((val (l.take i) : Nat) : Int)), y5, none, none, none, none, none, none, none, none] ∧ H' = H7) ?_ ?_ ?_⟩
    · exact ⟨none, rfl, rfl⟩
    · rintro i c σ H' hc ⟨y5, rfl, rfl⟩
      obtain ⟨hi, rfl⟩ := sb_at hc
      refine ⟨_, rfl, _, _, rfl, rfl, .inl ⟨by decide, by decide⟩, _, rfl, rfl, .inr ⟨_, rfl, _, _, rfl, rfl, some (.str ⟨#[cB l[i]]⟩), ?_, rfl⟩⟩
      show [_, _, _, _, some (V.int _), _, _, _, _, _, _, _, _, _] = _
      rw [sign_is, val_take l i hi]
      have e : (2 : Int) * ((val (l.take i) : Nat) : Int) + (if l[i] = true then 1 else 0) = ((2 * val (l.take i) + bit l[i] : Nat) : Int) := by
        unfold bit
        cases l[i]
        · show _ + (0 : Int) = ((_ + 0 : Nat) : Int)
          omega
        · show _ + (1 : Int) = ((_ + 1 : Nat) : Int)
          omega
      rw [e]
    · rintro σ H' ⟨y5, rfl, rfl⟩
      have es : (sb l).cps.size = l.length := sb_len l
      rw [List.take_of_length_le (Nat.le_of_eq es.symm)]
      -- bits(length, number) is first, number_of(first) number
      have hlt : val l < 2 ^ n := by
        rw [← hl]
        exact val_lt l
      have htb : toB n (val l) = l := by
        rw [← hl]
        exact toB_val l
      refine ⟨_, rfl, _, rfl, n, val l, rfl, by omega, hlt, _, rfl, _, _, rfl, ?_⟩
      rw [htb, decide_eq_true rfl]
      refine ⟨true, rfl, ?_⟩
      refine ⟨_, rfl, l, rfl, by omega, _, rfl, _, _, rfl, ?_⟩
      rw [decide_eq_true rfl]
      refine ⟨true, rfl, ?_⟩
      -- bits(number=0, length=length) is as many noughts
      refine ⟨_, rfl, rfl, rfl, n, 0, rfl, by omega, Nat.two_pow_pos n, _, rfl, [48], (n : Int), rfl, rfl, ⟨by omega, by show 1 * _ ≤ _; omega, by omega⟩, _, _, rfl, ?_⟩
      have e0 : SX.S (List.replicate (n : Int).toNat [48]).flatten = sb (toB n 0) := by
        rw [toB_zero]
        exact rep_bits false n
      rw [e0, decide_eq_true rfl]
      refine ⟨true, rfl, ?_⟩
      refine ⟨_, rfl, [48], (n : Int), rfl, rfl, ⟨by omega, by show 1 * _ ≤ _; omega, by omega⟩, toB n 0, ?_, by rw [toB_len]; omega, _, _, rfl, ?_⟩
      · rw [e0]
        rfl
      refine ⟨true, congrArg V.bl (decide_eq_true ?_), ?_⟩
      · rw [val_toB n 0 (Nat.two_pow_pos n)]
        rfl
      -- second
      refine ⟨_, rfl, _, rfl, b, d, n, rfl, by omega, hn7, fun m H8 hm hn8 k8 => ?_⟩
      clear k8 hn7
      -- near
      refine ⟨_, rfl, _, rfl, b, d, 3, rfl, by decide, hn8, fun t H9 t0 t3 hn9 k9 => ?_⟩
      clear k9 hn8
      refine ⟨_, rfl, by omega, by omega, for_range (lo := 0) (n := _) (fun i σ H' => ∃ (p : List Bool) (y8 y9 : Option V), σ = [some (.ref a), some (.ref b), some (.int (n : Int)), some (.str (sb l)), some (.int ((val l : Nat) : Int)), y5, some (.str (sb m)), some (.str (sb p)), y8, y9, none, none, none, none] ∧ p.length = n ∧ Hnd H' b d) ?_ ?_ ?_⟩
      · exact ⟨l, none, none, rfl, hl, hn9⟩
      · rintro i σ H' hi ⟨p, y8, y9, rfl, hp, hn⟩
        -- at
        refine ⟨_, rfl, _, rfl, _, _, rfl, rfl, b, d, (n : Int) + 1, rfl, by omega, hn, fun t H10 t0 t1 hn10 k10 => ?_⟩
        obtain ⟨j, rfl⟩ := Int.eq_ofNat_of_zero_le t0
        -- near[:at] + [..][..] * len(..) + near[at + 1:]
        refine ⟨_, rfl, _, rfl, _, rfl, _, rfl, sb_size (by omega), ?_⟩
        rw [cut_pre]
        refine ⟨by decide, fun c nc => ⟨_, rfl, _, rfl, _, rfl, _, rfl, _, _, rfl, rfl, _, rfl, _, rfl, sb_size (by omega), ?_⟩⟩
        rw [cut_one]
        obtain ⟨x, hx, x1, x2⟩ := one_is p j
        refine ⟨rfl, ?_⟩
        rw [hx]
        have hat : atI [V.str "1", V.str "0"] (if x = true then (1 : Int) else 0) = some (.str (SX.S [cB (!x)])) := by cases x <;> rfl
        refine .inr ⟨_, rfl, c, _, _, _, rfl, rfl, .inl (.inl upd_same), hat, ?_⟩
        refine ⟨_, rfl, _, rfl, _, rfl, _, rfl, _, _, rfl, rfl, _, rfl, _, rfl, sb_size (by omega), ?_⟩
        rw [cut_one]
        have hone : ((p.drop j).take 1).length ≤ 1 := by
          rw [List.length_take]
          omega
        refine ⟨_, rfl, sb_size (by omega), [cB (!x)], _, rfl, rfl, ⟨by omega, ?_, ?_⟩, ?_⟩
        · rw [sb_len]
          show 1 * _ ≤ _
          omega
        · rw [sb_len]
          omega
        have er : SX.S (List.replicate (((sb ((p.drop j).take 1)).length : Nat) : Int).toNat [cB (!x)]).flatten = sb (((p.drop j).take 1).map (!·)) := by
          rw [sb_len, rep_bits]
          congr 1
          cases x
          · rcases x2 rfl with e | e <;> rw [e] <;> rfl
          · rw [x1 rfl]
            rfl
        rw [er]
        refine ⟨_, _, rfl, rfl, ?_, ?_⟩
        · rw [sb_len, sb_len, sizeLine_eq, List.length_take, List.length_map]
          omega
        refine ⟨_, rfl, _, rfl, _, _, rfl, rfl, _, rfl, _, rfl, sb_size (by omega), ?_⟩
        rw [show ((j : Int) + 1) = ((j + 1 : Nat) : Int) by omega, cut_suf, sb_cat]
        refine ⟨_, _, rfl, rfl, ?_, turnAt p j, some (.int (0 + (i : Int))), some (.int (j : Int)), ?_, by rw [turnAt_len]; exact hp, hn10.new nc⟩
        · rw [sb_len, sb_len, sizeLine_eq, List.length_drop, List.length_append, List.length_take, List.length_map]
          omega
        · rw [sb_cat]
          rfl
      · rintro σ H' ⟨p, y8, y9, rfl, hp, hn⟩
        -- for other in [second, near, first, '1' * length, '0' * length]
        have ones : ∀ b : Bool, SX.S (List.replicate (n : Int).toNat [cB b]).flatten = sb (List.replicate n b) := fun b => rep_bits b n
        refine ⟨_, rfl, _, rfl, _, rfl, _, rfl, [49], (n : Int), rfl, rfl, ⟨by omega, by show 1 * _ ≤ _; omega, by omega⟩, _, rfl, [48], (n : Int), rfl, rfl, ⟨by omega, by show 1 * _ ≤ _; omega, by omega⟩, (by show 5 ≤ sizeLine; decide), fun c nc => ?_⟩
        have e1 : SX.S (List.replicate (n : Int).toNat [49]).flatten = sb (List.replicate n true) := ones true
        have e2 : SX.S (List.replicate (n : Int).toNat [48]).flatten = sb (List.replicate n false) := ones false
        rw [e1, e2]
        generalize hH : upd H' c (.lst [.str (sb m), .str (sb p), .str (sb l), .str (sb (List.replicate n true)), .str (sb (List.replicate n false))]) = H11
        have ec : H11 c = some (.lst ([m, p, l, List.replicate n true, List.replicate n false].map fun z => V.str (sb z))) := by
          rw [← hH, upd_same]
          rfl
        have hn11 : Hnd H11 b d := by
          rw [← hH]
          exact hn.new nc
        refine ⟨c, rfl, ⟨_, .inl (.inl ec)⟩, for_list (xs := [m, p, l, List.replicate n true, List.replicate n false].map fun z => V.str (sb z)) (fun i σ H2 => ∃ (y10 : Option V), σ = [some (.ref a), some (.ref b), some (.int (n : Int)), some (.str (sb l)), some (.int ((val l : Nat) : Int)), y5, some (.str (sb m)), some (.str (sb p)), y8, y9, y10, none, none, none] ∧ Same H11 H2) ?_ ?_ ?_ ?_⟩
        · exact ⟨none, rfl, Same.refl _⟩
        · rintro i σ H2 _ ⟨_, _, sm⟩
          exact .inl (.inl (sm _ _ ec))
        · rintro i z σ H2 hz ⟨y10, rfl, sm⟩
          rw [List.getElem?_map] at hz
          obtain ⟨u, hu, rfl⟩ := Option.map_eq_some_iff.mp hz
          have hul : u.length = n := by
            have := List.mem_of_getElem? hu
            simp only [List.mem_cons, List.not_mem_nil, or_false] at this
            rcases this with e | e | e | e | e <;> subst e <;> first | assumption | exact List.length_replicate
          refine ⟨_, rfl, _, rfl, l, u, rfl, by omega, by omega, fun H3 s3 => ?_⟩
          exact ⟨true, rfl, _, rfl, sm.trans s3⟩
        · rintro σ H2 ⟨y10, rfl, sm⟩
          have hn12 := hn11.same sm
          -- small
          refine ⟨_, rfl, b, d, 4, rfl, by decide, hn12, fun t H12 t0 t4 hn13 k13 => ?_⟩
          obtain ⟨k, rfl⟩ := Int.eq_ofNat_of_zero_le t0
          have hk4 : k < 4 := by omega
          refine ⟨_, rfl, _, _, rfl, rfl, ⟨by omega, by omega, by decide⟩, _, rfl, ?_, ?_, for_range (lo := 0) (n := _) (fun i σ H' => ∃ (y12 y13 : Option V), σ = [some (.ref a), some (.ref b), some (.int (n : Int)), some (.str (sb l)), some (.int ((val l : Nat) : Int)), y5, some (.str (sb m)), some (.str (sb p)), y8, y9, y10, some (.int (k : Int)), y12, y13]) ?_ ?_ ?_⟩
          · have : (0 : Int) ≤ 1 * 2 ^ (k : Int).toNat := by
              have := Int.pow_nonneg (n := 2) (m := (k : Int).toNat) (by decide)
              omega
            omega
          · have : k = 0 ∨ k = 1 ∨ k = 2 ∨ k = 3 := by omega
            rcases this with e | e | e | e <;> subst e <;> decide
          · exact ⟨none, none, rfl⟩
          · rintro i σ H3 hi ⟨y12, y13, rfl⟩
            have hi' : i < 2 ^ k := by
              have : k = 0 ∨ k = 1 ∨ k = 2 ∨ k = 3 := by omega
              rcases this with e | e | e | e <;> subst e <;> exact hi
            have ei : (0 : Int) + (i : Int) = (i : Int) := Int.zero_add _
            rw [ei]
            -- told = bits(small, value)
            refine ⟨_, rfl, _, rfl, k, i, rfl, by omega, hi', ?_⟩
            refine ⟨_, rfl, _, rfl, _, rfl, k, i, rfl, by omega, hi', _, _, rfl, true, congrArg V.bl (decide_eq_true rfl), ?_⟩
            refine ⟨_, rfl, toB k i, rfl, by rw [toB_len]; omega, _, rfl, _, _, rfl, true, congrArg V.bl (decide_eq_true ?_), ?_⟩
            · rw [val_toB k i hi']
            · exact ⟨_, _, rfl⟩
          · rintro σ H3 ⟨y12, y13, rfl⟩
            exact q _

theorem mk_law {f1 f2 f3 f4 f5 f6 f7 f8 f9 f10 f11 f : Addr} {d1 d2 d3 d4 d5 d6 d7 d8 d9 d10 d11 fd : FuncData} (T : Txt K mg)
    (D1 : Df K mg "bits" s_bits ["length", "number"] f1 d1) (D2 : Df K mg "number_of" s_number_of ["string"] f2 d2) (D3 : Df K mg "xor" s_xor ["first", "second"] f3 d3) (D4 : Df K mg "parity" s_parity ["first", "second"] f4 d4)
    (D5 : Df K mg "_law_draws" s_law_draws ["script", "many"] f5 d5) (D6 : Df K mg "_law_take" s_law_take ["hand", "many"] f6 d6) (D7 : Df K mg "_law_string" s_law_string ["hand", "length"] f7 d7) (D8 : Df K mg "_law_bits" s_law_bits ["length", "number"] f8 d8)
    (D9 : Df K mg "_law_is_string" s_law_is_string ["found", "due"] f9 d9) (D10 : Df K mg "_law_is_number" s_law_is_number ["found", "due"] f10 d10) (D11 : Df K mg "_law_pair_right" s_law_pair_right ["first", "second"] f11 d11)
    (F : Fun K "law" "law" s_law f fd) : FnOk P w K mg base CX0 top_level f fd ["script"] (spLaw K) := by
  have c_bits : Cl P w K mg base CX0 1 "bits" spBits := D1.cl (ok_bits D1 T)
  have c_number : Cl P w K mg base CX0 1 "number_of" spNumber := D2.cl (ok_number D2 T)
  have c_take : Cl P w K mg base CX0 1 "_law_take" spTake := D6.cl (ok_take D6 T)
  have c_iss : Cl P w K mg base CX0 1 "_law_is_string" spIsS := D9.cl (ok_iss D9 T)
  have c_isn : Cl P w K mg base CX0 1 "_law_is_number" spIsN := D10.cl (ok_isn D10 T)
  exact ok_law F T c_bits ⟨f1, d1, _, fun _ ws => ws.reverse, ok_bits D1 T, D1.gl, D1.fn.kp, Fun.kb D1.fn 0 (fun _ _ _ _ _ _ us ws hu hw => match us, ws, hu, hw with | [], [_, _], _, _ => rfl) (fun _ r => Vals.rev r)⟩ c_number
    (D5.cl (ok_draws D5 T)) c_take (D7.cl (ok_string D7 T c_take)) (D8.cl (ok_lawbits D8 T)) c_iss c_isn
    (D11.cl (ok_pair D11 T (D3.cl (ok_xor D3 T c_bits c_number)) (D4.cl (ok_parity D4 T c_bits c_number)) c_iss c_isn))
end
theorem all_mk {l : PySem.W.OpenLaw} {w : World} {K : PySem.W.Frag} {h : Heap} {mg : Str → Option Value} {fa f1 f2 f3 f4 f5 f6 f7 f8 f9 f10 f11 f12 : Addr} (X : K.In h) (G : h.Ns mainGlobals mg) (hfa : mg "law" = some (.ref fa))
    {od1 an1 od2 an2 od3 an3 od4 an4 od5 an5 od6 an6 od7 an7 od8 an8 od9 an9 od10 an10 od11 an11 od12 an12 : Option Addr} {sl1 sl2 sl3 sl4 sl5 sl6 sl7 sl8 sl9 sl10 sl11 sl12 : Array (Option Value)} {oc1 kV1 dc1 pm1 cd1 ct1 oc2 kV2 dc2 pm2 cd2 ct2 oc3 kV3 dc3 pm3 cd3 ct3 oc4 kV4 dc4 pm4 cd4 ct4 oc5 kV5 dc5 pm5 cd5 ct5 oc6 kV6 dc6 pm6 cd6 ct6 oc7 kV7 dc7 pm7 cd7 ct7 oc8 kV8 dc8 pm8 cd8 ct8 oc9 kV9 dc9 pm9 cd9 ct9 oc10 kV10 dc10 pm10 cd10 ct10 oc11 kV11 dc11 pm11 cd11 ct11 oc12 kV12 dc12 pm12 cd12 ct12 : Value}
    (a1 : PySem.W.nsIn K mainGlobals "bits" = some (some (.ref f1))) (l1 : K.lookup f1 = some ⟨oc1, od1, .func (PySem.W.fnOf "bits" "bits" (defArgs s_bits) (defBody s_bits) (defScope s_bits) .none kV1 dc1 pm1 an1 cd1 ct1), sl1⟩) (c1 : PySem.W.codeIn K cd1 "bits" = true) (k1 : PySem.W.keepIn K (.ref f1) = true)
    (a2 : PySem.W.nsIn K mainGlobals "number_of" = some (some (.ref f2))) (l2 : K.lookup f2 = some ⟨oc2, od2, .func (PySem.W.fnOf "number_of" "number_of" (defArgs s_number_of) (defBody s_number_of) (defScope s_number_of) .none kV2 dc2 pm2 an2 cd2 ct2), sl2⟩) (c2 : PySem.W.codeIn K cd2 "number_of" = true) (k2 : PySem.W.keepIn K (.ref f2) = true)
    (a3 : PySem.W.nsIn K mainGlobals "xor" = some (some (.ref f3))) (l3 : K.lookup f3 = some ⟨oc3, od3, .func (PySem.W.fnOf "xor" "xor" (defArgs s_xor) (defBody s_xor) (defScope s_xor) .none kV3 dc3 pm3 an3 cd3 ct3), sl3⟩) (c3 : PySem.W.codeIn K cd3 "xor" = true) (k3 : PySem.W.keepIn K (.ref f3) = true)
    (a4 : PySem.W.nsIn K mainGlobals "parity" = some (some (.ref f4))) (l4 : K.lookup f4 = some ⟨oc4, od4, .func (PySem.W.fnOf "parity" "parity" (defArgs s_parity) (defBody s_parity) (defScope s_parity) .none kV4 dc4 pm4 an4 cd4 ct4), sl4⟩) (c4 : PySem.W.codeIn K cd4 "parity" = true) (k4 : PySem.W.keepIn K (.ref f4) = true)
    (a5 : PySem.W.nsIn K mainGlobals "_law_draws" = some (some (.ref f5))) (l5 : K.lookup f5 = some ⟨oc5, od5, .func (PySem.W.fnOf "_law_draws" "_law_draws" (defArgs s_law_draws) (defBody s_law_draws) (defScope s_law_draws) .none kV5 dc5 pm5 an5 cd5 ct5), sl5⟩) (c5 : PySem.W.codeIn K cd5 "_law_draws" = true) (k5 : PySem.W.keepIn K (.ref f5) = true)
    (a6 : PySem.W.nsIn K mainGlobals "_law_take" = some (some (.ref f6))) (l6 : K.lookup f6 = some ⟨oc6, od6, .func (PySem.W.fnOf "_law_take" "_law_take" (defArgs s_law_take) (defBody s_law_take) (defScope s_law_take) .none kV6 dc6 pm6 an6 cd6 ct6), sl6⟩) (c6 : PySem.W.codeIn K cd6 "_law_take" = true) (k6 : PySem.W.keepIn K (.ref f6) = true)
    (a7 : PySem.W.nsIn K mainGlobals "_law_string" = some (some (.ref f7))) (l7 : K.lookup f7 = some ⟨oc7, od7, .func (PySem.W.fnOf "_law_string" "_law_string" (defArgs s_law_string) (defBody s_law_string) (defScope s_law_string) .none kV7 dc7 pm7 an7 cd7 ct7), sl7⟩) (c7 : PySem.W.codeIn K cd7 "_law_string" = true) (k7 : PySem.W.keepIn K (.ref f7) = true)
    (a8 : PySem.W.nsIn K mainGlobals "_law_bits" = some (some (.ref f8))) (l8 : K.lookup f8 = some ⟨oc8, od8, .func (PySem.W.fnOf "_law_bits" "_law_bits" (defArgs s_law_bits) (defBody s_law_bits) (defScope s_law_bits) .none kV8 dc8 pm8 an8 cd8 ct8), sl8⟩) (c8 : PySem.W.codeIn K cd8 "_law_bits" = true) (k8 : PySem.W.keepIn K (.ref f8) = true)
    (a9 : PySem.W.nsIn K mainGlobals "_law_is_string" = some (some (.ref f9))) (l9 : K.lookup f9 = some ⟨oc9, od9, .func (PySem.W.fnOf "_law_is_string" "_law_is_string" (defArgs s_law_is_string) (defBody s_law_is_string) (defScope s_law_is_string) .none kV9 dc9 pm9 an9 cd9 ct9), sl9⟩) (c9 : PySem.W.codeIn K cd9 "_law_is_string" = true) (k9 : PySem.W.keepIn K (.ref f9) = true)
    (a10 : PySem.W.nsIn K mainGlobals "_law_is_number" = some (some (.ref f10))) (l10 : K.lookup f10 = some ⟨oc10, od10, .func (PySem.W.fnOf "_law_is_number" "_law_is_number" (defArgs s_law_is_number) (defBody s_law_is_number) (defScope s_law_is_number) .none kV10 dc10 pm10 an10 cd10 ct10), sl10⟩) (c10 : PySem.W.codeIn K cd10 "_law_is_number" = true) (k10 : PySem.W.keepIn K (.ref f10) = true)
    (a11 : PySem.W.nsIn K mainGlobals "_law_pair_right" = some (some (.ref f11))) (l11 : K.lookup f11 = some ⟨oc11, od11, .func (PySem.W.fnOf "_law_pair_right" "_law_pair_right" (defArgs s_law_pair_right) (defBody s_law_pair_right) (defScope s_law_pair_right) .none kV11 dc11 pm11 an11 cd11 ct11), sl11⟩) (c11 : PySem.W.codeIn K cd11 "_law_pair_right" = true) (k11 : PySem.W.keepIn K (.ref f11) = true)
    (a12 : PySem.W.nsIn K mainGlobals "law" = some (some (.ref f12))) (l12 : K.lookup f12 = some ⟨oc12, od12, .func (PySem.W.fnOf "law" "law" (defArgs s_law) (defBody s_law) (defScope s_law) .none kV12 dc12 pm12 an12 cd12 ct12), sl12⟩) (c12 : PySem.W.codeIn K cd12 "law" = true) (k12 : PySem.W.keepIn K (.ref f12) = true)
    (z1 : PySem.W.nsIn K mainGlobals "abs" = some none)
    (z2 : PySem.W.nsIn K mainGlobals "bool" = some none)
    (z3 : PySem.W.nsIn K mainGlobals "int" = some none)
    (z4 : PySem.W.nsIn K mainGlobals "isinstance" = some none)
    (z5 : PySem.W.nsIn K mainGlobals "len" = some none)
    (z6 : PySem.W.nsIn K mainGlobals "range" = some none)
    (z7 : PySem.W.nsIn K mainGlobals "str" = some none) :
    ∃ fd : FuncData, (∀ (s : Shared) (v : Value), BindsTo s fd ⟨[v], []⟩ [("script", v)]) ∧ ∀ base : Heap, K.In base → base.Ns mainGlobals mg → FnOk l.prog w K mg base CX0 top_level fa fd ["script"] (spLaw K) := by
  have e := hfa.symm.trans (PySem.W.mg_of X G a12)
  cases e
  have T : Txt K mg := ⟨PySem.W.mg_none_of X G z1, PySem.W.mg_none_of X G z2, PySem.W.mg_none_of X G z3, PySem.W.mg_none_of X G z4, PySem.W.mg_none_of X G z5, PySem.W.mg_none_of X G z6, PySem.W.mg_none_of X G z7⟩
  have F1 := fun_mk (st := s_bits) l1 c1 k1
  have b1 := F1.binds (ps := ["length", "number"]) fun _ _ _ _ _ _ us hl => match us, hl with | [_, _], _ => rfl
  have F2 := fun_mk (st := s_number_of) l2 c2 k2
  have b2 := F2.binds (ps := ["string"]) fun _ _ _ _ _ _ us hl => match us, hl with | [_], _ => rfl
  have F3 := fun_mk (st := s_xor) l3 c3 k3
  have b3 := F3.binds (ps := ["first", "second"]) fun _ _ _ _ _ _ us hl => match us, hl with | [_, _], _ => rfl
  have F4 := fun_mk (st := s_parity) l4 c4 k4
  have b4 := F4.binds (ps := ["first", "second"]) fun _ _ _ _ _ _ us hl => match us, hl with | [_, _], _ => rfl
  have F5 := fun_mk (st := s_law_draws) l5 c5 k5
  have b5 := F5.binds (ps := ["script", "many"]) fun _ _ _ _ _ _ us hl => match us, hl with | [_, _], _ => rfl
  have F6 := fun_mk (st := s_law_take) l6 c6 k6
  have b6 := F6.binds (ps := ["hand", "many"]) fun _ _ _ _ _ _ us hl => match us, hl with | [_, _], _ => rfl
  have F7 := fun_mk (st := s_law_string) l7 c7 k7
  have b7 := F7.binds (ps := ["hand", "length"]) fun _ _ _ _ _ _ us hl => match us, hl with | [_, _], _ => rfl
  have F8 := fun_mk (st := s_law_bits) l8 c8 k8
  have b8 := F8.binds (ps := ["length", "number"]) fun _ _ _ _ _ _ us hl => match us, hl with | [_, _], _ => rfl
  have F9 := fun_mk (st := s_law_is_string) l9 c9 k9
  have b9 := F9.binds (ps := ["found", "due"]) fun _ _ _ _ _ _ us hl => match us, hl with | [_, _], _ => rfl
  have F10 := fun_mk (st := s_law_is_number) l10 c10 k10
  have b10 := F10.binds (ps := ["found", "due"]) fun _ _ _ _ _ _ us hl => match us, hl with | [_, _], _ => rfl
  have F11 := fun_mk (st := s_law_pair_right) l11 c11 k11
  have b11 := F11.binds (ps := ["first", "second"]) fun _ _ _ _ _ _ us hl => match us, hl with | [_, _], _ => rfl
  have F12 := fun_mk (st := s_law) l12 c12 k12
  have b12 := F12.binds (ps := ["script"]) fun _ _ _ _ _ _ us hl => match us, hl with | [_], _ => rfl
  refine ⟨PySem.W.fnOf "law" "law" (defArgs s_law) (defBody s_law) (defScope s_law) .none kV12 dc12 pm12 an12 cd12 ct12, fun s v => .of_eq rfl, fun base _ _ => ?_⟩
  exact mk_law T ⟨F1, b1, PySem.W.mg_of X G a1⟩ ⟨F2, b2, PySem.W.mg_of X G a2⟩ ⟨F3, b3, PySem.W.mg_of X G a3⟩ ⟨F4, b4, PySem.W.mg_of X G a4⟩ ⟨F5, b5, PySem.W.mg_of X G a5⟩ ⟨F6, b6, PySem.W.mg_of X G a6⟩ ⟨F7, b7, PySem.W.mg_of X G a7⟩ ⟨F8, b8, PySem.W.mg_of X G a8⟩ ⟨F9, b9, PySem.W.mg_of X G a9⟩ ⟨F10, b10, PySem.W.mg_of X G a10⟩ ⟨F11, b11, PySem.W.mg_of X G a11⟩ F12
end My
open PySem PySem.W PyProof.Rows
set_option maxRecDepth 100000 in
set_option maxHeartbeats 0 in
theorem PySem.Challenge.cw_breakback_k01_strings_of_bits_holds : PySem.Challenge.rw_breakback_k01_strings_of_bits.Holds := by
  w_on; o_law; k_head; (case hw => w_witness2)
  k_fill
  refine L2.walk_of (l := PySem.Challenge.rw_breakback_k01_strings_of_bits) (n := 63) (k := My.top_level) (x := "script") (CX := fun _ => L2.CX0) (sp := fun w => My.spLaw _) rfl (by decide) rfl ⟨rfl, by decide, by decide⟩ (fun w h Y => PySem.W.kIn_of Y) ?F (fun _ _ a ns hl _ hS => ⟨a, ns, rfl, hS, hl, fun _ => rfl⟩) (fun _ _ _ _ _ h => h)
  case F =>
    intro w mg fa h KX G hmg
    refine' My.all_mk KX G hmg ?a1 ?l1 ?c1 ?k1 ?a2 ?l2 ?c2 ?k2 ?a3 ?l3 ?c3 ?k3 ?a4 ?l4 ?c4 ?k4 ?a5 ?l5 ?c5 ?k5 ?a6 ?l6 ?c6 ?k6 ?a7 ?l7 ?c7 ?k7 ?a8 ?l8 ?c8 ?k8 ?a9 ?l9 ?c9 ?k9 ?a10 ?l10 ?c10 ?k10 ?a11 ?l11 ?c11 ?k11 ?a12 ?l12 ?c12 ?k12 ?z1 ?z2 ?z3 ?z4 ?z5 ?z6 ?z7
    (case a1 => k_is); (case l1 => k_is); (case c1 => k_is); (case k1 => k_is); (case a2 => k_is); (case l2 => k_is); (case c2 => k_is); (case k2 => k_is)
    (case a3 => k_is); (case l3 => k_is); (case c3 => k_is); (case k3 => k_is); (case a4 => k_is); (case l4 => k_is); (case c4 => k_is); (case k4 => k_is)
    (case a5 => k_is); (case l5 => k_is); (case c5 => k_is); (case k5 => k_is); (case a6 => k_is); (case l6 => k_is); (case c6 => k_is); (case k6 => k_is)
    (case a7 => k_is); (case l7 => k_is); (case c7 => k_is); (case k7 => k_is); (case a8 => k_is); (case l8 => k_is); (case c8 => k_is); (case k8 => k_is)
    (case a9 => k_is); (case l9 => k_is); (case c9 => k_is); (case k9 => k_is); (case a10 => k_is); (case l10 => k_is); (case c10 => k_is); (case k10 => k_is)
    (case a11 => k_is); (case l11 => k_is); (case c11 => k_is); (case k11 => k_is); (case a12 => k_is); (case l12 => k_is); (case c12 => k_is); (case k12 => k_is)
    (case z1 => k_is); (case z2 => k_is); (case z3 => k_is); (case z4 => k_is); (case z5 => k_is); (case z6 => k_is); (case z7 => k_is)
#print axioms PySem.Challenge.cw_breakback_k01_strings_of_bits_holds
