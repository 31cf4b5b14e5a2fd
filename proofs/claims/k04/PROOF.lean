
import PyProof.Rows.All
import Wide.All
import OpenK.AllK
import Wide.FinOn
import HandS.ForMost
import HandS.Codes
import HandS.StrMore
import HandS.Defaults
import HandS.IntHex
import HandS.IsInst
import HandS.TupAny
import HandS.TupMul
import PyProof.FString3
import PyProof.Rows.StrIntSpec
import PyProof.StrOps2
import KE.IntText
import KE.KIntText
import KE.IntTextLaws
import HandS.Exc
import HandS.ExcOwn
import HandS.TryOnly
import HandS.TryMany
import HandS.ExcIs
import HandS.WordsExc
import HandS.ForExc

import PySem.Challenge.RW_breakback_k04_trees_counters_and_hard_bi
set_option Elab.async false
set_option linter.all false
set_option maxRecDepth 100000
set_option maxHeartbeats 4000000
namespace My
open PySem PySem.Spec PyProof.Rows L2
theorem snocInd {α : Type} {P : List α → Prop} (h0 : P []) (h1 : ∀ l a, P l → P (l ++ [a])) (l : List α) : P l := by
  have h : ∀ (n : Nat) (l : List α), l.length = n → P l := by
    intro n
    induction n with
    | zero =>
      intro l e
      rw [List.eq_nil_of_length_eq_zero e]
      exact h0
    | succ n ih =>
      intro l e
      have hn : l ≠ [] := fun z => by
        rw [z] at e
        cases e
      rw [← List.dropLast_concat_getLast hn]
      exact h1 _ _ (ih _ (by rw [List.length_dropLast, e]; rfl))
  exact h _ l rfl
/-! ### strings of bits -/
def cB (b : Bool) : Nat := if b then 49 else 48
def sb (bs : List Bool) : Str := SX.S (bs.map cB)
def toB : Nat → Nat → List Bool
  | 0, _ => []
  | n + 1, k => toB n (k / 2) ++ [k % 2 == 1]
def bit (b : Bool) : Nat := if b then 1 else 0
def val (bs : List Bool) : Nat := bs.foldl (fun a b => 2 * a + bit b) 0
theorem toB_len : ∀ n k, (toB n k).length = n
  | 0, _ => rfl
  | n + 1, k => by
    show (toB n (k / 2) ++ [k % 2 == 1]).length = n + 1
    rw [List.length_append, toB_len n]
    rfl
theorem sb_len (bs : List Bool) : (sb bs).length = bs.length := by
  unfold sb
  rw [SX.S_len, List.length_map]
theorem cB_inj {a b : Bool} (h : cB a = cB b) : a = b := by
  cases a <;> cases b <;> first | rfl | (exact absurd h (by decide))
theorem map_cB_inj : ∀ {l m : List Bool}, l.map cB = m.map cB → l = m
  | [], [], _ => rfl
  | [], _ :: _, h => by simp at h
  | _ :: _, [], h => by simp at h
  | a :: l, b :: m, h => by
    rw [List.map_cons, List.map_cons] at h
    injection h with h1 h2
    rw [cB_inj h1, map_cB_inj h2]
theorem sb_inj {l m : List Bool} (h : sb l = sb m) : l = m := map_cB_inj (SX.S_inj h)
theorem sb_cat (l m : List Bool) : sb l ++ sb m = sb (l ++ m) := by
  unfold sb
  rw [SX.S_cat, List.map_append]
theorem val_snoc (l : List Bool) (b : Bool) : val (l ++ [b]) = 2 * val l + bit b := by
  unfold val
  rw [List.foldl_append]
  rfl
theorem bit_lt (b : Bool) : bit b < 2 := by cases b <;> decide
theorem toB_val (bs : List Bool) : toB bs.length (val bs) = bs := by
  induction bs using snocInd with
  | h0 => rfl
  | h1 l b ih =>
    rw [List.length_append, val_snoc]
    show toB (l.length + 1) _ = _
    show toB l.length ((2 * val l + bit b) / 2) ++ [(2 * val l + bit b) % 2 == 1] = l ++ [b]
    have h := bit_lt b
    rw [show (2 * val l + bit b) / 2 = val l by omega, ih, show (2 * val l + bit b) % 2 = bit b by omega]
    cases b <;> rfl
theorem val_lt (bs : List Bool) : val bs < 2 ^ bs.length := by
  induction bs using snocInd with
  | h0 => exact Nat.one_pos
  | h1 l b ih =>
    rw [List.length_append, val_snoc]
    show _ < 2 ^ (l.length + 1)
    have h := bit_lt b
    rw [Nat.pow_succ]
    omega
theorem val_toB : ∀ (n k : Nat), k < 2 ^ n → val (toB n k) = k
  | 0, k, h => by
    have e : k = 0 := by
      have : k < 1 := h
      omega
    subst e
    rfl
  | n + 1, k, h => by
    show val (toB n (k / 2) ++ [k % 2 == 1]) = k
    rw [Nat.pow_succ] at h
    rw [val_snoc, val_toB n (k / 2) (by omega)]
    have e : bit (k % 2 == 1) = k % 2 := by
      rcases Nat.mod_two_eq_zero_or_one k with z | z <;> rw [z] <;> rfl
    rw [e]
    omega
theorem toB_zero (n : Nat) : toB n 0 = List.replicate n false := by
  induction n with
  | zero => rfl
  | succ n ih =>
    show toB n 0 ++ [false] = _
    rw [ih, List.replicate_succ']
/-! ### two strings place by place -/
theorem toB_xor : ∀ (n a b : Nat), toB n (a ^^^ b) = List.zipWith (fun x y => x != y) (toB n a) (toB n b)
  | 0, _, _ => rfl
  | n + 1, a, b => by
    show toB n ((a ^^^ b) / 2) ++ [(a ^^^ b) % 2 == 1] = List.zipWith (fun x y => x != y) (toB n (a / 2) ++ [a % 2 == 1]) (toB n (b / 2) ++ [b % 2 == 1])
    rw [List.zipWith_append (by rw [toB_len, toB_len]), Nat.xor_div_two, toB_xor n]
    congr 1
    have e : (a ^^^ b) % 2 = (a % 2) ^^^ (b % 2) := by
      have h := Nat.xor_mod_two_pow (a := a) (b := b) (n := 1)
      rw [Nat.pow_one] at h
      exact h
    rw [e]
    rcases Nat.mod_two_eq_zero_or_one a with z | z <;> rcases Nat.mod_two_eq_zero_or_one b with y | y <;> rw [z, y] <;> rfl
theorem toB_and : ∀ (n a b : Nat), toB n (a &&& b) = List.zipWith (fun x y => x && y) (toB n a) (toB n b)
  | 0, _, _ => rfl
  | n + 1, a, b => by
    show toB n ((a &&& b) / 2) ++ [(a &&& b) % 2 == 1] = List.zipWith (fun x y => x && y) (toB n (a / 2) ++ [a % 2 == 1]) (toB n (b / 2) ++ [b % 2 == 1])
    rw [List.zipWith_append (by rw [toB_len, toB_len]), Nat.and_div_two, toB_and n]
    congr 1
    have e : (a &&& b) % 2 = (a % 2) * (b % 2) := by
      have h := Nat.and_mod_two_pow (a := a) (b := b) (n := 1)
      rw [Nat.pow_one] at h
      rw [h]
      rcases Nat.mod_two_eq_zero_or_one a with z | z <;> rcases Nat.mod_two_eq_zero_or_one b with y | y <;> rw [z, y] <;> rfl
    rw [e]
    rcases Nat.mod_two_eq_zero_or_one a with z | z <;> rcases Nat.mod_two_eq_zero_or_one b with y | y <;> rw [z, y] <;> rfl
/-! ### the digits that Python writes -/
def dig (k : Nat) : List Nat := (Nat.toDigits 2 k).map Char.toNat
theorem dig_lt {k : Nat} (h : k < 2) : dig k = [cB (k == 1)] := by
  unfold dig
  rw [Nat.toDigits_of_lt_base h]
  have : k = 0 ∨ k = 1 := by omega
  rcases this with e | e <;> subst e <;> rfl
theorem dig_ge {k : Nat} (h : 2 ≤ k) : dig k = dig (k / 2) ++ [cB (k % 2 == 1)] := by
  unfold dig
  rw [Nat.toDigits_of_base_le (by decide) h, List.map_append]
  congr 1
  rcases Nat.mod_two_eq_zero_or_one k with z | z <;> rw [z] <;> rfl
theorem dig_toB : ∀ (n k : Nat), k < 2 ^ (n + 1) → ∃ p, (toB (n + 1) k).map cB = List.replicate p 48 ++ dig k
  | 0, k, h => by
    have hk : k < 2 := h
    refine ⟨0, ?_⟩
    rw [dig_lt hk]
    show [cB (k % 2 == 1)] = [cB (k == 1)]
    rw [Nat.mod_eq_of_lt hk]
  | n + 1, k, h => by
    show ∃ p, (toB (n + 1) (k / 2) ++ [k % 2 == 1]).map cB = _
    rw [List.map_append]
    by_cases hk : k < 2
    · refine ⟨n + 1, ?_⟩
      rw [dig_lt hk, show k / 2 = 0 by omega, toB_zero, List.map_replicate, Nat.mod_eq_of_lt hk]
      rfl
    · have h' : k < 2 ^ (n + 1) * 2 := by
        rw [← Nat.pow_succ]
        exact h
      obtain ⟨p, e⟩ := dig_toB n (k / 2) (by omega)
      refine ⟨p, ?_⟩
      rw [e, dig_ge (k := k) (by omega), List.append_assoc]
      rfl
theorem dig_len_pos (k : Nat) : 0 < (dig k).length := by
  unfold dig
  rw [List.length_map]
  exact Nat.length_toDigits_pos
theorem dig_head (k : Nat) : ∃ c r, dig k = c :: r ∧ (c = 48 ∨ c = 49) := by
  induction k using Nat.strongRecOn with
  | _ k ih =>
    by_cases hk : k < 2
    · rw [dig_lt hk]
      exact ⟨_, _, rfl, by cases (k == 1) <;> decide⟩
    · obtain ⟨c, r, e, h⟩ := ih (k / 2) (by omega)
      rw [dig_ge (by omega), e]
      exact ⟨c, r ++ [_], rfl, h⟩
theorem zfill_dig (n k : Nat) (h : k < 2 ^ (n + 1)) : Txt.zfill (SX.S (dig k)) ((n + 1 : Nat) : Int) = sb (toB (n + 1) k) := by
  obtain ⟨p, e⟩ := dig_toB n k h
  have hl : n + 1 = p + (dig k).length := by
    have := congrArg List.length e
    rw [List.length_map, toB_len, List.length_append, List.length_replicate] at this
    exact this
  unfold sb
  rw [e]
  unfold Txt.zfill
  rw [SX.S_len]
  by_cases hp : p = 0
  · subst hp
    rw [if_pos (by omega)]
    rfl
  · rw [if_neg (by omega)]
    obtain ⟨c, r, ed, hc⟩ := dig_head k
    have hm : ((n + 1 : Nat) : Int).toNat - (dig k).length = p := by omega
    rw [hm]
    unfold zfilled
    rw [ed]
    rcases hc with rfl | rfl
    · show Builtin.Str.padded _ p 0 48 = _
      refine TL.ext_tl ?_
      simp [Builtin.Str.padded, TL.tl, SX.S]
    · show Builtin.Str.padded _ p 0 48 = _
      refine TL.ext_tl ?_
      simp [Builtin.Str.padded, TL.tl, SX.S]
section
open Builtin Builtin.Str Builtin.Int Builtin.Float
theorem ite_n {c : Prop} [Decidable c] {X Y : Prop} (hc : ¬ c) (h : Y) : if c then X else Y := by
  rw [if_neg hc]
  exact h
theorem ite_y {c : Prop} [Decidable c] {X Y : Prop} (hc : c) (h : X) : if c then X else Y := by
  rw [if_pos hc]
  exact h
/-- the text of the bits of n, as the format "b" makes it -/
theorem field_b (l : List Nat) (hl : l ≠ []) : intField' { fill := 32, align := 62, type := some 98 } false [] l [] 4 = ⟨l.toArray⟩ := by
  unfold intField'
  have h0 : l.isEmpty = false := by
    cases l with
    | nil => exact absurd rfl hl
    | cons a r => rfl
  simp [h0]
theorem wp_eq {α : Type} {M : Model} {A : Around} {t t' : Sem α} {Q : α → Shared → Prop} {E : Value → Shared → Prop} {s : Shared} (e : t = t') (h : wpAny M A t' Q E s) : wpAny M A t Q E s := by
  rw [e]
  exact h
set_option maxHeartbeats 1000000 in
theorem gives_fmtB {spec : PySem.Str} (n : Nat) (t u : Tok) (hz : (Nat.toDigits 2 n).length ≤ sizeLine)
    (hp : parseFormatSpec spec.cps.toList "int" 62 = .ok { fill := 32, align := 62, type := some 98 }) (hne : (spec.length == 0) = false)
    (hasc : ((spec.cps.toList.drop 1).any (· ≥ 128) || (spec.cps.getD 0 0 ≥ 128 && !([60, 62, 61, 94] : List Nat).contains (spec.cps.getD 1 0))) = false) :
    Gives («int.__format__» ⟨[.int (n : Int) t, .str spec u], []⟩) (.str ⟨((Nat.toDigits 2 n).map Char.toNat).toArray⟩) := by
  intro prog w A R s hq
  unfold Builtin.«int.__format__»
  simp only [selfAndOne, noKeywords, Int.intOfSelf, asInt?, asStr?, List.isEmpty_nil, if_true, pure_bind, bind_pure, bind_assoc, hne, hasc, Bool.false_eq_true, if_false,
    show (Value.str spec u == Value.none) = false from rfl]
  refine wpAny_bind (wpAny_typeNameOf (T := "str") (typeIs_str _ _ _) (by decide) fun _ => ?_)
  refine wpAny_bind (wpAny_typeNameOfCut_int ?_)
  simp only [hp, Option.getD_some]
  refine wpAny_ite (ite_y (by decide) ?_)
  refine wp_eq (t' := retStr (intField' { fill := 32, align := 62, type := some 98 } (decide ((n : Int) < 0)) [] ((Nat.toDigits 2 n).map fun c => (if (98 : Nat) == 88 then c.toUpper else c).toNat) [] 4)) (by kernel_rfl) ?_
  rw [show decide ((n : Int) < 0) = false from decide_eq_false (by omega), field_b _ (by
    have := Nat.length_toDigits_pos (b := 2) (n := n)
    intro z
    rw [List.map_eq_nil_iff] at z
    rw [z] at this
    exact absurd this (by decide))]
  refine wpAny_bind (wpAny_mkStr (wpAny_pure hq.2) ?_)
  show (List.toArray _).size ≤ _
  rw [List.size_toArray, List.length_map]
  exact hz
end
/-! ### a text times an int -/
theorem foldl_app (x : Array Nat) : ∀ (n : Nat) (acc : Array Nat), ((List.replicate n x).foldl (· ++ ·) acc).toList = acc.toList ++ (List.replicate n x.toList).flatten
  | 0, acc => by simp
  | n + 1, acc => by
    rw [List.replicate_succ, List.foldl_cons, foldl_app x n, List.replicate_succ, List.flatten_cons, Array.toList_append, List.append_assoc]
def rRepS : R2 := fun x y H Q => ∃ (l : List Nat) (k : Int), x = .str (SX.S l) ∧ y = .int k ∧ (0 ≤ k ∧ l.length * k.toNat ≤ 16777216 ∧ k ≤ 16777216) ∧ Q (.str (SX.S (List.replicate k.toNat l).flatten)) H
theorem op_repS {X : Cx} : OpR X (binaryOp .Mult) rRepS := by
  intro pins s σ H x y v u Q I rx ry h
  obtain ⟨l, k, rfl, rfl, ⟨h0, hz, hk⟩, q⟩ := h
  obtain ⟨t, rfl⟩ := rx
  obtain ⟨t', rfl⟩ := ry
  have hs : sizeLine = 16777216 := sizeLine_eq
  refine PySem.P.mul_str ?_ (fun h1 _ => ?_) (fun _ _ => ?_) ?_
  · rw [decide_eq_false (by omega), decide_eq_false (by omega)]
    rfl
  · rw [SX.S_len]
    have hp : 0 < k := by omega
    have : (l.length : Int) * k ≤ 16777216 := by
      have e : ((l.length * k.toNat : Nat) : Int) = (l.length : Int) * k := by
        rw [Int.natCast_mul, Int.toNat_of_nonneg h0]
      omega
    have := (Int.le_ediv_iff_mul_le hp (a := (l.length : Int)) (b := 2 ^ 63 - 1)).mpr (by omega)
    omega
  · rw [SX.S_len]
    unfold Builtin.Str.tooLong
    rw [sizeLine_eq]
    exact decide_eq_false (by omega)
  · by_cases h1 : k < 1
    · rw [if_pos h1]
      have e : k = 0 := by omega
      subst e
      exact ⟨by decide, .str (SX.S []), H, I.tok _, ⟨_, rfl⟩, q⟩
    · rw [if_neg h1]
      by_cases h2 : (k == 1 || (SX.S l).length == 0) = true
      · rw [if_pos h2]
        have e : (List.replicate k.toNat l).flatten = l := by
          rw [Bool.or_eq_true, beq_iff_eq, beq_iff_eq, SX.S_len] at h2
          rcases h2 with e | e
          · subst e
            simp
          · rw [List.eq_nil_of_length_eq_zero e]
            simp
        rw [e] at q
        exact ⟨.str (SX.S l), H, I, ⟨t, rfl⟩, q⟩
      · rw [if_neg h2]
        have e : (⟨(List.replicate k.toNat (SX.S l).cps).foldl (· ++ ·) #[]⟩ : Str) = SX.S (List.replicate k.toNat l).flatten := by
          refine TL.ext_tl ?_
          show (List.foldl (· ++ ·) (#[] : Array Nat) (List.replicate k.toNat l.toArray)).toList = _
          rw [foldl_app]
          rfl
        rw [e]
        refine ⟨?_, .str _, H, I.tok _, ⟨_, rfl⟩, q⟩
        rw [SX.S_len, List.length_flatten, List.map_replicate, List.sum_replicate_nat, hs]
        rw [Nat.mul_comm]
        exact hz
/-! ### f(k = v, ..): keywords alone -/
theorem pe_callN0 {X : Cx} {CX : CXT} {k : Nat} {f : Addr} {fd : FuncData} {ps ks : List Str} {sp : Sp} {E : XK} {x : Str} {p pos : Pos} {kws : List Keyword} {tk : TA} {g : List Value → List Value → List Value} {gV : List V → List V → List V}
    (F : FnOk X.prog X.w X.K X.mg X.base CX k f fd ps sp) (hr : Room k X.A) (hg : Gl X x) (hm : X.mg x = some (.ref f)) (hk : PySem.W.keepIn X.K (.ref f) = true) (hb : KBn X.K fd ps 0 ks g gV) (hx : Passes CX X E)
    (hkw : PK X kws tk) (hall : (backToKw pos (keywordEach kws X.env)).all (·.1.isSome) = true := by rfl) (hks : (backToKw pos (keywordEach kws X.env)).filterMap (·.1) = ks := by rfl)
    (hdb : (x == ("__debug__" : Str)) = false := by decide)
    (hpl : ((backTo pos (starEach [] X.env)).any (·.1) || (backToKw pos (keywordEach kws X.env)).any (·.1.isNone)) = false := by rfl) :
    PE X (.Call (.Name x p) [] kws pos) (tCallN 0 ks.length sp gV E tNil tk) := by
  refine ⟨fun pins s σ H Q I h => ?_⟩
  refine wpAny_Call_Name_kw (ld_glob I hg hm ?_ hdb)
  refine PySem.W.callWith_KW0 (h₀ := X.base) I.ok.mod.kin hk hall ?_ hpl
  refine thn (hkw.run pos pins s σ H _ I h) fun ws s2 ⟨zs, H2, I2, rz, l1, l2, q2⟩ => ⟨I2.kIn, ?_⟩
  rw [hks]
  exact run_fnN (us := []) (vs := []) F hr hb hx I2 .nil rz rfl l2 q2
/-! ### int(t, 2) -/
namespace Two
open PySem.NumText PySem.Calls
def Bin (c : Nat) : Prop := c = 48 ∨ c = 49
def num (l : List Nat) : Nat := l.foldl (fun a c => a * 2 + (c - 48)) 0
theorem Bin.plain {c : Nat} (h : Bin c) : c ≠ 95 ∧ c ≠ 0 ∧ c < 128 ∧ 33 ≤ c ∧ c ≠ 32 ∧ c ≠ 43 ∧ c ≠ 45 := by
  rcases h with e | e <;> subst e <;> decide
theorem one {ds : Array Nat} {b : Bool} {c : Nat} (h : Bin c) : PySem.NumText.step 2 (ds, b) c = some (ds.push (c - 48), true) := by
  rcases h with e | e <;> subst e <;> rfl
theorem more : ∀ (cs : List Nat) (ds : Array Nat), (∀ c ∈ cs, Bin c) → cs.foldlM (PySem.NumText.step 2) (ds, true) = some ((ds.toList ++ cs.map (· - 48)).toArray, true)
  | [], ds, _ => by simp
  | c :: cs, ds, h => by
    rw [List.foldlM_cons, one (h c (List.mem_cons_self ..))]
    refine (more cs (ds.push (c - 48)) fun d hd => h d (List.mem_cons_of_mem _ hd)).trans ?_
    simp
theorem all {cs : List Nat} (h : ∀ c ∈ cs, Bin c) (hne : cs ≠ []) : digits? 2 cs = some (cs.map (· - 48)).toArray := by
  cases cs with
  | nil => exact absurd rfl hne
  | cons c cs =>
    have e : List.foldlM (PySem.NumText.step 2) ((#[] : Array Nat), false) (c :: cs) = some (((c :: cs).map (· - 48)).toArray, true) := by
      rw [List.foldlM_cons, one (h c (List.mem_cons_self ..))]
      refine (more cs (#[].push (c - 48)) fun d hd => h d (List.mem_cons_of_mem _ hd)).trans ?_
      simp
    unfold digits?
    rw [e]
    rfl
theorem worth (l : List Nat) : (l.map (· - 48)).toArray.foldl (fun acc d => acc * 2 + d) 0 = num l := by
  rw [← Array.foldl_toList]
  unfold num
  rw [List.foldl_map]
theorem noBlank {cs : List Nat} (h : ∀ c ∈ cs, Bin c) : cs.dropWhile blank = cs := by
  cases cs with
  | nil => rfl
  | cons c cs =>
    have := (h c (List.mem_cons_self ..)).plain
    exact dropWhile_of (by omega)
theorem noSign {cs : List Nat} (h : ∀ c ∈ cs, Bin c) : sign cs = (false, cs) := by
  cases cs with
  | nil => rfl
  | cons c cs =>
    have := (h c (List.mem_cons_self ..)).plain
    exact sign_of (by omega) (by omega)
theorem noPre {cs : List Nat} (h : ∀ c ∈ cs, Bin c) : based 2 cs = (2, false, cs) := by
  match cs, h with
  | [], _ => rfl
  | [a], h =>
    rcases h a (List.mem_cons_self ..) with e | e <;> subst e <;> rfl
  | a :: c :: r, h =>
    rcases h a (List.mem_cons_self ..) with e | e <;> subst e <;>
      rcases h c (List.mem_cons_of_mem _ (List.mem_cons_self ..)) with e | e <;> subst e <;> rfl
theorem read {cs : List Nat} (h : ∀ c ∈ cs, Bin c) (hne : cs ≠ []) : (int_private% "readNumeral") 0 2 cs = (int_private% "Numeral.value") ((num cs : Nat) : Int) := by
  have hb : based 2 cs = (2, false, cs) := noPre h
  have hr : ∀ c ∈ cs.reverse, Bin c := fun c hc => h c (List.mem_reverse.mp hc)
  rw [readNumeral_eq 0 2 cs, noBlank h, noSign h]
  show judge 0 false (based 2 cs).1 (based 2 cs).2.1 (digits? (based 2 cs).1 (((based 2 cs).2.2.reverse.dropWhile blank).reverse)) = _
  rw [hb]
  show judge 0 false 2 false (digits? 2 ((cs.reverse.dropWhile blank).reverse)) = _
  rw [noBlank hr, List.reverse_reverse, all h hne]
  show (int_private% "Numeral.value") (((cs.map (· - 48)).toArray.foldl (fun acc d => acc * 2 + d) 0 : Nat) : Int) = _
  rw [worth]
theorem seen {x : Str} (h : ∀ c ∈ x.cps.toList, Bin c) : numTextOf x = x.cps.toList ∧ numSeenOf x = x.cps.toList := by
  have e1 : numTextOf x = x.cps.toList := if_pos (by
    rw [← Array.all_toList, List.all_eq_true]
    exact fun c hc => decide_eq_true (h c hc).plain.2.2.1)
  refine ⟨e1, ?_⟩
  show List.takeWhile _ (numTextOf x) = _
  rw [e1]
  exact takeWhile_all fun c hc => bne_iff_ne.mpr (h c hc).plain.2.1
set_option maxHeartbeats 4000000 in
theorem gives {x : PySem.Str} {u t : Tok} (hl : x.length ≤ 640) (h : ∀ c ∈ x.cps.toList, Bin c) (hne : x.cps.toList ≠ []) :
    Gives (Builtin.«int.__new__» ⟨[.type "int", .str x u, .int 2 t], []⟩) (.int ((num x.cps.toList : Nat) : Int)) :=
  .of_wp fun M A E s Q hQ => by
    obtain ⟨hp, g, d, tk, os⟩ := s
    have f1 := F.conv_sub_int
    have f2 := F.madeHere_int
    have f6 : typeOf (.str x u) = pure (.type "str") := rfl
    obtain ⟨e1, e2⟩ := seen h
    have hk : Hx.Hid ((numSeenOf x).length ≤ 640 ∧ (int_private% "readNumeral") 0 2 (numSeenOf x) = (int_private% "Numeral.value") ((num x.cps.toList : Nat) : Int) ∧ ((numSeenOf x).length == (numTextOf x).length) = true) := by
      refine ⟨?_, ?_, ?_⟩
      · rw [e2, Array.length_toList]
        exact hl
      · rw [e2]
        exact read h hne
      · rw [e1, e2]
        exact beq_self_eq_true _
    clear e1 e2 hl hne h
    repeat (any_goals (first
      | assumption
      | ((with_reducible show wpAny _ _ ((int_private% "intFromText") _ _ _) _ _ _); refine Hx.wp_textB hk.out.1 hk.out.2.1 hk.out.2.2 ?_)
      | wp_step))
    all_goals (try exact ⟨_, rfl, hQ⟩)
end Two
def rIntBin : List V → Hp → VK → Prop := fun xs H Q => ∃ l : List Nat, xs = [.str (SX.S l), .int 2] ∧ (l ≠ [] ∧ l.length ≤ 640 ∧ ∀ c ∈ l, Two.Bin c) ∧ Q (.int ((Two.num l : Nat) : Int)) H
theorem call_int_bin {X : Cx} : CallR X (.type "int") rIntBin := by
  intro pins s σ H xs us Q I r h
  obtain ⟨l, rfl, ⟨hne, hl, hx⟩, q⟩ := h
  obtain ⟨u, w', rfl, ⟨t1, rfl⟩, ⟨t2, rfl⟩⟩ := vals2 r
  exact callType_new F.called_int F.newNe_int (Hx.typeCall_int_2 _ _) (Hx.newCall_int_2 _ _) (fun obj => F.initArgs_range_2 obj _ _) F.entry_int_new
    (Two.gives (x := SX.S l) (u := t1) (t := t2) (by rw [SX.S_len]; exact hl) hx hne).meets (show (Made.int ((Two.num l : Nat) : Int)).post _ s from ⟨rfl, .int ((Two.num l : Nat) : Int), H, I.tok _, ⟨_, rfl⟩, q⟩)
/-! ### f"{n:b}" -/
def tFmtB (te : TE) : TE := fun σ H Q => te σ H fun x H1 => ∃ n : Nat, x = .int (n : Int) ∧ (dig n).length ≤ 16777216 ∧ Q (.str (SX.S (dig n))) H1
theorem spec_b : Builtin.Float.parseFormatSpec (Str.ofString "b").cps.toList "int" 62 = .ok { fill := 32, align := 62, type := some 98 } := by kernel_rfl
theorem pe_fmtB {X : Cx} {e : Expr} {te : TE} {j : Nat} {p1 p2 p3 p4 : Pos} (he : PE X e te) : PE X (.JoinedStr [.FormattedValue e (-1) (some (.JoinedStr [.Constant (.str "b") j p1] p2)) p3] p4) (tFmtB te) := by
  refine ⟨fun pins s σ H Q I h => ?_⟩
  refine wpAny_JoinedStr_one (wpAny_FormattedValue_spec (thn (he.run pins s σ H _ I h) fun v s1 hv => ?_))
  obtain ⟨x, H1, I1, r1, n, rfl, hz, q⟩ := hv
  obtain ⟨t, rfl⟩ := r1
  refine wpAny_JoinedStr_one (thn ((pe_str (X := X) (x := "b") (j := j) (pos := p1)).run pins s1 σ H1 (fun v H2 => v = .str "b" ∧ H2 = H1) I1 ⟨rfl, rfl⟩) fun v s2 hv => ?_)
  obtain ⟨x, H2, I2, r2, rfl, rfl⟩ := hv
  obtain ⟨t2, rfl⟩ := r2
  have hd : (Nat.toDigits 2 n).length ≤ sizeLine := by
    have h := hz
    unfold dig at h
    rw [List.length_map] at h
    rw [sizeLine_eq]
    exact h
  refine ⟨_, t2, rfl, wpAny_formatField_spec (by decide) (fun s' => typeIs_int s' _ t) F.slot_int_format F.entry_int_format F.args_int_format_2 (fun u => gives_fmtB n t u hd spec_b (by decide) (by decide)) ⟨.str (SX.S (dig n)), _, I2.tok _, ⟨_, rfl⟩, q⟩ (by decide) ?_⟩
  show (List.toArray _).size ≤ _
  rw [List.size_toArray, List.length_map]
  exact hd
/-! ### a def under its name, with its promise -/
structure Df (K : PySem.W.Frag) (mg : Str → Option Value) (x : Str) (st : Stmt) (ps : List Str) (f : Addr) (fd : FuncData) : Prop where
  fn : Fun K x x st f fd
  bi : Binds K fd ps []
  gl : mg x = some (.ref f)
structure Cl (P : Program) (w : World) (K : PySem.W.Frag) (mg : Str → Option Value) (base : Heap) (CX : CXT) (k : Nat) (x : Str) (sp : Sp) : Prop where
  ex : ∃ (f : Addr) (fd : FuncData) (ps : List Str), FnOk P w K mg base CX k f fd ps sp ∧ mg x = some (.ref f) ∧ PySem.W.keepIn K (.ref f) = true ∧ Binds K fd ps []
structure Ck (P : Program) (w : World) (K : PySem.W.Frag) (mg : Str → Option Value) (base : Heap) (CX : CXT) (k n : Nat) (x : Str) (ks : List Str) (gV : List V → List V → List V) (sp : Sp) : Prop where
  ex : ∃ (f : Addr) (fd : FuncData) (ps : List Str) (g : List Value → List Value → List Value), FnOk P w K mg base CX k f fd ps sp ∧ mg x = some (.ref f) ∧ PySem.W.keepIn K (.ref f) = true ∧ KBn K fd ps n ks g gV
section
variable {P : Program} {w : World} {K : PySem.W.Frag} {mg : Str → Option Value} {base : Heap} {CX : CXT} {k j : Nat} {x : Str} {sp : Sp}
theorem Df.cl {st : Stmt} {ps : List Str} {f : Addr} {fd : FuncData} (D : Df K mg x st ps f fd) (h : FnOk P w K mg base CX k f fd ps sp) : Cl P w K mg base CX k x sp := ⟨f, fd, ps, h, D.gl, D.fn.kp, D.bi⟩
theorem pe_cl {X : Cx} {p pos : Pos} {e : Expr} {es : List Expr} {t : TA} (c : Cl X.prog X.w X.K X.mg X.base CX0 k x sp) (hr : Room j X.A) (hk : k ≤ j) (hg : Gl X x) (ha : PA X (e :: es) t)
    (hdb : (x == ("__debug__" : Str)) = false := by decide) (he : starEach (e :: es) X.env = (false, eval e X.env) :: starEach es X.env := by rfl) (hpl : (backTo pos (starEach es X.env)).any (·.1) = false := by rfl) :
    PE X (.Call (.Name x p) (e :: es) [] pos) (tCall sp [] E0 t) := by
  obtain ⟨f, fd, ps, F, hm, kp, b⟩ := c.ex
  exact pe_call F (hr.mono hk) hg hm kp b .nil pass0 ha hdb he hpl
theorem pe_ck0 {X : Cx} {p pos : Pos} {kws : List Keyword} {tk : TA} {ks : List Str} {gV : List V → List V → List V} (c : Ck X.prog X.w X.K X.mg X.base CX0 k 0 x ks gV sp) (hr : Room j X.A) (hk : k ≤ j) (hg : Gl X x) (hkw : PK X kws tk)
    (hall : (backToKw pos (keywordEach kws X.env)).all (·.1.isSome) = true := by rfl) (hks : (backToKw pos (keywordEach kws X.env)).filterMap (·.1) = ks := by rfl)
    (hdb : (x == ("__debug__" : Str)) = false := by decide)
    (hpl : ((backTo pos (starEach [] X.env)).any (·.1) || (backToKw pos (keywordEach kws X.env)).any (·.1.isNone)) = false := by rfl) :
    PE X (.Call (.Name x p) [] kws pos) (tCallN 0 ks.length sp gV E0 tNil tk) := by
  obtain ⟨f, fd, ps, g, F, hm, kp, b⟩ := c.ex
  exact pe_callN0 F (hr.mono hk) hg hm kp b pass0 hkw hall hks hdb hpl
end
/-! ### rules that speak of the written part, K named (a comprehension's block asks it so) -/
section
variable {X : Cx}
theorem ixL (K : PySem.W.Frag) (h : X.K = K := by rfl) : IxR X (rIxL K) := by
  subst h
  exact ix_list
theorem ixT (K : PySem.W.Frag) (h : X.K = K := by rfl) : IxR X (rIxT K) := by
  subst h
  exact ix_tup
def rLenS (K : PySem.W.Frag) : List V → Hp → VK → Prop := fun xs H Q => ∃ p ys, xs = [.ref p] ∧ (SqL K H p ys ∨ SqT K H p ys) ∧ Q (.int (ys.length : Nat)) H
theorem lenS (K : PySem.W.Frag) (h : X.K = K := by rfl) : CallR X (.builtin "len") (rLenS K) := by
  subst h
  exact call_len_seq
def rListOf (K : PySem.W.Frag) : List V → Hp → VK → Prop := fun xs H Q => ∃ p ys, xs = [.ref p] ∧ (SqL K H p ys ∨ SqT K H p ys) ∧ ∀ l, H l = none → Q (.ref l) (upd H l (.lst ys))
theorem listOf (K : PySem.W.Frag) (h : X.K = K := by rfl) : CallR X (.type "list") (rListOf K) := by
  subst h
  exact call_list_of
def rTupOf (K : PySem.W.Frag) : List V → Hp → VK → Prop := fun xs H Q => ∃ p ys, xs = [.ref p] ∧ ((SqL K H p ys ∧ ∀ l, H l = none → Q (.ref l) (upd H l (.tup ys))) ∨ (SqT K H p ys ∧ Q (.ref p) H))
theorem tupOf (K : PySem.W.Frag) (h : X.K = K := by rfl) : CallR X (.type "tuple") (rTupOf K) := by
  subst h
  exact call_tuple_of
theorem crSum (K : PySem.W.Frag) (hc : X.calm = true) (h : X.K = K := by rfl) : CallR X (.builtin "sum") (rSum K) := by
  subst h
  exact cr_sum hc
theorem crAll (K : PySem.W.Frag) (hc : X.calm = true) (h : X.K = K := by rfl) : CallR X (.builtin "all") (rAll K) := by
  subst h
  exact cr_all hc
theorem isiK (K : PySem.W.Frag) (h : X.K = K := by rfl) : CallR X (.builtin "isinstance") (rIsi K) := by
  subst h
  exact call_isi
theorem opCatA (K : PySem.W.Frag) (h : X.K = K := by rfl) : OpR X (binaryOp .Add) (rCatA K) := by
  subst h
  exact op_catA
theorem slL (K : PySem.W.Frag) (h : X.K = K := by rfl) : SlR X (rSlL K) := by
  subst h
  exact sl_list
def rJoin (K : PySem.W.Frag) : V → List V → Hp → VK → Prop := fun x xs H Q => ∃ (a : Str) (p : Addr) (ys : List Str), x = .str a ∧ xs = [.ref p] ∧ (SqL K H p (ys.map V.str) ∨ SqT K H p (ys.map V.str)) ∧ (ys.map (·.length)).sum + ys.length * a.length ≤ 16777216 ∧ Q (.str (Txt.join a ys)) H
theorem mtJoin (K : PySem.W.Frag) (h : X.K = K := by rfl) : MtR X "str.join" (rJoin K) := by
  subst h
  exact mt_join
theorem slTA (K : PySem.W.Frag) (h : X.K = K := by rfl) : SlR X (rSlA K) := by
  subst h
  exact sl_tupA
/-- a built-in class as a value -/
theorem pe_ty {x : Str} {pos : Pos} (t : String) (hg : Gl X x) (hm : X.mg x = none) (hv : bootBuiltins x = some (.type t)) (hn : x ≠ "__name__" := by decide +kernel) (hd : (x == ("__debug__" : Str)) = false := by decide +kernel) : PE X (.Name x pos) (tC (.ty t)) := pe_bltn hg hm hv rfl hn hd
end

theorem Vals.rev : ∀ {xs : List V} {us : List Value}, Vals xs us → Vals xs.reverse us.reverse
  | _, _, .nil => .nil
  | _, _, .cons r t => by
    rw [List.reverse_cons, List.reverse_cons]
    exact Vals.append (Vals.rev t) (.cons r .nil)
theorem Fun.kb {K : PySem.W.Frag} {x qual : Str} {st : Stmt} {f : Addr} {fd : FuncData} {ps ks : List Str} {g : List Value → List Value → List Value} {gV : List V → List V → List V} (F : Fun K x qual st f fd) (n : Nat)
    (h : ∀ (kV doc pm : Value) (an : Option Addr) (cdv ct : Value) (us ws : List Value), us.length = n → ws.length = ks.length → bindArgs (PySem.W.fnOf x qual (defArgs st) (defBody st) (defScope st) .none kV doc pm an cdv ct) ⟨us, ks.zip ws⟩ = pure (ps.zip (g us ws)))
    (hrel : ∀ {vs : List V} {us : List Value} {zs : List V} {ws : List Value}, Vals vs us → Vals zs ws → Vals (gV vs zs) (g us ws)) : KBn K fd ps n ks g gV := by
  obtain ⟨oc, od, kV, doc, pm, an, cdv, ct, osl, rfl, lk, hcd⟩ := F.ex
  exact ⟨fun s us ws _ l1 l2 => .of_eq (h kV doc pm an cdv ct us ws l1 l2), hrel⟩

/-! ### own errors -/
structure Exn (K : PySem.W.Frag) (mg : Str → Option Value) (x : Str) (C : Addr) : Prop where
  inn : PySem.W.excIn K C [.type "ValueError", .type "Exception", .type "BaseException", .type "object"] "ValueError.__new__" = true
  gl : mg x = some (.ref C)
  kp : PySem.W.keepIn K (.ref C) = true
  ba : PySem.W.subIn K (.ref C) (.type "BaseException") = some true
  ty : PySem.W.typeIn K (.ref C) = some (.type "type")
section
variable {X : Cx} {C : Addr} {x m : Str} {j k i : Nat} {p p2 pos pos2 : Pos} {W : WX} {sp : Sp} {e : Expr} {es : List Expr} {t : TA}
theorem ps_raiseE (e : Exn X.K X.mg x C) (hc : X.calm = true) (tk : Takes X W) (hg : Gl X x) (hdb : (x == ("__debug__" : Str)) = false := by decide) :
    PS X (.Raise (some (.Call (.Name x p) [.Constant (.str m) j p2] [] pos)) none pos2) (fun _ σ H => W (.ref C) none σ H) :=
  ps_raise hc tk (pmk_own PySem.F.excBase_ValueError e.inn e.gl e.kp (raises_own e.ba e.ty) hg hdb)
theorem pe_clX (c : Cl X.prog X.w X.K X.mg X.base (L2.CX X.prog X.w) k x sp) (hr : Room i X.A) (hk : k ≤ i) (hg : Gl X x) (tk : Takes X W) (ha : PA X (e :: es) t)
    (hdb : (x == ("__debug__" : Str)) = false := by decide) (he : starEach (e :: es) X.env = (false, eval e X.env) :: starEach es X.env := by rfl) (hpl : (backTo pos (starEach es X.env)).any (·.1) = false := by rfl) :
    PE X (.Call (.Name x p) (e :: es) [] pos) (tCallS sp (WE W) t) := by
  obtain ⟨f, fd, ps, F, hm, kp, b⟩ := c.ex
  exact pe_callS F (hr.mono hk) hg hm kp b (fun σ => passAt tk σ) ha hdb he hpl
end

/-! ### data: what a value is, to any depth -/
theorem dp_all_len {K : PySem.W.Frag} {H : Hp} : ∀ {vs : List V} {ds : List PyData}, DpAll K H vs ds → vs.length = ds.length
  | _, _, .nil => rfl
  | _, _, .cons _ t => congrArg Nat.succ (dp_all_len t)
theorem dp_all_get {K : PySem.W.Frag} {H : Hp} : ∀ {vs : List V} {ds : List PyData} {i : Nat} {v : V}, DpAll K H vs ds → vs[i]? = some v → ∃ d, ds[i]? = some d ∧ Dp K H v d
  | _, _, _, _, .nil, h => by simp at h
  | _, _, 0, v, .cons h t, e => by
    have e' := Option.some.inj e
    subst e'
    exact ⟨_, rfl, h⟩
  | _, _, i + 1, v, .cons h t, e => dp_all_get (i := i) t e
theorem same_sqt {K : PySem.W.Frag} {H H' : Hp} {a : Addr} {xs : List V} (e : Same H H') (h : SqT K H a xs) : SqT K H' a xs := by
  rcases h with (h | ⟨o, h⟩) | h
  · exact .inl (.inl (e _ _ h))
  · exact .inl (.inr ⟨o, e _ _ h⟩)
  · exact .inr h
mutual
theorem dp_same {K : PySem.W.Frag} {H H' : Hp} (e : Same H H') : ∀ (d : PyData) {v : V}, Dp K H v d → Dp K H' v d
  | .none, _, .non => .non
  | .bool _, _, .bl b => .bl b
  | .int _, _, .int i => .int i
  | .str _, _, .str x => .str x
  | .list ds, _, .lst hs ha => .lst (e.seq hs) (dps_same e ds ha)
  | .tuple ds, _, .tup hs ha => .tup (same_sqt e hs) (dps_same e ds ha)
  | .dict _, _, h => by cases h
theorem dps_same {K : PySem.W.Frag} {H H' : Hp} (e : Same H H') : ∀ (ds : List PyData) {vs : List V}, DpAll K H vs ds → DpAll K H' vs ds
  | [], _, .nil => .nil
  | d :: ds, _, .cons h t => .cons (dp_same e d h) (dps_same e ds t)
end
def okT (x : Str) : Prop := PySem.PyData.strOk x = true ∧ x.length ≤ 5000
/-- plain data of so many levels at most, nothing large -/
def Gd : Nat → PyData → Prop
  | 0, d => match d with
    | .none => True
    | .bool _ => True
    | .int _ => True
    | .str x => okT x
    | _ => False
  | n + 1, d => match d with
    | .none => True
    | .bool _ => True
    | .int _ => True
    | .str x => okT x
    | .list xs => xs.length ≤ 5000 ∧ ∀ x ∈ xs, Gd n x
    | .tuple xs => xs.length ≤ 5000 ∧ ∀ x ∈ xs, Gd n x
    | .dict _ => False
theorem gd_str {n : Nat} {x : Str} (h : Gd n (.str x)) : okT x := by
  cases n with
  | zero => exact h
  | succ n => exact h
theorem gd_tup {n : Nat} {xs : List PyData} (h : Gd n (.tuple xs)) : xs.length ≤ 5000 ∧ ∃ m, n = m + 1 ∧ ∀ x ∈ xs, Gd m x := by
  cases n with
  | zero => exact h.elim
  | succ n => exact ⟨h.1, n, rfl, h.2⟩
theorem gd_lst {n : Nat} {xs : List PyData} (h : Gd n (.list xs)) : xs.length ≤ 5000 ∧ ∃ m, n = m + 1 ∧ ∀ x ∈ xs, Gd m x := by
  cases n with
  | zero => exact h.elim
  | succ n => exact ⟨h.1, n, rfl, h.2⟩
theorem gd_up : ∀ {n : Nat} {d : PyData}, Gd n d → Gd (n + 1) d
  | 0, .none, h => h
  | 0, .bool _, h => h
  | 0, .int _, h => h
  | 0, .str _, h => h
  | n + 1, .none, h => h
  | n + 1, .bool _, h => h
  | n + 1, .int _, h => h
  | n + 1, .str _, h => h
  | n + 1, .list xs, h => ⟨h.1, fun x hx => gd_up (h.2 x hx)⟩
  | n + 1, .tuple xs, h => ⟨h.1, fun x hx => gd_up (h.2 x hx)⟩
theorem gd_le {n m : Nat} {d : PyData} (h : Gd n d) (hm : n ≤ m) : Gd m d := by
  induction hm with
  | refl => exact h
  | step _ ih => exact gd_up ih
theorem depthAll_le {n : Nat} : ∀ {xs : List PyData}, (∀ x ∈ xs, x.depth ≤ n) → PyData.depthAll xs ≤ n
  | [], _ => by
    unfold PyData.depthAll
    exact Nat.zero_le _
  | x :: xs, h => by
    unfold PyData.depthAll
    exact Nat.max_le.mpr ⟨h x List.mem_cons_self, depthAll_le fun y hy => h y (List.mem_cons_of_mem _ hy)⟩
theorem layAll_of : ∀ {xs : List PyData}, (∀ x ∈ xs, x.canLay0 = true) → PyData.canLayAll0 xs = true
  | [], _ => by
    unfold PyData.canLayAll0
    rfl
  | x :: xs, h => by
    unfold PyData.canLayAll0
    rw [h x List.mem_cons_self, layAll_of fun y hy => h y (List.mem_cons_of_mem _ hy)]
    rfl
theorem gd_facts : ∀ {n : Nat} {d : PyData}, Gd n d → d.canLay0 = true ∧ d.depth ≤ n
  | 0, .none, h => ⟨by unfold PyData.canLay0; rfl, by unfold PyData.depth; omega⟩
  | 0, .bool _, h => ⟨by unfold PyData.canLay0; rfl, by unfold PyData.depth; omega⟩
  | 0, .int _, h => ⟨by unfold PyData.canLay0; rfl, by unfold PyData.depth; omega⟩
  | 0, .str _, h => ⟨by unfold PyData.canLay0; exact h.1, by unfold PyData.depth; omega⟩
  | n + 1, .none, h => ⟨by unfold PyData.canLay0; rfl, by unfold PyData.depth; omega⟩
  | n + 1, .bool _, h => ⟨by unfold PyData.canLay0; rfl, by unfold PyData.depth; omega⟩
  | n + 1, .int _, h => ⟨by unfold PyData.canLay0; rfl, by unfold PyData.depth; omega⟩
  | n + 1, .str _, h => ⟨by unfold PyData.canLay0; exact h.1, by unfold PyData.depth; omega⟩
  | n + 1, .list xs, h => ⟨by unfold PyData.canLay0; exact layAll_of fun x hx => (gd_facts (h.2 x hx)).1, by
      unfold PyData.depth
      have := depthAll_le fun x hx => (gd_facts (h.2 x hx)).2
      omega⟩
  | n + 1, .tuple xs, h => ⟨by unfold PyData.canLay0; exact layAll_of fun x hx => (gd_facts (h.2 x hx)).1, by
      unfold PyData.depth
      have := depthAll_le fun x hx => (gd_facts (h.2 x hx)).2
      omega⟩
theorem gd_shaped {n : Nat} {d : PyData} (h : Gd n d) (hn : n ≤ 64) : SeqAt.shaped d = true := by
  obtain ⟨h1, h2⟩ := gd_facts h
  unfold SeqAt.shaped
  rw [h1, decide_eq_true (Nat.le_trans h2 hn)]
  rfl
/-! ### types -/
def tyN : PyData → String
  | .none => "NoneType"
  | .bool _ => "bool"
  | .int _ => "int"
  | .str _ => "str"
  | .list _ => "list"
  | .tuple _ => "tuple"
  | .dict _ => "dict"
theorem dp_ty {K : PySem.W.Frag} {H : Hp} {v : V} : ∀ {d : PyData}, Dp K H v d → TyX K H v (.type (tyN d))
  | _, .non => .base .non
  | _, .bl b => .base (.bl b)
  | _, .int i => .base (.int i)
  | _, .str x => .base (.str x)
  | _, .lst hs _ => by
    rcases hs with (h | ⟨o, h⟩) | ⟨o, _, _, h, hc, _⟩
    · exact .base (.lst h)
    · exact .base (.frz h)
    · exact .kList h hc
  | _, .tup hs _ => by
    rcases hs with (h | ⟨o, h⟩) | ⟨o, _, _, h, hc, _⟩
    · exact .base (.tup h)
    · exact .fTuple h
    · exact .kTuple h hc
def isInt : PyData → Bool
  | .int _ => true
  | .bool _ => true
  | _ => false
def isBool : PyData → Bool
  | .bool _ => true
  | _ => false
def isStr : PyData → Bool
  | .str _ => true
  | _ => false
def isTup : PyData → Bool
  | .tuple _ => true
  | _ => false
theorem kit_int {K : PySem.W.Frag} (d : PyData) : PySem.W.kitOne K (.type (tyN d)) (.type "int") = some (isInt d) := by
  cases d with
  | none => exact kit_ty (show kitB "NoneType" "int" = some false by decide +kernel)
  | bool _ => exact kit_ty (show kitB "bool" "int" = some true by decide +kernel)
  | int _ => exact kit_ty (show kitB "int" "int" = some true by decide +kernel)
  | str _ => exact kit_ty (show kitB "str" "int" = some false by decide +kernel)
  | list _ => exact kit_ty (show kitB "list" "int" = some false by decide +kernel)
  | tuple _ => exact kit_ty (show kitB "tuple" "int" = some false by decide +kernel)
  | dict _ => exact kit_ty (show kitB "dict" "int" = some false by decide +kernel)
theorem kit_bool {K : PySem.W.Frag} (d : PyData) : PySem.W.kitOne K (.type (tyN d)) (.type "bool") = some (isBool d) := by
  cases d with
  | none => exact kit_ty (show kitB "NoneType" "bool" = some false by decide +kernel)
  | bool _ => exact kit_ty (show kitB "bool" "bool" = some true by decide +kernel)
  | int _ => exact kit_ty (show kitB "int" "bool" = some false by decide +kernel)
  | str _ => exact kit_ty (show kitB "str" "bool" = some false by decide +kernel)
  | list _ => exact kit_ty (show kitB "list" "bool" = some false by decide +kernel)
  | tuple _ => exact kit_ty (show kitB "tuple" "bool" = some false by decide +kernel)
  | dict _ => exact kit_ty (show kitB "dict" "bool" = some false by decide +kernel)
theorem kit_str {K : PySem.W.Frag} (d : PyData) : PySem.W.kitOne K (.type (tyN d)) (.type "str") = some (isStr d) := by
  cases d with
  | none => exact kit_ty (show kitB "NoneType" "str" = some false by decide +kernel)
  | bool _ => exact kit_ty (show kitB "bool" "str" = some false by decide +kernel)
  | int _ => exact kit_ty (show kitB "int" "str" = some false by decide +kernel)
  | str _ => exact kit_ty (show kitB "str" "str" = some true by decide +kernel)
  | list _ => exact kit_ty (show kitB "list" "str" = some false by decide +kernel)
  | tuple _ => exact kit_ty (show kitB "tuple" "str" = some false by decide +kernel)
  | dict _ => exact kit_ty (show kitB "dict" "str" = some false by decide +kernel)
theorem kit_tup {K : PySem.W.Frag} (d : PyData) : PySem.W.kitOne K (.type (tyN d)) (.type "tuple") = some (isTup d) := by
  cases d with
  | none => exact kit_ty (show kitB "NoneType" "tuple" = some false by decide +kernel)
  | bool _ => exact kit_ty (show kitB "bool" "tuple" = some false by decide +kernel)
  | int _ => exact kit_ty (show kitB "int" "tuple" = some false by decide +kernel)
  | str _ => exact kit_ty (show kitB "str" "tuple" = some false by decide +kernel)
  | list _ => exact kit_ty (show kitB "list" "tuple" = some false by decide +kernel)
  | tuple _ => exact kit_ty (show kitB "tuple" "tuple" = some true by decide +kernel)
  | dict _ => exact kit_ty (show kitB "dict" "tuple" = some false by decide +kernel)
/-! ### what a block is -/
def whole : PyData → Int → Int → Bool
  | .int i, lo, hi => decide (lo ≤ i) && decide (i ≤ hi)
  | _, _, _ => false
def strLen (m : Int) : PyData → Bool
  | .str x => decide ((x.length : Int) = m)
  | _ => false
def bitRow (m : Int) : PyData → Bool
  | .str x => decide ((x.length : Int) = m) && x.cps.toList.all (fun c => c == 48 || c == 49)
  | _ => false
def rowsOk : PyData → Int → Int → Bool
  | .tuple xs, many, m => decide ((xs.length : Int) = many) && xs.all (bitRow m)
  | _, _, _ => false
def named (x : Str) (d : PyData) : Bool := PyData.eqv d (.str x)
def genRows : PyData → PyData → PyData → Bool
  | .int n, .int m, r => rowsOk r (1 * 2 ^ n.toNat) m
  | _, _, _ => false
def genOk : PyData → Bool
  | .tuple [k, n, m, r] => named "generator" k && whole n 1 10 && whole m 1 40 && genRows n m r
  | _ => false
def sumLe : PyData → PyData → Bool
  | .int n, .int l => decide (n + l ≤ 12)
  | _, _ => false
def funTabs : PyData → PyData → PyData → PyData → Bool
  | .int n, .int l, .int m, .tuple ts => decide ((ts.length : Int) = 1 * 2 ^ n.toNat) && ts.all (fun r => rowsOk r (1 * 2 ^ l.toNat) m)
  | _, _, _, _ => false
def funOk : PyData → Bool
  | .tuple [k, n, l, m, t] => named "function" k && whole n 1 8 && whole l 1 8 && sumLe n l && whole m 1 40 && funTabs n l m t
  | _ => false
theorem gen_no {xs : List PyData} (h : ¬ xs.length = 4) : genOk (.tuple xs) = false := by
  unfold genOk
  split
  · rename_i e
    cases e
    exact absurd rfl h
  · rfl
theorem fun_no {xs : List PyData} (h : ¬ xs.length = 5) : funOk (.tuple xs) = false := by
  unfold funOk
  split
  · rename_i e
    cases e
    exact absurd rfl h
  · rfl
def blockOk (d : PyData) : Bool := genOk d || funOk d
/-! ### strip of 0 and 1 -/
theorem strip_all (x : Str) : decide (V.str (Txt.stripChars x "01") = V.str "") = x.cps.toList.all (fun c => c == 48 || c == 49) := by
  have goes : ∀ c : Nat, (("01" : Str).cps.contains c) = (c == 48 || c == 49) := fun c => by
    show (#[48, 49] : Array Nat).contains c = _
    by_cases h1 : c = 48
    · subst h1
      simp
    · by_cases h2 : c = 49
      · subst h2
        simp
      · simp [h1, h2]
  have hn : x.cps.toList.length = x.length := by simp [Str.length]
  have key : Txt.stripChars x "01" = "" ↔ ∀ k, k < x.length → (("01" : Str).cps.contains (x.cps.getD k 0)) = true := by
    unfold Txt.stripChars
    rw [stripBy_eq]
    obtain ⟨a1, a2, a3⟩ := lo_facts ("01" : Str).cps.contains x
    obtain ⟨b1, b2, b3, _⟩ := hi_facts ("01" : Str).cps.contains x _ a1
    generalize stripLo ("01" : Str).cps.contains true x = lo at a1 a2 a3 b1 b2 b3
    generalize stripHi ("01" : Str).cps.contains true x lo = hi at b1 b2 b3
    have hl : (Builtin.Str.strSub x lo hi).cps.toList = (x.cps.toList.drop lo).take (hi - lo) := PySem.StrLaws.strSub_toList x lo hi
    constructor
    · intro e k hk
      have h0 : (x.cps.toList.drop lo).take (hi - lo) = [] := by
        rw [← hl, e]
        rfl
      have h1 := congrArg List.length h0
      rw [List.length_take, List.length_drop, hn] at h1
      have h2 : min (hi - lo) (x.length - lo) = 0 := h1
      by_cases hk' : k < lo
      · exact a2 k hk'
      · exact b3 k (by omega) hk
    · intro h
      have e : lo = x.length := by
        rcases a3 with z | z
        · exact z
        · by_cases c : lo < x.length
          · rw [h lo c] at z
            cases z
          · omega
      refine TL.ext_tl ?_
      show (Builtin.Str.strSub x lo hi).cps.toList = []
      rw [hl, List.drop_eq_nil_of_le (by omega)]
      exact List.take_nil
  have e2 : (∀ k, k < x.length → (("01" : Str).cps.contains (x.cps.getD k 0)) = true) ↔ x.cps.toList.all (fun c => c == 48 || c == 49) = true := by
    rw [List.all_eq_true]
    constructor
    · intro h c hc
      obtain ⟨k, hk, e⟩ := List.getElem_of_mem hc
      have := h k (by omega)
      rw [← getD_list, List.getD_eq_getElem?_getD, List.getElem?_eq_getElem hk] at this
      rw [← goes c, ← e]
      exact this
    · intro h k hk
      rw [← getD_list, List.getD_eq_getElem?_getD, List.getElem?_eq_getElem (by omega)]
      rw [goes]
      exact h _ (List.getElem_mem _)
  by_cases c : Txt.stripChars x "01" = ""
  · rw [c, decide_eq_true rfl]
    exact (e2.mp (key.mp c)).symm
  · rw [decide_eq_false fun z => c (V.str.inj z)]
    cases hq : x.cps.toList.all (fun c => c == 48 || c == 49)
    · rfl
    · exact absurd (key.mpr (e2.mpr hq)) c
/-! ### what the law makes -/
def rowsD (rows : List (List Bool)) : PyData := .tuple (rows.map fun r => .str (sb r))
def tabD (n m : Nat) (rows : List (List Bool)) : PyData := .tuple [.str "generator", .int (n : Int), .int (m : Int), rowsD rows]
def funD (n l m : Nat) (tabs : List (List (List Bool))) : PyData := .tuple [.str "function", .int (n : Int), .int (l : Int), .int (m : Int), .tuple (tabs.map rowsD)]
theorem dp_bits {K : PySem.W.Frag} {H : Hp} : ∀ rows : List (List Bool), DpAll K H (rows.map fun r => V.str (sb r)) (rows.map fun r => PyData.str (sb r))
  | [] => .nil
  | r :: rows => .cons (.str _) (dp_bits rows)
theorem dpAll_snoc {K : PySem.W.Frag} {H : Hp} {v : V} {d : PyData} : ∀ {vs : List V} {ds : List PyData}, DpAll K H vs ds → Dp K H v d → DpAll K H (vs ++ [v]) (ds ++ [d])
  | _, _, .nil, h => .cons h .nil
  | _, _, .cons h t, h' => .cons h (dpAll_snoc t h')

def topS (i : Nat) : Stmt := PySem.Challenge.pw_breakback_k04_trees_counters_and_hard_bi.main.body.getD i (.Pass ⟨0, 0, 0, 0⟩)
abbrev s_bits : Stmt := topS 1
abbrev s_all_bits : Stmt := topS 2
abbrev s_number_of : Stmt := topS 3
abbrev s_parity : Stmt := topS 4
abbrev s_is_whole : Stmt := topS 11
abbrev s_are_rows : Stmt := topS 12
abbrev s_is_generator : Stmt := topS 13
abbrev s_is_function : Stmt := topS 14
abbrev s_check_block : Stmt := topS 15
abbrev s_generator_parts : Stmt := topS 16
abbrev s_function_parts : Stmt := topS 17
abbrev s_row_of : Stmt := topS 18
abbrev s_value_of : Stmt := topS 19
abbrev s_go_down : Stmt := topS 20
abbrev s_tree : Stmt := topS 21
abbrev s_counter : Stmt := topS 22
abbrev s_hardbits : Stmt := topS 23
abbrev s_law_draws : Stmt := topS 25
abbrev s_law_take : Stmt := topS 26
abbrev s_law_string : Stmt := topS 27
abbrev s_law_table : Stmt := topS 28
abbrev s_law_function : Stmt := topS 29
abbrev s_law_number : Stmt := topS 30
abbrev s_law_bits : Stmt := topS 31
abbrev s_law_same : Stmt := topS 32
abbrev s_law_tree : Stmt := topS 33
abbrev s_law_hardbits : Stmt := topS 34
abbrev s_law_spoilt_row : Stmt := topS 35
abbrev s_law_told : Stmt := topS 36
abbrev s_law_looks_right : Stmt := topS 37
abbrev s_law_edges_right : Stmt := topS 38
abbrev s_law : Stmt := topS 39
theorem sc_bits : FnScope ["length", "number"] ["length", "number"] (defScope s_bits) := ⟨rfl, rfl, rfl, by decide +kernel, rfl, by decide +kernel, by decide +kernel⟩
theorem sc_all_bits : FnScope ["length", "number"] ["length"] (defScope s_all_bits) := ⟨rfl, rfl, rfl, by decide +kernel, rfl, by decide +kernel, by decide +kernel⟩
theorem sc_number_of : FnScope ["string"] ["string"] (defScope s_number_of) := ⟨rfl, rfl, rfl, by decide +kernel, rfl, by decide +kernel, by decide +kernel⟩
theorem sc_parity : FnScope ["first", "second", "both"] ["first", "second"] (defScope s_parity) := ⟨rfl, rfl, rfl, by decide +kernel, rfl, by decide +kernel, by decide +kernel⟩
theorem sc_is_whole : FnScope ["value", "low", "high"] ["value", "low", "high"] (defScope s_is_whole) := ⟨rfl, rfl, rfl, by decide +kernel, rfl, by decide +kernel, by decide +kernel⟩
theorem sc_are_rows : FnScope ["value", "many", "m", "row"] ["value", "many", "m"] (defScope s_are_rows) := ⟨rfl, rfl, rfl, by decide +kernel, rfl, by decide +kernel, by decide +kernel⟩
theorem sc_is_generator : FnScope ["value", "kind", "n", "m", "rows"] ["value"] (defScope s_is_generator) := ⟨rfl, rfl, rfl, by decide +kernel, rfl, by decide +kernel, by decide +kernel⟩
theorem sc_is_function : FnScope ["value", "kind", "n", "l", "m", "tables", "rows"] ["value"] (defScope s_is_function) := ⟨rfl, rfl, rfl, by decide +kernel, rfl, by decide +kernel, by decide +kernel⟩
theorem sc_check_block : FnScope ["block"] ["block"] (defScope s_check_block) := ⟨rfl, rfl, rfl, by decide +kernel, rfl, by decide +kernel, by decide +kernel⟩
theorem sc_generator_parts : FnScope ["block"] ["block"] (defScope s_generator_parts) := ⟨rfl, rfl, rfl, by decide +kernel, rfl, by decide +kernel, by decide +kernel⟩
theorem sc_function_parts : FnScope ["block"] ["block"] (defScope s_function_parts) := ⟨rfl, rfl, rfl, by decide +kernel, rfl, by decide +kernel, by decide +kernel⟩
theorem sc_row_of : FnScope ["block", "string", "rows"] ["block", "string"] (defScope s_row_of) := ⟨rfl, rfl, rfl, by decide +kernel, rfl, by decide +kernel, by decide +kernel⟩
theorem sc_value_of : FnScope ["block", "key", "string", "tables"] ["block", "key", "string"] (defScope s_value_of) := ⟨rfl, rfl, rfl, by decide +kernel, rfl, by decide +kernel, by decide +kernel⟩
theorem sc_go_down : FnScope ["rows", "label", "path", "n", "bit", "row"] ["rows", "label", "path"] (defScope s_go_down) := ⟨rfl, rfl, rfl, by decide +kernel, rfl, by decide +kernel, by decide +kernel⟩
theorem sc_tree : FnScope ["block", "d", "n", "m", "rows", "paths", "tables", "key", "path"] ["block", "d"] (defScope s_tree) := ⟨rfl, rfl, rfl, by decide +kernel, rfl, by decide +kernel, by decide +kernel⟩
theorem sc_counter : FnScope ["block", "c", "n", "l", "m", "tables", "values"] ["block", "c"] (defScope s_counter) := ⟨rfl, rfl, rfl, by decide +kernel, rfl, by decide +kernel, by decide +kernel⟩
theorem sc_hardbits : FnScope ["block", "n", "m", "rows", "seeds", "made", "x", "r"] ["block"] (defScope s_hardbits) := ⟨rfl, rfl, rfl, by decide +kernel, rfl, by decide +kernel, by decide +kernel⟩
theorem sc_law_draws : FnScope ["script", "many", "rests", "draws", "k", "cell", "at", "mixed"] ["script", "many"] (defScope s_law_draws) := ⟨rfl, rfl, rfl, by decide +kernel, rfl, by decide +kernel, by decide +kernel⟩
theorem sc_law_take : FnScope ["hand", "many", "at", "draws"] ["hand", "many"] (defScope s_law_take) := ⟨rfl, rfl, rfl, by decide +kernel, rfl, by decide +kernel, by decide +kernel⟩
theorem sc_law_string : FnScope ["hand", "length", "k"] ["hand", "length"] (defScope s_law_string) := ⟨rfl, rfl, rfl, by decide +kernel, rfl, by decide +kernel, by decide +kernel⟩
theorem sc_law_table : FnScope ["hand", "n", "m", "rows", "k"] ["hand", "n", "m"] (defScope s_law_table) := ⟨rfl, rfl, rfl, by decide +kernel, rfl, by decide +kernel, by decide +kernel⟩
theorem sc_law_function : FnScope ["hand", "n", "l", "m", "rows", "key", "k"] ["hand", "n", "l", "m"] (defScope s_law_function) := ⟨rfl, rfl, rfl, by decide +kernel, rfl, by decide +kernel, by decide +kernel⟩
theorem sc_law_number : FnScope ["string", "found", "sign"] ["string"] (defScope s_law_number) := ⟨rfl, rfl, rfl, by decide +kernel, rfl, by decide +kernel, by decide +kernel⟩
theorem sc_law_bits : FnScope ["length", "number", "found", "k"] ["length", "number"] (defScope s_law_bits) := ⟨rfl, rfl, rfl, by decide +kernel, rfl, by decide +kernel, by decide +kernel⟩
theorem sc_law_same : FnScope ["found", "due", "at"] ["found", "due"] (defScope s_law_same) := ⟨rfl, rfl, rfl, by decide +kernel, rfl, by decide +kernel, by decide +kernel⟩
theorem sc_law_tree : FnScope ["block", "d", "n", "keys", "key", "values", "number", "label", "bit", "row"] ["block", "d"] (defScope s_law_tree) := ⟨rfl, rfl, rfl, by decide +kernel, rfl, by decide +kernel, by decide +kernel⟩
theorem sc_law_hardbits : FnScope ["block", "n", "rows", "x", "r", "first", "second", "both", "k"] ["block"] (defScope s_law_hardbits) := ⟨rfl, rfl, rfl, by decide +kernel, rfl, by decide +kernel, by decide +kernel⟩
theorem sc_law_spoilt_row : FnScope ["hand", "block", "rows", "at", "place"] ["hand", "block"] (defScope s_law_spoilt_row) := ⟨rfl, rfl, rfl, by decide +kernel, rfl, by decide +kernel, by decide +kernel⟩
theorem sc_law_told : FnScope ["which", "block", "number"] ["which", "block", "number"] (defScope s_law_told) := ⟨rfl, rfl, rfl, by decide +kernel, rfl, by decide +kernel, by decide +kernel⟩
theorem sc_law_looks_right : FnScope ["block", "function", "number", "key", "found"] ["block", "function"] (defScope s_law_looks_right) := ⟨rfl, rfl, rfl, by decide +kernel, rfl, by decide +kernel, by decide +kernel⟩
theorem sc_law_edges_right : FnScope ["hand", "wide", "wider", "deep", "n", "block", "function"] ["hand"] (defScope s_law_edges_right) := ⟨rfl, rfl, rfl, by decide +kernel, rfl, by decide +kernel, by decide +kernel⟩
theorem sc_law : FnScope ["script", "hand", "n", "block", "d", "function", "c", "rows", "other", "bad", "which", "far", "values"] ["script"] (defScope s_law) := ⟨rfl, rfl, rfl, by decide +kernel, rfl, by decide +kernel, by decide +kernel⟩
structure Cs where
  BadBlock : Addr
  BadScheme : Addr
  BreakError : Addr
structure Txt (K : PySem.W.Frag) (mg : Str → Option Value) (cs : Cs) : Prop where
  gl_BadBlock : mg "BadBlock" = some (.ref cs.BadBlock)
  gl_BadScheme : mg "BadScheme" = some (.ref cs.BadScheme)
  gl_BreakError : mg "BreakError" = some (.ref cs.BreakError)
  x_BadBlock : Exn K mg "BadBlock" cs.BadBlock
  e_BadBlock : ExcC K cs.BadBlock
  exm_BadBlock_BadBlock : PySem.W.exmOne K (.ref cs.BadBlock) (.ref cs.BadBlock) = some true
  x_BadScheme : Exn K mg "BadScheme" cs.BadScheme
  e_BadScheme : ExcC K cs.BadScheme
  exm_BadScheme_BadBlock : PySem.W.exmOne K (.ref cs.BadScheme) (.ref cs.BadBlock) = some false
  exm_BadScheme_BadScheme : PySem.W.exmOne K (.ref cs.BadScheme) (.ref cs.BadScheme) = some true
  n_abs : mg "abs" = none
  n_all : mg "all" = none
  n_bool : mg "bool" = none
  n_int : mg "int" = none
  n_isinstance : mg "isinstance" = none
  n_len : mg "len" = none
  n_list : mg "list" = none
  n_range : mg "range" = none
  n_str : mg "str" = none
  n_sum : mg "sum" = none
  n_tuple : mg "tuple" = none
  g_MOST_BITS : ∃ u, mg "MOST_BITS" = some u ∧ RelV (.int 40) u
/-! ### the promises -/
/-- the hand: a list of the draws' list and the number of the next draw -/
def Hnd (H : Hp) (a d : Addr) : Prop := ∃ (ds : List Int) (i : Nat), H a = some (.lst [.ref d, .int (i : Int)]) ∧ H d = some (.lst (ds.map V.int)) ∧ (∀ x ∈ ds, 0 ≤ x) ∧ d ≠ a
/-- all but the hand is as it was -/
def Keep (a : Addr) (H H' : Hp) : Prop := ∀ b o, H b = some o → b ≠ a → H' b = some o
theorem Keep.trans {a : Addr} {H H1 H2 : Hp} (h : Keep a H H1) (h' : Keep a H1 H2) : Keep a H H2 := fun b o e n => h' b o (h b o e n) n
theorem Keep.refl (a : Addr) (H : Hp) : Keep a H H := fun _ _ e _ => e
theorem Keep.new {a p : Addr} {H : Hp} {o : HO} (np : H p = none) : Keep a H (upd H p o) := fun b u e _ => by
  rw [upd_ne (ne_of_none e np)]
  exact e
theorem same_new {H : Hp} {p : Addr} {o : HO} (h : H p = none) : Same H (upd H p o) := fun b x e => by
  rw [upd_ne (ne_of_none e h)]
  exact e
theorem Hnd.same {H H' : Hp} {a d : Addr} (h : Hnd H a d) (s : Same H H') : Hnd H' a d := by
  obtain ⟨ds, i, h1, h2, h3, h4⟩ := h
  exact ⟨ds, i, s _ _ h1, s _ _ h2, h3, h4⟩
theorem Hnd.new {H : Hp} {a d p : Addr} {o : HO} (h : Hnd H a d) (np : H p = none) : Hnd (upd H p o) a d := h.same (same_new np)
theorem Hnd.some {H : Hp} {a d : Addr} (h : Hnd H a d) : ∃ o, H a = some o := by
  obtain ⟨ds, i, h1, _⟩ := h
  exact ⟨_, h1⟩
/-- what is new is neither the hand nor the draws -/
theorem Hnd.ne {H : Hp} {a d p : Addr} (h : Hnd H a d) (np : H p = none) : p ≠ a ∧ p ≠ d := by
  obtain ⟨ds, i, h1, h2, _⟩ := h
  exact ⟨(ne_of_none h1 np).symm, (ne_of_none h2 np).symm⟩
/-- an object beside the hand may change -/
theorem Hnd.set {H : Hp} {a d p : Addr} {o : HO} (h : Hnd H a d) (pa : p ≠ a) (pd : p ≠ d) : Hnd (upd H p o) a d := by
  obtain ⟨ds, i, h1, h2, h3, h4⟩ := h
  exact ⟨ds, i, by rw [upd_ne pa.symm]; exact h1, by rw [upd_ne pd.symm]; exact h2, h3, h4⟩
theorem Keep.same {a : Addr} {H H' : Hp} (s : Same H H') : Keep a H H' := fun b o e _ => s b o e
def spDraws (K : PySem.W.Frag) : Sp := fun vs H Q _ => ∃ (a : Addr) (ns : List Int) (many : Nat), vs = [.ref a, .int (many : Int)] ∧ SqL K H a (ns.map V.int) ∧ ns.length ≤ 63 ∧ many ≤ 5000 ∧
  ∀ (p : Addr) (ds : List Int) (H' : Hp), H p = none → Same H H' → H' p = some (.lst (ds.map V.int)) → (∀ x ∈ ds, (0 : Int) ≤ x) → Q (.ref p) H'
def spTake : Sp := fun vs H Q _ => ∃ (a d : Addr) (many : Int), vs = [.ref a, .int many] ∧ 0 < many ∧ Hnd H a d ∧ ∀ r H', 0 ≤ r → r < many → Hnd H' a d → Keep a H H' → Q (.int r) H'
def spString : Sp := fun vs H Q _ => ∃ (a d : Addr) (n : Nat), vs = [.ref a, .int (n : Int)] ∧ n ≤ 5000 ∧ Hnd H a d ∧ ∀ bs H', bs.length = n → Hnd H' a d → Keep a H H' → Q (.str (sb bs)) H'
def spBits : Sp := fun vs H Q _ => ∃ n k : Nat, vs = [.int (n : Int), .int (k : Int)] ∧ n ≤ 5000 ∧ k < 2 ^ n ∧ Q (.str (sb (toB n k))) H
def spNumber : Sp := fun vs H Q _ => ∃ bs : List Bool, vs = [.str (sb bs)] ∧ bs.length ≤ 640 ∧ Q (.int ((val bs : Nat) : Int)) H
def spXor : Sp := fun vs H Q _ => ∃ l m : List Bool, vs = [.str (sb l), .str (sb m)] ∧ l.length = m.length ∧ l.length ≤ 640 ∧ Q (.str (sb (List.zipWith (fun x y => x != y) l m))) H
def spParity : Sp := fun vs H Q _ => ∃ l m : List Bool, vs = [.str (sb l), .str (sb m)] ∧ l.length = m.length ∧ l.length ≤ 640 ∧ Q (.int ((((List.zipWith (fun x y => x && y) l m).count true : Nat) : Int) % 2)) H
def spIsS : Sp := fun vs H Q _ => ∃ x y : Str, vs = [.str x, .str y] ∧ Q (.bl (decide (x = y))) H
def spIsN : Sp := fun vs H Q _ => ∃ x y : Int, vs = [.int x, .int y] ∧ Q (.bl (decide (x = y))) H
def spPair : Sp := fun vs H Q _ => ∃ l m : List Bool, vs = [.str (sb l), .str (sb m)] ∧ l.length = m.length ∧ l.length ≤ 640 ∧ ∀ H', Same H H' → Q (.bl true) H'
def spLaw (K : PySem.W.Frag) : Sp := fun vs H Q _ => ∃ (a : Addr) (ns : List Int), vs = [.ref a] ∧ SqL K H a (ns.map V.int) ∧ ns.length ≤ 63 ∧ ∀ H', Q (.bl true) H'
/-- what was made anew may change: nothing that was there is it -/
theorem Keep.set {a p : Addr} {H H' : Hp} {o : HO} (h : Keep a H H') (np : H p = none) : Keep a H (upd H' p o) := fun b u e n => by
  rw [upd_ne (ne_of_none e np)]
  exact h b u e n
theorem Keep.free {a p : Addr} {H H' : Hp} (h : Keep a H H') (np : H' p = none) (pa : p ≠ a) : H p = none := by
  cases e : H p with
  | none => rfl
  | some o =>
    have := h p o e pa
    rw [np] at this
    cases this
/-- the heap without the hand: what data stand on -/
def off (a : Addr) (H : Hp) : Hp := fun b => if b = a then none else H b
theorem off_ne {a b : Addr} {H : Hp} (h : b ≠ a) : off a H b = H b := if_neg h
theorem off_same (a : Addr) (H : Hp) : Same (off a H) H := fun b o e => by
  unfold off at e
  by_cases h : b = a
  · rw [if_pos h] at e
    cases e
  · rw [if_neg h] at e
    exact e
theorem Keep.off {a : Addr} {H H' : Hp} (k : Keep a H H') : Same (off a H) (off a H') := fun b o e => by
  unfold My.off at e ⊢
  by_cases h : b = a
  · rw [if_pos h] at e
    cases e
  · rw [if_neg h] at e ⊢
    exact k b o e h

def spWhole (K : PySem.W.Frag) : Sp := fun vs H Q _ => ∃ (v : V) (d : PyData) (lo hi : Int), vs = [v, .int lo, .int hi] ∧ Dp K H v d ∧ Q (.bl (whole d lo hi)) H
def spRows (K : PySem.W.Frag) : Sp := fun vs H Q _ => ∃ (v : V) (d : PyData) (n : Nat) (many m : Int), vs = [v, .int many, .int m] ∧ Dp K H v d ∧ Gd n d ∧ many ≤ 4096 ∧ m ≤ 40 ∧ ∀ H', Same H H' → Q (.bl (rowsOk d many m)) H'
def spGen (K : PySem.W.Frag) : Sp := fun vs H Q _ => ∃ (v : V) (d : PyData) (n : Nat), vs = [v] ∧ Dp K H v d ∧ Gd n d ∧ n ≤ 64 ∧ ∀ H', Same H H' → Q (.bl (genOk d)) H'
def spFun (K : PySem.W.Frag) : Sp := fun vs H Q _ => ∃ (v : V) (d : PyData) (n : Nat), vs = [v] ∧ Dp K H v d ∧ Gd n d ∧ n ≤ 64 ∧ ∀ H', Same H H' → Q (.bl (funOk d)) H'
def spCheck (K : PySem.W.Frag) (C : Addr) : Sp := fun vs H Q E => ∃ (v : V) (d : PyData) (n : Nat), vs = [v] ∧ Dp K H v d ∧ Gd n d ∧ n ≤ 64 ∧ ∀ H', Same H H' → (blockOk d = true → Q .non H') ∧ (blockOk d = false → E (.ref C) none H')

def spTable (K : PySem.W.Frag) : Sp := fun vs H Q _ => ∃ (a d : Addr) (n m : Nat), vs = [.ref a, .int (n : Int), .int (m : Int)] ∧ n ≤ 8 ∧ m ≤ 200 ∧ Hnd H a d ∧
  ∀ v rows H', rows.length = 2 ^ n → (∀ r ∈ rows, r.length = m) → Dp K (off a H') v (tabD n m rows) → Hnd H' a d → Keep a H H' → Q v H'
def spFunction (K : PySem.W.Frag) : Sp := fun vs H Q _ => ∃ (a d : Addr) (n l m : Nat), vs = [.ref a, .int (n : Int), .int (l : Int), .int (m : Int)] ∧ n ≤ 8 ∧ l ≤ 8 ∧ m ≤ 200 ∧ Hnd H a d ∧
  ∀ v tabs H', tabs.length = 2 ^ n → (∀ rows ∈ tabs, rows.length = 2 ^ l ∧ ∀ r ∈ rows, r.length = m) → Dp K (off a H') v (funD n l m tabs) → Hnd H' a d → Keep a H H' → Q v H'

theorem for_text {x : Str} {g : TG} {tb : TS} {D : Ends} {σ : L2.St} {H : Hp} (Pv : Nat → L2.St → Hp → Prop) (h0 : Pv 0 σ H)
    (hs : ∀ i c σ H, x.cps[i]? = some c → Pv i σ H → g (.str ⟨#[c]⟩) σ H fun σ2 H2 => tb { D with nx := Pv (i + 1), ct := Pv (i + 1), bk := D.nx } σ2 H2) (hd : ∀ σ H, Pv x.cps.size σ H → D.nx σ H) :
    ∃ W : Nat → Nat → L2.St → Hp → Prop, (∃ m, W 0 m σ H) ∧ ∀ i m σ H, W i m σ H →
      ((Its x).stop i H ∧ D.nx σ H) ∨ ((Its x).go i H ∧ ∃ N : L2.St → Hp → Prop, (∀ σ' H', N σ' H' → ∃ m', m' < m ∧ W (i + 1) m' σ' H') ∧ ∀ y H', (Its x).yld i H y H' → g y σ H' fun σ2 H2 => tb { D with nx := N, ct := N, bk := D.nx } σ2 H2) := by
  refine ⟨fun i m σ H => m = x.cps.size - i ∧ i ≤ x.cps.size ∧ Pv i σ H, ⟨x.cps.size, by omega, Nat.zero_le _, h0⟩, ?_⟩
  rintro i m σ H ⟨rfl, hi, p⟩
  by_cases c : i < x.cps.size
  · refine .inr ⟨c, Pv (i + 1), fun σ' H' p' => ⟨x.cps.size - (i + 1), by omega, rfl, c, p'⟩, ?_⟩
    rintro y H' ⟨rfl, k, hk, rfl⟩
    exact hs i k σ _ hk p
  · have e : i = x.cps.size := by omega
    subst e
    exact .inl ⟨Nat.le_refl _, hd σ H p⟩

theorem ix_nat (n d i : Nat) : HT.sIx n d (some (i : Int)) = min i n := by
  unfold HT.sIx
  show (if (i : Int) < 0 then _ else min (i : Int).toNat n) = _
  rw [if_neg (by omega)]
  rfl
theorem sb_drop_take (l : List Bool) (a b : Nat) : (⟨(((sb l).cps.toList.drop a).take b).toArray⟩ : Str) = sb ((l.drop a).take b) := by
  unfold sb
  rw [List.map_take, List.map_drop]
theorem cut_pre {l : List Bool} {i : Nat} : cutS (sb l) none (some (i : Int)) = sb (l.take i) := by
  unfold cutS
  rw [sb_drop_take, ix_nat, HT.sIx_none, sb_len, List.drop_zero, Nat.sub_zero]
  congr 1
  by_cases h : i ≤ l.length
  · rw [Nat.min_eq_left h]
  · rw [List.take_of_length_le (by omega), List.take_of_length_le (by omega)]
theorem cut_suf {l : List Bool} {i : Nat} : cutS (sb l) (some (i : Int)) none = sb (l.drop i) := by
  unfold cutS
  rw [sb_drop_take, ix_nat, HT.sIx_none, sb_len, List.take_of_length_le (by rw [List.length_drop]; omega)]
  congr 1
  by_cases h : i ≤ l.length
  · rw [Nat.min_eq_left h]
  · rw [Nat.min_eq_right (by omega), List.drop_length, List.drop_of_length_le (by omega)]
theorem cut_one {l : List Bool} {i : Nat} : cutS (sb l) (some (i : Int)) (some ((i : Int) + 1)) = sb ((l.drop i).take 1) := by
  unfold cutS
  rw [show ((i : Int) + 1) = ((i + 1 : Nat) : Int) by omega, sb_drop_take, ix_nat, ix_nat, sb_len]
  congr 1
  by_cases h : i + 1 ≤ l.length
  · rw [Nat.min_eq_left h, Nat.min_eq_left (by omega)]
    congr 1
    omega
  · by_cases h' : i = l.length
    · subst h'
      rw [Nat.min_self, List.drop_length]
      simp
    · rw [Nat.min_eq_right (show l.length ≤ i by omega), List.drop_length, List.drop_eq_nil_of_le (show l.length ≤ i by omega)]
      simp
theorem rep_bits (b : Bool) (n : Nat) : SX.S (List.replicate n [cB b]).flatten = sb (List.replicate n b) := by
  unfold sb
  congr 1
  induction n with
  | zero => rfl
  | succ n ih =>
    rw [List.replicate_succ, List.flatten_cons, ih]
    rfl
theorem val_take (l : List Bool) (i : Nat) (h : i < l.length) : val (l.take (i + 1)) = 2 * val (l.take i) + bit l[i] := by
  rw [List.take_add_one, List.getElem?_eq_getElem h]
  exact val_snoc _ _
theorem val_zeros (n : Nat) : val (List.replicate n false) = 0 := by
  induction n with
  | zero => rfl
  | succ n ih =>
    rw [List.replicate_succ', val_snoc, ih]
    rfl
theorem sb_at {l : List Bool} {i c : Nat} (h : (sb l).cps[i]? = some c) : ∃ h : i < l.length, c = cB l[i] := by
  have e : (l.map cB)[i]? = some c := by
    rw [← h]
    show _ = ((l.map cB).toArray)[i]?
    simp
  rw [List.getElem?_map] at e
  obtain ⟨b, hb, rfl⟩ := Option.map_eq_some_iff.mp e
  obtain ⟨hi, rfl⟩ := List.getElem?_eq_some_iff.mp hb
  exact ⟨hi, rfl⟩

theorem name_ne {d : PyData} {x : Str} : (!PyData.eqv d (.str x)) = !named x d := rfl
theorem whole_int {d : PyData} {lo hi : Int} (h : whole d lo hi = true) : ∃ i, d = .int i ∧ lo ≤ i ∧ i ≤ hi := by
  cases d with
  | int i =>
    have h' : (decide (lo ≤ i) && decide (i ≤ hi)) = true := h
    rw [Bool.and_eq_true, decide_eq_true_eq, decide_eq_true_eq] at h'
    exact ⟨i, rfl, h'⟩
  | _ => cases h
theorem gen_eq {k n m r : PyData} : genOk (.tuple [k, n, m, r]) = (named "generator" k && whole n 1 10 && whole m 1 40 && genRows n m r) := rfl
theorem fun_eq {k n l m t : PyData} : funOk (.tuple [k, n, l, m, t]) = (named "function" k && whole n 1 8 && whole l 1 8 && sumLe n l && whole m 1 40 && funTabs n l m t) := rfl
theorem pow_le {n : Int} {b : Nat} (h0 : 1 ≤ n) (h : n ≤ (b : Int)) : (1 : Int) * 2 ^ n.toNat ≤ ((2 ^ b : Nat) : Int) := by
  have h1 : (2 : Nat) ^ n.toNat ≤ 2 ^ b := Nat.pow_le_pow_right (by decide) (by omega)
  have h2 : ((2 ^ n.toNat : Nat) : Int) ≤ ((2 ^ b : Nat) : Int) := Int.ofNat_le.mpr h1
  rw [Int.natCast_pow] at h2
  rw [Int.one_mul]
  exact h2
theorem dp4 {K : PySem.W.Frag} {H : Hp} {ws : List V} {xs : List PyData} (h : DpAll K H ws xs) (c : ws.length = 4) : ∃ v0 v1 v2 v3 d0 d1 d2 d3, ws = [v0, v1, v2, v3] ∧ xs = [d0, d1, d2, d3] ∧ Dp K H v0 d0 ∧ Dp K H v1 d1 ∧ Dp K H v2 d2 ∧ Dp K H v3 d3 := by
  match xs, ws, c, h with
  | _, [v0, v1, v2, v3], _, .cons h0 (.cons h1 (.cons h2 (.cons h3 .nil))) => exact ⟨_, _, _, _, _, _, _, _, rfl, rfl, h0, h1, h2, h3⟩
theorem dp5 {K : PySem.W.Frag} {H : Hp} {ws : List V} {xs : List PyData} (h : DpAll K H ws xs) (c : ws.length = 5) : ∃ v0 v1 v2 v3 v4 d0 d1 d2 d3 d4, ws = [v0, v1, v2, v3, v4] ∧ xs = [d0, d1, d2, d3, d4] ∧ Dp K H v0 d0 ∧ Dp K H v1 d1 ∧ Dp K H v2 d2 ∧ Dp K H v3 d3 ∧ Dp K H v4 d4 := by
  match xs, ws, c, h with
  | _, [v0, v1, v2, v3, v4], _, .cons h0 (.cons h1 (.cons h2 (.cons h3 (.cons h4 .nil)))) => exact ⟨_, _, _, _, _, _, _, _, _, _, rfl, rfl, h0, h1, h2, h3, h4⟩
theorem join_all : ∀ ys : List Str, (Txt.join "" ys).cps.toList = (ys.map (·.cps.toList)).flatten := by
  intro ys
  have j : ∀ ps : List (List Nat), TL.joinL [] ps = ps.flatten := by
    intro ps
    induction ps with
    | nil => rfl
    | cons x r ih =>
      cases r with
      | nil => exact (List.append_nil x).symm
      | cons y r =>
        show x ++ ([] ++ TL.joinL [] (y :: r)) = x ++ (y :: r).flatten
        rw [ih, List.nil_append]
  have e : ys = (ys.map (·.cps.toList)).map SX.S := by
    rw [List.map_map]
    exact (List.map_id'' (fun x => SX.S_tl x) ys).symm
  have h := SX.join_S [] (ys.map (·.cps.toList))
  rw [← e, j] at h
  exact congrArg (fun z : Str => z.cps.toList) h

/-! ### data of a size -/
def okS (s : Nat) (x : Str) : Prop := PySem.PyData.strOk x = true ∧ x.length ≤ s
def Gz (s : Nat) : Nat → PyData → Prop
  | 0, d => match d with
    | .none => True
    | .bool _ => True
    | .int i => i.natAbs < 10 ^ s
    | .str x => okS s x
    | _ => False
  | n + 1, d => match d with
    | .none => True
    | .bool _ => True
    | .int i => i.natAbs < 10 ^ s
    | .str x => okS s x
    | .list xs => xs.length ≤ s ∧ ∀ x ∈ xs, Gz s n x
    | .tuple xs => xs.length ≤ s ∧ ∀ x ∈ xs, Gz s n x
    | .dict _ => False
theorem gz_str {s n : Nat} {x : Str} : Gz s n (.str x) ↔ okS s x := by
  cases n <;> exact Iff.rfl
theorem gz_int {s n : Nat} {i : Int} : Gz s n (.int i) ↔ i.natAbs < 10 ^ s := by
  cases n <;> exact Iff.rfl
theorem gz_bool {s n : Nat} {b : Bool} : Gz s n (.bool b) := by
  cases n <;> trivial
theorem gz_none {s n : Nat} : Gz s n .none := by
  cases n <;> trivial
theorem gz_tup {s n : Nat} {xs : List PyData} (h : Gz s n (.tuple xs)) : xs.length ≤ s ∧ ∃ m, n = m + 1 ∧ ∀ x ∈ xs, Gz s m x := by
  cases n with
  | zero => exact h.elim
  | succ n => exact ⟨h.1, n, rfl, h.2⟩
theorem gz_gd {s : Nat} (hs : s ≤ 5000) : ∀ {n : Nat} {d : PyData}, Gz s n d → Gd n d
  | 0, .none, h => h
  | 0, .bool _, h => h
  | 0, .int _, h => trivial
  | 0, .str _, h => ⟨h.1, Nat.le_trans h.2 hs⟩
  | n + 1, .none, h => h
  | n + 1, .bool _, h => h
  | n + 1, .int _, h => trivial
  | n + 1, .str _, h => ⟨h.1, Nat.le_trans h.2 hs⟩
  | n + 1, .list xs, h => ⟨Nat.le_trans h.1 hs, fun x hx => gz_gd hs (h.2 x hx)⟩
  | n + 1, .tuple xs, h => ⟨Nat.le_trans h.1 hs, fun x hx => gz_gd hs (h.2 x hx)⟩
theorem gz_up {s t : Nat} (hs : s ≤ t) : ∀ {n m : Nat} {d : PyData}, n ≤ m → Gz s n d → Gz t m d
  | n, m, .none, _, h => gz_none
  | n, m, .bool _, _, h => gz_bool
  | n, m, .int _, _, h => gz_int.mpr (Nat.lt_of_lt_of_le (gz_int.mp h) (Nat.pow_le_pow_right (by decide) hs))
  | n, m, .str _, _, h => gz_str.mpr ⟨(gz_str.mp h).1, Nat.le_trans (gz_str.mp h).2 hs⟩
  | 0, m, .list _, _, h => h.elim
  | 0, m, .tuple _, _, h => h.elim
  | 0, m, .dict _, _, h => h.elim
  | n + 1, m, .dict _, _, h => h.elim
  | n + 1, m + 1, .list xs, hm, h => ⟨Nat.le_trans h.1 hs, fun x hx => gz_up hs (Nat.le_of_succ_le_succ hm) (h.2 x hx)⟩
  | n + 1, m + 1, .tuple xs, hm, h => ⟨Nat.le_trans h.1 hs, fun x hx => gz_up hs (Nat.le_of_succ_le_succ hm) (h.2 x hx)⟩
theorem sqt_off {K : PySem.W.Frag} {H : Hp} {a d p : Addr} {xs : List V} (h : Hnd H a d) (s : SqT K H p xs) : SqT K (off a H) p xs := by
  obtain ⟨ds, i, h1, _⟩ := h
  rcases s with (s | ⟨o, s⟩) | s
  · refine .inl (.inl ?_)
    rw [off_ne fun e => ?_]
    · exact s
    · rw [e, h1] at s
      cases s
  · refine .inl (.inr ⟨o, ?_⟩)
    rw [off_ne fun e => ?_]
    · exact s
    · rw [e, h1] at s
      cases s
  · exact .inr s
theorem sqt_on {K : PySem.W.Frag} {H : Hp} {a p : Addr} {xs : List V} (s : SqT K (off a H) p xs) : SqT K H p xs := same_sqt (off_same a H) s
theorem sql_on {K : PySem.W.Frag} {H : Hp} {a p : Addr} {xs : List V} (s : SqL K (off a H) p xs) : SqL K H p xs := (off_same a H).seq s
/-- a value of data of a size, beside the hand -/
def Ok (K : PySem.W.Frag) (a : Addr) (H : Hp) (s n : Nat) (v : V) : Prop := ∃ D, Dp K (off a H) v D ∧ Gz s n D
theorem Ok.same {K : PySem.W.Frag} {a : Addr} {H H' : Hp} {s n : Nat} {v : V} (h : Ok K a H s n v) (e : Same (off a H) (off a H')) : Ok K a H' s n v := by
  obtain ⟨D, h1, h2⟩ := h
  exact ⟨D, dp_same e D h1, h2⟩
theorem Ok.keep {K : PySem.W.Frag} {a : Addr} {H H' : Hp} {s n : Nat} {v : V} (h : Ok K a H s n v) (e : Keep a H H') : Ok K a H' s n v := h.same e.off
theorem Ok.up {K : PySem.W.Frag} {a : Addr} {H : Hp} {s n t m : Nat} {v : V} (h : Ok K a H s n v) (hs : s ≤ t) (hm : n ≤ m) : Ok K a H t m v := by
  obtain ⟨D, h1, h2⟩ := h
  exact ⟨D, h1, gz_up hs hm h2⟩
theorem same_off {a : Addr} {H H' : Hp} (s : Same H H') : Same (off a H) (off a H') := (Keep.same (a := a) s).off
theorem cutV_all {xs : List V} {lo hi : Option Int} (h1 : HT.sIx xs.length 0 lo = 0) (h2 : HT.sIx xs.length xs.length hi = xs.length) : cutV xs lo hi = xs := by
  unfold cutV
  rw [h1, h2]
  simp
theorem sl_any {K : PySem.W.Frag} {H : Hp} {Q : VK} {lo hi : Option Int} {a : Addr} {xs : List V} (hT : SqT K H a xs) (q : ∀ p H', Same H H' → SqT K H' p (cutV xs lo hi) → Q (.ref p) H') : rSlA K (.ref a) lo hi H Q := by
  refine ⟨a, xs, rfl, hT, fun hw => ?_, fun hw p np => ?_⟩
  · exact q a H (Same.refl H) (by rw [cutV_all hw.1 hw.2]; exact hT)
  · exact q p _ (same_new np) (.inl (.inl upd_same))
theorem sl_anyN {K : PySem.W.Frag} {σ : L2.St} {H : Hp} {Q : VK} {l : Option Int} {a : Addr} {xs : List V} (hT : SqT K H a xs) (q : ∀ p H', Same H H' → SqT K H' p (cutV xs l none) → Q (.ref p) H') : tNoPart σ H fun u H3 => rSlA K (.ref a) l u H3 Q := sl_any hT q
theorem cat_any {K : PySem.W.Frag} {H : Hp} {Q : VK} {a b : Addr} {xs ys : List V} (ha : SqT K H a xs) (hb : SqT K H b ys) (hz : xs.length + ys.length ≤ sizeLine) (q : ∀ p H', Same H H' → SqT K H' p (xs ++ ys) → Q (.ref p) H') : rCatA K (.ref a) (.ref b) H Q := by
  refine ⟨a, b, xs, ys, rfl, rfl, ha, hb, hz, fun e => ?_, fun e1 e2 => ?_, fun e1 e2 p np => ?_⟩
  · subst e
    exact q b H (Same.refl H) hb
  · subst e2
    exact q a H (Same.refl H) (by rw [List.append_nil]; exact ha)
  · exact q p _ (same_new np) (.inl (.inl upd_same))
theorem dps_drop {K : PySem.W.Frag} {H : Hp} : ∀ (i : Nat) {vs : List V} {ds : List PyData}, DpAll K H vs ds → DpAll K H (vs.drop i) (ds.drop i)
  | 0, _, _, h => h
  | i + 1, _, _, .nil => .nil
  | i + 1, _, _, .cons _ t => dps_drop i t
theorem dps_take {K : PySem.W.Frag} {H : Hp} : ∀ (i : Nat) {vs : List V} {ds : List PyData}, DpAll K H vs ds → DpAll K H (vs.take i) (ds.take i)
  | 0, _, _, h => .nil
  | i + 1, _, _, .nil => .nil
  | i + 1, _, _, .cons h t => .cons h (dps_take i t)
theorem dps_app {K : PySem.W.Frag} {H : Hp} : ∀ {vs ws : List V} {ds es : List PyData}, DpAll K H vs ds → DpAll K H ws es → DpAll K H (vs ++ ws) (ds ++ es)
  | _, _, _, _, .nil, h => h
  | _, _, _, _, .cons h t, h' => .cons h (dps_app t h')
/-- the values of a row, all of a size -/
def Oks (K : PySem.W.Frag) (a : Addr) (H : Hp) (s n : Nat) (vs : List V) : Prop := ∃ ds, DpAll K (off a H) vs ds ∧ ∀ d ∈ ds, Gz s n d
theorem Oks.keep {K : PySem.W.Frag} {a : Addr} {H H' : Hp} {s n : Nat} {vs : List V} (h : Oks K a H s n vs) (e : Keep a H H') : Oks K a H' s n vs := by
  obtain ⟨D, h1, h2⟩ := h
  exact ⟨D, dps_same e.off D h1, h2⟩
theorem Oks.up {K : PySem.W.Frag} {a : Addr} {H : Hp} {s n t m : Nat} {vs : List V} (h : Oks K a H s n vs) (hs : s ≤ t) (hm : n ≤ m) : Oks K a H t m vs := by
  obtain ⟨D, h1, h2⟩ := h
  exact ⟨D, h1, fun d hd => gz_up hs hm (h2 d hd)⟩
theorem Oks.app {K : PySem.W.Frag} {a : Addr} {H : Hp} {s n : Nat} {vs ws : List V} (h : Oks K a H s n vs) (h' : Oks K a H s n ws) : Oks K a H s n (vs ++ ws) := by
  obtain ⟨D, h1, h2⟩ := h
  obtain ⟨E, h3, h4⟩ := h'
  refine ⟨D ++ E, dps_app h1 h3, fun d hd => ?_⟩
  rcases List.mem_append.mp hd with z | z
  · exact h2 d z
  · exact h4 d z
theorem Oks.cut {K : PySem.W.Frag} {a : Addr} {H : Hp} {s n : Nat} {vs : List V} (lo hi : Option Int) (h : Oks K a H s n vs) : Oks K a H s n (cutV vs lo hi) := by
  obtain ⟨D, h1, h2⟩ := h
  exact ⟨(D.drop _).take _, dps_take _ (dps_drop _ h1), fun d hd => h2 d (List.mem_of_mem_drop (List.mem_of_mem_take hd))⟩
theorem Oks.one {K : PySem.W.Frag} {a : Addr} {H : Hp} {s n : Nat} {v : V} (h : Ok K a H s n v) : Oks K a H s n [v] := by
  obtain ⟨D, h1, h2⟩ := h
  refine ⟨[D], .cons h1 .nil, fun d hd => ?_⟩
  rw [List.mem_singleton.mp hd]
  exact h2
theorem Oks.get {K : PySem.W.Frag} {a : Addr} {H : Hp} {s n i : Nat} {v : V} {vs : List V} (h : Oks K a H s n vs) (e : vs[i]? = some v) : Ok K a H s n v := by
  obtain ⟨D, h1, h2⟩ := h
  obtain ⟨d, hd, h3⟩ := dp_all_get h1 e
  exact ⟨d, h3, h2 d (List.mem_of_getElem? hd)⟩
theorem Ok.tup {K : PySem.W.Frag} {a d p : Addr} {H : Hp} {s n : Nat} {vs : List V} (hh : Hnd H a d) (hT : SqT K H p vs) (h : Oks K a H s n vs) (hl : vs.length ≤ s) : Ok K a H s (n + 1) (.ref p) := by
  obtain ⟨D, h1, h2⟩ := h
  exact ⟨.tuple D, .tup (sqt_off hh hT) h1, by rw [← dp_all_len h1]; exact hl, h2⟩
theorem Ok.lst {K : PySem.W.Frag} {a p : Addr} {H : Hp} {s n : Nat} {vs : List V} (pa : p ≠ a) (hL : H p = some (.lst vs)) (h : Oks K a H s n vs) (hl : vs.length ≤ s) : Ok K a H s (n + 1) (.ref p) := by
  obtain ⟨D, h1, h2⟩ := h
  exact ⟨.list D, .lst (.inl (.inl (by rw [off_ne pa]; exact hL))) h1, by rw [← dp_all_len h1]; exact hl, h2⟩
theorem Ok.str {K : PySem.W.Frag} {a : Addr} {H : Hp} {s n : Nat} {x : Str} (h : okS s x) : Ok K a H s n (.str x) := ⟨.str x, .str x, gz_str.mpr h⟩
theorem Ok.int {K : PySem.W.Frag} {a : Addr} {H : Hp} {s n : Nat} {i : Int} (h : i.natAbs < 10 ^ s) : Ok K a H s n (.int i) := ⟨.int i, .int i, gz_int.mpr h⟩
theorem Ok.bl {K : PySem.W.Frag} {a : Addr} {H : Hp} {s n : Nat} {b : Bool} : Ok K a H s n (.bl b) := ⟨.bool b, .bl b, gz_bool⟩
theorem Ok.non {K : PySem.W.Frag} {a : Addr} {H : Hp} {s n : Nat} : Ok K a H s n .non := ⟨.none, .non, gz_none⟩
/-! ### signs -/
theorem strOk_iff {x : Str} : PySem.PyData.strOk x = true ↔ ∀ c ∈ x.cps.toList, c < 1114112 := by
  unfold PySem.PyData.strOk
  rw [← Array.all_toList, List.all_eq_true]
  constructor
  · intro h c hc
    exact of_decide_eq_true (h c hc)
  · intro h c hc
    exact decide_eq_true (h c hc)
theorem strOk_app {x y : Str} (hx : PySem.PyData.strOk x = true) (hy : PySem.PyData.strOk y = true) : PySem.PyData.strOk (x ++ y) = true := by
  rw [strOk_iff] at hx hy ⊢
  intro c hc
  have e : (x ++ y).cps.toList = x.cps.toList ++ y.cps.toList := by
    show (x.cps ++ y.cps).toList = _
    simp
  rw [e] at hc
  rcases List.mem_append.mp hc with z | z
  · exact hx c z
  · exact hy c z
theorem strOk_cut {x : Str} {lo hi : Option Int} (hx : PySem.PyData.strOk x = true) : PySem.PyData.strOk (cutS x lo hi) = true := by
  rw [strOk_iff] at hx ⊢
  intro c hc
  exact hx c (List.mem_of_mem_drop (List.mem_of_mem_take hc))
theorem str_app_len (x y : Str) : (x ++ y).length = x.length + y.length := by
  show (x.cps ++ y.cps).size = _
  rw [Array.size_append]
  rfl
theorem cutS_len {x : Str} {lo hi : Option Int} : (cutS x lo hi).length = min (HT.sIx x.length x.length hi - HT.sIx x.length 0 lo) (x.length - HT.sIx x.length 0 lo) := by
  show (List.toArray _).size = _
  rw [List.size_toArray, List.length_take, List.length_drop]
  rfl
theorem cutV_len {x : List V} {lo hi : Option Int} : (cutV x lo hi).length = min (HT.sIx x.length x.length hi - HT.sIx x.length 0 lo) (x.length - HT.sIx x.length 0 lo) := by
  unfold cutV
  rw [List.length_take, List.length_drop]
theorem okS_int {s : Nat} {i : Int} (h : i.natAbs < 10 ^ s) (hs : 0 < s) : okS (s + 1) (Str.ofString (toString i)) := by
  refine ⟨?_, ?_⟩
  · rw [strOk_iff, Str.ofString_eq_toList]
    intro c hc
    obtain ⟨k, _, e⟩ := List.mem_map.mp hc
    rw [← e]
    have := k.valid
    rcases this with h | ⟨_, h⟩
    · show k.val.toNat < _
      have h' : k.val.toNat < 55296 := h
      omega
    · exact h
  · rw [PySem.ofString_length]
    exact int_text_length_le10 hs h
theorem atI_mem {xs : List V} {i : Int} (h0 : 0 ≤ i) (h1 : i < (xs.length : Int)) : ∃ x, atI xs i = some x ∧ x ∈ xs := by
  obtain ⟨k, rfl⟩ : ∃ k : Nat, i = (k : Int) := ⟨i.toNat, by omega⟩
  have hk : k < xs.length := by omega
  exact ⟨xs[k], atI_nat (List.getElem?_eq_getElem hk), List.getElem_mem hk⟩
theorem okS_mono {s t : Nat} {x : Str} (h : okS s x) (e : s ≤ t) : okS t x := ⟨h.1, Nat.le_trans h.2 e⟩
theorem okS_app {s t : Nat} {x y : Str} (hx : okS s x) (hy : okS t y) : okS (s + t) (x ++ y) := ⟨strOk_app hx.1 hy.1, by
  rw [str_app_len]
  have h1 := hx.2
  have h2 := hy.2
  omega⟩
theorem sIx_n (n d k : Nat) : HT.sIx n d (some (k : Int)) = min k n := HT.sIx_nat n d k
theorem okS_pre {s k : Nat} {x : Str} (hx : okS s x) (hk : k ≤ x.length) : okS k (cutS x none (some (k : Int))) := ⟨strOk_cut hx.1, by
  rw [cutS_len, sIx_n, HT.sIx_none]
  omega⟩
theorem okS_suf {s k : Nat} {x : Str} (hx : okS s x) : okS (x.length - k) (cutS x (some (k : Int)) none) := ⟨strOk_cut hx.1, by
  rw [cutS_len, sIx_n, HT.sIx_none]
  omega⟩
theorem Oks.nil {K : PySem.W.Frag} {a : Addr} {H : Hp} {s n : Nat} : Oks K a H s n [] := ⟨[], .nil, fun d hd => nomatch hd⟩
theorem Oks.cons {K : PySem.W.Frag} {a : Addr} {H : Hp} {s n : Nat} {v : V} {vs : List V} (h : Ok K a H s n v) (h' : Oks K a H s n vs) : Oks K a H s n (v :: vs) := (Oks.one h).app h'
theorem Oks.rep {K : PySem.W.Frag} {a : Addr} {H : Hp} {s n : Nat} {v : V} (h : Ok K a H s n v) : ∀ k : Nat, Oks K a H s n (List.replicate k v)
  | 0 => .nil
  | k + 1 => by
    rw [List.replicate_succ]
    exact .cons h (Oks.rep h k)
theorem Ok.small {K : PySem.W.Frag} {a : Addr} {H : Hp} {s n : Nat} {i : Int} (h : i.natAbs < 100) (hs : 2 ≤ s) : Ok K a H s n (.int i) := .int (Nat.lt_of_lt_of_le (show i.natAbs < 10 ^ 2 from h) (Nat.pow_le_pow_right (by decide) hs))
theorem shl_one (n : Nat) : (1 : Int) * 2 ^ ((n : Nat) : Int).toNat = ((2 ^ n : Nat) : Int) := by
  rw [Int.one_mul, Int.toNat_natCast, Int.natCast_pow]
  rfl
theorem two_pow_le {n b : Nat} (h : n ≤ b) : 2 ^ n ≤ 2 ^ b := Nat.pow_le_pow_right (by decide) h
theorem at0 {v : V} {ws : List V} : atI (v :: ws) 0 = some v := atI_nat (j := 0) rfl
theorem all4 {P : PyData → Prop} {a b c d : PyData} (h1 : P a) (h2 : P b) (h3 : P c) (h4 : P d) : ∀ x ∈ [a, b, c, d], P x := by
  intro x hx
  rcases List.mem_cons.mp hx with e | hx
  · exact e ▸ h1
  rcases List.mem_cons.mp hx with e | hx
  · exact e ▸ h2
  rcases List.mem_cons.mp hx with e | hx
  · exact e ▸ h3
  rcases List.mem_cons.mp hx with e | hx
  · exact e ▸ h4
  exact nomatch hx
theorem off_upd {R : Addr} {H : Hp} {o : HO} (a : Addr) : off R (off a (upd H R o)) = off R (off a H) := by
  funext b
  unfold off
  by_cases h : b = R
  · rw [if_pos h, if_pos h]
  · rw [if_neg h, if_neg h]
    by_cases h' : b = a
    · rw [if_pos h', if_pos h']
    · rw [if_neg h', if_neg h', upd_ne h]
theorem off_mono {R : Addr} {H H' : Hp} (s : Same H H') : Same (off R H) (off R H') := fun b o e => by
  unfold off at e ⊢
  by_cases h : b = R
  · rw [if_pos h] at e
    cases e
  · rw [if_neg h] at e ⊢
    exact s b o e

theorem dp_sbs {K : PySem.W.Frag} {H : Hp} : ∀ {vs : List V} {rows : List (List Bool)}, DpAll K H vs (rows.map fun r => PyData.str (sb r)) → vs = rows.map fun r => V.str (sb r)
  | _, [], .nil => rfl
  | _, _ :: _, .cons (.str _) t => by rw [List.map_cons, dp_sbs t]
/-! ### generators, as the document tells them -/
structure Wf (n m : Nat) (rows : List (List Bool)) : Prop where
  n1 : 1 ≤ n
  n2 : n ≤ 10
  m1 : 1 ≤ m
  m2 : m ≤ 40
  len : rows.length = 2 ^ n
  row : ∀ r ∈ rows, r.length = m
theorem bitRow_sb {m : Nat} {r : List Bool} (h : r.length = m) : bitRow (m : Int) (.str (sb r)) = true := by
  show (decide (((sb r).length : Int) = (m : Int)) && (sb r).cps.toList.all _) = true
  rw [sb_len, h, decide_eq_true rfl, Bool.true_and, List.all_eq_true]
  intro c hc
  have e : (sb r).cps.toList = r.map cB := by
    show ((r.map cB).toArray).toList = _
    simp
  rw [e] at hc
  obtain ⟨b, _, rfl⟩ := List.mem_map.mp hc
  cases b <;> rfl
theorem sb_bitRow {m : Int} {d : PyData} (h : bitRow m d = true) : ∃ r : List Bool, d = .str (sb r) ∧ (r.length : Int) = m := by
  cases d with
  | str x =>
    have h' : (decide ((x.length : Int) = m) && x.cps.toList.all (fun c => c == 48 || c == 49)) = true := h
    obtain ⟨h1, h2⟩ := Bool.and_eq_true_iff.mp h'
    have key : ∀ l : List Nat, l.all (fun c => c == 48 || c == 49) = true → ∃ r : List Bool, l = r.map cB := by
      intro l
      induction l with
      | nil => exact fun _ => ⟨[], rfl⟩
      | cons c l ih =>
        intro hl
        rw [List.all_cons, Bool.and_eq_true] at hl
        obtain ⟨r, e⟩ := ih hl.2
        rcases Bool.or_eq_true_iff.mp hl.1 with z | z
        · exact ⟨false :: r, by rw [e, beq_iff_eq.mp z]; rfl⟩
        · exact ⟨true :: r, by rw [e, beq_iff_eq.mp z]; rfl⟩
    obtain ⟨r, e⟩ := key _ h2
    have ex : x = sb r := TL.ext_tl (by
      show x.cps.toList = ((r.map cB).toArray).toList
      rw [e])
    refine ⟨r, by rw [ex], ?_⟩
    have := of_decide_eq_true h1
    rw [ex, sb_len] at this
    exact this
  | _ => cases h
theorem rows_ok {many m : Nat} {rows : List (List Bool)} (h1 : rows.length = many) (h2 : ∀ r ∈ rows, r.length = m) : rowsOk (rowsD rows) (many : Int) (m : Int) = true := by
  show (decide (((rows.map fun r => PyData.str (sb r)).length : Int) = (many : Int)) && (rows.map fun r => PyData.str (sb r)).all (bitRow (m : Int))) = true
  rw [List.length_map, h1, decide_eq_true rfl, Bool.true_and, List.all_eq_true]
  intro x hx
  obtain ⟨r, hr, rfl⟩ := List.mem_map.mp hx
  exact bitRow_sb (h2 r hr)
theorem ok_rowsD {many m : Int} {d : PyData} (h : rowsOk d many m = true) : ∃ rows : List (List Bool), d = rowsD rows ∧ (rows.length : Int) = many ∧ ∀ r ∈ rows, (r.length : Int) = m := by
  cases d with
  | tuple xs =>
    have h' : (decide ((xs.length : Int) = many) && xs.all (bitRow m)) = true := h
    obtain ⟨h1, h2⟩ := Bool.and_eq_true_iff.mp h'
    have key : ∀ l : List PyData, l.all (bitRow m) = true → ∃ rows : List (List Bool), l = rows.map (fun r => .str (sb r)) ∧ ∀ r ∈ rows, (r.length : Int) = m := by
      intro l
      induction l with
      | nil => exact fun _ => ⟨[], rfl, fun r hr => nomatch hr⟩
      | cons c l ih =>
        intro hl
        rw [List.all_cons, Bool.and_eq_true] at hl
        obtain ⟨rows, e, hr⟩ := ih hl.2
        obtain ⟨r, er, hl'⟩ := sb_bitRow hl.1
        refine ⟨r :: rows, by rw [e, er]; rfl, fun x hx => ?_⟩
        rcases List.mem_cons.mp hx with z | z
        · rw [z]
          exact hl'
        · exact hr x z
    obtain ⟨rows, e, hr⟩ := key _ h2
    refine ⟨rows, by rw [e]; rfl, ?_, hr⟩
    have := of_decide_eq_true h1
    rw [e, List.length_map] at this
    exact this
  | _ => cases h
theorem wf_gen {n m : Nat} {rows : List (List Bool)} (h : Wf n m rows) : genOk (tabD n m rows) = true := by
  have e1 : whole (.int (n : Int)) 1 10 = true := by
    show (decide _ && decide _) = true
    rw [decide_eq_true (show (1 : Int) ≤ (n : Int) by have := h.n1; omega), decide_eq_true (show (n : Int) ≤ 10 by have := h.n2; omega)]
    rfl
  have e2 : whole (.int (m : Int)) 1 40 = true := by
    show (decide _ && decide _) = true
    rw [decide_eq_true (show (1 : Int) ≤ (m : Int) by have := h.m1; omega), decide_eq_true (show (m : Int) ≤ 40 by have := h.m2; omega)]
    rfl
  have e3 : genRows (.int (n : Int)) (.int (m : Int)) (rowsD rows) = true := by
    show rowsOk (rowsD rows) (1 * 2 ^ (n : Int).toNat) (m : Int) = true
    rw [shl_one]
    exact rows_ok h.len h.row
  show genOk (.tuple [.str "generator", .int (n : Int), .int (m : Int), rowsD rows]) = true
  rw [gen_eq, e1, e2, e3]
  decide +kernel
theorem named_iff {x : Str} {d : PyData} (h : named x d = true) : d = .str x := by
  cases d with
  | str y =>
    have h' : (y == x) = true := h
    rw [beq_iff_eq.mp h']
  | _ => cases h
theorem gen_wf {d : PyData} (h : genOk d = true) : ∃ (n m : Nat) (rows : List (List Bool)), d = tabD n m rows ∧ Wf n m rows := by
  unfold genOk at h
  split at h
  · rename_i k n m r
    obtain ⟨g3, h4⟩ := Bool.and_eq_true_iff.mp h
    obtain ⟨g2, h3⟩ := Bool.and_eq_true_iff.mp g3
    obtain ⟨h1, h2⟩ := Bool.and_eq_true_iff.mp g2
    obtain ⟨n, rfl, n1, n2⟩ := whole_int h2
    obtain ⟨m, rfl, m1, m2⟩ := whole_int h3
    obtain ⟨n, rfl⟩ : ∃ k : Nat, n = (k : Int) := ⟨n.toNat, by omega⟩
    obtain ⟨m, rfl⟩ : ∃ k : Nat, m = (k : Int) := ⟨m.toNat, by omega⟩
    have h4' : rowsOk r (1 * 2 ^ (n : Int).toNat) (m : Int) = true := h4
    rw [shl_one] at h4'
    obtain ⟨rows, rfl, hl, hr⟩ := ok_rowsD h4'
    refine ⟨n, m, rows, by rw [named_iff h1]; rfl, by omega, by omega, by omega, by omega, by omega, fun r hr' => by have := hr r hr'; omega⟩
  · cases h
theorem fun_no_gen {d : PyData} (h : funOk d = true) : genOk d = false ∧ ∃ ds, d = .tuple (.str "function" :: ds) := by
  unfold funOk at h
  split at h
  · rename_i k n l m t
    have h1 : named "function" k = true := by
      obtain ⟨h, _⟩ := Bool.and_eq_true_iff.mp h
      obtain ⟨h, _⟩ := Bool.and_eq_true_iff.mp h
      obtain ⟨h, _⟩ := Bool.and_eq_true_iff.mp h
      obtain ⟨h, _⟩ := Bool.and_eq_true_iff.mp h
      exact (Bool.and_eq_true_iff.mp h).1
    have e := named_iff h1
    subst e
    exact ⟨gen_no (by show ¬ 5 = 4; decide), _, rfl⟩
  · cases h
theorem wf_block {n m : Nat} {rows : List (List Bool)} (h : Wf n m rows) : blockOk (tabD n m rows) = true := by
  unfold blockOk
  rw [wf_gen h]
  rfl
/-- data of tuples, texts and numbers alone -/
def Pl : Nat → PyData → Prop
  | 0, d => match d with
    | .int _ => True
    | .str x => okT x
    | _ => False
  | n + 1, d => match d with
    | .int _ => True
    | .str x => okT x
    | .tuple xs => xs.length ≤ 5000 ∧ ∀ x ∈ xs, Pl n x
    | _ => False
theorem pl_str {n : Nat} {x : Str} : Pl n (.str x) ↔ okT x := by cases n <;> exact Iff.rfl
theorem pl_int {n : Nat} {i : Int} : Pl n (.int i) := by cases n <;> trivial
theorem pl_tup {n : Nat} {xs : List PyData} (h : Pl n (.tuple xs)) : xs.length ≤ 5000 ∧ ∃ m, n = m + 1 ∧ ∀ x ∈ xs, Pl m x := by
  cases n with
  | zero => exact h.elim
  | succ n => exact ⟨h.1, n, rfl, h.2⟩
theorem pl_gd : ∀ {n : Nat} {d : PyData}, Pl n d → Gd n d
  | 0, .int _, _ => trivial
  | 0, .str _, h => h
  | n + 1, .int _, _ => trivial
  | n + 1, .str _, h => h
  | n + 1, .tuple xs, h => ⟨h.1, fun x hx => pl_gd (h.2 x hx)⟩
theorem dp_offs {K : PySem.W.Frag} {a d : Addr} {H : Hp} (hh : Hnd H a d) : ∀ {n : Nat} {D : PyData} {v : V}, Pl n D → Dp K H v D → Dp K (off a H) v D
  | 0, .int _, _, _, .int i => .int i
  | 0, .str _, _, _, .str x => .str x
  | n + 1, .int _, _, _, .int i => .int i
  | n + 1, .str _, _, _, .str x => .str x
  | n + 1, .tuple xs, _, h, .tup hT hA => .tup (sqt_off hh hT) (go h.2 hA)
where go {n : Nat} : ∀ {xs : List PyData} {vs : List V}, (∀ x ∈ xs, Pl n x) → DpAll K H vs xs → DpAll K (off a H) vs xs
  | [], _, _, .nil => .nil
  | x :: xs, _, h, .cons hv t => .cons (dp_offs hh (h x List.mem_cons_self) hv) (go (fun y hy => h y (List.mem_cons_of_mem _ hy)) t)
theorem okT_sb {r : List Bool} (h : r.length ≤ 5000) : okT (sb r) := by
  refine ⟨?_, by rw [sb_len]; exact h⟩
  unfold PySem.PyData.strOk
  rw [← Array.all_toList, List.all_eq_true]
  intro c hc
  have e : (sb r).cps.toList = r.map cB := by
    show ((r.map cB).toArray).toList = _
    simp
  rw [e] at hc
  obtain ⟨b, _, rfl⟩ := List.mem_map.mp hc
  cases b <;> decide
theorem pl_tab {n m : Nat} {rows : List (List Bool)} (h1 : rows.length ≤ 5000) (h2 : ∀ r ∈ rows, r.length ≤ 5000) : Pl 2 (tabD n m rows) := by
  refine ⟨by show 4 ≤ 5000; decide, fun x hx => ?_⟩
  rcases List.mem_cons.mp hx with e | hx
  · rw [e]
    exact pl_str.mpr ⟨by decide +kernel, by decide +kernel⟩
  rcases List.mem_cons.mp hx with e | hx
  · rw [e]
    exact pl_int
  rcases List.mem_cons.mp hx with e | hx
  · rw [e]
    exact pl_int
  rcases List.mem_cons.mp hx with e | hx
  · rw [e]
    refine ⟨by rw [List.length_map]; exact h1, fun y hy => ?_⟩
    obtain ⟨r, hr, rfl⟩ := List.mem_map.mp hy
    exact pl_str.mpr (okT_sb (h2 r hr))
  exact nomatch hx
theorem Wf.pl {n m : Nat} {rows : List (List Bool)} (h : Wf n m rows) : Pl 2 (tabD n m rows) := by
  have h2 := two_pow_le (b := 10) h.n2
  have h1 := h.len
  exact pl_tab (by omega) fun r hr => by
    have := h.row r hr
    have := h.m2
    omega
/-- where a generator stands -/
theorem dp_tab {K : PySem.W.Frag} {H : Hp} {v : V} {n m : Nat} {rows : List (List Bool)} (h : Dp K H v (tabD n m rows)) : ∃ a r, v = .ref a ∧ SqT K H a [.str "generator", .int (n : Int), .int (m : Int), .ref r] ∧ SqT K H r (rows.map fun r => V.str (sb r)) := by
  cases h with
  | @tup a ws _ hT hA =>
    cases hA with
    | cons h0 hA =>
      cases hA with
      | cons h1 hA =>
        cases hA with
        | cons h2 hA =>
          cases hA with
          | cons h3 hA =>
            cases hA
            cases h0
            cases h1
            cases h2
            cases h3 with
            | @tup r us _ hR hU => exact ⟨a, r, rfl, hT, by rw [← dp_sbs hU]; exact hR⟩
theorem tab_dp {K : PySem.W.Frag} {H : Hp} {a r : Addr} {n m : Nat} {rows : List (List Bool)} (h1 : SqT K H a [.str "generator", .int (n : Int), .int (m : Int), .ref r]) (h2 : SqT K H r (rows.map fun r => V.str (sb r))) : Dp K H (.ref a) (tabD n m rows) :=
  .tup h1 (.cons (.str _) (.cons (.int _) (.cons (.int _) (.cons (.tup h2 (dp_bits rows)) .nil))))

/-! ### larger blocks -/
def rowV (rows : List (List Bool)) : List V := rows.map fun r => V.str (sb r)
def spAll (K : PySem.W.Frag) : Sp := fun vs H Q _ => ∃ n : Nat, vs = [.int (n : Int)] ∧ n ≤ 12 ∧ ∀ p H', H p = none → Same H H' → H' p = some (.lst (rowV ((List.range (2 ^ n)).map fun i => toB n i))) → Q (.ref p) H'
def spParts (K : PySem.W.Frag) (CB CS : Addr) : Sp := fun vs H Q E => ∃ (v : V) (D : PyData) (k : Nat), vs = [v] ∧ Dp K H v D ∧ Gd k D ∧ k ≤ 64 ∧
  ((blockOk D = false ∧ ∀ H', Same H H' → E (.ref CB) none H') ∨ (funOk D = true ∧ ∀ H', Same H H' → E (.ref CS) none H') ∨
    (∃ n m rows, D = tabD n m rows ∧ Wf n m rows ∧ ∀ p r H', Same H H' → SqT K H' p [.int (n : Int), .int (m : Int), .ref r] → SqT K H' r (rowV rows) → Q (.ref p) H'))
/-- signs from a state, so many, then the state -/
def putOut (rows : List (List Bool)) : Nat → List Bool → List Bool
  | 0, s => s
  | k + 1, s => (rows.getD (val s) []).drop ((rows.getD (val s) []).length - 1) ++ putOut rows k (rows.getD (val s) []).dropLast
def longR (n : Nat) (rows : List (List Bool)) (k : Nat) : List (List Bool) := (List.range (2 ^ n)).map fun i => putOut rows k (toB n i)
def spPut (K : PySem.W.Frag) : Sp := fun vs H Q _ => ∃ (r : Addr) (n k : Nat) (rows : List (List Bool)) (s : List Bool), vs = [.ref r, .str (sb s), .int (k : Int)] ∧ SqT K H r (rowV rows) ∧ Wf n (n + 1) rows ∧ s.length = n ∧ k ≤ 20 ∧ Q (.str (sb (putOut rows k s))) H
def LongBad (D : PyData) (k : Int) : Prop := funOk D = true ∨ ∃ n m rows, D = tabD n m rows ∧ Wf n m rows ∧ (m ≠ n + 1 ∨ whole (.int k) 1 20 = false)
def spLong (K : PySem.W.Frag) (CB CS : Addr) : Sp := fun vs H Q E => ∃ (v : V) (D : PyData) (d : Nat) (k : Int), vs = [v, .int k] ∧ Dp K H v D ∧ Gd d D ∧ d ≤ 64 ∧
  ((blockOk D = false ∧ ∀ H', Same H H' → E (.ref CB) none H') ∨ (LongBad D k ∧ ∀ H', Same H H' → E (.ref CS) none H') ∨
    (∃ (n j : Nat) (rows : List (List Bool)), D = tabD n (n + 1) rows ∧ k = (j : Int) ∧ Wf n (n + 1) rows ∧ 1 ≤ j ∧ j ≤ 20 ∧ ∀ v' H', Same H H' → Dp K H' v' (tabD n (n + j) (longR n rows j)) → Q v' H'))
def CutBad (D : PyData) (b : Int) : Prop := funOk D = true ∨ ∃ n m rows, D = tabD n m rows ∧ Wf n m rows ∧ whole (.int b) 1 (m : Int) = false
def spCut (K : PySem.W.Frag) (CB CS : Addr) : Sp := fun vs H Q E => ∃ (v : V) (D : PyData) (d : Nat) (b : Int), vs = [v, .int b] ∧ Dp K H v D ∧ Gd d D ∧ d ≤ 64 ∧
  ((blockOk D = false ∧ ∀ H', Same H H' → E (.ref CB) none H') ∨ (CutBad D b ∧ ∀ H', Same H H' → E (.ref CS) none H') ∨
    (∃ (n m j : Nat) (rows : List (List Bool)), D = tabD n m rows ∧ b = (j : Int) ∧ Wf n m rows ∧ 1 ≤ j ∧ j ≤ m ∧ ∀ v' H', Same H H' → Dp K H' v' (tabD n j (rows.map fun r => r.take j)) → Q v' H'))
def spSame (K : PySem.W.Frag) (j : Nat) : Sp := fun vs H Q _ => ∃ (v w : V) (d : PyData), vs = [v, w] ∧ Dp K H v d ∧ Dp K H w d ∧ Pl j d ∧ Q (.bl true) H
def spSameB (K : PySem.W.Frag) (j : Nat) : Sp := fun vs H Q E => 1 ≤ j ∧ spSame K (j - 1) vs H Q E
def spLawLong (K : PySem.W.Frag) : Sp := fun vs H Q _ => ∃ (v : V) (n j : Nat) (rows : List (List Bool)), vs = [v, .int (j : Int)] ∧ Dp K H v (tabD n (n + 1) rows) ∧ Wf n (n + 1) rows ∧ 1 ≤ j ∧ j ≤ 20 ∧ ∀ v' H', Same H H' → Dp K H' v' (tabD n (n + j) (longR n rows j)) → Q v' H'
theorem put_len {n : Nat} {rows : List (List Bool)} (h : Wf n (n + 1) rows) : ∀ (k : Nat) (s : List Bool), s.length = n → (putOut rows k s).length = n + k
  | 0, s, hs => hs
  | k + 1, s, hs => by
    have h1 := val_lt s
    rw [hs, ← h.len] at h1
    have hr : (rows.getD (val s) []).length = n + 1 := by
      rw [List.getD_eq_getElem?_getD, List.getElem?_eq_getElem h1]
      exact h.row _ (List.getElem_mem h1)
    show ((rows.getD (val s) []).drop ((rows.getD (val s) []).length - 1) ++ putOut rows k (rows.getD (val s) []).dropLast).length = _
    rw [List.length_append, put_len h k _ (by rw [List.length_dropLast, hr]; rfl), List.length_drop, hr]
    omega
theorem Wf.long {n j : Nat} {rows : List (List Bool)} (h : Wf n (n + 1) rows) (h2 : n + j ≤ 40) : Wf n (n + j) (longR n rows j) where
  n1 := h.n1
  n2 := h.n2
  m1 := by have := h.n1; omega
  m2 := h2
  len := by
    unfold longR
    rw [List.length_map, List.length_range]
  row := fun r hr => by
    unfold longR at hr
    obtain ⟨i, _, rfl⟩ := List.mem_map.mp hr
    exact put_len h j _ (toB_len _ _)
theorem Wf.cut {n m j : Nat} {rows : List (List Bool)} (h : Wf n m rows) (h1 : 1 ≤ j) (h2 : j ≤ m) : Wf n j (rows.map fun r => r.take j) where
  n1 := h.n1
  n2 := h.n2
  m1 := h1
  m2 := Nat.le_trans h2 h.m2
  len := by
    rw [List.length_map]
    exact h.len
  row := fun r hr => by
    obtain ⟨x, hx, rfl⟩ := List.mem_map.mp hr
    rw [List.length_take, h.row x hx]
    omega
def spSpoilt (K : PySem.W.Frag) : Sp := fun vs H Q _ => ∃ (a d : Addr) (v : V) (n m : Nat) (rows : List (List Bool)), vs = [.ref a, v] ∧ Hnd H a d ∧ Dp K H v (tabD n m rows) ∧ Wf n m rows ∧
  ∀ v' D' H', Dp K H' v' D' → Pl 2 D' → blockOk D' = false → Hnd H' a d → Keep a H H' → Q v' H'
theorem dp_txts {K : PySem.W.Frag} {H : Hp} : ∀ ys : List Str, DpAll K H (ys.map V.str) (ys.map PyData.str)
  | [] => .nil
  | y :: ys => .cons (.str y) (dp_txts ys)
theorem rowV_txts (rows : List (List Bool)) : rowV rows = (rows.map sb).map V.str := by
  unfold rowV
  rw [List.map_map]
  rfl
theorem spoilt_bad {n m i : Nat} {ys : List Str} {y : Str} (hi : ys[i]? = some y) (hy : bitRow (m : Int) (.str y) = false) : blockOk (.tuple [.str "generator", .int (n : Int), .int (m : Int), .tuple (ys.map PyData.str)]) = false := by
  have e1 : (ys.map PyData.str).all (bitRow (m : Int)) = false := by
    rw [Bool.eq_false_iff]
    intro z
    rw [List.all_eq_true] at z
    have := z (.str y) (List.mem_map.mpr ⟨y, List.mem_of_getElem? hi, rfl⟩)
    rw [hy] at this
    cases this
  have e2 : genRows (.int (n : Int)) (.int (m : Int)) (.tuple (ys.map PyData.str)) = false := by
    show (decide _ && _) = false
    rw [e1, Bool.and_false]
  unfold blockOk
  rw [gen_eq, e2, Bool.and_false, Bool.false_or]
  exact fun_no (by show ¬ 4 = 5; decide)
theorem spoilt_row {r : List Bool} {m p : Nat} (hr : r.length = m) (hp : p < m) {c : Str} (hc : c = "2" ∨ c = "" ∨ c = "01") : bitRow (m : Int) (.str (sb (r.take p) ++ c ++ sb (r.drop (p + 1)))) = false := by
  show (decide (((sb (r.take p) ++ c ++ sb (r.drop (p + 1))).length : Int) = (m : Int)) && (sb (r.take p) ++ c ++ sb (r.drop (p + 1))).cps.toList.all (fun c => c == 48 || c == 49)) = false
  have l1 : (sb (r.take p) ++ c ++ sb (r.drop (p + 1))).length = p + c.length + (m - (p + 1)) := by
    rw [str_app_len, str_app_len, sb_len, sb_len, List.length_take, List.length_drop, hr]
    omega
  rcases hc with e | e | e
  · have e2 : (sb (r.take p) ++ c ++ sb (r.drop (p + 1))).cps.toList.all (fun c => c == 48 || c == 49) = false := by
      have e3 : (sb (r.take p) ++ c ++ sb (r.drop (p + 1))).cps.toList = (sb (r.take p)).cps.toList ++ c.cps.toList ++ (sb (r.drop (p + 1))).cps.toList := by
        show (((sb (r.take p)).cps ++ c.cps) ++ (sb (r.drop (p + 1))).cps).toList = _
        simp
      rw [e3, List.all_append, List.all_append, e]
      have e4 : ("2" : Str).cps.toList.all (fun c => c == 48 || c == 49) = false := by decide +kernel
      rw [e4, Bool.and_false, Bool.false_and]
    rw [e2, Bool.and_false]
  · have lc : c.length = 0 := by rw [e]; decide +kernel
    rw [l1, lc, decide_eq_false (by omega), Bool.false_and]
  · have lc : c.length = 2 := by rw [e]; decide +kernel
    rw [l1, lc, decide_eq_false (by omega), Bool.false_and]
def LongFits (D : PyData) (k : Int) : Prop := ∃ (n j : Nat) (rows : List (List Bool)), D = tabD n (n + 1) rows ∧ k = (j : Int) ∧ Wf n (n + 1) rows ∧ 1 ≤ j ∧ j ≤ 20
def CutFits (D : PyData) (b : Int) : Prop := ∃ (n m j : Nat) (rows : List (List Bool)), D = tabD n m rows ∧ b = (j : Int) ∧ Wf n m rows ∧ 1 ≤ j ∧ j ≤ m
def spTold3 (K : PySem.W.Frag) : Sp := fun vs H Q _ => ∃ (v : V) (D : PyData) (d : Nat) (which k : Int), vs = [.int which, v, .int k] ∧ (which = 0 ∨ which = 1) ∧ Dp K H v D ∧ Gd d D ∧ d ≤ 64 ∧
  ((blockOk D = false ∧ ∀ H', Same H H' → Q (.str "block") H') ∨ ((which = 0 ∧ LongBad D k ∨ which = 1 ∧ CutBad D k) ∧ ∀ H', Same H H' → Q (.str "scheme") H') ∨
    ((which = 0 ∧ LongFits D k ∨ which = 1 ∧ CutFits D k) ∧ ∀ H', Same H H' → Q (.str "fine") H'))
theorem fun_ok {n l m : Nat} {tabs : List (List (List Bool))} (hn : 1 ≤ n ∧ n ≤ 8) (hl : 1 ≤ l ∧ l ≤ 8) (hnl : n + l ≤ 12) (hm : 1 ≤ m ∧ m ≤ 40) (h1 : tabs.length = 2 ^ n) (h2 : ∀ rows ∈ tabs, rows.length = 2 ^ l ∧ ∀ r ∈ rows, r.length = m) : funOk (funD n l m tabs) = true := by
  have w : ∀ {i k : Nat}, 1 ≤ i → i ≤ k → whole (.int (i : Int)) 1 (k : Int) = true := fun {i k} h1 h2 => by
    show (decide _ && decide _) = true
    rw [decide_eq_true (show (1 : Int) ≤ (i : Int) by omega), decide_eq_true (show (i : Int) ≤ (k : Int) by omega)]
    rfl
  have e1 : whole (.int (n : Int)) 1 8 = true := w hn.1 hn.2
  have e2 : whole (.int (l : Int)) 1 8 = true := w hl.1 hl.2
  have e3 : whole (.int (m : Int)) 1 40 = true := w hm.1 hm.2
  have e4 : sumLe (.int (n : Int)) (.int (l : Int)) = true := decide_eq_true (show (n : Int) + (l : Int) ≤ 12 by omega)
  have e5 : funTabs (.int (n : Int)) (.int (l : Int)) (.int (m : Int)) (.tuple (tabs.map rowsD)) = true := by
    show (decide (((tabs.map rowsD).length : Int) = 1 * 2 ^ (n : Int).toNat) && (tabs.map rowsD).all (fun r => rowsOk r (1 * 2 ^ (l : Int).toNat) (m : Int))) = true
    rw [shl_one, shl_one, List.length_map, h1, decide_eq_true rfl, Bool.true_and, List.all_eq_true]
    intro x hx
    obtain ⟨rows, hr, rfl⟩ := List.mem_map.mp hx
    exact rows_ok (h2 rows hr).1 (h2 rows hr).2
  show funOk (.tuple [.str "function", .int (n : Int), .int (l : Int), .int (m : Int), .tuple (tabs.map rowsD)]) = true
  rw [fun_eq, e1, e2, e3, e4, e5]
  decide +kernel
theorem pl_fun {n l m : Nat} {tabs : List (List (List Bool))} (h1 : tabs.length ≤ 5000) (h2 : ∀ rows ∈ tabs, rows.length ≤ 5000 ∧ ∀ r ∈ rows, r.length ≤ 5000) : Pl 3 (funD n l m tabs) := by
  refine ⟨by show 5 ≤ 5000; decide, fun x hx => ?_⟩
  rcases List.mem_cons.mp hx with e | hx
  · rw [e]
    exact pl_str.mpr ⟨by decide +kernel, by decide +kernel⟩
  refine all4 pl_int pl_int pl_int ?_ x hx
  refine ⟨by rw [List.length_map]; exact h1, fun y hy => ?_⟩
  obtain ⟨rows, hrow, rfl⟩ := List.mem_map.mp hy
  refine ⟨by rw [List.length_map]; exact (h2 rows hrow).1, fun z hz => ?_⟩
  obtain ⟨r, hr, rfl⟩ := List.mem_map.mp hz
  exact pl_str.mpr (okT_sb ((h2 rows hrow).2 r hr))
theorem short_bad : blockOk (.tuple [.str "generator", .int 1, .int 2, .tuple [.str "00"]]) = false := by decide +kernel
theorem whole_no {x lo hi : Int} (h : x < lo ∨ hi < x) : whole (.int x) lo hi = false := by
  show (decide (lo ≤ x) && decide (x ≤ hi)) = false
  rcases h with h | h
  · rw [decide_eq_false (show ¬ lo ≤ x by omega), Bool.false_and]
  · rw [decide_eq_false (show ¬ x ≤ hi by omega), Bool.and_false]

theorem getD_row {rows : List (List Bool)} {i : Nat} (h : i < rows.length) : (rowV rows)[i]? = some (.str (sb (rows.getD i []))) := by
  unfold rowV
  rw [List.getElem?_map, List.getElem?_eq_getElem h, List.getD_eq_getElem?_getD, List.getElem?_eq_getElem h]
  rfl
theorem Wf.at {n m : Nat} {rows : List (List Bool)} (h : Wf n m rows) {s : List Bool} (hs : s.length = n) : val s < rows.length ∧ (rows.getD (val s) []).length = m := by
  have h1 := val_lt s
  rw [hs, ← h.len] at h1
  refine ⟨h1, ?_⟩
  rw [List.getD_eq_getElem?_getD, List.getElem?_eq_getElem h1]
  exact h.row _ (List.getElem_mem h1)
theorem sb_cps (l : List Bool) : (sb l).cps.toList = l.map cB := by
  show ((l.map cB).toArray).toList = _
  simp
theorem last_bit {row : List Bool} {n : Nat} (h : row.length = n + 1) : ∃ b, row.drop n = [b] ∧ atI (sb row).cps.toList (-1) = some (cB b) := by
  have hn : n < row.length := by omega
  refine ⟨row[n], ?_, ?_⟩
  · rw [List.drop_eq_getElem_cons hn, List.drop_of_length_le (by omega)]
  · rw [sb_cps]
    unfold atI ixN
    rw [List.length_map, if_neg (by decide), if_pos (by omega)]
    show (row.map cB)[((-1 : Int) + (row.length : Int)).toNat]? = _
    rw [show ((-1 : Int) + (row.length : Int)).toNat = n by omega, List.getElem?_map, List.getElem?_eq_getElem hn]
    rfl
theorem cut_last {l : List Bool} : cutS (sb l) none (some (-1)) = sb l.dropLast := by
  unfold cutS
  rw [sb_drop_take]
  have e0 : HT.sIx (sb l).length 0 none = 0 := rfl
  rw [e0, List.drop_zero, Nat.sub_zero]
  have e : HT.sIx (sb l).length (sb l).length (some (-1)) = l.length - 1 := by
    rw [sb_len]
    show (if (-1 : Int) < 0 then ((-1 : Int) + (l.length : Int)).toNat else min (-1 : Int).toNat l.length) = _
    rw [if_pos (by decide)]
    omega
  rw [show HT.sIx (sb l).length (sb l).length (some (-1)) = l.length - 1 from e, List.dropLast_eq_take]

theorem str_bit (k : Nat) : Str.ofString (toString ((k : Int) % 2)) = sb [k % 2 == 1] := by
  have h : ((k : Int) % 2) = ((k % 2 : Nat) : Int) := by omega
  rw [h]
  rcases Nat.mod_two_eq_zero_or_one k with z | z <;> rw [z] <;> decide +kernel

theorem sb_size {bs : List Bool} (h : bs.length ≤ 16777216) : (sb bs).length ≤ sizeLine := by
  rw [sb_len, sizeLine_eq]
  exact h
theorem xor_nat (a b : Nat) : Builtin.bitXor (a : Int) (b : Int) = ((a ^^^ b : Nat) : Int) := by
  rw [Bits.bitXor_pp (by omega) (by omega)]
  rfl
theorem val_lt' {l m : List Bool} (h : l.length = m.length) : val m < 2 ^ l.length := by
  rw [h]
  exact val_lt m

/-! ### (z,) * k, k from 1 on -/
def rRep1 (K : PySem.W.Frag) : R2 := fun x y H Q => ∃ (l : Addr) (k : Int) (z : V), x = .ref l ∧ y = .int k ∧ SqT K H l [z] ∧ 1 ≤ k ∧ k ≤ 5000 ∧ ∀ p H', Same H H' → SqT K H' p (List.replicate k.toNat z) → Q (.ref p) H'
theorem tuple_once (l : Addr) (z : Value) (n : Nat) (dd : Option Addr) (sl : Array (Option Value)) (u : Tok) :
    Meets (Builtin.«tuple.__mul__» ⟨[.ref l, .int 1 u], []⟩) (fun _ R s => s.heap.get? l = some { cls := .type "tuple", dict := dd, data := .seq #[z] n, slots := sl } ∧ R (.ok (.ret (.ref l))) s) :=
  .of_wp fun prog w A R s h => by
    obtain ⟨hp, g, d, tk, os⟩ := s
    obtain ⟨hl, h⟩ := h
    have idx := AutoSeq1.idx_int
    wp_walk using wpAny_loadPart' hl
    exact ⟨_, rfl, h⟩
section
variable {X : Cx}
theorem op_rep1 (K : PySem.W.Frag) (hK : X.K = K := by rfl) : OpR X (binaryOp .Mult) (rRep1 K) := by
  subst hK
  intro pins s σ H x y v u Q I rx ry h
  obtain ⟨l, k, z, rfl, rfl, hT, h1, h2, q⟩ := h
  cases rx
  obtain ⟨t, rfl⟩ := ry
  obtain ⟨its, rz, ⟨⟨cls, dd, data, sl⟩, ho, hc, n, hd⟩, hs⟩ := I.tuple hT
  dsimp only at hc hd
  subst hc hd
  match its, rz with
  | [w], .cons rw' .nil =>
    -- what the slot of the tuple must do
    have road : ∀ {Q' : Value → Shared → Prop}, wpAny (model X.prog X.w) X.A (call (.builtin "tuple.__mul__") [.ref l, .int k t]) Q' X.xe s →
        wpAny (model X.prog X.w) X.A (binaryOp .Mult (.ref l) (.int k t)) Q' X.xe s := fun {Q'} c =>
      wpAny_binaryOp_repeat_ref (U := "int") (T := "tuple") (by decide)
        ⟨_, ho, rfl⟩ (fun s' => typeIs_int s' k t)
        noFill_tuple_mul F.fills_int_mul
        F.slot_int_rmul repeat_tuple
        F.slot_int_index.lookup
        (call_meets F.slot_int_rmul (typeIs_int s k t)
          F.entry_int_rmul (F.args_int_rmul_2 _ _)
          (int_rmul_tuple k t l _ n dd sl)
          ⟨ho, rfl, ⟨_, ho, rfl⟩, c⟩)
    refine road ?_
    by_cases one : k = 1
    · subst one
      refine call_meets F.slot_tuple_mul ⟨_, ho, rfl⟩
        F.entry_tuple_mul (F.args_tuple_mul_2 _ _)
        (tuple_once l w n dd sl t) ⟨ho, ?_⟩
      exact ⟨.ref l, H, I, rfl, q l H (Same.refl H) hT⟩
    · have a0 : (decide (k < -(2 ^ 63)) || decide (k ≥ 2 ^ 63)) = false := by
        rw [decide_eq_false (show ¬ k < -(2 ^ 63) by omega), Bool.false_or]
        exact decide_eq_false (by omega)
      have a1 : ((#[w] : Array Value).isEmpty || k == 1) = false := beq_eq_false_iff_ne.mpr one
      have a2 : (decide (k ≤ 0) || (#[w] : Array Value).isEmpty) = false := by
        rw [decide_eq_false (show ¬ k ≤ 0 by omega)]
        rfl
      have sz : (((#[w] : Array Value).size : Nat) : Int) = 1 := rfl
      have a4 : Builtin.Tuple.tupleTooMany ((((#[w] : Array Value).size : Nat) : Int) * k) = false := by
        rw [sz, Int.one_mul]
        unfold Builtin.Tuple.tupleTooMany
        exact decide_eq_false (by rw [sizeLine_eq]; omega)
      have len : (List.replicate k.toNat [w]).flatten.length = k.toNat := by
        rw [PyProof.Rows.lm_len_rep_flat]
        exact Nat.mul_one _
      refine call_meets F.slot_tuple_mul ⟨_, ho, rfl⟩
        F.entry_tuple_mul (F.args_tuple_mul_2 _ _)
        (tuple_mulW l #[w] n dd sl k t a0 a1 a2 (by rw [sz]; omega) a4 (by rw [show (#[w] : Array Value) = [w].toArray from rfl, size_rep, List.size_toArray, len, sizeLine_eq]; omega)) ⟨ho, ?_⟩
      rw [show (#[w] : Array Value) = [w].toArray from rfl, size_rep]
      have np := I.hok.fresh (Nat.le_refl s.heap.objs.size)
      have e1 : (List.replicate k.toNat [z]).flatten = List.replicate k.toNat z := by
        generalize k.toNat = j
        induction j with
        | zero => rfl
        | succ j ih => rw [List.replicate_succ, List.flatten_cons, ih, List.replicate_succ]; rfl
      refine ⟨.ref s.heap.objs.size, _, I.laid (t' := s.toks) (o := .tup (List.replicate k.toNat [z]).flatten) (fun _ _ g => Heap.get?_push_of_some _ g) (Nat.le_refl _) ?_, rfl, q _ _ (same_new np) (.inl (.inl (by rw [upd_same, e1])))⟩
      refine ⟨?_, _, (show Vals [z] [w] from .cons rw' .nil).rep k.toNat, IsTup.new _ _⟩
      rw [PyProof.Rows.lm_len_rep_flat, sizeLine_eq]
      show k.toNat * 1 ≤ _
      omega
end

/-! ### functions, as the document tells them -/
structure Wff (n l m : Nat) (tabs : List (List (List Bool))) : Prop where
  n1 : 1 ≤ n
  n2 : n ≤ 8
  l1 : 1 ≤ l
  l2 : l ≤ 8
  nl : n + l ≤ 12
  m1 : 1 ≤ m
  m2 : m ≤ 40
  len : tabs.length = 2 ^ n
  row : ∀ rows ∈ tabs, rows.length = 2 ^ l ∧ ∀ r ∈ rows, r.length = m
theorem Wff.ok {n l m : Nat} {tabs : List (List (List Bool))} (h : Wff n l m tabs) : funOk (funD n l m tabs) = true := fun_ok ⟨h.n1, h.n2⟩ ⟨h.l1, h.l2⟩ h.nl ⟨h.m1, h.m2⟩ h.len h.row
theorem Wff.pl {n l m : Nat} {tabs : List (List (List Bool))} (h : Wff n l m tabs) : Pl 3 (funD n l m tabs) := by
  have a1 := two_pow_le (b := 8) h.n2
  have a2 := two_pow_le (b := 8) h.l2
  have a3 := h.len
  refine pl_fun (by omega) fun rows hr => ?_
  have a4 := (h.row rows hr).1
  refine ⟨by omega, fun r hr' => ?_⟩
  have a5 := (h.row rows hr).2 r hr'
  have a6 := h.m2
  omega
theorem fun_wf {d : PyData} (h : funOk d = true) : ∃ (n l m : Nat) (tabs : List (List (List Bool))), d = funD n l m tabs ∧ Wff n l m tabs := by
  unfold funOk at h
  split at h
  · rename_i k n l m t
    obtain ⟨g5, h6⟩ := Bool.and_eq_true_iff.mp h
    obtain ⟨g4, h5⟩ := Bool.and_eq_true_iff.mp g5
    obtain ⟨g3, h4⟩ := Bool.and_eq_true_iff.mp g4
    obtain ⟨g2, h3⟩ := Bool.and_eq_true_iff.mp g3
    obtain ⟨h1, h2⟩ := Bool.and_eq_true_iff.mp g2
    obtain ⟨n, rfl, n1, n2⟩ := whole_int h2
    obtain ⟨l, rfl, l1, l2⟩ := whole_int h3
    obtain ⟨m, rfl, m1, m2⟩ := whole_int h5
    obtain ⟨n, rfl⟩ : ∃ k : Nat, n = (k : Int) := ⟨n.toNat, by omega⟩
    obtain ⟨l, rfl⟩ : ∃ k : Nat, l = (k : Int) := ⟨l.toNat, by omega⟩
    obtain ⟨m, rfl⟩ : ∃ k : Nat, m = (k : Int) := ⟨m.toNat, by omega⟩
    have h4' : (n : Int) + (l : Int) ≤ 12 := of_decide_eq_true h4
    cases t with
    | tuple ts =>
      have h6' : (decide ((ts.length : Int) = 1 * 2 ^ (n : Int).toNat) && ts.all (fun r => rowsOk r (1 * 2 ^ (l : Int).toNat) (m : Int))) = true := h6
      rw [shl_one, shl_one] at h6'
      obtain ⟨e1, e2⟩ := Bool.and_eq_true_iff.mp h6'
      have e1' : (ts.length : Int) = ((2 ^ n : Nat) : Int) := of_decide_eq_true e1
      have key : ∀ q : List PyData, q.all (fun r => rowsOk r ((2 ^ l : Nat) : Int) (m : Int)) = true → ∃ tabs : List (List (List Bool)), q = tabs.map rowsD ∧ ∀ rows ∈ tabs, rows.length = 2 ^ l ∧ ∀ r ∈ rows, r.length = m := by
        intro q
        induction q with
        | nil => exact fun _ => ⟨[], rfl, fun r hr => nomatch hr⟩
        | cons c q ih =>
          intro hl
          rw [List.all_cons, Bool.and_eq_true] at hl
          obtain ⟨tabs, e, hr⟩ := ih hl.2
          obtain ⟨rows, er, hl', hr'⟩ := ok_rowsD hl.1
          refine ⟨rows :: tabs, by rw [e, er]; rfl, fun x hx => ?_⟩
          rcases List.mem_cons.mp hx with z | z
          · rw [z]
            exact ⟨by omega, fun r hr => by have := hr' r hr; omega⟩
          · exact hr x z
      obtain ⟨tabs, rfl, hr⟩ := key ts e2
      rw [List.length_map] at e1'
      refine ⟨n, l, m, tabs, by rw [named_iff h1]; rfl, by omega, by omega, by omega, by omega, by omega, by omega, by omega, by omega, hr⟩
    | _ => cases h6
  · cases h
theorem gen_no_fun {d : PyData} (h : genOk d = true) : funOk d = false := by
  obtain ⟨n, m, rows, rfl, _⟩ := gen_wf h
  exact fun_no (by show ¬ 4 = 5; decide)
def tabsD (tabs : List (List (List Bool))) : PyData := .tuple (tabs.map rowsD)
theorem dp_fun {K : PySem.W.Frag} {H : Hp} {v : V} {n l m : Nat} {tabs : List (List (List Bool))} (h : Dp K H v (funD n l m tabs)) : ∃ a t, v = .ref a ∧ SqT K H a [.str "function", .int (n : Int), .int (l : Int), .int (m : Int), .ref t] ∧ Dp K H (.ref t) (tabsD tabs) := by
  cases h with
  | @tup a ws _ hT hA =>
    cases hA with
    | cons h0 hA =>
      cases hA with
      | cons h1 hA =>
        cases hA with
        | cons h2 hA =>
          cases hA with
          | cons h3 hA =>
            cases hA with
            | cons h4 hA =>
              cases hA
              cases h0
              cases h1
              cases h2
              cases h3
              cases h4 with
              | tup hR hU => exact ⟨a, _, rfl, hT, .tup hR hU⟩
theorem fun_dp {K : PySem.W.Frag} {H : Hp} {a t : Addr} {n l m : Nat} {tabs : List (List (List Bool))} (h1 : SqT K H a [.str "function", .int (n : Int), .int (l : Int), .int (m : Int), .ref t]) (h2 : Dp K H (.ref t) (tabsD tabs)) : Dp K H (.ref a) (funD n l m tabs) :=
  .tup h1 (.cons (.str _) (.cons (.int _) (.cons (.int _) (.cons (.int _) (.cons h2 .nil)))))
theorem tabs_at {K : PySem.W.Frag} {H : Hp} {t : Addr} {tabs : List (List (List Bool))} (h : Dp K H (.ref t) (tabsD tabs)) : ∃ us, SqT K H t us ∧ us.length = tabs.length ∧ ∀ i (hi : i < tabs.length), ∃ r, us[i]? = some (.ref r) ∧ SqT K H r (rowV tabs[i]) := by
  cases h with
  | @tup _ us _ hT hA =>
    have hl := dp_all_len hA
    rw [List.length_map] at hl
    refine ⟨us, hT, hl, fun i hi => ?_⟩
    have hiu : i < us.length := by omega
    obtain ⟨d, hd, hx⟩ := dp_all_get hA (List.getElem?_eq_getElem hiu)
    rw [List.getElem?_map, List.getElem?_eq_getElem hi] at hd
    have e := Option.some.inj hd
    subst e
    obtain ⟨r, e2, hr⟩ : ∃ r, us[i] = .ref r ∧ SqT K H r (rowV tabs[i]) := by
      generalize us[i] = u at hx
      cases hx with
      | @tup r ws _ hR hU => exact ⟨r, rfl, by unfold rowV; rw [← dp_sbs hU]; exact hR⟩
    exact ⟨r, by rw [List.getElem?_eq_getElem hiu, e2], hr⟩
def spFParts (K : PySem.W.Frag) (CB CS : Addr) : Sp := fun vs H Q E => ∃ (v : V) (D : PyData) (k : Nat), vs = [v] ∧ Dp K H v D ∧ Gd k D ∧ k ≤ 64 ∧
  ((blockOk D = false ∧ ∀ H', Same H H' → E (.ref CB) none H') ∨ (genOk D = true ∧ ∀ H', Same H H' → E (.ref CS) none H') ∨
    (∃ n l m tabs, D = funD n l m tabs ∧ Wff n l m tabs ∧ ∀ p t H', Same H H' → SqT K H' p [.int (n : Int), .int (l : Int), .int (m : Int), .ref t] → Dp K H' (.ref t) (tabsD tabs) → Q (.ref p) H'))
def spRow (K : PySem.W.Frag) (CB : Addr) : Sp := fun vs H Q E => ∃ (v : V) (D : PyData) (k : Nat) (x : Str), vs = [v, .str x] ∧ Dp K H v D ∧ Gd k D ∧ k ≤ 64 ∧
  ((blockOk D = false ∧ ∀ H', Same H H' → E (.ref CB) none H') ∨
    (∃ n m rows s, D = tabD n m rows ∧ x = sb s ∧ s.length = n ∧ Wf n m rows ∧ ∀ H', Same H H' → Q (.str (sb (rows.getD (val s) []))) H'))
def spVal (K : PySem.W.Frag) (CB : Addr) : Sp := fun vs H Q E => ∃ (v : V) (D : PyData) (k : Nat) (x y : Str), vs = [v, .str x, .str y] ∧ Dp K H v D ∧ Gd k D ∧ k ≤ 64 ∧
  ((blockOk D = false ∧ ∀ H', Same H H' → E (.ref CB) none H') ∨
    (∃ n l m tabs s t, D = funD n l m tabs ∧ x = sb s ∧ y = sb t ∧ s.length = n ∧ t.length = l ∧ Wff n l m tabs ∧ ∀ H', Same H H' → Q (.str (sb ((tabs.getD (val s) []).getD (val t) []))) H'))
/-- down from a label, along a path -/
def goDown (rows : List (List Bool)) (n : Nat) : List Bool → List Bool → List Bool
  | lab, [] => lab
  | lab, b :: bs => goDown rows n (if b then (rows.getD (val lab) []).drop n else (rows.getD (val lab) []).take n) bs
def treeT (n d : Nat) (rows : List (List Bool)) : List (List (List Bool)) := (List.range (2 ^ n)).map fun i => (List.range (2 ^ d)).map fun j => goDown rows n (toB n i) (toB d j)
def spGo (K : PySem.W.Frag) : Sp := fun vs H Q _ => ∃ (r : Addr) (n : Nat) (rows : List (List Bool)) (lab path : List Bool), vs = [.ref r, .str (sb lab), .str (sb path)] ∧ SqT K H r (rowV rows) ∧ Wf n (2 * n) rows ∧ lab.length = n ∧ Q (.str (sb (goDown rows n lab path))) H
def TreeBad (D : PyData) (d : Int) : Prop := funOk D = true ∨ ∃ n m rows, D = tabD n m rows ∧ Wf n m rows ∧ (m ≠ 2 * n ∨ 8 < n ∨ whole (.int d) 1 8 = false ∨ 12 < (n : Int) + d)
def TreeFits (D : PyData) (d : Int) : Prop := ∃ (n j : Nat) (rows : List (List Bool)), D = tabD n (2 * n) rows ∧ d = (j : Int) ∧ Wf n (2 * n) rows ∧ n ≤ 8 ∧ 1 ≤ j ∧ j ≤ 8 ∧ n + j ≤ 12
def spTree (K : PySem.W.Frag) (CB CS : Addr) : Sp := fun vs H Q E => ∃ (v : V) (D : PyData) (k : Nat) (d : Int), vs = [v, .int d] ∧ Dp K H v D ∧ Gd k D ∧ k ≤ 64 ∧
  ((blockOk D = false ∧ ∀ H', Same H H' → E (.ref CB) none H') ∨ (TreeBad D d ∧ ∀ H', Same H H' → E (.ref CS) none H') ∨
    (∃ (n j : Nat) (rows : List (List Bool)), D = tabD n (2 * n) rows ∧ d = (j : Int) ∧ Wf n (2 * n) rows ∧ n ≤ 8 ∧ 1 ≤ j ∧ j ≤ 8 ∧ n + j ≤ 12 ∧ ∀ v' H', Same H H' → Dp K H' v' (funD n j n (treeT n j rows)) → Q v' H'))
def cntR (c : Nat) (tabs : List (List (List Bool))) : List (List Bool) := tabs.map fun vals => (vals.take c).flatten
def CntBad (D : PyData) (c : Int) : Prop := genOk D = true ∨ ∃ n l m tabs, D = funD n l m tabs ∧ Wff n l m tabs ∧ (whole (.int c) 1 ((2 ^ l : Nat) : Int) = false ∨ 40 < c * (m : Int))
def CntFits (D : PyData) (c : Int) : Prop := ∃ (n l m j : Nat) (tabs : List (List (List Bool))), D = funD n l m tabs ∧ c = (j : Int) ∧ Wff n l m tabs ∧ 1 ≤ j ∧ j ≤ 2 ^ l ∧ j * m ≤ 40
def spCnt (K : PySem.W.Frag) (CB CS : Addr) : Sp := fun vs H Q E => ∃ (v : V) (D : PyData) (k : Nat) (c : Int), vs = [v, .int c] ∧ Dp K H v D ∧ Gd k D ∧ k ≤ 64 ∧
  ((blockOk D = false ∧ ∀ H', Same H H' → E (.ref CB) none H') ∨ (CntBad D c ∧ ∀ H', Same H H' → E (.ref CS) none H') ∨
    (∃ (n l m j : Nat) (tabs : List (List (List Bool))), D = funD n l m tabs ∧ c = (j : Int) ∧ Wff n l m tabs ∧ 1 ≤ j ∧ j ≤ 2 ^ l ∧ j * m ≤ 40 ∧ ∀ v' H', Same H H' → Dp K H' v' (tabD n (j * m) (cntR j tabs)) → Q v' H'))
def par (l m : List Bool) : Bool := ((List.zipWith (fun x y => x && y) l m).count true) % 2 == 1
def hardRow (n : Nat) (rows : List (List Bool)) (i j : Nat) : List Bool := rows.getD i [] ++ toB n j ++ [par (toB n i) (toB n j)]
def hardR (n : Nat) (rows : List (List Bool)) : List (List Bool) := ((List.range (2 ^ n)).map fun i => (List.range (2 ^ n)).map fun j => hardRow n rows i j).flatten
def HardBad (D : PyData) : Prop := funOk D = true ∨ ∃ n m rows, D = tabD n m rows ∧ Wf n m rows ∧ (5 < n ∨ 40 < m + n + 1)
def HardFits (D : PyData) : Prop := ∃ (n m : Nat) (rows : List (List Bool)), D = tabD n m rows ∧ Wf n m rows ∧ n ≤ 5 ∧ m + n + 1 ≤ 40
def spHard (K : PySem.W.Frag) (CB CS : Addr) : Sp := fun vs H Q E => ∃ (v : V) (D : PyData) (k : Nat), vs = [v] ∧ Dp K H v D ∧ Gd k D ∧ k ≤ 64 ∧
  ((blockOk D = false ∧ ∀ H', Same H H' → E (.ref CB) none H') ∨ (HardBad D ∧ ∀ H', Same H H' → E (.ref CS) none H') ∨
    (∃ (n m : Nat) (rows : List (List Bool)), D = tabD n m rows ∧ Wf n m rows ∧ n ≤ 5 ∧ m + n + 1 ≤ 40 ∧ ∀ v' H', Same H H' → Dp K H' v' (tabD (2 * n) (m + n + 1) (hardR n rows)) → Q v' H'))
def spLawTree (K : PySem.W.Frag) : Sp := fun vs H Q _ => ∃ (v : V) (n j : Nat) (rows : List (List Bool)), vs = [v, .int (j : Int)] ∧ Dp K H v (tabD n (2 * n) rows) ∧ Wf n (2 * n) rows ∧ n ≤ 8 ∧ 1 ≤ j ∧ j ≤ 8 ∧ ∀ v' H', Same H H' → Dp K H' v' (funD n j n (treeT n j rows)) → Q v' H'
def spLawHard (K : PySem.W.Frag) : Sp := fun vs H Q _ => ∃ (v : V) (n m : Nat) (rows : List (List Bool)), vs = [v] ∧ Dp K H v (tabD n m rows) ∧ Wf n m rows ∧ n ≤ 5 ∧ m + n + 1 ≤ 40 ∧ ∀ v' H', Same H H' → Dp K H' v' (tabD (2 * n) (m + n + 1) (hardR n rows)) → Q v' H'
section
variable {X : Cx} {tg e : Expr} {te : TE}
theorem piL (K : PySem.W.Frag) (he : PE X e te) (h : X.K = K := by rfl) : PI X tg e (iList K te) := by
  subst h
  exact pi_list he
theorem piT (K : PySem.W.Frag) (he : PE X e te) (h : X.K = K := by rfl) : PI X tg e (iTup K te) := by
  subst h
  exact pi_tup he
end
theorem off_upd1 {R : Addr} {H : Hp} {o : HO} : off R (upd H R o) = off R H := by
  funext b
  unfold off
  by_cases h : b = R
  · rw [if_pos h, if_pos h]
  · rw [if_neg h, if_neg h, upd_ne h]
theorem rowV_at {rows : List (List Bool)} {i : Nat} {x : V} (h : (rowV rows)[i]? = some x) : ∃ hi : i < rows.length, x = .str (sb rows[i]) := by
  unfold rowV at h
  rw [List.getElem?_map] at h
  obtain ⟨r, hr, e⟩ := Option.map_eq_some_iff.mp h
  obtain ⟨hi, rfl⟩ := List.getElem?_eq_some_iff.mp hr
  exact ⟨hi, e.symm⟩
theorem range_at {n k i : Nat} {x : V} (h : (rowV ((List.range k).map fun i => toB n i))[i]? = some x) : i < k ∧ x = .str (sb (toB n i)) := by
  obtain ⟨hi, e⟩ := rowV_at h
  rw [List.length_map, List.length_range] at hi
  refine ⟨hi, ?_⟩
  rw [e, List.getElem_map, List.getElem_range]
theorem rowV_len (rows : List (List Bool)) : (rowV rows).length = rows.length := List.length_map ..
theorem rowV_snoc {k : Nat} (f : Nat → List Bool) : rowV ((List.range (k + 1)).map f) = rowV ((List.range k).map f) ++ [.str (sb (f k))] := by
  unfold rowV
  rw [List.range_succ, List.map_append, List.map_append]
  rfl
theorem walkL {K : PySem.W.Frag} {a : Addr} {xs : List V} {B : (Hp → Prop) → V → Hp → Prop} {H0 : Hp} {Qd : Hp → Prop} (Pv : Nat → Hp → Prop) (h0 : Pv 0 H0) (hl : ∀ i H, i ≤ xs.length → Pv i H → SqL K H a xs)
    (hs : ∀ i x H, xs[i]? = some x → Pv i H → B (Pv (i + 1)) x H) (hd : ∀ H, Pv xs.length H → Qd H) :
    ∃ W : Nat → Nat → Hp → Prop, (∃ m, W 0 m H0) ∧ ∀ i m H, W i m H → ((Itl K a).stop i H ∧ Qd H) ∨ ((Itl K a).go i H ∧ ∃ Nx : Hp → Prop, (∀ H', Nx H' → ∃ m', m' < m ∧ W (i + 1) m' H') ∧ ∀ x H', (Itl K a).yld i H x H' → B Nx x H') := by
  refine ⟨fun i m H => m = xs.length - i ∧ i ≤ xs.length ∧ Pv i H, ⟨xs.length, by omega, Nat.zero_le _, h0⟩, ?_⟩
  rintro i m H ⟨rfl, hi, p⟩
  have hS := hl i H hi p
  by_cases c : i < xs.length
  · refine .inr ⟨⟨xs, xs[i], hS, List.getElem?_eq_getElem c⟩, Pv (i + 1), fun H' p' => ⟨xs.length - (i + 1), by omega, rfl, c, p'⟩, ?_⟩
    rintro y H' ⟨rfl, hy⟩
    exact hs i y _ (hy xs hS) p
  · have e : i = xs.length := by omega
    subst e
    exact .inl ⟨⟨xs, hS, Nat.le_refl _⟩, hd H p⟩
def hardMade (n : Nat) (rows : List (List Bool)) (i : Nat) : List (List Bool) := ((List.range i).map fun i => (List.range (2 ^ n)).map fun j => hardRow n rows i j).flatten
theorem hardMade_succ (n : Nat) (rows : List (List Bool)) (i : Nat) : hardMade n rows (i + 1) = hardMade n rows i ++ (List.range (2 ^ n)).map fun j => hardRow n rows i j := by
  unfold hardMade
  rw [List.range_succ, List.map_append, List.flatten_append]
  show _ ++ ((_ : List (List Bool)) ++ []) = _
  rw [List.append_nil]
theorem hardMade_len (n : Nat) (rows : List (List Bool)) (i : Nat) : (hardMade n rows i).length = i * 2 ^ n := by
  induction i with
  | zero => rw [Nat.zero_mul]; rfl
  | succ i ih => rw [hardMade_succ, List.length_append, ih, List.length_map, List.length_range, Nat.succ_mul]
theorem rowV_app (a b : List (List Bool)) : rowV (a ++ b) = rowV a ++ rowV b := List.map_append ..
def spTold4 (K : PySem.W.Frag) : Sp := fun vs H Q _ => ∃ (v : V) (D : PyData) (d : Nat) (which k : Int), vs = [.int which, v, .int k] ∧ (0 ≤ which ∧ which ≤ 4) ∧ Dp K H v D ∧ Gd d D ∧ d ≤ 64 ∧
  ((blockOk D = false ∧ ∀ H', Same H H' → Q (.str "block") H') ∨ ((which = 0 ∧ TreeBad D k ∨ which = 1 ∧ CntBad D k ∨ which = 2 ∧ HardBad D) ∧ ∀ H', Same H H' → Q (.str "scheme") H') ∨
    ((which = 0 ∧ TreeFits D k ∨ which = 1 ∧ CntFits D k ∨ which = 2 ∧ HardFits D) ∧ ∀ H', Same H H' → Q (.str "fine") H'))
theorem ne_int {x y : Int} (h : x ≠ y) : decide (V.int x = V.int y) = false := decide_eq_false fun z => h (V.int.inj z)
def spLooks (K : PySem.W.Frag) : Sp := fun vs H Q _ => ∃ (v w : V) (n m n' l' m' : Nat) (rows : List (List Bool)) (tabs : List (List (List Bool))), vs = [v, w] ∧ Dp K H v (tabD n m rows) ∧ Wf n m rows ∧ Dp K H w (funD n' l' m' tabs) ∧ Wff n' l' m' tabs ∧ ∀ H', Same H H' → Q (.bl true) H'
def spEdges : Sp := fun vs H Q _ => ∃ (a d : Addr), vs = [.ref a] ∧ Hnd H a d ∧ ∀ H', Q (.bl true) H'

theorem join_sbs (rows : List (List Bool)) : Txt.join "" (rows.map sb) = sb rows.flatten := by
  have e := join_all (rows.map sb)
  have e2 : ((rows.map sb).map (·.cps.toList)).flatten = rows.flatten.map cB := by
    rw [List.map_map, List.map_flatten]
    refine congrArg List.flatten (List.map_congr_left fun r _ => ?_)
    exact sb_cps r
  refine TL.ext_tl ?_
  show (Txt.join "" (rows.map sb)).cps.toList = (sb rows.flatten).cps.toList
  rw [e, e2, sb_cps]
theorem cut_rows {rows : List (List Bool)} {c : Nat} : cutV (rowV rows) none (some (c : Int)) = ((rows.take c).map sb).map V.str := by
  unfold cutV
  rw [HT.sIx_none, sIx_n, List.drop_zero, Nat.sub_zero, rowV_txts, ← List.map_take, ← List.map_take, List.length_map, List.length_map]
  by_cases h : c ≤ rows.length
  · rw [Nat.min_eq_left h]
  · rw [Nat.min_eq_right (by omega), List.take_of_length_le (Nat.le_refl _), List.take_of_length_le (by omega)]
theorem sum_rows {rows : List (List Bool)} {m : Nat} (h : ∀ r ∈ rows, r.length = m) : ((rows.map sb).map (·.length)).sum = rows.length * m := by
  induction rows with
  | nil => rw [List.length_nil, Nat.zero_mul]; rfl
  | cons r rows ih =>
    rw [List.map_cons, List.map_cons, List.sum_cons, ih fun x hx => h x (List.mem_cons_of_mem _ hx), List.length_cons, Nat.succ_mul, sb_len, h r List.mem_cons_self]
    omega

theorem atI_bits {l : List Bool} {i : Nat} (h : i < l.length) : atI (sb l).cps.toList ((0 : Int) + (i : Int)) = some (cB l[i]) := by
  rw [Int.zero_add]
  refine atI_nat ?_
  show (l.map cB)[i]? = _
  rw [List.getElem?_map, List.getElem?_eq_getElem h]
  rfl
theorem sign_ne (a b : Bool) : (!decide (V.str ⟨#[cB a]⟩ = V.str ⟨#[cB b]⟩)) = (a != b) := by
  cases a <;> cases b <;> rfl
theorem sign_is (a : Bool) : decide (V.str ⟨#[cB a]⟩ = V.str "1") = a := by
  cases a <;> rfl
theorem str_bool (b : Bool) : Str.ofString (toString (if b = true then (1 : Int) else 0)) = sb [b] := by
  cases b <;> decide +kernel
theorem zip_take (f : Bool → Bool → Bool) : ∀ (l m : List Bool) (i : Nat) (h : i < l.length) (h' : i < m.length), (List.zipWith f l m).take (i + 1) = (List.zipWith f l m).take i ++ [f l[i] m[i]]
  | a :: l, b :: m, 0, _, _ => rfl
  | a :: l, b :: m, i + 1, h, h' => by
    have h1 : i < l.length := Nat.lt_of_succ_lt_succ h
    have h2 : i < m.length := Nat.lt_of_succ_lt_succ h'
    show f a b :: (List.zipWith f l m).take (i + 1) = f a b :: ((List.zipWith f l m).take i ++ [f l[i] m[i]])
    rw [zip_take f l m i h1 h2]
theorem zip_comm (f : Bool → Bool → Bool) (hf : ∀ a b, f a b = f b a) : ∀ l m : List Bool, List.zipWith f l m = List.zipWith f m l
  | [], [] => rfl
  | [], _ :: _ => rfl
  | _ :: _, [] => rfl
  | a :: l, b :: m => by
    show f a b :: _ = f b a :: _
    rw [hf, zip_comm f hf l m]

theorem sum_count (z : List Bool) : (z.map fun b => if b = true then (1 : Int) else 0).sum = ((z.count true : Nat) : Int) := by
  induction z with
  | nil => rfl
  | cons b z ih =>
    rw [List.map_cons, List.sum_cons, ih, List.count_cons]
    cases b
    · show (0 : Int) + _ = ((_ + 0 : Nat) : Int)
      omega
    · show (1 : Int) + _ = ((_ + 1 : Nat) : Int)
      omega
theorem sign_one (b : Bool) : decide (V.str ⟨#[cB b]⟩ = V.str "1") = b := by
  cases b <;> decide +kernel

def alt (k : Nat) : List Bool := (List.replicate k [false, true]).flatten
theorem alt_sb (k : Nat) : SX.S (List.replicate k [48, 49]).flatten = sb (alt k) := by
  unfold sb alt
  rw [List.map_flatten, List.map_replicate]
  rfl
theorem alt_len (k : Nat) : (alt k).length = 2 * k := by
  unfold alt
  induction k with
  | zero => rfl
  | succ k ih =>
    rw [List.replicate_succ, List.flatten_cons, List.length_append, ih]
    show 2 + 2 * k = _
    omega
theorem wf_rep {n m : Nat} {bs : List Bool} (n1 : 1 ≤ n) (n2 : n ≤ 10) (m1 : 1 ≤ m) (m2 : m ≤ 40) (h : bs.length = m) : Wf n m (List.replicate (2 ^ n) bs) :=
  ⟨n1, n2, m1, m2, List.length_replicate, fun r hr => by rw [(List.mem_replicate.mp hr).2]; exact h⟩
theorem rowV_rep (k : Nat) (bs : List Bool) : rowV (List.replicate k bs) = List.replicate k (.str (sb bs)) := List.map_replicate ..
theorem dp_rep {K : PySem.W.Frag} {H : Hp} {v : V} {d : PyData} (h : Dp K H v d) : ∀ k : Nat, DpAll K H (List.replicate k v) (List.replicate k d)
  | 0 => .nil
  | k + 1 => by
    rw [List.replicate_succ, List.replicate_succ]
    exact .cons h (dp_rep h k)
theorem wff_rep {n l m : Nat} {bs : List Bool} (hn : 1 ≤ n ∧ n ≤ 8) (hl : 1 ≤ l ∧ l ≤ 8) (nl : n + l ≤ 12) (hm : 1 ≤ m ∧ m ≤ 40) (h : bs.length = m) : Wff n l m (List.replicate (2 ^ n) (List.replicate (2 ^ l) bs)) :=
  ⟨hn.1, hn.2, hl.1, hl.2, nl, hm.1, hm.2, List.length_replicate, fun rows hr => by
    rw [(List.mem_replicate.mp hr).2]
    exact ⟨List.length_replicate, fun r hr => by rw [(List.mem_replicate.mp hr).2]; exact h⟩⟩

theorem go_len {n : Nat} {rows : List (List Bool)} (h : Wf n (2 * n) rows) : ∀ (p lab : List Bool), lab.length = n → (goDown rows n lab p).length = n
  | [], lab, hl => hl
  | b :: p, lab, hl => by
    obtain ⟨hv, hr⟩ := h.at hl
    refine go_len h p _ ?_
    cases b
    · show (List.take n (rows.getD (val lab) [])).length = n
      rw [List.length_take, hr]
      omega
    · show (List.drop n (rows.getD (val lab) [])).length = n
      rw [List.length_drop, hr]
      omega
theorem wff_tree {n j : Nat} {rows : List (List Bool)} (h : Wf n (2 * n) rows) (n8 : n ≤ 8) (j1 : 1 ≤ j) (j2 : j ≤ 8) (nj : n + j ≤ 12) : Wff n j n (treeT n j rows) where
  n1 := h.n1
  n2 := n8
  l1 := j1
  l2 := j2
  nl := nj
  m1 := h.n1
  m2 := by omega
  len := by
    unfold treeT
    rw [List.length_map, List.length_range]
  row := fun r hr => by
    unfold treeT at hr
    obtain ⟨i, _, rfl⟩ := List.mem_map.mp hr
    refine ⟨by rw [List.length_map, List.length_range], fun x hx => ?_⟩
    obtain ⟨k, _, rfl⟩ := List.mem_map.mp hx
    exact go_len h _ _ (toB_len _ _)
theorem pl_hard {n m : Nat} {rows : List (List Bool)} (h : Wf n m rows) (n5 : n ≤ 5) : Pl 2 (tabD (2 * n) (m + n + 1) (hardR n rows)) := by
  have hp := two_pow_le (b := 5) n5
  have e : hardR n rows = hardMade n rows (2 ^ n) := rfl
  refine pl_tab ?_ fun r hr => ?_
  · rw [e, hardMade_len]
    have a1 : 2 ^ n * 2 ^ n ≤ 32 * 32 := Nat.mul_le_mul hp hp
    omega
  · unfold hardR at hr
    obtain ⟨l, hl, hr⟩ := List.mem_flatten.mp hr
    obtain ⟨i, hi, rfl⟩ := List.mem_map.mp hl
    obtain ⟨j, _, rfl⟩ := List.mem_map.mp hr
    have hil : i < rows.length := by
      rw [h.len]
      exact List.mem_range.mp hi
    unfold hardRow
    rw [List.length_append, List.length_append, toB_len, List.getD_eq_getElem?_getD, List.getElem?_eq_getElem hil]
    have h1 : ((some rows[i]).getD []).length = m := h.row _ (List.getElem_mem hil)
    rw [h1]
    have h2 := h.m2
    show m + n + 1 ≤ 5000
    omega
theorem pl_cnt {n l m c : Nat} {tabs : List (List (List Bool))} (h : Wff n l m tabs) (hc : c * m ≤ 40) : Pl 2 (tabD n (c * m) (cntR c tabs)) := by
  have hp := two_pow_le (b := 8) h.n2
  have hl := h.len
  refine pl_tab ?_ fun r hr => ?_
  · unfold cntR
    rw [List.length_map]
    omega
  · unfold cntR at hr
    obtain ⟨t, ht, rfl⟩ := List.mem_map.mp hr
    have key : ∀ q : List (List Bool), (∀ x ∈ q, x.length = m) → q.flatten.length = q.length * m := by
      intro q
      induction q with
      | nil => exact fun _ => (Nat.zero_mul m).symm
      | cons x q ih =>
        intro hq
        rw [List.flatten_cons, List.length_append, ih fun y hy => hq y (List.mem_cons_of_mem _ hy), hq x List.mem_cons_self, List.length_cons, Nat.succ_mul, Nat.add_comm]
    rw [key _ fun x hx => (h.row t ht).2 x (List.mem_of_mem_take hx), List.length_take]
    have a1 : min c t.length * m ≤ c * m := Nat.mul_le_mul (Nat.min_le_left _ _) (Nat.le_refl _)
    omega
theorem dp_off1 {K : PySem.W.Frag} {a d : Addr} {H : Hp} (hh : Hnd H a d) {n : Nat} {D : PyData} {v : V} (h : Pl n D) (hd : Dp K H v D) : Dp K (off a H) v D := dp_offs hh h hd
theorem pl_up : ∀ {n : Nat} {d : PyData}, Pl n d → Pl (n + 1) d
  | 0, .int _, h => trivial
  | 0, .str _, h => h
  | n + 1, .int _, h => trivial
  | n + 1, .str _, h => h
  | n + 1, .tuple xs, h => ⟨h.1, fun x hx => pl_up (h.2 x hx)⟩

def top_level : Nat := 8
section
variable {P : Program} {w : World} {K : PySem.W.Frag} {mg : Str → Option Value} {base : Heap} {cs : Cs}
theorem dig_len {n k : Nat} (h : k < 2 ^ (n + 1)) : (dig k).length ≤ n + 1 := by
  obtain ⟨p, e⟩ := dig_toB n k h
  have := congrArg List.length e
  rw [List.length_map, toB_len, List.length_append, List.length_replicate] at this
  omega
theorem ok_bits {f : Addr} {fd : FuncData} (D : Df K mg "bits" s_bits ["length", "number"] f fd) (T : Txt K mg cs) : FnOk P w K mg base CX0 1 f fd ["length", "number"] spBits := by
  refine D.fn.ok sc_bits (fun vs H Q E h => ?_) (fun cdv A outer s H vs Q E hr h => ?_)
  · obtain ⟨n, k, rfl, _⟩ := h
    rfl
  · obtain ⟨n, k, rfl, hn, hk, q⟩ := h
    refine ⟨_, (pss_cons (ps_if (pt_cmpR op_eq (pv 0) pe_int (nomark _)) (pss_one (ps_ret pe_str)) pss_nil) (pss_one (ps_ret (pe_m1 PySem.F.slot_str_zfill PySem.F.type_str_zfill mt_zfill (pe_fmtB (pv 1)) (pv 0))))), ?_⟩
    refine ⟨_, rfl, rfl, _, rfl, ite2 (fun c => ?_) (fun c => ?_)⟩
    · have e : (n : Int) = 0 := V.int.inj (of_decide_eq_true c)
      have e : n = 0 := by omega
      subst e
      exact q
    · obtain ⟨m, rfl⟩ : ∃ m, n = m + 1 := by
        cases n with
        | zero => exact absurd (decide_eq_true rfl) c
        | succ m => exact ⟨m, rfl⟩
      refine ⟨_, rfl, k, rfl, ?_, ⟨_, rfl⟩, _, rfl, _, _, rfl, rfl, padOk_of (by omega) (by omega), ?_⟩
      · have := dig_len hk
        omega
      · rw [zfill_dig m k hk]
        exact q

theorem num_val (bs : List Bool) : Two.num (bs.map cB) = val bs := by
  unfold Two.num val
  rw [List.foldl_map]
  congr 1
  funext a b
  cases b
  · show a * 2 + 0 = 2 * a + 0
    omega
  · show a * 2 + 1 = 2 * a + 1
    omega
theorem ok_number {f : Addr} {fd : FuncData} (D : Df K mg "number_of" s_number_of ["string"] f fd) (T : Txt K mg cs) : FnOk P w K mg base CX0 1 f fd ["string"] spNumber := by
  refine D.fn.ok sc_number_of (fun vs H Q E h => ?_) (fun cdv A outer s H vs Q E hr h => ?_)
  · obtain ⟨bs, rfl, _⟩ := h
    rfl
  · obtain ⟨bs, rfl, hl, q⟩ := h
    refine ⟨_, (pss_cons (ps_if (pt_cmpR op_eq (pv 0) pe_str (nomark _)) (pss_one (ps_ret pe_int)) pss_nil) (pss_one (ps_ret (pe_callTy call_int_bin (by rfl) T.n_int (by decide +kernel) (pa_cons (pv 0) (pa_cons pe_int pa_nil)))))), ?_⟩
    refine ⟨_, rfl, rfl, _, rfl, ite2 (fun c => ?_) (fun c => ?_)⟩
    · have e : sb bs = sb [] := V.str.inj (of_decide_eq_true c)
      have e := sb_inj e
      subst e
      exact q
    · refine ⟨_, rfl, bs.map cB, rfl, ⟨?_, ?_, ?_⟩, ?_⟩
      · intro z
        have e : bs = [] := List.map_eq_nil_iff.mp z
        subst e
        exact c (decide_eq_true rfl)
      · rw [List.length_map]
        exact hl
      · intro x hx
        obtain ⟨b, _, rfl⟩ := List.mem_map.mp hx
        cases b
        · exact .inl rfl
        · exact .inr rfl
      · rw [num_val]
        exact q

theorem chain_count (x : Str) (c : Nat) : ∀ (cuts : List Nat) (a f : Nat), PySem.StrLaws.ChainG x ⟨#[c]⟩ x.length a cuts f → (∀ k, f ≤ k → ¬ PySem.StrLaws.At x ⟨#[c]⟩ x.length k) → (x.cps.toList.drop a).count c = cuts.length
  | [], a, f, h, hn => by
    have e : f = a := h
    subst e
    refine List.count_eq_zero.mpr fun hm => ?_
    obtain ⟨j, hj⟩ := List.getElem?_of_mem hm
    rw [List.getElem?_drop] at hj
    exact hn (f + j) (by omega) ((PySem.StrLaws.subAt_one x c (f + j)).mpr hj)
  | i :: r, a, f, h, hn => by
    obtain ⟨h1, h2, h3, h4⟩ := h
    have ih := chain_count x c r (i + 1) f h4 hn
    have hi : x.cps.toList[i]? = some c := (PySem.StrLaws.subAt_one x c i).mp h2
    have e1 : x.cps.toList.drop a = (x.cps.toList.drop a).take (i - a) ++ c :: x.cps.toList.drop (i + 1) := by
      have hlt : i < x.cps.toList.length := (List.getElem?_eq_some_iff.mp hi).1
      have hc : x.cps.toList[i] = c := (List.getElem?_eq_some_iff.mp hi).2
      have e2 : x.cps.toList.drop i = c :: x.cps.toList.drop (i + 1) := by
        rw [List.drop_eq_getElem_cons hlt, hc]
      rw [← e2]
      have e3 : x.cps.toList.drop i = (x.cps.toList.drop a).drop (i - a) := by
        rw [List.drop_drop]
        congr 1
        omega
      rw [e3, List.take_append_drop]
    have e4 : ((x.cps.toList.drop a).take (i - a)).count c = 0 := List.count_eq_zero.mpr fun hm => by
      obtain ⟨j, hj⟩ := List.getElem?_of_mem hm
      have hjl : j < i - a := by
        have := (List.getElem?_eq_some_iff.mp hj).1
        rw [List.length_take] at this
        omega
      rw [List.getElem?_take_of_lt hjl, List.getElem?_drop] at hj
      exact h3 (a + j) (by omega) (by omega) ((PySem.StrLaws.subAt_one x c (a + j)).mpr hj)
    rw [e1, List.count_append, e4, List.count_cons_self, ih, Nat.zero_add]
    rfl
theorem count_sign (x : Str) (c : Nat) : Txt.count x ⟨#[c]⟩ = ((x.cps.toList.count c : Nat) : Int) := by
  obtain ⟨f, hG, hn⟩ := PySem.StrLaws.occ_tight x ⟨#[c]⟩ (Nat.le_refl 1)
  have h := chain_count x c _ 0 f hG hn
  rw [List.drop_zero] at h
  unfold Txt.count
  rw [h]
theorem count_bits (bs : List Bool) : Txt.count (sb bs) "1" = ((bs.count true : Nat) : Int) := by
  refine (count_sign (sb bs) 49).trans ?_
  congr 1
  show (bs.map cB).count 49 = _
  induction bs with
  | nil => rfl
  | cons b bs ih =>
    rw [List.map_cons, List.count_cons, List.count_cons, ih]
    cases b <;> rfl
theorem ok_parity {f : Addr} {fd : FuncData} (D : Df K mg "parity" s_parity ["first", "second"] f fd) (T : Txt K mg cs) (c_bits : Cl P w K mg base CX0 1 "bits" spBits) (c_number_of : Cl P w K mg base CX0 1 "number_of" spNumber) : FnOk P w K mg base CX0 2 f fd ["first", "second"] spParity := by
  refine D.fn.ok sc_parity (fun vs H Q E h => ?_) (fun cdv A outer s H vs Q E hr h => ?_)
  · obtain ⟨l, m, rfl, _⟩ := h
    rfl
  · obtain ⟨l, m, rfl, he, hl, q⟩ := h
    refine ⟨_, (pss_cons (ps_set (i := 2) sc_parity.nd rfl (.inl rfl) (pe_cl c_bits hr (by first | decide | omega) (by rfl) (pa_cons (pe_callB call_len_str (by rfl) T.n_len (by decide +kernel) (pa_cons (pv 0) pa_nil)) (pa_cons (pe_op op_and (pe_cl c_number_of hr (by first | decide | omega) (by rfl) (pa_cons (pv 0) pa_nil)) (pe_cl c_number_of hr (by first | decide | omega) (by rfl) (pa_cons (pv 1) pa_nil))) pa_nil)))) (pss_one (ps_ret (pe_op op_mod (pe_m1 PySem.F.slot_str_count PySem.F.type_str_count mt_count (pv 2) pe_str) pe_int)))), ?_⟩
    refine ⟨_, rfl, _, rfl, sb_size (by omega), _, rfl, l, rfl, hl, _, rfl, m, rfl, by omega, _, _, rfl, rfl, l.length, val l &&& val m, ?_, by omega, Nat.lt_of_le_of_lt Nat.and_le_left (val_lt l), ?_⟩
    · rw [sb_len]
      rfl
    · refine ⟨_, rfl, ⟨_, rfl⟩, _, _, rfl, rfl, _, _, rfl, rfl, (by show (0 : Int) < 2; decide), ?_⟩
      rw [toB_and, toB_val l, he, toB_val m, count_bits]
      exact q

theorem ok_whole {f : Addr} {fd : FuncData} (D : Df K mg "is_whole" s_is_whole ["value", "low", "high"] f fd) (T : Txt K mg cs) : FnOk P w K mg base CX0 1 f fd ["value", "low", "high"] (spWhole K) := by
  refine D.fn.ok sc_is_whole (fun vs H Q E h => ?_) (fun cdv A outer s H vs Q E hr h => ?_)
  · obtain ⟨v, d, lo, hi, rfl, _⟩ := h
    rfl
  · obtain ⟨v, d, lo, hi, rfl, hd, q⟩ := h
    refine ⟨_, (pss_one (ps_ret (pe_and (pe_callB (isiK K) (by rfl) T.n_isinstance (by decide +kernel) (pa_cons (pv 0) (pa_cons (pe_ty "int" (by rfl) T.n_int (by decide +kernel)) pa_nil))) (pe_and (pe_not (pe_callB (isiK K) (by rfl) T.n_isinstance (by decide +kernel) (pa_cons (pv 0) (pa_cons (pe_ty "bool" (by rfl) T.n_bool (by decide +kernel)) pa_nil)))) (pe_one (pe_chain op_le op_le (pv 1) (pv 0) (pv 2))))))), ?_⟩
    refine ⟨_, rfl, _, _, _, _, _, rfl, .ty "int", dp_ty hd, kit_int d, _, rfl, ?_⟩
    cases d with
    | int i =>
      cases hd
      refine ⟨_, rfl, _, _, _, _, false, rfl, .ty "bool", .base (.int i), kit_ty (by decide +kernel), _, rfl, _, rfl, ?_⟩
      refine ⟨_, rfl, _, rfl, _, _, rfl, rfl, _, rfl, ?_⟩
      by_cases c : lo ≤ i
      · rw [decide_eq_true c]
        refine ⟨_, rfl, _, _, rfl, rfl, ?_⟩
        have e : whole (.int i) lo hi = decide (i ≤ hi) := by
          show (decide (lo ≤ i) && decide (i ≤ hi)) = _
          rw [decide_eq_true c, Bool.true_and]
        rw [e] at q
        exact q
      · rw [decide_eq_false c]
        have e : whole (.int i) lo hi = false := by
          show (decide (lo ≤ i) && decide (i ≤ hi)) = _
          rw [decide_eq_false c, Bool.false_and]
        rw [e] at q
        exact q
    | bool b =>
      cases hd
      exact ⟨_, rfl, _, _, _, _, true, rfl, .ty "bool", .base (.bl b), kit_ty (by decide +kernel), _, rfl, _, rfl, q⟩
    | none => exact q
    | str x => exact q
    | list xs => exact q
    | tuple xs => exact q
    | dict xs => exact q
theorem all_rows {m : Int} {xs : List PyData} (h : xs.all (strLen m) = true) : ∃ ys : List Str, xs = ys.map PyData.str ∧ ∀ y ∈ ys, (y.length : Int) = m := by
  induction xs with
  | nil => exact ⟨[], rfl, fun y hy => (nomatch hy)⟩
  | cons x xs ih =>
    rw [List.all_cons, Bool.and_eq_true] at h
    obtain ⟨ys, e, hy⟩ := ih h.2
    cases x with
    | str z =>
      refine ⟨z :: ys, by rw [e]; rfl, fun y hy' => ?_⟩
      rcases List.mem_cons.mp hy' with r | r
      · subst r
        exact of_decide_eq_true h.1
      · exact hy y r
    | _ => cases h.1
theorem dp_strs {K : PySem.W.Frag} {H : Hp} : ∀ {vs : List V} {ys : List Str}, DpAll K H vs (ys.map PyData.str) → vs = ys.map V.str
  | _, [], .nil => rfl
  | _, y :: ys, .cons (.str _) t => by rw [List.map_cons, dp_strs t]
theorem sum_len {m : Nat} : ∀ {ys : List Str}, (∀ y ∈ ys, (y.length : Int) = (m : Int)) → (ys.map (·.length)).sum = ys.length * m
  | [], _ => by simp
  | y :: ys, h => by
    have h1 := h y List.mem_cons_self
    rw [List.map_cons, List.sum_cons, sum_len fun z hz => h z (List.mem_cons_of_mem _ hz), List.length_cons, Nat.succ_mul]
    omega
theorem all_bits {m : Int} {ys : List Str} (h : ∀ y ∈ ys, (y.length : Int) = m) : (ys.map PyData.str).all (bitRow m) = (Txt.join "" ys).cps.toList.all (fun c => c == 48 || c == 49) := by
  rw [join_all]
  induction ys with
  | nil => rfl
  | cons y ys ih =>
    rw [List.map_cons, List.all_cons, ih fun z hz => h z (List.mem_cons_of_mem _ hz), List.map_cons, List.flatten_cons, List.all_append]
    congr 1
    show (decide ((y.length : Int) = m) && _) = _
    rw [decide_eq_true (h y List.mem_cons_self), Bool.true_and]
theorem not_all {m : Int} {xs : List PyData} (h : xs.all (strLen m) = false) : xs.all (bitRow m) = false := by
  rw [Bool.eq_false_iff] at h ⊢
  intro z
  refine h ?_
  rw [List.all_eq_true] at z ⊢
  intro x hx
  have := z x hx
  cases x with
  | str y =>
    have h2 : (decide ((y.length : Int) = m) && y.cps.toList.all (fun c => c == 48 || c == 49)) = true := this
    exact (Bool.and_eq_true_iff.mp h2).1
  | _ => cases this
theorem ok_rows {f : Addr} {fd : FuncData} (D : Df K mg "are_rows" s_are_rows ["value", "many", "m"] f fd) (T : Txt K mg cs) : FnOk P w K mg base CX0 1 f fd ["value", "many", "m"] (spRows K) := by
  refine D.fn.ok sc_are_rows (fun vs H Q E h => ?_) (fun cdv A outer s H vs Q E hr h => ?_)
  · obtain ⟨v, d, n, many, m, rfl, _⟩ := h
    rfl
  · obtain ⟨v, d, n, many, m, rfl, hd, hg, hmany, hm, q⟩ := h
    refine ⟨_, (pss_cons (ps_if (PW.pt (pw_or (pt_not (pt_val (pe_callB (isiK K) (by rfl) T.n_isinstance (by decide +kernel) (pa_cons (pv 0) (pa_cons (pe_ty "tuple" (by rfl) T.n_tuple (by decide +kernel)) pa_nil))))) (pw_or1 (pt_cmpR op_ne (pe_callB (lenS K) (by rfl) T.n_len (by decide +kernel) (pa_cons (pv 0) pa_nil)) (pv 1) (nomark _))))) (pss_one (ps_ret pe_bl)) pss_nil) (pss_cons (ps_if (pt_not (pt_val (pe_callB (crAll K rfl) (by rfl) T.n_all (by decide +kernel) (pa_cons (pe_lc (own := [("row", 3)]) (g := gName 3) (tt := tYes) rfl sc_are_rows.nd (pi_tup (pv 0)) (blkOk_by (own := [("row", 3)]) (N := ["value", "many", "m", "row"]) (sc := defScope s_are_rows) (by decide +kernel)) (fun _ _ _ _ _ => (pg_name (i := 3) sc_are_rows.nd rfl (.inl rfl))) (fun _ _ _ _ _ => pts_nil) (fun _ _ _ _ _ => (pe_and (pe_callB (isiK K) (by rfl) T.n_isinstance (by decide +kernel) (pa_cons (pv 3) (pa_cons (pe_ty "str" (by rfl) T.n_str (by decide +kernel)) pa_nil))) (pe_one (pe_cmpR op_eq (pe_callB call_len_str (by rfl) T.n_len (by decide +kernel) (pa_cons (pv 3) pa_nil)) (pv 2) (nomark _)))))) pa_nil)))) (pss_one (ps_ret pe_bl)) pss_nil) (pss_one (ps_ret (pe_cmpR op_eq (pe_m1 PySem.F.slot_str_strip PySem.F.type_str_strip mt_stripChars (pe_m1 PySem.F.slot_str_join PySem.F.type_str_join (mtJoin K) pe_str (pv 0)) pe_str) pe_str (nomark _)))))), ?_⟩
    refine ⟨_, rfl, _, _, _, _, _, rfl, .ty "tuple", dp_ty hd, kit_tup d, _, rfl, ?_⟩
    cases d with
    | tuple xs =>
      cases hd with
      | @tup a ws _ hT hA =>
        obtain ⟨hl, n', rfl, hx⟩ := gd_tup hg
        have hwl := dp_all_len hA
        refine ⟨_, rfl, a, ws, rfl, .inr hT, _, rfl, rfl, _, rfl, ?_⟩
        by_cases c : (ws.length : Int) = many
        · rw [decide_eq_true (show V.int (ws.length : Int) = V.int many by rw [c])]
          -- all([isinstance(row, str) and len(row) == m for row in value])
          refine ⟨_, rfl, a, rfl, ⟨_, hT⟩, fun Dl hD => ?_⟩
          refine lc_tup (xs := ws) (fun i H' => Same H H' ∧ H' Dl = some (.lst ((xs.take i).map fun x => V.bl (strLen m x)))) ?_ ?_ ?_ ?_
          · exact ⟨same_new hD, upd_same⟩
          · rintro i H' _ ⟨s1, _⟩
            exact same_sqt s1 hT
          · rintro i x H' hxi ⟨s1, e1⟩
            obtain ⟨d, hdi, hdx⟩ := dp_all_get hA hxi
            have hdx' := dp_same s1 d hdx
            have hgd := hx d (List.mem_of_getElem? hdi)
            have hi : i < xs.length := (List.getElem?_eq_some_iff.mp hdi).1
            have fin : ∀ b : Bool, strLen m d = b → ∃ acc, H' Dl = some (.lst acc) ∧ acc.length < sizeLine ∧ (Same H (upd H' Dl (.lst (acc ++ [.bl b]))) ∧ upd H' Dl (.lst (acc ++ [.bl b])) Dl = some (.lst ((xs.take (i + 1)).map fun x => V.bl (strLen m x)))) := by
              intro b hb
              refine ⟨_, e1, ?_, fun p o e => ?_, ?_⟩
              · rw [List.length_map, List.length_take]
                exact Nat.lt_of_lt_of_le (show min i xs.length < 10000 by omega) (by decide)
              · rw [upd_ne (ne_of_none e hD)]
                exact s1 p o e
              · rw [upd_same, List.take_add_one, hdi, List.map_append]
                show _ = some (HO.lst (_ ++ [V.bl (strLen m d)]))
                rw [hb]
            refine ⟨rfl, ?_⟩
            refine ⟨_, rfl, _, _, _, _, _, rfl, .ty "str", dp_ty hdx', kit_str d, _, rfl, ?_⟩
            cases d with
            | str z =>
              cases hdx'
              have hz := (gd_str hgd).2
              refine ⟨_, rfl, z, rfl, ?_, _, rfl, rfl, ?_⟩
              · rw [sizeLine_eq]
                omega
              · refine fin _ ?_
                show decide ((z.length : Int) = m) = decide (V.int (z.length : Int) = V.int m)
                by_cases c : (z.length : Int) = m
                · rw [decide_eq_true c, decide_eq_true (congrArg V.int c)]
                · rw [decide_eq_false c, decide_eq_false fun z => c (V.int.inj z)]
            | none => exact fin false rfl
            | bool b => exact fin false rfl
            | int b => exact fin false rfl
            | list b => exact fin false rfl
            | tuple b => exact fin false rfl
            | dict b => exact fin false rfl
          · rintro H' ⟨s1, e1⟩
            have et : (xs.take ws.length).map (fun x => V.bl (strLen m x)) = ((xs.map (strLen m)).map V.bl) := by
              rw [List.take_of_length_le (by omega), List.map_map]
              rfl
            rw [et] at e1
            refine ⟨Dl, _, rfl, .inl (.inl e1), _, rfl, ?_⟩
            have ea : (xs.map (strLen m)).all id = xs.all (strLen m) := by
              rw [List.all_map]
              rfl
            rw [ea]
            cases hc : xs.all (strLen m) with
            | false =>
              have e : rowsOk (.tuple xs) many m = false := by
                show (decide _ && xs.all (bitRow m)) = false
                rw [not_all hc, Bool.and_false]
              have q' := q H' s1
              rw [e] at q'
              exact q'
            | true =>
              obtain ⟨ys, rfl, hy⟩ := all_rows hc
              have ew := dp_strs hA
              subst ew
              have hm0 : ∃ k : Nat, ys = [] ∨ m = (k : Int) := by
                cases ys with
                | nil => exact ⟨0, .inl rfl⟩
                | cons y ys => exact ⟨y.length, .inr (hy y List.mem_cons_self).symm⟩
              have hsum : (ys.map (·.length)).sum ≤ 4096 * 40 := by
                obtain ⟨k, rfl | rfl⟩ := hm0
                · simp
                · rw [sum_len hy]
                  have h1 : ys.length ≤ 4096 := by
                    rw [List.length_map] at c
                    omega
                  have h2 : k ≤ 40 := by omega
                  exact Nat.mul_le_mul h1 h2
              refine ⟨⟨_, rfl⟩, _, rfl, "", a, ys, rfl, rfl, .inr (same_sqt s1 hT), ?_, ⟨_, rfl⟩, _, _, rfl, rfl, ?_, rfl, ?_⟩
              · show _ + _ * 0 ≤ _
                omega
              · have hj : (Txt.join "" ys).length = (ys.map (·.length)).sum := by
                  show (Txt.join "" ys).cps.size = _
                  rw [← Array.length_toList, join_all, List.length_flatten, List.map_map]
                  congr 1
                rw [hj, sizeLine_eq]
                omega
              · rw [strip_all, ← all_bits hy]
                have e : rowsOk (.tuple (ys.map PyData.str)) many m = (ys.map PyData.str).all (bitRow m) := by
                  show (decide (((ys.map PyData.str).length : Int) = many) && _) = _
                  rw [decide_eq_true (by rw [List.length_map] at c ⊢; exact c), Bool.true_and]
                have q' := q H' s1
                rw [e] at q'
                exact q'
        · rw [decide_eq_false (show ¬ V.int (ws.length : Int) = V.int many from fun z => c (V.int.inj z))]
          have e : rowsOk (.tuple xs) many m = false := by
            show (decide ((xs.length : Int) = many) && _) = false
            rw [decide_eq_false (by rw [← hwl]; exact c), Bool.false_and]
          have q' := q H (Same.refl H)
          rw [e] at q'
          exact q'
    | bool b => exact q H (Same.refl H)
    | none => exact q H (Same.refl H)
    | int x => exact q H (Same.refl H)
    | str x => exact q H (Same.refl H)
    | list xs => exact q H (Same.refl H)
    | dict xs => exact q H (Same.refl H)

theorem ok_gen {f : Addr} {fd : FuncData} (D : Df K mg "is_generator" s_is_generator ["value"] f fd) (T : Txt K mg cs) (c_is_whole : Cl P w K mg base CX0 1 "is_whole" (spWhole K)) (c_are_rows : Cl P w K mg base CX0 1 "are_rows" (spRows K)) : FnOk P w K mg base CX0 2 f fd ["value"] (spGen K) := by
  refine D.fn.ok sc_is_generator (fun vs H Q E h => ?_) (fun cdv A outer s H vs Q E hr h => ?_)
  · obtain ⟨v, d, n, rfl, _⟩ := h
    rfl
  · obtain ⟨v, d, n, rfl, hd, hg, hn64, q⟩ := h
    refine ⟨_, (pss_cons (ps_if (PW.pt (pw_or (pt_not (pt_val (pe_callB (isiK K) (by rfl) T.n_isinstance (by decide +kernel) (pa_cons (pv 0) (pa_cons (pe_ty "tuple" (by rfl) T.n_tuple (by decide +kernel)) pa_nil))))) (pw_or1 (pt_cmpR op_ne (pe_callB (lenS K) (by rfl) T.n_len (by decide +kernel) (pa_cons (pv 0) pa_nil)) pe_int (nomark _))))) (pss_one (ps_ret pe_bl)) pss_nil) (pss_cons (ps_asg (pv 0) (pg_tup (by rfl) (pgs_cons (pg_name (i := 1) sc_is_generator.nd rfl (.inl rfl)) (pgs_cons (pg_name (i := 2) sc_is_generator.nd rfl (.inl rfl)) (pgs_cons (pg_name (i := 3) sc_is_generator.nd rfl (.inl rfl)) (pgs_cons (pg_name (i := 4) sc_is_generator.nd rfl (.inl rfl)) pgs_nil)))))) (pss_cons (ps_if (PW.pt (pw_or (pt_cmpR (op_neD hr.units) (pv 1) pe_str (nomark _)) (pw_or (pt_not (pt_val (pe_cl c_is_whole hr (by first | decide | omega) (by rfl) (pa_cons (pv 2) (pa_cons pe_int (pa_cons pe_int pa_nil)))))) (pw_or1 (pt_not (pt_val (pe_cl c_is_whole hr (by first | decide | omega) (by rfl) (pa_cons (pv 3) (pa_cons pe_int (pa_cons (C8.pe_gc (by rfl) T.g_MOST_BITS) pa_nil)))))))))) (pss_one (ps_ret pe_bl)) pss_nil) (pss_one (ps_ret (pe_cl c_are_rows hr (by first | decide | omega) (by rfl) (pa_cons (pv 4) (pa_cons (pe_op op_shl pe_int (pv 2)) (pa_cons (pv 3) pa_nil))))))))), ?_⟩
    refine ⟨_, rfl, _, _, _, _, _, rfl, .ty "tuple", dp_ty hd, kit_tup d, _, rfl, ?_⟩
    cases d with
    | tuple xs =>
      cases hd with
      | @tup a ws _ hT hA =>
        obtain ⟨hl, n', rfl, hx⟩ := gd_tup hg
        have hwl := dp_all_len hA
        refine ⟨_, rfl, a, ws, rfl, .inr hT, rfl, _, rfl, ?_⟩
        by_cases c : ws.length = 4
        · obtain ⟨v0, v1, v2, v3, k, n, m, r, rfl, rfl, h0, h1, h2, h3⟩ := dp4 hA c
          rw [decide_eq_true (show V.int (([v0, v1, v2, v3].length : Nat) : Int) = V.int 4 from rfl)]
          refine ⟨_, rfl, a, _, rfl, hT, rfl, _, _, rfl, _, _, rfl, _, _, rfl, _, _, rfl, rfl, ?_⟩
          have g0 := hx k List.mem_cons_self
          have g3 := hx r (List.mem_cons_of_mem _ (List.mem_cons_of_mem _ (List.mem_cons_of_mem _ List.mem_cons_self)))
          rw [gen_eq] at q
          -- kind != 'generator'
          refine ⟨_, rfl, k, .str "generator", h0, .str _, gd_shaped g0 (by omega), by decide +kernel, _, rfl, ?_⟩
          rw [name_ne]
          cases ck : named "generator" k with
          | false =>
            rw [ck] at q
            exact q H (Same.refl H)
          | true =>
            rw [ck] at q
            refine ⟨_, rfl, v1, n, 1, 10, rfl, h1, _, rfl, ?_⟩
            cases cn : whole n 1 10 with
            | false =>
              rw [cn] at q
              exact q H (Same.refl H)
            | true =>
              rw [cn] at q
              refine ⟨_, rfl, v2, m, 1, 40, rfl, h2, _, rfl, ?_⟩
              cases cm : whole m 1 40 with
              | false =>
                rw [cm] at q
                exact q H (Same.refl H)
              | true =>
                rw [cm] at q
                obtain ⟨n, rfl, n1, n2⟩ := whole_int cn
                obtain ⟨m, rfl, m1, m2⟩ := whole_int cm
                cases h1
                cases h2
                refine ⟨_, rfl, _, rfl, _, _, rfl, rfl, ⟨by omega, by omega, by decide⟩, _, rfl, v3, r, _, _, _, rfl, h3, g3, ?_, m2, fun H' s' => q H' s'⟩
                exact Int.le_trans (pow_le (b := 10) n1 n2) (by decide)
        · have hne : ((ws.length : Nat) : Int) ≠ 4 := by omega
          rw [decide_eq_false (show ¬ V.int (ws.length : Int) = V.int 4 from fun z => hne (V.int.inj z))]
          have e := gen_no (xs := xs) (by omega)
          have q' := q H (Same.refl H)
          rw [e] at q'
          exact q'
    | bool b => exact q H (Same.refl H)
    | none => exact q H (Same.refl H)
    | int x => exact q H (Same.refl H)
    | str x => exact q H (Same.refl H)
    | list xs => exact q H (Same.refl H)
    | dict xs => exact q H (Same.refl H)

theorem ok_fun {f : Addr} {fd : FuncData} (D : Df K mg "is_function" s_is_function ["value"] f fd) (T : Txt K mg cs) (c_is_whole : Cl P w K mg base CX0 1 "is_whole" (spWhole K)) (c_are_rows : Cl P w K mg base CX0 1 "are_rows" (spRows K)) : FnOk P w K mg base CX0 2 f fd ["value"] (spFun K) := by
  refine D.fn.ok sc_is_function (fun vs H Q E h => ?_) (fun cdv A outer s H vs Q E hr h => ?_)
  · obtain ⟨v, d, n, rfl, _⟩ := h
    rfl
  · obtain ⟨v, d, n, rfl, hd, hg, hn64, q⟩ := h
    refine ⟨_, (pss_cons (ps_if (PW.pt (pw_or (pt_not (pt_val (pe_callB (isiK K) (by rfl) T.n_isinstance (by decide +kernel) (pa_cons (pv 0) (pa_cons (pe_ty "tuple" (by rfl) T.n_tuple (by decide +kernel)) pa_nil))))) (pw_or1 (pt_cmpR op_ne (pe_callB (lenS K) (by rfl) T.n_len (by decide +kernel) (pa_cons (pv 0) pa_nil)) pe_int (nomark _))))) (pss_one (ps_ret pe_bl)) pss_nil) (pss_cons (ps_asg (pv 0) (pg_tup (by rfl) (pgs_cons (pg_name (i := 1) sc_is_function.nd rfl (.inl rfl)) (pgs_cons (pg_name (i := 2) sc_is_function.nd rfl (.inl rfl)) (pgs_cons (pg_name (i := 3) sc_is_function.nd rfl (.inr rfl)) (pgs_cons (pg_name (i := 4) sc_is_function.nd rfl (.inr rfl)) (pgs_cons (pg_name (i := 5) sc_is_function.nd rfl (.inl rfl)) pgs_nil))))))) (pss_cons (ps_if (PW.pt (pw_or (pt_cmpR (op_neD hr.units) (pv 1) pe_str (nomark _)) (pw_or (pt_not (pt_val (pe_cl c_is_whole hr (by first | decide | omega) (by rfl) (pa_cons (pv 2) (pa_cons pe_int (pa_cons pe_int pa_nil)))))) (pw_or (pt_not (pt_val (pe_cl c_is_whole hr (by first | decide | omega) (by rfl) (pa_cons (pv 3) (pa_cons pe_int (pa_cons pe_int pa_nil)))))) (pw_or1 (pt_cmpR op_gt (pe_op op_add (pv 2) (pv 3)) pe_int (nomark _))))))) (pss_one (ps_ret pe_bl)) pss_nil) (pss_cons (ps_if (PW.pt (pw_or (pt_not (pt_val (pe_cl c_is_whole hr (by first | decide | omega) (by rfl) (pa_cons (pv 4) (pa_cons pe_int (pa_cons (C8.pe_gc (by rfl) T.g_MOST_BITS) pa_nil)))))) (pw_or (pt_not (pt_val (pe_callB (isiK K) (by rfl) T.n_isinstance (by decide +kernel) (pa_cons (pv 5) (pa_cons (pe_ty "tuple" (by rfl) T.n_tuple (by decide +kernel)) pa_nil))))) (pw_or1 (pt_cmpR op_ne (pe_callB (lenS K) (by rfl) T.n_len (by decide +kernel) (pa_cons (pv 5) pa_nil)) (pe_op op_shl pe_int (pv 2)) (nomark _)))))) (pss_one (ps_ret pe_bl)) pss_nil) (pss_one (ps_ret (pe_callB (crAll K rfl) (by rfl) T.n_all (by decide +kernel) (pa_cons (pe_lc (own := [("rows", 6)]) (g := gName 6) (tt := tYes) rfl sc_is_function.nd (pi_tup (pv 5)) (blkOk_by (own := [("rows", 6)]) (N := ["value", "kind", "n", "l", "m", "tables", "rows"]) (sc := defScope s_is_function) (by decide +kernel)) (fun _ _ _ _ _ => (pg_name (i := 6) sc_is_function.nd rfl (.inl rfl))) (fun _ _ _ _ _ => pts_nil) (fun _ _ _ _ _ => (pe_cl c_are_rows hr (by first | decide | omega) (by rfl) (pa_cons (pv 6) (pa_cons (pe_op op_shl pe_int (pv 3)) (pa_cons (pv 4) pa_nil)))))) pa_nil)))))))), ?_⟩
    refine ⟨_, rfl, _, _, _, _, _, rfl, .ty "tuple", dp_ty hd, kit_tup d, _, rfl, ?_⟩
    cases d with
    | tuple xs =>
      cases hd with
      | @tup a ws _ hT hA =>
        obtain ⟨hl, n', rfl, hx⟩ := gd_tup hg
        have hwl := dp_all_len hA
        refine ⟨_, rfl, a, ws, rfl, .inr hT, rfl, _, rfl, ?_⟩
        by_cases c : ws.length = 5
        · obtain ⟨v0, v1, v2, v3, v4, k, n, l, m, t, rfl, rfl, h0, h1, h2, h3, h4⟩ := dp5 hA c
          rw [decide_eq_true (show V.int (([v0, v1, v2, v3, v4].length : Nat) : Int) = V.int 5 from rfl)]
          refine ⟨_, rfl, a, _, rfl, hT, rfl, _, _, rfl, _, _, rfl, _, _, rfl, _, _, rfl, _, _, rfl, rfl, ?_⟩
          have g0 := hx k List.mem_cons_self
          have g4 := hx t (List.mem_cons_of_mem _ (List.mem_cons_of_mem _ (List.mem_cons_of_mem _ (List.mem_cons_of_mem _ List.mem_cons_self))))
          clear hx hA hT hwl hl c
          rw [fun_eq] at q
          -- kind != 'function'
          refine ⟨_, rfl, k, .str "function", h0, .str _, gd_shaped g0 (by omega), by decide +kernel, _, rfl, ?_⟩
          rw [name_ne]
          cases ck : named "function" k with
          | false =>
            rw [ck] at q
            exact q H (Same.refl H)
          | true =>
            rw [ck] at q
            refine ⟨_, rfl, v1, n, 1, 8, rfl, h1, _, rfl, ?_⟩
            cases cn : whole n 1 8 with
            | false =>
              rw [cn] at q
              exact q H (Same.refl H)
            | true =>
              rw [cn] at q
              refine ⟨_, rfl, v2, l, 1, 8, rfl, h2, _, rfl, ?_⟩
              cases cl : whole l 1 8 with
              | false =>
                rw [cl] at q
                exact q H (Same.refl H)
              | true =>
                rw [cl] at q
                obtain ⟨n, rfl, n1, n2⟩ := whole_int cn
                obtain ⟨l, rfl, l1, l2⟩ := whole_int cl
                cases h1
                cases h2
                refine ⟨_, rfl, _, rfl, _, _, rfl, rfl, _, _, rfl, rfl, _, rfl, ?_⟩
                by_cases cs : n + l ≤ 12
                · rw [decide_eq_false (show ¬ (12 : Int) < n + l by omega)]
                  have e : sumLe (.int n) (.int l) = true := decide_eq_true cs
                  rw [e] at q
                  refine ⟨_, rfl, v3, m, 1, 40, rfl, h3, _, rfl, ?_⟩
                  cases cm : whole m 1 40 with
                  | false =>
                    rw [cm] at q
                    exact q H (Same.refl H)
                  | true =>
                    rw [cm] at q
                    obtain ⟨m, rfl, m1, m2⟩ := whole_int cm
                    cases h3
                    -- isinstance(tables, tuple), len(tables)
                    refine ⟨_, rfl, _, _, _, _, _, rfl, .ty "tuple", dp_ty h4, kit_tup t, _, rfl, ?_⟩
                    cases t with
                    | tuple ts =>
                      cases h4 with
                      | @tup b us _ hT hA =>
                        obtain ⟨hl, n'', rfl, hx⟩ := gd_tup g4
                        have hwl := dp_all_len hA
                        have q2 : ∀ H' : Hp, Same H H' → Q (.bl (decide ((ts.length : Int) = 1 * 2 ^ n.toNat) && ts.all (fun r => rowsOk r (1 * 2 ^ l.toNat) m))) H' := fun H' s' => q H' s'
                        clear q
                        refine ⟨_, rfl, b, us, rfl, .inr hT, _, rfl, _, _, rfl, rfl, ⟨by omega, by omega, by decide⟩, rfl, _, rfl, ?_⟩
                        by_cases c : ((us.length : Nat) : Int) = 1 * 2 ^ n.toNat
                        · rw [decide_eq_true (show V.int ((us.length : Nat) : Int) = V.int (1 * 2 ^ n.toNat) from congrArg V.int c)]
                          refine ⟨_, rfl, b, rfl, ⟨_, hT⟩, fun Dl hD => ?_⟩
                          refine lc_tup (xs := us) (fun i H' => Same H H' ∧ H' Dl = some (.lst ((ts.take i).map fun r => V.bl (rowsOk r (1 * 2 ^ l.toNat) m)))) ?_ ?_ ?_ ?_
                          · exact ⟨same_new hD, upd_same⟩
                          · rintro i H' _ ⟨s1, _⟩
                            exact same_sqt s1 hT
                          · rintro i x H' hxi ⟨s1, e1⟩
                            obtain ⟨d, hdi, hdx⟩ := dp_all_get hA hxi
                            have hi : i < ts.length := (List.getElem?_eq_some_iff.mp hdi).1
                            refine ⟨rfl, ?_⟩
                            refine ⟨_, rfl, _, rfl, _, _, rfl, rfl, ⟨by omega, by omega, by decide⟩, _, rfl, x, d, _, _, _, rfl, dp_same s1 d hdx, hx d (List.mem_of_getElem? hdi), ?_, m2, fun H2 s2 => ?_⟩
                            · exact Int.le_trans (pow_le (b := 8) l1 l2) (by decide)
                            · refine ⟨_, s2 _ _ e1, ?_, fun p o e => ?_, ?_⟩
                              · rw [List.length_map, List.length_take]
                                exact Nat.lt_of_lt_of_le (show min i ts.length < 10000 by omega) (by decide)
                              · rw [upd_ne (ne_of_none e hD)]
                                exact s2 _ _ (s1 p o e)
                              · rw [upd_same, List.take_add_one, hdi, List.map_append]
                                rfl
                          · rintro H' ⟨s1, e1⟩
                            have et : (ts.take us.length).map (fun r => V.bl (rowsOk r (1 * 2 ^ l.toNat) m)) = ((ts.map (fun r => rowsOk r (1 * 2 ^ l.toNat) m)).map V.bl) := by
                              rw [List.take_of_length_le (by omega), List.map_map]
                              rfl
                            rw [et] at e1
                            refine ⟨Dl, _, rfl, .inl (.inl e1), ?_⟩
                            have ea : (ts.map (fun r => rowsOk r (1 * 2 ^ l.toNat) m)).all id = ts.all (fun r => rowsOk r (1 * 2 ^ l.toNat) m) := by
                              rw [List.all_map]
                              rfl
                            rw [ea]
                            have q3 := q2 H' s1
                            rw [decide_eq_true (by rw [← hwl]; exact c), Bool.true_and] at q3
                            exact q3
                        · rw [decide_eq_false (show ¬ V.int ((us.length : Nat) : Int) = V.int (1 * 2 ^ n.toNat) from fun z => c (V.int.inj z))]
                          have q3 := q2 H (Same.refl H)
                          rw [decide_eq_false (by rw [← hwl]; exact c), Bool.false_and] at q3
                          exact q3
                    | bool b => exact q H (Same.refl H)
                    | none => exact q H (Same.refl H)
                    | int x => exact q H (Same.refl H)
                    | str x => exact q H (Same.refl H)
                    | list xs => exact q H (Same.refl H)
                    | dict xs => exact q H (Same.refl H)
                · rw [decide_eq_true (show (12 : Int) < n + l by omega)]
                  have e : sumLe (.int n) (.int l) = false := decide_eq_false cs
                  rw [e] at q
                  exact q H (Same.refl H)
        · have hne : ((ws.length : Nat) : Int) ≠ 5 := by omega
          rw [decide_eq_false (show ¬ V.int (ws.length : Int) = V.int 5 from fun z => hne (V.int.inj z))]
          have e := fun_no (xs := xs) (by omega)
          have q' := q H (Same.refl H)
          rw [e] at q'
          exact q'
    | bool b => exact q H (Same.refl H)
    | none => exact q H (Same.refl H)
    | int x => exact q H (Same.refl H)
    | str x => exact q H (Same.refl H)
    | list xs => exact q H (Same.refl H)
    | dict xs => exact q H (Same.refl H)
theorem ok_check {f : Addr} {fd : FuncData} (D : Df K mg "check_block" s_check_block ["block"] f fd) (T : Txt K mg cs) (c_is_generator : Cl P w K mg base CX0 2 "is_generator" (spGen K)) (c_is_function : Cl P w K mg base CX0 2 "is_function" (spFun K)) : FnOk P w K mg base (L2.CX P w) 3 f fd ["block"] (spCheck K cs.BadBlock) := by
  refine D.fn.okX sc_check_block (fun vs H Q E h => ?_) (fun cdv A outer s H vs Q E hr h => ?_)
  · obtain ⟨v, d, n, rfl, _⟩ := h
    rfl
  · obtain ⟨v, d, n, rfl, hd, hg, hn, q⟩ := h
    have tk := takes_of (X := cxOf (L2.CX P w) P w K mg base ["block"] "check_block" (defScope s_check_block) f cdv A outer s H E) (E := E) rfl rfl rfl rfl
    refine ⟨_, (pss_one (ps_if (PW.pt (pw_and (pt_not (pt_val (pe_cl c_is_generator hr (by first | decide | omega) (by rfl) (pa_cons (pv 0) pa_nil)))) (pw_and1 (pt_not (pt_val (pe_cl c_is_function hr (by first | decide | omega) (by rfl) (pa_cons (pv 0) pa_nil))))))) (pss_one (ps_raiseE T.x_BadBlock rfl tk (by rfl))) pss_nil)), ?_⟩
    refine ⟨_, rfl, v, d, n, rfl, hd, hg, hn, fun H1 s1 => ⟨_, rfl, ?_⟩⟩
    unfold blockOk at q
    cases cg : genOk d with
    | true =>
      rw [cg] at q
      exact (q H1 s1).1 rfl
    | false =>
      rw [cg] at q
      refine ⟨_, rfl, v, d, n, rfl, dp_same s1 d hd, hg, hn, fun H2 s2 => ⟨_, rfl, ?_⟩⟩
      cases cf : funOk d with
      | true =>
        rw [cf] at q
        exact (q H2 (s1.trans s2)).1 rfl
      | false =>
        rw [cf] at q
        exact (q H2 (s1.trans s2)).2 rfl

theorem ok_all {f : Addr} {fd : FuncData} (D : Df K mg "all_bits" s_all_bits ["length"] f fd) (T : Txt K mg cs) (c_bits : Cl P w K mg base CX0 1 "bits" spBits) : FnOk P w K mg base CX0 2 f fd ["length"] (spAll K) := by
  refine D.fn.ok sc_all_bits (fun vs H Q E h => ?_) (fun cdv A outer s H vs Q E hr h => ?_)
  · obtain ⟨n, rfl, _⟩ := h
    rfl
  · obtain ⟨n, rfl, hn, q⟩ := h
    refine ⟨_, (pss_one (ps_ret (pe_lc (own := [("number", 1)]) (g := gName 1) (tt := tYes) rfl sc_all_bits.nd (pi_range1 (by rfl) T.n_range (pa_cons (pe_op op_shl pe_int (pv 0)) pa_nil)) (blkOk_by (own := [("number", 1)]) (N := ["length", "number"]) (sc := defScope s_all_bits) (by decide +kernel)) (fun _ _ _ _ _ => (pg_name (i := 1) sc_all_bits.nd rfl (.inl rfl))) (fun _ _ _ _ _ => pts_nil) (fun _ _ _ _ _ => (pe_cl c_bits hr (by first | decide | omega) (by rfl) (pa_cons (pv 0) (pa_cons (pv 1) pa_nil))))))), ?_⟩
    have hp := two_pow_le (b := 12) hn
    refine ⟨_, rfl, _, _, rfl, rfl, ⟨by omega, by omega, by decide⟩, _, rfl, ?_⟩
    rw [shl_one]
    generalize hN : 2 ^ n = N at hp ⊢
    refine ⟨by omega, by omega, fun Dl hD => ?_⟩
    refine lc_range (lo := 0) (n := _) (fun i H' => Same H H' ∧ H' Dl = some (.lst (rowV ((List.range i).map fun i => toB n i)))) ?_ ?_ ?_
    · exact ⟨same_new hD, upd_same⟩
    · rintro i H' hi ⟨s1, e1⟩
      refine ⟨rfl, ?_⟩
      refine ⟨_, rfl, _, rfl, n, i, ?_, by omega, by rw [hN]; omega, _, e1, ?_, fun b o e => ?_, ?_⟩
      · show [V.int (n : Int), V.int (0 + (i : Int))] = _
        rw [Int.zero_add]
      · unfold rowV
        rw [List.length_map, List.length_map, List.length_range]
        exact Nat.lt_of_lt_of_le (show i < 10000 by omega) (by decide)
      · rw [upd_ne (ne_of_none e hD)]
        exact s1 b o e
      · rw [upd_same, List.range_succ]
        unfold rowV
        rw [List.map_append, List.map_append]
        rfl
    · rintro H' ⟨s1, e1⟩
      rw [Int.toNat_natCast, ← hN] at e1
      exact q Dl H' hD s1 e1
theorem ok_parts {f : Addr} {fd : FuncData} (D : Df K mg "generator_parts" s_generator_parts ["block"] f fd) (T : Txt K mg cs) (c_check_block : Cl P w K mg base (L2.CX P w) 3 "check_block" (spCheck K cs.BadBlock)) : FnOk P w K mg base (L2.CX P w) 4 f fd ["block"] (spParts K cs.BadBlock cs.BadScheme) := by
  refine D.fn.okX sc_generator_parts (fun vs H Q E h => ?_) (fun cdv A outer s H vs Q E hr h => ?_)
  · obtain ⟨v, d, n, rfl, _⟩ := h
    rfl
  · obtain ⟨v, d, n, rfl, hd, hg, hn, q⟩ := h
    have tk := takes_of (X := cxOf (L2.CX P w) P w K mg base ["block"] "generator_parts" (defScope s_generator_parts) f cdv A outer s H E) (E := E) rfl rfl rfl rfl
    refine ⟨_, (pss_cons (ps_expr (pe_clX c_check_block hr (by first | decide | omega) (by rfl) tk (pa_cons (pv 0) pa_nil))) (pss_cons (ps_if (pt_cmpR op_ne (pe_ix (ixT K) (pv 0) pe_int (fun _ _ => rfl)) pe_str (nomark _)) (pss_one (ps_raiseE T.x_BadScheme rfl tk (by rfl))) pss_nil) (pss_one (ps_ret (pe_slice (slTA K) (pv 0) (po_some pe_int) po_none))))), ?_⟩
    refine ⟨_, rfl, v, d, n, rfl, hd, hg, hn, fun H1 s1 => ⟨fun ok => ?_, fun no => ?_⟩⟩
    · rcases q with ⟨q0, _⟩ | ⟨q0, q⟩ | ⟨n', m, rows, rfl, wf, q⟩
      · rw [q0] at ok
        cases ok
      · obtain ⟨_, ds, rfl⟩ := fun_no_gen q0
        cases hd with
        | @tup a ws _ hT hA =>
          cases hA with
          | cons h0 hA =>
            cases h0
            refine ⟨_, rfl, a, _, 0, _, rfl, rfl, same_sqt s1 hT, at0, rfl, _, rfl, ?_⟩
            exact q H1 s1
      · obtain ⟨a, r, rfl, hT, hR⟩ := dp_tab hd
        have hT1 := same_sqt s1 hT
        refine ⟨_, rfl, a, _, 0, _, rfl, rfl, hT1, at0, rfl, _, rfl, ?_⟩
        refine ⟨_, rfl, _, rfl, sl_anyN hT1 fun p H2 s2 t2 => ?_⟩
        exact q p r H2 (s1.trans s2) t2 (same_sqt (s1.trans s2) hR)
    · rcases q with ⟨_, q⟩ | ⟨q0, _⟩ | ⟨n', m, rows, rfl, wf, _⟩
      · exact q H1 s1
      · unfold blockOk at no
        rw [q0, Bool.or_true] at no
        cases no
      · rw [wf_block wf] at no
        cases no

theorem ok_fparts {f : Addr} {fd : FuncData} (D : Df K mg "function_parts" s_function_parts ["block"] f fd) (T : Txt K mg cs) (c_check_block : Cl P w K mg base (L2.CX P w) 3 "check_block" (spCheck K cs.BadBlock)) : FnOk P w K mg base (L2.CX P w) 4 f fd ["block"] (spFParts K cs.BadBlock cs.BadScheme) := by
  refine D.fn.okX sc_function_parts (fun vs H Q E h => ?_) (fun cdv A outer s H vs Q E hr h => ?_)
  · obtain ⟨v, d, n, rfl, _⟩ := h
    rfl
  · obtain ⟨v, d, n, rfl, hd, hg, hn, q⟩ := h
    have tk := takes_of (X := cxOf (L2.CX P w) P w K mg base ["block"] "function_parts" (defScope s_function_parts) f cdv A outer s H E) (E := E) rfl rfl rfl rfl
    refine ⟨_, (pss_cons (ps_expr (pe_clX c_check_block hr (by first | decide | omega) (by rfl) tk (pa_cons (pv 0) pa_nil))) (pss_cons (ps_if (pt_cmpR op_ne (pe_ix (ixT K) (pv 0) pe_int (fun _ _ => rfl)) pe_str (nomark _)) (pss_one (ps_raiseE T.x_BadScheme rfl tk (by rfl))) pss_nil) (pss_one (ps_ret (pe_slice (slTA K) (pv 0) (po_some pe_int) po_none))))), ?_⟩
    refine ⟨_, rfl, v, d, n, rfl, hd, hg, hn, fun H1 s1 => ⟨fun ok => ?_, fun no => ?_⟩⟩
    · rcases q with ⟨q0, _⟩ | ⟨q0, q⟩ | ⟨n', l, m, tabs, rfl, wf, q⟩
      · rw [q0] at ok
        cases ok
      · obtain ⟨n', m, rows, rfl, wf⟩ := gen_wf q0
        obtain ⟨a, r, rfl, hT, hR⟩ := dp_tab hd
        refine ⟨_, rfl, a, _, 0, _, rfl, rfl, same_sqt s1 hT, at0, rfl, _, rfl, ?_⟩
        exact q H1 s1
      · obtain ⟨a, t, rfl, hT, hR⟩ := dp_fun hd
        have hT1 := same_sqt s1 hT
        refine ⟨_, rfl, a, _, 0, _, rfl, rfl, hT1, at0, rfl, _, rfl, ?_⟩
        refine ⟨_, rfl, _, rfl, sl_anyN hT1 fun p H2 s2 t2 => ?_⟩
        exact q p t H2 (s1.trans s2) t2 (dp_same (s1.trans s2) _ hR)
    · rcases q with ⟨_, q⟩ | ⟨q0, _⟩ | ⟨n', l, m, tabs, rfl, wf, _⟩
      · exact q H1 s1
      · unfold blockOk at no
        rw [q0, Bool.true_or] at no
        cases no
      · unfold blockOk at no
        rw [wf.ok, Bool.or_true] at no
        cases no
theorem ok_rowof {f : Addr} {fd : FuncData} (D : Df K mg "row_of" s_row_of ["block", "string"] f fd) (T : Txt K mg cs) (c_generator_parts : Cl P w K mg base (L2.CX P w) 4 "generator_parts" (spParts K cs.BadBlock cs.BadScheme)) (c_number_of : Cl P w K mg base CX0 1 "number_of" spNumber) : FnOk P w K mg base (L2.CX P w) 5 f fd ["block", "string"] (spRow K cs.BadBlock) := by
  refine D.fn.okX sc_row_of (fun vs H Q E h => ?_) (fun cdv A outer s H vs Q E hr h => ?_)
  · obtain ⟨v, d, n, x, rfl, _⟩ := h
    rfl
  · obtain ⟨v, d, n, x, rfl, hd, hg, hn, q⟩ := h
    have tk := takes_of (X := cxOf (L2.CX P w) P w K mg base ["block", "string", "rows"] "row_of" (defScope s_row_of) f cdv A outer s H E) (E := E) rfl rfl rfl rfl
    refine ⟨_, (pss_cons (ps_set (i := 2) sc_row_of.nd rfl (.inl rfl) (pe_ix (ixT K) (pe_clX c_generator_parts hr (by first | decide | omega) (by rfl) tk (pa_cons (pv 0) pa_nil)) pe_int (fun _ _ => rfl))) (pss_one (ps_ret (pe_ix (ixT K) (pv 2) (pe_cl c_number_of hr (by first | decide | omega) (by rfl) (pa_cons (pv 1) pa_nil)) (fun _ _ => rfl))))), ?_⟩
    rcases q with ⟨q0, q⟩ | ⟨n', m, rows, st, rfl, rfl, hs, wf, q⟩
    · exact ⟨_, rfl, v, d, n, rfl, hd, hg, hn, .inl ⟨q0, q⟩⟩
    · refine ⟨_, rfl, v, _, n, rfl, hd, hg, hn, .inr (.inr ⟨n', m, rows, rfl, wf, fun p r H1 s1 t1 t2 => ?_⟩)⟩
      have hn10 := wf.n2
      obtain ⟨hv, hrow⟩ := wf.at hs
      refine ⟨p, _, 2, _, rfl, rfl, t1, rfl, _, rfl, _, rfl, st, rfl, by omega, r, _, _, _, rfl, rfl, t2, atI_nat (getD_row hv), ?_⟩
      exact q H1 s1
theorem ok_valueof {f : Addr} {fd : FuncData} (D : Df K mg "value_of" s_value_of ["block", "key", "string"] f fd) (T : Txt K mg cs) (c_function_parts : Cl P w K mg base (L2.CX P w) 4 "function_parts" (spFParts K cs.BadBlock cs.BadScheme)) (c_number_of : Cl P w K mg base CX0 1 "number_of" spNumber) : FnOk P w K mg base (L2.CX P w) 5 f fd ["block", "key", "string"] (spVal K cs.BadBlock) := by
  refine D.fn.okX sc_value_of (fun vs H Q E h => ?_) (fun cdv A outer s H vs Q E hr h => ?_)
  · obtain ⟨v, d, n, x, y, rfl, _⟩ := h
    rfl
  · obtain ⟨v, d, n, x, y, rfl, hd, hg, hn, q⟩ := h
    have tk := takes_of (X := cxOf (L2.CX P w) P w K mg base ["block", "key", "string", "tables"] "value_of" (defScope s_value_of) f cdv A outer s H E) (E := E) rfl rfl rfl rfl
    refine ⟨_, (pss_cons (ps_set (i := 3) sc_value_of.nd rfl (.inl rfl) (pe_ix (ixT K) (pe_clX c_function_parts hr (by first | decide | omega) (by rfl) tk (pa_cons (pv 0) pa_nil)) pe_int (fun _ _ => rfl))) (pss_one (ps_ret (pe_ix (ixT K) (pe_ix (ixT K) (pv 3) (pe_cl c_number_of hr (by first | decide | omega) (by rfl) (pa_cons (pv 1) pa_nil)) (fun _ _ => rfl)) (pe_cl c_number_of hr (by first | decide | omega) (by rfl) (pa_cons (pv 2) pa_nil)) (fun _ _ => rfl))))), ?_⟩
    rcases q with ⟨q0, q⟩ | ⟨n', l, m, tabs, s1', s2', rfl, rfl, rfl, hs, ht, wf, q⟩
    · exact ⟨_, rfl, v, d, n, rfl, hd, hg, hn, .inl ⟨q0, q⟩⟩
    · refine ⟨_, rfl, v, _, n, rfl, hd, hg, hn, .inr (.inr ⟨n', l, m, tabs, rfl, wf, fun p t H1 s1 t1 t2 => ?_⟩)⟩
      have hn8 := wf.n2
      have hl8 := wf.l2
      obtain ⟨us, hU, hlen, hat⟩ := tabs_at t2
      have hv : val s1' < tabs.length := by
        have := val_lt s1'
        rw [hs, ← wf.len] at this
        exact this
      obtain ⟨r, hr', hR⟩ := hat _ hv
      have htab := (wf.row _ (List.getElem_mem hv)).1
      have hv2 : val s2' < (tabs[val s1']).length := by
        have := val_lt s2'
        rw [ht, ← htab] at this
        exact this
      have e1 : tabs.getD (val s1') [] = tabs[val s1'] := by
        rw [List.getD_eq_getElem?_getD, List.getElem?_eq_getElem hv]
        rfl
      rw [e1] at q
      refine ⟨p, _, 3, _, rfl, rfl, t1, rfl, _, rfl, _, rfl, s1', rfl, by omega, t, _, _, _, rfl, rfl, hU, atI_nat hr', _, rfl, s2', rfl, by omega, r, _, _, _, rfl, rfl, hR, atI_nat (getD_row hv2), ?_⟩
      exact q H1 s1

theorem ok_go {f : Addr} {fd : FuncData} (D : Df K mg "go_down" s_go_down ["rows", "label", "path"] f fd) (T : Txt K mg cs) (c_number_of : Cl P w K mg base CX0 1 "number_of" spNumber) : FnOk P w K mg base CX0 2 f fd ["rows", "label", "path"] (spGo K) := by
  refine D.fn.ok sc_go_down (fun vs H Q E h => ?_) (fun cdv A outer s H vs Q E hr h => ?_)
  · obtain ⟨r, n, rows, lab, path, rfl, _⟩ := h
    rfl
  · obtain ⟨r, n, rows, lab, path, rfl, hT, wf, hs, q⟩ := h
    refine ⟨_, (pss_cons (ps_set (i := 3) sc_go_down.nd rfl (.inl rfl) (pe_callB call_len_str (by rfl) T.n_len (by decide +kernel) (pa_cons (pv 1) pa_nil))) (pss_cons (ps_for PassesOwn.never rfl (pi_str (pv 2)) (pg_name (i := 4) sc_go_down.nd rfl (.inl rfl)) (pss_cons (ps_set (i := 5) sc_go_down.nd rfl (.inl rfl) (pe_ix (ixT K) (pv 0) (pe_cl c_number_of hr (by first | decide | omega) (by rfl) (pa_cons (pv 1) pa_nil)) (fun _ _ => rfl))) (pss_one (ps_set (i := 1) sc_go_down.nd rfl (.inl rfl) (pe_ifExp (pt_cmpR op_eq (pv 4) pe_str (nomark _)) (pe_slice sl_str (pv 5) po_none (po_some (pv 3))) (pe_slice sl_str (pv 5) (po_some (pv 3)) po_none)))))) (pss_one (ps_ret (pv 1))))), ?_⟩
    have hn10 := wf.n2
    have sz : ∀ l : List Bool, l.length ≤ 1000 → (sb l).length ≤ sizeLine := fun l h => by
      rw [sb_len, sizeLine_eq]
      omega
    refine ⟨_, rfl, _, rfl, sz _ (by omega), ?_⟩
    rw [sb_len, hs]
    refine ⟨_, rfl, _, rfl, for_text (fun i σ H' => ∃ (t : List Bool) (y4 y5 : Option V), σ = [some (.ref r), some (.str (sb t)), some (.str (sb path)), some (.int (n : Int)), y4, y5] ∧ t.length = n ∧ goDown rows n lab path = goDown rows n t (path.drop i) ∧ H' = H) ?_ ?_ ?_⟩
    · exact ⟨lab, none, none, rfl, hs, rfl, rfl⟩
    · rintro i c σ H' hc ⟨t, y4, y5, rfl, ht, he, rfl⟩
      obtain ⟨hi, rfl⟩ := sb_at hc
      obtain ⟨hv, hrow⟩ := wf.at ht
      rw [List.drop_eq_getElem_cons hi] at he
      have he' : goDown rows n lab path = goDown rows n (if path[i] then (rows.getD (val t) []).drop n else (rows.getD (val t) []).take n) (path.drop (i + 1)) := he
      generalize hR : rows.getD (val t) [] = row at hrow he'
      refine ⟨_, rfl, _, rfl, t, rfl, by omega, r, _, _, _, rfl, rfl, hT, atI_nat (getD_row hv), ?_⟩
      rw [hR]
      refine ⟨_, rfl, rfl, _, rfl, ?_⟩
      cases hb : path[i] with
      | false =>
        rw [hb] at he'
        refine ⟨_, rfl, _, rfl, _, rfl, _, rfl, sz _ (by omega), ?_⟩
        rw [cut_pre]
        refine ⟨row.take n, some (.str ⟨#[cB false]⟩), some (.str (sb row)), rfl, ?_, he', rfl⟩
        rw [List.length_take, hrow]
        omega
      | true =>
        rw [hb] at he'
        refine ⟨_, rfl, _, rfl, _, rfl, _, rfl, sz _ (by omega), ?_⟩
        rw [cut_suf]
        refine ⟨row.drop n, some (.str ⟨#[cB true]⟩), some (.str (sb row)), rfl, ?_, he', rfl⟩
        rw [List.length_drop, hrow]
        omega
    · rintro σ H' ⟨t, y4, y5, rfl, ht, he, rfl⟩
      have es : (sb path).cps.size = path.length := sb_len path
      rw [es, List.drop_length] at he
      have he' : goDown rows n lab path = t := he
      rw [he'] at q
      exact ⟨_, rfl, q⟩

theorem ok_tree {f : Addr} {fd : FuncData} (D : Df K mg "tree" s_tree ["block", "d"] f fd) (T : Txt K mg cs) (c_generator_parts : Cl P w K mg base (L2.CX P w) 4 "generator_parts" (spParts K cs.BadBlock cs.BadScheme))
    (c_is_whole : Cl P w K mg base CX0 1 "is_whole" (spWhole K)) (c_all_bits : Cl P w K mg base CX0 2 "all_bits" (spAll K)) (c_go_down : Cl P w K mg base CX0 2 "go_down" (spGo K)) : FnOk P w K mg base (L2.CX P w) 5 f fd ["block", "d"] (spTree K cs.BadBlock cs.BadScheme) := by
  refine D.fn.okX sc_tree (fun vs H Q E h => ?_) (fun cdv A outer s H vs Q E hr h => ?_)
  · obtain ⟨v, d, n, k, rfl, _⟩ := h
    rfl
  · obtain ⟨v, d, n, k, rfl, hd, hg, hn, q⟩ := h
    have tk := takes_of (X := cxOf (L2.CX P w) P w K mg base ["block", "d", "n", "m", "rows", "paths", "tables", "key", "path"] "tree" (defScope s_tree) f cdv A outer s H E) (E := E) rfl rfl rfl rfl
    refine ⟨_, (pss_cons (ps_asg (pe_clX c_generator_parts hr (by first | decide | omega) (by rfl) tk (pa_cons (pv 0) pa_nil)) (pg_tup (by rfl) (pgs_cons (pg_name (i := 2) sc_tree.nd rfl (.inl rfl)) (pgs_cons (pg_name (i := 3) sc_tree.nd rfl (.inl rfl)) (pgs_cons (pg_name (i := 4) sc_tree.nd rfl (.inr rfl)) pgs_nil))))) (pss_cons (ps_if (PW.pt (pw_or (pt_cmpR op_ne (pv 3) (pe_op op_mul pe_int (pv 2)) (nomark _)) (pw_or1 (pt_cmpR op_gt (pv 2) pe_int (nomark _))))) (pss_one (ps_raiseE T.x_BadScheme rfl tk (by rfl))) pss_nil) (pss_cons (ps_if (PW.pt (pw_or (pt_not (pt_val (pe_cl c_is_whole hr (by first | decide | omega) (by rfl) (pa_cons (pv 1) (pa_cons pe_int (pa_cons pe_int pa_nil)))))) (pw_or1 (pt_cmpR op_gt (pe_op op_add (pv 2) (pv 1)) pe_int (nomark _))))) (pss_one (ps_raiseE T.x_BadScheme rfl tk (by rfl))) pss_nil) (pss_cons (ps_set (i := 5) sc_tree.nd rfl (.inr rfl) (pe_cl c_all_bits hr (by first | decide | omega) (by rfl) (pa_cons (pv 1) pa_nil))) (pss_cons (ps_setLc (i := 6) (own := [("key", 7)]) (g := gName 7) (tt := tYes) rfl sc_tree.nd rfl rfl (sw_true rfl rfl rfl (by decide +kernel)) (pi_list (pe_cl c_all_bits hr (by first | decide | omega) (by rfl) (pa_cons (pv 2) pa_nil))) (blkOk_by (own := [("key", 7)]) (N := ["block", "d", "n", "m", "rows", "paths", "tables", "key", "path"]) (sc := defScope s_tree) (by decide +kernel)) (fun _ _ _ _ _ => (pg_name (i := 7) sc_tree.nd rfl (.inr rfl))) (fun _ _ _ _ _ => pts_nil) (fun _ _ _ _ _ => (pe_callTy (tupOf K) (by rfl) T.n_tuple (by decide +kernel) (pa_cons (pe_lc (own := [("path", 8)]) (g := gName 8) (tt := tYes) rfl sc_tree.nd (piL K (pv 5)) (blkOk_by (own := [("path", 8)]) (by rfl)) (fun _ _ _ _ _ => (pg_name (i := 8) sc_tree.nd rfl (.inl rfl))) (fun _ _ _ _ _ => pts_nil) (fun _ _ _ _ _ => (pe_cl c_go_down hr (by first | decide | omega) (by rfl) (pa_cons (pv 4) (pa_cons (pv 7) (pa_cons (pv 8) pa_nil)))))) pa_nil)))) (pss_one (ps_ret (pe_tup (pa_cons pe_str (pa_cons (pv 2) (pa_cons (pv 1) (pa_cons (pv 2) (pa_cons (pe_callTy (tupOf K) (by rfl) T.n_tuple (by decide +kernel) (pa_cons (pv 6) pa_nil)) pa_nil))))))))))))), ?_⟩
    rcases q with ⟨q0, q⟩ | ⟨q0, q⟩ | ⟨n', j, rows, rfl, rfl, wf, n8, j1, j2, nj, q⟩
    · exact ⟨_, rfl, v, d, n, rfl, hd, hg, hn, .inl ⟨q0, q⟩⟩
    · rcases q0 with q0 | ⟨n', m, rows, rfl, wf, bad⟩
      · exact ⟨_, rfl, v, d, n, rfl, hd, hg, hn, .inr (.inl ⟨q0, q⟩)⟩
      · refine ⟨_, rfl, v, _, n, rfl, hd, hg, hn, .inr (.inr ⟨n', m, rows, rfl, wf, fun p r H1 s1 t1 t2 => ?_⟩)⟩
        refine ⟨p, _, rfl, t1, rfl, _, _, rfl, _, _, rfl, _, _, rfl, rfl, ?_⟩
        refine ⟨_, rfl, _, rfl, _, _, rfl, rfl, .inl ⟨by decide, by decide⟩, rfl, _, rfl, ?_⟩
        by_cases c1 : m = 2 * n'
        · rw [decide_eq_true (show V.int (m : Int) = V.int (2 * (n' : Int)) from congrArg V.int (by omega))]
          refine ⟨_, rfl, _, _, rfl, rfl, _, rfl, ?_⟩
          by_cases c2 : (8 : Int) < (n' : Int)
          · rw [decide_eq_true c2]
            exact q H1 s1
          · rw [decide_eq_false c2]
            refine ⟨_, rfl, .int k, .int k, 1, 8, rfl, .int k, _, rfl, ?_⟩
            cases c3 : whole (.int k) 1 8 with
            | false => exact q H1 s1
            | true =>
              refine ⟨_, rfl, _, rfl, _, _, rfl, rfl, _, _, rfl, rfl, _, rfl, ?_⟩
              rcases bad with bad | bad | bad | bad
              · exact absurd c1 bad
              · exact absurd (show (8 : Int) < (n' : Int) by omega) c2
              · rw [c3] at bad
                cases bad
              · rw [decide_eq_true bad]
                exact q H1 s1
        · rw [decide_eq_false (show ¬ V.int (m : Int) = V.int (2 * (n' : Int)) from fun z => c1 (by have := V.int.inj z; omega))]
          exact q H1 s1
    · refine ⟨_, rfl, v, _, n, rfl, hd, hg, hn, .inr (.inr ⟨n', 2 * n', rows, rfl, wf, fun p r H1 s1 t1 t2 => ?_⟩)⟩
      refine ⟨p, _, rfl, t1, rfl, _, _, rfl, _, _, rfl, _, _, rfl, rfl, ?_⟩
      refine ⟨_, rfl, _, rfl, _, _, rfl, rfl, .inl ⟨by decide, by decide⟩, rfl, _, rfl, ?_⟩
      rw [decide_eq_true (show V.int ((2 * n' : Nat) : Int) = V.int (2 * (n' : Int)) from congrArg V.int (by omega))]
      refine ⟨_, rfl, _, _, rfl, rfl, _, rfl, ?_⟩
      rw [decide_eq_false (show ¬ (8 : Int) < (n' : Int) by omega)]
      refine ⟨_, rfl, .int (j : Int), .int (j : Int), 1, 8, rfl, .int (j : Int), _, rfl, ?_⟩
      have ew : whole (.int (j : Int)) 1 8 = true := by
        show (decide _ && decide _) = true
        rw [decide_eq_true (show (1 : Int) ≤ (j : Int) by omega), decide_eq_true (show (j : Int) ≤ 8 by omega)]
        rfl
      rw [ew]
      refine ⟨_, rfl, _, rfl, _, _, rfl, rfl, _, _, rfl, rfl, _, rfl, ?_⟩
      rw [decide_eq_false (show ¬ (12 : Int) < (n' : Int) + (j : Int) by omega)]
      refine ⟨_, rfl, j, rfl, by omega, fun L1 H2 nL1 s2 e1 => ?_⟩
      refine ⟨_, rfl, n', rfl, by omega, fun L2 H3 nL2 s3 e2 => ⟨L2, rfl, ⟨_, .inl (.inl e2)⟩, fun Dl hD => ?_⟩⟩
      have hp := two_pow_le (b := 8) n8
      have hpj := two_pow_le (b := 8) j2
      have e13 := s3 _ _ e1
      have t23 := same_sqt (s2.trans s3) t2
      refine lc_list (xs := rowV ((List.range (2 ^ n')).map fun i => toB n' i)) (fun i H' => Same H3 H' ∧ ∃ us, H' Dl = some (.lst us) ∧ us.length = i ∧ DpAll K (off Dl H') us ((List.range i).map fun i => rowsD ((List.range (2 ^ j)).map fun k => goDown rows n' (toB n' i) (toB j k)))) ?_ ?_ ?_ ?_
      · exact ⟨same_new hD, [], upd_same, rfl, .nil⟩
      · rintro i H' _ ⟨s4, _⟩
        exact .inl (.inl (s4 _ _ e2))
      · rintro i x H' hx ⟨s4, us, e4, hul, hA⟩
        obtain ⟨hi, rfl⟩ := range_at hx
        refine ⟨rfl, ?_⟩
        refine ⟨_, rfl, L1, rfl, ⟨_, .inl (.inl (s4 _ _ e13))⟩, fun Di hDi => ?_⟩
        refine lc_list (xs := rowV ((List.range (2 ^ j)).map fun i => toB j i)) (fun k H2 => Same H' H2 ∧ H2 Di = some (.lst (rowV ((List.range k).map fun k => goDown rows n' (toB n' i) (toB j k))))) ?_ ?_ ?_ ?_
        · exact ⟨same_new hDi, upd_same⟩
        · rintro k H2 _ ⟨s5, _⟩
          exact .inl (.inl (s5 _ _ (s4 _ _ e13)))
        · rintro k y H2 hy ⟨s5, e5⟩
          obtain ⟨hk, rfl⟩ := range_at hy
          refine ⟨rfl, ?_⟩
          refine ⟨_, rfl, _, rfl, _, rfl, r, n', rows, toB n' i, toB j k, rfl, same_sqt (s4.trans s5) t23, wf, toB_len _ _, _, e5, ?_, fun b o e => ?_, ?_⟩
          · rw [rowV_len, List.length_map, List.length_range]
            exact Nat.lt_of_lt_of_le (show k < 10000 by omega) (by decide)
          · rw [upd_ne (ne_of_none e hDi)]
            exact s5 b o e
          · rw [upd_same, rowV_snoc]
        · rintro H2 ⟨s5, e5⟩
          rw [rowV_len, List.length_map, List.length_range] at e5
          refine ⟨Di, _, rfl, .inl ⟨.inl (.inl e5), fun t nt => ?_⟩⟩
          have e42 := s5 _ _ e4
          have ntD : t ≠ Dl := (ne_of_none e42 nt).symm
          refine ⟨_, by rw [upd_ne ntD.symm]; exact e42, ?_, fun b o e => ?_, us ++ [.ref t], upd_same, by rw [List.length_append, hul]; rfl, ?_⟩
          · exact Nat.lt_of_lt_of_le (show us.length < 10000 by omega) (by decide)
          · rw [upd_ne (ne_of_none e hD)]
            exact same_new nt _ _ (s5 _ _ (s4 _ _ e))
          · rw [off_upd1, List.range_succ, List.map_append]
            refine dpAll_snoc (dps_same (off_mono (s5.trans (same_new nt))) _ hA) (.tup (.inl (.inl ?_)) (dp_bits _))
            rw [off_ne ntD, upd_same]
            rfl
      · rintro H' ⟨s4, us, e4, hul, hA⟩
        rw [rowV_len, List.length_map, List.length_range] at hul hA
        refine ⟨_, rfl, _, rfl, _, rfl, _, rfl, Dl, _, rfl, .inl ⟨.inl (.inl e4), fun t nt => ⟨(by show 5 ≤ sizeLine; decide), fun g ng => ?_⟩⟩⟩
        have s6 := (same_new (o := .tup us) nt).trans (same_new (o := .tup [.str "function", .int (n' : Int), .int (j : Int), .int (n' : Int), .ref t]) ng)
        refine q _ _ (((s1.trans s2).trans s3).trans (s4.trans s6)) (fun_dp (n := n') (l := j) (m := n') (t := t) (.inl (.inl upd_same)) ?_)
        have eT : (treeT n' j rows).map rowsD = (List.range (2 ^ n')).map fun i => rowsD ((List.range (2 ^ j)).map fun k => goDown rows n' (toB n' i) (toB j k)) := by
          unfold treeT
          rw [List.map_map]
          rfl
        unfold tabsD
        rw [eT]
        exact .tup (.inl (.inl (by rw [upd_ne (ne_of_none upd_same ng), upd_same]))) (dps_same (fun b o e => s6 _ _ (off_same Dl H' _ _ e)) _ hA)

theorem ok_counter {f : Addr} {fd : FuncData} (D : Df K mg "counter" s_counter ["block", "c"] f fd) (T : Txt K mg cs) (c_function_parts : Cl P w K mg base (L2.CX P w) 4 "function_parts" (spFParts K cs.BadBlock cs.BadScheme))
    (c_is_whole : Cl P w K mg base CX0 1 "is_whole" (spWhole K)) : FnOk P w K mg base (L2.CX P w) 5 f fd ["block", "c"] (spCnt K cs.BadBlock cs.BadScheme) := by
  refine D.fn.okX sc_counter (fun vs H Q E h => ?_) (fun cdv A outer s H vs Q E hr h => ?_)
  · obtain ⟨v, d, n, k, rfl, _⟩ := h
    rfl
  · obtain ⟨v, d, n, k, rfl, hd, hg, hn, q⟩ := h
    have tk := takes_of (X := cxOf (L2.CX P w) P w K mg base ["block", "c", "n", "l", "m", "tables", "values"] "counter" (defScope s_counter) f cdv A outer s H E) (E := E) rfl rfl rfl rfl
    refine ⟨_, (pss_cons (ps_asg (pe_clX c_function_parts hr (by first | decide | omega) (by rfl) tk (pa_cons (pv 0) pa_nil)) (pg_tup (by rfl) (pgs_cons (pg_name (i := 2) sc_counter.nd rfl (.inl rfl)) (pgs_cons (pg_name (i := 3) sc_counter.nd rfl (.inl rfl)) (pgs_cons (pg_name (i := 4) sc_counter.nd rfl (.inl rfl)) (pgs_cons (pg_name (i := 5) sc_counter.nd rfl (.inl rfl)) pgs_nil)))))) (pss_cons (ps_if (PW.pt (pw_or (pt_not (pt_val (pe_cl c_is_whole hr (by first | decide | omega) (by rfl) (pa_cons (pv 1) (pa_cons pe_int (pa_cons (pe_op op_shl pe_int (pv 3)) pa_nil)))))) (pw_or1 (pt_cmpR op_gt (pe_op op_mul (pv 1) (pv 4)) (C8.pe_gc (by rfl) T.g_MOST_BITS) (nomark _))))) (pss_one (ps_raiseE T.x_BadScheme rfl tk (by rfl))) pss_nil) (pss_one (ps_ret (pe_tup (pa_cons pe_str (pa_cons (pv 2) (pa_cons (pe_op op_mul (pv 1) (pv 4)) (pa_cons (pe_callTy (tupOf K) (by rfl) T.n_tuple (by decide +kernel) (pa_cons (pe_lc (own := [("values", 6)]) (g := gName 6) (tt := tYes) rfl sc_counter.nd (pi_tup (pv 5)) (blkOk_by (own := [("values", 6)]) (N := ["block", "c", "n", "l", "m", "tables", "values"]) (sc := defScope s_counter) (by decide +kernel)) (fun _ _ _ _ _ => (pg_name (i := 6) sc_counter.nd rfl (.inl rfl))) (fun _ _ _ _ _ => pts_nil) (fun _ _ _ _ _ => (pe_m1 PySem.F.slot_str_join PySem.F.type_str_join (mtJoin K) pe_str (pe_slice (slTA K) (pv 6) po_none (po_some (pv 1)))))) pa_nil)) pa_nil))))))))), ?_⟩
    rcases q with ⟨q0, q⟩ | ⟨q0, q⟩ | ⟨n', l, m, j, tabs, rfl, rfl, wf, j1, j2, jm, q⟩
    · exact ⟨_, rfl, v, d, n, rfl, hd, hg, hn, .inl ⟨q0, q⟩⟩
    · rcases q0 with q0 | ⟨n', l, m, tabs, rfl, wf, bad⟩
      · exact ⟨_, rfl, v, d, n, rfl, hd, hg, hn, .inr (.inl ⟨q0, q⟩)⟩
      · refine ⟨_, rfl, v, _, n, rfl, hd, hg, hn, .inr (.inr ⟨n', l, m, tabs, rfl, wf, fun p t H1 s1 t1 t2 => ?_⟩)⟩
        have hl8 := wf.l2
        have hm40 := wf.m2
        refine ⟨p, _, rfl, t1, rfl, _, _, rfl, _, _, rfl, _, _, rfl, _, _, rfl, rfl, ?_⟩
        refine ⟨_, rfl, _, rfl, _, _, rfl, rfl, ⟨by omega, by omega, by decide⟩, .int k, .int k, 1, _, rfl, .int k, _, rfl, ?_⟩
        rw [shl_one]
        cases c : whole (.int k) 1 ((2 ^ l : Nat) : Int) with
        | false => exact q H1 s1
        | true =>
          obtain ⟨k', e, k1, k2⟩ := whole_int c
          cases e
          have hp := two_pow_le (b := 8) hl8
          have hk : k ≤ 256 := by
            generalize 2 ^ l = N at *
            omega
          refine ⟨_, rfl, _, rfl, _, _, rfl, rfl, .inl ⟨by omega, by omega⟩, _, _, rfl, rfl, _, rfl, ?_⟩
          rcases bad with bad | bad
          · rw [c] at bad
            cases bad
          · rw [decide_eq_true bad]
            exact q H1 s1
    · refine ⟨_, rfl, v, _, n, rfl, hd, hg, hn, .inr (.inr ⟨n', l, m, tabs, rfl, wf, fun p t H1 s1 t1 t2 => ?_⟩)⟩
      have hl8 := wf.l2
      have hm40 := wf.m2
      have hp := two_pow_le (b := 8) hl8
      refine ⟨p, _, rfl, t1, rfl, _, _, rfl, _, _, rfl, _, _, rfl, _, _, rfl, rfl, ?_⟩
      refine ⟨_, rfl, _, rfl, _, _, rfl, rfl, ⟨by omega, by omega, by decide⟩, .int (j : Int), .int (j : Int), 1, _, rfl, .int (j : Int), _, rfl, ?_⟩
      rw [shl_one]
      have ew : whole (.int (j : Int)) 1 ((2 ^ l : Nat) : Int) = true := by
        show (decide _ && decide _) = true
        rw [decide_eq_true (show (1 : Int) ≤ (j : Int) by omega), decide_eq_true (show (j : Int) ≤ ((2 ^ l : Nat) : Int) by generalize 2 ^ l = N at *; omega)]
        rfl
      rw [ew]
      have hj : j ≤ 256 := by
        generalize 2 ^ l = N at *
        omega
      have ejm : (j : Int) * (m : Int) = ((j * m : Nat) : Int) := (Int.natCast_mul j m).symm
      refine ⟨_, rfl, _, rfl, _, _, rfl, rfl, .inl ⟨by omega, by omega⟩, _, _, rfl, rfl, _, rfl, ?_⟩
      rw [decide_eq_false (show ¬ (40 : Int) < (j : Int) * (m : Int) by rw [ejm]; omega)]
      obtain ⟨us, hU, hul, hat⟩ := tabs_at t2
      have hlen := wf.len
      have hn8 := two_pow_le (b := 8) wf.n2
      refine ⟨_, rfl, _, rfl, _, rfl, _, _, rfl, rfl, .inl ⟨by omega, by omega⟩, _, rfl, t, rfl, ⟨_, hU⟩, fun Dl hD => ?_⟩
      refine lc_tup (xs := us) (fun i H' => Same H1 H' ∧ H' Dl = some (.lst (rowV (cntR j (tabs.take i))))) ?_ ?_ ?_ ?_
      · exact ⟨same_new hD, upd_same⟩
      · rintro i H' _ ⟨s3, _⟩
        exact same_sqt s3 hU
      · rintro i x H' hx ⟨s3, e3⟩
        have hi : i < tabs.length := by
          have := (List.getElem?_eq_some_iff.mp hx).1
          omega
        obtain ⟨r, hr', hR⟩ := hat i hi
        have ex : x = .ref r := Option.some.inj (hx.symm.trans hr')
        subst ex
        have hrow := wf.row _ (List.getElem_mem hi)
        refine ⟨rfl, ?_⟩
        refine ⟨⟨_, rfl⟩, _, rfl, _, rfl, _, rfl, sl_any (same_sqt s3 hR) fun p2 H2 s4 t4 => ?_⟩
        rw [cut_rows] at t4
        refine ⟨"", p2, _, rfl, rfl, .inr t4, ?_, _, s4 _ _ e3, ?_, fun b o e => ?_, ?_⟩
        · rw [sum_rows (m := m) fun r hr => hrow.2 r (List.mem_of_mem_take hr), List.length_take]
          have a1 : min j (tabs[i]).length * m ≤ 256 * 40 := Nat.mul_le_mul (by omega) hm40
          show _ + _ * 0 ≤ _
          omega
        · rw [rowV_len]
          unfold cntR
          rw [List.length_map, List.length_take]
          exact Nat.lt_of_lt_of_le (show min i tabs.length < 10000 by omega) (by decide)
        · rw [upd_ne (ne_of_none e hD)]
          exact s4 _ _ (s3 b o e)
        · rw [upd_same, join_sbs, List.take_add_one, List.getElem?_eq_getElem hi]
          unfold cntR rowV
          rw [List.map_append, List.map_append]
          rfl
      · rintro H' ⟨s3, e3⟩
        rw [hul, List.take_length] at e3
        refine ⟨Dl, _, rfl, .inl ⟨.inl (.inl e3), fun u nu => ⟨(by show 4 ≤ sizeLine; decide), fun g ng => ?_⟩⟩⟩
        have s4 := (s1.trans s3).trans ((same_new nu).trans (same_new (o := .tup [.str "generator", .int (n' : Int), .int ((j : Int) * (m : Int)), .ref u]) ng))
        refine q _ _ s4 (tab_dp (n := n') (m := j * m) (r := u) (.inl (.inl (by rw [upd_same]; show some (HO.tup [.str "generator", .int (n' : Int), .int ((j : Int) * (m : Int)), .ref u]) = _; rw [ejm]))) (.inl (.inl ?_)))
        rw [upd_ne (ne_of_none upd_same ng), upd_same]
        rfl

theorem ok_hard {f : Addr} {fd : FuncData} (D : Df K mg "hardbits" s_hardbits ["block"] f fd) (T : Txt K mg cs) (c_generator_parts : Cl P w K mg base (L2.CX P w) 4 "generator_parts" (spParts K cs.BadBlock cs.BadScheme))
    (c_all_bits : Cl P w K mg base CX0 2 "all_bits" (spAll K)) (c_number_of : Cl P w K mg base CX0 1 "number_of" spNumber) (c_parity : Cl P w K mg base CX0 2 "parity" spParity) : FnOk P w K mg base (L2.CX P w) 5 f fd ["block"] (spHard K cs.BadBlock cs.BadScheme) := by
  refine D.fn.okX sc_hardbits (fun vs H Q E h => ?_) (fun cdv A outer s H vs Q E hr h => ?_)
  · obtain ⟨v, d, n, rfl, _⟩ := h
    rfl
  · obtain ⟨v, d, n, rfl, hd, hg, hn, q⟩ := h
    have tk := takes_of (X := cxOf (L2.CX P w) P w K mg base ["block", "n", "m", "rows", "seeds", "made", "x", "r"] "hardbits" (defScope s_hardbits) f cdv A outer s H E) (E := E) rfl rfl rfl rfl
    refine ⟨_, (pss_cons (ps_asg (pe_clX c_generator_parts hr (by first | decide | omega) (by rfl) tk (pa_cons (pv 0) pa_nil)) (pg_tup (by rfl) (pgs_cons (pg_name (i := 1) sc_hardbits.nd rfl (.inl rfl)) (pgs_cons (pg_name (i := 2) sc_hardbits.nd rfl (.inl rfl)) (pgs_cons (pg_name (i := 3) sc_hardbits.nd rfl (.inr rfl)) pgs_nil))))) (pss_cons (ps_if (PW.pt (pw_or (pt_cmpR op_gt (pv 1) pe_int (nomark _)) (pw_or1 (pt_cmpR op_gt (pe_op op_add (pe_op op_add (pv 2) (pv 1)) pe_int) (C8.pe_gc (by rfl) T.g_MOST_BITS) (nomark _))))) (pss_one (ps_raiseE T.x_BadScheme rfl tk (by rfl))) pss_nil) (pss_cons (ps_set (i := 4) sc_hardbits.nd rfl (.inr rfl) (pe_cl c_all_bits hr (by first | decide | omega) (by rfl) (pa_cons (pv 1) pa_nil))) (pss_cons (ps_setLc2 (i := 5) (own := [("x", 6), ("r", 7)]) (vs1 := [7]) (g := gName 6) (g1 := gName 7) (tt := tYes) (tt1 := tYes) rfl sc_hardbits.nd rfl rfl (sw_true rfl rfl rfl (by decide +kernel)) (pi_list (pv 4)) (blkOk_by (own := [("x", 6), ("r", 7)]) (N := ["block", "n", "m", "rows", "seeds", "made", "x", "r"]) (sc := defScope s_hardbits) (by decide +kernel)) (by decide) (fun _ _ _ _ _ => (pg_name (i := 6) sc_hardbits.nd rfl (.inl rfl))) (fun _ _ _ _ _ => pts_nil) (fun _ _ _ _ _ => (piL K (pv 4))) (fun _ _ _ _ _ => (pg_name (i := 7) sc_hardbits.nd rfl (.inl rfl))) (fun _ _ _ _ _ => pts_nil) (fun _ _ _ _ _ => (pe_op op_add_str (pe_op op_add_str (pe_ix (ixT K) (pv 3) (pe_cl c_number_of hr (by first | decide | omega) (by rfl) (pa_cons (pv 6) pa_nil)) (fun _ _ => rfl)) (pv 7)) (pe_callTy call_str_int (by rfl) T.n_str (by decide +kernel) (pa_cons (pe_cl c_parity hr (by first | decide | omega) (by rfl) (pa_cons (pv 6) (pa_cons (pv 7) pa_nil))) pa_nil))))) (pss_one (ps_ret (pe_tup (pa_cons pe_str (pa_cons (pe_op op_mul pe_int (pv 1)) (pa_cons (pe_op op_add (pe_op op_add (pv 2) (pv 1)) pe_int) (pa_cons (pe_callTy (tupOf K) (by rfl) T.n_tuple (by decide +kernel) (pa_cons (pv 5) pa_nil)) pa_nil))))))))))), ?_⟩
    rcases q with ⟨q0, q⟩ | ⟨q0, q⟩ | ⟨n', m, rows, rfl, wf, n5, m40, q⟩
    · exact ⟨_, rfl, v, d, n, rfl, hd, hg, hn, .inl ⟨q0, q⟩⟩
    · rcases q0 with q0 | ⟨n', m, rows, rfl, wf, bad⟩
      · exact ⟨_, rfl, v, d, n, rfl, hd, hg, hn, .inr (.inl ⟨q0, q⟩)⟩
      · refine ⟨_, rfl, v, _, n, rfl, hd, hg, hn, .inr (.inr ⟨n', m, rows, rfl, wf, fun p r H1 s1 t1 t2 => ?_⟩)⟩
        refine ⟨p, _, rfl, t1, rfl, _, _, rfl, _, _, rfl, _, _, rfl, rfl, ?_⟩
        refine ⟨_, rfl, _, _, rfl, rfl, _, rfl, ?_⟩
        by_cases c : (5 : Int) < (n' : Int)
        · rw [decide_eq_true c]
          exact q H1 s1
        · rw [decide_eq_false c]
          refine ⟨_, rfl, _, rfl, _, _, rfl, rfl, _, _, rfl, rfl, _, _, rfl, rfl, _, rfl, ?_⟩
          rw [decide_eq_true (show (40 : Int) < (m : Int) + (n' : Int) + 1 by omega)]
          exact q H1 s1
    · refine ⟨_, rfl, v, _, n, rfl, hd, hg, hn, .inr (.inr ⟨n', m, rows, rfl, wf, fun p r H1 s1 t1 t2 => ?_⟩)⟩
      refine ⟨p, _, rfl, t1, rfl, _, _, rfl, _, _, rfl, _, _, rfl, rfl, ?_⟩
      refine ⟨_, rfl, _, _, rfl, rfl, _, rfl, ?_⟩
      rw [decide_eq_false (show ¬ (5 : Int) < (n' : Int) by omega)]
      refine ⟨_, rfl, _, rfl, _, _, rfl, rfl, _, _, rfl, rfl, _, _, rfl, rfl, _, rfl, ?_⟩
      rw [decide_eq_false (show ¬ (40 : Int) < (m : Int) + (n' : Int) + 1 by omega)]
      refine ⟨_, rfl, n', rfl, by omega, fun L H2 nL s2 eL => ?_⟩
      have hp := two_pow_le (b := 5) n5
      have hlen := wf.len
      refine ⟨_, rfl, L, rfl, ⟨_, .inl (.inl eL)⟩, fun Dl hD => ?_⟩
      have hlr : (rowV ((List.range (2 ^ n')).map fun i => toB n' i)).length = 2 ^ n' := by
        rw [rowV_len, List.length_map, List.length_range]
      refine walkL (xs := rowV ((List.range (2 ^ n')).map fun i => toB n' i)) (fun i H' => Same H2 H' ∧ H' Dl = some (.lst (rowV (hardMade n' rows i)))) ?_ ?_ ?_ ?_
      · exact ⟨same_new hD, upd_same⟩
      · rintro i H' _ ⟨s3, _⟩
        exact .inl (.inl (s3 _ _ eL))
      · rintro i x H' hx ⟨s3, e3⟩
        obtain ⟨hi, rfl⟩ := range_at hx
        refine ⟨rfl, ?_⟩
        refine ⟨_, rfl, L, rfl, ⟨_, .inl (.inl (s3 _ _ eL))⟩, ?_⟩
        refine walkL (xs := rowV ((List.range (2 ^ n')).map fun i => toB n' i)) (fun j H2' => Same H2 H2' ∧ H2' Dl = some (.lst (rowV (hardMade n' rows i ++ (List.range j).map fun j => hardRow n' rows i j)))) ?_ ?_ ?_ ?_
        · exact ⟨s3, by rw [e3]; show _ = some (HO.lst (rowV (hardMade n' rows i ++ []))); rw [List.append_nil]⟩
        · rintro j H4 _ ⟨s4, _⟩
          exact .inl (.inl (s4 _ _ eL))
        · rintro j y H4 hy ⟨s4, e4⟩
          obtain ⟨hj, rfl⟩ := range_at hy
          have hvi := val_toB n' i hi
          have hil : i < rows.length := by omega
          have hri : (rows.getD i []).length = m := by
            rw [List.getD_eq_getElem?_getD, List.getElem?_eq_getElem hil]
            exact wf.row _ (List.getElem_mem hil)
          have hat : (rowV rows)[val (toB n' i)]? = some (.str (sb (rows.getD i []))) := by
            rw [hvi]
            exact getD_row hil
          have sz : ∀ l : List Bool, l.length ≤ 1000 → (sb l).length ≤ sizeLine := fun l h => by
            rw [sb_len, sizeLine_eq]
            omega
          refine ⟨rfl, ?_⟩
          refine ⟨_, rfl, _, rfl, toB n' i, rfl, by rw [toB_len]; omega, r, _, _, _, rfl, rfl, same_sqt (s2.trans s4) t2, atI_nat hat, _, rfl, _, _, rfl, rfl, ?_, _, rfl, _, rfl, toB n' i, toB n' j, rfl, by rw [toB_len, toB_len], by rw [toB_len]; omega, _, rfl, ?_, _, _, rfl, rfl, ?_, _, e4, ?_, fun b o e => ?_, ?_⟩
          · rw [← str_app_len, sb_cat]
            exact sz _ (by rw [List.length_append, hri, toB_len]; omega)
          · have h2 : ((((List.zipWith (fun x y => x && y) (toB n' i) (toB n' j)).count true : Nat) : Int) % 2).natAbs < 2 := by omega
            have : ((((List.zipWith (fun x y => x && y) (toB n' i) (toB n' j)).count true : Nat) : Int) % 2).natAbs.log2 ≤ ((((List.zipWith (fun x y => x && y) (toB n' i) (toB n' j)).count true : Nat) : Int) % 2).natAbs := Nat.log2_le_self _
            omega
          · rw [str_bit, sb_cat, ← str_app_len, sb_cat]
            exact sz _ (by rw [List.length_append, List.length_append, hri, toB_len]; show m + n' + 1 ≤ _; omega)
          · rw [rowV_len, List.length_append, hardMade_len, List.length_map, List.length_range]
            have a1 : i * 2 ^ n' ≤ 32 * 32 := Nat.mul_le_mul (by omega) hp
            exact Nat.lt_of_lt_of_le (show i * 2 ^ n' + j < 10000 by omega) (by decide)
          · rw [upd_ne (ne_of_none e hD)]
            exact s4 b o e
          · rw [upd_same, str_bit, sb_cat, sb_cat, List.range_succ, List.map_append, ← List.append_assoc, rowV_app (hardMade n' rows i ++ _)]
            rfl
        · rintro H4 ⟨s4, e4⟩
          rw [hlr] at e4
          exact ⟨s4, by rw [e4, hardMade_succ]⟩
      · rintro H' ⟨s3, e3⟩
        rw [hlr] at e3
        refine ⟨_, rfl, _, _, rfl, rfl, .inl ⟨by decide, by decide⟩, _, rfl, _, rfl, _, _, rfl, rfl, _, _, rfl, rfl, _, rfl, Dl, _, rfl, .inl ⟨.inl (.inl e3), fun u nu => ⟨(by show 4 ≤ sizeLine; decide), fun g ng => ?_⟩⟩⟩
        have s4 := ((s1.trans s2).trans s3).trans ((same_new nu).trans (same_new (o := .tup [.str "generator", .int (2 * (n' : Int)), .int ((m : Int) + (n' : Int) + 1), .ref u]) ng))
        have e2n : (2 : Int) * (n' : Int) = ((2 * n' : Nat) : Int) := by omega
        have em : (m : Int) + (n' : Int) + 1 = ((m + n' + 1 : Nat) : Int) := by omega
        refine q _ _ s4 (tab_dp (n := 2 * n') (m := m + n' + 1) (r := u) (.inl (.inl ?_)) (.inl (.inl ?_)))
        · rw [upd_same]
          show some (HO.tup [.str "generator", .int (2 * (n' : Int)), .int ((m : Int) + (n' : Int) + 1), .ref u]) = _
          rw [e2n, em]
        · rw [upd_ne (ne_of_none upd_same ng), upd_same]
          rfl

theorem map_int_set (rs : List Int) (j : Nat) (x : Int) : (rs.map V.int).set j (.int x) = (rs.set j x).map V.int := by
  rw [List.map_set]
theorem at_int {rs : List Int} {j : Nat} {z : Int} (h : rs[j]? = some z) : atI (rs.map V.int) ((j : Nat) : Int) = some (.int z) := atI_nat (by
  rw [List.getElem?_map, h]
  rfl)
theorem ok_draws {f : Addr} {fd : FuncData} (D : Df K mg "_law_draws" s_law_draws ["script", "many"] f fd) (T : Txt K mg cs) : FnOk P w K mg base CX0 1 f fd ["script", "many"] (spDraws K) := by
  refine D.fn.ok sc_law_draws (fun vs H Q E h => ?_) (fun cdv A outer s H vs Q E hr h => ?_)
  · obtain ⟨a, ns, many, rfl, _⟩ := h
    rfl
  · obtain ⟨a, ns, many, rfl, hS, hl, hm, q⟩ := h
    refine ⟨_, (pss_cons (ps_setLc (i := 2) (own := [("cell", 5)]) (g := gName 5) (tt := tYes) rfl sc_law_draws.nd rfl rfl (sw_true rfl rfl rfl (by decide +kernel)) (pi_list (pv 0)) (blkOk_by (own := [("cell", 5)]) (N := ["script", "many", "rests", "draws", "k", "cell", "at", "mixed"]) (sc := defScope s_law_draws) (by decide +kernel)) (fun _ _ _ _ _ => (pg_name (i := 5) sc_law_draws.nd rfl (.inl rfl))) (fun _ _ _ _ _ => pts_nil) (fun _ _ _ _ _ => (pe_callB call_abs (by rfl) T.n_abs (by decide +kernel) (pa_cons (pe_callTy call_int1 (by rfl) T.n_int (by decide +kernel) (pa_cons (pv 5) pa_nil)) pa_nil)))) (pss_cons (ps_set (i := 3) sc_law_draws.nd rfl (.inl rfl) (pe_lst pa_nil)) (pss_cons (ps_for PassesOwn.never rfl (pi_range1 (by rfl) T.n_range (pa_cons (pv 1) pa_nil)) (pg_name (i := 4) sc_law_draws.nd rfl (.inl rfl)) (pss_cons (ps_set (i := 5) sc_law_draws.nd rfl (.inl rfl) (pv 4)) (C8.pss_cut (ps_if (pt_cmpR op_gt (pe_callB (lenS K) (by rfl) T.n_len (by decide +kernel) (pa_cons (pv 0) pa_nil)) pe_int (nomark _)) (pss_cons (ps_set (i := 6) sc_law_draws.nd rfl (.inl rfl) (pe_op op_mod (pv 4) (pe_callB (lenS K) (by rfl) T.n_len (by decide +kernel) (pa_cons (pv 0) pa_nil)))) (pss_cons (ps_set (i := 5) sc_law_draws.nd rfl (.inl rfl) (pe_callTy call_int1 (by rfl) T.n_int (by decide +kernel) (pa_cons (pe_ix (ixL K) (pv 0) (pv 6) (fun _ _ => rfl)) pa_nil))) (pss_one (ps_if (PW.pt (pw_and (pt_cmpR op_ge (pv 5) (pe_op op_pow pe_int pe_int) (nomark _)) (pw_and1 (pt_cmpR op_gt (pe_ix (ixL K) (pv 2) (pv 6) (fun _ _ => rfl)) pe_int (nomark _))))) (pss_cons (ps_expr (pe_bm PySem.F.plainAttrs_list PySem.F.slot_list_append PySem.F.type_list_append mt_append (pv 3) (pa_cons (pe_op op_mod (pe_callTy call_int1 (by rfl) T.n_int (by decide +kernel) (pa_cons (pe_ix (ixL K) (pv 2) (pv 6) (fun _ _ => rfl)) pa_nil)) pe_int) pa_nil))) (pss_cons (ps_asg (pe_op op_fdiv (pe_callTy call_int1 (by rfl) T.n_int (by decide +kernel) (pa_cons (pe_ix (ixL K) (pv 2) (pv 6) (fun _ _ => rfl)) pa_nil)) pe_int) (pg_sub (pv 2) (pv 6) set_list)) (pss_one ps_continue))) pss_nil)))) pss_nil) (pss_cons (ps_set (i := 7) sc_law_draws.nd rfl (.inl rfl) (pe_op op_mod (pe_callTy call_int1 (by rfl) T.n_int (by decide +kernel) (pa_cons (pe_op op_add (pe_op op_add (pe_op op_mul (pv 5) pe_int) (pe_op op_mul (pv 4) pe_int)) pe_int) pa_nil)) pe_int)) (pss_cons (ps_set (i := 7) sc_law_draws.nd rfl (.inl rfl) (pe_op op_mod (pe_callTy call_int1 (by rfl) T.n_int (by decide +kernel) (pa_cons (pe_op op_add (pe_op op_fdiv (pe_op op_mul (pv 7) (pv 7)) pe_int) (pv 7)) pa_nil)) pe_int)) (pss_one (ps_expr (pe_bm PySem.F.plainAttrs_list PySem.F.slot_list_append PySem.F.type_list_append mt_append (pv 3) (pa_cons (pe_op op_mod (pe_callTy call_int1 (by rfl) T.n_int (by decide +kernel) (pa_cons (pe_op op_add (pe_op op_fdiv (pe_op op_mul (pv 7) (pv 7)) pe_int) (pe_op op_mul (pv 4) pe_int)) pa_nil)) pe_int) pa_nil))))))))) (pss_one (ps_ret (pv 3)))))), ?_⟩
    -- rests
    refine ⟨_, rfl, a, rfl, ⟨_, hS⟩, fun R hR => ?_⟩
    refine lc_list (xs := ns.map V.int) (fun i H' => ∃ rs : List Int, rs.length = i ∧ (∀ x ∈ rs, 0 ≤ x) ∧ Same H H' ∧ H' R = some (.lst (rs.map V.int))) ?_ ?_ ?_ ?_
    · exact ⟨[], rfl, fun x hx => (nomatch hx), same_new hR, upd_same⟩
    · rintro i H' _ ⟨rs, _, _, hs, _⟩
      exact hs.seq hS
    · rintro i x H' hx ⟨rs, hn, h0, hs, hr'⟩
      obtain ⟨z, hz⟩ : ∃ z, x = V.int z := by
        rw [List.getElem?_map] at hx
        cases e : ns[i]? with
        | none =>
          rw [e] at hx
          cases hx
        | some z =>
          rw [e] at hx
          exact ⟨z, (Option.some.inj hx).symm⟩
      subst hz
      have hi : i < ns.length := by
        have := (List.getElem?_eq_some_iff.mp hx).1
        rw [List.length_map] at this
        exact this
      refine ⟨rfl, ?_⟩
      refine ⟨_, rfl, .inl ⟨_, rfl, _, rfl, _, hr', ?_, ?_⟩⟩
      · rw [List.length_map]
        exact small1000 (by omega)
      · refine ⟨rs ++ [if z < 0 then -z else z], by rw [List.length_append, hn]; rfl, ?_, ?_, ?_⟩
        · intro y hy
          rcases List.mem_append.mp hy with hy | hy
          · exact h0 y hy
          · rw [List.mem_singleton.mp hy]
            split <;> omega
        · intro b o e
          rw [upd_ne (ne_of_none e hR)]
          exact hs b o e
        · rw [upd_same, List.map_append]
          rfl
    · rintro H1 ⟨rs, hn, h0, s1, e1⟩
      rw [List.length_map] at hn
      -- draws = []
      refine ⟨Nat.zero_le _, fun L hL => ?_⟩
      have nRL : R ≠ L := ne_of_none e1 hL
      have hL0 : H L = none := s1.free hL
      -- the loop
      refine ⟨_, rfl, _, rfl, by omega, by omega, for_range (lo := 0) (n := many) (fun i σ H' => ∃ (rs ds : List Int) (y4 y5 y6 y7 : Option V), σ = [some (.ref a), some (.int (many : Int)), some (.ref R), some (.ref L), y4, y5, y6, y7] ∧
        rs.length = ns.length ∧ (∀ x ∈ rs, 0 ≤ x) ∧ ds.length = i ∧ (∀ x ∈ ds, 0 ≤ x) ∧ Same H H' ∧ H' R = some (.lst (rs.map V.int)) ∧ H' L = some (.lst (ds.map V.int))) ?_ ?_ ?_⟩
      · refine ⟨rs, [], none, none, none, none, rfl, hn, h0, rfl, fun x hx => (nomatch hx), s1.trans (same_new hL), ?_, upd_same⟩
        rw [upd_ne nRL]
        exact e1
      · clear e1 hn h0 rs s1 hL
        rintro i σ H' hi ⟨rs, ds, y4, y5, y6, y7, rfl, hn, h0, hd, hd0, s1, e1, e2⟩
        have hSL : SqL K H' a (ns.map V.int) := s1.seq hS
        -- what the rest of the turn asks: a number is put behind the draws
        have put : ∀ (x : Int) (σ' : L2.St) (H2 : Hp) (rs' : List Int), 0 ≤ x → rs'.length = ns.length → (∀ x ∈ rs', 0 ≤ x) → Same H H2 → H2 R = some (.lst (rs'.map V.int)) → H2 L = some (.lst ((ds ++ [x]).map V.int)) →
            (∃ y4 y5 y6 y7 : Option V, σ' = [some (.ref a), some (.int (many : Int)), some (.ref R), some (.ref L), y4, y5, y6, y7]) →
            (fun (i : Nat) (σ : L2.St) (H' : Hp) => ∃ (rs ds : List Int) (y4 y5 y6 y7 : Option V), σ = [some (.ref a), some (.int (many : Int)), some (.ref R), some (.ref L), y4, y5, y6, y7] ∧
              rs.length = ns.length ∧ (∀ x ∈ rs, 0 ≤ x) ∧ ds.length = i ∧ (∀ x ∈ ds, 0 ≤ x) ∧ Same H H' ∧ H' R = some (.lst (rs.map V.int)) ∧ H' L = some (.lst (ds.map V.int))) (i + 1) σ' H2 := by
          rintro x σ' H2 rs' hx g1 g2 g3 g4 g5 ⟨z4, z5, z6, z7, rfl⟩
          refine ⟨rs', ds ++ [x], z4, z5, z6, z7, rfl, g1, g2, by rw [List.length_append, hd]; rfl, ?_, g3, g4, g5⟩
          intro y hy
          rcases List.mem_append.mp hy with hy | hy
          · exact hd0 y hy
          · rw [List.mem_singleton.mp hy]
            exact hx
        have app : ∀ (x : Int), upd H' L (.lst (ds.map V.int ++ [.int x])) R = some (.lst (rs.map V.int)) ∧ Same H (upd H' L (.lst (ds.map V.int ++ [.int x]))) ∧ upd H' L (.lst (ds.map V.int ++ [.int x])) L = some (.lst ((ds ++ [x]).map V.int)) := by
          intro x
          refine ⟨by rw [upd_ne nRL]; exact e1, fun b u e => ?_, ?_⟩
          · rw [upd_ne (ne_of_none e hL0)]
            exact s1 b u e
          · rw [upd_same, List.map_append]
            rfl
        have hsz : (ds.map V.int).length < sizeLine := by
          rw [List.length_map]
          exact Nat.lt_of_lt_of_le (show ds.length < 10000 by omega) (by decide)
        -- cell = k
        refine ⟨_, rfl, ?_⟩
        refine ⟨fun σ2 H2 => H2 = H' ∧ ∃ (c : Int) (y6 : Option V), σ2 = [some (.ref a), some (.int (many : Int)), some (.ref R), some (.ref L), some (.int (0 + (i : Int))), some (.int c), y6, y7], ?_, ?_⟩
        · -- if len(script) > 0
          refine ⟨_, rfl, a, _, rfl, .inl hSL, _, _, rfl, rfl, _, rfl, ite2 (fun c => ?_) (fun c => ?_)⟩
          · have hp : 0 < ns.length := by
              have c' : (0 : Int) < (((ns.map V.int).length : Nat) : Int) := of_decide_eq_true c
              rw [List.length_map] at c'
              omega
            -- at = k % len(script)
            refine ⟨_, rfl, _, rfl, a, _, rfl, .inl hSL, _, _, rfl, rfl, ?_, ?_⟩
            · rw [List.length_map]
              omega
            · obtain ⟨j, hj, hjl⟩ : ∃ j : Nat, (0 + (i : Int)) % (((ns.map V.int).length : Nat) : Int) = (j : Int) ∧ j < ns.length := by
                rw [List.length_map]
                have h1 := Int.emod_nonneg (0 + (i : Int)) (b := (ns.length : Int)) (by omega)
                have h2 := Int.emod_lt_of_pos (0 + (i : Int)) (b := (ns.length : Int)) (by omega)
                exact ⟨((0 + (i : Int)) % (ns.length : Int)).toNat, by omega, by omega⟩
              show gName 6 (V.int ((0 + (i : Int)) % (((ns.map V.int).length : Nat) : Int))) _ _ _
              rw [hj]
              have hx : (ns.map V.int)[j]? = some (.int ns[j]) := by
                rw [List.getElem?_map, List.getElem?_eq_getElem hjl]
                rfl
              have hjr : j < rs.length := by omega
              have hy : (rs.map V.int)[j]? = some (.int rs[j]) := by
                rw [List.getElem?_map, List.getElem?_eq_getElem hjr]
                rfl
              -- cell = int(script[at])
              refine ⟨_, rfl, _, rfl, a, _, (j : Int), _, rfl, rfl, hSL, atI_nat hx, .inl ⟨_, rfl, ?_⟩⟩
              -- if cell >= 10 ** 18 and rests[at] > 0
              refine ⟨_, rfl, _, _, rfl, rfl, ⟨by decide, by decide, by decide⟩, _, _, rfl, rfl, _, rfl, ite2 (fun c => ?_) (fun c => ?_)⟩
              · refine ⟨_, rfl, _, rfl, R, _, (j : Int), _, rfl, rfl, .inl (.inl e1), atI_nat hy, _, _, rfl, rfl, _, rfl, ite2 (fun c => ?_) (fun c => ?_)⟩
                · have hr0 : 0 ≤ rs[j] := h0 _ (List.getElem_mem hjr)
                  -- draws.append(int(rests[at]) % 1000003)
                  refine ⟨_, rfl, .inl ⟨rfl, _, .inl (.inl e2)⟩, _, rfl, _, rfl, R, _, (j : Int), _, rfl, rfl, .inl (.inl e1), atI_nat hy, .inl ⟨_, rfl, _, _, rfl, rfl, (by show (0 : Int) < 1000003; decide), L, _, _, rfl, rfl, e2, hsz, ?_⟩⟩
                  obtain ⟨p1, p2, p3⟩ := app (rs[j] % 1000003)
                  -- rests[at] = int(rests[at]) // 1000003
                  refine ⟨_, rfl, _, rfl, R, _, (j : Int), _, rfl, rfl, .inl (.inl p1), atI_nat hy, .inl ⟨_, rfl, _, _, rfl, rfl, ⟨by decide, by decide⟩, _, rfl, _, rfl, R, _, (j : Int), j, rfl, rfl, p1, ?_, ?_⟩⟩
                  · unfold ixN
                    rw [if_pos (by omega), if_pos (by rw [List.length_map]; omega)]
                    rfl
                  · refine put (rs[j] % 1000003) _ _ (rs.set j (rs[j] / 1000003)) (by omega) (by rw [List.length_set]; exact hn) ?_ ?_ ?_ ?_ ⟨_, _, _, _, rfl⟩
                    · intro y hy'
                      rcases List.mem_or_eq_of_mem_set hy' with z | z
                      · exact h0 y z
                      · rw [z]
                        omega
                    · intro b u e
                      rw [upd_ne (ne_of_none e hR)]
                      exact p2 b u e
                    · rw [upd_same, List.map_set]
                    · rw [upd_ne nRL.symm]
                      exact p3
                · exact ⟨rfl, _, _, rfl⟩
              · exact ⟨rfl, _, _, rfl⟩
          · exact ⟨rfl, _, _, rfl⟩
        · rintro σ2 H2 ⟨rfl, c, z6, rfl⟩
          -- mixed, twice
          refine ⟨_, rfl, _, _, rfl, rfl, .inr ⟨by decide, by decide⟩, _, rfl, _, _, rfl, rfl, .inr ⟨by decide, by decide⟩, _, _, rfl, rfl, _, _, rfl, rfl, .inl ⟨_, rfl, _, _, rfl, rfl, (by show (0 : Int) < 2147483647; decide), ?_⟩⟩
          refine ⟨_, rfl, _, rfl, _, _, rfl, rfl, .inl ⟨?_, ?_⟩, _, _, rfl, rfl, ⟨by decide, by decide⟩, _, rfl, _, _, rfl, rfl, .inl ⟨_, rfl, _, _, rfl, rfl, (by show (0 : Int) < 2147483629; decide), ?_⟩⟩
          · omega
          · omega
          -- draws.append
          refine ⟨_, rfl, .inl ⟨rfl, _, .inl (.inl e2)⟩, _, rfl, _, rfl, _, _, rfl, rfl, .inl ⟨?_, ?_⟩, _, _, rfl, rfl, ⟨by decide, by decide⟩, _, rfl, _, _, rfl, rfl, .inr ⟨by decide, by decide⟩, _, _, rfl, rfl, .inl ⟨_, rfl, _, _, rfl, rfl, (by show (0 : Int) < 2147483629; decide), L, _, _, rfl, rfl, e2, hsz, ?_⟩⟩
          · omega
          · omega
          refine put _ _ _ rs ?_ hn h0 (app _).2.1 (app _).1 (app _).2.2 ⟨_, _, _, _, rfl⟩
          exact Int.emod_nonneg _ (by decide)
      · rintro σ H2 ⟨rs, ds, y4, y5, y6, y7, rfl, hn, h0, hd, hd0, s2, e1, e2⟩
        exact ⟨_, rfl, q L ds H2 hL0 s2 e2 hd0⟩

theorem ok_take {f : Addr} {fd : FuncData} (D : Df K mg "_law_take" s_law_take ["hand", "many"] f fd) (T : Txt K mg cs) : FnOk P w K mg base CX0 1 f fd ["hand", "many"] spTake := by
  refine D.fn.ok sc_law_take (fun vs H Q E h => ?_) (fun cdv A outer s H vs Q E hr h => ?_)
  · obtain ⟨a, d, many, rfl, _⟩ := h
    rfl
  · obtain ⟨a, d, many, rfl, hm, ⟨ds, i, h1, h2, h3, h4⟩, q⟩ := h
    refine ⟨_, (pss_cons (ps_set (i := 2) sc_law_take.nd rfl (.inl rfl) (pe_ix (ixL K) (pv 0) pe_int (fun _ _ => rfl))) (pss_cons (ps_asg (pe_op op_add (pv 2) pe_int) (pg_sub (pv 0) pe_int set_list)) (pss_cons (ps_set (i := 3) sc_law_take.nd rfl (.inl rfl) (pe_ix (ixL K) (pv 0) pe_int (fun _ _ => rfl))) (pss_cons (ps_if (pt_cmpR op_ge (pv 2) (pe_callB (lenS K) (by rfl) T.n_len (by decide +kernel) (pa_cons (pv 3) pa_nil)) (nomark _)) (pss_one (ps_ret pe_int)) pss_nil) (pss_one (ps_ret (pe_op op_mod (pe_op op_fdiv (pe_callTy call_int1 (by rfl) T.n_int (by decide +kernel) (pa_cons (pe_ix (ixL K) (pv 3) (pv 2) (fun _ _ => rfl)) pa_nil)) pe_int) (pv 1)))))))), ?_⟩
    have s1 : Same H H := Same.refl H
    -- at = hand[1]
    refine ⟨_, rfl, a, _, 1, .int (i : Int), rfl, rfl, .inl (.inl h1), rfl, ?_⟩
    -- hand[1] = at + 1
    refine ⟨_, rfl, _, _, rfl, rfl, _, rfl, a, _, 1, 1, rfl, rfl, h1, rfl, ?_⟩
    -- draws = hand[0]
    refine ⟨_, rfl, a, _, 0, .ref d, rfl, rfl, .inl (.inl upd_same), rfl, ?_⟩
    have hd : (upd H a (.lst [.ref d, .int ((i : Int) + 1)])) d = some (.lst (ds.map V.int)) := by
      rw [upd_ne h4]
      exact h2
    have hn : Hnd (upd H a (.lst [.ref d, .int ((i : Int) + 1)])) a d := ⟨ds, i + 1, upd_same, hd, h3, h4⟩
    have hk : Keep a H (upd H a (.lst [.ref d, .int ((i : Int) + 1)])) := fun b o e n => by
      rw [upd_ne n]
      exact e
    -- at >= len(draws)
    refine ⟨_, rfl, _, rfl, d, _, rfl, .inl (.inl (.inl hd)), _, _, rfl, rfl, _, rfl, ite2 (fun c => ?_) (fun c => ?_)⟩
    · exact q 0 _ (Int.le_refl 0) hm hn hk
    · have hi : i < ds.length := by
        have c' : ¬ (((ds.map V.int).length : Int) ≤ (i : Int)) := fun z => c (decide_eq_true z)
        rw [List.length_map] at c'
        omega
      have hx : (ds.map V.int)[i]? = some (.int ds[i]) := by
        rw [List.getElem?_map, List.getElem?_eq_getElem hi]
        rfl
      have h0 := h3 ds[i] (List.getElem_mem hi)
      refine ⟨_, rfl, _, rfl, d, _, (i : Int), .int ds[i], rfl, rfl, .inl (.inl hd), atI_nat hx, .inl ⟨_, rfl, ?_⟩⟩
      refine ⟨_, _, rfl, rfl, ⟨by decide, by decide⟩, _, rfl, _, _, rfl, rfl, hm, ?_⟩
      exact q _ _ (Int.emod_nonneg _ (by omega)) (Int.emod_lt_of_pos _ hm) hn hk

theorem join_bits (bs : List Bool) : Txt.join "" (bs.map fun b => sb [b]) = sb bs := by
  have e : bs.map (fun b => sb [b]) = (bs.map fun b => [cB b]).map SX.S := by
    rw [List.map_map]
    rfl
  have j : ∀ ps : List (List Nat), TL.joinL [] ps = ps.flatten := by
    intro ps
    induction ps with
    | nil => rfl
    | cons x r ih =>
      cases r with
      | nil => exact (List.append_nil x).symm
      | cons y r =>
        show x ++ ([] ++ TL.joinL [] (y :: r)) = x ++ (y :: r).flatten
        rw [ih, List.nil_append]
  rw [e]
  refine (SX.join_S [] _).trans ?_
  rw [j]
  unfold sb
  congr 1
  clear e j
  induction bs with
  | nil => rfl
  | cons b bs ih =>
    rw [List.map_cons, List.flatten_cons, ih]
    rfl
theorem ok_string {f : Addr} {fd : FuncData} (D : Df K mg "_law_string" s_law_string ["hand", "length"] f fd) (T : Txt K mg cs) (c_law_take : Cl P w K mg base CX0 1 "_law_take" spTake) : FnOk P w K mg base CX0 2 f fd ["hand", "length"] spString := by
  refine D.fn.ok sc_law_string (fun vs H Q E h => ?_) (fun cdv A outer s H vs Q E hr h => ?_)
  · obtain ⟨a, d, n, rfl, _⟩ := h
    rfl
  · obtain ⟨a, d, n, rfl, hn, hh, q⟩ := h
    refine ⟨_, (pss_one (ps_ret (pe_m1 PySem.F.slot_str_join PySem.F.type_str_join (mtJoin K) pe_str (pe_lc (own := [("k", 2)]) (g := gName 2) (tt := tYes) rfl sc_law_string.nd (pi_range1 (by rfl) T.n_range (pa_cons (pv 1) pa_nil)) (blkOk_by (own := [("k", 2)]) (N := ["hand", "length", "k"]) (sc := defScope s_law_string) (by decide +kernel)) (fun _ _ _ _ _ => (pg_name (i := 2) sc_law_string.nd rfl (.inl rfl))) (fun _ _ _ _ _ => pts_nil) (fun _ _ _ _ _ => (pe_ix (ixL K) (pe_lst (pa_cons pe_str (pa_cons pe_str pa_nil))) (pe_cl c_law_take hr (by first | decide | omega) (by rfl) (pa_cons (pv 0) (pa_cons pe_int pa_nil))) (fun _ _ => rfl))))))), ?_⟩
    refine ⟨⟨_, rfl⟩, _, rfl, _, rfl, by omega, by omega, fun Dl hD => ?_⟩
    obtain ⟨nDa, nDd⟩ := hh.ne hD
    refine lc_range (lo := 0) (n := n) (fun i H' => ∃ bs : List Bool, bs.length = i ∧ Hnd H' a d ∧ Keep a H H' ∧ H' Dl = some (.lst (bs.map fun b => V.str (sb [b])))) ?_ ?_ ?_
    · exact ⟨[], rfl, hh.new hD, Keep.new hD, upd_same⟩
    · rintro i H' hi ⟨bs, hl, h1, h2, h3⟩
      refine ⟨rfl, ?_⟩
      -- the list ['0', '1'], then the draw
      refine ⟨by decide, fun p np => ?_⟩
      obtain ⟨npa, npd⟩ := h1.ne np
      refine ⟨_, rfl, a, d, 2, rfl, by decide, h1.new np, fun r H2 hr0 hr2 hh2 hk2 => ?_⟩
      have e2 : H2 Dl = some (.lst (bs.map fun b => V.str (sb [b]))) := hk2 _ _ (by rw [upd_ne (ne_of_none h3 np)]; exact h3) nDa
      have hb : ∃ b : Bool, atI [V.str "0", V.str "1"] r = some (V.str (sb [b])) := by
        have er : r = 0 ∨ r = 1 := by omega
        rcases er with e | e <;> subst e
        · exact ⟨false, rfl⟩
        · exact ⟨true, rfl⟩
      obtain ⟨b, hb⟩ := hb
      refine ⟨p, _, r, _, rfl, rfl, .inl (.inl (hk2 _ _ upd_same npa)), hb, _, e2, ?_, ?_⟩
      · rw [List.length_map]
        exact Nat.lt_of_lt_of_le (show bs.length < 10000 by omega) (by decide)
      · refine ⟨bs ++ [b], by rw [List.length_append, hl]; rfl, hh2.set nDa nDd, ((h2.trans (Keep.new np)).trans hk2).set hD, ?_⟩
        rw [upd_same, List.map_append]
        rfl
    · rintro H' ⟨bs, hl, h1, h2, h3⟩
      refine ⟨_, Dl, bs.map (fun b => sb [b]), rfl, rfl, .inl (.inl (.inl (by rw [List.map_map]; exact h3))), ?_, ?_⟩
      · have e : ((bs.map fun b => sb [b]).map (·.length)).sum = bs.length := by
          rw [List.map_map]
          clear h3 hl
          induction bs with
          | nil => rfl
          | cons b bs ih =>
            rw [List.map_cons, List.sum_cons, ih, List.length_cons]
            show 1 + _ = _
            omega
        rw [e]
        show _ + _ * 0 ≤ _
        omega
      · rw [join_bits]
        exact q bs H' hl h1 h2

theorem ok_table {f : Addr} {fd : FuncData} (D : Df K mg "_law_table" s_law_table ["hand", "n", "m"] f fd) (T : Txt K mg cs) (c_law_string : Cl P w K mg base CX0 2 "_law_string" spString) : FnOk P w K mg base CX0 3 f fd ["hand", "n", "m"] (spTable K) := by
  refine D.fn.ok sc_law_table (fun vs H Q E h => ?_) (fun cdv A outer s H vs Q E hr h => ?_)
  · obtain ⟨a, d, n, m, rfl, _⟩ := h
    rfl
  · obtain ⟨a, d, n, m, rfl, hn, hm, hh, q⟩ := h
    refine ⟨_, (pss_cons (ps_setLc (i := 3) (own := [("k", 4)]) (g := gName 4) (tt := tYes) rfl sc_law_table.nd rfl rfl (sw_true rfl rfl rfl (by decide +kernel)) (pi_range1 (by rfl) T.n_range (pa_cons (pe_op op_shl pe_int (pv 1)) pa_nil)) (blkOk_by (own := [("k", 4)]) (N := ["hand", "n", "m", "rows", "k"]) (sc := defScope s_law_table) (by decide +kernel)) (fun _ _ _ _ _ => (pg_name (i := 4) sc_law_table.nd rfl (.inl rfl))) (fun _ _ _ _ _ => pts_nil) (fun _ _ _ _ _ => (pe_cl c_law_string hr (by first | decide | omega) (by rfl) (pa_cons (pv 0) (pa_cons (pv 2) pa_nil))))) (pss_one (ps_ret (pe_tup (pa_cons pe_str (pa_cons (pv 1) (pa_cons (pv 2) (pa_cons (pe_callTy (tupOf K) (by rfl) T.n_tuple (by decide +kernel) (pa_cons (pv 3) pa_nil)) pa_nil)))))))), ?_⟩
    have hp : 2 ^ n ≤ 256 := two_pow_le (b := 8) hn
    refine ⟨_, rfl, _, _, rfl, rfl, ⟨by omega, by omega, by decide⟩, _, rfl, ?_⟩
    rw [shl_one]
    generalize hN : 2 ^ n = N at hp ⊢
    refine ⟨by omega, by omega, fun Dl hD => ?_⟩
    obtain ⟨nDa, nDd⟩ := hh.ne hD
    refine lc_range (lo := 0) (n := _) (fun i H' => ∃ rows : List (List Bool), rows.length = i ∧ (∀ r ∈ rows, r.length = m) ∧ Hnd H' a d ∧ Keep a H H' ∧ H' Dl = some (.lst (rows.map fun r => V.str (sb r)))) ?_ ?_ ?_
    · exact ⟨[], rfl, fun r hr => (nomatch hr), hh.new hD, Keep.new hD, upd_same⟩
    · rintro i H' hi ⟨rows, hl, hr, h1, h2, h3⟩
      refine ⟨rfl, ?_⟩
      refine ⟨_, rfl, _, rfl, a, d, m, rfl, by omega, h1, fun bs H2 hb hh2 hk2 => ⟨_, hk2 _ _ h3 nDa, ?_, ?_⟩⟩
      · rw [List.length_map]
        exact Nat.lt_of_lt_of_le (show rows.length < 10000 by omega) (by decide)
      · refine ⟨rows ++ [bs], by rw [List.length_append, hl]; rfl, ?_, hh2.set nDa nDd, (h2.trans hk2).set hD, ?_⟩
        · intro r hr'
          rcases List.mem_append.mp hr' with z | z
          · exact hr r z
          · rw [List.mem_singleton.mp z]
            exact hb
        · rw [upd_same, List.map_append]
          rfl
    · rintro H' ⟨rows, hl, hr, h1, h2, h3⟩
      have hl2 : rows.length = 2 ^ n := by
        rw [hl, hN]
        omega
      refine ⟨_, rfl, _, rfl, _, rfl, Dl, _, rfl, .inl ⟨.inl (.inl h3), fun l hl' => ⟨(by show 4 ≤ sizeLine; decide), fun p np => ?_⟩⟩⟩
      have hl1 := h1.ne hl'
      have h1' := h1.new (o := .tup (rows.map fun r => V.str (sb r))) hl'
      have hp1 := h1'.ne np
      refine q _ rows _ hl2 hr ?_ (h1'.new np) ((h2.trans (Keep.new hl')).trans (Keep.new np))
      have e1 : off a (upd (upd H' l (.tup (rows.map fun r => V.str (sb r)))) p (.tup [.str "generator", .int (n : Int), .int (m : Int), .ref l])) p = some (.tup [.str "generator", .int (n : Int), .int (m : Int), .ref l]) := by
        rw [off_ne hp1.1, upd_same]
      have e2 : off a (upd (upd H' l (.tup (rows.map fun r => V.str (sb r)))) p (.tup [.str "generator", .int (n : Int), .int (m : Int), .ref l])) l = some (.tup (rows.map fun r => V.str (sb r))) := by
        rw [off_ne hl1.1, upd_ne (ne_of_none upd_same np), upd_same]
      exact .tup (.inl (.inl e1)) (.cons (.str _) (.cons (.int _) (.cons (.int _) (.cons (.tup (.inl (.inl e2)) (dp_bits rows)) .nil))))
theorem ok_function {f : Addr} {fd : FuncData} (D : Df K mg "_law_function" s_law_function ["hand", "n", "l", "m"] f fd) (T : Txt K mg cs) (c_law_string : Cl P w K mg base CX0 2 "_law_string" spString) : FnOk P w K mg base CX0 3 f fd ["hand", "n", "l", "m"] (spFunction K) := by
  refine D.fn.ok sc_law_function (fun vs H Q E h => ?_) (fun cdv A outer s H vs Q E hr h => ?_)
  · obtain ⟨a, d, n, l, m, rfl, _⟩ := h
    rfl
  · obtain ⟨a, d, n, l, m, rfl, hn, hl, hm, hh, q⟩ := h
    refine ⟨_, (pss_cons (ps_set (i := 4) sc_law_function.nd rfl (.inl rfl) (pe_lst pa_nil)) (pss_cons (ps_for PassesOwn.never rfl (pi_range1 (by rfl) T.n_range (pa_cons (pe_op op_shl pe_int (pv 1)) pa_nil)) (pg_name (i := 5) sc_law_function.nd rfl (.inl rfl)) (pss_one (ps_expr (pe_bm PySem.F.plainAttrs_list PySem.F.slot_list_append PySem.F.type_list_append mt_append (pv 4) (pa_cons (pe_callTy (tupOf K) (by rfl) T.n_tuple (by decide +kernel) (pa_cons (pe_lc (own := [("k", 6)]) (g := gName 6) (tt := tYes) rfl sc_law_function.nd (pi_range1 (by rfl) T.n_range (pa_cons (pe_op op_shl pe_int (pv 2)) pa_nil)) (blkOk_by (own := [("k", 6)]) (N := ["hand", "n", "l", "m", "rows", "key", "k"]) (sc := defScope s_law_function) (by decide +kernel)) (fun _ _ _ _ _ => (pg_name (i := 6) sc_law_function.nd rfl (.inl rfl))) (fun _ _ _ _ _ => pts_nil) (fun _ _ _ _ _ => (pe_cl c_law_string hr (by first | decide | omega) (by rfl) (pa_cons (pv 0) (pa_cons (pv 3) pa_nil))))) pa_nil)) pa_nil))))) (pss_one (ps_ret (pe_tup (pa_cons pe_str (pa_cons (pv 1) (pa_cons (pv 2) (pa_cons (pv 3) (pa_cons (pe_callTy (tupOf K) (by rfl) T.n_tuple (by decide +kernel) (pa_cons (pv 4) pa_nil)) pa_nil)))))))))), ?_⟩
    have hp : 2 ^ n ≤ 256 := two_pow_le (b := 8) hn
    have hpl : 2 ^ l ≤ 256 := two_pow_le (b := 8) hl
    refine ⟨Nat.zero_le _, fun R hR => ?_⟩
    obtain ⟨nRa, nRd⟩ := hh.ne hR
    refine ⟨_, rfl, _, _, rfl, rfl, ⟨by omega, by omega, by decide⟩, _, rfl, ?_⟩
    rw [shl_one]
    generalize hN : 2 ^ n = N at hp ⊢
    refine ⟨by omega, by omega, for_range (lo := 0) (n := _) (fun i σ H' => ∃ (y5 y6 : Option V) (ws : List V) (tabs : List (List (List Bool))), σ = [some (.ref a), some (.int (n : Int)), some (.int (l : Int)), some (.int (m : Int)), some (.ref R), y5, y6] ∧ tabs.length = i ∧
      (∀ rows ∈ tabs, rows.length = 2 ^ l ∧ ∀ r ∈ rows, r.length = m) ∧ ws.length = i ∧ DpAll K (off R (off a H')) ws (tabs.map rowsD) ∧ Hnd H' a d ∧ Keep a H H' ∧ H' R = some (.lst ws)) ?_ ?_ ?_⟩
    · exact ⟨none, none, [], [], rfl, rfl, fun r hr => (nomatch hr), rfl, DpAll.nil, hh.new hR, Keep.new hR, upd_same⟩
    · rintro i σ H' hi ⟨y5, y6, ws, tabs, rfl, ht, hts, hws, hdp, h1, h2, h3⟩
      refine ⟨_, rfl, .inl ⟨rfl, _, .inl (.inl h3)⟩, ?_⟩
      refine ⟨_, rfl, _, _, rfl, rfl, ⟨by omega, by omega, by decide⟩, _, rfl, ?_⟩
      rw [shl_one]
      generalize hL : 2 ^ l = L at hpl ⊢
      refine ⟨by omega, by omega, fun Dl hD => ?_⟩
      obtain ⟨nDa, nDd⟩ := h1.ne hD
      have nDR : Dl ≠ R := (ne_of_none h3 hD).symm
      refine lc_range (lo := 0) (n := _) (fun j H2 => ∃ rows : List (List Bool), rows.length = j ∧ (∀ r ∈ rows, r.length = m) ∧ Hnd H2 a d ∧ Keep a H' H2 ∧ H2 R = some (.lst ws) ∧ H2 Dl = some (.lst (rows.map fun r => V.str (sb r)))) ?_ ?_ ?_
      · exact ⟨[], rfl, fun r hr => (nomatch hr), h1.new hD, Keep.new hD, by rw [upd_ne nDR.symm]; exact h3, upd_same⟩
      · rintro j H2 hj ⟨rows, hl', hr, g1, g2, g3, g4⟩
        refine ⟨rfl, ?_⟩
        refine ⟨_, rfl, _, rfl, a, d, m, rfl, by omega, g1, fun bs H3 hb hh3 hk3 => ⟨_, hk3 _ _ g4 nDa, ?_, ?_⟩⟩
        · rw [List.length_map]
          exact Nat.lt_of_lt_of_le (show rows.length < 10000 by omega) (by decide)
        · refine ⟨rows ++ [bs], by rw [List.length_append, hl']; rfl, ?_, hh3.set nDa nDd, (g2.trans hk3).set hD, ?_, ?_⟩
          · intro r hr'
            rcases List.mem_append.mp hr' with z | z
            · exact hr r z
            · rw [List.mem_singleton.mp z]
              exact hb
          · rw [upd_ne nDR.symm]
            exact hk3 _ _ g3 nRa
          · rw [upd_same, List.map_append]
            rfl
      · rintro H2 ⟨rows, hl', hr, g1, g2, g3, g4⟩
        have hl2 : rows.length = 2 ^ l := by
          rw [hl', hL]
          omega
        refine ⟨Dl, _, rfl, .inl ⟨.inl (.inl g4), fun t nt => ⟨R, ws, _, rfl, rfl, ?_, ?_, ?_⟩⟩⟩
        · rw [upd_ne (ne_of_none g3 nt)]
          exact g3
        · exact Nat.lt_of_lt_of_le (show ws.length < 10000 by omega) (by decide)
        · obtain ⟨nta, ntd⟩ := g1.ne nt
          have ntR : t ≠ R := (ne_of_none g3 nt).symm
          have kk : Keep a H' (upd H2 t (.tup (rows.map fun r => V.str (sb r)))) := g2.trans (Keep.new nt)
          refine ⟨_, _, ws ++ [.ref t], tabs ++ [rows], rfl, by rw [List.length_append, ht]; rfl, ?_, by rw [List.length_append, hws]; rfl, ?_, (g1.new nt).set nRa nRd, (h2.trans kk).set hR, upd_same⟩
          · intro rows' hr'
            rw [← hL]
            rcases List.mem_append.mp hr' with z | z
            · exact hts _ z
            · rw [List.mem_singleton.mp z]
              exact ⟨hl2, hr⟩
          · rw [off_upd, List.map_append]
            refine dpAll_snoc (dps_same (off_mono kk.off) _ hdp) ?_
            refine .tup (.inl (.inl ?_)) (dp_bits rows)
            rw [off_ne ntR, off_ne nta, upd_same]
    · rintro σ H' ⟨y5, y6, ws, tabs, rfl, ht, hts, hws, hdp, h1, h2, h3⟩
      have hl2 : tabs.length = 2 ^ n := by
        rw [ht, hN]
        omega
      refine ⟨_, rfl, _, rfl, _, rfl, _, rfl, R, _, rfl, .inl ⟨.inl (.inl h3), fun t nt => ⟨(by show 5 ≤ sizeLine; decide), fun p np => ?_⟩⟩⟩
      have ht1 := h1.ne nt
      have h1' := h1.new (o := .tup ws) nt
      have hp1 := h1'.ne np
      refine q _ tabs _ hl2 hts ?_ (h1'.new np) ((h2.trans (Keep.new nt)).trans (Keep.new np))
      have e1 : off a (upd (upd H' t (.tup ws)) p (.tup [.str "function", .int (n : Int), .int (l : Int), .int (m : Int), .ref t])) p = some (.tup [.str "function", .int (n : Int), .int (l : Int), .int (m : Int), .ref t]) := by
        rw [off_ne hp1.1, upd_same]
      have e2 : off a (upd (upd H' t (.tup ws)) p (.tup [.str "function", .int (n : Int), .int (l : Int), .int (m : Int), .ref t])) t = some (.tup ws) := by
        rw [off_ne ht1.1, upd_ne (ne_of_none upd_same np), upd_same]
      have e3 : Same (off R (off a H')) (off a (upd (upd H' t (.tup ws)) p (.tup [.str "function", .int (n : Int), .int (l : Int), .int (m : Int), .ref t]))) := fun b o e => (((Keep.new nt).trans (Keep.new np)).off) b o (off_same R _ b o e)
      exact .tup (.inl (.inl e1)) (.cons (.str _) (.cons (.int _) (.cons (.int _) (.cons (.int _) (.cons (.tup (.inl (.inl e2)) (dps_same e3 _ hdp)) .nil)))))

theorem ok_lawbits {f : Addr} {fd : FuncData} (D : Df K mg "_law_bits" s_law_bits ["length", "number"] f fd) (T : Txt K mg cs) : FnOk P w K mg base CX0 1 f fd ["length", "number"] spBits := by
  refine D.fn.ok sc_law_bits (fun vs H Q E h => ?_) (fun cdv A outer s H vs Q E hr h => ?_)
  · obtain ⟨n, k, rfl, _⟩ := h
    rfl
  · obtain ⟨n, k, rfl, hn, hk, q⟩ := h
    refine ⟨_, (pss_cons (ps_set (i := 2) sc_law_bits.nd rfl (.inl rfl) pe_str) (pss_cons (ps_for PassesOwn.never rfl (pi_range1 (by rfl) T.n_range (pa_cons (pv 0) pa_nil)) (pg_name (i := 3) sc_law_bits.nd rfl (.inl rfl)) (pss_cons (ps_set (i := 2) sc_law_bits.nd rfl (.inl rfl) (pe_op op_add_str (pe_callTy call_str_int (by rfl) T.n_str (by decide +kernel) (pa_cons (pe_op op_mod (pe_callTy call_int1 (by rfl) T.n_int (by decide +kernel) (pa_cons (pv 1) pa_nil)) pe_int) pa_nil)) (pv 2))) (pss_one (ps_set (i := 1) sc_law_bits.nd rfl (.inl rfl) (pe_op op_fdiv (pv 1) pe_int))))) (pss_one (ps_ret (pv 2))))), ?_⟩
    refine ⟨_, rfl, _, rfl, by omega, by omega, for_range (lo := 0) (n := n) (fun i σ H' => ∃ (j : Nat) (r : List Bool) (y : Option V), σ = [some (.int (n : Int)), some (.int (j : Int)), some (.str (sb r)), y] ∧ r.length = i ∧ i ≤ n ∧ toB n k = toB (n - i) j ++ r ∧ H' = H) ?_ ?_ ?_⟩
    · exact ⟨k, [], none, rfl, rfl, Nat.zero_le _, (List.append_nil _).symm, rfl⟩
    · rintro i σ H' hi ⟨j, r, y, rfl, hl, hin, he, rfl⟩
      refine ⟨_, rfl, .inl ⟨_, rfl, _, _, rfl, rfl, (by show (0 : Int) < 2; decide), _, rfl, ?_, _, rfl, _, _, rfl, rfl, ?_, ?_⟩⟩
      · have h2 : ((j : Int) % 2).natAbs < 2 := by omega
        have : ((j : Int) % 2).natAbs.log2 ≤ ((j : Int) % 2).natAbs := Nat.log2_le_self _
        omega
      · rw [str_bit, sb_len, sb_len, sizeLine_eq]
        show 1 + r.length ≤ 16777216
        omega
      · refine ⟨_, rfl, _, _, rfl, rfl, ⟨by decide, by decide⟩, j / 2, [j % 2 == 1] ++ r, some (.int (0 + (i : Int))), ?_, ?_, by omega, ?_, rfl⟩
        · rw [str_bit, sb_cat]
          rfl
        · rw [List.length_append, hl]
          exact Nat.add_comm _ _
        · rw [he, show n - i = (n - (i + 1)) + 1 by omega]
          show toB (n - (i + 1)) (j / 2) ++ [j % 2 == 1] ++ r = _
          rw [List.append_assoc]
    · rintro σ H' ⟨j, r, y, rfl, hl, hin, he, rfl⟩
      have e : toB n k = r := by
        rw [he, Nat.sub_self]
        rfl
      rw [e] at q
      exact ⟨_, rfl, q⟩

theorem ok_lawnum {f : Addr} {fd : FuncData} (D : Df K mg "_law_number" s_law_number ["string"] f fd) (T : Txt K mg cs) : FnOk P w K mg base CX0 1 f fd ["string"] spNumber := by
  refine D.fn.ok sc_law_number (fun vs H Q E h => ?_) (fun cdv A outer s H vs Q E hr h => ?_)
  · obtain ⟨bs, rfl, _⟩ := h
    rfl
  · obtain ⟨bs, rfl, hl, q⟩ := h
    refine ⟨_, (pss_cons (ps_set (i := 1) sc_law_number.nd rfl (.inl rfl) pe_int) (pss_cons (ps_for PassesOwn.never rfl (pi_str (pv 0)) (pg_name (i := 2) sc_law_number.nd rfl (.inl rfl)) (pss_one (ps_set (i := 1) sc_law_number.nd rfl (.inl rfl) (pe_op op_add (pe_op op_mul pe_int (pv 1)) (pe_callTy call_int_str (by rfl) T.n_int (by decide +kernel) (pa_cons (pv 2) pa_nil)))))) (pss_one (ps_ret (pv 1))))), ?_⟩
    refine ⟨_, rfl, _, rfl, for_text (fun i σ H' => ∃ y2 : Option V, σ = [some (.str (sb bs)), some (.int ((val (bs.take i) : Nat) : Int)), y2] ∧ H' = H) ?_ ?_ ?_⟩
    · exact ⟨none, rfl, rfl⟩
    · rintro i c σ H' hc ⟨y2, rfl, rfl⟩
      obtain ⟨hi, rfl⟩ := sb_at hc
      have ei : PySem.intText? ⟨#[cB bs[i]]⟩ = some ((bit bs[i] : Nat) : Int) := by
        cases bs[i] <;> decide +kernel
      refine ⟨_, rfl, _, _, rfl, rfl, .inl ⟨by decide, by decide⟩, _, rfl, _, _, rfl, ei, (by show 1 ≤ 640; decide), _, _, rfl, rfl, some (.str ⟨#[cB bs[i]]⟩), ?_, rfl⟩
      show [_, some (V.int _), _] = _
      rw [val_take bs i hi]
      rw [show (2 : Int) * ((val (bs.take i) : Nat) : Int) + ((bit bs[i] : Nat) : Int) = ((2 * val (bs.take i) + bit bs[i] : Nat) : Int) by omega]
    · rintro σ H' ⟨y2, rfl, rfl⟩
      have es : (sb bs).cps.size = bs.length := sb_len bs
      rw [List.take_of_length_le (Nat.le_of_eq es.symm)]
      exact ⟨_, rfl, q⟩
theorem same_step {f : Addr} {fd : FuncData} (D : Df K mg "_law_same" s_law_same ["found", "due"] f fd) (T : Txt K mg cs) (j : Nat) (c_law_same : Cl P w K mg base CX0 (j + 1) "_law_same" (spSameB K j)) : FnOk P w K mg base CX0 (j + 2) f fd ["found", "due"] (spSame K j) := by
  refine D.fn.ok sc_law_same (fun vs H Q E h => ?_) (fun cdv A outer s H vs Q E hr h => ?_)
  · obtain ⟨v, w', d, rfl, _⟩ := h
    rfl
  · obtain ⟨v, w', d, rfl, hv, hw, hp, q⟩ := h
    refine ⟨_, (pss_cons (ps_if (pt_val (pe_callB (isiK K) (by rfl) T.n_isinstance (by decide +kernel) (pa_cons (pv 1) (pa_cons (pe_ty "tuple" (by rfl) T.n_tuple (by decide +kernel)) pa_nil)))) (pss_cons (ps_if (PW.pt (pw_or (pt_not (pt_val (pe_callB (isiK K) (by rfl) T.n_isinstance (by decide +kernel) (pa_cons (pv 0) (pa_cons (pe_ty "tuple" (by rfl) T.n_tuple (by decide +kernel)) pa_nil))))) (pw_or1 (pt_cmpR op_ne (pe_callB (lenS K) (by rfl) T.n_len (by decide +kernel) (pa_cons (pv 0) pa_nil)) (pe_callB (lenS K) (by rfl) T.n_len (by decide +kernel) (pa_cons (pv 1) pa_nil)) (nomark _))))) (pss_one (ps_ret pe_bl)) pss_nil) (pss_cons (ps_for PassesOwn.never rfl (pi_range1 (by rfl) T.n_range (pa_cons (pe_callB (lenS K) (by rfl) T.n_len (by decide +kernel) (pa_cons (pv 1) pa_nil)) pa_nil)) (pg_name (i := 2) sc_law_same.nd rfl (.inl rfl)) (pss_one (ps_if (pt_not (pt_val (pe_cl c_law_same hr (by first | decide | omega) (by rfl) (pa_cons (pe_ix (ixT K) (pv 0) (pv 2) (fun _ _ => rfl)) (pa_cons (pe_ix (ixT K) (pv 1) (pv 2) (fun _ _ => rfl)) pa_nil))))) (pss_one (ps_ret pe_bl)) pss_nil))) (pss_one (ps_ret pe_bl)))) pss_nil) (pss_cons (ps_if (pt_val (pe_callB (isiK K) (by rfl) T.n_isinstance (by decide +kernel) (pa_cons (pv 1) (pa_cons (pe_ty "str" (by rfl) T.n_str (by decide +kernel)) pa_nil)))) (pss_one (ps_ret (pe_and (pe_callB (isiK K) (by rfl) T.n_isinstance (by decide +kernel) (pa_cons (pv 0) (pa_cons (pe_ty "str" (by rfl) T.n_str (by decide +kernel)) pa_nil))) (pe_one (pe_cmpR op_eq (pv 0) (pv 1) (nomark _)))))) pss_nil) (pss_one (ps_ret (pe_and (pe_callB (isiK K) (by rfl) T.n_isinstance (by decide +kernel) (pa_cons (pv 0) (pa_cons (pe_ty "int" (by rfl) T.n_int (by decide +kernel)) pa_nil))) (pe_and (pe_not (pe_callB (isiK K) (by rfl) T.n_isinstance (by decide +kernel) (pa_cons (pv 0) (pa_cons (pe_ty "bool" (by rfl) T.n_bool (by decide +kernel)) pa_nil)))) (pe_one (pe_cmpR op_eq (pv 0) (pv 1) (nomark _))))))))), ?_⟩
    refine ⟨_, rfl, _, _, _, _, _, rfl, .ty "tuple", dp_ty hw, kit_tup d, _, rfl, ?_⟩
    cases d with
    | tuple xs =>
      obtain ⟨hl, j', rfl, hx⟩ := pl_tup hp
      have hv0 := hv
      cases hv with
      | @tup a us _ hT hA =>
        cases hw with
        | @tup b ws _ hS hB =>
          have hlu := dp_all_len hA
          have hlw := dp_all_len hB
          refine ⟨_, rfl, _, _, _, _, _, rfl, .ty "tuple", dp_ty hv0, kit_tup _, _, rfl, ?_⟩
          refine ⟨_, rfl, a, us, rfl, .inr hT, _, rfl, b, ws, rfl, .inr hS, rfl, _, rfl, ?_⟩
          rw [decide_eq_true (show V.int ((us.length : Nat) : Int) = V.int ((ws.length : Nat) : Int) from congrArg V.int (by omega))]
          refine ⟨_, rfl, b, ws, rfl, .inr hS, ?_⟩
          refine ⟨_, rfl, by omega, by omega, for_range (lo := 0) (n := ws.length) (fun i σ H' => (∃ y2 : Option V, σ = [some (.ref a), some (.ref b), y2]) ∧ H' = H) ?_ ?_ ?_⟩
          · exact ⟨⟨none, rfl⟩, rfl⟩
          · rintro i σ H' hi ⟨⟨y2, rfl⟩, rfl⟩
            have hiu : i < us.length := by omega
            have hix : i < xs.length := by omega
            obtain ⟨d1, hd1, hx1⟩ := dp_all_get hA (List.getElem?_eq_getElem hiu)
            obtain ⟨d2, hd2, hx2⟩ := dp_all_get hB (List.getElem?_eq_getElem hi)
            have e12 : d1 = d2 := Option.some.inj (hd1.symm.trans hd2)
            subst e12
            have ei : ((0 : Int) + (i : Int)) = ((i : Nat) : Int) := Int.zero_add _
            rw [ei]
            refine ⟨_, rfl, _, rfl, a, us, _, us[i], rfl, rfl, hT, atI_nat (List.getElem?_eq_getElem hiu), _, rfl, _, rfl, b, ws, _, ws[i], rfl, rfl, hS, atI_nat (List.getElem?_eq_getElem hi), by omega, us[i], ws[i], d1, rfl, hx1, hx2, hx d1 (List.mem_of_getElem? hd1), _, rfl, ?_⟩
            exact ⟨⟨_, rfl⟩, rfl⟩
          · rintro σ H' ⟨⟨y2, rfl⟩, rfl⟩
            exact q
    | str x =>
      refine ⟨_, rfl, _, _, _, _, _, rfl, .ty "str", dp_ty hw, kit_str _, _, rfl, ?_⟩
      refine ⟨_, rfl, _, _, _, _, _, rfl, .ty "str", dp_ty hv, kit_str _, _, rfl, ?_⟩
      cases hv
      cases hw
      refine ⟨_, rfl, _, rfl, rfl, ?_⟩
      rw [decide_eq_true rfl]
      exact q
    | int i =>
      refine ⟨_, rfl, _, _, _, _, _, rfl, .ty "str", dp_ty hw, kit_str _, _, rfl, ?_⟩
      refine ⟨_, rfl, _, _, _, _, _, rfl, .ty "int", dp_ty hv, kit_int _, _, rfl, ?_⟩
      refine ⟨_, rfl, _, _, _, _, _, rfl, .ty "bool", dp_ty hv, kit_bool _, _, rfl, _, rfl, ?_⟩
      cases hv
      cases hw
      refine ⟨_, rfl, _, rfl, rfl, ?_⟩
      rw [decide_eq_true rfl]
      exact q
    | bool b => cases j <;> exact hp.elim
    | none => cases j <;> exact hp.elim
    | list xs => cases j <;> exact hp.elim
    | dict xs => cases j <;> exact hp.elim
theorem no_same {f : Addr} {fd : FuncData} (k : Nat) : FnOk P w K mg base CX0 k f fd ["found", "due"] (spSameB K 0) :=
  ⟨fun _ _ _ _ h => absurd h.1 (by decide), fun _ _ _ _ _ _ _ _ _ _ _ _ _ h => absurd h.1 (by decide)⟩
theorem ok_same {f : Addr} {fd : FuncData} (D : Df K mg "_law_same" s_law_same ["found", "due"] f fd) (T : Txt K mg cs) : ∀ j : Nat, FnOk P w K mg base CX0 (j + 2) f fd ["found", "due"] (spSame K j)
  | 0 => same_step D T 0 (D.cl (no_same _))
  | j + 1 => same_step D T (j + 1) (D.cl ((ok_same D T j).imp fun _ _ _ _ h => h.2))

theorem ok_lawtree {f : Addr} {fd : FuncData} (D : Df K mg "_law_tree" s_law_tree ["block", "d"] f fd) (T : Txt K mg cs) (c_law_bits : Cl P w K mg base CX0 1 "_law_bits" spBits) (c_law_number : Cl P w K mg base CX0 1 "_law_number" spNumber) : FnOk P w K mg base CX0 2 f fd ["block", "d"] (spLawTree K) := by
  refine D.fn.ok sc_law_tree (fun vs H Q E h => ?_) (fun cdv A outer s H vs Q E hr h => ?_)
  · obtain ⟨v, n, j, rows, rfl, _⟩ := h
    rfl
  · obtain ⟨v, n, j, rows, rfl, hd, wf, n8, j1, j2, q⟩ := h
    refine ⟨_, (pss_cons (ps_set (i := 2) sc_law_tree.nd rfl (.inl rfl) (pe_ix (ixT K) (pv 0) pe_int (fun _ _ => rfl))) (pss_cons (ps_set (i := 3) sc_law_tree.nd rfl (.inl rfl) (pe_lst pa_nil)) (pss_cons (ps_for PassesOwn.never rfl (pi_range1 (by rfl) T.n_range (pa_cons (pe_op op_shl pe_int (pv 2)) pa_nil)) (pg_name (i := 4) sc_law_tree.nd rfl (.inl rfl)) (pss_cons (ps_set (i := 5) sc_law_tree.nd rfl (.inl rfl) (pe_lst pa_nil)) (pss_cons (ps_for PassesOwn.never rfl (pi_range1 (by rfl) T.n_range (pa_cons (pe_op op_shl pe_int (pv 1)) pa_nil)) (pg_name (i := 6) sc_law_tree.nd rfl (.inl rfl)) (pss_cons (ps_set (i := 7) sc_law_tree.nd rfl (.inl rfl) (pe_cl c_law_bits hr (by first | decide | omega) (by rfl) (pa_cons (pv 2) (pa_cons (pv 4) pa_nil)))) (pss_cons (ps_for PassesOwn.never rfl (pi_str (pe_cl c_law_bits hr (by first | decide | omega) (by rfl) (pa_cons (pv 1) (pa_cons (pv 6) pa_nil)))) (pg_name (i := 8) sc_law_tree.nd rfl (.inl rfl)) (pss_cons (ps_set (i := 9) sc_law_tree.nd rfl (.inl rfl) (pe_ix (ixT K) (pe_ix (ixT K) (pv 0) pe_int (fun _ _ => rfl)) (pe_cl c_law_number hr (by first | decide | omega) (by rfl) (pa_cons (pv 7) pa_nil)) (fun _ _ => rfl))) (pss_one (ps_set (i := 7) sc_law_tree.nd rfl (.inl rfl) (pe_ix (ixL K) (pe_lst (pa_cons (pe_slice sl_str (pv 9) po_none (po_some (pv 2))) (pa_cons (pe_slice sl_str (pv 9) (po_some (pv 2)) po_none) pa_nil))) (pe_callTy call_int1 (by rfl) T.n_int (by decide +kernel) (pa_cons (pe_cmpR op_eq (pv 8) pe_str (nomark _)) pa_nil)) (fun _ _ => rfl)))))) (pss_one (ps_expr (pe_bm PySem.F.plainAttrs_list PySem.F.slot_list_append PySem.F.type_list_append mt_append (pv 5) (pa_cons (pv 7) pa_nil))))))) (pss_one (ps_expr (pe_bm PySem.F.plainAttrs_list PySem.F.slot_list_append PySem.F.type_list_append mt_append (pv 3) (pa_cons (pe_callTy (tupOf K) (by rfl) T.n_tuple (by decide +kernel) (pa_cons (pv 5) pa_nil)) pa_nil))))))) (pss_one (ps_ret (pe_tup (pa_cons pe_str (pa_cons (pv 2) (pa_cons (pv 1) (pa_cons (pv 2) (pa_cons (pe_callTy (tupOf K) (by rfl) T.n_tuple (by decide +kernel) (pa_cons (pv 3) pa_nil)) pa_nil))))))))))), ?_⟩
    obtain ⟨a, r, rfl, hT, hR⟩ := dp_tab hd
    have hp := two_pow_le (b := 8) n8
    have hpj := two_pow_le (b := 8) j2
    refine ⟨_, rfl, a, _, 1, _, rfl, rfl, hT, rfl, ?_⟩
    refine ⟨Nat.zero_le _, fun L nL => ?_⟩
    refine ⟨_, rfl, _, _, rfl, rfl, ⟨by omega, by omega, by decide⟩, _, rfl, ?_⟩
    rw [shl_one]
    generalize hN : 2 ^ n = N at hp ⊢
    refine ⟨by omega, by omega, for_range (lo := 0) (n := _) (fun i σ H' => ∃ y4 y5 y6 y7 y8 y9 : Option V, σ = [some (.ref a), some (.int (j : Int)), some (.int (n : Int)), some (.ref L), y4, y5, y6, y7, y8, y9] ∧ Same H H' ∧ ∃ us, H' L = some (.lst us) ∧ us.length = i ∧ DpAll K (off L H') us ((List.range i).map fun i => rowsD ((List.range (2 ^ j)).map fun k => goDown rows n (toB n i) (toB j k)))) ?_ ?_ ?_⟩
    · exact ⟨_, _, _, _, _, _, rfl, same_new nL, [], upd_same, rfl, .nil⟩
    · rintro i σ H' hi ⟨y4, y5, y6, y7, y8, y9, rfl, s1, us, e1, hul, hA⟩
      refine ⟨Nat.zero_le _, fun M nM => ?_⟩
      have nML : M ≠ L := (ne_of_none e1 nM).symm
      refine ⟨_, rfl, _, _, rfl, rfl, ⟨by omega, by omega, by decide⟩, _, rfl, ?_⟩
      rw [shl_one]
      generalize hJ : 2 ^ j = J at hpj hA ⊢
      refine ⟨by omega, by omega, for_range (lo := 0) (n := _) (fun k σ H2 => ∃ y6 y7 y8 y9 : Option V, σ = [some (.ref a), some (.int (j : Int)), some (.int (n : Int)), some (.ref L), some (.int (0 + (i : Int))), some (.ref M), y6, y7, y8, y9] ∧ Same H' H2 ∧ H2 M = some (.lst (rowV ((List.range k).map fun k => goDown rows n (toB n i) (toB j k))))) ?_ ?_ ?_⟩
      · exact ⟨_, _, _, _, rfl, same_new nM, upd_same⟩
      · rintro k σ H2 hk ⟨y6, y7, y8, y9, rfl, s2, e2⟩
        refine ⟨_, rfl, _, rfl, n, i, ?_, by omega, by rw [hN]; omega, ?_⟩
        · show [V.int (n : Int), V.int (0 + (i : Int))] = _
          rw [Int.zero_add]
        refine ⟨_, rfl, _, rfl, j, k, ?_, by omega, by rw [hJ]; omega, ?_⟩
        · show [V.int (j : Int), V.int (0 + (k : Int))] = _
          rw [Int.zero_add]
        refine ⟨_, rfl, for_text (fun c σ H3 => ∃ (t : List Bool) (y8 y9 : Option V), σ = [some (.ref a), some (.int (j : Int)), some (.int (n : Int)), some (.ref L), some (.int (0 + (i : Int))), some (.ref M), some (.int (0 + (k : Int))), some (.str (sb t)), y8, y9] ∧ t.length = n ∧ goDown rows n (toB n i) (toB j k) = goDown rows n t ((toB j k).drop c) ∧ Same H2 H3) ?_ ?_ ?_⟩
        · exact ⟨toB n i, _, _, rfl, toB_len _ _, rfl, Same.refl _⟩
        · rintro c ch σ H3 hc ⟨t, y8, y9, rfl, ht, he, s3⟩
          obtain ⟨hci, rfl⟩ := sb_at hc
          obtain ⟨hv, hrow⟩ := wf.at ht
          rw [List.drop_eq_getElem_cons hci] at he
          have he' : goDown rows n (toB n i) (toB j k) = goDown rows n (if (toB j k)[c] then (rows.getD (val t) []).drop n else (rows.getD (val t) []).take n) ((toB j k).drop (c + 1)) := he
          generalize hRw : rows.getD (val t) [] = row at hrow he'
          generalize (toB j k)[c] = bt at he' ⊢
          have sz : ∀ l : List Bool, l.length ≤ 1000 → (sb l).length ≤ sizeLine := fun l h => by
            rw [sb_len, sizeLine_eq]
            omega
          have s13 := (s1.trans s2).trans s3
          refine ⟨_, rfl, a, _, 3, _, rfl, rfl, same_sqt s13 hT, rfl, _, rfl, t, rfl, by omega, r, _, _, _, rfl, rfl, same_sqt s13 hR, atI_nat (getD_row hv), ?_⟩
          rw [hRw]
          refine ⟨_, rfl, _, rfl, _, rfl, _, rfl, sz _ (by omega), ?_⟩
          rw [cut_pre]
          refine ⟨_, rfl, _, rfl, _, rfl, _, rfl, sz _ (by omega), ?_⟩
          rw [cut_suf]
          refine ⟨(by show 2 ≤ sizeLine; decide), fun g ng => ⟨_, rfl, rfl, ?_⟩⟩
          cases bt with
          | false =>
            rw [show decide (V.str ⟨#[cB false]⟩ = V.str "1") = false by decide +kernel]
            refine .inr ⟨_, rfl, g, [.str (sb (row.take n)), .str (sb (row.drop n))], 0, .str (sb (row.take n)), rfl, rfl, .inl (.inl upd_same), rfl, ?_⟩
            refine ⟨row.take n, _, _, rfl, ?_, he', s3.trans (same_new ng)⟩
            rw [List.length_take, hrow]
            omega
          | true =>
            rw [show decide (V.str ⟨#[cB true]⟩ = V.str "1") = true by decide +kernel]
            refine .inr ⟨_, rfl, g, [.str (sb (row.take n)), .str (sb (row.drop n))], 1, .str (sb (row.drop n)), rfl, rfl, .inl (.inl upd_same), rfl, ?_⟩
            refine ⟨row.drop n, _, _, rfl, ?_, he', s3.trans (same_new ng)⟩
            rw [List.length_drop, hrow]
            omega
        · rintro σ H3 ⟨t, y8, y9, rfl, ht, he, s3⟩
          have es : (sb (toB j k)).cps.size = (toB j k).length := sb_len _
          rw [es, List.drop_length] at he
          have he' : goDown rows n (toB n i) (toB j k) = t := he
          have e3 := s3 _ _ e2
          refine ⟨_, rfl, .inl ⟨rfl, _, .inl (.inl e3)⟩, _, rfl, M, _, _, rfl, rfl, e3, ?_, _, _, _, _, rfl, fun b o e => ?_, ?_⟩
          · rw [rowV_len, List.length_map, List.length_range]
            exact Nat.lt_of_lt_of_le (show k < 10000 by omega) (by decide)
          · rw [upd_ne (ne_of_none e nM)]
            exact s3 _ _ (s2 b o e)
          · rw [upd_same, rowV_snoc, he']
      · rintro σ H2 ⟨y6, y7, y8, y9, rfl, s2, e2⟩
        rw [Int.toNat_natCast] at e2
        have e12 := s2 _ _ e1
        refine ⟨_, rfl, .inl ⟨rfl, _, .inl (.inl e12)⟩, _, rfl, M, _, rfl, .inl ⟨.inl (.inl e2), fun t nt => ?_⟩⟩
        have ntL : t ≠ L := (ne_of_none e12 nt).symm
        refine ⟨L, us, _, rfl, rfl, by rw [upd_ne ntL.symm]; exact e12, ?_, _, _, _, _, _, _, rfl, fun b o e => ?_, us ++ [.ref t], upd_same, by rw [List.length_append, hul]; rfl, ?_⟩
        · exact Nat.lt_of_lt_of_le (show us.length < 10000 by omega) (by decide)
        · rw [upd_ne (ne_of_none e nL)]
          exact same_new nt _ _ (s2 _ _ (s1 _ _ e))
        · rw [off_upd1, List.range_succ, List.map_append]
          refine dpAll_snoc (dps_same (off_mono (s2.trans (same_new nt))) _ hA) (.tup (.inl (.inl ?_)) (dp_bits _))
          rw [off_ne ntL, upd_same]
          rfl
    · rintro σ H' ⟨y4, y5, y6, y7, y8, y9, rfl, s1, us, e1, hul, hA⟩
      rw [Int.toNat_natCast, ← hN] at hul hA
      refine ⟨_, rfl, _, rfl, _, rfl, _, rfl, L, _, rfl, .inl ⟨.inl (.inl e1), fun t nt => ⟨(by show 5 ≤ sizeLine; decide), fun g ng => ?_⟩⟩⟩
      have s6 := (same_new (o := .tup us) nt).trans (same_new (o := .tup [.str "function", .int (n : Int), .int (j : Int), .int (n : Int), .ref t]) ng)
      refine q _ _ (s1.trans s6) (fun_dp (n := n) (l := j) (m := n) (t := t) (.inl (.inl upd_same)) ?_)
      have eT : (treeT n j rows).map rowsD = (List.range (2 ^ n)).map fun i => rowsD ((List.range (2 ^ j)).map fun k => goDown rows n (toB n i) (toB j k)) := by
        unfold treeT
        rw [List.map_map]
        rfl
      unfold tabsD
      rw [eT]
      exact .tup (.inl (.inl (by rw [upd_ne (ne_of_none upd_same ng), upd_same]))) (dps_same (fun b o e => s6 _ _ (off_same L H' _ _ e)) _ hA)

theorem ok_lawhard {f : Addr} {fd : FuncData} (D : Df K mg "_law_hardbits" s_law_hardbits ["block"] f fd) (T : Txt K mg cs) (c_law_bits : Cl P w K mg base CX0 1 "_law_bits" spBits) : FnOk P w K mg base CX0 2 f fd ["block"] (spLawHard K) := by
  refine D.fn.ok sc_law_hardbits (fun vs H Q E h => ?_) (fun cdv A outer s H vs Q E hr h => ?_)
  · obtain ⟨v, n, m, rows, rfl, _⟩ := h
    rfl
  · obtain ⟨v, n, m, rows, rfl, hd, wf, n5, m40, q⟩ := h
    refine ⟨_, (pss_cons (ps_set (i := 1) sc_law_hardbits.nd rfl (.inl rfl) (pe_ix (ixT K) (pv 0) pe_int (fun _ _ => rfl))) (pss_cons (ps_set (i := 2) sc_law_hardbits.nd rfl (.inl rfl) (pe_lst pa_nil)) (pss_cons (ps_for PassesOwn.never rfl (pi_range1 (by rfl) T.n_range (pa_cons (pe_op op_shl pe_int (pv 1)) pa_nil)) (pg_name (i := 3) sc_law_hardbits.nd rfl (.inl rfl)) (pss_one (ps_for PassesOwn.never rfl (pi_range1 (by rfl) T.n_range (pa_cons (pe_op op_shl pe_int (pv 1)) pa_nil)) (pg_name (i := 4) sc_law_hardbits.nd rfl (.inl rfl)) (pss_cons (ps_set (i := 5) sc_law_hardbits.nd rfl (.inr rfl) (pe_cl c_law_bits hr (by first | decide | omega) (by rfl) (pa_cons (pv 1) (pa_cons (pv 3) pa_nil)))) (pss_cons (ps_set (i := 6) sc_law_hardbits.nd rfl (.inr rfl) (pe_cl c_law_bits hr (by first | decide | omega) (by rfl) (pa_cons (pv 1) (pa_cons (pv 4) pa_nil)))) (pss_cons (ps_set (i := 7) sc_law_hardbits.nd rfl (.inl rfl) (pe_callB (crSum K rfl) (by rfl) T.n_sum (by decide +kernel) (pa_cons (pe_lc (own := [("k", 8)]) (g := gName 8) (tt := tYes) rfl sc_law_hardbits.nd (pi_range1 (by rfl) T.n_range (pa_cons (pv 1) pa_nil)) (blkOk_by (own := [("k", 8)]) (N := ["block", "n", "rows", "x", "r", "first", "second", "both", "k"]) (sc := defScope s_law_hardbits) (by decide +kernel)) (fun _ _ _ _ _ => (pg_name (i := 8) sc_law_hardbits.nd rfl (.inl rfl))) (fun _ _ _ _ _ => pts_nil) (fun _ _ _ _ _ => (pe_callTy call_int1 (by rfl) T.n_int (by decide +kernel) (pa_cons (pe_and (pe_cmpR op_eq (pe_ix ix_str (pv 5) (pv 8) (fun _ _ => rfl)) pe_str (nomark _)) (pe_one (pe_cmpR op_eq (pe_ix ix_str (pv 6) (pv 8) (fun _ _ => rfl)) pe_str (nomark _)))) pa_nil)))) pa_nil))) (pss_one (ps_expr (pe_bm PySem.F.plainAttrs_list PySem.F.slot_list_append PySem.F.type_list_append mt_append (pv 2) (pa_cons (pe_op op_add_str (pe_op op_add_str (pe_ix (ixT K) (pe_ix (ixT K) (pv 0) pe_int (fun _ _ => rfl)) (pv 3) (fun _ _ => rfl)) (pv 6)) (pe_callTy call_str_int (by rfl) T.n_str (by decide +kernel) (pa_cons (pe_op op_mod (pe_callTy call_int1 (by rfl) T.n_int (by decide +kernel) (pa_cons (pv 7) pa_nil)) pe_int) pa_nil))) pa_nil)))))))))) (pss_one (ps_ret (pe_tup (pa_cons pe_str (pa_cons (pe_op op_mul pe_int (pv 1)) (pa_cons (pe_op op_add (pe_op op_add (pe_ix (ixT K) (pv 0) pe_int (fun _ _ => rfl)) (pv 1)) pe_int) (pa_cons (pe_callTy (tupOf K) (by rfl) T.n_tuple (by decide +kernel) (pa_cons (pv 2) pa_nil)) pa_nil)))))))))), ?_⟩
    obtain ⟨a, r, rfl, hT, hR⟩ := dp_tab hd
    have hp := two_pow_le (b := 5) n5
    refine ⟨_, rfl, a, _, 1, _, rfl, rfl, hT, rfl, ?_⟩
    refine ⟨Nat.zero_le _, fun L nL => ?_⟩
    refine ⟨_, rfl, _, _, rfl, rfl, ⟨by omega, by omega, by decide⟩, _, rfl, ?_⟩
    rw [shl_one]
    have hN' : ∃ N : Nat, 2 ^ n = N := ⟨_, rfl⟩
    obtain ⟨N, hN⟩ := hN'
    rw [hN] at hp ⊢
    refine ⟨by omega, by omega, for_range (lo := 0) (n := _) (fun i σ H' => ∃ y3 y4 y5 y6 y7 : Option V, σ = [some (.ref a), some (.int (n : Int)), some (.ref L), y3, y4, y5, y6, y7, none] ∧ Same H H' ∧ H' L = some (.lst (rowV (hardMade n rows i)))) ?_ ?_ ?_⟩
    · exact ⟨_, _, _, _, _, rfl, same_new nL, upd_same⟩
    · rintro i σ H' hi ⟨y3, y4, y5, y6, y7, rfl, s1, e1⟩
      refine ⟨_, rfl, _, _, rfl, rfl, ⟨by omega, by omega, by decide⟩, _, rfl, ?_⟩
      rw [shl_one, hN]
      refine ⟨by omega, by omega, for_range (lo := 0) (n := _) (fun j σ H2 => ∃ y4 y5 y6 y7 : Option V, σ = [some (.ref a), some (.int (n : Int)), some (.ref L), some (.int (0 + (i : Int))), y4, y5, y6, y7, none] ∧ Same H H2 ∧ H2 L = some (.lst (rowV (hardMade n rows i ++ (List.range j).map fun j => hardRow n rows i j)))) ?_ ?_ ?_⟩
      · exact ⟨_, _, _, _, rfl, s1, by rw [e1]; show _ = some (HO.lst (rowV (hardMade n rows i ++ []))); rw [List.append_nil]⟩
      · rintro j σ H2 hj ⟨y4, y5, y6, y7, rfl, s2, e2⟩
        refine ⟨_, rfl, _, rfl, n, i, ?_, by omega, by rw [hN]; omega, ?_⟩
        · show [V.int (n : Int), V.int (0 + (i : Int))] = _
          rw [Int.zero_add]
        refine ⟨_, rfl, _, rfl, n, j, ?_, by omega, by rw [hN]; omega, ?_⟩
        · show [V.int (n : Int), V.int (0 + (j : Int))] = _
          rw [Int.zero_add]
        have li := toB_len n i
        have lj := toB_len n j
        have hil : i < rows.length := by
          have := wf.len
          omega
        have hri : (rows.getD i []).length = m := by
          rw [List.getD_eq_getElem?_getD, List.getElem?_eq_getElem hil]
          exact wf.row _ (List.getElem_mem hil)
        have eh : hardRow n rows i j = rows.getD i [] ++ toB n j ++ [((List.zipWith (fun x y => x && y) (toB n i) (toB n j)).count true) % 2 == 1] := rfl
        have hat : (rowV rows)[i]? = some (.str (sb (rows.getD i []))) := getD_row hil
        generalize rows.getD i [] = row at hri eh hat
        have sz : ∀ l : List Bool, l.length ≤ 1000 → (sb l).length ≤ sizeLine := fun l h => by
          rw [sb_len, sizeLine_eq]
          omega
        generalize toB n i = l at li eh ⊢
        generalize toB n j = l' at lj eh ⊢
        have lz : (List.zipWith (fun x y => x && y) l l').length = n := by
          rw [List.length_zipWith, li, lj, Nat.min_self]
        refine ⟨_, rfl, _, rfl, by omega, by omega, fun Dl hD => ?_⟩
        refine lc_range (lo := 0) (n := n) (fun k H3 => Same H2 H3 ∧ H3 Dl = some (.lst (((List.zipWith (fun x y => x && y) l l').take k).map fun b => V.int (if b = true then 1 else 0)))) ?_ ?_ ?_
        · exact ⟨same_new hD, upd_same⟩
        · rintro k H3 hk ⟨s3, e3⟩
          have h1 : k < l.length := by omega
          have h2 : k < l'.length := by omega
          have hz : (List.zipWith (fun x y => x && y) l l')[k]? = some (l[k] && l'[k]) := by
            rw [List.getElem?_eq_getElem (by omega), List.getElem_zipWith]
          have fin : ∀ b : Bool, (l[k] && l'[k]) = b → ∃ acc, H3 Dl = some (.lst acc) ∧ acc.length < sizeLine ∧ (Same H2 (upd H3 Dl (.lst (acc ++ [V.int (if b = true then 1 else 0)]))) ∧ upd H3 Dl (.lst (acc ++ [V.int (if b = true then 1 else 0)])) Dl = some (.lst (((List.zipWith (fun x y => x && y) l l').take (k + 1)).map fun b => V.int (if b = true then 1 else 0)))) := by
            intro b hb
            refine ⟨_, e3, ?_, fun p o e => ?_, ?_⟩
            · rw [List.length_map, List.length_take]
              exact Nat.lt_of_lt_of_le (show min k _ < 10000 by omega) (by decide)
            · rw [upd_ne (ne_of_none e hD)]
              exact s3 p o e
            · rw [upd_same, List.take_add_one, hz, List.map_append, hb]
              rfl
          refine ⟨rfl, ?_⟩
          refine ⟨_, rfl, _, rfl, _, _, _, rfl, rfl, sz _ (by omega), atI_bits h1, rfl, _, rfl, ?_⟩
          rw [sign_one]
          cases hb1 : l[k] with
          | false =>
            exact .inr ⟨_, rfl, fin false (by rw [hb1]; rfl)⟩
          | true =>
            refine ⟨_, rfl, _, rfl, _, _, _, rfl, rfl, sz _ (by omega), atI_bits h2, rfl, ?_⟩
            rw [sign_one]
            exact .inr ⟨_, rfl, fin l'[k] (by rw [hb1]; rfl)⟩
        · rintro H3 ⟨s3, e3⟩
          rw [← lz, List.take_length] at e3
          have s23 := s2.trans s3
          have e2' := s3 _ _ e2
          refine ⟨Dl, (List.zipWith (fun x y => x && y) l l').map fun b => if b = true then (1 : Int) else 0, rfl, .inl (.inl (by rw [e3, List.map_map]; rfl)), ?_⟩
          rw [sum_count]
          generalize (List.zipWith (fun x y => x && y) l l').count true = c at eh ⊢
          refine ⟨_, rfl, .inl ⟨rfl, _, .inl (.inl e2')⟩, _, rfl, a, _, 3, _, rfl, rfl, same_sqt s23 hT, rfl, _, rfl, r, _, _, _, rfl, rfl, same_sqt s23 hR, (by rw [Int.zero_add]; exact atI_nat hat), _, rfl, _, _, rfl, rfl, ?_, _, rfl, .inl ⟨_, rfl, _, _, rfl, rfl, (by show (0 : Int) < 2; decide), _, rfl, ?_, _, _, rfl, rfl, ?_, L, _, _, rfl, rfl, e2', ?_, _, _, _, _, rfl, fun b o e => ?_, ?_⟩⟩
          · rw [← str_app_len, sb_cat]
            exact sz _ (by rw [List.length_append, hri]; omega)
          · have h2 : ((c : Int) % 2).natAbs < 2 := by omega
            have : ((c : Int) % 2).natAbs.log2 ≤ ((c : Int) % 2).natAbs := Nat.log2_le_self _
            omega
          · rw [str_bit, sb_cat, ← str_app_len, sb_cat]
            exact sz _ (by rw [List.length_append, List.length_append, hri]; show m + l'.length + 1 ≤ _; omega)
          · rw [rowV_len, List.length_append, hardMade_len, List.length_map, List.length_range, hN]
            have a1 : i * N ≤ 32 * 32 := Nat.mul_le_mul (by omega) hp
            exact Nat.lt_of_lt_of_le (show i * N + j < 10000 by omega) (by decide)
          · rw [upd_ne (ne_of_none e nL)]
            exact s23 b o e
          · rw [upd_same, str_bit, sb_cat, sb_cat, List.range_succ, List.map_append, ← List.append_assoc, rowV_app (hardMade n rows i ++ _), List.map_cons, List.map_nil, eh]
            rfl
      · rintro σ H2 ⟨y4, y5, y6, y7, rfl, s2, e2⟩
        rw [Int.toNat_natCast, ← hN, ← hardMade_succ] at e2
        exact ⟨_, _, _, _, _, rfl, s2, e2⟩
    · rintro σ H' ⟨y3, y4, y5, y6, y7, rfl, s1, e1⟩
      rw [Int.toNat_natCast, ← hN] at e1
      refine ⟨_, rfl, _, _, rfl, rfl, .inl ⟨by decide, by decide⟩, _, rfl, a, _, 2, _, rfl, rfl, same_sqt s1 hT, rfl, _, rfl, _, _, rfl, rfl, _, _, rfl, rfl, _, rfl, L, _, rfl, .inl ⟨.inl (.inl e1), fun u nu => ⟨(by show 4 ≤ sizeLine; decide), fun g ng => ?_⟩⟩⟩
      have s4 := s1.trans ((same_new nu).trans (same_new (o := .tup [.str "generator", .int (2 * (n : Int)), .int ((m : Int) + (n : Int) + 1), .ref u]) ng))
      have e2n : (2 : Int) * (n : Int) = ((2 * n : Nat) : Int) := by omega
      have em : (m : Int) + (n : Int) + 1 = ((m + n + 1 : Nat) : Int) := by omega
      refine q _ _ s4 (tab_dp (n := 2 * n) (m := m + n + 1) (r := u) (.inl (.inl ?_)) (.inl (.inl ?_)))
      · rw [upd_same]
        show some (HO.tup [.str "generator", .int (2 * (n : Int)), .int ((m : Int) + (n : Int) + 1), .ref u]) = _
        rw [e2n, em]
      · rw [upd_ne (ne_of_none upd_same ng), upd_same]
        rfl

theorem ok_spoilt {f : Addr} {fd : FuncData} (D : Df K mg "_law_spoilt_row" s_law_spoilt_row ["hand", "block"] f fd) (T : Txt K mg cs) (c_law_take : Cl P w K mg base CX0 1 "_law_take" spTake) : FnOk P w K mg base CX0 2 f fd ["hand", "block"] (spSpoilt K) := by
  refine D.fn.ok sc_law_spoilt_row (fun vs H Q E h => ?_) (fun cdv A outer s H vs Q E hr h => ?_)
  · obtain ⟨a, d, v, n, m, rows, rfl, _⟩ := h
    rfl
  · obtain ⟨a, d, v, n, m, rows, rfl, hh, hd, wf, q⟩ := h
    refine ⟨_, (pss_cons (ps_set (i := 2) sc_law_spoilt_row.nd rfl (.inl rfl) (pe_callTy (listOf K) (by rfl) T.n_list (by decide +kernel) (pa_cons (pe_ix (ixT K) (pv 1) pe_int (fun _ _ => rfl)) pa_nil))) (pss_cons (ps_set (i := 3) sc_law_spoilt_row.nd rfl (.inl rfl) (pe_cl c_law_take hr (by first | decide | omega) (by rfl) (pa_cons (pv 0) (pa_cons (pe_callB (lenS K) (by rfl) T.n_len (by decide +kernel) (pa_cons (pv 2) pa_nil)) pa_nil)))) (pss_cons (ps_set (i := 4) sc_law_spoilt_row.nd rfl (.inl rfl) (pe_cl c_law_take hr (by first | decide | omega) (by rfl) (pa_cons (pv 0) (pa_cons (pe_ix (ixT K) (pv 1) pe_int (fun _ _ => rfl)) pa_nil)))) (pss_cons (ps_asg (pe_op op_add_str (pe_op op_add_str (pe_slice sl_str (pe_ix (ixL K) (pv 2) (pv 3) (fun _ _ => rfl)) po_none (po_some (pv 4))) (pe_ix (ixL K) (pe_lst (pa_cons pe_str (pa_cons pe_str (pa_cons pe_str pa_nil)))) (pe_cl c_law_take hr (by first | decide | omega) (by rfl) (pa_cons (pv 0) (pa_cons pe_int pa_nil))) (fun _ _ => rfl))) (pe_slice sl_str (pe_ix (ixL K) (pv 2) (pv 3) (fun _ _ => rfl)) (po_some (pe_op op_add (pv 4) pe_int)) po_none)) (pg_sub (pv 2) (pv 3) set_list)) (pss_one (ps_ret (pe_op (opCatA K) (pe_slice (slTA K) (pv 1) po_none (po_some pe_int)) (pe_tup (pa_cons (pe_callTy (tupOf K) (by rfl) T.n_tuple (by decide +kernel) (pa_cons (pv 2) pa_nil)) pa_nil))))))))), ?_⟩
    obtain ⟨b, r, rfl, hT, hR⟩ := dp_tab hd
    have hn10 := wf.n2
    have hm1 := wf.m1
    have hm40 := wf.m2
    have hp := two_pow_le (b := 10) hn10
    have hp1 : 1 ≤ 2 ^ n := Nat.one_le_two_pow
    have hlen := wf.len
    have rv : (rowV rows).length = rows.length := by
      unfold rowV
      rw [List.length_map]
    refine ⟨_, rfl, b, _, 3, _, rfl, rfl, hT, rfl, r, _, rfl, .inr hR, fun L nL => ?_⟩
    have nLa := (hh.ne nL).1
    have nLd := (hh.ne nL).2
    have hhL := hh.new (o := .lst (rowV rows)) nL
    refine ⟨_, rfl, _, rfl, L, _, rfl, .inl (.inl (.inl upd_same)), a, d, _, rfl, by rw [show (List.map (fun r => V.str (sb r)) rows).length = rows.length from List.length_map ..]; omega, hhL, fun i H1 l1 u1 hh1 k1 => ?_⟩
    obtain ⟨i, rfl⟩ : ∃ k : Nat, i = (k : Int) := ⟨i.toNat, by omega⟩
    have hi : i < rows.length := by
      have : (i : Int) < ((List.map (fun r => V.str (sb r)) rows).length : Int) := u1
      rw [List.length_map] at this
      omega
    have e1 := k1 _ _ (upd_same (a := L)) nLa
    have kL : Keep a H H1 := (Keep.new nL).trans k1
    have hT1 := sqt_on (same_sqt kL.off (sqt_off hh hT))
    have hri : (rows.getD i []).length = m := by
      rw [List.getD_eq_getElem?_getD, List.getElem?_eq_getElem hi]
      exact wf.row _ (List.getElem_mem hi)
    have hat1 : (rowV rows)[i]? = some (.str (sb (rows.getD i []))) := getD_row hi
    generalize rows.getD i [] = row at hri hat1
    refine ⟨_, rfl, _, rfl, b, _, 2, _, rfl, rfl, hT1, rfl, a, d, (m : Int), rfl, by omega, hh1, fun pl H2 l2 u2 hh2 k2 => ?_⟩
    obtain ⟨k, rfl⟩ : ∃ k : Nat, pl = (k : Int) := ⟨pl.toNat, by omega⟩
    have e2 := k2 _ _ e1 nLa
    have sz : ∀ x : Str, x.length ≤ 1000 → x.length ≤ sizeLine := fun x h => by
      rw [sizeLine_eq]
      omega
    have lrow : (sb row).length ≤ 1000 := by
      rw [sb_len]
      omega
    refine ⟨_, rfl, _, rfl, L, _, (i : Int), _, rfl, rfl, .inl (.inl e2), atI_nat hat1, _, rfl, _, rfl, _, rfl, sz _ lrow, (by show 3 ≤ sizeLine; decide), fun c nc => ⟨_, rfl, a, d, 3, rfl, by decide, hh2.new nc, fun t H3 l3 u3 hh3 k3 => ?_⟩⟩
    rw [cut_pre]
    obtain ⟨y, hat, hm⟩ := atI_mem (xs := [.str "2", .str "", .str "01"]) l3 u3
    obtain ⟨x, rfl, hx⟩ : ∃ x : Str, y = .str x ∧ (x = "2" ∨ x = "" ∨ x = "01") := by
      rcases List.mem_cons.mp hm with e | hm
      · exact ⟨_, e, .inl rfl⟩
      rcases List.mem_cons.mp hm with e | hm
      · exact ⟨_, e, .inr (.inl rfl)⟩
      rcases List.mem_cons.mp hm with e | hm
      · exact ⟨_, e, .inr (.inr rfl)⟩
      exact nomatch hm
    have hxl : x.length ≤ 2 := by
      rcases hx with e | e | e <;> rw [e] <;> decide +kernel
    have hxo : PySem.PyData.strOk x = true := by
      rcases hx with e | e | e <;> rw [e] <;> decide +kernel
    have e3 := k3 _ _ (by rw [upd_ne (ne_of_none e2 nc)]; exact e2) nLa
    refine ⟨c, _, t, _, rfl, rfl, .inl (.inl (k3 _ _ upd_same (hh2.ne nc).1)), hat, _, _, rfl, rfl, ?_, ?_⟩
    · rw [← str_app_len]
      exact sz _ (by rw [str_app_len, sb_len, List.length_take]; omega)
    refine ⟨_, rfl, _, rfl, L, _, (i : Int), _, rfl, rfl, .inl (.inl e3), atI_nat hat1, _, rfl, _, _, rfl, rfl, _, rfl, _, rfl, sz _ lrow, ?_⟩
    rw [show ((k : Int) + 1) = ((k + 1 : Nat) : Int) by omega, cut_suf]
    refine ⟨_, _, rfl, rfl, ?_, ?_⟩
    · rw [← str_app_len]
      exact sz _ (by rw [str_app_len, str_app_len, sb_len, sb_len, List.length_take, List.length_drop]; omega)
    have hbad := spoilt_row (p := k) hri (by omega) hx
    have hyo : okT (sb (row.take k) ++ x ++ sb (row.drop (k + 1))) := ⟨strOk_app (strOk_app (okT_sb (by rw [List.length_take]; omega)).1 hxo) (okT_sb (by rw [List.length_drop]; omega)).1, by
      rw [str_app_len, str_app_len, sb_len, sb_len, List.length_take, List.length_drop]
      omega⟩
    generalize sb (row.take k) ++ x ++ sb (row.drop (k + 1)) = y at hbad hyo ⊢
    refine ⟨_, rfl, _, rfl, L, _, (i : Int), i, rfl, rfl, e3, ?_, ?_⟩
    · unfold ixN
      rw [if_pos (by omega), if_pos (by rw [List.length_map]; omega)]
      rfl
    have k13 := ((kL.trans k2).trans (Keep.new (o := .lst [.str "2", .str "", .str "01"]) nc)).trans k3
    have k14 : Keep a H (upd H3 L (.lst ((List.map (fun r => V.str (sb r)) rows).set i (.str y)))) := k13.set nL
    have hh4 : Hnd (upd H3 L (.lst ((List.map (fun r => V.str (sb r)) rows).set i (.str y)))) a d := hh3.set nLa nLd
    have e4 : upd H3 L (.lst ((List.map (fun r => V.str (sb r)) rows).set i (.str y))) L = some (.lst ((List.map (fun r => V.str (sb r)) rows).set i (.str y))) := upd_same
    generalize upd H3 L (.lst ((List.map (fun r => V.str (sb r)) rows).set i (.str y))) = H4 at k14 hh4 e4 ⊢
    have hT4 := sqt_on (same_sqt k14.off (sqt_off hh hT))
    refine ⟨_, rfl, _, rfl, sl_any hT4 fun p1 H5 s5 t5 => ⟨_, rfl, L, _, rfl, .inl ⟨.inl (.inl (s5 _ _ e4)), fun u nu => ⟨(by show 1 ≤ sizeLine; decide), fun g ng => ?_⟩⟩⟩⟩
    refine cat_any (same_sqt ((same_new nu).trans (same_new ng)) t5) (.inl (.inl upd_same)) (by show 3 + 1 ≤ sizeLine; decide) fun p3 H6 s6 t6 => ?_
    have s46 := ((s5.trans (same_new nu)).trans (same_new ng)).trans s6
    have eu := s6 _ _ (show upd (upd H5 u (.tup ((List.map (fun r => V.str (sb r)) rows).set i (.str y)))) g (.tup [.ref u]) u = some (.tup ((List.map (fun r => V.str (sb r)) rows).set i (.str y))) by rw [upd_ne (ne_of_none upd_same ng), upd_same])
    have ey : (List.map (fun r => V.str (sb r)) rows).set i (.str y) = ((rows.map sb).set i y).map V.str := by
      rw [show List.map (fun r => V.str (sb r)) rows = (rows.map sb).map V.str from rowV_txts rows, List.map_set]
    rw [ey] at eu
    have hyi : ((rows.map sb).set i y)[i]? = some y := by
      rw [List.getElem?_set_self (by rw [List.length_map]; exact hi)]
    refine q _ (.tuple [.str "generator", .int (n : Int), .int (m : Int), .tuple (((rows.map sb).set i y).map PyData.str)]) H6 (.tup t6 (.cons (.str _) (.cons (.int _) (.cons (.int _) (.cons (.tup (.inl (.inl eu)) (dp_txts _)) .nil))))) ?_ (spoilt_bad hyi hbad) (hh4.same s46) (k14.trans (.same s46))
    refine ⟨by show 4 ≤ 5000; decide, all4 (pl_str.mpr ⟨by decide +kernel, by decide +kernel⟩) pl_int pl_int ⟨?_, fun z hz => ?_⟩⟩
    · rw [List.length_map, List.length_set, List.length_map]
      omega
    · obtain ⟨w', hw, rfl⟩ := List.mem_map.mp hz
      refine pl_str.mpr ?_
      rcases List.mem_or_eq_of_mem_set hw with h | h
      · obtain ⟨r', hr', rfl⟩ := List.mem_map.mp h
        exact okT_sb (by rw [wf.row r' hr']; omega)
      · rw [h]
        exact hyo

theorem ok_told4 {f : Addr} {fd : FuncData} (D : Df K mg "_law_told" s_law_told ["which", "block", "number"] f fd) (T : Txt K mg cs) (c_tree : Cl P w K mg base (L2.CX P w) 5 "tree" (spTree K cs.BadBlock cs.BadScheme)) (c_counter : Cl P w K mg base (L2.CX P w) 5 "counter" (spCnt K cs.BadBlock cs.BadScheme))
    (c_hardbits : Cl P w K mg base (L2.CX P w) 5 "hardbits" (spHard K cs.BadBlock cs.BadScheme)) (c_row_of : Cl P w K mg base (L2.CX P w) 5 "row_of" (spRow K cs.BadBlock)) (c_value_of : Cl P w K mg base (L2.CX P w) 5 "value_of" (spVal K cs.BadBlock)) : FnOk P w K mg base CX0 6 f fd ["which", "block", "number"] (spTold4 K) := by
  refine D.fn.ok sc_law_told (fun vs H Q E h => ?_) (fun cdv A outer s H vs Q E hr h => ?_)
  · obtain ⟨v, d, n, wh, k, rfl, _⟩ := h
    rfl
  · obtain ⟨v, d, n, wh, k, rfl, hw, hd, hg, hn, q⟩ := h
    refine ⟨_, (pss_cons (ps_try_many (Wout := fun _ _ _ _ => False) rfl rfl takes0 (fun W pn xe tk _ => (pss_one (ps_if (pt_cmpR op_eq (pv 0) pe_int (nomark _)) (pss_one (ps_expr (pe_clX c_tree hr (by first | decide | omega) (by rfl) tk (pa_cons (pv 1) (pa_cons (pv 2) pa_nil))))) (pss_one (ps_if (pt_cmpR op_eq (pv 0) pe_int (nomark _)) (pss_one (ps_expr (pe_clX c_counter hr (by first | decide | omega) (by rfl) tk (pa_cons (pv 1) (pa_cons (pv 2) pa_nil))))) (pss_one (ps_if (pt_cmpR op_eq (pv 0) pe_int (nomark _)) (pss_one (ps_expr (pe_clX c_hardbits hr (by first | decide | omega) (by rfl) tk (pa_cons (pv 1) pa_nil)))) (pss_one (ps_if (pt_cmpR op_eq (pv 0) pe_int (nomark _)) (pss_one (ps_expr (pe_clX c_row_of hr (by first | decide | omega) (by rfl) tk (pa_cons (pv 1) (pa_cons pe_str pa_nil))))) (pss_one (ps_expr (pe_clX c_value_of hr (by first | decide | omega) (by rfl) tk (pa_cons (pv 1) (pa_cons pe_str (pa_cons pe_str pa_nil))))))))))))))) (HdsOk.cons ⟨rfl, by decide, .inl T.gl_BadBlock⟩ (fun a oe cls d pn hz hf => (pss_one (ps_ret pe_str))) (HdsOk.cons ⟨rfl, by decide, .inl T.gl_BadScheme⟩ (fun a oe cls d pn hz hf => (pss_one (ps_ret pe_str))) HdsOk.nil))) (pss_one (ps_ret pe_str))), ?_⟩
    refine ⟨_, rfl, rfl, _, rfl, ?_⟩
    have nc : ∀ {p : Prop}, false = true → p := fun z => Bool.noConfusion z
    have nd : ∀ {p : Prop}, true = false → p := fun z => Bool.noConfusion z
    by_cases e0 : wh = 0
    · subst e0
      rw [decide_eq_true (show V.int 0 = V.int 0 from rfl)]
      refine ⟨_, rfl, _, rfl, v, d, n, k, rfl, hd, hg, hn, ?_⟩
      rcases q with ⟨q0, q⟩ | ⟨⟨_, q0⟩ | ⟨z, _⟩ | ⟨z, _⟩, q⟩ | ⟨⟨_, n', j, rows, rfl, rfl, wf, n8, j1, j2, nj⟩ | ⟨z, _⟩ | ⟨z, _⟩, q⟩
      · exact .inl ⟨q0, fun H1 s1 => ⟨true, T.exm_BadBlock_BadBlock, fun _ a na => q H1 s1, fun z => nd z⟩⟩
      · exact .inr (.inl ⟨q0, fun H1 s1 => ⟨false, T.exm_BadScheme_BadBlock, fun z => nc z, fun _ => ⟨true, T.exm_BadScheme_BadScheme, fun _ a na => q H1 s1, fun z => nd z⟩⟩⟩)
      · cases z
      · cases z
      · exact .inr (.inr ⟨n', j, rows, rfl, rfl, wf, n8, j1, j2, nj, fun v' H1 s1 _ => q H1 s1⟩)
      · cases z
      · cases z
    rw [ne_int e0]
    refine ⟨_, rfl, rfl, _, rfl, ?_⟩
    by_cases e1 : wh = 1
    · subst e1
      rw [decide_eq_true (show V.int 1 = V.int 1 from rfl)]
      refine ⟨_, rfl, _, rfl, v, d, n, k, rfl, hd, hg, hn, ?_⟩
      rcases q with ⟨q0, q⟩ | ⟨⟨z, _⟩ | ⟨_, q0⟩ | ⟨z, _⟩, q⟩ | ⟨⟨z, _⟩ | ⟨_, n', l, m, j, tabs, rfl, rfl, wf, j1, j2, jm⟩ | ⟨z, _⟩, q⟩
      · exact .inl ⟨q0, fun H1 s1 => ⟨true, T.exm_BadBlock_BadBlock, fun _ a na => q H1 s1, fun z => nd z⟩⟩
      · cases z
      · exact .inr (.inl ⟨q0, fun H1 s1 => ⟨false, T.exm_BadScheme_BadBlock, fun z => nc z, fun _ => ⟨true, T.exm_BadScheme_BadScheme, fun _ a na => q H1 s1, fun z => nd z⟩⟩⟩)
      · cases z
      · cases z
      · exact .inr (.inr ⟨n', l, m, j, tabs, rfl, rfl, wf, j1, j2, jm, fun v' H1 s1 _ => q H1 s1⟩)
      · cases z
    rw [ne_int e1]
    refine ⟨_, rfl, rfl, _, rfl, ?_⟩
    by_cases e2 : wh = 2
    · subst e2
      rw [decide_eq_true (show V.int 2 = V.int 2 from rfl)]
      refine ⟨_, rfl, v, d, n, rfl, hd, hg, hn, ?_⟩
      rcases q with ⟨q0, q⟩ | ⟨⟨z, _⟩ | ⟨z, _⟩ | ⟨_, q0⟩, q⟩ | ⟨⟨z, _⟩ | ⟨z, _⟩ | ⟨_, n', m, rows, rfl, wf, n5, m40⟩, q⟩
      · exact .inl ⟨q0, fun H1 s1 => ⟨true, T.exm_BadBlock_BadBlock, fun _ a na => q H1 s1, fun z => nd z⟩⟩
      · cases z
      · cases z
      · exact .inr (.inl ⟨q0, fun H1 s1 => ⟨false, T.exm_BadScheme_BadBlock, fun z => nc z, fun _ => ⟨true, T.exm_BadScheme_BadScheme, fun _ a na => q H1 s1, fun z => nd z⟩⟩⟩)
      · cases z
      · cases z
      · exact .inr (.inr ⟨n', m, rows, rfl, wf, n5, m40, fun v' H1 s1 _ => q H1 s1⟩)
    rw [ne_int e2]
    refine ⟨_, rfl, rfl, _, rfl, ?_⟩
    have qb : blockOk d = false ∧ ∀ H', Same H H' → Q (.str "block") H' := by
      rcases q with q | ⟨⟨z, _⟩ | ⟨z, _⟩ | ⟨z, _⟩, _⟩ | ⟨⟨z, _⟩ | ⟨z, _⟩ | ⟨z, _⟩, _⟩
      · exact q
      · exact absurd z e0
      · exact absurd z e1
      · exact absurd z e2
      · exact absurd z e0
      · exact absurd z e1
      · exact absurd z e2
    by_cases e3 : wh = 3
    · subst e3
      rw [decide_eq_true (show V.int 3 = V.int 3 from rfl)]
      exact ⟨_, rfl, v, d, n, "0", rfl, hd, hg, hn, .inl ⟨qb.1, fun H1 s1 => ⟨true, T.exm_BadBlock_BadBlock, fun _ a na => qb.2 H1 s1, fun z => nd z⟩⟩⟩
    · rw [ne_int e3]
      exact ⟨_, rfl, v, d, n, "0", "0", rfl, hd, hg, hn, .inl ⟨qb.1, fun H1 s1 => ⟨true, T.exm_BadBlock_BadBlock, fun _ a na => qb.2 H1 s1, fun z => nd z⟩⟩⟩

theorem ok_looks {f : Addr} {fd : FuncData} (D : Df K mg "_law_looks_right" s_law_looks_right ["block", "function"] f fd) (T : Txt K mg cs) (c_row_of : Cl P w K mg base (L2.CX P w) 5 "row_of" (spRow K cs.BadBlock)) (c_value_of : Cl P w K mg base (L2.CX P w) 5 "value_of" (spVal K cs.BadBlock))
    (c_law_bits : Cl P w K mg base CX0 1 "_law_bits" spBits) (c_law_same : Cl P w K mg base CX0 5 "_law_same" (spSame K 3)) : FnOk P w K mg base CX0 6 f fd ["block", "function"] (spLooks K) := by
  refine D.fn.ok sc_law_looks_right (fun vs H Q E h => ?_) (fun cdv A outer s H vs Q E hr h => ?_)
  · obtain ⟨v, w', n, m, n', l', m', rows, tabs, rfl, _⟩ := h
    rfl
  · obtain ⟨v, w', n, m, n', l', m', rows, tabs, rfl, hd, wf, hf, wff, q⟩ := h
    refine ⟨_, (pss_cons (ps_for PassesOwn.never rfl (pi_range1 (by rfl) T.n_range (pa_cons (pe_op op_shl pe_int (pe_ix (ixT K) (pv 0) pe_int (fun _ _ => rfl))) pa_nil)) (pg_name (i := 2) sc_law_looks_right.nd rfl (.inl rfl)) (pss_one (ps_if (pt_not (pt_val (pe_cl c_law_same hr (by first | decide | omega) (by rfl) (pa_cons (pe_clX c_row_of hr (by first | decide | omega) (by rfl) takes0 (pa_cons (pv 0) (pa_cons (pe_cl c_law_bits hr (by first | decide | omega) (by rfl) (pa_cons (pe_ix (ixT K) (pv 0) pe_int (fun _ _ => rfl)) (pa_cons (pv 2) pa_nil))) pa_nil))) (pa_cons (pe_ix (ixT K) (pe_ix (ixT K) (pv 0) pe_int (fun _ _ => rfl)) (pv 2) (fun _ _ => rfl)) pa_nil))))) (pss_one (ps_ret pe_bl)) pss_nil))) (pss_cons (ps_for PassesOwn.never rfl (pi_range1 (by rfl) T.n_range (pa_cons (pe_op op_shl pe_int (pe_ix (ixT K) (pv 1) pe_int (fun _ _ => rfl))) pa_nil)) (pg_name (i := 3) sc_law_looks_right.nd rfl (.inl rfl)) (pss_one (ps_for PassesOwn.never rfl (pi_range1 (by rfl) T.n_range (pa_cons (pe_op op_shl pe_int (pe_ix (ixT K) (pv 1) pe_int (fun _ _ => rfl))) pa_nil)) (pg_name (i := 2) sc_law_looks_right.nd rfl (.inl rfl)) (pss_cons (ps_set (i := 4) sc_law_looks_right.nd rfl (.inl rfl) (pe_clX c_value_of hr (by first | decide | omega) (by rfl) takes0 (pa_cons (pv 1) (pa_cons (pe_cl c_law_bits hr (by first | decide | omega) (by rfl) (pa_cons (pe_ix (ixT K) (pv 1) pe_int (fun _ _ => rfl)) (pa_cons (pv 3) pa_nil))) (pa_cons (pe_cl c_law_bits hr (by first | decide | omega) (by rfl) (pa_cons (pe_ix (ixT K) (pv 1) pe_int (fun _ _ => rfl)) (pa_cons (pv 2) pa_nil))) pa_nil))))) (pss_one (ps_if (pt_not (pt_val (pe_cl c_law_same hr (by first | decide | omega) (by rfl) (pa_cons (pv 4) (pa_cons (pe_ix (ixT K) (pe_ix (ixT K) (pe_ix (ixT K) (pv 1) pe_int (fun _ _ => rfl)) (pv 3) (fun _ _ => rfl)) (pv 2) (fun _ _ => rfl)) pa_nil))))) (pss_one (ps_ret pe_bl)) pss_nil)))))) (pss_one (ps_ret pe_bl)))), ?_⟩
    obtain ⟨a, r, rfl, hT, hR⟩ := dp_tab hd
    obtain ⟨b, t, rfl, hU, hV⟩ := dp_fun hf
    have hp := two_pow_le (b := 10) wf.n2
    have hn10 := wf.n2
    have hm40 := wf.m2
    have hn8 := wff.n2
    have hl8 := wff.l2
    have hm40' := wff.m2
    have hpn := two_pow_le (b := 8) hn8
    have hpl := two_pow_le (b := 8) hl8
    have hlen := wf.len
    have hlen' := wff.len
    refine ⟨_, rfl, a, _, 1, _, rfl, rfl, hT, rfl, _, _, rfl, rfl, ⟨by omega, by omega, by decide⟩, _, rfl, ?_⟩
    rw [shl_one]
    have hN' : ∃ N : Nat, 2 ^ n = N := ⟨_, rfl⟩
    obtain ⟨N, hN⟩ := hN'
    rw [hN] at hp ⊢
    refine ⟨by omega, by omega, for_range (lo := 0) (n := _) (fun i σ H' => ∃ y2 : Option V, σ = [some (.ref a), some (.ref b), y2, none, none] ∧ Same H H') ?_ ?_ ?_⟩
    · exact ⟨_, rfl, Same.refl _⟩
    · rintro i σ H' hi ⟨y2, rfl, s1⟩
      have hil : i < rows.length := by omega
      have hT1 := same_sqt s1 hT
      have eg : rows.getD i [] = rows[i] := by
        rw [List.getD_eq_getElem?_getD, List.getElem?_eq_getElem hil]
        rfl
      have hvi : val (toB n i) = i := val_toB n i (by rw [hN]; omega)
      refine ⟨_, rfl, _, rfl, a, _, 1, _, rfl, rfl, hT1, rfl, _, rfl, n, i, ?_, by omega, by rw [hN]; omega, ?_⟩
      · show [V.int (n : Int), V.int (0 + (i : Int))] = _
        rw [Int.zero_add]
      refine ⟨.ref a, _, 2, _, rfl, dp_same s1 _ hd, pl_gd wf.pl, by decide, .inr ⟨n, m, rows, toB n i, rfl, rfl, toB_len _ _, wf, fun H2 s2 => ?_⟩⟩
      rw [hvi, eg]
      have s12 := s1.trans s2
      refine ⟨_, rfl, a, _, 3, _, rfl, rfl, same_sqt s12 hT, rfl, _, rfl, r, _, _, _, rfl, rfl, same_sqt s12 hR, (by rw [Int.zero_add]; exact atI_nat (getD_row hil)), ?_⟩
      rw [eg]
      refine ⟨_, _, .str (sb rows[i]), rfl, .str _, .str _, pl_str.mpr (okT_sb (by rw [wf.row _ (List.getElem_mem hil)]; omega)), _, rfl, ?_⟩
      exact ⟨_, rfl, s12⟩
    · rintro σ H1 ⟨y2, rfl, s1⟩
      have hU1 := same_sqt s1 hU
      refine ⟨_, rfl, b, _, 1, _, rfl, rfl, hU1, rfl, _, _, rfl, rfl, ⟨by omega, by omega, by decide⟩, _, rfl, ?_⟩
      rw [shl_one]
      have hM' : ∃ N : Nat, 2 ^ n' = N := ⟨_, rfl⟩
      obtain ⟨M, hM⟩ := hM'
      rw [hM] at hpn ⊢
      refine ⟨by omega, by omega, for_range (lo := 0) (n := _) (fun i σ H' => ∃ y2 y3 y4 : Option V, σ = [some (.ref a), some (.ref b), y2, y3, y4] ∧ Same H H') ?_ ?_ ?_⟩
      · exact ⟨_, _, _, rfl, s1⟩
      · rintro i σ H' hi ⟨y2, y3, y4, rfl, s2⟩
        have hU2 := same_sqt s2 hU
        refine ⟨_, rfl, b, _, 2, _, rfl, rfl, hU2, rfl, _, _, rfl, rfl, ⟨by omega, by omega, by decide⟩, _, rfl, ?_⟩
        rw [shl_one]
        have hL' : ∃ N : Nat, 2 ^ l' = N := ⟨_, rfl⟩
        obtain ⟨L, hL⟩ := hL'
        rw [hL] at hpl ⊢
        refine ⟨by omega, by omega, for_range (lo := 0) (n := _) (fun j σ H' => ∃ y2 y4 : Option V, σ = [some (.ref a), some (.ref b), y2, some (.int (0 + (i : Int))), y4] ∧ Same H H') ?_ ?_ ?_⟩
        · exact ⟨_, _, rfl, s2⟩
        · rintro j σ H3 hj ⟨y2, y4, rfl, s3⟩
          have hil : i < tabs.length := by omega
          have hrows := wff.row _ (List.getElem_mem hil)
          have hjl : j < (tabs[i]).length := by omega
          have eg : tabs.getD i [] = tabs[i] := by
            rw [List.getD_eq_getElem?_getD, List.getElem?_eq_getElem hil]
            rfl
          have eg2 : (tabs[i]).getD j [] = (tabs[i])[j] := by
            rw [List.getD_eq_getElem?_getD, List.getElem?_eq_getElem hjl]
            rfl
          have hvi : val (toB n' i) = i := val_toB n' i (by rw [hM]; omega)
          have hvj : val (toB l' j) = j := val_toB l' j (by rw [hL]; omega)
          have hU3 := same_sqt s3 hU
          refine ⟨_, rfl, _, rfl, b, _, 1, _, rfl, rfl, hU3, rfl, _, rfl, n', i, ?_, by omega, by rw [hM]; omega, ?_⟩
          · show [V.int (n' : Int), V.int (0 + (i : Int))] = _
            rw [Int.zero_add]
          refine ⟨_, rfl, b, _, 2, _, rfl, rfl, hU3, rfl, _, rfl, l', j, ?_, by omega, by rw [hL]; omega, ?_⟩
          · show [V.int (l' : Int), V.int (0 + (j : Int))] = _
            rw [Int.zero_add]
          refine ⟨.ref b, _, 3, _, _, rfl, dp_same s3 _ hf, pl_gd wff.pl, by decide, .inr ⟨n', l', m', tabs, toB n' i, toB l' j, rfl, rfl, rfl, toB_len _ _, toB_len _ _, wff, fun H4 s4 => ?_⟩⟩
          rw [hvi, hvj, eg, eg2]
          have s34 := s3.trans s4
          obtain ⟨us, hT4, hul, hat⟩ := tabs_at (dp_same s34 _ hV)
          obtain ⟨r4, hr4, hR4⟩ := hat i hil
          refine ⟨_, rfl, _, rfl, b, _, 4, _, rfl, rfl, same_sqt s34 hU, rfl, _, rfl, t, us, _, _, rfl, rfl, hT4, (by rw [Int.zero_add]; exact atI_nat hr4), _, rfl, r4, _, _, _, rfl, rfl, hR4, (by rw [Int.zero_add]; exact atI_nat (getD_row hjl)), ?_⟩
          rw [eg2]
          refine ⟨_, _, .str (sb (tabs[i])[j]), rfl, .str _, .str _, pl_str.mpr (okT_sb (by rw [hrows.2 _ (List.getElem_mem hjl)]; omega)), _, rfl, ?_⟩
          exact ⟨_, _, rfl, s34⟩
        · rintro σ H3 ⟨y2, y4, rfl, s3⟩
          exact ⟨_, _, _, rfl, s3⟩
      · rintro σ H3 ⟨y2, y3, y4, rfl, s3⟩
        exact q H3 s3

theorem ok_edges4 {f : Addr} {fd : FuncData} (D : Df K mg "_law_edges_right" s_law_edges_right ["hand"] f fd) (T : Txt K mg cs) (c_law_take : Cl P w K mg base CX0 1 "_law_take" spTake) (c_law_told : Cl P w K mg base CX0 6 "_law_told" (spTold4 K)) : FnOk P w K mg base CX0 7 f fd ["hand"] spEdges := by
  refine D.fn.ok sc_law_edges_right (fun vs H Q E h => ?_) (fun cdv A outer s H vs Q E hr h => ?_)
  · obtain ⟨a, d, rfl, _⟩ := h
    rfl
  · obtain ⟨a, d, rfl, hh, q⟩ := h
    refine ⟨_, (pss_cons (ps_set (i := 1) sc_law_edges_right.nd rfl (.inl rfl) (pe_tup (pa_cons pe_str (pa_cons pe_int (pa_cons pe_int (pa_cons (pe_op (op_rep1 K) (pe_tup (pa_cons (pe_op op_repS pe_str pe_int) pa_nil)) pe_int) pa_nil)))))) (pss_cons (ps_set (i := 2) sc_law_edges_right.nd rfl (.inl rfl) (pe_tup (pa_cons pe_str (pa_cons pe_int (pa_cons pe_int (pa_cons (pe_op (op_rep1 K) (pe_tup (pa_cons (pe_op op_add_str (pe_op op_repS pe_str pe_int) pe_str) pa_nil)) pe_int) pa_nil)))))) (pss_cons (ps_set (i := 3) sc_law_edges_right.nd rfl (.inl rfl) (pe_tup (pa_cons pe_str (pa_cons pe_int (pa_cons pe_int (pa_cons (pe_op (op_rep1 K) (pe_tup (pa_cons pe_str pa_nil)) pe_int) pa_nil)))))) (pss_cons (ps_if (PW.pt (pw_or (pt_cmpR op_ne (pe_cl c_law_told hr (by first | decide | omega) (by rfl) (pa_cons pe_int (pa_cons (pv 1) (pa_cons pe_int pa_nil)))) pe_str (nomark _)) (pw_or (pt_cmpR op_ne (pe_cl c_law_told hr (by first | decide | omega) (by rfl) (pa_cons pe_int (pa_cons (pv 2) (pa_cons pe_int pa_nil)))) pe_str (nomark _)) (pw_or1 (pt_cmpR op_ne (pe_cl c_law_told hr (by first | decide | omega) (by rfl) (pa_cons pe_int (pa_cons (pv 3) (pa_cons pe_int pa_nil)))) pe_str (nomark _)))))) (pss_one (ps_ret pe_bl)) pss_nil) (pss_cons (ps_set (i := 1) sc_law_edges_right.nd rfl (.inl rfl) (pe_tup (pa_cons pe_str (pa_cons pe_int (pa_cons pe_int (pa_cons (pe_op (op_rep1 K) (pe_tup (pa_cons pe_str pa_nil)) pe_int) pa_nil)))))) (pss_cons (ps_if (pt_cmpR op_ne (pe_cl c_law_told hr (by first | decide | omega) (by rfl) (pa_cons pe_int (pa_cons (pv 1) (pa_cons pe_int pa_nil)))) pe_str (nomark _)) (pss_one (ps_ret pe_bl)) pss_nil) (pss_cons (ps_set (i := 4) sc_law_edges_right.nd rfl (.inl rfl) (pe_ix (ixL K) (pe_lst (pa_cons pe_int (pa_cons pe_int (pa_cons pe_int pa_nil)))) (pe_cl c_law_take hr (by first | decide | omega) (by rfl) (pa_cons (pv 0) (pa_cons pe_int pa_nil))) (fun _ _ => rfl))) (pss_cons (ps_set (i := 5) sc_law_edges_right.nd rfl (.inl rfl) (pe_tup (pa_cons pe_str (pa_cons (pv 4) (pa_cons (pe_op op_mul pe_int (pv 4)) (pa_cons (pe_op (op_rep1 K) (pe_tup (pa_cons (pe_op op_repS pe_str (pv 4)) pa_nil)) (pe_op op_shl pe_int (pv 4))) pa_nil)))))) (pss_cons (ps_if (PW.pt (pw_or (pt_cmpR op_ne (pe_cl c_law_told hr (by first | decide | omega) (by rfl) (pa_cons pe_int (pa_cons (pv 5) (pa_cons (pe_op op_sub pe_int (pv 4)) pa_nil)))) pe_str (nomark _)) (pw_or1 (PW.pt (pw_and (pt_cmpR op_eq (pv 4) pe_int (nomark _)) (pw_and1 (pt_cmpR op_ne (pe_cl c_law_told hr (by first | decide | omega) (by rfl) (pa_cons pe_int (pa_cons (pv 5) (pa_cons pe_int pa_nil)))) pe_str (nomark _)))))))) (pss_one (ps_ret pe_bl)) pss_nil) (pss_cons (ps_set (i := 6) sc_law_edges_right.nd rfl (.inl rfl) (pe_tup (pa_cons pe_str (pa_cons pe_int (pa_cons pe_int (pa_cons pe_int (pa_cons (pe_op (op_rep1 K) (pe_tup (pa_cons (pe_op (op_rep1 K) (pe_tup (pa_cons pe_str pa_nil)) pe_int) pa_nil)) pe_int) pa_nil))))))) (pss_one (ps_ret (pe_and (pe_cmpR op_eq (pe_cl c_law_told hr (by first | decide | omega) (by rfl) (pa_cons pe_int (pa_cons (pv 6) (pa_cons pe_int pa_nil)))) pe_str (nomark _)) (pe_one (pe_cmpR op_eq (pe_cl c_law_told hr (by first | decide | omega) (by rfl) (pa_cons pe_int (pa_cons (pv 6) (pa_cons pe_int pa_nil)))) pe_str (nomark _)))))))))))))))), ?_⟩
    have te : ∀ x : Str, decide (V.str x = V.str x) = true := fun x => decide_eq_true rfl
    have z1 : ∀ k : Nat, k ≤ 10 → k ≤ sizeLine := fun k h => by
      rw [sizeLine_eq]
      omega
    -- wide
    refine ⟨[48, 49], 17, rfl, rfl, ⟨by decide, by decide, by decide⟩, z1 1 (by decide), fun p1 np1 => ⟨p1, 32, _, rfl, rfl, .inl (.inl upd_same), by decide, by decide, fun t1 H1 s1 t1' => ⟨z1 4 (by decide), fun g1 ng1 => ?_⟩⟩⟩
    have w1 := wf_rep (n := 5) (m := 34) (bs := alt 17) (by decide) (by decide) (by decide) (by decide) (alt_len 17)
    have d1 := tab_dp (K := K) (H := upd H1 g1 (.tup [.str "generator", .int 5, .int 34, .ref t1])) (a := g1) (r := t1) (n := 5) (m := 34) (rows := List.replicate (2 ^ 5) (alt 17)) (.inl (.inl upd_same)) (same_sqt (same_new ng1) (by rw [alt_sb] at t1'; exact t1'))
    have s1' := ((same_new np1).trans s1).trans (same_new (o := .tup [.str "generator", .int 5, .int 34, .ref t1]) ng1)
    generalize upd H1 g1 (.tup [.str "generator", .int 5, .int 34, .ref t1]) = G1 at d1 s1' ⊢
    have h1 := hh.same s1'
    clear s1' np1 s1 t1' ng1
    -- wider
    refine ⟨[48, 49], 17, rfl, rfl, ⟨by decide, by decide, by decide⟩, _, _, rfl, rfl, (by rw [alt_sb, sb_len, sizeLine_eq]; decide +kernel), z1 1 (by decide), fun p1 np1 => ⟨p1, 32, _, rfl, rfl, .inl (.inl upd_same), by decide, by decide, fun t2 H1 s1 t1' => ⟨z1 4 (by decide), fun g2 ng1 => ?_⟩⟩⟩
    have w2 := wf_rep (n := 5) (m := 35) (bs := alt 17 ++ [true]) (by decide) (by decide) (by decide) (by decide) (by rw [List.length_append, alt_len]; rfl)
    have e17 : sb (alt 17) ++ ("1" : Str) = sb (alt 17 ++ [true]) := sb_cat _ [true]
    have d2 := tab_dp (K := K) (H := upd H1 g2 (.tup [.str "generator", .int 5, .int 35, .ref t2])) (a := g2) (r := t2) (n := 5) (m := 35) (rows := List.replicate (2 ^ 5) (alt 17 ++ [true])) (.inl (.inl upd_same)) (same_sqt (same_new ng1) (by rw [alt_sb, show sb (alt (Int.toNat 17)) ++ Str.ofString "1" = sb (alt 17 ++ [true]) from e17] at t1'; exact t1'))
    have s1' := ((same_new np1).trans s1).trans (same_new (o := .tup [.str "generator", .int 5, .int 35, .ref t2]) ng1)
    generalize upd H1 g2 (.tup [.str "generator", .int 5, .int 35, .ref t2]) = G2 at d2 s1' ⊢
    have h2 := h1.same s1'
    replace d1 := dp_same s1' _ d1
    clear s1' np1 s1 t1' ng1
    -- deep
    refine ⟨z1 1 (by decide), fun p1 np1 => ⟨p1, 64, _, rfl, rfl, .inl (.inl upd_same), by decide, by decide, fun t3 H1 s1 t1' => ⟨z1 4 (by decide), fun g3 ng1 => ?_⟩⟩⟩
    have w3 := wf_rep (n := 6) (m := 7) (bs := [false, true, false, true, false, true, false]) (by decide) (by decide) (by decide) (by decide) rfl
    have e7 : ("0101010" : Str) = sb [false, true, false, true, false, true, false] := by decide +kernel
    have d3 := tab_dp (K := K) (H := upd H1 g3 (.tup [.str "generator", .int 6, .int 7, .ref t3])) (a := g3) (r := t3) (n := 6) (m := 7) (rows := List.replicate (2 ^ 6) [false, true, false, true, false, true, false]) (.inl (.inl upd_same)) (same_sqt (same_new ng1) (by rw [e7] at t1'; exact t1'))
    have s1' := ((same_new np1).trans s1).trans (same_new (o := .tup [.str "generator", .int 6, .int 7, .ref t3]) ng1)
    generalize upd H1 g3 (.tup [.str "generator", .int 6, .int 7, .ref t3]) = G3 at d3 s1' ⊢
    have h3 := h2.same s1'
    replace d1 := dp_same s1' _ d1
    replace d2 := dp_same s1' _ d2
    clear s1' np1 s1 t1' ng1 h1 h2
    -- told
    refine ⟨_, rfl, .ref g1, _, 2, 2, 0, rfl, ⟨by decide, by decide⟩, d1, pl_gd w1.pl, by decide, .inr (.inr ⟨.inr (.inr ⟨rfl, 5, 34, _, rfl, w1, by decide, by decide⟩), fun H1 s1 => ⟨rfl, _, rfl, ?_⟩⟩)⟩
    rw [te]
    refine ⟨_, rfl, .ref g2, _, 2, 2, 0, rfl, ⟨by decide, by decide⟩, dp_same s1 _ d2, pl_gd w2.pl, by decide, .inr (.inl ⟨.inr (.inr ⟨rfl, .inr ⟨5, 35, _, rfl, w2, .inr (by decide)⟩⟩), fun H2 s2 => ⟨rfl, _, rfl, ?_⟩⟩)⟩
    rw [te]
    refine ⟨_, rfl, .ref g3, _, 2, 2, 0, rfl, ⟨by decide, by decide⟩, dp_same (s1.trans s2) _ d3, pl_gd w3.pl, by decide, .inr (.inl ⟨.inr (.inr ⟨rfl, .inr ⟨6, 7, _, rfl, w3, .inl (by decide)⟩⟩), fun H3 s3 => ⟨rfl, _, rfl, ?_⟩⟩)⟩
    rw [te]
    have h4 := h3.same ((s1.trans s2).trans s3)
    clear s1 s2 s3 d1 d2 d3 h3 w1 w2 w3
    -- wide, once more
    refine ⟨z1 1 (by decide), fun p1 np1 => ⟨p1, 512, _, rfl, rfl, .inl (.inl upd_same), by decide, by decide, fun t4 H1 s1 t1' => ⟨z1 4 (by decide), fun g4 ng1 => ?_⟩⟩⟩
    have w4 := wf_rep (n := 9) (m := 18) (bs := alt 9) (by decide) (by decide) (by decide) (by decide) (alt_len 9)
    have e18 : ("010101010101010101" : Str) = sb (alt 9) := by decide +kernel
    have d4 := tab_dp (K := K) (H := upd H1 g4 (.tup [.str "generator", .int 9, .int 18, .ref t4])) (a := g4) (r := t4) (n := 9) (m := 18) (rows := List.replicate (2 ^ 9) (alt 9)) (.inl (.inl upd_same)) (same_sqt (same_new ng1) (by rw [e18] at t1'; rw [show List.map (fun r => V.str (sb r)) (List.replicate (2 ^ 9) (alt 9)) = List.replicate (2 ^ 9) (V.str (sb (alt 9))) from rowV_rep _ _]; exact t1'))
    have s1' := ((same_new np1).trans s1).trans (same_new (o := .tup [.str "generator", .int 9, .int 18, .ref t4]) ng1)
    generalize upd H1 g4 (.tup [.str "generator", .int 9, .int 18, .ref t4]) = G4 at d4 s1' ⊢
    have h5 := h4.same s1'
    clear s1' np1 s1 t1' ng1 h4
    refine ⟨_, rfl, .ref g4, _, 2, 0, 1, rfl, ⟨by decide, by decide⟩, d4, pl_gd w4.pl, by decide, .inr (.inl ⟨.inl ⟨rfl, .inr ⟨9, 18, _, rfl, w4, .inr (.inl (by decide))⟩⟩, fun H1 s1 => ⟨rfl, _, rfl, ?_⟩⟩)⟩
    rw [te]
    replace h5 := h5.same s1
    clear d4 w4 s1
    -- n
    refine ⟨z1 3 (by decide), fun L nL => ⟨_, rfl, a, d, 3, rfl, by decide, h5.new nL, fun r H1 l1 u1 h6 k1 => ?_⟩⟩
    obtain ⟨y, hat, hm⟩ := atI_mem (xs := [.int 4, .int 5, .int 8]) l1 u1
    refine ⟨L, _, r, y, rfl, rfl, .inl (.inl (k1 _ _ upd_same (h5.ne nL).1)), hat, ?_⟩
    obtain ⟨n, rfl, n4, n8, hn⟩ : ∃ n : Nat, y = .int (n : Int) ∧ 4 ≤ n ∧ n ≤ 8 ∧ (n = 4 ∨ n = 5 ∨ n = 8) := by
      rcases List.mem_cons.mp hm with e | hm
      · exact ⟨4, e, by decide, by decide, by decide⟩
      rcases List.mem_cons.mp hm with e | hm
      · exact ⟨5, e, by decide, by decide, by decide⟩
      rcases List.mem_cons.mp hm with e | hm
      · exact ⟨8, e, by decide, by decide, by decide⟩
      exact nomatch hm
    clear hat hm l1 u1 k1 nL h5
    have hp := two_pow_le (b := 8) n8
    have hp1 : 1 ≤ 2 ^ n := Nat.one_le_two_pow
    -- block
    refine ⟨_, rfl, _, rfl, _, _, rfl, rfl, .inl ⟨by decide, by decide⟩, _, rfl, [48, 49], (n : Int), rfl, rfl, ⟨by omega, by show 2 * _ ≤ _; omega, by omega⟩, z1 1 (by decide), fun p1 np1 => ⟨_, rfl, _, _, rfl, rfl, ⟨by omega, by omega, by decide⟩, p1, _, _, rfl, rfl, .inl (.inl upd_same), ?_, ?_, fun t5 H2 s1 t1' => ⟨z1 4 (by decide), fun g5 ng1 => ?_⟩⟩⟩
    · rw [shl_one]
      generalize 2 ^ n = N at *
      omega
    · rw [shl_one]
      generalize 2 ^ n = N at *
      omega
    have w5 := wf_rep (n := n) (m := 2 * n) (bs := alt n) (by omega) (by omega) (by omega) (by omega) (alt_len n)
    have e2n : (2 : Int) * (n : Int) = ((2 * n : Nat) : Int) := by omega
    have d5 := tab_dp (K := K) (H := upd H2 g5 (.tup [.str "generator", .int (n : Int), .int (2 * (n : Int)), .ref t5])) (a := g5) (r := t5) (n := n) (m := 2 * n) (rows := List.replicate (2 ^ n) (alt n)) (.inl (.inl (by rw [upd_same, e2n]))) (same_sqt (same_new ng1) (by
      rw [shl_one, Int.toNat_natCast, Int.toNat_natCast, alt_sb] at t1'
      rw [show List.map (fun r => V.str (sb r)) (List.replicate (2 ^ n) (alt n)) = List.replicate (2 ^ n) (V.str (sb (alt n))) from rowV_rep _ _]
      exact t1'))
    have s1' := ((same_new np1).trans s1).trans (same_new (o := .tup [.str "generator", .int (n : Int), .int (2 * (n : Int)), .ref t5]) ng1)
    refine ⟨_, rfl, _, rfl, _, _, rfl, rfl, .ref g5, _, 2, 0, _, rfl, ⟨by decide, by decide⟩, d5, pl_gd w5.pl, by decide, .inr (.inl ⟨.inl ⟨rfl, .inr ⟨n, 2 * n, _, rfl, w5, .inr (.inr (.inr (by show (12 : Int) < (n : Int) + (13 - (n : Int)); omega)))⟩⟩, fun Hx sx => ⟨rfl, _, rfl, ?_⟩⟩)⟩
    rw [te]
    refine ⟨_, rfl, rfl, _, rfl, ?_⟩
    by_cases c8 : (n : Int) = 8
    case' pos =>
      rw [decide_eq_true (show V.int (n : Int) = V.int 8 by rw [c8])]
      have en : n = 8 := by omega
      subst en
      refine ⟨_, rfl, .ref g5, _, 2, 0, 4, rfl, ⟨by decide, by decide⟩, dp_same sx _ d5, pl_gd w5.pl, by decide, .inr (.inr ⟨.inl ⟨rfl, 8, 4, _, rfl, rfl, w5, by decide, by decide, by decide, by decide⟩, fun Hx sx => ⟨rfl, _, rfl, ?_⟩⟩)⟩
      rw [te]
    case' neg =>
      rw [ne_int c8]
    all_goals
      refine ⟨z1 1 (by decide), fun p1 np1 => ⟨p1, 8, _, rfl, rfl, .inl (.inl upd_same), by decide, by decide, fun t1 H1 s1 t1' => ⟨z1 1 (by decide), fun p2 np2 => ⟨p2, 2, _, rfl, rfl, .inl (.inl upd_same), by decide, by decide, fun t2 H2 s2 t2' => ⟨z1 5 (by decide), fun g ng => ?_⟩⟩⟩⟩⟩
      have wf := wff_rep (n := 1) (l := 3) (m := 10) (bs := alt 5) ⟨by decide, by decide⟩ ⟨by decide, by decide⟩ (by decide) ⟨by decide, by decide⟩ (alt_len 5)
      have e10 : ("0101010101" : Str) = sb (alt 5) := by decide +kernel
      have s12 := (same_new np2).trans s2
      have r1 : Dp K H2 (.ref t1) (rowsD (List.replicate (2 ^ 3) (alt 5))) := .tup (same_sqt s12 (by rw [e10] at t1'; exact t1')) (dp_bits _)
      have r2 : Dp K H2 (.ref t2) (tabsD (List.replicate (2 ^ 1) (List.replicate (2 ^ 3) (alt 5)))) := .tup t2' (dp_rep r1 2)
      have df := fun_dp (K := K) (H := upd H2 g (.tup [.str "function", .int 1, .int 3, .int 10, .ref t2])) (a := g) (t := t2) (n := 1) (l := 3) (m := 10) (tabs := List.replicate (2 ^ 1) (List.replicate (2 ^ 3) (alt 5))) (.inl (.inl upd_same)) (dp_same (same_new ng) _ r2)
      generalize upd H2 g (.tup [.str "function", .int 1, .int 3, .int 10, .ref t2]) = G at df ⊢
      refine ⟨_, rfl, .ref g, _, 3, 1, 4, rfl, ⟨by decide, by decide⟩, df, pl_gd wf.pl, by decide, .inr (.inr ⟨.inr (.inl ⟨rfl, 1, 3, 10, 4, _, rfl, rfl, wf, by decide, by decide, by decide⟩), fun H3 s3 => ⟨rfl, ?_⟩⟩)⟩
      rw [te]
      refine ⟨true, rfl, ?_⟩
      refine ⟨_, rfl, .ref g, _, 3, 1, 5, rfl, ⟨by decide, by decide⟩, dp_same s3 _ df, pl_gd wf.pl, by decide, .inr (.inl ⟨.inr (.inl ⟨rfl, .inr ⟨1, 3, 10, _, rfl, wf, .inr (by decide)⟩⟩), fun H4 s4 => ⟨rfl, ?_⟩⟩)⟩
      rw [te]
      exact q _

theorem ok_law4 {f : Addr} {fd : FuncData} (F : Fun K "law" "law" s_law f fd) (T : Txt K mg cs) (c_law_draws : Cl P w K mg base CX0 1 "_law_draws" (spDraws K)) (c_law_take : Cl P w K mg base CX0 1 "_law_take" spTake)
    (c_law_table : Cl P w K mg base CX0 3 "_law_table" (spTable K)) (c_law_function : Cl P w K mg base CX0 3 "_law_function" (spFunction K)) (c_law_same : Cl P w K mg base CX0 5 "_law_same" (spSame K 3))
    (c_tree : Cl P w K mg base (L2.CX P w) 5 "tree" (spTree K cs.BadBlock cs.BadScheme)) (c_counter : Cl P w K mg base (L2.CX P w) 5 "counter" (spCnt K cs.BadBlock cs.BadScheme)) (c_hardbits : Cl P w K mg base (L2.CX P w) 5 "hardbits" (spHard K cs.BadBlock cs.BadScheme))
    (c_law_tree : Cl P w K mg base CX0 2 "_law_tree" (spLawTree K)) (c_law_hardbits : Cl P w K mg base CX0 2 "_law_hardbits" (spLawHard K)) (c_law_spoilt_row : Cl P w K mg base CX0 2 "_law_spoilt_row" (spSpoilt K)) (c_law_told : Cl P w K mg base CX0 6 "_law_told" (spTold4 K))
    (c_law_looks_right : Cl P w K mg base CX0 6 "_law_looks_right" (spLooks K)) (c_law_edges_right : Cl P w K mg base CX0 7 "_law_edges_right" spEdges) : FnOk P w K mg base CX0 8 f fd ["script"] (spLaw K) := by
  refine F.ok sc_law (fun vs H Q E h => ?_) (fun cdv A outer s H vs Q E hr h => ?_)
  · obtain ⟨a, ns, rfl, _⟩ := h
    rfl
  · obtain ⟨a, ns, rfl, hS, hlen, q⟩ := h
    refine ⟨_, (pss_cons (ps_set (i := 1) sc_law.nd rfl (.inl rfl) (pe_lst (pa_cons (pe_cl c_law_draws hr (by first | decide | omega) (by rfl) (pa_cons (pv 0) (pa_cons pe_int pa_nil))) (pa_cons pe_int pa_nil)))) (pss_cons (ps_set (i := 2) sc_law.nd rfl (.inl rfl) (pe_op op_add pe_int (pe_cl c_law_take hr (by first | decide | omega) (by rfl) (pa_cons (pv 1) (pa_cons pe_int pa_nil))))) (pss_cons (ps_set (i := 3) sc_law.nd rfl (.inl rfl) (pe_cl c_law_table hr (by first | decide | omega) (by rfl) (pa_cons (pv 1) (pa_cons (pv 2) (pa_cons (pe_op op_mul pe_int (pv 2)) pa_nil))))) (pss_cons (ps_set (i := 4) sc_law.nd rfl (.inl rfl) (pe_op op_add pe_int (pe_cl c_law_take hr (by first | decide | omega) (by rfl) (pa_cons (pv 1) (pa_cons pe_int pa_nil))))) (C8.pss_cut (ps_if (pt_cmpR op_eq (pv 2) pe_int (nomark _)) (pss_one (ps_set (i := 4) sc_law.nd rfl (.inl rfl) (pe_op op_add pe_int (pe_cl c_law_take hr (by first | decide | omega) (by rfl) (pa_cons (pv 1) (pa_cons pe_int pa_nil)))))) pss_nil) (pss_cons (ps_if (pt_not (pt_val (pe_cl c_law_same hr (by first | decide | omega) (by rfl) (pa_cons (pe_clX c_tree hr (by first | decide | omega) (by rfl) takes0 (pa_cons (pv 3) (pa_cons (pv 4) pa_nil))) (pa_cons (pe_cl c_law_tree hr (by first | decide | omega) (by rfl) (pa_cons (pv 3) (pa_cons (pv 4) pa_nil))) pa_nil))))) (pss_one (ps_ret pe_bl)) pss_nil) (pss_cons (ps_set (i := 5) sc_law.nd rfl (.inl rfl) (pe_cl c_law_function hr (by first | decide | omega) (by rfl) (pa_cons (pv 1) (pa_cons (pe_op op_add pe_int (pe_cl c_law_take hr (by first | decide | omega) (by rfl) (pa_cons (pv 1) (pa_cons pe_int pa_nil)))) (pa_cons (pe_op op_add pe_int (pe_cl c_law_take hr (by first | decide | omega) (by rfl) (pa_cons (pv 1) (pa_cons pe_int pa_nil)))) (pa_cons (pe_op op_add pe_int (pe_cl c_law_take hr (by first | decide | omega) (by rfl) (pa_cons (pv 1) (pa_cons pe_int pa_nil)))) pa_nil)))))) (pss_cons (ps_set (i := 6) sc_law.nd rfl (.inr rfl) (pe_op op_add pe_int (pe_cl c_law_take hr (by first | decide | omega) (by rfl) (pa_cons (pv 1) (pa_cons (pe_op op_shl pe_int (pe_ix (ixT K) (pv 5) pe_int (fun _ _ => rfl))) pa_nil))))) (pss_cons (ps_set (i := 7) sc_law.nd rfl (.inl rfl) (pe_callTy (tupOf K) (by rfl) T.n_tuple (by decide +kernel) (pa_cons (pe_lc (own := [("values", 12)]) (g := gName 12) (tt := tYes) rfl sc_law.nd (pi_tup (pe_ix (ixT K) (pv 5) pe_int (fun _ _ => rfl))) (blkOk_by (own := [("values", 12)]) (N := ["script", "hand", "n", "block", "d", "function", "c", "rows", "other", "bad", "which", "far", "values"]) (sc := defScope s_law) (by decide +kernel)) (fun _ _ _ _ _ => (pg_name (i := 12) sc_law.nd rfl (.inl rfl))) (fun _ _ _ _ _ => pts_nil) (fun _ _ _ _ _ => (pe_m1 PySem.F.slot_str_join PySem.F.type_str_join (mtJoin K) pe_str (pe_slice (slTA K) (pv 12) po_none (po_some (pv 6)))))) pa_nil))) (pss_cons (ps_if (pt_not (pt_val (pe_cl c_law_same hr (by first | decide | omega) (by rfl) (pa_cons (pe_clX c_counter hr (by first | decide | omega) (by rfl) takes0 (pa_cons (pv 5) (pa_cons (pv 6) pa_nil))) (pa_cons (pe_tup (pa_cons pe_str (pa_cons (pe_ix (ixT K) (pv 5) pe_int (fun _ _ => rfl)) (pa_cons (pe_op op_mul (pv 6) (pe_ix (ixT K) (pv 5) pe_int (fun _ _ => rfl))) (pa_cons (pv 7) pa_nil))))) pa_nil))))) (pss_one (ps_ret pe_bl)) pss_nil) (pss_cons (ps_set (i := 8) sc_law.nd rfl (.inl rfl) (pe_cl c_law_table hr (by first | decide | omega) (by rfl) (pa_cons (pv 1) (pa_cons (pe_op op_add pe_int (pe_cl c_law_take hr (by first | decide | omega) (by rfl) (pa_cons (pv 1) (pa_cons pe_int pa_nil)))) (pa_cons (pe_op op_add pe_int (pe_cl c_law_take hr (by first | decide | omega) (by rfl) (pa_cons (pv 1) (pa_cons pe_int pa_nil)))) pa_nil))))) (pss_cons (ps_if (pt_not (pt_val (pe_cl c_law_same hr (by first | decide | omega) (by rfl) (pa_cons (pe_clX c_hardbits hr (by first | decide | omega) (by rfl) takes0 (pa_cons (pv 8) pa_nil)) (pa_cons (pe_cl c_law_hardbits hr (by first | decide | omega) (by rfl) (pa_cons (pv 8) pa_nil)) pa_nil))))) (pss_one (ps_ret pe_bl)) pss_nil) (pss_cons (ps_if (PW.pt (pw_or (pt_not (pt_val (pe_cl c_law_looks_right hr (by first | decide | omega) (by rfl) (pa_cons (pv 3) (pa_cons (pv 5) pa_nil))))) (pw_or1 (pt_not (pt_val (pe_cl c_law_looks_right hr (by first | decide | omega) (by rfl) (pa_cons (pv 8) (pa_cons (pe_cl c_law_tree hr (by first | decide | omega) (by rfl) (pa_cons (pv 3) (pa_cons (pe_op op_add pe_int (pe_callTy call_int1 (by rfl) T.n_int (by decide +kernel) (pa_cons (pe_cmpR op_gt (pv 4) pe_int (nomark _)) pa_nil))) pa_nil))) pa_nil)))))))) (pss_one (ps_ret pe_bl)) pss_nil) (pss_cons (ps_set (i := 9) sc_law.nd rfl (.inl rfl) (pe_ix (ixL K) (pe_lst (pa_cons pe_non (pa_cons (pe_tup pa_nil) (pa_cons (pe_slice (slTA K) (pv 3) po_none (po_some pe_int)) (pa_cons (pe_tup (pa_cons pe_str (pa_cons pe_int (pa_cons pe_int (pa_cons (pe_tup (pa_cons pe_str pa_nil)) pa_nil))))) (pa_cons pe_int (pa_cons (pe_lst (pa_cons (pv 3) pa_nil)) pa_nil))))))) (pe_cl c_law_take hr (by first | decide | omega) (by rfl) (pa_cons (pv 1) (pa_cons pe_int pa_nil))) (fun _ _ => rfl))) (pss_cons (ps_for PassesOwn.never rfl (pi_range1 (by rfl) T.n_range (pa_cons pe_int pa_nil)) (pg_name (i := 10) sc_law.nd rfl (.inl rfl)) (pss_one (ps_if (PW.pt (pw_or (pt_cmpR op_ne (pe_cl c_law_told hr (by first | decide | omega) (by rfl) (pa_cons (pv 10) (pa_cons (pv 9) (pa_cons pe_int pa_nil)))) pe_str (nomark _)) (pw_or1 (pt_cmpR op_ne (pe_cl c_law_told hr (by first | decide | omega) (by rfl) (pa_cons (pv 10) (pa_cons (pe_cl c_law_spoilt_row hr (by first | decide | omega) (by rfl) (pa_cons (pv 1) (pa_cons (pv 3) pa_nil))) (pa_cons pe_int pa_nil)))) pe_str (nomark _))))) (pss_one (ps_ret pe_bl)) pss_nil))) (pss_cons (ps_if (PW.pt (pw_or (pt_cmpR op_ne (pe_cl c_law_told hr (by first | decide | omega) (by rfl) (pa_cons pe_int (pa_cons (pv 5) (pa_cons pe_int pa_nil)))) pe_str (nomark _)) (pw_or (pt_cmpR op_ne (pe_cl c_law_told hr (by first | decide | omega) (by rfl) (pa_cons pe_int (pa_cons (pv 3) (pa_cons pe_int pa_nil)))) pe_str (nomark _)) (pw_or1 (pt_cmpR op_ne (pe_cl c_law_told hr (by first | decide | omega) (by rfl) (pa_cons pe_int (pa_cons (pv 5) (pa_cons pe_int pa_nil)))) pe_str (nomark _)))))) (pss_one (ps_ret pe_bl)) pss_nil) (pss_cons (ps_for PassesOwn.never rfl (pi_list (pe_lst (pa_cons pe_int (pa_cons (pe_un un_neg pe_int) (pa_cons pe_int (pa_cons pe_int pa_nil)))))) (pg_name (i := 11) sc_law.nd rfl (.inl rfl)) (pss_one (ps_if (PW.pt (pw_or (pt_cmpR op_ne (pe_cl c_law_told hr (by first | decide | omega) (by rfl) (pa_cons pe_int (pa_cons (pv 3) (pa_cons (pv 11) pa_nil)))) pe_str (nomark _)) (pw_or1 (pt_cmpR op_ne (pe_cl c_law_told hr (by first | decide | omega) (by rfl) (pa_cons pe_int (pa_cons (pv 5) (pa_cons (pv 11) pa_nil)))) pe_str (nomark _))))) (pss_one (ps_ret pe_bl)) pss_nil))) (pss_cons (ps_if (pt_cmpR op_ne (pe_cl c_law_told hr (by first | decide | omega) (by rfl) (pa_cons pe_int (pa_cons (pv 5) (pa_cons (pe_op op_add (pe_op op_shl pe_int (pe_ix (ixT K) (pv 5) pe_int (fun _ _ => rfl))) pe_int) pa_nil)))) pe_str (nomark _)) (pss_one (ps_ret pe_bl)) pss_nil) (pss_cons (ps_if (PW.pt (pw_and (pt_cmpR op_ne (pe_ix (ixT K) (pv 8) pe_int (fun _ _ => rfl)) (pe_op op_mul pe_int (pe_ix (ixT K) (pv 8) pe_int (fun _ _ => rfl))) (nomark _)) (pw_and1 (pt_cmpR op_ne (pe_cl c_law_told hr (by first | decide | omega) (by rfl) (pa_cons pe_int (pa_cons (pv 8) (pa_cons pe_int pa_nil)))) pe_str (nomark _))))) (pss_one (ps_ret pe_bl)) pss_nil) (pss_one (ps_ret (pe_or (pe_cmpR op_gt (pe_cl c_law_take hr (by first | decide | omega) (by rfl) (pa_cons (pv 1) (pa_cons pe_int pa_nil))) pe_int (nomark _)) (pe_one (pe_cl c_law_edges_right hr (by first | decide | omega) (by rfl) (pa_cons (pv 1) pa_nil))))))))))))))))))))))))), ?_⟩
    refine ⟨_, rfl, a, ns, 400, rfl, hS, hlen, by omega, fun d ds H1 nd s1 ed hd0 => ⟨(by show 2 ≤ sizeLine; decide), fun b nb => ?_⟩⟩
    have hn1 : Hnd (upd H1 b (.lst [.ref d, .int 0])) b d := ⟨ds, 0, upd_same, by rw [upd_ne (ne_of_none ed nb)]; exact ed, hd0, ne_of_none ed nb⟩
    generalize upd H1 b (.lst [.ref d, .int 0]) = H2 at hn1
    clear nb ed nd s1 hd0
    have q1 : ∀ H', Q (.bl true) H' := q
    clear q
    have te : ∀ x : Str, decide (V.str x = V.str x) = true := fun x => decide_eq_true rfl
    have z1 : ∀ k : Nat, k ≤ 10 → k ≤ sizeLine := fun k h => by
      rw [sizeLine_eq]
      omega
    have on : ∀ {H' : Hp} {v : V} {D : PyData}, Dp K (off b H') v D → Dp K H' v D := fun h => dp_same (off_same b _) _ h
    -- n, block, d
    refine ⟨_, rfl, b, d, 3, rfl, by decide, hn1, fun r1 H3 l1 u1 hn3 k3 => ⟨_, _, rfl, rfl, ?_⟩⟩
    obtain ⟨n, en, hn⟩ : ∃ n : Nat, (1 : Int) + r1 = (n : Int) ∧ 1 ≤ n ∧ n ≤ 3 := ⟨(1 + r1).toNat, by omega, by omega, by omega⟩
    show gName 2 (V.int (1 + r1)) _ _ _
    rw [en]
    refine ⟨_, rfl, _, rfl, _, rfl, _, _, rfl, rfl, .inl ⟨by decide, by decide⟩, b, d, n, 2 * n, ?_, by omega, by omega, hn3, fun v1 rows1 H4 hl1 hr1 hd1 hn4 k4 => ?_⟩
    · show [V.ref b, V.int (n : Int), V.int (2 * (n : Int))] = _
      rw [show (2 : Int) * (n : Int) = ((2 * n : Nat) : Int) by omega]
    have wf1 : Wf n (2 * n) rows1 := ⟨hn.1, by omega, by omega, by omega, hl1, hr1⟩
    have pl1 := wf1.pl
    clear k3 k4 hn1 hn3 en l1 u1 hl1 hr1
    refine ⟨_, rfl, b, d, 4, rfl, by decide, hn4, fun r2 H5 l2 u2 hn5 k5 => ⟨_, _, rfl, rfl, ?_⟩⟩
    obtain ⟨j0, ej, hj0⟩ : ∃ n : Nat, (1 : Int) + r2 = (n : Int) ∧ 1 ≤ n ∧ n ≤ 4 := ⟨(1 + r2).toNat, by omega, by omega, by omega⟩
    show gName 4 (V.int (1 + r2)) _ _ _
    rw [ej]
    replace hd1 := dp_same k5.off _ hd1
    clear k5 ej l2 u2 hn4
    refine ⟨fun σ2 H2 => ∃ j : Nat, σ2 = [some (.ref a), some (.ref b), some (.int (n : Int)), some v1, some (.int (j : Int)), none, none, none, none, none, none, none, none] ∧ 1 ≤ j ∧ j ≤ 8 ∧ n + j ≤ 12 ∧ Dp K (off b H2) v1 (tabD n (2 * n) rows1) ∧ Hnd H2 b d, ?_, ?_⟩
    · refine ⟨_, rfl, rfl, _, rfl, ?_⟩
      by_cases c : (n : Int) = 1
      · rw [decide_eq_true (show V.int (n : Int) = V.int 1 by rw [c])]
        refine ⟨_, rfl, b, d, 8, rfl, by decide, hn5, fun r3 H6 l3 u3 hn6 k6 => ⟨_, _, rfl, rfl, ?_⟩⟩
        obtain ⟨j, ej, hj⟩ : ∃ n : Nat, (1 : Int) + r3 = (n : Int) ∧ 1 ≤ n ∧ n ≤ 8 := ⟨(1 + r3).toNat, by omega, by omega, by omega⟩
        show gName 4 (V.int (1 + r3)) _ _ _
        rw [ej]
        exact ⟨j, rfl, hj.1, hj.2, by omega, dp_same k6.off _ hd1, hn6⟩
      · rw [ne_int c]
        exact ⟨j0, rfl, hj0.1, by omega, by omega, hd1, hn5⟩
    clear hd1 hn5 hj0 j0
    rintro σ2 H5 ⟨j, rfl, j1, j2, nj, hd1, hn5⟩
    have n8 : n ≤ 8 := by omega
    -- tree
    refine ⟨_, rfl, _, rfl, v1, _, 2, (j : Int), rfl, on hd1, pl_gd pl1, by decide, .inr (.inr ⟨n, j, rows1, rfl, rfl, wf1, n8, j1, j2, nj, fun v2 H8 s8 hd2 => ?_⟩)⟩
    refine ⟨_, rfl, _, rfl, v1, n, j, rows1, rfl, dp_same s8 _ (on hd1), wf1, n8, j1, j2, fun v3 H9 s9 hd3 => ?_⟩
    refine ⟨v2, v3, _, rfl, dp_same s9 _ hd2, hd3, (wff_tree wf1 n8 j1 j2 nj).pl, _, rfl, ?_⟩
    replace hd1 := dp_same (same_off (s8.trans s9)) _ hd1
    replace hn5 := hn5.same (s8.trans s9)
    clear s8 s9 hd2 hd3
    -- function
    refine ⟨_, rfl, _, rfl, b, d, 2, rfl, by decide, hn5, fun r1 H10 l1 u1 hn10 k10 => ⟨_, _, rfl, rfl, _, rfl, b, d, 2, rfl, by decide, hn10, fun r2 H11 l2 u2 hn11 k11 => ⟨_, _, rfl, rfl, _, rfl, b, d, 4, rfl, by decide, hn11, fun r3 H12 l3 u3 hn12 k12 => ⟨_, _, rfl, rfl, ?_⟩⟩⟩⟩
    obtain ⟨n2, en, hn2⟩ : ∃ n : Nat, (1 : Int) + r1 = (n : Int) ∧ 1 ≤ n ∧ n ≤ 2 := ⟨(1 + r1).toNat, by omega, by omega, by omega⟩
    obtain ⟨l2', el, hl2⟩ : ∃ n : Nat, (1 : Int) + r2 = (n : Int) ∧ 1 ≤ n ∧ n ≤ 2 := ⟨(1 + r2).toNat, by omega, by omega, by omega⟩
    obtain ⟨m2, em, hm2⟩ : ∃ n : Nat, (1 : Int) + r3 = (n : Int) ∧ 1 ≤ n ∧ n ≤ 4 := ⟨(1 + r3).toNat, by omega, by omega, by omega⟩
    refine ⟨b, d, n2, l2', m2, ?_, by omega, by omega, by omega, hn12, fun fv tabs H13 hlt htr hdf hn13 k13 => ?_⟩
    · show [V.ref b, V.int (1 + r1), V.int (1 + r2), V.int (1 + r3)] = _
      rw [en, el, em]
    have wff : Wff n2 l2' m2 tabs := ⟨hn2.1, by omega, hl2.1, by omega, by omega, hm2.1, by omega, hlt, htr⟩
    have plf := wff.pl
    replace hd1 := dp_same (((k10.trans k11).trans k12).trans k13).off _ hd1
    clear k10 k11 k12 k13 hn5 hn10 hn11 hn12 en el em l1 u1 l2 u2 l3 u3 hlt htr
    obtain ⟨fp, ft, rfl, -, -⟩ := dp_fun hdf
    have oF : ∀ {G : Hp}, Dp K G (.ref fp) (funD n2 l2' m2 tabs) → ∃ r, SqT K G fp [.str "function", .int (n2 : Int), .int (l2' : Int), .int (m2 : Int), .ref r] ∧ Dp K G (.ref r) (tabsD tabs) := fun h => by
      obtain ⟨p, r, e, h1, h2⟩ := dp_fun h
      cases e
      exact ⟨r, h1, h2⟩
    have hpl := two_pow_le (b := 2) hl2.2
    have hpl1 : 1 ≤ 2 ^ l2' := Nat.one_le_two_pow
    -- c
    obtain ⟨ft, hT, -⟩ := oF (on hdf)
    refine ⟨_, rfl, _, rfl, fp, _, 2, _, rfl, rfl, hT, rfl, _, _, rfl, rfl, ⟨by omega, by omega, by decide⟩, b, d, _, rfl, ?_, hn13, fun r4 H14 l4 u4 hn14 k14 => ⟨_, _, rfl, rfl, ?_⟩⟩
    · rw [shl_one]
      generalize 2 ^ l2' = N at *
      omega
    rw [shl_one] at u4
    obtain ⟨c, ec, c1, c2⟩ : ∃ n : Nat, (1 : Int) + r4 = (n : Int) ∧ 1 ≤ n ∧ n ≤ 2 ^ l2' := ⟨(1 + r4).toNat, by omega, by omega, by generalize 2 ^ l2' = N at *; omega⟩
    show gName 6 (V.int (1 + r4)) _ _ _
    rw [ec]
    have c4 : c ≤ 4 := Nat.le_trans c2 hpl
    have cm : c * m2 ≤ 40 := Nat.le_trans (Nat.mul_le_mul c4 hm2.2) (by decide)
    replace hd1 := dp_same k14.off _ hd1
    replace hdf := dp_same k14.off _ hdf
    clear k14 hT ft ec l4 u4 hn13
    obtain ⟨ft, hT, hV⟩ := oF (on hdf)
    obtain ⟨us, hU, hul, hat⟩ := tabs_at hV
    -- rows
    refine ⟨_, rfl, fp, _, 4, _, rfl, rfl, hT, rfl, ft, rfl, ⟨_, hU⟩, fun Dl hD => ?_⟩
    refine lc_tup (xs := us) (fun i H' => Same H14 H' ∧ H' Dl = some (.lst (rowV (cntR c (tabs.take i))))) ?_ ?_ ?_ ?_
    · exact ⟨same_new hD, upd_same⟩
    · rintro i H' _ ⟨s3, _⟩
      exact same_sqt s3 hU
    · rintro i x H' hx ⟨s3, e3⟩
      have hi : i < tabs.length := by
        have := (List.getElem?_eq_some_iff.mp hx).1
        omega
      obtain ⟨r, hr', hR⟩ := hat i hi
      have ex : x = .ref r := Option.some.inj (hx.symm.trans hr')
      subst ex
      have hrow := wff.row _ (List.getElem_mem hi)
      have hn8 := two_pow_le (b := 8) wff.n2
      have hlen := wff.len
      refine ⟨rfl, ?_⟩
      refine ⟨⟨_, rfl⟩, _, rfl, _, rfl, _, rfl, sl_any (same_sqt s3 hR) fun p2 H2 s4 t4 => ?_⟩
      rw [cut_rows] at t4
      refine ⟨"", p2, _, rfl, rfl, .inr t4, ?_, _, s4 _ _ e3, ?_, fun b o e => ?_, ?_⟩
      · rw [sum_rows (m := m2) fun r hr => hrow.2 r (List.mem_of_mem_take hr), List.length_take]
        have a1 : min c (tabs[i]).length * m2 ≤ 4 * 4 := Nat.mul_le_mul (by omega) hm2.2
        show _ + _ * 0 ≤ _
        omega
      · rw [rowV_len]
        unfold cntR
        rw [List.length_map, List.length_take]
        exact Nat.lt_of_lt_of_le (show min i tabs.length < 10000 by omega) (by decide)
      · rw [upd_ne (ne_of_none e hD)]
        exact s4 _ _ (s3 b o e)
      · rw [upd_same, join_sbs, List.take_add_one, List.getElem?_eq_getElem hi]
        unfold cntR rowV
        rw [List.map_append, List.map_append]
        rfl
    rintro H15 ⟨s3, e3⟩
    rw [hul, List.take_length] at e3
    refine ⟨Dl, _, rfl, .inl ⟨.inl (.inl e3), fun u nu => ?_⟩⟩
    have s4 := s3.trans (same_new (o := .tup (rowV (cntR c tabs))) nu)
    have eu : upd H15 u (.tup (rowV (cntR c tabs))) u = some (.tup (rowV (cntR c tabs))) := upd_same
    generalize upd H15 u (.tup (rowV (cntR c tabs))) = H16 at s4 eu ⊢
    replace hd1 := dp_same (same_off s4) _ hd1
    replace hdf := dp_same (same_off s4) _ hdf
    replace hn14 := hn14.same s4
    clear s3 s4 e3 nu hD hat hU hul hV hT
    -- counter
    refine ⟨_, rfl, _, rfl, .ref fp, _, 3, (c : Int), rfl, on hdf, pl_gd plf, by decide, .inr (.inr ⟨n2, l2', m2, c, tabs, rfl, rfl, wff, c1, c2, cm, fun v2 H17 s17 hd2 => ?_⟩)⟩
    obtain ⟨ft2, hT, -⟩ := oF (dp_same s17 _ (on hdf))
    refine ⟨_, rfl, fp, _, 1, _, rfl, rfl, hT, rfl, _, rfl, _, rfl, fp, _, 3, _, rfl, rfl, hT, rfl, _, _, rfl, rfl, .inl ⟨by omega, by omega⟩, _, rfl, z1 4 (by decide), fun g ng => ?_⟩
    have ecm : (c : Int) * (m2 : Int) = ((c * m2 : Nat) : Int) := (Int.natCast_mul c m2).symm
    have hdg := tab_dp (K := K) (H := upd H17 g (.tup [.str "generator", .int (n2 : Int), .int ((c : Int) * (m2 : Int)), .ref u])) (a := g) (r := u) (n := n2) (m := c * m2) (rows := cntR c tabs) (.inl (.inl (by rw [upd_same, ecm]))) (.inl (.inl (same_new ng _ _ (s17 _ _ eu))))
    refine ⟨v2, .ref g, _, rfl, dp_same (same_new ng) _ hd2, hdg, pl_up (pl_cnt wff cm), _, rfl, ?_⟩
    have s18 := s17.trans (same_new (o := .tup [.str "generator", .int (n2 : Int), .int ((c : Int) * (m2 : Int)), .ref u]) ng)
    replace hd1 := dp_same (same_off s18) _ hd1
    replace hdf := dp_same (same_off s18) _ hdf
    replace hn14 := hn14.same s18
    clear s17 s18 hdg hd2 hT ng eu
    -- other
    refine ⟨_, rfl, _, rfl, b, d, 3, rfl, by decide, hn14, fun r1 H19 l1 u1 hn19 k19 => ⟨_, _, rfl, rfl, _, rfl, b, d, 4, rfl, by decide, hn19, fun r2 H20 l2 u2 hn20 k20 => ⟨_, _, rfl, rfl, ?_⟩⟩⟩
    obtain ⟨n3, en, hn3⟩ : ∃ n : Nat, (1 : Int) + r1 = (n : Int) ∧ 1 ≤ n ∧ n ≤ 3 := ⟨(1 + r1).toNat, by omega, by omega, by omega⟩
    obtain ⟨m3, em, hm3⟩ : ∃ n : Nat, (1 : Int) + r2 = (n : Int) ∧ 1 ≤ n ∧ n ≤ 4 := ⟨(1 + r2).toNat, by omega, by omega, by omega⟩
    refine ⟨b, d, n3, m3, ?_, by omega, by omega, hn20, fun v3 rows3 H21 hl3 hr3 hdo hn21 k21 => ?_⟩
    · show [V.ref b, V.int (1 + r1), V.int (1 + r2)] = _
      rw [en, em]
    have wfo : Wf n3 m3 rows3 := ⟨hn3.1, by omega, hm3.1, by omega, hl3, hr3⟩
    have plo := wfo.pl
    replace hd1 := dp_same ((k19.trans k20).trans k21).off _ hd1
    replace hdf := dp_same ((k19.trans k20).trans k21).off _ hdf
    clear k19 k20 k21 hn14 hn19 hn20 en em l1 u1 l2 u2 hl3 hr3
    have n35 : n3 ≤ 5 := by omega
    have mn40 : m3 + n3 + 1 ≤ 40 := by omega
    -- hard bits
    refine ⟨_, rfl, v3, _, 2, rfl, on hdo, pl_gd plo, by decide, .inr (.inr ⟨n3, m3, rows3, rfl, wfo, n35, mn40, fun v4 H22 s22 hd4 => ?_⟩)⟩
    refine ⟨_, rfl, v3, n3, m3, rows3, rfl, dp_same s22 _ (on hdo), wfo, n35, mn40, fun v5 H23 s23 hd5 => ?_⟩
    refine ⟨v4, v5, _, rfl, dp_same s23 _ hd4, hd5, pl_up (pl_hard wfo n35), _, rfl, ?_⟩
    replace hd1 := dp_same (same_off (s22.trans s23)) _ hd1
    replace hdf := dp_same (same_off (s22.trans s23)) _ hdf
    replace hdo := dp_same (same_off (s22.trans s23)) _ hdo
    replace hn21 := hn21.same (s22.trans s23)
    clear s22 s23 hd4 hd5
    -- looks
    refine ⟨_, rfl, _, rfl, v1, .ref fp, n, 2 * n, n2, l2', m2, rows1, tabs, rfl, on hd1, wf1, on hdf, wff, fun H24 s24 => ⟨_, rfl, ?_⟩⟩
    replace hd1 := dp_same (same_off s24) _ hd1
    replace hdf := dp_same (same_off s24) _ hdf
    replace hdo := dp_same (same_off s24) _ hdo
    replace hn21 := hn21.same s24
    clear s24
    obtain ⟨jj, ejj, jj1, jj2⟩ : ∃ jj : Nat, (1 : Int) + (if decide ((1 : Int) < (j : Int)) = true then 1 else 0) = (jj : Int) ∧ 1 ≤ jj ∧ jj ≤ 2 := by
      by_cases cj : (1 : Int) < (j : Int)
      · rw [decide_eq_true cj]
        exact ⟨2, rfl, by decide, by decide⟩
      · rw [decide_eq_false cj]
        exact ⟨1, rfl, by decide, by decide⟩
    refine ⟨_, rfl, _, rfl, _, rfl, _, _, rfl, rfl, .inr ⟨_, rfl, _, _, rfl, rfl, v1, n, jj, rows1, ?_, on hd1, wf1, n8, jj1, by omega, fun vt H25 s25 hdt => ?_⟩⟩
    · show [v1, V.int (1 + (if decide ((1 : Int) < (j : Int)) = true then 1 else 0))] = _
      rw [ejj]
    refine ⟨v3, vt, n3, m3, n, jj, n, rows3, _, rfl, dp_same s25 _ (on hdo), wfo, hdt, wff_tree wf1 n8 jj1 (by omega) (by omega), fun Hb s26 => ⟨_, rfl, ?_⟩⟩
    have s56 := s25.trans s26
    replace hd1 := dp_same (same_off s56) _ hd1
    replace hdf := dp_same (same_off s56) _ hdf
    replace hdo := dp_same (same_off s56) _ hdo
    have hnb := hn21.same s56
    clear s25 s26 s56 hdt hn21 ejj
    -- bad
    obtain ⟨p1, t1, rfl, hT1, hR1⟩ := dp_tab hd1
    refine ⟨(by show 0 ≤ sizeLine; decide), fun e0 ne0 => ⟨_, rfl, _, rfl, sl_any (same_sqt (same_new ne0) (sqt_on hT1)) fun e1 G1 s1 f1 => ⟨(by show 1 ≤ sizeLine; decide), fun e2 ne2 => ⟨(by show 4 ≤ sizeLine; decide), fun e3 ne3 => ⟨_, rfl, (by show 1 ≤ sizeLine; decide), fun e4 ne4 => ⟨(by show 6 ≤ sizeLine; decide), fun L nL => ?_⟩⟩⟩⟩⟩⟩
    have c4 := same_new (o := .lst [.non, .ref e0, .ref e1, .ref e3, .int 5, .ref e4]) nL
    have c3 := (same_new ne4).trans c4
    have c2 := (same_new ne3).trans c3
    have c1 := (same_new ne2).trans c2
    have c0 := (same_new ne0).trans (s1.trans c1)
    have x0 := (s1.trans c1) _ _ (upd_same (a := e0))
    have x2 := c2 _ _ (upd_same (a := e2))
    have x3 := c3 _ _ (upd_same (a := e3))
    have x4 := c4 _ _ (upd_same (a := e4))
    have xL : upd (upd (upd (upd G1 e2 (.tup [.str "00"])) e3 (.tup [.str "generator", .int 1, .int 2, .ref e2])) e4 (.lst [.ref p1])) L (.lst [.non, .ref e0, .ref e1, .ref e3, .int 5, .ref e4]) L = some (.lst [.non, .ref e0, .ref e1, .ref e3, .int 5, .ref e4]) := upd_same
    have f1' := same_sqt c1 f1
    have ne4b : e4 ≠ b := (Hnd.ne (hnb.same ((same_new ne0).trans (s1.trans ((same_new ne2).trans (same_new ne3))))) ne4).1
    have nLb : L ≠ b := (Hnd.ne (hnb.same ((same_new ne0).trans (s1.trans (((same_new ne2).trans (same_new ne3)).trans (same_new ne4))))) nL).1
    generalize upd (upd (upd (upd G1 e2 (.tup [.str "00"])) e3 (.tup [.str "generator", .int 1, .int 2, .ref e2])) e4 (.lst [.ref p1])) L (.lst [.non, .ref e0, .ref e1, .ref e3, .int 5, .ref e4]) = M0 at c0 x0 x2 x3 x4 xL f1' ⊢
    have hnM := hnb.same c0
    replace hdo := dp_same (same_off c0) _ hdo
    replace hd1 := dp_same (same_off c0) _ hd1
    replace hdf := dp_same (same_off c0) _ hdf
    clear c1 c2 c3 c4 c0 ne0 s1 f1 ne2 ne3 ne4 nL hnb hT1 hR1
    refine ⟨_, rfl, b, d, 6, rfl, by decide, hnM, fun r5 H23 l5 u5 hn23 k23 => ?_⟩
    obtain ⟨y, hat, hm⟩ := atI_mem (xs := [.non, .ref e0, .ref e1, .ref e3, .int 5, .ref e4]) l5 u5
    refine ⟨L, _, r5, y, rfl, rfl, .inl (.inl (k23 _ _ xL nLb)), hat, ?_⟩
    have hbad : ∃ (Db : PyData) (kb : Nat), Dp K (off b M0) y Db ∧ Gd kb Db ∧ kb ≤ 64 ∧ blockOk Db = false := by
      rcases List.mem_cons.mp hm with e | hm
      · exact ⟨.none, 0, e ▸ .non, trivial, by decide, rfl⟩
      rcases List.mem_cons.mp hm with e | hm
      · exact ⟨.tuple [], 1, e ▸ .tup (sqt_off hnM (.inl (.inl x0))) .nil, ⟨by decide, fun x hx => nomatch hx⟩, by decide, rfl⟩
      rcases List.mem_cons.mp hm with e | hm
      · refine ⟨.tuple [.str "generator", .int (n : Int), .int ((2 * n : Nat) : Int)], 1, e ▸ .tup (sqt_off hnM f1') (.cons (.str _) (.cons (.int _) (.cons (.int _) .nil))), ⟨by show 3 ≤ 5000; decide, fun x hx => ?_⟩, by decide, ?_⟩
        · rcases List.mem_cons.mp hx with e | hx
          · rw [e]
            exact ⟨by decide +kernel, by decide +kernel⟩
          rcases List.mem_cons.mp hx with e | hx
          · rw [e]
            trivial
          rcases List.mem_cons.mp hx with e | hx
          · rw [e]
            trivial
          exact nomatch hx
        · unfold blockOk
          rw [gen_no (by show ¬ 3 = 4; decide), fun_no (by show ¬ 3 = 5; decide)]
          rfl
      rcases List.mem_cons.mp hm with e | hm
      · refine ⟨.tuple [.str "generator", .int 1, .int 2, .tuple [.str "00"]], 2, e ▸ .tup (sqt_off hnM (.inl (.inl x3))) (.cons (.str _) (.cons (.int _) (.cons (.int _) (.cons (.tup (sqt_off hnM (.inl (.inl x2))) (.cons (.str _) .nil)) .nil)))), pl_gd ?_, by decide, short_bad⟩
        refine ⟨by show 4 ≤ 5000; decide, all4 (pl_str.mpr ⟨by decide +kernel, by decide +kernel⟩) pl_int pl_int ⟨by show 1 ≤ 5000; decide, fun x hx => ?_⟩⟩
        rw [List.mem_singleton.mp hx]
        exact pl_str.mpr ⟨by decide +kernel, by decide +kernel⟩
      rcases List.mem_cons.mp hm with e | hm
      · exact ⟨.int 5, 0, e ▸ .int 5, trivial, by decide, rfl⟩
      rcases List.mem_cons.mp hm with e | hm
      · refine ⟨.list [tabD n (2 * n) rows1], 3, e ▸ .lst (.inl (.inl (by rw [off_ne ne4b]; exact x4))) (.cons hd1 .nil), ⟨by show 1 ≤ 5000; decide, fun x hx => ?_⟩, by decide, rfl⟩
        rw [List.mem_singleton.mp hx]
        exact pl_gd pl1
      exact nomatch hm
    obtain ⟨Db, kb, hdb, gb, kb64, bb⟩ := hbad
    replace hdo := dp_same k23.off _ hdo
    replace hd1 := dp_same k23.off _ hd1
    replace hdf := dp_same k23.off _ hdf
    replace hdb := dp_same k23.off _ hdb
    clear hat hm x0 x2 x3 x4 xL f1' k23 hnM l5 u5
    -- for which in range(5)
    refine ⟨_, rfl, by decide, by decide, for_range (lo := 0) (n := 5) (fun i σ H' => ∃ y10 y11 : Option V, σ = [some (.ref a), some (.ref b), some (.int (n : Int)), some (.ref p1), some (.int (j : Int)), some (.ref fp), some (.int (c : Int)), some (.ref u), some v3, some y, y10, y11, none] ∧ Hnd H' b d ∧ Keep b H23 H') ?_ ?_ ?_⟩
    · exact ⟨_, _, rfl, hn23, Keep.refl _ _⟩
    · rintro i σ H' hi ⟨y10, y11, rfl, hh, kk⟩
      have hw : (0 : Int) ≤ (0 : Int) + (i : Int) ∧ (0 : Int) + (i : Int) ≤ 4 := by omega
      refine ⟨_, rfl, _, rfl, y, Db, kb, _, 1, rfl, hw, on (dp_same kk.off _ hdb), gb, kb64, .inl ⟨bb, fun H27 s27 => ⟨rfl, _, rfl, ?_⟩⟩⟩
      rw [te]
      have kk2 := kk.trans (Keep.same s27)
      have hh2 := hh.same s27
      refine ⟨_, rfl, _, rfl, _, rfl, b, d, .ref p1, n, 2 * n, rows1, rfl, hh2, on (dp_same kk2.off _ hd1), wf1, fun sv Ds H28 hds pls bads hn28 k28 => ⟨sv, Ds, 2, _, 0, rfl, hw, hds, pl_gd pls, by decide, .inl ⟨bads, fun H29 s29 => ⟨rfl, _, rfl, ?_⟩⟩⟩⟩
      rw [te]
      exact ⟨_, _, rfl, hn28.same s29, (kk2.trans k28).trans (Keep.same s29)⟩
    rintro σ H30 ⟨y10, y11, rfl, hn30, k30⟩
    replace hd1 := on (dp_same k30.off _ hd1)
    replace hdf := on (dp_same k30.off _ hdf)
    replace hdo := on (dp_same k30.off _ hdo)
    clear k30 hn23 hdb bb gb kb64
    have bF := wff.ok
    have bG := wf_gen wf1
    -- the wrong kind
    refine ⟨_, rfl, .ref fp, _, 3, 0, 1, rfl, ⟨by decide, by decide⟩, hdf, pl_gd plf, by decide, .inr (.inl ⟨.inl ⟨rfl, .inl bF⟩, fun H31 s31 => ⟨rfl, _, rfl, ?_⟩⟩)⟩
    rw [te]
    refine ⟨_, rfl, .ref p1, _, 2, 1, 1, rfl, ⟨by decide, by decide⟩, dp_same s31 _ hd1, pl_gd pl1, by decide, .inr (.inl ⟨.inr (.inl ⟨rfl, .inl bG⟩), fun H32 s32 => ⟨rfl, _, rfl, ?_⟩⟩)⟩
    rw [te]
    refine ⟨_, rfl, .ref fp, _, 3, 2, 0, rfl, ⟨by decide, by decide⟩, dp_same (s31.trans s32) _ hdf, pl_gd plf, by decide, .inr (.inl ⟨.inr (.inr ⟨rfl, .inl bF⟩), fun H33 s33 => ⟨rfl, _, rfl, ?_⟩⟩)⟩
    rw [te]
    have s13 := (s31.trans s32).trans s33
    -- for far
    refine ⟨_, rfl, z1 4 (by decide), fun L2 nL2 => ?_⟩
    have s34 := s13.trans (same_new (o := .lst [.int 0, .int (-1), .int 9, .int 100]) nL2)
    have eL2 : upd H33 L2 (.lst [.int 0, .int (-1), .int 9, .int 100]) L2 = some (.lst [.int 0, .int (-1), .int 9, .int 100]) := upd_same
    show ∃ a, V.ref L2 = V.ref a ∧ _
    generalize upd H33 L2 (.lst [.int 0, .int (-1), .int 9, .int 100]) = H34 at s34 eL2 ⊢
    replace hd1 := dp_same s34 _ hd1
    replace hdf := dp_same s34 _ hdf
    replace hdo := dp_same s34 _ hdo
    replace hn30 := hn30.same s34
    clear s31 s32 s33 s13 s34 nL2
    refine ⟨L2, rfl, ⟨_, .inl (.inl eL2)⟩, for_list (xs := [.int 0, .int (-1), .int 9, .int 100]) (fun i σ H' => ∃ y10 y11 : Option V, σ = [some (.ref a), some (.ref b), some (.int (n : Int)), some (.ref p1), some (.int (j : Int)), some (.ref fp), some (.int (c : Int)), some (.ref u), some v3, some y, y10, y11, none] ∧ Same H34 H') ?_ ?_ ?_ ?_⟩
    · exact ⟨_, _, rfl, Same.refl _⟩
    · rintro i σ H' _ ⟨_, _, _, s1⟩
      exact .inl (.inl (s1 _ _ eL2))
    · rintro i x σ H' hx ⟨y10, y11, rfl, s1⟩
      obtain ⟨far, rfl, hf, hg⟩ : ∃ far : Int, x = .int far ∧ whole (.int far) 1 8 = false ∧ whole (.int far) 1 ((2 ^ l2' : Nat) : Int) = false := by
        have hm := List.mem_of_getElem? hx
        iterate 4
          rcases List.mem_cons.mp hm with e | hm
          · exact ⟨_, e, by decide +kernel, whole_no (by generalize 2 ^ l2' = N at *; omega)⟩
        exact nomatch hm
      refine ⟨_, rfl, _, rfl, .ref p1, _, 2, 0, far, rfl, ⟨by decide, by decide⟩, dp_same s1 _ hd1, pl_gd pl1, by decide, .inr (.inl ⟨.inl ⟨rfl, .inr ⟨n, 2 * n, rows1, rfl, wf1, .inr (.inr (.inl hf))⟩⟩, fun H35 s35 => ⟨rfl, _, rfl, ?_⟩⟩)⟩
      rw [te]
      refine ⟨_, rfl, _, rfl, .ref fp, _, 3, 1, far, rfl, ⟨by decide, by decide⟩, dp_same (s1.trans s35) _ hdf, pl_gd plf, by decide, .inr (.inl ⟨.inr (.inl ⟨rfl, .inr ⟨n2, l2', m2, tabs, rfl, wff, .inl hg⟩⟩), fun H36 s36 => ⟨rfl, _, rfl, ?_⟩⟩)⟩
      rw [te]
      exact ⟨_, _, rfl, (s1.trans s35).trans s36⟩
    rintro σ H37 ⟨y10, y11, rfl, s37⟩
    replace hd1 := dp_same s37 _ hd1
    replace hdf := dp_same s37 _ hdf
    replace hdo := dp_same s37 _ hdo
    replace hn30 := hn30.same s37
    clear s37 eL2
    -- one too many
    obtain ⟨ft3, hTf, -⟩ := oF hdf
    refine ⟨_, rfl, _, rfl, fp, _, 2, _, rfl, rfl, hTf, rfl, _, _, rfl, rfl, ⟨by omega, by omega, by decide⟩, _, _, rfl, rfl, .ref fp, _, 3, 1, _, rfl, ⟨by decide, by decide⟩, hdf, pl_gd plf, by decide, .inr (.inl ⟨.inr (.inl ⟨rfl, .inr ⟨n2, l2', m2, tabs, rfl, wff, .inl (whole_no ?far)⟩⟩), fun H38 s38 => ⟨rfl, _, rfl, ?_⟩⟩)⟩
    case far =>
      rw [shl_one]
      generalize 2 ^ l2' = N at *
      omega
    rw [te]
    replace hdo := dp_same s38 _ hdo
    replace hn30 := hn30.same s38
    -- no doubling
    obtain ⟨po, ro, rfl, hTo, -⟩ := dp_tab hdo
    refine ⟨_, rfl, po, _, 2, _, rfl, rfl, hTo, rfl, _, rfl, po, _, 1, _, rfl, rfl, hTo, rfl, _, _, rfl, rfl, .inl ⟨by decide, by decide⟩, rfl, _, rfl, ?_⟩
    by_cases cd : m3 = 2 * n3
    case' pos =>
      rw [decide_eq_true (show V.int (m3 : Int) = V.int (2 * (n3 : Int)) from congrArg V.int (by omega))]
    case' neg =>
      rw [decide_eq_false (show ¬ V.int (m3 : Int) = V.int (2 * (n3 : Int)) from fun z => cd (by have := V.int.inj z; omega))]
      refine ⟨_, rfl, .ref po, _, 2, 0, 1, rfl, ⟨by decide, by decide⟩, hdo, pl_gd plo, by decide, .inr (.inl ⟨.inl ⟨rfl, .inr ⟨n3, m3, rows3, rfl, wfo, .inl cd⟩⟩, fun H39 s39 => ⟨rfl, _, rfl, ?_⟩⟩)⟩
      rw [te]
      replace hn30 := hn30.same s39
    all_goals
      refine ⟨_, rfl, b, d, 6, rfl, by decide, hn30, fun r9 H40 l9 u9 hn40 k40 => ⟨_, _, rfl, rfl, _, rfl, ?_⟩⟩
      by_cases c9 : (0 : Int) < r9
      · rw [decide_eq_true c9]
        exact q1 _
      · rw [decide_eq_false c9]
        exact ⟨_, rfl, b, d, rfl, hn40, fun H' => q1 H'⟩

theorem mk_law {f1 f2 f3 f4 f5 f6 f7 f8 f9 f10 f11 f12 f13 f14 f15 f16 f17 f18 f19 f20 f21 f22 f23 f24 f25 f26 f27 f28 f29 f30 f31 f : Addr} {d1 d2 d3 d4 d5 d6 d7 d8 d9 d10 d11 d12 d13 d14 d15 d16 d17 d18 d19 d20 d21 d22 d23 d24 d25 d26 d27 d28 d29 d30 d31 fd : FuncData} (T : Txt K mg cs)
    (D_bits : Df K mg "bits" s_bits ["length", "number"] f1 d1)
    (D_all_bits : Df K mg "all_bits" s_all_bits ["length"] f2 d2)
    (D_number_of : Df K mg "number_of" s_number_of ["string"] f3 d3)
    (D_parity : Df K mg "parity" s_parity ["first", "second"] f4 d4)
    (D_is_whole : Df K mg "is_whole" s_is_whole ["value", "low", "high"] f5 d5)
    (D_are_rows : Df K mg "are_rows" s_are_rows ["value", "many", "m"] f6 d6)
    (D_is_generator : Df K mg "is_generator" s_is_generator ["value"] f7 d7)
    (D_is_function : Df K mg "is_function" s_is_function ["value"] f8 d8)
    (D_check_block : Df K mg "check_block" s_check_block ["block"] f9 d9)
    (D_generator_parts : Df K mg "generator_parts" s_generator_parts ["block"] f10 d10)
    (D_function_parts : Df K mg "function_parts" s_function_parts ["block"] f11 d11)
    (D_row_of : Df K mg "row_of" s_row_of ["block", "string"] f12 d12)
    (D_value_of : Df K mg "value_of" s_value_of ["block", "key", "string"] f13 d13)
    (D_go_down : Df K mg "go_down" s_go_down ["rows", "label", "path"] f14 d14)
    (D_tree : Df K mg "tree" s_tree ["block", "d"] f15 d15)
    (D_counter : Df K mg "counter" s_counter ["block", "c"] f16 d16)
    (D_hardbits : Df K mg "hardbits" s_hardbits ["block"] f17 d17)
    (D__law_draws : Df K mg "_law_draws" s_law_draws ["script", "many"] f18 d18)
    (D__law_take : Df K mg "_law_take" s_law_take ["hand", "many"] f19 d19)
    (D__law_string : Df K mg "_law_string" s_law_string ["hand", "length"] f20 d20)
    (D__law_table : Df K mg "_law_table" s_law_table ["hand", "n", "m"] f21 d21)
    (D__law_function : Df K mg "_law_function" s_law_function ["hand", "n", "l", "m"] f22 d22)
    (D__law_number : Df K mg "_law_number" s_law_number ["string"] f23 d23)
    (D__law_bits : Df K mg "_law_bits" s_law_bits ["length", "number"] f24 d24)
    (D__law_same : Df K mg "_law_same" s_law_same ["found", "due"] f25 d25)
    (D__law_tree : Df K mg "_law_tree" s_law_tree ["block", "d"] f26 d26)
    (D__law_hardbits : Df K mg "_law_hardbits" s_law_hardbits ["block"] f27 d27)
    (D__law_spoilt_row : Df K mg "_law_spoilt_row" s_law_spoilt_row ["hand", "block"] f28 d28)
    (D__law_told : Df K mg "_law_told" s_law_told ["which", "block", "number"] f29 d29)
    (D__law_looks_right : Df K mg "_law_looks_right" s_law_looks_right ["block", "function"] f30 d30)
    (D__law_edges_right : Df K mg "_law_edges_right" s_law_edges_right ["hand"] f31 d31)
    (F : Fun K "law" "law" s_law f fd) : FnOk P w K mg base CX0 top_level f fd ["script"] (spLaw K) := by
  have c_take : Cl P w K mg base CX0 1 "_law_take" spTake := D__law_take.cl (ok_take D__law_take T)
  have c_string : Cl P w K mg base CX0 2 "_law_string" spString := D__law_string.cl (ok_string D__law_string T c_take)
  have c_bits : Cl P w K mg base CX0 1 "bits" spBits := D_bits.cl (ok_bits D_bits T)
  have c_number : Cl P w K mg base CX0 1 "number_of" spNumber := D_number_of.cl (ok_number D_number_of T)
  have c_par : Cl P w K mg base CX0 2 "parity" spParity := D_parity.cl (ok_parity D_parity T c_bits c_number)
  have c_whole : Cl P w K mg base CX0 1 "is_whole" (spWhole K) := D_is_whole.cl (ok_whole D_is_whole T)
  have c_rows : Cl P w K mg base CX0 1 "are_rows" (spRows K) := D_are_rows.cl (ok_rows D_are_rows T)
  have c_check : Cl P w K mg base (L2.CX P w) 3 "check_block" (spCheck K cs.BadBlock) := D_check_block.cl (ok_check D_check_block T (D_is_generator.cl (ok_gen D_is_generator T c_whole c_rows)) (D_is_function.cl (ok_fun D_is_function T c_whole c_rows)))
  have c_parts : Cl P w K mg base (L2.CX P w) 4 "generator_parts" (spParts K cs.BadBlock cs.BadScheme) := D_generator_parts.cl (ok_parts D_generator_parts T c_check)
  have c_fparts : Cl P w K mg base (L2.CX P w) 4 "function_parts" (spFParts K cs.BadBlock cs.BadScheme) := D_function_parts.cl (ok_fparts D_function_parts T c_check)
  have c_all : Cl P w K mg base CX0 2 "all_bits" (spAll K) := D_all_bits.cl (ok_all D_all_bits T c_bits)
  have c_row : Cl P w K mg base (L2.CX P w) 5 "row_of" (spRow K cs.BadBlock) := D_row_of.cl (ok_rowof D_row_of T c_parts c_number)
  have c_val : Cl P w K mg base (L2.CX P w) 5 "value_of" (spVal K cs.BadBlock) := D_value_of.cl (ok_valueof D_value_of T c_fparts c_number)
  have c_tree : Cl P w K mg base (L2.CX P w) 5 "tree" (spTree K cs.BadBlock cs.BadScheme) := D_tree.cl (ok_tree D_tree T c_parts c_whole c_all (D_go_down.cl (ok_go D_go_down T c_number)))
  have c_cnt : Cl P w K mg base (L2.CX P w) 5 "counter" (spCnt K cs.BadBlock cs.BadScheme) := D_counter.cl (ok_counter D_counter T c_fparts c_whole)
  have c_hard : Cl P w K mg base (L2.CX P w) 5 "hardbits" (spHard K cs.BadBlock cs.BadScheme) := D_hardbits.cl (ok_hard D_hardbits T c_parts c_all c_number c_par)
  have c_lawbits : Cl P w K mg base CX0 1 "_law_bits" spBits := D__law_bits.cl (ok_lawbits D__law_bits T)
  have c_lawnum : Cl P w K mg base CX0 1 "_law_number" spNumber := D__law_number.cl (ok_lawnum D__law_number T)
  have c_same : Cl P w K mg base CX0 5 "_law_same" (spSame K 3) := D__law_same.cl (ok_same D__law_same T 3)
  have c_told : Cl P w K mg base CX0 6 "_law_told" (spTold4 K) := D__law_told.cl (ok_told4 D__law_told T c_tree c_cnt c_hard c_row c_val)
  exact ok_law4 F T (D__law_draws.cl (ok_draws D__law_draws T)) c_take (D__law_table.cl (ok_table D__law_table T c_string)) (D__law_function.cl (ok_function D__law_function T c_string)) c_same
    c_tree c_cnt c_hard (D__law_tree.cl (ok_lawtree D__law_tree T c_lawbits c_lawnum)) (D__law_hardbits.cl (ok_lawhard D__law_hardbits T c_lawbits)) (D__law_spoilt_row.cl (ok_spoilt D__law_spoilt_row T c_take)) c_told
    (D__law_looks_right.cl (ok_looks D__law_looks_right T c_row c_val c_lawbits c_same)) (D__law_edges_right.cl (ok_edges4 D__law_edges_right T c_take c_told))
end
theorem all_mk {l : PySem.W.OpenLaw} {w : World} {K : PySem.W.Frag} {h : Heap} {mg : Str → Option Value} {fa f1 f2 f3 f4 f5 f6 f7 f8 f9 f10 f11 f12 f13 f14 f15 f16 f17 f18 f19 f20 f21 f22 f23 f24 f25 f26 f27 f28 f29 f30 f31 f32 : Addr} (X : K.In h) (G : h.Ns mainGlobals mg) (hfa : mg "law" = some (.ref fa))
    {od1 an1 od2 an2 od3 an3 od4 an4 od5 an5 od6 an6 od7 an7 od8 an8 od9 an9 od10 an10 od11 an11 od12 an12 od13 an13 od14 an14 od15 an15 od16 an16 od17 an17 od18 an18 od19 an19 od20 an20 od21 an21 od22 an22 od23 an23 od24 an24 od25 an25 od26 an26 od27 an27 od28 an28 od29 an29 od30 an30 od31 an31 od32 an32 : Option Addr} {sl1 sl2 sl3 sl4 sl5 sl6 sl7 sl8 sl9 sl10 sl11 sl12 sl13 sl14 sl15 sl16 sl17 sl18 sl19 sl20 sl21 sl22 sl23 sl24 sl25 sl26 sl27 sl28 sl29 sl30 sl31 sl32 : Array (Option Value)} {oc1 kV1 dc1 pm1 cd1 ct1 oc2 kV2 dc2 pm2 cd2 ct2 oc3 kV3 dc3 pm3 cd3 ct3 oc4 kV4 dc4 pm4 cd4 ct4 oc5 kV5 dc5 pm5 cd5 ct5 oc6 kV6 dc6 pm6 cd6 ct6 oc7 kV7 dc7 pm7 cd7 ct7 oc8 kV8 dc8 pm8 cd8 ct8 oc9 kV9 dc9 pm9 cd9 ct9 oc10 kV10 dc10 pm10 cd10 ct10 oc11 kV11 dc11 pm11 cd11 ct11 oc12 kV12 dc12 pm12 cd12 ct12 oc13 kV13 dc13 pm13 cd13 ct13 oc14 kV14 dc14 pm14 cd14 ct14 oc15 kV15 dc15 pm15 cd15 ct15 oc16 kV16 dc16 pm16 cd16 ct16 oc17 kV17 dc17 pm17 cd17 ct17 oc18 kV18 dc18 pm18 cd18 ct18 oc19 kV19 dc19 pm19 cd19 ct19 oc20 kV20 dc20 pm20 cd20 ct20 oc21 kV21 dc21 pm21 cd21 ct21 oc22 kV22 dc22 pm22 cd22 ct22 oc23 kV23 dc23 pm23 cd23 ct23 oc24 kV24 dc24 pm24 cd24 ct24 oc25 kV25 dc25 pm25 cd25 ct25 oc26 kV26 dc26 pm26 cd26 ct26 oc27 kV27 dc27 pm27 cd27 ct27 oc28 kV28 dc28 pm28 cd28 ct28 oc29 kV29 dc29 pm29 cd29 ct29 oc30 kV30 dc30 pm30 cd30 ct30 oc31 kV31 dc31 pm31 cd31 ct31 oc32 kV32 dc32 pm32 cd32 ct32 : Value}
    (a1 : PySem.W.nsIn K mainGlobals "bits" = some (some (.ref f1))) (l1 : K.lookup f1 = some ⟨oc1, od1, .func (PySem.W.fnOf "bits" "bits" (defArgs s_bits) (defBody s_bits) (defScope s_bits) .none kV1 dc1 pm1 an1 cd1 ct1), sl1⟩) (c1 : PySem.W.codeIn K cd1 "bits" = true) (k1 : PySem.W.keepIn K (.ref f1) = true)
    (a2 : PySem.W.nsIn K mainGlobals "all_bits" = some (some (.ref f2))) (l2 : K.lookup f2 = some ⟨oc2, od2, .func (PySem.W.fnOf "all_bits" "all_bits" (defArgs s_all_bits) (defBody s_all_bits) (defScope s_all_bits) .none kV2 dc2 pm2 an2 cd2 ct2), sl2⟩) (c2 : PySem.W.codeIn K cd2 "all_bits" = true) (k2 : PySem.W.keepIn K (.ref f2) = true)
    (a3 : PySem.W.nsIn K mainGlobals "number_of" = some (some (.ref f3))) (l3 : K.lookup f3 = some ⟨oc3, od3, .func (PySem.W.fnOf "number_of" "number_of" (defArgs s_number_of) (defBody s_number_of) (defScope s_number_of) .none kV3 dc3 pm3 an3 cd3 ct3), sl3⟩) (c3 : PySem.W.codeIn K cd3 "number_of" = true) (k3 : PySem.W.keepIn K (.ref f3) = true)
    (a4 : PySem.W.nsIn K mainGlobals "parity" = some (some (.ref f4))) (l4 : K.lookup f4 = some ⟨oc4, od4, .func (PySem.W.fnOf "parity" "parity" (defArgs s_parity) (defBody s_parity) (defScope s_parity) .none kV4 dc4 pm4 an4 cd4 ct4), sl4⟩) (c4 : PySem.W.codeIn K cd4 "parity" = true) (k4 : PySem.W.keepIn K (.ref f4) = true)
    (a5 : PySem.W.nsIn K mainGlobals "is_whole" = some (some (.ref f5))) (l5 : K.lookup f5 = some ⟨oc5, od5, .func (PySem.W.fnOf "is_whole" "is_whole" (defArgs s_is_whole) (defBody s_is_whole) (defScope s_is_whole) .none kV5 dc5 pm5 an5 cd5 ct5), sl5⟩) (c5 : PySem.W.codeIn K cd5 "is_whole" = true) (k5 : PySem.W.keepIn K (.ref f5) = true)
    (a6 : PySem.W.nsIn K mainGlobals "are_rows" = some (some (.ref f6))) (l6 : K.lookup f6 = some ⟨oc6, od6, .func (PySem.W.fnOf "are_rows" "are_rows" (defArgs s_are_rows) (defBody s_are_rows) (defScope s_are_rows) .none kV6 dc6 pm6 an6 cd6 ct6), sl6⟩) (c6 : PySem.W.codeIn K cd6 "are_rows" = true) (k6 : PySem.W.keepIn K (.ref f6) = true)
    (a7 : PySem.W.nsIn K mainGlobals "is_generator" = some (some (.ref f7))) (l7 : K.lookup f7 = some ⟨oc7, od7, .func (PySem.W.fnOf "is_generator" "is_generator" (defArgs s_is_generator) (defBody s_is_generator) (defScope s_is_generator) .none kV7 dc7 pm7 an7 cd7 ct7), sl7⟩) (c7 : PySem.W.codeIn K cd7 "is_generator" = true) (k7 : PySem.W.keepIn K (.ref f7) = true)
    (a8 : PySem.W.nsIn K mainGlobals "is_function" = some (some (.ref f8))) (l8 : K.lookup f8 = some ⟨oc8, od8, .func (PySem.W.fnOf "is_function" "is_function" (defArgs s_is_function) (defBody s_is_function) (defScope s_is_function) .none kV8 dc8 pm8 an8 cd8 ct8), sl8⟩) (c8 : PySem.W.codeIn K cd8 "is_function" = true) (k8 : PySem.W.keepIn K (.ref f8) = true)
    (a9 : PySem.W.nsIn K mainGlobals "check_block" = some (some (.ref f9))) (l9 : K.lookup f9 = some ⟨oc9, od9, .func (PySem.W.fnOf "check_block" "check_block" (defArgs s_check_block) (defBody s_check_block) (defScope s_check_block) .none kV9 dc9 pm9 an9 cd9 ct9), sl9⟩) (c9 : PySem.W.codeIn K cd9 "check_block" = true) (k9 : PySem.W.keepIn K (.ref f9) = true)
    (a10 : PySem.W.nsIn K mainGlobals "generator_parts" = some (some (.ref f10))) (l10 : K.lookup f10 = some ⟨oc10, od10, .func (PySem.W.fnOf "generator_parts" "generator_parts" (defArgs s_generator_parts) (defBody s_generator_parts) (defScope s_generator_parts) .none kV10 dc10 pm10 an10 cd10 ct10), sl10⟩) (c10 : PySem.W.codeIn K cd10 "generator_parts" = true) (k10 : PySem.W.keepIn K (.ref f10) = true)
    (a11 : PySem.W.nsIn K mainGlobals "function_parts" = some (some (.ref f11))) (l11 : K.lookup f11 = some ⟨oc11, od11, .func (PySem.W.fnOf "function_parts" "function_parts" (defArgs s_function_parts) (defBody s_function_parts) (defScope s_function_parts) .none kV11 dc11 pm11 an11 cd11 ct11), sl11⟩) (c11 : PySem.W.codeIn K cd11 "function_parts" = true) (k11 : PySem.W.keepIn K (.ref f11) = true)
    (a12 : PySem.W.nsIn K mainGlobals "row_of" = some (some (.ref f12))) (l12 : K.lookup f12 = some ⟨oc12, od12, .func (PySem.W.fnOf "row_of" "row_of" (defArgs s_row_of) (defBody s_row_of) (defScope s_row_of) .none kV12 dc12 pm12 an12 cd12 ct12), sl12⟩) (c12 : PySem.W.codeIn K cd12 "row_of" = true) (k12 : PySem.W.keepIn K (.ref f12) = true)
    (a13 : PySem.W.nsIn K mainGlobals "value_of" = some (some (.ref f13))) (l13 : K.lookup f13 = some ⟨oc13, od13, .func (PySem.W.fnOf "value_of" "value_of" (defArgs s_value_of) (defBody s_value_of) (defScope s_value_of) .none kV13 dc13 pm13 an13 cd13 ct13), sl13⟩) (c13 : PySem.W.codeIn K cd13 "value_of" = true) (k13 : PySem.W.keepIn K (.ref f13) = true)
    (a14 : PySem.W.nsIn K mainGlobals "go_down" = some (some (.ref f14))) (l14 : K.lookup f14 = some ⟨oc14, od14, .func (PySem.W.fnOf "go_down" "go_down" (defArgs s_go_down) (defBody s_go_down) (defScope s_go_down) .none kV14 dc14 pm14 an14 cd14 ct14), sl14⟩) (c14 : PySem.W.codeIn K cd14 "go_down" = true) (k14 : PySem.W.keepIn K (.ref f14) = true)
    (a15 : PySem.W.nsIn K mainGlobals "tree" = some (some (.ref f15))) (l15 : K.lookup f15 = some ⟨oc15, od15, .func (PySem.W.fnOf "tree" "tree" (defArgs s_tree) (defBody s_tree) (defScope s_tree) .none kV15 dc15 pm15 an15 cd15 ct15), sl15⟩) (c15 : PySem.W.codeIn K cd15 "tree" = true) (k15 : PySem.W.keepIn K (.ref f15) = true)
    (a16 : PySem.W.nsIn K mainGlobals "counter" = some (some (.ref f16))) (l16 : K.lookup f16 = some ⟨oc16, od16, .func (PySem.W.fnOf "counter" "counter" (defArgs s_counter) (defBody s_counter) (defScope s_counter) .none kV16 dc16 pm16 an16 cd16 ct16), sl16⟩) (c16 : PySem.W.codeIn K cd16 "counter" = true) (k16 : PySem.W.keepIn K (.ref f16) = true)
    (a17 : PySem.W.nsIn K mainGlobals "hardbits" = some (some (.ref f17))) (l17 : K.lookup f17 = some ⟨oc17, od17, .func (PySem.W.fnOf "hardbits" "hardbits" (defArgs s_hardbits) (defBody s_hardbits) (defScope s_hardbits) .none kV17 dc17 pm17 an17 cd17 ct17), sl17⟩) (c17 : PySem.W.codeIn K cd17 "hardbits" = true) (k17 : PySem.W.keepIn K (.ref f17) = true)
    (a18 : PySem.W.nsIn K mainGlobals "_law_draws" = some (some (.ref f18))) (l18 : K.lookup f18 = some ⟨oc18, od18, .func (PySem.W.fnOf "_law_draws" "_law_draws" (defArgs s_law_draws) (defBody s_law_draws) (defScope s_law_draws) .none kV18 dc18 pm18 an18 cd18 ct18), sl18⟩) (c18 : PySem.W.codeIn K cd18 "_law_draws" = true) (k18 : PySem.W.keepIn K (.ref f18) = true)
    (a19 : PySem.W.nsIn K mainGlobals "_law_take" = some (some (.ref f19))) (l19 : K.lookup f19 = some ⟨oc19, od19, .func (PySem.W.fnOf "_law_take" "_law_take" (defArgs s_law_take) (defBody s_law_take) (defScope s_law_take) .none kV19 dc19 pm19 an19 cd19 ct19), sl19⟩) (c19 : PySem.W.codeIn K cd19 "_law_take" = true) (k19 : PySem.W.keepIn K (.ref f19) = true)
    (a20 : PySem.W.nsIn K mainGlobals "_law_string" = some (some (.ref f20))) (l20 : K.lookup f20 = some ⟨oc20, od20, .func (PySem.W.fnOf "_law_string" "_law_string" (defArgs s_law_string) (defBody s_law_string) (defScope s_law_string) .none kV20 dc20 pm20 an20 cd20 ct20), sl20⟩) (c20 : PySem.W.codeIn K cd20 "_law_string" = true) (k20 : PySem.W.keepIn K (.ref f20) = true)
    (a21 : PySem.W.nsIn K mainGlobals "_law_table" = some (some (.ref f21))) (l21 : K.lookup f21 = some ⟨oc21, od21, .func (PySem.W.fnOf "_law_table" "_law_table" (defArgs s_law_table) (defBody s_law_table) (defScope s_law_table) .none kV21 dc21 pm21 an21 cd21 ct21), sl21⟩) (c21 : PySem.W.codeIn K cd21 "_law_table" = true) (k21 : PySem.W.keepIn K (.ref f21) = true)
    (a22 : PySem.W.nsIn K mainGlobals "_law_function" = some (some (.ref f22))) (l22 : K.lookup f22 = some ⟨oc22, od22, .func (PySem.W.fnOf "_law_function" "_law_function" (defArgs s_law_function) (defBody s_law_function) (defScope s_law_function) .none kV22 dc22 pm22 an22 cd22 ct22), sl22⟩) (c22 : PySem.W.codeIn K cd22 "_law_function" = true) (k22 : PySem.W.keepIn K (.ref f22) = true)
    (a23 : PySem.W.nsIn K mainGlobals "_law_number" = some (some (.ref f23))) (l23 : K.lookup f23 = some ⟨oc23, od23, .func (PySem.W.fnOf "_law_number" "_law_number" (defArgs s_law_number) (defBody s_law_number) (defScope s_law_number) .none kV23 dc23 pm23 an23 cd23 ct23), sl23⟩) (c23 : PySem.W.codeIn K cd23 "_law_number" = true) (k23 : PySem.W.keepIn K (.ref f23) = true)
    (a24 : PySem.W.nsIn K mainGlobals "_law_bits" = some (some (.ref f24))) (l24 : K.lookup f24 = some ⟨oc24, od24, .func (PySem.W.fnOf "_law_bits" "_law_bits" (defArgs s_law_bits) (defBody s_law_bits) (defScope s_law_bits) .none kV24 dc24 pm24 an24 cd24 ct24), sl24⟩) (c24 : PySem.W.codeIn K cd24 "_law_bits" = true) (k24 : PySem.W.keepIn K (.ref f24) = true)
    (a25 : PySem.W.nsIn K mainGlobals "_law_same" = some (some (.ref f25))) (l25 : K.lookup f25 = some ⟨oc25, od25, .func (PySem.W.fnOf "_law_same" "_law_same" (defArgs s_law_same) (defBody s_law_same) (defScope s_law_same) .none kV25 dc25 pm25 an25 cd25 ct25), sl25⟩) (c25 : PySem.W.codeIn K cd25 "_law_same" = true) (k25 : PySem.W.keepIn K (.ref f25) = true)
    (a26 : PySem.W.nsIn K mainGlobals "_law_tree" = some (some (.ref f26))) (l26 : K.lookup f26 = some ⟨oc26, od26, .func (PySem.W.fnOf "_law_tree" "_law_tree" (defArgs s_law_tree) (defBody s_law_tree) (defScope s_law_tree) .none kV26 dc26 pm26 an26 cd26 ct26), sl26⟩) (c26 : PySem.W.codeIn K cd26 "_law_tree" = true) (k26 : PySem.W.keepIn K (.ref f26) = true)
    (a27 : PySem.W.nsIn K mainGlobals "_law_hardbits" = some (some (.ref f27))) (l27 : K.lookup f27 = some ⟨oc27, od27, .func (PySem.W.fnOf "_law_hardbits" "_law_hardbits" (defArgs s_law_hardbits) (defBody s_law_hardbits) (defScope s_law_hardbits) .none kV27 dc27 pm27 an27 cd27 ct27), sl27⟩) (c27 : PySem.W.codeIn K cd27 "_law_hardbits" = true) (k27 : PySem.W.keepIn K (.ref f27) = true)
    (a28 : PySem.W.nsIn K mainGlobals "_law_spoilt_row" = some (some (.ref f28))) (l28 : K.lookup f28 = some ⟨oc28, od28, .func (PySem.W.fnOf "_law_spoilt_row" "_law_spoilt_row" (defArgs s_law_spoilt_row) (defBody s_law_spoilt_row) (defScope s_law_spoilt_row) .none kV28 dc28 pm28 an28 cd28 ct28), sl28⟩) (c28 : PySem.W.codeIn K cd28 "_law_spoilt_row" = true) (k28 : PySem.W.keepIn K (.ref f28) = true)
    (a29 : PySem.W.nsIn K mainGlobals "_law_told" = some (some (.ref f29))) (l29 : K.lookup f29 = some ⟨oc29, od29, .func (PySem.W.fnOf "_law_told" "_law_told" (defArgs s_law_told) (defBody s_law_told) (defScope s_law_told) .none kV29 dc29 pm29 an29 cd29 ct29), sl29⟩) (c29 : PySem.W.codeIn K cd29 "_law_told" = true) (k29 : PySem.W.keepIn K (.ref f29) = true)
    (a30 : PySem.W.nsIn K mainGlobals "_law_looks_right" = some (some (.ref f30))) (l30 : K.lookup f30 = some ⟨oc30, od30, .func (PySem.W.fnOf "_law_looks_right" "_law_looks_right" (defArgs s_law_looks_right) (defBody s_law_looks_right) (defScope s_law_looks_right) .none kV30 dc30 pm30 an30 cd30 ct30), sl30⟩) (c30 : PySem.W.codeIn K cd30 "_law_looks_right" = true) (k30 : PySem.W.keepIn K (.ref f30) = true)
    (a31 : PySem.W.nsIn K mainGlobals "_law_edges_right" = some (some (.ref f31))) (l31 : K.lookup f31 = some ⟨oc31, od31, .func (PySem.W.fnOf "_law_edges_right" "_law_edges_right" (defArgs s_law_edges_right) (defBody s_law_edges_right) (defScope s_law_edges_right) .none kV31 dc31 pm31 an31 cd31 ct31), sl31⟩) (c31 : PySem.W.codeIn K cd31 "_law_edges_right" = true) (k31 : PySem.W.keepIn K (.ref f31) = true)
    (a32 : PySem.W.nsIn K mainGlobals "law" = some (some (.ref f32))) (l32 : K.lookup f32 = some ⟨oc32, od32, .func (PySem.W.fnOf "law" "law" (defArgs s_law) (defBody s_law) (defScope s_law) .none kV32 dc32 pm32 an32 cd32 ct32), sl32⟩) (c32 : PySem.W.codeIn K cd32 "law" = true) (k32 : PySem.W.keepIn K (.ref f32) = true)
    (z1 : PySem.W.nsIn K mainGlobals "abs" = some none)
    (z2 : PySem.W.nsIn K mainGlobals "all" = some none)
    (z3 : PySem.W.nsIn K mainGlobals "bool" = some none)
    (z4 : PySem.W.nsIn K mainGlobals "int" = some none)
    (z5 : PySem.W.nsIn K mainGlobals "isinstance" = some none)
    (z6 : PySem.W.nsIn K mainGlobals "len" = some none)
    (z7 : PySem.W.nsIn K mainGlobals "list" = some none)
    (z8 : PySem.W.nsIn K mainGlobals "range" = some none)
    (z9 : PySem.W.nsIn K mainGlobals "str" = some none)
    (z10 : PySem.W.nsIn K mainGlobals "sum" = some none)
    (z11 : PySem.W.nsIn K mainGlobals "tuple" = some none)
    {tk1 : Tok} (y1 : PySem.W.nsIn K mainGlobals "MOST_BITS" = some (some (.int 40 tk1)))
    {CBadBlock CBadScheme CBreakError : Addr}
    (gBadBlock : PySem.W.nsIn K mainGlobals "BadBlock" = some (some (.ref CBadBlock)))
    (gBadScheme : PySem.W.nsIn K mainGlobals "BadScheme" = some (some (.ref CBadScheme)))
    (gBreakError : PySem.W.nsIn K mainGlobals "BreakError" = some (some (.ref CBreakError)))
    (xBadBlock : PySem.W.excIn K CBadBlock [.type "ValueError", .type "Exception", .type "BaseException", .type "object"] "ValueError.__new__" = true)
    (kBadBlock : PySem.W.keepIn K (.ref CBadBlock) = true)
    (bBadBlock : PySem.W.subIn K (.ref CBadBlock) (.type "BaseException") = some true)
    (tBadBlock : PySem.W.typeIn K (.ref CBadBlock) = some (.type "type"))
    (uBadBlock : PySem.W.findIn K (.ref CBadBlock) "__getattribute__" = some (some (.builtin "BaseException.__getattribute__")))
    (vBadBlock : PySem.W.findIn K (.ref CBadBlock) "__getattr__" = some none)
    (hBadBlock : PySem.W.hasDictIn K CBadBlock = true)
    (wBadBlock : PySem.W.findIn K (.ref CBadBlock) "__class__" = some (some (.builtin "object.__class__")))
    (mBadBlock : PySem.W.mroIn K CBadBlock (.type "object") = some true)
    (eBadBlockBadBlock : PySem.W.exmOne K (.ref CBadBlock) (.ref CBadBlock) = some true)
    (xBadScheme : PySem.W.excIn K CBadScheme [.type "ValueError", .type "Exception", .type "BaseException", .type "object"] "ValueError.__new__" = true)
    (kBadScheme : PySem.W.keepIn K (.ref CBadScheme) = true)
    (bBadScheme : PySem.W.subIn K (.ref CBadScheme) (.type "BaseException") = some true)
    (tBadScheme : PySem.W.typeIn K (.ref CBadScheme) = some (.type "type"))
    (uBadScheme : PySem.W.findIn K (.ref CBadScheme) "__getattribute__" = some (some (.builtin "BaseException.__getattribute__")))
    (vBadScheme : PySem.W.findIn K (.ref CBadScheme) "__getattr__" = some none)
    (hBadScheme : PySem.W.hasDictIn K CBadScheme = true)
    (wBadScheme : PySem.W.findIn K (.ref CBadScheme) "__class__" = some (some (.builtin "object.__class__")))
    (mBadScheme : PySem.W.mroIn K CBadScheme (.type "object") = some true)
    (eBadSchemeBadBlock : PySem.W.exmOne K (.ref CBadScheme) (.ref CBadBlock) = some false)
    (eBadSchemeBadScheme : PySem.W.exmOne K (.ref CBadScheme) (.ref CBadScheme) = some true)
    (sp1 : PySem.W.specialIn K (.builtin "object.__class__") "__get__" = some (some (.builtin "getset_descriptor.__get__")))
    (tk1 : PySem.W.takesIn K (.builtin "object.__class__") = some true) :
    ∃ fd : FuncData, (∀ (s : Shared) (v : Value), BindsTo s fd ⟨[v], []⟩ [("script", v)]) ∧ ∀ base : Heap, K.In base → base.Ns mainGlobals mg → FnOk l.prog w K mg base CX0 top_level fa fd ["script"] (spLaw K) := by
  have e := hfa.symm.trans (PySem.W.mg_of X G a32)
  cases e
  have T : Txt K mg ⟨CBadBlock, CBadScheme, CBreakError⟩ := { n_abs := PySem.W.mg_none_of X G z1, n_all := PySem.W.mg_none_of X G z2, n_bool := PySem.W.mg_none_of X G z3, n_int := PySem.W.mg_none_of X G z4, n_isinstance := PySem.W.mg_none_of X G z5, n_len := PySem.W.mg_none_of X G z6, n_list := PySem.W.mg_none_of X G z7, n_range := PySem.W.mg_none_of X G z8, n_str := PySem.W.mg_none_of X G z9, n_sum := PySem.W.mg_none_of X G z10, n_tuple := PySem.W.mg_none_of X G z11, g_MOST_BITS := ⟨_, PySem.W.mg_of X G y1, ⟨_, rfl⟩⟩, gl_BadBlock := PySem.W.mg_of X G gBadBlock, gl_BadScheme := PySem.W.mg_of X G gBadScheme, gl_BreakError := PySem.W.mg_of X G gBreakError, x_BadBlock := ⟨xBadBlock, PySem.W.mg_of X G gBadBlock, kBadBlock, bBadBlock, tBadBlock⟩, e_BadBlock := ⟨uBadBlock, vBadBlock, bBadBlock, hBadBlock, wBadBlock, sp1, tk1, mBadBlock⟩, exm_BadBlock_BadBlock := eBadBlockBadBlock, x_BadScheme := ⟨xBadScheme, PySem.W.mg_of X G gBadScheme, kBadScheme, bBadScheme, tBadScheme⟩, e_BadScheme := ⟨uBadScheme, vBadScheme, bBadScheme, hBadScheme, wBadScheme, sp1, tk1, mBadScheme⟩, exm_BadScheme_BadBlock := eBadSchemeBadBlock, exm_BadScheme_BadScheme := eBadSchemeBadScheme }
  have F1 := fun_mk (st := s_bits) l1 c1 k1
  have b1 := F1.binds (ps := ["length", "number"]) fun _ _ _ _ _ _ us hl => match us, hl with | [_, _], _ => rfl
  have F2 := fun_mk (st := s_all_bits) l2 c2 k2
  have b2 := F2.binds (ps := ["length"]) fun _ _ _ _ _ _ us hl => match us, hl with | [_], _ => rfl
  have F3 := fun_mk (st := s_number_of) l3 c3 k3
  have b3 := F3.binds (ps := ["string"]) fun _ _ _ _ _ _ us hl => match us, hl with | [_], _ => rfl
  have F4 := fun_mk (st := s_parity) l4 c4 k4
  have b4 := F4.binds (ps := ["first", "second"]) fun _ _ _ _ _ _ us hl => match us, hl with | [_, _], _ => rfl
  have F5 := fun_mk (st := s_is_whole) l5 c5 k5
  have b5 := F5.binds (ps := ["value", "low", "high"]) fun _ _ _ _ _ _ us hl => match us, hl with | [_, _, _], _ => rfl
  have F6 := fun_mk (st := s_are_rows) l6 c6 k6
  have b6 := F6.binds (ps := ["value", "many", "m"]) fun _ _ _ _ _ _ us hl => match us, hl with | [_, _, _], _ => rfl
  have F7 := fun_mk (st := s_is_generator) l7 c7 k7
  have b7 := F7.binds (ps := ["value"]) fun _ _ _ _ _ _ us hl => match us, hl with | [_], _ => rfl
  have F8 := fun_mk (st := s_is_function) l8 c8 k8
  have b8 := F8.binds (ps := ["value"]) fun _ _ _ _ _ _ us hl => match us, hl with | [_], _ => rfl
  have F9 := fun_mk (st := s_check_block) l9 c9 k9
  have b9 := F9.binds (ps := ["block"]) fun _ _ _ _ _ _ us hl => match us, hl with | [_], _ => rfl
  have F10 := fun_mk (st := s_generator_parts) l10 c10 k10
  have b10 := F10.binds (ps := ["block"]) fun _ _ _ _ _ _ us hl => match us, hl with | [_], _ => rfl
  have F11 := fun_mk (st := s_function_parts) l11 c11 k11
  have b11 := F11.binds (ps := ["block"]) fun _ _ _ _ _ _ us hl => match us, hl with | [_], _ => rfl
  have F12 := fun_mk (st := s_row_of) l12 c12 k12
  have b12 := F12.binds (ps := ["block", "string"]) fun _ _ _ _ _ _ us hl => match us, hl with | [_, _], _ => rfl
  have F13 := fun_mk (st := s_value_of) l13 c13 k13
  have b13 := F13.binds (ps := ["block", "key", "string"]) fun _ _ _ _ _ _ us hl => match us, hl with | [_, _, _], _ => rfl
  have F14 := fun_mk (st := s_go_down) l14 c14 k14
  have b14 := F14.binds (ps := ["rows", "label", "path"]) fun _ _ _ _ _ _ us hl => match us, hl with | [_, _, _], _ => rfl
  have F15 := fun_mk (st := s_tree) l15 c15 k15
  have b15 := F15.binds (ps := ["block", "d"]) fun _ _ _ _ _ _ us hl => match us, hl with | [_, _], _ => rfl
  have F16 := fun_mk (st := s_counter) l16 c16 k16
  have b16 := F16.binds (ps := ["block", "c"]) fun _ _ _ _ _ _ us hl => match us, hl with | [_, _], _ => rfl
  have F17 := fun_mk (st := s_hardbits) l17 c17 k17
  have b17 := F17.binds (ps := ["block"]) fun _ _ _ _ _ _ us hl => match us, hl with | [_], _ => rfl
  have F18 := fun_mk (st := s_law_draws) l18 c18 k18
  have b18 := F18.binds (ps := ["script", "many"]) fun _ _ _ _ _ _ us hl => match us, hl with | [_, _], _ => rfl
  have F19 := fun_mk (st := s_law_take) l19 c19 k19
  have b19 := F19.binds (ps := ["hand", "many"]) fun _ _ _ _ _ _ us hl => match us, hl with | [_, _], _ => rfl
  have F20 := fun_mk (st := s_law_string) l20 c20 k20
  have b20 := F20.binds (ps := ["hand", "length"]) fun _ _ _ _ _ _ us hl => match us, hl with | [_, _], _ => rfl
  have F21 := fun_mk (st := s_law_table) l21 c21 k21
  have b21 := F21.binds (ps := ["hand", "n", "m"]) fun _ _ _ _ _ _ us hl => match us, hl with | [_, _, _], _ => rfl
  have F22 := fun_mk (st := s_law_function) l22 c22 k22
  have b22 := F22.binds (ps := ["hand", "n", "l", "m"]) fun _ _ _ _ _ _ us hl => match us, hl with | [_, _, _, _], _ => rfl
  have F23 := fun_mk (st := s_law_number) l23 c23 k23
  have b23 := F23.binds (ps := ["string"]) fun _ _ _ _ _ _ us hl => match us, hl with | [_], _ => rfl
  have F24 := fun_mk (st := s_law_bits) l24 c24 k24
  have b24 := F24.binds (ps := ["length", "number"]) fun _ _ _ _ _ _ us hl => match us, hl with | [_, _], _ => rfl
  have F25 := fun_mk (st := s_law_same) l25 c25 k25
  have b25 := F25.binds (ps := ["found", "due"]) fun _ _ _ _ _ _ us hl => match us, hl with | [_, _], _ => rfl
  have F26 := fun_mk (st := s_law_tree) l26 c26 k26
  have b26 := F26.binds (ps := ["block", "d"]) fun _ _ _ _ _ _ us hl => match us, hl with | [_, _], _ => rfl
  have F27 := fun_mk (st := s_law_hardbits) l27 c27 k27
  have b27 := F27.binds (ps := ["block"]) fun _ _ _ _ _ _ us hl => match us, hl with | [_], _ => rfl
  have F28 := fun_mk (st := s_law_spoilt_row) l28 c28 k28
  have b28 := F28.binds (ps := ["hand", "block"]) fun _ _ _ _ _ _ us hl => match us, hl with | [_, _], _ => rfl
  have F29 := fun_mk (st := s_law_told) l29 c29 k29
  have b29 := F29.binds (ps := ["which", "block", "number"]) fun _ _ _ _ _ _ us hl => match us, hl with | [_, _, _], _ => rfl
  have F30 := fun_mk (st := s_law_looks_right) l30 c30 k30
  have b30 := F30.binds (ps := ["block", "function"]) fun _ _ _ _ _ _ us hl => match us, hl with | [_, _], _ => rfl
  have F31 := fun_mk (st := s_law_edges_right) l31 c31 k31
  have b31 := F31.binds (ps := ["hand"]) fun _ _ _ _ _ _ us hl => match us, hl with | [_], _ => rfl
  have F32 := fun_mk (st := s_law) l32 c32 k32
  have b32 := F32.binds (ps := ["script"]) fun _ _ _ _ _ _ us hl => match us, hl with | [_], _ => rfl
  refine ⟨PySem.W.fnOf "law" "law" (defArgs s_law) (defBody s_law) (defScope s_law) .none kV32 dc32 pm32 an32 cd32 ct32, fun s v => .of_eq rfl, fun base _ _ => ?_⟩
  exact mk_law T ⟨F1, b1, PySem.W.mg_of X G a1⟩ ⟨F2, b2, PySem.W.mg_of X G a2⟩ ⟨F3, b3, PySem.W.mg_of X G a3⟩ ⟨F4, b4, PySem.W.mg_of X G a4⟩ ⟨F5, b5, PySem.W.mg_of X G a5⟩ ⟨F6, b6, PySem.W.mg_of X G a6⟩ ⟨F7, b7, PySem.W.mg_of X G a7⟩ ⟨F8, b8, PySem.W.mg_of X G a8⟩ ⟨F9, b9, PySem.W.mg_of X G a9⟩ ⟨F10, b10, PySem.W.mg_of X G a10⟩ ⟨F11, b11, PySem.W.mg_of X G a11⟩ ⟨F12, b12, PySem.W.mg_of X G a12⟩ ⟨F13, b13, PySem.W.mg_of X G a13⟩ ⟨F14, b14, PySem.W.mg_of X G a14⟩ ⟨F15, b15, PySem.W.mg_of X G a15⟩ ⟨F16, b16, PySem.W.mg_of X G a16⟩ ⟨F17, b17, PySem.W.mg_of X G a17⟩ ⟨F18, b18, PySem.W.mg_of X G a18⟩ ⟨F19, b19, PySem.W.mg_of X G a19⟩ ⟨F20, b20, PySem.W.mg_of X G a20⟩ ⟨F21, b21, PySem.W.mg_of X G a21⟩ ⟨F22, b22, PySem.W.mg_of X G a22⟩ ⟨F23, b23, PySem.W.mg_of X G a23⟩ ⟨F24, b24, PySem.W.mg_of X G a24⟩ ⟨F25, b25, PySem.W.mg_of X G a25⟩ ⟨F26, b26, PySem.W.mg_of X G a26⟩ ⟨F27, b27, PySem.W.mg_of X G a27⟩ ⟨F28, b28, PySem.W.mg_of X G a28⟩ ⟨F29, b29, PySem.W.mg_of X G a29⟩ ⟨F30, b30, PySem.W.mg_of X G a30⟩ ⟨F31, b31, PySem.W.mg_of X G a31⟩ F32
end My
open PySem PySem.W PyProof.Rows
set_option maxRecDepth 100000 in
set_option maxHeartbeats 0 in
theorem PySem.Challenge.cw_breakback_k04_trees_counters_and_hard_bi_holds : PySem.Challenge.rw_breakback_k04_trees_counters_and_hard_bi.Holds := by
  w_on; o_law; k_head; (case hw => w_witness2)
  k_fill
  refine L2.walk_of (l := PySem.Challenge.rw_breakback_k04_trees_counters_and_hard_bi) (n := 63) (k := My.top_level) (x := "script") (CX := fun _ => L2.CX0) (sp := fun w => My.spLaw _) rfl (by decide) rfl ⟨rfl, by decide, by decide⟩ (fun w h Y => PySem.W.kIn_of Y) ?F (fun _ _ a ns hl _ hS => ⟨a, ns, rfl, hS, hl, fun _ => rfl⟩) (fun _ _ _ _ _ h => h)
  case F =>
    intro w mg fa h KX G hmg
    refine' My.all_mk KX G hmg ?a1 ?l1 ?c1 ?k1 ?a2 ?l2 ?c2 ?k2 ?a3 ?l3 ?c3 ?k3 ?a4 ?l4 ?c4 ?k4 ?a5 ?l5 ?c5 ?k5 ?a6 ?l6 ?c6 ?k6 ?a7 ?l7 ?c7 ?k7 ?a8 ?l8 ?c8 ?k8 ?a9 ?l9 ?c9 ?k9 ?a10 ?l10 ?c10 ?k10 ?a11 ?l11 ?c11 ?k11 ?a12 ?l12 ?c12 ?k12 ?a13 ?l13 ?c13 ?k13 ?a14 ?l14 ?c14 ?k14 ?a15 ?l15 ?c15 ?k15 ?a16 ?l16 ?c16 ?k16 ?a17 ?l17 ?c17 ?k17 ?a18 ?l18 ?c18 ?k18 ?a19 ?l19 ?c19 ?k19 ?a20 ?l20 ?c20 ?k20 ?a21 ?l21 ?c21 ?k21 ?a22 ?l22 ?c22 ?k22 ?a23 ?l23 ?c23 ?k23 ?a24 ?l24 ?c24 ?k24 ?a25 ?l25 ?c25 ?k25 ?a26 ?l26 ?c26 ?k26 ?a27 ?l27 ?c27 ?k27 ?a28 ?l28 ?c28 ?k28 ?a29 ?l29 ?c29 ?k29 ?a30 ?l30 ?c30 ?k30 ?a31 ?l31 ?c31 ?k31 ?a32 ?l32 ?c32 ?k32 ?z1 ?z2 ?z3 ?z4 ?z5 ?z6 ?z7 ?z8 ?z9 ?z10 ?z11 ?y1 ?gBadBlock ?gBadScheme ?gBreakError ?xBadBlock ?kBadBlock ?bBadBlock ?tBadBlock ?uBadBlock ?vBadBlock ?hBadBlock ?wBadBlock ?mBadBlock ?eBadBlockBadBlock ?xBadScheme ?kBadScheme ?bBadScheme ?tBadScheme ?uBadScheme ?vBadScheme ?hBadScheme ?wBadScheme ?mBadScheme ?eBadSchemeBadBlock ?eBadSchemeBadScheme ?sp1 ?tk1
    (case a1 => k_is); (case l1 => k_is); (case c1 => k_is); (case k1 => k_is); (case a2 => k_is); (case l2 => k_is); (case c2 => k_is); (case k2 => k_is)
    (case a3 => k_is); (case l3 => k_is); (case c3 => k_is); (case k3 => k_is); (case a4 => k_is); (case l4 => k_is); (case c4 => k_is); (case k4 => k_is)
    (case a5 => k_is); (case l5 => k_is); (case c5 => k_is); (case k5 => k_is); (case a6 => k_is); (case l6 => k_is); (case c6 => k_is); (case k6 => k_is)
    (case a7 => k_is); (case l7 => k_is); (case c7 => k_is); (case k7 => k_is); (case a8 => k_is); (case l8 => k_is); (case c8 => k_is); (case k8 => k_is)
    (case a9 => k_is); (case l9 => k_is); (case c9 => k_is); (case k9 => k_is); (case a10 => k_is); (case l10 => k_is); (case c10 => k_is); (case k10 => k_is)
    (case a11 => k_is); (case l11 => k_is); (case c11 => k_is); (case k11 => k_is); (case a12 => k_is); (case l12 => k_is); (case c12 => k_is); (case k12 => k_is)
    (case a13 => k_is); (case l13 => k_is); (case c13 => k_is); (case k13 => k_is); (case a14 => k_is); (case l14 => k_is); (case c14 => k_is); (case k14 => k_is)
    (case a15 => k_is); (case l15 => k_is); (case c15 => k_is); (case k15 => k_is); (case a16 => k_is); (case l16 => k_is); (case c16 => k_is); (case k16 => k_is)
    (case a17 => k_is); (case l17 => k_is); (case c17 => k_is); (case k17 => k_is); (case a18 => k_is); (case l18 => k_is); (case c18 => k_is); (case k18 => k_is)
    (case a19 => k_is); (case l19 => k_is); (case c19 => k_is); (case k19 => k_is); (case a20 => k_is); (case l20 => k_is); (case c20 => k_is); (case k20 => k_is)
    (case a21 => k_is); (case l21 => k_is); (case c21 => k_is); (case k21 => k_is); (case a22 => k_is); (case l22 => k_is); (case c22 => k_is); (case k22 => k_is)
    (case a23 => k_is); (case l23 => k_is); (case c23 => k_is); (case k23 => k_is); (case a24 => k_is); (case l24 => k_is); (case c24 => k_is); (case k24 => k_is)
    (case a25 => k_is); (case l25 => k_is); (case c25 => k_is); (case k25 => k_is); (case a26 => k_is); (case l26 => k_is); (case c26 => k_is); (case k26 => k_is)
    (case a27 => k_is); (case l27 => k_is); (case c27 => k_is); (case k27 => k_is); (case a28 => k_is); (case l28 => k_is); (case c28 => k_is); (case k28 => k_is)
    (case a29 => k_is); (case l29 => k_is); (case c29 => k_is); (case k29 => k_is); (case a30 => k_is); (case l30 => k_is); (case c30 => k_is); (case k30 => k_is)
    (case a31 => k_is); (case l31 => k_is); (case c31 => k_is); (case k31 => k_is); (case a32 => k_is); (case l32 => k_is); (case c32 => k_is); (case k32 => k_is)
    (case z1 => k_is); (case z2 => k_is); (case z3 => k_is); (case z4 => k_is); (case z5 => k_is); (case z6 => k_is); (case z7 => k_is); (case z8 => k_is)
    (case z9 => k_is); (case z10 => k_is); (case z11 => k_is); (case y1 => k_is); (case gBadBlock => k_is); (case gBadScheme => k_is); (case gBreakError => k_is); (case xBadBlock => k_exc)
    (case kBadBlock => k_is); (case bBadBlock => k_is); (case tBadBlock => k_is); (case uBadBlock => k_is); (case vBadBlock => k_is); (case hBadBlock => k_is); (case wBadBlock => k_is); (case mBadBlock => k_is)
    (case eBadBlockBadBlock => first | rfl | k_is); (case xBadScheme => k_exc); (case kBadScheme => k_is); (case bBadScheme => k_is); (case tBadScheme => k_is); (case uBadScheme => k_is); (case vBadScheme => k_is); (case hBadScheme => k_is)
    (case wBadScheme => k_is); (case mBadScheme => k_is); (case eBadSchemeBadBlock => first | rfl | k_is); (case eBadSchemeBadScheme => first | rfl | k_is); (case sp1 => first | rfl | k_is); (case tk1 => first | rfl | k_is)
#print axioms PySem.Challenge.cw_breakback_k04_trees_counters_and_hard_bi_holds
