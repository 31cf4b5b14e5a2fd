
import PyProof.Rows.All
import Wide.All
import OpenK.AllK
import Wide.FinOn
import HandS.ForMost
import HandS.Codes
import HandS.StrMore
import HandS.Defaults
import HandS.IntHex
import HandS.IsInst
import HandS.TupAny
import HandS.TupMul
import PyProof.FString3
import PyProof.Rows.StrIntSpec
import PyProof.StrOps2
import KE.IntText
import KE.KIntText
import KE.IntTextLaws
import HandS.Exc
import HandS.ExcOwn
import HandS.TryOnly
import HandS.TryMany
import HandS.ExcIs
import HandS.WordsExc
import HandS.ForExc

import HandS.Iter
import HandS.Strs
import HandS.SetFor
import HandS.SetBool
import HandS.SortInts
import PySem.Challenge.RW_breakback_k30_double_openings
set_option Elab.async false
set_option linter.all false
set_option maxRecDepth 100000
set_option maxHeartbeats 4000000
namespace My
open PySem PySem.Spec PyProof.Rows L2
theorem snocInd {α : Type} {P : List α → Prop} (h0 : P []) (h1 : ∀ l a, P l → P (l ++ [a])) (l : List α) : P l := by
  have h : ∀ (n : Nat) (l : List α), l.length = n → P l := by
    intro n
    induction n with
    | zero =>
      intro l e
      rw [List.eq_nil_of_length_eq_zero e]
      exact h0
    | succ n ih =>
      intro l e
      have hn : l ≠ [] := fun z => by
        rw [z] at e
        cases e
      rw [← List.dropLast_concat_getLast hn]
      exact h1 _ _ (ih _ (by rw [List.length_dropLast, e]; rfl))
  exact h _ l rfl
/-! ### strings of bits -/
def cB (b : Bool) : Nat := if b then 49 else 48
def sb (bs : List Bool) : Str := SX.S (bs.map cB)
def toB : Nat → Nat → List Bool
  | 0, _ => []
  | n + 1, k => toB n (k / 2) ++ [k % 2 == 1]
def bit (b : Bool) : Nat := if b then 1 else 0
def val (bs : List Bool) : Nat := bs.foldl (fun a b => 2 * a + bit b) 0
theorem toB_len : ∀ n k, (toB n k).length = n
  | 0, _ => rfl
  | n + 1, k => by
    show (toB n (k / 2) ++ [k % 2 == 1]).length = n + 1
    rw [List.length_append, toB_len n]
    rfl
theorem sb_len (bs : List Bool) : (sb bs).length = bs.length := by
  unfold sb
  rw [SX.S_len, List.length_map]
theorem cB_inj {a b : Bool} (h : cB a = cB b) : a = b := by
  cases a <;> cases b <;> first | rfl | (exact absurd h (by decide))
theorem map_cB_inj : ∀ {l m : List Bool}, l.map cB = m.map cB → l = m
  | [], [], _ => rfl
  | [], _ :: _, h => by simp at h
  | _ :: _, [], h => by simp at h
  | a :: l, b :: m, h => by
    rw [List.map_cons, List.map_cons] at h
    injection h with h1 h2
    rw [cB_inj h1, map_cB_inj h2]
theorem sb_inj {l m : List Bool} (h : sb l = sb m) : l = m := map_cB_inj (SX.S_inj h)
theorem sb_cat (l m : List Bool) : sb l ++ sb m = sb (l ++ m) := by
  unfold sb
  rw [SX.S_cat, List.map_append]
theorem val_snoc (l : List Bool) (b : Bool) : val (l ++ [b]) = 2 * val l + bit b := by
  unfold val
  rw [List.foldl_append]
  rfl
theorem bit_lt (b : Bool) : bit b < 2 := by cases b <;> decide
theorem toB_val (bs : List Bool) : toB bs.length (val bs) = bs := by
  induction bs using snocInd with
  | h0 => rfl
  | h1 l b ih =>
    rw [List.length_append, val_snoc]
    show toB (l.length + 1) _ = _
    show toB l.length ((2 * val l + bit b) / 2) ++ [(2 * val l + bit b) % 2 == 1] = l ++ [b]
    have h := bit_lt b
    rw [show (2 * val l + bit b) / 2 = val l by omega, ih, show (2 * val l + bit b) % 2 = bit b by omega]
    cases b <;> rfl
theorem val_lt (bs : List Bool) : val bs < 2 ^ bs.length := by
  induction bs using snocInd with
  | h0 => exact Nat.one_pos
  | h1 l b ih =>
    rw [List.length_append, val_snoc]
    show _ < 2 ^ (l.length + 1)
    have h := bit_lt b
    rw [Nat.pow_succ]
    omega
theorem val_toB : ∀ (n k : Nat), k < 2 ^ n → val (toB n k) = k
  | 0, k, h => by
    have e : k = 0 := by
      have : k < 1 := h
      omega
    subst e
    rfl
  | n + 1, k, h => by
    show val (toB n (k / 2) ++ [k % 2 == 1]) = k
    rw [Nat.pow_succ] at h
    rw [val_snoc, val_toB n (k / 2) (by omega)]
    have e : bit (k % 2 == 1) = k % 2 := by
      rcases Nat.mod_two_eq_zero_or_one k with z | z <;> rw [z] <;> rfl
    rw [e]
    omega
theorem toB_zero (n : Nat) : toB n 0 = List.replicate n false := by
  induction n with
  | zero => rfl
  | succ n ih =>
    show toB n 0 ++ [false] = _
    rw [ih, List.replicate_succ']
/-! ### two strings place by place -/
theorem toB_xor : ∀ (n a b : Nat), toB n (a ^^^ b) = List.zipWith (fun x y => x != y) (toB n a) (toB n b)
  | 0, _, _ => rfl
  | n + 1, a, b => by
    show toB n ((a ^^^ b) / 2) ++ [(a ^^^ b) % 2 == 1] = List.zipWith (fun x y => x != y) (toB n (a / 2) ++ [a % 2 == 1]) (toB n (b / 2) ++ [b % 2 == 1])
    rw [List.zipWith_append (by rw [toB_len, toB_len]), Nat.xor_div_two, toB_xor n]
    congr 1
    have e : (a ^^^ b) % 2 = (a % 2) ^^^ (b % 2) := by
      have h := Nat.xor_mod_two_pow (a := a) (b := b) (n := 1)
      rw [Nat.pow_one] at h
      exact h
    rw [e]
    rcases Nat.mod_two_eq_zero_or_one a with z | z <;> rcases Nat.mod_two_eq_zero_or_one b with y | y <;> rw [z, y] <;> rfl
theorem toB_and : ∀ (n a b : Nat), toB n (a &&& b) = List.zipWith (fun x y => x && y) (toB n a) (toB n b)
  | 0, _, _ => rfl
  | n + 1, a, b => by
    show toB n ((a &&& b) / 2) ++ [(a &&& b) % 2 == 1] = List.zipWith (fun x y => x && y) (toB n (a / 2) ++ [a % 2 == 1]) (toB n (b / 2) ++ [b % 2 == 1])
    rw [List.zipWith_append (by rw [toB_len, toB_len]), Nat.and_div_two, toB_and n]
    congr 1
    have e : (a &&& b) % 2 = (a % 2) * (b % 2) := by
      have h := Nat.and_mod_two_pow (a := a) (b := b) (n := 1)
      rw [Nat.pow_one] at h
      rw [h]
      rcases Nat.mod_two_eq_zero_or_one a with z | z <;> rcases Nat.mod_two_eq_zero_or_one b with y | y <;> rw [z, y] <;> rfl
    rw [e]
    rcases Nat.mod_two_eq_zero_or_one a with z | z <;> rcases Nat.mod_two_eq_zero_or_one b with y | y <;> rw [z, y] <;> rfl
/-! ### the digits that Python writes -/
def dig (k : Nat) : List Nat := (Nat.toDigits 2 k).map Char.toNat
theorem dig_lt {k : Nat} (h : k < 2) : dig k = [cB (k == 1)] := by
  unfold dig
  rw [Nat.toDigits_of_lt_base h]
  have : k = 0 ∨ k = 1 := by omega
  rcases this with e | e <;> subst e <;> rfl
theorem dig_ge {k : Nat} (h : 2 ≤ k) : dig k = dig (k / 2) ++ [cB (k % 2 == 1)] := by
  unfold dig
  rw [Nat.toDigits_of_base_le (by decide) h, List.map_append]
  congr 1
  rcases Nat.mod_two_eq_zero_or_one k with z | z <;> rw [z] <;> rfl
theorem dig_toB : ∀ (n k : Nat), k < 2 ^ (n + 1) → ∃ p, (toB (n + 1) k).map cB = List.replicate p 48 ++ dig k
  | 0, k, h => by
    have hk : k < 2 := h
    refine ⟨0, ?_⟩
    rw [dig_lt hk]
    show [cB (k % 2 == 1)] = [cB (k == 1)]
    rw [Nat.mod_eq_of_lt hk]
  | n + 1, k, h => by
    show ∃ p, (toB (n + 1) (k / 2) ++ [k % 2 == 1]).map cB = _
    rw [List.map_append]
    by_cases hk : k < 2
    · refine ⟨n + 1, ?_⟩
      rw [dig_lt hk, show k / 2 = 0 by omega, toB_zero, List.map_replicate, Nat.mod_eq_of_lt hk]
      rfl
    · have h' : k < 2 ^ (n + 1) * 2 := by
        rw [← Nat.pow_succ]
        exact h
      obtain ⟨p, e⟩ := dig_toB n (k / 2) (by omega)
      refine ⟨p, ?_⟩
      rw [e, dig_ge (k := k) (by omega), List.append_assoc]
      rfl
theorem dig_len_pos (k : Nat) : 0 < (dig k).length := by
  unfold dig
  rw [List.length_map]
  exact Nat.length_toDigits_pos
theorem dig_head (k : Nat) : ∃ c r, dig k = c :: r ∧ (c = 48 ∨ c = 49) := by
  induction k using Nat.strongRecOn with
  | _ k ih =>
    by_cases hk : k < 2
    · rw [dig_lt hk]
      exact ⟨_, _, rfl, by cases (k == 1) <;> decide⟩
    · obtain ⟨c, r, e, h⟩ := ih (k / 2) (by omega)
      rw [dig_ge (by omega), e]
      exact ⟨c, r ++ [_], rfl, h⟩
theorem zfill_dig (n k : Nat) (h : k < 2 ^ (n + 1)) : Txt.zfill (SX.S (dig k)) ((n + 1 : Nat) : Int) = sb (toB (n + 1) k) := by
  obtain ⟨p, e⟩ := dig_toB n k h
  have hl : n + 1 = p + (dig k).length := by
    have := congrArg List.length e
    rw [List.length_map, toB_len, List.length_append, List.length_replicate] at this
    exact this
  unfold sb
  rw [e]
  unfold Txt.zfill
  rw [SX.S_len]
  by_cases hp : p = 0
  · subst hp
    rw [if_pos (by omega)]
    rfl
  · rw [if_neg (by omega)]
    obtain ⟨c, r, ed, hc⟩ := dig_head k
    have hm : ((n + 1 : Nat) : Int).toNat - (dig k).length = p := by omega
    rw [hm]
    unfold zfilled
    rw [ed]
    rcases hc with rfl | rfl
    · show Builtin.Str.padded _ p 0 48 = _
      refine TL.ext_tl ?_
      simp [Builtin.Str.padded, TL.tl, SX.S]
    · show Builtin.Str.padded _ p 0 48 = _
      refine TL.ext_tl ?_
      simp [Builtin.Str.padded, TL.tl, SX.S]
section
open Builtin Builtin.Str Builtin.Int Builtin.Float
theorem ite_n {c : Prop} [Decidable c] {X Y : Prop} (hc : ¬ c) (h : Y) : if c then X else Y := by
  rw [if_neg hc]
  exact h
theorem ite_y {c : Prop} [Decidable c] {X Y : Prop} (hc : c) (h : X) : if c then X else Y := by
  rw [if_pos hc]
  exact h
/-- the text of the bits of n, as the format "b" makes it -/
theorem field_b (l : List Nat) (hl : l ≠ []) : intField' { fill := 32, align := 62, type := some 98 } false [] l [] 4 = ⟨l.toArray⟩ := by
  unfold intField'
  have h0 : l.isEmpty = false := by
    cases l with
    | nil => exact absurd rfl hl
    | cons a r => rfl
  simp [h0]
theorem wp_eq {α : Type} {M : Model} {A : Around} {t t' : Sem α} {Q : α → Shared → Prop} {E : Value → Shared → Prop} {s : Shared} (e : t = t') (h : wpAny M A t' Q E s) : wpAny M A t Q E s := by
  rw [e]
  exact h
set_option maxHeartbeats 1000000 in
theorem gives_fmtB {spec : PySem.Str} (n : Nat) (t u : Tok) (hz : (Nat.toDigits 2 n).length ≤ sizeLine)
    (hp : parseFormatSpec spec.cps.toList "int" 62 = .ok { fill := 32, align := 62, type := some 98 }) (hne : (spec.length == 0) = false)
    (hasc : ((spec.cps.toList.drop 1).any (· ≥ 128) || (spec.cps.getD 0 0 ≥ 128 && !([60, 62, 61, 94] : List Nat).contains (spec.cps.getD 1 0))) = false) :
    Gives («int.__format__» ⟨[.int (n : Int) t, .str spec u], []⟩) (.str ⟨((Nat.toDigits 2 n).map Char.toNat).toArray⟩) := by
  intro prog w A R s hq
  unfold Builtin.«int.__format__»
  simp only [selfAndOne, noKeywords, Int.intOfSelf, asInt?, asStr?, List.isEmpty_nil, if_true, pure_bind, bind_pure, bind_assoc, hne, hasc, Bool.false_eq_true, if_false,
    show (Value.str spec u == Value.none) = false from rfl]
  refine wpAny_bind (wpAny_typeNameOf (T := "str") (typeIs_str _ _ _) (by decide) fun _ => ?_)
  refine wpAny_bind (wpAny_typeNameOfCut_int ?_)
  simp only [hp, Option.getD_some]
  refine wpAny_ite (ite_y (by decide) ?_)
  refine wp_eq (t' := retStr (intField' { fill := 32, align := 62, type := some 98 } (decide ((n : Int) < 0)) [] ((Nat.toDigits 2 n).map fun c => (if (98 : Nat) == 88 then c.toUpper else c).toNat) [] 4)) (by kernel_rfl) ?_
  rw [show decide ((n : Int) < 0) = false from decide_eq_false (by omega), field_b _ (by
    have := Nat.length_toDigits_pos (b := 2) (n := n)
    intro z
    rw [List.map_eq_nil_iff] at z
    rw [z] at this
    exact absurd this (by decide))]
  refine wpAny_bind (wpAny_mkStr (wpAny_pure hq.2) ?_)
  show (List.toArray _).size ≤ _
  rw [List.size_toArray, List.length_map]
  exact hz
end
/-! ### a text times an int -/
theorem foldl_app (x : Array Nat) : ∀ (n : Nat) (acc : Array Nat), ((List.replicate n x).foldl (· ++ ·) acc).toList = acc.toList ++ (List.replicate n x.toList).flatten
  | 0, acc => by simp
  | n + 1, acc => by
    rw [List.replicate_succ, List.foldl_cons, foldl_app x n, List.replicate_succ, List.flatten_cons, Array.toList_append, List.append_assoc]
def rRepS : R2 := fun x y H Q => ∃ (l : List Nat) (k : Int), x = .str (SX.S l) ∧ y = .int k ∧ (0 ≤ k ∧ l.length * k.toNat ≤ 16777216 ∧ k ≤ 16777216) ∧ Q (.str (SX.S (List.replicate k.toNat l).flatten)) H
theorem op_repS {X : Cx} : OpR X (binaryOp .Mult) rRepS := by
  intro pins s σ H x y v u Q I rx ry h
  obtain ⟨l, k, rfl, rfl, ⟨h0, hz, hk⟩, q⟩ := h
  obtain ⟨t, rfl⟩ := rx
  obtain ⟨t', rfl⟩ := ry
  have hs : sizeLine = 16777216 := sizeLine_eq
  refine PySem.P.mul_str ?_ (fun h1 _ => ?_) (fun _ _ => ?_) ?_
  · rw [decide_eq_false (by omega), decide_eq_false (by omega)]
    rfl
  · rw [SX.S_len]
    have hp : 0 < k := by omega
    have : (l.length : Int) * k ≤ 16777216 := by
      have e : ((l.length * k.toNat : Nat) : Int) = (l.length : Int) * k := by
        rw [Int.natCast_mul, Int.toNat_of_nonneg h0]
      omega
    have := (Int.le_ediv_iff_mul_le hp (a := (l.length : Int)) (b := 2 ^ 63 - 1)).mpr (by omega)
    omega
  · rw [SX.S_len]
    unfold Builtin.Str.tooLong
    rw [sizeLine_eq]
    exact decide_eq_false (by omega)
  · by_cases h1 : k < 1
    · rw [if_pos h1]
      have e : k = 0 := by omega
      subst e
      exact ⟨by decide, .str (SX.S []), H, I.tok _, ⟨_, rfl⟩, q⟩
    · rw [if_neg h1]
      by_cases h2 : (k == 1 || (SX.S l).length == 0) = true
      · rw [if_pos h2]
        have e : (List.replicate k.toNat l).flatten = l := by
          rw [Bool.or_eq_true, beq_iff_eq, beq_iff_eq, SX.S_len] at h2
          rcases h2 with e | e
          · subst e
            simp
          · rw [List.eq_nil_of_length_eq_zero e]
            simp
        rw [e] at q
        exact ⟨.str (SX.S l), H, I, ⟨t, rfl⟩, q⟩
      · rw [if_neg h2]
        have e : (⟨(List.replicate k.toNat (SX.S l).cps).foldl (· ++ ·) #[]⟩ : Str) = SX.S (List.replicate k.toNat l).flatten := by
          refine TL.ext_tl ?_
          show (List.foldl (· ++ ·) (#[] : Array Nat) (List.replicate k.toNat l.toArray)).toList = _
          rw [foldl_app]
          rfl
        rw [e]
        refine ⟨?_, .str _, H, I.tok _, ⟨_, rfl⟩, q⟩
        rw [SX.S_len, List.length_flatten, List.map_replicate, List.sum_replicate_nat, hs]
        rw [Nat.mul_comm]
        exact hz
/-! ### f(k = v, ..): keywords alone -/
theorem pe_callN0 {X : Cx} {CX : CXT} {k : Nat} {f : Addr} {fd : FuncData} {ps ks : List Str} {sp : Sp} {E : XK} {x : Str} {p pos : Pos} {kws : List Keyword} {tk : TA} {g : List Value → List Value → List Value} {gV : List V → List V → List V}
    (F : FnOk X.prog X.w X.K X.mg X.base CX k f fd ps sp) (hr : Room k X.A) (hg : Gl X x) (hm : X.mg x = some (.ref f)) (hk : PySem.W.keepIn X.K (.ref f) = true) (hb : KBn X.K fd ps 0 ks g gV) (hx : Passes CX X E)
    (hkw : PK X kws tk) (hall : (backToKw pos (keywordEach kws X.env)).all (·.1.isSome) = true := by rfl) (hks : (backToKw pos (keywordEach kws X.env)).filterMap (·.1) = ks := by rfl)
    (hdb : (x == ("__debug__" : Str)) = false := by decide)
    (hpl : ((backTo pos (starEach [] X.env)).any (·.1) || (backToKw pos (keywordEach kws X.env)).any (·.1.isNone)) = false := by rfl) :
    PE X (.Call (.Name x p) [] kws pos) (tCallN 0 ks.length sp gV E tNil tk) := by
  refine ⟨fun pins s σ H Q I h => ?_⟩
  refine wpAny_Call_Name_kw (ld_glob I hg hm ?_ hdb)
  refine PySem.W.callWith_KW0 (h₀ := X.base) I.ok.mod.kin hk hall ?_ hpl
  refine thn (hkw.run pos pins s σ H _ I h) fun ws s2 ⟨zs, H2, I2, rz, l1, l2, q2⟩ => ⟨I2.kIn, ?_⟩
  rw [hks]
  exact run_fnN (us := []) (vs := []) F hr hb hx I2 .nil rz rfl l2 q2
/-! ### int(t, 2) -/
namespace Two
open PySem.NumText PySem.Calls
def Bin (c : Nat) : Prop := c = 48 ∨ c = 49
def num (l : List Nat) : Nat := l.foldl (fun a c => a * 2 + (c - 48)) 0
theorem Bin.plain {c : Nat} (h : Bin c) : c ≠ 95 ∧ c ≠ 0 ∧ c < 128 ∧ 33 ≤ c ∧ c ≠ 32 ∧ c ≠ 43 ∧ c ≠ 45 := by
  rcases h with e | e <;> subst e <;> decide
theorem one {ds : Array Nat} {b : Bool} {c : Nat} (h : Bin c) : PySem.NumText.step 2 (ds, b) c = some (ds.push (c - 48), true) := by
  rcases h with e | e <;> subst e <;> rfl
theorem more : ∀ (cs : List Nat) (ds : Array Nat), (∀ c ∈ cs, Bin c) → cs.foldlM (PySem.NumText.step 2) (ds, true) = some ((ds.toList ++ cs.map (· - 48)).toArray, true)
  | [], ds, _ => by simp
  | c :: cs, ds, h => by
    rw [List.foldlM_cons, one (h c (List.mem_cons_self ..))]
    refine (more cs (ds.push (c - 48)) fun d hd => h d (List.mem_cons_of_mem _ hd)).trans ?_
    simp
theorem all {cs : List Nat} (h : ∀ c ∈ cs, Bin c) (hne : cs ≠ []) : digits? 2 cs = some (cs.map (· - 48)).toArray := by
  cases cs with
  | nil => exact absurd rfl hne
  | cons c cs =>
    have e : List.foldlM (PySem.NumText.step 2) ((#[] : Array Nat), false) (c :: cs) = some (((c :: cs).map (· - 48)).toArray, true) := by
      rw [List.foldlM_cons, one (h c (List.mem_cons_self ..))]
      refine (more cs (#[].push (c - 48)) fun d hd => h d (List.mem_cons_of_mem _ hd)).trans ?_
      simp
    unfold digits?
    rw [e]
    rfl
theorem worth (l : List Nat) : (l.map (· - 48)).toArray.foldl (fun acc d => acc * 2 + d) 0 = num l := by
  rw [← Array.foldl_toList]
  unfold num
  rw [List.foldl_map]
theorem noBlank {cs : List Nat} (h : ∀ c ∈ cs, Bin c) : cs.dropWhile blank = cs := by
  cases cs with
  | nil => rfl
  | cons c cs =>
    have := (h c (List.mem_cons_self ..)).plain
    exact dropWhile_of (by omega)
theorem noSign {cs : List Nat} (h : ∀ c ∈ cs, Bin c) : sign cs = (false, cs) := by
  cases cs with
  | nil => rfl
  | cons c cs =>
    have := (h c (List.mem_cons_self ..)).plain
    exact sign_of (by omega) (by omega)
theorem noPre {cs : List Nat} (h : ∀ c ∈ cs, Bin c) : based 2 cs = (2, false, cs) := by
  match cs, h with
  | [], _ => rfl
  | [a], h =>
    rcases h a (List.mem_cons_self ..) with e | e <;> subst e <;> rfl
  | a :: c :: r, h =>
    rcases h a (List.mem_cons_self ..) with e | e <;> subst e <;>
      rcases h c (List.mem_cons_of_mem _ (List.mem_cons_self ..)) with e | e <;> subst e <;> rfl
theorem read {cs : List Nat} (h : ∀ c ∈ cs, Bin c) (hne : cs ≠ []) : (int_private% "readNumeral") 0 2 cs = (int_private% "Numeral.value") ((num cs : Nat) : Int) := by
  have hb : based 2 cs = (2, false, cs) := noPre h
  have hr : ∀ c ∈ cs.reverse, Bin c := fun c hc => h c (List.mem_reverse.mp hc)
  rw [readNumeral_eq 0 2 cs, noBlank h, noSign h]
  show judge 0 false (based 2 cs).1 (based 2 cs).2.1 (digits? (based 2 cs).1 (((based 2 cs).2.2.reverse.dropWhile blank).reverse)) = _
  rw [hb]
  show judge 0 false 2 false (digits? 2 ((cs.reverse.dropWhile blank).reverse)) = _
  rw [noBlank hr, List.reverse_reverse, all h hne]
  show (int_private% "Numeral.value") (((cs.map (· - 48)).toArray.foldl (fun acc d => acc * 2 + d) 0 : Nat) : Int) = _
  rw [worth]
theorem seen {x : Str} (h : ∀ c ∈ x.cps.toList, Bin c) : numTextOf x = x.cps.toList ∧ numSeenOf x = x.cps.toList := by
  have e1 : numTextOf x = x.cps.toList := if_pos (by
    rw [← Array.all_toList, List.all_eq_true]
    exact fun c hc => decide_eq_true (h c hc).plain.2.2.1)
  refine ⟨e1, ?_⟩
  show List.takeWhile _ (numTextOf x) = _
  rw [e1]
  exact takeWhile_all fun c hc => bne_iff_ne.mpr (h c hc).plain.2.1
set_option maxHeartbeats 4000000 in
theorem gives {x : PySem.Str} {u t : Tok} (hl : x.length ≤ 640) (h : ∀ c ∈ x.cps.toList, Bin c) (hne : x.cps.toList ≠ []) :
    Gives (Builtin.«int.__new__» ⟨[.type "int", .str x u, .int 2 t], []⟩) (.int ((num x.cps.toList : Nat) : Int)) :=
  .of_wp fun M A E s Q hQ => by
    obtain ⟨hp, g, d, tk, os⟩ := s
    have f1 := F.conv_sub_int
    have f2 := F.madeHere_int
    have f6 : typeOf (.str x u) = pure (.type "str") := rfl
    obtain ⟨e1, e2⟩ := seen h
    have hk : Hx.Hid ((numSeenOf x).length ≤ 640 ∧ (int_private% "readNumeral") 0 2 (numSeenOf x) = (int_private% "Numeral.value") ((num x.cps.toList : Nat) : Int) ∧ ((numSeenOf x).length == (numTextOf x).length) = true) := by
      refine ⟨?_, ?_, ?_⟩
      · rw [e2, Array.length_toList]
        exact hl
      · rw [e2]
        exact read h hne
      · rw [e1, e2]
        exact beq_self_eq_true _
    clear e1 e2 hl hne h
    repeat (any_goals (first
      | assumption
      | ((with_reducible show wpAny _ _ ((int_private% "intFromText") _ _ _) _ _ _); refine Hx.wp_textB hk.out.1 hk.out.2.1 hk.out.2.2 ?_)
      | wp_step))
    all_goals (try exact ⟨_, rfl, hQ⟩)
end Two
def rIntBin : List V → Hp → VK → Prop := fun xs H Q => ∃ l : List Nat, xs = [.str (SX.S l), .int 2] ∧ (l ≠ [] ∧ l.length ≤ 640 ∧ ∀ c ∈ l, Two.Bin c) ∧ Q (.int ((Two.num l : Nat) : Int)) H
theorem call_int_bin {X : Cx} : CallR X (.type "int") rIntBin := by
  intro pins s σ H xs us Q I r h
  obtain ⟨l, rfl, ⟨hne, hl, hx⟩, q⟩ := h
  obtain ⟨u, w', rfl, ⟨t1, rfl⟩, ⟨t2, rfl⟩⟩ := vals2 r
  exact callType_new F.called_int F.newNe_int (Hx.typeCall_int_2 _ _) (Hx.newCall_int_2 _ _) (fun obj => F.initArgs_range_2 obj _ _) F.entry_int_new
    (Two.gives (x := SX.S l) (u := t1) (t := t2) (by rw [SX.S_len]; exact hl) hx hne).meets (show (Made.int ((Two.num l : Nat) : Int)).post _ s from ⟨rfl, .int ((Two.num l : Nat) : Int), H, I.tok _, ⟨_, rfl⟩, q⟩)
/-! ### f"{n:b}" -/
def tFmtB (te : TE) : TE := fun σ H Q => te σ H fun x H1 => ∃ n : Nat, x = .int (n : Int) ∧ (dig n).length ≤ 16777216 ∧ Q (.str (SX.S (dig n))) H1
theorem spec_b : Builtin.Float.parseFormatSpec (Str.ofString "b").cps.toList "int" 62 = .ok { fill := 32, align := 62, type := some 98 } := by kernel_rfl
theorem pe_fmtB {X : Cx} {e : Expr} {te : TE} {j : Nat} {p1 p2 p3 p4 : Pos} (he : PE X e te) : PE X (.JoinedStr [.FormattedValue e (-1) (some (.JoinedStr [.Constant (.str "b") j p1] p2)) p3] p4) (tFmtB te) := by
  refine ⟨fun pins s σ H Q I h => ?_⟩
  refine wpAny_JoinedStr_one (wpAny_FormattedValue_spec (thn (he.run pins s σ H _ I h) fun v s1 hv => ?_))
  obtain ⟨x, H1, I1, r1, n, rfl, hz, q⟩ := hv
  obtain ⟨t, rfl⟩ := r1
  refine wpAny_JoinedStr_one (thn ((pe_str (X := X) (x := "b") (j := j) (pos := p1)).run pins s1 σ H1 (fun v H2 => v = .str "b" ∧ H2 = H1) I1 ⟨rfl, rfl⟩) fun v s2 hv => ?_)
  obtain ⟨x, H2, I2, r2, rfl, rfl⟩ := hv
  obtain ⟨t2, rfl⟩ := r2
  have hd : (Nat.toDigits 2 n).length ≤ sizeLine := by
    have h := hz
    unfold dig at h
    rw [List.length_map] at h
    rw [sizeLine_eq]
    exact h
  refine ⟨_, t2, rfl, wpAny_formatField_spec (by decide) (fun s' => typeIs_int s' _ t) F.slot_int_format F.entry_int_format F.args_int_format_2 (fun u => gives_fmtB n t u hd spec_b (by decide) (by decide)) ⟨.str (SX.S (dig n)), _, I2.tok _, ⟨_, rfl⟩, q⟩ (by decide) ?_⟩
  show (List.toArray _).size ≤ _
  rw [List.size_toArray, List.length_map]
  exact hd
/-! ### a def under its name, with its promise -/
structure Df (K : PySem.W.Frag) (mg : Str → Option Value) (x : Str) (st : Stmt) (ps : List Str) (f : Addr) (fd : FuncData) : Prop where
  fn : Fun K x x st f fd
  bi : Binds K fd ps []
  gl : mg x = some (.ref f)
structure Cl (P : Program) (w : World) (K : PySem.W.Frag) (mg : Str → Option Value) (base : Heap) (CX : CXT) (k : Nat) (x : Str) (sp : Sp) : Prop where
  ex : ∃ (f : Addr) (fd : FuncData) (ps : List Str), FnOk P w K mg base CX k f fd ps sp ∧ mg x = some (.ref f) ∧ PySem.W.keepIn K (.ref f) = true ∧ Binds K fd ps []
structure Ck (P : Program) (w : World) (K : PySem.W.Frag) (mg : Str → Option Value) (base : Heap) (CX : CXT) (k n : Nat) (x : Str) (ks : List Str) (gV : List V → List V → List V) (sp : Sp) : Prop where
  ex : ∃ (f : Addr) (fd : FuncData) (ps : List Str) (g : List Value → List Value → List Value), FnOk P w K mg base CX k f fd ps sp ∧ mg x = some (.ref f) ∧ PySem.W.keepIn K (.ref f) = true ∧ KBn K fd ps n ks g gV
section
variable {P : Program} {w : World} {K : PySem.W.Frag} {mg : Str → Option Value} {base : Heap} {CX : CXT} {k j : Nat} {x : Str} {sp : Sp}
theorem Df.cl {st : Stmt} {ps : List Str} {f : Addr} {fd : FuncData} (D : Df K mg x st ps f fd) (h : FnOk P w K mg base CX k f fd ps sp) : Cl P w K mg base CX k x sp := ⟨f, fd, ps, h, D.gl, D.fn.kp, D.bi⟩
theorem pe_cl {X : Cx} {p pos : Pos} {e : Expr} {es : List Expr} {t : TA} (c : Cl X.prog X.w X.K X.mg X.base CX0 k x sp) (hr : Room j X.A) (hk : k ≤ j) (hg : Gl X x) (ha : PA X (e :: es) t)
    (hdb : (x == ("__debug__" : Str)) = false := by decide) (he : starEach (e :: es) X.env = (false, eval e X.env) :: starEach es X.env := by rfl) (hpl : (backTo pos (starEach es X.env)).any (·.1) = false := by rfl) :
    PE X (.Call (.Name x p) (e :: es) [] pos) (tCall sp [] E0 t) := by
  obtain ⟨f, fd, ps, F, hm, kp, b⟩ := c.ex
  exact pe_call F (hr.mono hk) hg hm kp b .nil pass0 ha hdb he hpl
theorem pe_ck0 {X : Cx} {p pos : Pos} {kws : List Keyword} {tk : TA} {ks : List Str} {gV : List V → List V → List V} (c : Ck X.prog X.w X.K X.mg X.base CX0 k 0 x ks gV sp) (hr : Room j X.A) (hk : k ≤ j) (hg : Gl X x) (hkw : PK X kws tk)
    (hall : (backToKw pos (keywordEach kws X.env)).all (·.1.isSome) = true := by rfl) (hks : (backToKw pos (keywordEach kws X.env)).filterMap (·.1) = ks := by rfl)
    (hdb : (x == ("__debug__" : Str)) = false := by decide)
    (hpl : ((backTo pos (starEach [] X.env)).any (·.1) || (backToKw pos (keywordEach kws X.env)).any (·.1.isNone)) = false := by rfl) :
    PE X (.Call (.Name x p) [] kws pos) (tCallN 0 ks.length sp gV E0 tNil tk) := by
  obtain ⟨f, fd, ps, g, F, hm, kp, b⟩ := c.ex
  exact pe_callN0 F (hr.mono hk) hg hm kp b pass0 hkw hall hks hdb hpl
end
/-! ### rules that speak of the written part, K named (a comprehension's block asks it so) -/
section
variable {X : Cx}
theorem ixL (K : PySem.W.Frag) (h : X.K = K := by rfl) : IxR X (rIxL K) := by
  subst h
  exact ix_list
theorem ixT (K : PySem.W.Frag) (h : X.K = K := by rfl) : IxR X (rIxT K) := by
  subst h
  exact ix_tup
def rLenS (K : PySem.W.Frag) : List V → Hp → VK → Prop := fun xs H Q => ∃ p ys, xs = [.ref p] ∧ (SqL K H p ys ∨ SqT K H p ys) ∧ Q (.int (ys.length : Nat)) H
theorem lenS (K : PySem.W.Frag) (h : X.K = K := by rfl) : CallR X (.builtin "len") (rLenS K) := by
  subst h
  exact call_len_seq
def rListOf (K : PySem.W.Frag) : List V → Hp → VK → Prop := fun xs H Q => ∃ p ys, xs = [.ref p] ∧ (SqL K H p ys ∨ SqT K H p ys) ∧ ∀ l, H l = none → Q (.ref l) (upd H l (.lst ys))
theorem listOf (K : PySem.W.Frag) (h : X.K = K := by rfl) : CallR X (.type "list") (rListOf K) := by
  subst h
  exact call_list_of
def rTupOf (K : PySem.W.Frag) : List V → Hp → VK → Prop := fun xs H Q => ∃ p ys, xs = [.ref p] ∧ ((SqL K H p ys ∧ ∀ l, H l = none → Q (.ref l) (upd H l (.tup ys))) ∨ (SqT K H p ys ∧ Q (.ref p) H))
theorem tupOf (K : PySem.W.Frag) (h : X.K = K := by rfl) : CallR X (.type "tuple") (rTupOf K) := by
  subst h
  exact call_tuple_of
theorem crSum (K : PySem.W.Frag) (hc : X.calm = true) (h : X.K = K := by rfl) : CallR X (.builtin "sum") (rSum K) := by
  subst h
  exact cr_sum hc
theorem crAll (K : PySem.W.Frag) (hc : X.calm = true) (h : X.K = K := by rfl) : CallR X (.builtin "all") (rAll K) := by
  subst h
  exact cr_all hc
theorem isiK (K : PySem.W.Frag) (h : X.K = K := by rfl) : CallR X (.builtin "isinstance") (rIsi K) := by
  subst h
  exact call_isi
theorem opCatA (K : PySem.W.Frag) (h : X.K = K := by rfl) : OpR X (binaryOp .Add) (rCatA K) := by
  subst h
  exact op_catA
theorem slL (K : PySem.W.Frag) (h : X.K = K := by rfl) : SlR X (rSlL K) := by
  subst h
  exact sl_list
def rJoin (K : PySem.W.Frag) : V → List V → Hp → VK → Prop := fun x xs H Q => ∃ (a : Str) (p : Addr) (ys : List Str), x = .str a ∧ xs = [.ref p] ∧ (SqL K H p (ys.map V.str) ∨ SqT K H p (ys.map V.str)) ∧ (ys.map (·.length)).sum + ys.length * a.length ≤ 16777216 ∧ Q (.str (Txt.join a ys)) H
theorem mtJoin (K : PySem.W.Frag) (h : X.K = K := by rfl) : MtR X "str.join" (rJoin K) := by
  subst h
  exact mt_join
theorem slTA (K : PySem.W.Frag) (h : X.K = K := by rfl) : SlR X (rSlA K) := by
  subst h
  exact sl_tupA
/-- a built-in class as a value -/
theorem pe_ty {x : Str} {pos : Pos} (t : String) (hg : Gl X x) (hm : X.mg x = none) (hv : bootBuiltins x = some (.type t)) (hn : x ≠ "__name__" := by decide +kernel) (hd : (x == ("__debug__" : Str)) = false := by decide +kernel) : PE X (.Name x pos) (tC (.ty t)) := pe_bltn hg hm hv rfl hn hd
end

theorem Vals.rev : ∀ {xs : List V} {us : List Value}, Vals xs us → Vals xs.reverse us.reverse
  | _, _, .nil => .nil
  | _, _, .cons r t => by
    rw [List.reverse_cons, List.reverse_cons]
    exact Vals.append (Vals.rev t) (.cons r .nil)
theorem Fun.kb {K : PySem.W.Frag} {x qual : Str} {st : Stmt} {f : Addr} {fd : FuncData} {ps ks : List Str} {g : List Value → List Value → List Value} {gV : List V → List V → List V} (F : Fun K x qual st f fd) (n : Nat)
    (h : ∀ (kV doc pm : Value) (an : Option Addr) (cdv ct : Value) (us ws : List Value), us.length = n → ws.length = ks.length → bindArgs (PySem.W.fnOf x qual (defArgs st) (defBody st) (defScope st) .none kV doc pm an cdv ct) ⟨us, ks.zip ws⟩ = pure (ps.zip (g us ws)))
    (hrel : ∀ {vs : List V} {us : List Value} {zs : List V} {ws : List Value}, Vals vs us → Vals zs ws → Vals (gV vs zs) (g us ws)) : KBn K fd ps n ks g gV := by
  obtain ⟨oc, od, kV, doc, pm, an, cdv, ct, osl, rfl, lk, hcd⟩ := F.ex
  exact ⟨fun s us ws _ l1 l2 => .of_eq (h kV doc pm an cdv ct us ws l1 l2), hrel⟩

/-! ### own errors -/
structure Exn (K : PySem.W.Frag) (mg : Str → Option Value) (x : Str) (C : Addr) : Prop where
  inn : PySem.W.excIn K C [.type "ValueError", .type "Exception", .type "BaseException", .type "object"] "ValueError.__new__" = true
  gl : mg x = some (.ref C)
  kp : PySem.W.keepIn K (.ref C) = true
  ba : PySem.W.subIn K (.ref C) (.type "BaseException") = some true
  ty : PySem.W.typeIn K (.ref C) = some (.type "type")
section
variable {X : Cx} {C : Addr} {x m : Str} {j k i : Nat} {p p2 pos pos2 : Pos} {W : WX} {sp : Sp} {e : Expr} {es : List Expr} {t : TA}
theorem ps_raiseE (e : Exn X.K X.mg x C) (hc : X.calm = true) (tk : Takes X W) (hg : Gl X x) (hdb : (x == ("__debug__" : Str)) = false := by decide) :
    PS X (.Raise (some (.Call (.Name x p) [.Constant (.str m) j p2] [] pos)) none pos2) (fun _ σ H => W (.ref C) none σ H) :=
  ps_raise hc tk (pmk_own PySem.F.excBase_ValueError e.inn e.gl e.kp (raises_own e.ba e.ty) hg hdb)
theorem pe_clX (c : Cl X.prog X.w X.K X.mg X.base (L2.CX X.prog X.w) k x sp) (hr : Room i X.A) (hk : k ≤ i) (hg : Gl X x) (tk : Takes X W) (ha : PA X (e :: es) t)
    (hdb : (x == ("__debug__" : Str)) = false := by decide) (he : starEach (e :: es) X.env = (false, eval e X.env) :: starEach es X.env := by rfl) (hpl : (backTo pos (starEach es X.env)).any (·.1) = false := by rfl) :
    PE X (.Call (.Name x p) (e :: es) [] pos) (tCallS sp (WE W) t) := by
  obtain ⟨f, fd, ps, F, hm, kp, b⟩ := c.ex
  exact pe_callS F (hr.mono hk) hg hm kp b (fun σ => passAt tk σ) ha hdb he hpl
end

/-! ### try: .. except A as n: .. except B as m: .. -/
/-- a clause that names what it catches: the class, the name's slot, what the suite does -/
structure Cla where
  c : Value
  i : Nat
  ts : Addr → Value → Option Addr → TS
/-- behind the suite the name is gone -/
def Cla.gone (q : Cla) (D : Ends) : Ends where
  nx σ H := D.nx (σ.set q.i none) H
  rt := D.rt
  bk σ H := D.bk (σ.set q.i none) H
  ct σ H := D.ct (σ.set q.i none) H
/-- what the clauses wish of an exception -/
def claW (K : PySem.W.Frag) (Wout : WX) (D : Ends) : List Cla → WX
  | [] => Wout
  | q :: r => fun cls d σ H => ∃ b, PySem.W.exmOne K cls q.c = some b ∧
      (b = true → ∀ a, H a = none → q.ts a cls d (q.gone D) (σ.set q.i (some (.ref a))) H) ∧ (b = false → claW K Wout D r cls d σ H)
inductive ClaOk (X : Cx) : List ExceptHandler → List Cla → Prop
  | nil : ClaOk X [] []
  | cons {x n : Str} {q : Cla} {b : Stmt} {bs : List Stmt} {p1 p2 : Pos} {hs : List ExceptHandler} {l : List Cla}
      (slot : X.N[q.i]? = some n) (loc : X.env.kindOf n = some .local) (cls : Names X x q.c)
      (run : ∀ (a : Addr) (oe : Obj) (cls : Value) (d : Option Addr) (pn : List (Addr × Obj)), Zc cls d oe → (∃ vs, oe.data = .fields vs) → PSs (X.suite a ((a, oe) :: pn)) (b :: bs) (q.ts a cls d))
      (rest : ClaOk X hs l) : ClaOk X (.ExceptHandler (some (.Name x p1)) (some n) (b :: bs) p2 :: hs) (q :: l)
/-- the exception at a was caught: it stands on the ground, and what was known when it was raised is known -/
structure Caught (X : Cx) (pins : List (Addr × Obj)) (σ : L2.St) (H : Hp) (B : Heap) (a : Addr) (cls : Value) (d : Option Addr) (sI t : Shared) : Prop where
  inv : Inv X pins σ H sI
  fl : HandSPX.FlyingZ B (X.env :: X.outer) a (Zc cls d) t.heap
  up : sI.heap.UpToSlots t.heap
  nb : ∀ b o, sI.heap.get? b = some o → b ∉ frs X.stack → B.get? b = some o
  na : H a = none
  os : t.os = sI.os
  ag : AllBare t.gens
section
variable {X : Cx} {pins : List (Addr × Obj)} {σ : L2.St} {H : Hp} {B : Heap} {a : Addr} {cls : Value} {d : Option Addr} {sI t : Shared}
theorem Caught.now (c : Caught X pins σ H B a cls d sI t) : Inv X pins σ H t := c.inv.landed c.nb c.fl.1 c.up c.os c.ag
theorem Caught.later (c : Caught X pins σ H B a cls d sI t) {h : Heap} (f : HandSPX.FlyingZ B (X.env :: X.outer) a (Zc cls d) h) (u : t.heap.UpToSlots h) : Caught X pins σ H B a cls d sI { t with heap := h } :=
  ⟨c.inv, f, c.up.trans u, c.nb, c.na, c.os, c.ag⟩
/-- within a suite -/
theorem Caught.inSuite (c : Caught X pins σ H B a cls d sI t) (hf : X.env.frame = some X.env.locals) : ∃ oe, Zc cls d oe ∧ (∃ vs, oe.data = .fields vs) ∧ t.heap.get? a = some oe ∧ Inv (X.suite a ((a, oe) :: (X.pn ++ pins))) [] σ H t := by
  obtain ⟨oe, vs, at_a, z, dat⟩ := c.fl.there
  have off : a ∉ frs (X.env :: X.outer) := fun m => by
    obtain ⟨_, o', g, no⟩ := c.fl.2.2.1.mem m
    cases at_a.symm.trans g
    exact no _ dat
  have l : a ≠ X.env.locals := fun e => off (List.mem_filterMap.mpr ⟨_, .head _, by rw [hf, e]⟩)
  have f : a ∉ X.fs := fun m => by
    obtain ⟨e, me, q⟩ := List.mem_filterMap.mp m
    exact off (List.mem_filterMap.mpr ⟨e, .tail _ me, q⟩)
  exact ⟨oe, z, ⟨vs, dat⟩, at_a, c.now.suite at_a dat c.na l f⟩
/-- no clause is left: it flies on -/
theorem Caught.flies (c : Caught X pins σ H B a cls d sI t) {D : Ends} {Wout : WX} (hs : X.stack = X.env :: X.outer) (hf : X.env.frame = some X.env.locals) (tk : Takes X Wout) (w : Wout cls d σ H) :
    wpAny (model X.prog X.w) X.A (handleBy (.ref a) X.env []) (SP X pins D) X.xe t := by
  obtain ⟨k1, k2, k3, oe, vs, T, oT, ts', g, z, dat, first, more⟩ := id c.fl
  refine wpAny_handleBy_nil (by
    unfold PySem.passOn
    refine wpAny_bind (wpAny_field g dat first ?_)
    rw [if_neg (by simp)]
    have up : wpAny (model X.prog X.w) X.A (setFlight (.ref a) X.env.frame) (fun _ s4 => wpAny (model X.prog X.w) X.A (throw (.ref a) : Sem Flow) (SP X pins D) X.xe s4) X.xe t := by
      rw [hf]
      refine HandSPX.setFlight_upZ c.fl fun h held u => wpAny_throw (tk _ _ ⟨a, B, sI, pins, σ, H, cls, d, rfl, c.inv, c.nb, c.up.trans u, ?_, c.na, c.os, c.ag, w⟩)
      rw [hs]
      exact .inr (.inr held)
    first
      | exact wpAny_bind (wpAny_pure (wpAny_bind up))
      | exact wpAny_bind up)
/-- the clauses, one after the other -/
theorem Caught.clauses {D : Ends} {Wout : WX} (hs : X.stack = X.env :: X.outer) (hf : X.env.frame = some X.env.locals) (hN : X.N.Nodup) (tk : Takes X Wout) {hds : List ExceptHandler} {l : List Cla} (ok : ClaOk X hds l) :
    Caught X pins σ H B a cls d sI t → claW X.K Wout D l cls d σ H → wpAny (model X.prog X.w) X.A (handleBy (.ref a) X.env hds) (SP X pins D) X.xe t := by
  induction ok with
  | nil => exact fun c w => c.flies hs hf tk w
  | @cons x n q b bs p1 p2 hs2 l2 slot loc nm run rest ih =>
    rintro c ⟨m, hm, yes, no⟩
    obtain ⟨oe, z, dat, g, S⟩ := c.inSuite hf
    have typ : PySem.W.Looks (model X.prog X.w) t.heap (typeOf (.ref a)) cls := fun _ _ _ _ k r => wpAny_typeOf_ref (k _ _ g) (by rw [z.1]; exact r)
    refine wpAny_handleBy_cons (codeAny_handlers_test ?_) nofun
    have look : ∀ {Q E : Value → Shared → Prop}, Q q.c t → wpAny (model X.prog X.w) (X.A.mark (some (.ref a))) (eval (.Name x p1) X.env) Q E t := fun r => by
      rcases nm with ⟨g1, g2, e | ⟨e, v, nn⟩⟩
      · exact ld_glob (X := X.suite a ((a, oe) :: (X.pn ++ pins))) S g1 e r g2
      · exact ld_blt (X := X.suite a ((a, oe) :: (X.pn ++ pins))) S g1 e v r nn g2
    refine look ((PySem.W.exm_one (M := model X.prog X.w) c.now.kIn typ hm).here ?_)
    match m, hm, yes, no with
    | false, _, _, no => exact ih c (no rfl)
    | true, _, yes, _ =>
      refine codeAny_handlers_suite_as (HandSPX.lands_againZ c.fl fun h f u => ?_)
      have c2 := c.later f u
      obtain ⟨o2, z2, dat2, g2, S2⟩ := c2.inSuite hf
      refine store_ok (X := X.suite a ((a, o2) :: (X.pn ++ pins))) (v := .ref a) S2 hN slot (.inl loc) rfl (fun s5 S5 => ?_) (.inr loc)
      refine wpAny_mono ((run a o2 cls d (X.pn ++ pins) z2 dat2).run [] s5 _ H _ S5 (yes rfl a c.na)) (fun fl s6 post => ?_) (fun _ _ => False.elim)
      have shut : ∀ {τ : L2.St} {G : Hp} {R : Shared → Prop}, Inv (X.suite a ((a, o2) :: (X.pn ++ pins))) [] τ G s6 → (∀ s7, Inv X pins (τ.set q.i none) G s7 → R s7) →
          wpAny (model X.prog X.w) X.A (do bindName X.env n .none; unbindBehindTheSuite X.env n p2) (fun _ s7 => R s7) X.xe s6 := fun S6 r => gone_ok (S6.unsuite c.inv.ok) hN slot loc r
      match fl, post with
      | .next, ⟨_, _, S6, r⟩ => exact shut S6 fun _ J => ⟨_, _, J, r⟩
      | .brk, ⟨_, _, S6, r⟩ => exact shut S6 fun _ J => ⟨_, _, J, r⟩
      | .cont, ⟨_, _, S6, r⟩ => exact shut S6 fun _ J => ⟨_, _, J, r⟩
      | .ret _, ⟨_, _, _, S6, rv, r⟩ => exact shut S6 fun _ J => ⟨_, _, _, J, rv, r⟩
end
theorem ps_try_named {X : Cx} {body : List Stmt} {h₀ : ExceptHandler} {hds : List ExceptHandler} {l : List Cla} {pos : Pos} {tb : WX → TS} {Wout : WX}
    (hs : X.stack = X.env :: X.outer) (hf : X.env.frame = some X.env.locals) (hN : X.N.Nodup) (tk : Takes X Wout)
    (hb : ∀ (W : WX) (pn : List (Addr × Obj)) (xe : Value → Shared → Prop), Takes (X.tr pn xe) W → PassesOwn (model X.prog X.w) X.A X.env xe → PSs (X.tr pn xe) body (tb W))
    (cl : ClaOk X (h₀ :: hds) l) : PS X (.Try body (h₀ :: hds) [] [] pos) (fun D σ H => tb (claW X.K Wout D l) D σ H) := by
  refine ⟨fun pins s σ H D I w => wpAny_Try_except ?_⟩
  let catch_ : Value → Shared → Prop := fun e s₁ => wpAny (model X.prog X.w) X.A (noteFrame e X.env) (fun _ s₂ => wpAny (model X.prog X.w) X.A (setFlight e none)
    (fun _ s₃ => wpAny (model X.prog X.w) X.A (handleBy e X.env (h₀ :: hds)) (SP X pins D) X.xe s₃) X.xe s₂) X.xe s₁
  refine wpAny_mono ((hb (claW X.K Wout D l) (X.pn ++ pins) catch_ ?_ PassesOwn.looking).run [] s σ H D (I.toTry _) w) (fun fl t post => ?_) (fun _ _ e => e)
  · rintro u t ⟨a, B, sI, _, τ, G, cls, d, rfl, J, nb, up, sky, na, os, ag, w⟩
    rw [← show X.stack = (X.tr (X.pn ++ pins) catch_).stack from rfl, hs] at sky
    refine Sky.land Zc.steady (by rw [I.ok.frames, hs]) hf sky fun h f u => ?_
    exact Caught.clauses hs hf hN tk cl (pins := pins) (t := { t with heap := h }) ⟨J.ofTry I.ok, f, up.trans u, nb, na, os, ag⟩ w
  · match fl, post with
    | .next, ⟨_, _, J, r⟩ => exact wpAny_execs_nil ⟨_, _, J.ofTry I.ok, r⟩
    | .brk, ⟨_, _, J, r⟩ => exact ⟨_, _, J.ofTry I.ok, r⟩
    | .cont, ⟨_, _, J, r⟩ => exact ⟨_, _, J.ofTry I.ok, r⟩
    | .ret _, ⟨_, _, _, J, rv, r⟩ => exact ⟨_, _, _, J.ofTry I.ok, rv, r⟩
theorem pe_ckX0 {k j : Nat} {x : Str} {sp : Sp} {X : Cx} {p pos : Pos} {kws : List Keyword} {tk : TA} {ks : List Str} {gV : List V → List V → List V} (c : Ck X.prog X.w X.K X.mg X.base (L2.CX X.prog X.w) k 0 x ks gV sp) (hr : Room j X.A) (hk : k ≤ j) (hg : Gl X x) (hkw : PK X kws tk)
    (hall : (backToKw pos (keywordEach kws X.env)).all (·.1.isSome) = true := by rfl) (hks : (backToKw pos (keywordEach kws X.env)).filterMap (·.1) = ks := by rfl)
    (hdb : (x == ("__debug__" : Str)) = false := by decide)
    (hpl : ((backTo pos (starEach [] X.env)).any (·.1) || (backToKw pos (keywordEach kws X.env)).any (·.1.isNone)) = false := by rfl) :
    PE X (.Call (.Name x p) [] kws pos) (tCallN 0 ks.length sp gV E0 tNil tk) := by
  obtain ⟨f, fd, ps, g, F, hm, kp, b⟩ := c.ex
  exact pe_callN0 F (hr.mono hk) hg hm kp b (fun pins σ H s e s' I c => passAt (W := fun _ _ _ _ => False) takes0 σ pins H s e s' I c) hkw hall hks hdb hpl

/-! ### data: what a value is, to any depth -/
theorem dp_all_len {K : PySem.W.Frag} {H : Hp} : ∀ {vs : List V} {ds : List PyData}, DpAll K H vs ds → vs.length = ds.length
  | _, _, .nil => rfl
  | _, _, .cons _ t => congrArg Nat.succ (dp_all_len t)
theorem dp_all_get {K : PySem.W.Frag} {H : Hp} : ∀ {vs : List V} {ds : List PyData} {i : Nat} {v : V}, DpAll K H vs ds → vs[i]? = some v → ∃ d, ds[i]? = some d ∧ Dp K H v d
  | _, _, _, _, .nil, h => by simp at h
  | _, _, 0, v, .cons h t, e => by
    have e' := Option.some.inj e
    subst e'
    exact ⟨_, rfl, h⟩
  | _, _, i + 1, v, .cons h t, e => dp_all_get (i := i) t e
theorem same_sqt {K : PySem.W.Frag} {H H' : Hp} {a : Addr} {xs : List V} (e : Same H H') (h : SqT K H a xs) : SqT K H' a xs := by
  rcases h with (h | ⟨o, h⟩) | h
  · exact .inl (.inl (e _ _ h))
  · exact .inl (.inr ⟨o, e _ _ h⟩)
  · exact .inr h
mutual
theorem dp_same {K : PySem.W.Frag} {H H' : Hp} (e : Same H H') : ∀ (d : PyData) {v : V}, Dp K H v d → Dp K H' v d
  | .none, _, .non => .non
  | .bool _, _, .bl b => .bl b
  | .int _, _, .int i => .int i
  | .str _, _, .str x => .str x
  | .list ds, _, .lst hs ha => .lst (e.seq hs) (dps_same e ds ha)
  | .tuple ds, _, .tup hs ha => .tup (same_sqt e hs) (dps_same e ds ha)
  | .dict _, _, h => by cases h
theorem dps_same {K : PySem.W.Frag} {H H' : Hp} (e : Same H H') : ∀ (ds : List PyData) {vs : List V}, DpAll K H vs ds → DpAll K H' vs ds
  | [], _, .nil => .nil
  | d :: ds, _, .cons h t => .cons (dp_same e d h) (dps_same e ds t)
end
def okT (x : Str) : Prop := PySem.PyData.strOk x = true ∧ x.length ≤ 5000
/-- plain data of so many levels at most, nothing large -/
def Gd : Nat → PyData → Prop
  | 0, d => match d with
    | .none => True
    | .bool _ => True
    | .int _ => True
    | .str x => okT x
    | _ => False
  | n + 1, d => match d with
    | .none => True
    | .bool _ => True
    | .int _ => True
    | .str x => okT x
    | .list xs => xs.length ≤ 5000 ∧ ∀ x ∈ xs, Gd n x
    | .tuple xs => xs.length ≤ 5000 ∧ ∀ x ∈ xs, Gd n x
    | .dict _ => False
theorem gd_str {n : Nat} {x : Str} (h : Gd n (.str x)) : okT x := by
  cases n with
  | zero => exact h
  | succ n => exact h
theorem gd_tup {n : Nat} {xs : List PyData} (h : Gd n (.tuple xs)) : xs.length ≤ 5000 ∧ ∃ m, n = m + 1 ∧ ∀ x ∈ xs, Gd m x := by
  cases n with
  | zero => exact h.elim
  | succ n => exact ⟨h.1, n, rfl, h.2⟩
theorem gd_lst {n : Nat} {xs : List PyData} (h : Gd n (.list xs)) : xs.length ≤ 5000 ∧ ∃ m, n = m + 1 ∧ ∀ x ∈ xs, Gd m x := by
  cases n with
  | zero => exact h.elim
  | succ n => exact ⟨h.1, n, rfl, h.2⟩
theorem gd_up : ∀ {n : Nat} {d : PyData}, Gd n d → Gd (n + 1) d
  | 0, .none, h => h
  | 0, .bool _, h => h
  | 0, .int _, h => h
  | 0, .str _, h => h
  | n + 1, .none, h => h
  | n + 1, .bool _, h => h
  | n + 1, .int _, h => h
  | n + 1, .str _, h => h
  | n + 1, .list xs, h => ⟨h.1, fun x hx => gd_up (h.2 x hx)⟩
  | n + 1, .tuple xs, h => ⟨h.1, fun x hx => gd_up (h.2 x hx)⟩
theorem gd_le {n m : Nat} {d : PyData} (h : Gd n d) (hm : n ≤ m) : Gd m d := by
  induction hm with
  | refl => exact h
  | step _ ih => exact gd_up ih
theorem depthAll_le {n : Nat} : ∀ {xs : List PyData}, (∀ x ∈ xs, x.depth ≤ n) → PyData.depthAll xs ≤ n
  | [], _ => by
    unfold PyData.depthAll
    exact Nat.zero_le _
  | x :: xs, h => by
    unfold PyData.depthAll
    exact Nat.max_le.mpr ⟨h x List.mem_cons_self, depthAll_le fun y hy => h y (List.mem_cons_of_mem _ hy)⟩
theorem layAll_of : ∀ {xs : List PyData}, (∀ x ∈ xs, x.canLay0 = true) → PyData.canLayAll0 xs = true
  | [], _ => by
    unfold PyData.canLayAll0
    rfl
  | x :: xs, h => by
    unfold PyData.canLayAll0
    rw [h x List.mem_cons_self, layAll_of fun y hy => h y (List.mem_cons_of_mem _ hy)]
    rfl
theorem gd_facts : ∀ {n : Nat} {d : PyData}, Gd n d → d.canLay0 = true ∧ d.depth ≤ n
  | 0, .none, h => ⟨by unfold PyData.canLay0; rfl, by unfold PyData.depth; omega⟩
  | 0, .bool _, h => ⟨by unfold PyData.canLay0; rfl, by unfold PyData.depth; omega⟩
  | 0, .int _, h => ⟨by unfold PyData.canLay0; rfl, by unfold PyData.depth; omega⟩
  | 0, .str _, h => ⟨by unfold PyData.canLay0; exact h.1, by unfold PyData.depth; omega⟩
  | n + 1, .none, h => ⟨by unfold PyData.canLay0; rfl, by unfold PyData.depth; omega⟩
  | n + 1, .bool _, h => ⟨by unfold PyData.canLay0; rfl, by unfold PyData.depth; omega⟩
  | n + 1, .int _, h => ⟨by unfold PyData.canLay0; rfl, by unfold PyData.depth; omega⟩
  | n + 1, .str _, h => ⟨by unfold PyData.canLay0; exact h.1, by unfold PyData.depth; omega⟩
  | n + 1, .list xs, h => ⟨by unfold PyData.canLay0; exact layAll_of fun x hx => (gd_facts (h.2 x hx)).1, by
      unfold PyData.depth
      have := depthAll_le fun x hx => (gd_facts (h.2 x hx)).2
      omega⟩
  | n + 1, .tuple xs, h => ⟨by unfold PyData.canLay0; exact layAll_of fun x hx => (gd_facts (h.2 x hx)).1, by
      unfold PyData.depth
      have := depthAll_le fun x hx => (gd_facts (h.2 x hx)).2
      omega⟩
theorem gd_shaped {n : Nat} {d : PyData} (h : Gd n d) (hn : n ≤ 64) : SeqAt.shaped d = true := by
  obtain ⟨h1, h2⟩ := gd_facts h
  unfold SeqAt.shaped
  rw [h1, decide_eq_true (Nat.le_trans h2 hn)]
  rfl
/-! ### types -/
def tyN : PyData → String
  | .none => "NoneType"
  | .bool _ => "bool"
  | .int _ => "int"
  | .str _ => "str"
  | .list _ => "list"
  | .tuple _ => "tuple"
  | .dict _ => "dict"
theorem dp_ty {K : PySem.W.Frag} {H : Hp} {v : V} : ∀ {d : PyData}, Dp K H v d → TyX K H v (.type (tyN d))
  | _, .non => .base .non
  | _, .bl b => .base (.bl b)
  | _, .int i => .base (.int i)
  | _, .str x => .base (.str x)
  | _, .lst hs _ => by
    rcases hs with (h | ⟨o, h⟩) | ⟨o, _, _, h, hc, _⟩
    · exact .base (.lst h)
    · exact .base (.frz h)
    · exact .kList h hc
  | _, .tup hs _ => by
    rcases hs with (h | ⟨o, h⟩) | ⟨o, _, _, h, hc, _⟩
    · exact .base (.tup h)
    · exact .fTuple h
    · exact .kTuple h hc
def isInt : PyData → Bool
  | .int _ => true
  | .bool _ => true
  | _ => false
def isBool : PyData → Bool
  | .bool _ => true
  | _ => false
def isStr : PyData → Bool
  | .str _ => true
  | _ => false
def isTup : PyData → Bool
  | .tuple _ => true
  | _ => false
theorem kit_int {K : PySem.W.Frag} (d : PyData) : PySem.W.kitOne K (.type (tyN d)) (.type "int") = some (isInt d) := by
  cases d with
  | none => exact kit_ty (show kitB "NoneType" "int" = some false by decide +kernel)
  | bool _ => exact kit_ty (show kitB "bool" "int" = some true by decide +kernel)
  | int _ => exact kit_ty (show kitB "int" "int" = some true by decide +kernel)
  | str _ => exact kit_ty (show kitB "str" "int" = some false by decide +kernel)
  | list _ => exact kit_ty (show kitB "list" "int" = some false by decide +kernel)
  | tuple _ => exact kit_ty (show kitB "tuple" "int" = some false by decide +kernel)
  | dict _ => exact kit_ty (show kitB "dict" "int" = some false by decide +kernel)
theorem kit_bool {K : PySem.W.Frag} (d : PyData) : PySem.W.kitOne K (.type (tyN d)) (.type "bool") = some (isBool d) := by
  cases d with
  | none => exact kit_ty (show kitB "NoneType" "bool" = some false by decide +kernel)
  | bool _ => exact kit_ty (show kitB "bool" "bool" = some true by decide +kernel)
  | int _ => exact kit_ty (show kitB "int" "bool" = some false by decide +kernel)
  | str _ => exact kit_ty (show kitB "str" "bool" = some false by decide +kernel)
  | list _ => exact kit_ty (show kitB "list" "bool" = some false by decide +kernel)
  | tuple _ => exact kit_ty (show kitB "tuple" "bool" = some false by decide +kernel)
  | dict _ => exact kit_ty (show kitB "dict" "bool" = some false by decide +kernel)
theorem kit_str {K : PySem.W.Frag} (d : PyData) : PySem.W.kitOne K (.type (tyN d)) (.type "str") = some (isStr d) := by
  cases d with
  | none => exact kit_ty (show kitB "NoneType" "str" = some false by decide +kernel)
  | bool _ => exact kit_ty (show kitB "bool" "str" = some false by decide +kernel)
  | int _ => exact kit_ty (show kitB "int" "str" = some false by decide +kernel)
  | str _ => exact kit_ty (show kitB "str" "str" = some true by decide +kernel)
  | list _ => exact kit_ty (show kitB "list" "str" = some false by decide +kernel)
  | tuple _ => exact kit_ty (show kitB "tuple" "str" = some false by decide +kernel)
  | dict _ => exact kit_ty (show kitB "dict" "str" = some false by decide +kernel)
theorem kit_tup {K : PySem.W.Frag} (d : PyData) : PySem.W.kitOne K (.type (tyN d)) (.type "tuple") = some (isTup d) := by
  cases d with
  | none => exact kit_ty (show kitB "NoneType" "tuple" = some false by decide +kernel)
  | bool _ => exact kit_ty (show kitB "bool" "tuple" = some false by decide +kernel)
  | int _ => exact kit_ty (show kitB "int" "tuple" = some false by decide +kernel)
  | str _ => exact kit_ty (show kitB "str" "tuple" = some false by decide +kernel)
  | list _ => exact kit_ty (show kitB "list" "tuple" = some false by decide +kernel)
  | tuple _ => exact kit_ty (show kitB "tuple" "tuple" = some true by decide +kernel)
  | dict _ => exact kit_ty (show kitB "dict" "tuple" = some false by decide +kernel)
/-! ### what a block is -/
def whole : PyData → Int → Int → Bool
  | .int i, lo, hi => decide (lo ≤ i) && decide (i ≤ hi)
  | _, _, _ => false
def strLen (m : Int) : PyData → Bool
  | .str x => decide ((x.length : Int) = m)
  | _ => false
def bitRow (m : Int) : PyData → Bool
  | .str x => decide ((x.length : Int) = m) && x.cps.toList.all (fun c => c == 48 || c == 49)
  | _ => false
def rowsOk : PyData → Int → Int → Bool
  | .tuple xs, many, m => decide ((xs.length : Int) = many) && xs.all (bitRow m)
  | _, _, _ => false
def named (x : Str) (d : PyData) : Bool := PyData.eqv d (.str x)
def genRows : PyData → PyData → PyData → Bool
  | .int n, .int m, r => rowsOk r (1 * 2 ^ n.toNat) m
  | _, _, _ => false
def genOk : PyData → Bool
  | .tuple [k, n, m, r] => named "generator" k && whole n 1 10 && whole m 1 40 && genRows n m r
  | _ => false
def sumLe : PyData → PyData → Bool
  | .int n, .int l => decide (n + l ≤ 12)
  | _, _ => false
def funTabs : PyData → PyData → PyData → PyData → Bool
  | .int n, .int l, .int m, .tuple ts => decide ((ts.length : Int) = 1 * 2 ^ n.toNat) && ts.all (fun r => rowsOk r (1 * 2 ^ l.toNat) m)
  | _, _, _, _ => false
def funOk : PyData → Bool
  | .tuple [k, n, l, m, t] => named "function" k && whole n 1 8 && whole l 1 8 && sumLe n l && whole m 1 40 && funTabs n l m t
  | _ => false
theorem gen_no {xs : List PyData} (h : ¬ xs.length = 4) : genOk (.tuple xs) = false := by
  unfold genOk
  split
  · rename_i e
    cases e
    exact absurd rfl h
  · rfl
theorem fun_no {xs : List PyData} (h : ¬ xs.length = 5) : funOk (.tuple xs) = false := by
  unfold funOk
  split
  · rename_i e
    cases e
    exact absurd rfl h
  · rfl
def blockOk (d : PyData) : Bool := genOk d || funOk d
/-! ### strip of 0 and 1 -/
theorem strip_all (x : Str) : decide (V.str (Txt.stripChars x "01") = V.str "") = x.cps.toList.all (fun c => c == 48 || c == 49) := by
  have goes : ∀ c : Nat, (("01" : Str).cps.contains c) = (c == 48 || c == 49) := fun c => by
    show (#[48, 49] : Array Nat).contains c = _
    by_cases h1 : c = 48
    · subst h1
      simp
    · by_cases h2 : c = 49
      · subst h2
        simp
      · simp [h1, h2]
  have hn : x.cps.toList.length = x.length := by simp [Str.length]
  have key : Txt.stripChars x "01" = "" ↔ ∀ k, k < x.length → (("01" : Str).cps.contains (x.cps.getD k 0)) = true := by
    unfold Txt.stripChars
    rw [stripBy_eq]
    obtain ⟨a1, a2, a3⟩ := lo_facts ("01" : Str).cps.contains x
    obtain ⟨b1, b2, b3, _⟩ := hi_facts ("01" : Str).cps.contains x _ a1
    generalize stripLo ("01" : Str).cps.contains true x = lo at a1 a2 a3 b1 b2 b3
    generalize stripHi ("01" : Str).cps.contains true x lo = hi at b1 b2 b3
    have hl : (Builtin.Str.strSub x lo hi).cps.toList = (x.cps.toList.drop lo).take (hi - lo) := PySem.StrLaws.strSub_toList x lo hi
    constructor
    · intro e k hk
      have h0 : (x.cps.toList.drop lo).take (hi - lo) = [] := by
        rw [← hl, e]
        rfl
      have h1 := congrArg List.length h0
      rw [List.length_take, List.length_drop, hn] at h1
      have h2 : min (hi - lo) (x.length - lo) = 0 := h1
      by_cases hk' : k < lo
      · exact a2 k hk'
      · exact b3 k (by omega) hk
    · intro h
      have e : lo = x.length := by
        rcases a3 with z | z
        · exact z
        · by_cases c : lo < x.length
          · rw [h lo c] at z
            cases z
          · omega
      refine TL.ext_tl ?_
      show (Builtin.Str.strSub x lo hi).cps.toList = []
      rw [hl, List.drop_eq_nil_of_le (by omega)]
      exact List.take_nil
  have e2 : (∀ k, k < x.length → (("01" : Str).cps.contains (x.cps.getD k 0)) = true) ↔ x.cps.toList.all (fun c => c == 48 || c == 49) = true := by
    rw [List.all_eq_true]
    constructor
    · intro h c hc
      obtain ⟨k, hk, e⟩ := List.getElem_of_mem hc
      have := h k (by omega)
      rw [← getD_list, List.getD_eq_getElem?_getD, List.getElem?_eq_getElem hk] at this
      rw [← goes c, ← e]
      exact this
    · intro h k hk
      rw [← getD_list, List.getD_eq_getElem?_getD, List.getElem?_eq_getElem (by omega)]
      rw [goes]
      exact h _ (List.getElem_mem _)
  by_cases c : Txt.stripChars x "01" = ""
  · rw [c, decide_eq_true rfl]
    exact (e2.mp (key.mp c)).symm
  · rw [decide_eq_false fun z => c (V.str.inj z)]
    cases hq : x.cps.toList.all (fun c => c == 48 || c == 49)
    · rfl
    · exact absurd (key.mpr (e2.mpr hq)) c
/-! ### what the law makes -/
def rowsD (rows : List (List Bool)) : PyData := .tuple (rows.map fun r => .str (sb r))
def tabD (n m : Nat) (rows : List (List Bool)) : PyData := .tuple [.str "generator", .int (n : Int), .int (m : Int), rowsD rows]
def funD (n l m : Nat) (tabs : List (List (List Bool))) : PyData := .tuple [.str "function", .int (n : Int), .int (l : Int), .int (m : Int), .tuple (tabs.map rowsD)]
theorem dp_bits {K : PySem.W.Frag} {H : Hp} : ∀ rows : List (List Bool), DpAll K H (rows.map fun r => V.str (sb r)) (rows.map fun r => PyData.str (sb r))
  | [] => .nil
  | r :: rows => .cons (.str _) (dp_bits rows)
theorem dpAll_snoc {K : PySem.W.Frag} {H : Hp} {v : V} {d : PyData} : ∀ {vs : List V} {ds : List PyData}, DpAll K H vs ds → Dp K H v d → DpAll K H (vs ++ [v]) (ds ++ [d])
  | _, _, .nil, h => .cons h .nil
  | _, _, .cons h t, h' => .cons h (dpAll_snoc t h')

/-! ### {elt for t0 in i0 if .. for t1 in i1 if ..}, elt an int -/
abbrev Nope {α : Type} : α → Shared → Prop := fun _ _ => False
/-- what a turn of a clause does: an item, the store, the tests, then more -/
def Turned (prog : Program) (w : World) (A : Around) (it : Value) (env : Env) (t : Expr) (ifs : List Expr) (stop : Shared → Prop) (more : Bool → Shared → Prop) (s : Shared) : Prop :=
  wpAny (model prog w) A (pyNext it) (fun r s₁ => match r with
    | none => stop s₁
    | some v => wpAny (model prog w) A (letOwnedTupleGo t it v) (fun _ s₂ => wpAny (model prog w) A (assign t env v) (fun _ s₃ =>
        wpAny (model prog w) A (forIn ifs true fun c r => if r = true then do let ok ← isTrue c env (eval c env); pure (ForInStep.yield ok) else pure (ForInStep.yield r)) more Nope s₃) Nope s₂) Nope s₁) Nope s
section
variable {prog : Program} {w : World} {A : Around} {R : Result → Shared → Prop} {elt t0 i0 t1 i1 : Expr} {ifs0 ifs1 : List Expr} {scope : Scope} {pos : Pos} {it acc : Value} {env : Env}
/-- the inner clause's loop -/
theorem setLoop1 (I : Nat → Shared → Prop)
    (turn : ∀ n s, I n s → Turned prog w A it env t1 ifs1 (R (.ok .next)) (fun ok s₄ => if ok = true then wpAny (model prog w) A (eval elt env) (fun x s₅ =>
      wpAny (model prog w) A (call (.builtin "set.add") [acc, x]) (fun _ s₆ => ∃ m, m < n ∧ I m s₆) Nope s₅) Nope s₄ else ∃ m, m < n ∧ I m s₄) s)
    {n : Nat} {s : Shared} (h : I n s) : codeAny (model prog w) A (.compLoop (.SetComp elt [⟨t0, i0, ifs0, 0⟩, ⟨t1, i1, ifs1, 0⟩] scope pos) 1 it acc env) R s := by
  refine codeAny_loop rfl I (fun n s hI => wpAny_noted (m := compTurn (.SetComp elt [⟨t0, i0, ifs0, 0⟩, ⟨t1, i1, ifs1, 0⟩] scope pos) 1 it acc env) ?_) n h
  rw [show compTurn (.SetComp elt [⟨t0, i0, ifs0, 0⟩, ⟨t1, i1, ifs1, 0⟩] scope pos) 1 it acc env = (do
      standAt i1.pos
      match ← pyNext it with
      | none => pure (.done .next)
      | some v =>
        letOwnedTupleGo t1 it v
        assign t1 env v
        let mut ok := true
        for c in ifs1 do
          if ok then ok ← isTrue c env (eval c env)
        if ok then
          (do let v ← eval elt env; standAt elt.pos; let _ ← call (.builtin "set.add") [acc, v])
        again (.compLoop (.SetComp elt [⟨t0, i0, ifs0, 0⟩, ⟨t1, i1, ifs1, 0⟩] scope pos) 1 it acc env)) from rfl]
  refine wpAny_bind (wpAny_standAt (wpAny_bind (thnF (turn n s hI) fun r s₁ h₁ => ?_)))
  match r, h₁ with
  | none, h₁ => exact wpAny_pure h₁
  | some v, h₁ =>
    refine wpAny_bind (thnF h₁ fun _ s₂ h₂ => wpAny_bind (thnF h₂ fun _ s₃ h₃ => wpAny_bind (thnF h₃ fun ok s₄ h₄ => ?_)))
    match ok, h₄ with
    | false, h₄ => exact wpAny_pure ⟨rfl, h₄⟩
    | true, h₄ => exact wpAny_bind (wpAny_bind (thnF h₄ fun x s₅ h₅ => wpAny_bind (wpAny_standAt (wpAny_bind (thnF h₅ fun _ s₆ h₆ => wpAny_pure (wpAny_pure ⟨rfl, h₆⟩))))))
/-- the outer clause's loop -/
theorem setLoop0 (flat : ∀ x, foldedSetIterable i1 env x = pure x) (I : Nat → Shared → Prop)
    (turn : ∀ n s, I n s → Turned prog w A it env t0 ifs0 (R (.ok .next)) (fun ok s₄ => if ok = true then wpAny (model prog w) A (eval i1 env) (fun x s₅ => wpAny (model prog w) A (pyIter x) (fun it1 s₆ =>
      codeAny (model prog w) A (.compStart (.SetComp elt [⟨t0, i0, ifs0, 0⟩, ⟨t1, i1, ifs1, 0⟩] scope pos) 1 it1 acc env) (fun r s₇ => match r with
        | .ok _ => ∃ m, m < n ∧ I m s₇
        | .error _ => False) s₆) Nope s₅) Nope s₄ else ∃ m, m < n ∧ I m s₄) s)
    {n : Nat} {s : Shared} (h : I n s) : codeAny (model prog w) A (.compLoop (.SetComp elt [⟨t0, i0, ifs0, 0⟩, ⟨t1, i1, ifs1, 0⟩] scope pos) 0 it acc env) R s := by
  refine codeAny_loop rfl I (fun n s hI => wpAny_noted (m := compTurn (.SetComp elt [⟨t0, i0, ifs0, 0⟩, ⟨t1, i1, ifs1, 0⟩] scope pos) 0 it acc env) ?_) n h
  rw [show compTurn (.SetComp elt [⟨t0, i0, ifs0, 0⟩, ⟨t1, i1, ifs1, 0⟩] scope pos) 0 it acc env = (do
      standAt i0.pos
      match ← pyNext it with
      | none => pure (.done .next)
      | some v =>
        letOwnedTupleGo t0 it v
        assign t0 env v
        let mut ok := true
        for c in ifs0 do
          if ok then ok ← isTrue c env (eval c env)
        if ok then
          let x ← eval i1 env
          standAt i1.pos
          let x ← foldedSetIterable i1 env x
          let _ ← runOwn (.compStart (.SetComp elt [⟨t0, i0, ifs0, 0⟩, ⟨t1, i1, ifs1, 0⟩] scope pos) 1 (← holding [x] (pyIter x)) acc env) env
        again (.compLoop (.SetComp elt [⟨t0, i0, ifs0, 0⟩, ⟨t1, i1, ifs1, 0⟩] scope pos) 0 it acc env)) from rfl]
  refine wpAny_bind (wpAny_standAt (wpAny_bind (thnF (turn n s hI) fun r s₁ h₁ => ?_)))
  match r, h₁ with
  | none, h₁ => exact wpAny_pure h₁
  | some v, h₁ =>
    refine wpAny_bind (thnF h₁ fun _ s₂ h₂ => wpAny_bind (thnF h₂ fun _ s₃ h₃ => wpAny_bind (thnF h₃ fun ok s₄ h₄ => ?_)))
    match ok, h₄ with
    | false, h₄ => exact wpAny_pure ⟨rfl, h₄⟩
    | true, h₄ =>
      refine wpAny_bind (thnF h₄ fun x s₅ h₅ => wpAny_bind (wpAny_standAt (wpAny_bind (wpAny_of_eq (flat x) (wpAny_bind (wpAny_holding (thnF h₅ fun it1 s₆ h₆ => wpAny_bind (wpAny_runOwn ?_))))))))
      rw [Around.mark_none]
      refine codeAny_mono h₆ fun r s₇ h₇ => ?_
      match r, h₇ with
      | .ok _, h₇ =>
        first
          | exact wpAny_pure ⟨rfl, h₇⟩
          | exact wpAny_bind (wpAny_pure (wpAny_pure ⟨rfl, h₇⟩))
/-- a clause starts with an iterator as it comes -/
theorem setStart1 (go : codeAny (model prog w) A (.compLoop (.SetComp elt [⟨t0, i0, ifs0, 0⟩, ⟨t1, i1, ifs1, 0⟩] scope pos) 1 it acc env) R s)
    (again_ : wpAny (model prog w) A (pyIter it) (fun it' s' => codeAny (model prog w) A (.compLoop (.SetComp elt [⟨t0, i0, ifs0, 0⟩, ⟨t1, i1, ifs1, 0⟩] scope pos) 1 it' acc env) R s') Nope s) :
    codeAny (model prog w) A (.compStart (.SetComp elt [⟨t0, i0, ifs0, 0⟩, ⟨t1, i1, ifs1, 0⟩] scope pos) 1 it acc env) R s := by
  refine codeAny_of_tree (wpAny_notedAt (m := compStart (.SetComp elt [⟨t0, i0, ifs0, 0⟩, ⟨t1, i1, ifs1, 0⟩] scope pos) 1 it acc env) ?_)
  unfold compStart
  show wpAny _ _ (ask >>= _) _ _ s
  refine wpAny_bind (wpAny_askSetting (wpAny_ite ?_))
  split
  · first
      | exact wpAny_bind (wpAny_pure (wpAny_pure ⟨rfl, go⟩))
      | exact wpAny_pure ⟨rfl, go⟩
  · refine wpAny_bind (wpAny_rule ?_)
    show wpAny _ _ (standAt i1.pos >>= _) _ _ s
    exact wpAny_bind (wpAny_standAt (wpAny_bind (thnF again_ fun _ _ h => wpAny_pure ⟨rfl, h⟩)))
end
theorem wipe_in {σ : L2.St} {i : Nat} (l : i < σ.length) : ∀ {vs : List Nat}, i ∈ vs → (wipe σ vs)[i]? = some none := fun {vs} h => by
  induction vs with
  | nil => cases h
  | cons v vs ih =>
    show ((wipe σ vs).set v none)[i]? = some none
    by_cases e : v = i
    · rw [e]
      exact List.getElem?_set_self (by rw [wipe_length]; exact l)
    · rw [List.getElem?_set_ne e]
      exact ih ((List.mem_cons.mp h).elim (fun k => absurd k.symm e) id)
theorem wipe_twice (σ : L2.St) : ∀ vs : List Nat, wipe (wipe σ vs) vs = wipe σ vs := fun vs => by
  apply List.ext_getElem?
  intro i
  by_cases h : i ∈ vs
  · by_cases l : i < σ.length
    · rw [wipe_in (by rw [wipe_length]; exact l) h, wipe_in l h]
    · rw [List.getElem?_eq_none (by rw [wipe_length, wipe_length]; omega), List.getElem?_eq_none (by rw [wipe_length]; omega)]
  · rw [wipe_out h]
section
variable {X : Cx} {s0 : Shared} {H0 : Hp} {scope : Scope} {ce : Env} {fp0 : List Addr}
/-- a turn within the block: the rules of the target and the tests, and the iterator's own promise -/
theorem blkTurn {t : Expr} {ifs : List Expr} {g : TG} {tt : TT} {J : It} {fp : List Addr} {it : Addr} {tn : Nat → Heap → Prop} {pins : List (Addr × Obj)} {τ : L2.St} {H : Hp} {s : Shared} {i : Nat} {vs : List Nat} {stop : Shared → Prop} {more : Bool → Shared → Prop}
    (hc : X.calm = true) (pg : PG (X.blk s0 H0 scope ce fp0) t g) (pt : PTs (X.blk s0 H0 scope ce fp0) ifs tt) (T : Turn X.prog X.w X.K t J fp it tn)
    (I : Inv (X.blk s0 H0 scope ce fp0) pins (wipe τ vs) H s) (st : tn i s.heap) (nf : ∀ b ∈ fp, H b = none) (ok : ∀ {H' : Hp}, (∀ b ∈ fp, H' b = none) → ∀ b ∈ fp, FpOk (X.blk s0 H0 scope ce fp0) pins H' b)
    (alt : (J.stop i H ∧ ∀ s', Inv (X.blk s0 H0 scope ce fp0) pins (wipe τ vs) H s' → stop s') ∨
      (J.go i H ∧ ∃ P : L2.St → Bool → Hp → Prop, (∀ x H', J.yld i H x H' → g x (wipe τ vs) H' fun σ2 H2 => tt σ2 H2 fun b H3 => P σ2 b H3) ∧
        ∀ σ2 b H3 (h : Heap) (s' : Shared), P σ2 b H3 → tn (i + 1) h → Inv (X.blk s0 H0 scope ce fp0) (pins ++ pinsAt fp h) σ2 H3 s' → more b s')) :
    Turned X.prog X.w X.A (.ref it) ce t ifs stop more s := by
  rcases alt with ⟨end_, r⟩ | ⟨go, P, step, rest⟩
  · refine thnF (T.done (X.blk s0 H0 scope ce fp0) rfl rfl rfl hc i pins s _ H Nope I (ok nf) st end_) fun v s1 q => ?_
    obtain ⟨rfl, I1⟩ := q
    exact r s1 I1
  · refine thnF (T.item (X.blk s0 H0 scope ce fp0) rfl rfl rfl hc i pins s _ H Nope I (ok nf) st go) fun v s1 q => ?_
    obtain ⟨u, rfl, q⟩ := q
    refine thnF q fun _ s2 q => ?_
    obtain ⟨x, H2, I2, rv, y, st2, nf2⟩ := q
    refine thnF (pg.run _ s2 _ H2 x u _ (I2.pinned (ok nf2) (T.obj _ _ st2)) rv (step x H2 y)) fun _ s3 q => ?_
    obtain ⟨σ3, H3, I3, q⟩ := q
    refine thnF (pt.run _ s3 σ3 H3 _ I3 q) fun b s4 q => ?_
    obtain ⟨H4, I4, q⟩ := q
    exact rest σ3 b H4 s2.heap s4 q st2 I4
/-- what held ahead of a turn holds behind it -/
theorem blkBack {t : Expr} {J : It} {fp : List Addr} {it : Addr} {tn : Nat → Heap → Prop} {pins : List (Addr × Obj)} {τ τ' : L2.St} {H : Hp} {s : Shared} {i : Nat} {h : Heap} (T : Turn X.prog X.w X.K t J fp it tn) (st : tn i h)
    (I : Inv (X.blk s0 H0 scope ce fp0) (pins ++ pinsAt fp h) τ' H s) (len : τ.length = τ'.length) (known : ∀ (j : Nat) v, τ[j]? = some (some v) → τ'[j]? = some (some v)) :
    Inv (X.blk s0 H0 scope ce fp0) pins τ H s ∧ tn i s.heap ∧ ∀ b ∈ fp, H b = none := by
  have pin : ∀ b ∈ fp, ∀ o, h.get? b = some o → s.heap.get? b = some o ∧ H b = none := fun b hb o e => by
    have q := I.pin (b, o) (List.mem_append_right _ (List.mem_append_right _ (mem_pinsAt hb e)))
    exact ⟨q.1, q.2.1⟩
  refine ⟨I.unpinned.weak len known, T.keep _ _ _ st fun b hb o e => (pin b hb o e).1, fun b hb => ?_⟩
  obtain ⟨o, e, _⟩ := T.obj _ _ st b hb
  exact (pin b hb o e).2
end
/-- the new set is at D; Nx is what the outer turn is to reach, Nx1 what the inner one is -/
def tSc2 (w : World) (wi : TI) (g : TG) (tt : TT) (wi1 : TI) (g1 : TG) (tt1 : TT) (te : TE) (vs vs1 : List Nat) : TE := fun σ H Q => wi σ H fun J H1 => ∀ D, H1 D = none →
  ∃ W : Nat → Nat → Hp → Prop, (∃ m, W 0 m (upd H1 D (SetO w D (fun _ => false) 0))) ∧ ∀ i m H, W i m H →
    (J.stop i H ∧ Q (.ref D) H) ∨ (J.go i H ∧ ∃ Nx : Hp → Prop, (∀ H', Nx H' → ∃ m', m' < m ∧ W (i + 1) m' H') ∧ ∀ x H', J.yld i H x H' → g x (wipe σ vs) H' fun σ2 H2 => tt σ2 H2 fun b H3 => wipe σ2 vs = wipe σ vs ∧
      if b = true then wi1 σ2 H3 fun J1 H4 => ∃ W1 : Nat → Nat → Hp → Prop, (∃ m, W1 0 m H4) ∧ ∀ j k H, W1 j k H →
        (J1.stop j H ∧ Nx H) ∨ (J1.go j H ∧ ∃ Nx1 : Hp → Prop, (∀ H', Nx1 H' → ∃ k', k' < k ∧ W1 (j + 1) k' H') ∧ ∀ x H', J1.yld j H x H' → g1 x (wipe σ2 vs1) H' fun σ3 H5 => tt1 σ3 H5 fun b H6 => wipe σ3 vs1 = wipe σ2 vs1 ∧
          if b = true then te σ3 H6 fun y H7 => ∃ (c : Int) (S : Int → Bool) (n : Nat), y = .int c ∧ H7 D = some (SetO w D S n) ∧ n + 1 < scanBound ∧ Nx1 (upd H7 D (SetO w D (fun j => S j || decide (j = c)) (if S c = true then n else n + 1))) else Nx1 H6)
      else Nx H3)
theorem pe_sc2 {X : Cx} {elt t0 i0 t1 i1 : Expr} {ifs0 ifs1 : List Expr} {scope : Scope} {own : List (PySem.Str × Nat)} {vs1 : List Nat} {pos : Pos} {wi wi1 : TI} {g g1 : TG} {tt tt1 : TT} {te : TE} (hc : X.calm = true) (hN : X.N.Nodup) (hi : PI X t0 i0 wi) (ok : BlkOk X.N X.env.scope scope own) (hv : ∀ i ∈ vs1, i ∈ own.map (·.2))
    (hg : ∀ (s : Shared) (H : Hp) (C : Addr) (cl : List (PySem.Str × Addr)) (fp : List Addr), PG (X.blk s H scope (compEnvC scope cl C X.env) fp) t0 g)
    (ht : ∀ (s : Shared) (H : Hp) (C : Addr) (cl : List (PySem.Str × Addr)) (fp : List Addr), PTs (X.blk s H scope (compEnvC scope cl C X.env) fp) ifs0 tt)
    (hi1 : ∀ (s : Shared) (H : Hp) (C : Addr) (cl : List (PySem.Str × Addr)) (fp : List Addr), PI (X.blk s H scope (compEnvC scope cl C X.env) fp) t1 i1 wi1)
    (hg1 : ∀ (s : Shared) (H : Hp) (C : Addr) (cl : List (PySem.Str × Addr)) (fp : List Addr), PG (X.blk s H scope (compEnvC scope cl C X.env) fp) t1 g1)
    (ht1 : ∀ (s : Shared) (H : Hp) (C : Addr) (cl : List (PySem.Str × Addr)) (fp : List Addr), PTs (X.blk s H scope (compEnvC scope cl C X.env) fp) ifs1 tt1)
    (he : ∀ (s : Shared) (H : Hp) (C : Addr) (cl : List (PySem.Str × Addr)) (fp : List Addr), PE (X.blk s H scope (compEnvC scope cl C X.env) fp) elt te)
    (flat0 : ∀ x, foldedSetIterable i0 X.env x = pure x := by intro _; rfl) (flat1 : ∀ env x, foldedSetIterable i1 env x = pure x := by intro _ _; rfl) :
    PE X (.SetComp elt [⟨t0, i0, ifs0, 0⟩, ⟨t1, i1, ifs1, 0⟩] scope pos) (tSc2 X.w wi g tt wi1 g1 tt1 te (own.map (·.2)) vs1) := by
  refine ⟨fun pins s σ H Q I h => ?_⟩
  show wpAny _ X.A (comprehension (.SetComp elt [⟨t0, i0, ifs0, 0⟩, ⟨t1, i1, ifs1, 0⟩] scope pos) scope X.env (firstIterPos [⟨t0, i0, ifs0, 0⟩, ⟨t1, i1, ifs1, 0⟩] pos) (newSet (.type "set")) false (eval i0 X.env) none) _ _ s
  have cells : ∀ y ∈ scope.names, y.2 = .free → ∃ c, X.env.cells.lookup y.1 = some c := fun y hy e => (ok.free y hy e).elim (fun k => I.ok.has _ (.inl k)) fun k => I.ok.has _ (.inr k)
  refine wpAny_comprehension_free (use := none) rfl flat0 (closure_ok cells) ok.kind (fun y hy e => by rw [ok.uniq y hy, e]) (thn (hi.run pins s σ H _ I h) fun _ s1 q => thn q fun _ s2 q => ?_)
  obtain ⟨it, fp, tn, J, H2, rfl, I2, T, st2, f2, q⟩ := q
  refine PpSet.newSet_ok (newEnv_comp ?_)
  -- the set
  have fresh : H2 s2.heap.objs.size = none := I2.hok.fresh (Nat.le_refl _)
  have below : ∀ b ∈ fp, b < s2.heap.objs.size := fun b hb => (T.obj _ _ st2 b hb).elim fun _ e => Heap.lt_size e.1
  obtain ⟨W, ⟨m0, w0⟩, turn⟩ := q s2.heap.objs.size fresh
  have I3 : Inv X pins σ (upd H2 s2.heap.objs.size (SetO X.w s2.heap.objs.size (fun _ => false) 0)) { s2 with heap := s2.heap.push { cls := .type "set", dict := none, data := .set #[] 0 (.fresh 0 0 (!X.w.params.followText "set-order")) } } :=
    I2.laid (t' := s2.toks) (fun _ _ e => Heap.get?_push_of_some _ e) (Nat.le_refl _) (setO_new (setR_fresh X.w))
  have st3 : tn 0 (s2.heap.push { cls := .type "set", dict := none, data := .set #[] 0 (.fresh 0 0 (!X.w.params.followText "set-order")) }) := T.keep _ _ _ st2 fun _ _ _ e => Heap.get?_push_of_some _ e
  have f3 : ∀ b ∈ fp, FpOk X pins (upd H2 s2.heap.objs.size (SetO X.w s2.heap.objs.size (fun _ => false) 0)) b ∧ b < (s2.heap.push { cls := .type "set", dict := none, data := .set #[] 0 (.fresh 0 0 (!X.w.params.followText "set-order")) }).objs.size := fun b hb => by
    have l := below b hb
    rw [Heap.size_push]
    refine ⟨⟨?_, (f2 b hb).2⟩, Nat.lt_succ_of_lt l⟩
    rw [upd_ne (Nat.ne_of_lt l)]
    exact (f2 b hb).1
  generalize s2.heap.objs.size = D at I3 f3 w0 turn ⊢
  generalize s2.heap.push { cls := .type "set", dict := none, data := .set #[] 0 (.fresh 0 0 (!X.w.params.followText "set-order")) } = hp at I3 st3 f3 ⊢
  have I4 := block_start I3 ok hN f3
  generalize upd H2 D (SetO X.w D (fun _ => false) 0) = H3 at I3 f3 w0 I4
  generalize hs : ({ s2 with heap := hp } : Shared) = s3 at I3 I4
  have hph : hp = s3.heap := by rw [← hs]
  subst hph
  have pg := hg s3 H3 s3.heap.objs.size (cellsFrom (s3.heap.objs.size + 1) scope.names (cloFrom X.env.cells scope.names [])) fp
  have pt := ht s3 H3 s3.heap.objs.size (cellsFrom (s3.heap.objs.size + 1) scope.names (cloFrom X.env.cells scope.names [])) fp
  have pi1 := hi1 s3 H3 s3.heap.objs.size (cellsFrom (s3.heap.objs.size + 1) scope.names (cloFrom X.env.cells scope.names [])) fp
  have pg1 := hg1 s3 H3 s3.heap.objs.size (cellsFrom (s3.heap.objs.size + 1) scope.names (cloFrom X.env.cells scope.names [])) fp
  have pt1 := ht1 s3 H3 s3.heap.objs.size (cellsFrom (s3.heap.objs.size + 1) scope.names (cloFrom X.env.cells scope.names [])) fp
  have pe := he s3 H3 s3.heap.objs.size (cellsFrom (s3.heap.objs.size + 1) scope.names (cloFrom X.env.cells scope.names [])) fp
  show codeAny _ _ (.compStart (.SetComp elt [⟨t0, i0, ifs0, 0⟩, ⟨t1, i1, ifs1, 0⟩] scope pos) 0 (.ref it) (.ref D) (compEnvC scope (cellsFrom (s3.heap.objs.size + 1) scope.names (cloFrom X.env.cells scope.names [])) s3.heap.objs.size X.env)) _ _
  have cL : (compEnvC scope (cellsFrom (s3.heap.objs.size + 1) scope.names (cloFrom X.env.cells scope.names [])) s3.heap.objs.size X.env).locals = s3.heap.objs.size := rfl
  generalize compEnvC scope (cellsFrom (s3.heap.objs.size + 1) scope.names (cloFrom X.env.cells scope.names [])) s3.heap.objs.size X.env = ce at I4 pg pt pi1 pg1 pt1 pe cL ⊢
  have st4 : tn 0 (pushCells (s3.heap.push { cls := .type "dict", data := .dict #[] }) scope.names) := T.keep _ _ _ st3 fun _ _ _ e => pushCells_keeps _ _ _ _ (Heap.get?_push_of_some _ e)
  generalize hs5 : ({ s3 with heap := pushCells (s3.heap.push { cls := .type "dict", data := .dict #[] }) scope.names } : Shared) = s4 at I4 ⊢
  replace st4 : tn 0 s4.heap := by rw [← hs5]; exact st4
  have free3 : ∀ b ∈ fp, H3 b = none := fun b hb => (f3 b hb).1.1
  have foot : ∀ {pn : List (Addr × Obj)} {τ : L2.St} {G : Hp} {t : Shared}, Inv (X.blk s3 H3 scope ce fp) pn τ G t → (∀ p ∈ pn, p.1 ∉ fp) → ∀ {G' : Hp}, (∀ b ∈ fp, G' b = none) → ∀ b ∈ fp, FpOk (X.blk s3 H3 scope ce fp) pn G' b := fun {pn τ G t} J off {G'} no b hb =>
    ⟨no b hb, (J.ok.exf b hb).1, J.ok.exfs b hb, .inl hb, fun x c e => (J.ok.exf b hb).2 x c e, fun p hp z => by
      rcases List.mem_append.mp hp with k | k
      · exact nomatch k
      · exact off p k (by rw [z]; exact hb)⟩
  have loop : codeAny (model X.prog X.w) X.A (.compLoop (.SetComp elt [⟨t0, i0, ifs0, 0⟩, ⟨t1, i1, ifs1, 0⟩] scope pos) 0 (.ref it) (.ref D) ce) (compPost (model X.prog X.w) X.A X.xe none (EP X pins σ Q) (.ref D) s3.heap.objs.size) s4 := by
    refine setLoop0 (flat1 ce) (fun n s => ∃ i G, Inv (X.blk s3 H3 scope ce fp) [] (wipe σ (own.map (·.2))) G s ∧ tn i s.heap ∧ (∀ b ∈ fp, G b = none) ∧ W i n G) ?_ (n := m0) ⟨0, H3, I4, st4, free3, w0⟩
    rintro n s5 ⟨i, G5, I5, st5, n5, w5⟩
    refine blkTurn hc pg pt T I5 st5 n5 (foot I5 fun p hp => nomatch hp) ?_
    rcases turn i n G5 w5 with ⟨stop, q⟩ | ⟨go, Nx, hNx, step⟩
    · refine .inl ⟨stop, fun s6 I6 => ?_⟩
      obtain ⟨m, names, _⟩ := I6.loc
      have names' : s6.heap.Ns ce.locals m := names
      have none' : G5 ce.locals = none := I6.free
      rw [cL] at names' none'
      obtain ⟨p0, p1, _, p3, p4, p5⟩ := I3.fpOk (Nat.le_refl _) none'
      have J6 : Inv X pins σ G5 s6 := I3.call' (ch := fp) I6.os I6.base I6.hok I6.bare fun b hb => by
        obtain ⟨⟨_, q1, _, q3, q4, q5⟩, _⟩ := f3 b hb
        exact ⟨q3, q1, q4, q5⟩
      exact ⟨m, names', fun h2 sb => ⟨.ref D, G5, J6.turned (t' := s6.toks) (fun b o ne e => (sb.2 b ne).trans e) p0 p1 p3 p4 p5, rfl, q⟩⟩
    · refine .inr ⟨go, _, step, ?_⟩
      rintro σ2 b G6 h6 s6 ⟨eσ, q⟩ st6 I6
      have known : ∀ {σ3 : L2.St}, wipe σ3 vs1 = wipe σ2 vs1 → (wipe σ (own.map (·.2))).length = σ3.length ∧ ∀ (j : Nat) v, (wipe σ (own.map (·.2)))[j]? = some (some v) → σ3[j]? = some (some v) := fun {σ3} e => by
        refine ⟨by rw [← eσ, wipe_length, ← wipe_length σ2 vs1, ← e, wipe_length], fun j v z => ?_⟩
        rw [← eσ] at z
        obtain ⟨z, out⟩ := wipe_some z
        have off : j ∉ vs1 := fun k => out (hv j k)
        rw [← wipe_out off] at z
        rw [← wipe_out (vs := vs1) off, e, z]
      have next : ∀ {σ3 : L2.St} {G : Hp} {t : Shared}, wipe σ3 vs1 = wipe σ2 vs1 → Inv (X.blk s3 H3 scope ce fp) ([] ++ pinsAt fp h6) σ3 G t → Nx G → ∃ m, m < n ∧ ∃ i G, Inv (X.blk s3 H3 scope ce fp) [] (wipe σ (own.map (·.2))) G t ∧ tn i t.heap ∧ (∀ b ∈ fp, G b = none) ∧ W i m G := fun {σ3 G t} e I nx => by
        obtain ⟨m', lt, w'⟩ := hNx G nx
        obtain ⟨r1, r2, r3⟩ := blkBack T st6 I (known e).1 (known e).2
        exact ⟨m', lt, i + 1, G, r1, r2, r3, w'⟩
      cases b with
      | false => exact next rfl I6 q
      | true =>
        refine thnF (pi1.run _ s6 σ2 G6 _ I6 q) fun _ s7 q => thnF q fun _ s8 q => ?_
        obtain ⟨it1, fp1, tn1, J1, G8, rfl, I8, T1, st8, f8, W1, ⟨m1, w1⟩, turn1⟩ := q
        have go1 : codeAny (model X.prog X.w) X.A (.compLoop (.SetComp elt [⟨t0, i0, ifs0, 0⟩, ⟨t1, i1, ifs1, 0⟩] scope pos) 1 (.ref it1) (.ref D) ce) (fun r s7 => match r with
            | .ok _ => ∃ m, m < n ∧ ∃ i G, Inv (X.blk s3 H3 scope ce fp) [] (wipe σ (own.map (·.2))) G s7 ∧ tn i s7.heap ∧ (∀ b ∈ fp, G b = none) ∧ W i m G
            | .error _ => False) s8 := by
          refine setLoop1 (fun k s => ∃ j G, Inv (X.blk s3 H3 scope ce fp) ([] ++ pinsAt fp h6) (wipe σ2 vs1) G s ∧ tn1 j s.heap ∧ (∀ b ∈ fp1, G b = none) ∧ W1 j k G) ?_ (n := m1)
            ⟨0, G8, I8.weak (wipe_length σ2 vs1) (fun j v e => (wipe_some e).1), st8, fun b hb => (f8 b hb).1, w1⟩
          rintro k s9 ⟨j, G9, I9, st9, n9, w9⟩
          refine blkTurn hc pg1 pt1 T1 I9 st9 n9 (fun no b hb => ⟨no b hb, (f8 b hb).2⟩) ?_
          rcases turn1 j k G9 w9 with ⟨stop1, nx⟩ | ⟨go1, Nx1, hNx1, step1⟩
          · exact .inl ⟨stop1, fun s10 I10 => next (wipe_twice σ2 vs1) I10 nx⟩
          · refine .inr ⟨go1, _, step1, ?_⟩
            rintro σ3 b G10 h10 s10 ⟨eσ1, q⟩ st10 I10
            have next1 : ∀ {G : Hp} {t : Shared}, Inv (X.blk s3 H3 scope ce fp) ([] ++ pinsAt fp h6 ++ pinsAt fp1 h10) σ3 G t → Nx1 G →
                ∃ m, m < k ∧ ∃ j G, Inv (X.blk s3 H3 scope ce fp) ([] ++ pinsAt fp h6) (wipe σ2 vs1) G t ∧ tn1 j t.heap ∧ (∀ b ∈ fp1, G b = none) ∧ W1 j m G := fun {G t} I nx => by
              obtain ⟨m', lt, w'⟩ := hNx1 G nx
              obtain ⟨r1, r2, r3⟩ := blkBack (τ := wipe σ2 vs1) T1 st10 I (by rw [← eσ1, wipe_length]) fun j v z => by
                rw [← eσ1] at z
                exact (wipe_some z).1
              exact ⟨m', lt, j + 1, G, r1, r2, r3, w'⟩
            cases b with
            | false => exact next1 I10 q
            | true =>
              refine thnF (pe.run _ s10 σ3 G10 _ I10 q) fun z s11 q => ?_
              obtain ⟨y, G11, I11, rz, c, S, n11, rfl, at_, room, nx⟩ := q
              refine thnF (mt_sadd (X := X.blk s3 H3 scope ce fp) _ s11 σ3 G11 (.ref D) [.int c] (.ref D) [z] (fun _ G => Nx1 G) I11 rfl (.cons rz .nil) ⟨D, c, S, n11, rfl, rfl, at_, room, nx⟩) fun u s12 q => ?_
              obtain ⟨_, G12, I12, _, nx⟩ := q
              exact next1 I12 nx
        exact setStart1 go1 (T1.self X.A 0 _ _ _ st8 go1)
  exact PpSet.codeAny_compStart_set loop (T.self X.A 0 _ _ _ st4 loop)

/-! ### set(list of ints) -/
section
variable {P : Program} {w : World} {A : Around} {E : Value → Shared → Prop}
/-- a set as it is made -/
abbrev blank (w : World) : Obj := { cls := .type "set", dict := none, data := .set #[] 0 (.fresh 0 0 (!w.params.followText "set-order")) }
/-- what the filling of the set at S is told to leave -/
def Filled (w : World) (S : Addr) (ns : List Int) (s s' : Shared) : Prop :=
  ∃ h' tk c, s' = { s with heap := h', toks := tk } ∧ SetR w h' S (fun j => decide (j ∈ ns)) c ∧ c ≤ ns.length ∧ ∀ b o, b ≠ S → s.heap.get? b = some o → h'.get? b = some o
/-- the loop that fills the set at S from the list at l -/
theorem fill_ints {s : Shared} {l S : Addr} {items : Array Value} {ns : List Int} (quiet : A.handled = none) (hS : s.heap.get? S = some (blank w)) (hl : s.heap.IsList l items) (num : PyProof.Rows.IntsAre items.toList ns) (few : ns.length + 1 < scanBound) :
    wpAny (model P w) A (pyIter (.ref l)) (fun it s1 => ∃ I, it = .ref I ∧ ∀ R : Result → Shared → Prop, (∀ s', Filled w S ns s s' → R (.ok (.ret .none)) s') → codeAny (model P w) A (.builtin "set.update.loop" ⟨[.ref S, .ref I], []⟩) R s1) E s := by
  have size : items.size = ns.length := by rw [← num.length, Array.length_toList]
  obtain ⟨lo, hlo, hlc, _⟩ := id hl
  have off : S ≠ l := fun e => by
    rw [← e, hS] at hlo
    cases hlo
    exact absurd (show Value.type "set" = Value.type "list" from hlc) (by decide)
  have lt : l < s.heap.objs.size := Heap.lt_size hlo
  have ltS : S < s.heap.objs.size := Heap.lt_size hS
  refine wpAny_pyIter_list hl ⟨_, rfl, fun R h => ?_⟩
  refine set_update_ints (A := A) (Walks.list (A := A.in1) (by simp [quiet]) s.heap.objs.size l (Nat.ne_of_lt lt) items).toS S
    (fun m => (List.mem_cons.mp m).elim (fun e => Nat.ne_of_lt ltS e) fun m => off (List.mem_singleton.mp m)) ns size few (fun i v e => ?_)
    (items.size - 0) 0 _ rfl (Nat.zero_le _) ⟨⟨_, Heap.get?_push_size _ rfl, rfl, rfl⟩, hl.push _⟩ ⟨0, Nat.le_refl 0, setR_new_at (Heap.get?_push_of_some _ hS)⟩ fun s' c moved le R' => ?_
  · have small : i < ns.length := by rw [← size]; exact (Array.getElem?_eq_some_iff.mp e).1
    obtain ⟨t, is⟩ := num.int_at i v (by rw [Array.getElem?_toList]; exact e)
    exact ⟨ns[i], t, List.getElem?_eq_getElem small, by simpa [small] using is⟩
  · refine h s' ⟨s'.heap, s'.toks, c, ?_, R', by rw [← size]; exact le, fun b o ne e => moved.heap b o (fun m => ?_) (Heap.get?_push_of_some _ e)⟩
    · have g := moved.gens
      have d := moved.drawn
      have o := moved.os
      cases s'
      cases g
      cases d
      cases o
      rfl
    · rcases List.mem_cons.mp m with k | k
      · exact ne k
      · rw [List.mem_singleton.mp k] at e
        exact Nat.lt_irrefl _ (Heap.lt_size e)
/-- set.__init__ of it -/
theorem init_ints {s : Shared} {l S : Addr} {items : Array Value} {ns : List Int} (quiet : A.handled = none) (hS : s.heap.get? S = some (blank w)) (hl : s.heap.IsList l items) (num : PyProof.Rows.IntsAre items.toList ns) (few : ns.length + 1 < scanBound) :
    wpAny (model P w) A (Builtin.«set.__init__» ⟨[.ref S, .ref l], []⟩) (fun r s' => r = .done (.ret .none) ∧ Filled w S ns s s') E s := by
  have fill := fill_ints (P := P) (A := A) (E := E) quiet hS hl num few
  obtain ⟨lo, hlo, hlc, nl, hld⟩ := id hl
  obtain ⟨lc, ld, lt, ls⟩ := lo
  dsimp only at hlc hld
  cases hlc
  cases hld
  have notSet := F.sub_list_set
  have notFrozen := F.sub_list_frozenset
  have notDict : (Value.type "list" == Value.type "dict") = false := by decide
  unfold Builtin.«set.__init__» noKeywords Builtin.Frozenset.updateFrom
  generalize pyIter = it at fill ⊢
  wp_walk
  refine wpAny_mono fill (fun v s1 q => ?_) fun _ _ q => q
  obtain ⟨I, rfl, q⟩ := q
  refine wpAny_bind (wpAny_runValue (q _ fun s2 f => ?_))
  exact wpAny_pure (wpAny_pure ⟨rfl, f⟩)
/-- set(xs) -/
theorem set_ints {s : Shared} {l : Addr} {items : Array Value} {ns : List Int} {Q : Value → Shared → Prop} (quiet : A.handled = none) (hl : s.heap.IsList l items) (num : PyProof.Rows.IntsAre items.toList ns) (few : ns.length + 1 < scanBound)
    (h : ∀ s', Filled w s.heap.objs.size ns { s with heap := s.heap.push (blank w) } s' → Q (.ref s.heap.objs.size) s') : wpAny (model P w) A (call (.type "set") [.ref l]) Q E s := by
  have new : (s.heap.push (blank w)).get? s.heap.objs.size = some (blank w) := Heap.get?_push_size _ rfl
  have kind : Shared.TypeIs { s with heap := s.heap.push (blank w) } (.ref s.heap.objs.size) "set" := ⟨_, new, rfl⟩
  obtain ⟨c, tl, mro⟩ := F.called_set.mro
  have g1 := F.called_set.made
  have g2 := F.called_set.sub
  have g3 := F.called_set.notType
  have g4 := F.called_set.canCreate
  have g5 := F.typeCall_set_1 (.ref l)
  have g6 := F.called_set.init.lookup
  have g7 := F.called_set.init.bind (.ref s.heap.objs.size)
  refine wpAny_call (codeAny_of_tree ?_)
  change wpAny _ _ (callAny (.type "set") ⟨[.ref l], []⟩) _ _ s
  refine wpAny_pure ⟨Code.quiet_builtin _ (by decide +kernel), codeAny_builtin F.entry_type_call ?_⟩
  rw [Around.under_plain (weight_type_call_type "set" [.ref l] []) rfl]
  repeat any_goals first | assumption | wp_step
  refine codeAny_mono (code_set_led1 (.ref l) (E := E) (Q₁ := fun o s1 => o = .ref s.heap.objs.size ∧ s1 = { s with heap := s.heap.push (blank w) }) ⟨rfl, rfl⟩) fun r s1 q => ?_
  rcases r with _ | f
  · exact q
  cases f with
  | ret _ =>
    obtain ⟨rfl, rfl⟩ := q
    repeat any_goals first | assumption | wp_step
    refine codeAny_mono (codeAny_call_builtin (R := wants (fun r s2 => r = .none ∧ Filled w s.heap.objs.size ns { s with heap := s.heap.push (blank w) } s2) E) F.called_set.init.plain F.entry_set_init (check_set_init_1 kind ?_)) fun r s2 q => ?_
    · refine wpAny_mono (init_ints (E := E) (A := A.in1.in1) (by simp [quiet]) new (hl.push _) num few) (fun r s2 q => ?_) fun _ _ q => q
      obtain ⟨rfl, q⟩ := q
      exact ⟨rfl, q⟩
    · rcases r with _ | f
      · exact q
      cases f with
      | ret _ =>
        obtain ⟨rfl, q⟩ := q
        repeat any_goals first | assumption | wp_step
        exact h _ q
      | _ => exact False.elim q
  | _ => exact False.elim q
/-- sorted(xs), xs a set of ints -/
theorem sort_ints {s : Shared} {a : Addr} {S : Int → Bool} {n : Nat} {Q : Value → Shared → Prop} (quiet : A.handled = none) (R : SetR w s.heap a S n)
    (h : ∀ s' p (out : List Value) (c : Nat) (ns : List Int), (∀ b o, s.heap.get? b = some o → s'.heap.get? b = some o) → s'.gens = s.gens → s'.os = s.os → s.heap.objs.size ≤ p → s'.heap.get? p = some (seqObj "list" out.toArray c) →
      PyProof.Rows.IntsAre out ns → ns.Pairwise (· < ·) → (∀ k, k ∈ ns ↔ S k = true) → ns.length = n → Q (.ref p) s') : wpAny (model P w) A (call (.builtin "sorted") [.ref a]) Q E s := by
  obtain ⟨o, es, ep, t, e, ex, ed, good, dif, mem, low, fits, num, ris, led⟩ := R
  have many : es.toList.length = n := by rw [Array.length_toList]; exact num
  refine Calls.call_function_entry kind_sorted plain_sorted entry_sorted (args_sorted1 _) ?_
  unfold Builtin.«sorted»
  refine wpAny_bind (m := checkCount "sorted" 1 1 _) (wpAny_pure (wpAny_bind (collect_set (A := A.in1) quiet ⟨o, e, ex.1, ed⟩ fits low ris led fun s1 vs keep z1 g1 o1 perm => ?_)))
  have same : vs.length = n := by rw [perm.length_eq, List.length_map, many]
  have fit : vs.length ≤ sizeLine := by rw [same, ← num, sizeLine_eq]; unfold scanBound at low; omega
  have are := ints_of vs fun v hv => by
    obtain ⟨x, hx, q⟩ := List.mem_map.mp (perm.mem_iff.mp hv)
    obtain ⟨k, tk, hk, _⟩ := good x hx
    exact ⟨k, tk, q ▸ hk⟩
  have keys : (vs.map Builtin.Re.reRawOf).Perm (es.toList.map keyOf) := (perm.map Builtin.Re.reRawOf).trans (.of_eq (by rw [List.map_map]; rfl))
  have new : (s1.heap.push (seqObj "list" vs.toArray 0)).get? s1.heap.objs.size = some (seqObj "list" vs.toArray 0) := Heap.get?_push_size _ rfl
  refine wpAny_bind (wpAny_newList (wpAny_bind (wpAny_holding (wpAny_call_entry slot_list_sort ⟨_, new, rfl⟩ entry_list_sort (SrtO.list_sort_ord SrtO.swo_int new fit (fun two => SrtO.ints_sortable are two) fun out up st => ⟨_, rfl, ?_⟩) (args_list_sort _)))) fit)
  obtain ⟨out1, out2, out3⟩ := SrtO.ints_out are up st
  have all := out2.trans keys
  obtain ⟨c, at_⟩ := sortedHeap_at (vs := vs) (out := out.toArray) new
  refine wpAny_pure ⟨_, rfl, h _ s1.heap.objs.size out c (out.map SrtO.iv) (fun b u q => ?_) g1 o1 z1 at_ out1 (lt_of_le_nodup _ out3 (all.nodup_iff.mpr dif)) (fun k => (all.mem_iff).trans (mem k).symm) (by rw [all.length_eq, List.length_map, many])⟩
  have q1 := Heap.get?_push_of_some (seqObj "list" vs.toArray 0) (keep b u q)
  exact (sortedHeap_old (Nat.ne_of_lt (Heap.lt_size (keep b u q))) (Heap.lt_size q1)).trans q1
end
section
variable {X : Cx}
def rSetL (K : PySem.W.Frag) (w : World) : List V → Hp → VK → Prop := fun vs H Q => ∃ (a : Addr) (ns : List Int), vs = [V.ref a] ∧ SqL K H a (ns.map V.int) ∧ ns.length + 1 < scanBound ∧
  ∀ (p : Addr) (c : Nat), H p = none → c ≤ ns.length → Q (.ref p) (upd H p (SetO w p (fun j => decide (j ∈ ns)) c))
theorem cr_setL (calm : X.calm = true) : CallR X (.type "set") (rSetL X.K X.w) := by
  intro pins s σ H vs us Q I r ⟨a, ns, e, list, few, q⟩
  subst e
  obtain ⟨its, rv, at_, _⟩ := I.list list
  rw [Vals.ref1 r]
  refine set_ints (ns := ns) (I.ok.hd calm) at_.isList (by simpa using rv.ints) few fun s' f => ?_
  obtain ⟨h', tk, c, rfl, R, le, keep⟩ := f
  exact ⟨.ref _, _, I.laid (t' := tk) (fun b o e => keep b o (Nat.ne_of_lt (Heap.lt_size e)) (Heap.get?_push_of_some _ e)) (Nat.le_refl _) (setO_new R), rfl, q _ c (I.hok.fresh (Nat.le_refl _)) le⟩
def rSortS (w : World) : List V → Hp → VK → Prop := fun vs H Q => ∃ (a : Addr) (S : Int → Bool) (n : Nat), vs = [V.ref a] ∧ H a = some (SetO w a S n) ∧
  ∀ (ns : List Int) (p : Addr), ns.Pairwise (· < ·) → (∀ k : Int, k ∈ ns ↔ S k = true) → ns.length = n → H p = none → Q (.ref p) (upd H p (.lst (ns.map V.int)))
theorem cr_sortS (calm : X.calm = true) : CallR X (.builtin "sorted") (rSortS X.w) := by
  intro pins s σ H vs us Q I r ⟨a, S, n, e, at_, q⟩
  subst e
  have R := setO_get I at_
  have low : n < scanBound := by
    obtain ⟨_, _, _, _, _, _, _, _, _, _, low, _, num, _⟩ := R
    rw [← num]; exact low
  rw [Vals.ref1 r]
  refine sort_ints (I.ok.hd calm) R fun s' p out c ns keep g o le new are up mem many => ?_
  have none' : H p = none := I.hok.fresh le
  have fit : (ns.map V.int).length ≤ sizeLine := by rw [List.length_map, many, sizeLine_eq]; unfold scanBound at low; omega
  exact ⟨.ref p, _, I.call' (ch := []) o (Un.laid keep le none') (I.hok.laid keep le (show ObjOk X.prog X.w _ _ p (.lst (ns.map V.int)) from ⟨fit, out, c, vals_of_ints are, new⟩)) (by rw [g]; exact I.bare) (fun _ z => nomatch z), rfl, q ns p up mem many none'⟩
end
theorem crSetL {X : Cx} (K : PySem.W.Frag) (calm : X.calm = true) (h : X.K = K := by rfl) : CallR X (.type "set") (rSetL K X.w) := by
  rw [← h]
  exact cr_setL calm
theorem piL {X : Cx} {tg e : Expr} {te : TE} (K : PySem.W.Frag) (he : PE X e te) (h : X.K = K := by rfl) : PI X tg e (iList K te) := by
  subst h
  exact pi_list he

def topS (i : Nat) : Stmt := PySem.Challenge.pw_breakback_k30_double_openings.main.body.getD i (.Pass ⟨0, 0, 0, 0⟩)
abbrev s_bits : Stmt := topS 1
abbrev s_number_of : Stmt := topS 2
abbrev s_is_whole : Stmt := topS 8
abbrev s_are_rows : Stmt := topS 9
abbrev s_is_generator : Stmt := topS 10
abbrev s_is_function : Stmt := topS 11
abbrev s_check_block : Stmt := topS 12
abbrev s_double_openings : Stmt := topS 14
abbrev s_law_draws : Stmt := topS 16
abbrev s_law_take : Stmt := topS 17
abbrev s_law_string : Stmt := topS 18
abbrev s_law_table : Stmt := topS 19
abbrev s_law_function : Stmt := topS 20
abbrev s_law_bits : Stmt := topS 21
abbrev s_law_number : Stmt := topS 22
abbrev s_law_refused : Stmt := topS 23
abbrev s_law_whole : Stmt := topS 24
abbrev s_law : Stmt := topS 25
theorem sc_bits : FnScope ["length", "number"] ["length", "number"] (defScope s_bits) := ⟨rfl, rfl, rfl, by decide +kernel, rfl, by decide +kernel, by decide +kernel⟩
theorem sc_number_of : FnScope ["string"] ["string"] (defScope s_number_of) := ⟨rfl, rfl, rfl, by decide +kernel, rfl, by decide +kernel, by decide +kernel⟩
theorem sc_is_whole : FnScope ["value", "low", "high"] ["value", "low", "high"] (defScope s_is_whole) := ⟨rfl, rfl, rfl, by decide +kernel, rfl, by decide +kernel, by decide +kernel⟩
theorem sc_are_rows : FnScope ["value", "many", "m", "row"] ["value", "many", "m"] (defScope s_are_rows) := ⟨rfl, rfl, rfl, by decide +kernel, rfl, by decide +kernel, by decide +kernel⟩
theorem sc_is_generator : FnScope ["value", "kind", "n", "m", "rows"] ["value"] (defScope s_is_generator) := ⟨rfl, rfl, rfl, by decide +kernel, rfl, by decide +kernel, by decide +kernel⟩
theorem sc_is_function : FnScope ["value", "kind", "n", "l", "m", "tables", "rows"] ["value"] (defScope s_is_function) := ⟨rfl, rfl, rfl, by decide +kernel, rfl, by decide +kernel, by decide +kernel⟩
theorem sc_check_block : FnScope ["block"] ["block"] (defScope s_check_block) := ⟨rfl, rfl, rfl, by decide +kernel, rfl, by decide +kernel, by decide +kernel⟩
theorem sc_double_openings : FnScope ["block", "numbers", "found", "row", "first", "second", "number"] ["block"] (defScope s_double_openings) := ⟨rfl, rfl, rfl, by decide +kernel, rfl, by decide +kernel, by decide +kernel⟩
theorem sc_law_draws : FnScope ["script", "many", "rests", "draws", "k", "cell", "at", "mixed"] ["script", "many"] (defScope s_law_draws) := ⟨rfl, rfl, rfl, by decide +kernel, rfl, by decide +kernel, by decide +kernel⟩
theorem sc_law_take : FnScope ["hand", "many", "at", "draws"] ["hand", "many"] (defScope s_law_take) := ⟨rfl, rfl, rfl, by decide +kernel, rfl, by decide +kernel, by decide +kernel⟩
theorem sc_law_string : FnScope ["hand", "length", "k"] ["hand", "length"] (defScope s_law_string) := ⟨rfl, rfl, rfl, by decide +kernel, rfl, by decide +kernel, by decide +kernel⟩
theorem sc_law_table : FnScope ["hand", "n", "m", "rows", "k"] ["hand", "n", "m"] (defScope s_law_table) := ⟨rfl, rfl, rfl, by decide +kernel, rfl, by decide +kernel, by decide +kernel⟩
theorem sc_law_function : FnScope ["hand", "n", "l", "m", "rows", "key", "k"] ["hand", "n", "l", "m"] (defScope s_law_function) := ⟨rfl, rfl, rfl, by decide +kernel, rfl, by decide +kernel, by decide +kernel⟩
theorem sc_law_bits : FnScope ["length", "number", "found", "k"] ["length", "number"] (defScope s_law_bits) := ⟨rfl, rfl, rfl, by decide +kernel, rfl, by decide +kernel, by decide +kernel⟩
theorem sc_law_number : FnScope ["string", "found", "sign"] ["string"] (defScope s_law_number) := ⟨rfl, rfl, rfl, by decide +kernel, rfl, by decide +kernel, by decide +kernel⟩
theorem sc_law_refused : FnScope ["block", "error"] ["block"] (defScope s_law_refused) := ⟨rfl, rfl, rfl, by decide +kernel, rfl, by decide +kernel, by decide +kernel⟩
theorem sc_law_whole : FnScope ["script", "hand", "n", "m", "block", "rows", "marks", "one", "other", "due", "answer", "odd", "k", "number"] ["script"] (defScope s_law_whole) := ⟨rfl, rfl, rfl, by decide +kernel, rfl, by decide +kernel, by decide +kernel⟩
theorem sc_law : FnScope ["script"] ["script"] (defScope s_law) := ⟨rfl, rfl, rfl, by decide +kernel, rfl, by decide +kernel, by decide +kernel⟩
structure Cs where
  BadBlock : Addr
  BreakError : Addr
structure Txt (K : PySem.W.Frag) (mg : Str → Option Value) (cs : Cs) : Prop where
  gl_BadBlock : mg "BadBlock" = some (.ref cs.BadBlock)
  gl_BreakError : mg "BreakError" = some (.ref cs.BreakError)
  x_BadBlock : Exn K mg "BadBlock" cs.BadBlock
  e_BadBlock : ExcC K cs.BadBlock
  exm_BadBlock_BadBlock : PySem.W.exmOne K (.ref cs.BadBlock) (.ref cs.BadBlock) = some true
  kit_BadBlock_BreakError : PySem.W.kitOne K (.ref cs.BadBlock) (.ref cs.BreakError) = some true
  kit_BadBlock_ValueError : PySem.W.kitOne K (.ref cs.BadBlock) (.type "ValueError") = some true
  n_ValueError : mg "ValueError" = none
  n_abs : mg "abs" = none
  n_all : mg "all" = none
  n_bool : mg "bool" = none
  n_int : mg "int" = none
  n_isinstance : mg "isinstance" = none
  n_len : mg "len" = none
  n_list : mg "list" = none
  n_range : mg "range" = none
  n_set : mg "set" = none
  n_sorted : mg "sorted" = none
  n_str : mg "str" = none
  n_tuple : mg "tuple" = none
  g_MOST_BITS : ∃ u, mg "MOST_BITS" = some u ∧ RelV (.int 40) u
/-! ### the promises -/
/-- the hand: a list of the draws' list and the number of the next draw -/
def Hnd (H : Hp) (a d : Addr) : Prop := ∃ (ds : List Int) (i : Nat), H a = some (.lst [.ref d, .int (i : Int)]) ∧ H d = some (.lst (ds.map V.int)) ∧ (∀ x ∈ ds, 0 ≤ x) ∧ d ≠ a
/-- all but the hand is as it was -/
def Keep (a : Addr) (H H' : Hp) : Prop := ∀ b o, H b = some o → b ≠ a → H' b = some o
theorem Keep.trans {a : Addr} {H H1 H2 : Hp} (h : Keep a H H1) (h' : Keep a H1 H2) : Keep a H H2 := fun b o e n => h' b o (h b o e n) n
theorem Keep.refl (a : Addr) (H : Hp) : Keep a H H := fun _ _ e _ => e
theorem Keep.new {a p : Addr} {H : Hp} {o : HO} (np : H p = none) : Keep a H (upd H p o) := fun b u e _ => by
  rw [upd_ne (ne_of_none e np)]
  exact e
theorem same_new {H : Hp} {p : Addr} {o : HO} (h : H p = none) : Same H (upd H p o) := fun b x e => by
  rw [upd_ne (ne_of_none e h)]
  exact e
theorem Hnd.same {H H' : Hp} {a d : Addr} (h : Hnd H a d) (s : Same H H') : Hnd H' a d := by
  obtain ⟨ds, i, h1, h2, h3, h4⟩ := h
  exact ⟨ds, i, s _ _ h1, s _ _ h2, h3, h4⟩
theorem Hnd.new {H : Hp} {a d p : Addr} {o : HO} (h : Hnd H a d) (np : H p = none) : Hnd (upd H p o) a d := h.same (same_new np)
theorem Hnd.some {H : Hp} {a d : Addr} (h : Hnd H a d) : ∃ o, H a = some o := by
  obtain ⟨ds, i, h1, _⟩ := h
  exact ⟨_, h1⟩
/-- what is new is neither the hand nor the draws -/
theorem Hnd.ne {H : Hp} {a d p : Addr} (h : Hnd H a d) (np : H p = none) : p ≠ a ∧ p ≠ d := by
  obtain ⟨ds, i, h1, h2, _⟩ := h
  exact ⟨(ne_of_none h1 np).symm, (ne_of_none h2 np).symm⟩
/-- an object beside the hand may change -/
theorem Hnd.set {H : Hp} {a d p : Addr} {o : HO} (h : Hnd H a d) (pa : p ≠ a) (pd : p ≠ d) : Hnd (upd H p o) a d := by
  obtain ⟨ds, i, h1, h2, h3, h4⟩ := h
  exact ⟨ds, i, by rw [upd_ne pa.symm]; exact h1, by rw [upd_ne pd.symm]; exact h2, h3, h4⟩
theorem Keep.same {a : Addr} {H H' : Hp} (s : Same H H') : Keep a H H' := fun b o e _ => s b o e
def spDraws (K : PySem.W.Frag) : Sp := fun vs H Q _ => ∃ (a : Addr) (ns : List Int) (many : Nat), vs = [.ref a, .int (many : Int)] ∧ SqL K H a (ns.map V.int) ∧ ns.length ≤ 63 ∧ many ≤ 5000 ∧
  ∀ (p : Addr) (ds : List Int) (H' : Hp), H p = none → Same H H' → H' p = some (.lst (ds.map V.int)) → (∀ x ∈ ds, (0 : Int) ≤ x) → Q (.ref p) H'
def spTake : Sp := fun vs H Q _ => ∃ (a d : Addr) (many : Int), vs = [.ref a, .int many] ∧ 0 < many ∧ Hnd H a d ∧ ∀ r H', 0 ≤ r → r < many → Hnd H' a d → Keep a H H' → Q (.int r) H'
def spString : Sp := fun vs H Q _ => ∃ (a d : Addr) (n : Nat), vs = [.ref a, .int (n : Int)] ∧ n ≤ 5000 ∧ Hnd H a d ∧ ∀ bs H', bs.length = n → Hnd H' a d → Keep a H H' → Q (.str (sb bs)) H'
def spBits : Sp := fun vs H Q _ => ∃ n k : Nat, vs = [.int (n : Int), .int (k : Int)] ∧ n ≤ 5000 ∧ k < 2 ^ n ∧ Q (.str (sb (toB n k))) H
def spNumber : Sp := fun vs H Q _ => ∃ bs : List Bool, vs = [.str (sb bs)] ∧ bs.length ≤ 640 ∧ Q (.int ((val bs : Nat) : Int)) H
def spXor : Sp := fun vs H Q _ => ∃ l m : List Bool, vs = [.str (sb l), .str (sb m)] ∧ l.length = m.length ∧ l.length ≤ 640 ∧ Q (.str (sb (List.zipWith (fun x y => x != y) l m))) H
def spParity : Sp := fun vs H Q _ => ∃ l m : List Bool, vs = [.str (sb l), .str (sb m)] ∧ l.length = m.length ∧ l.length ≤ 640 ∧ Q (.int ((((List.zipWith (fun x y => x && y) l m).count true : Nat) : Int) % 2)) H
def spIsS : Sp := fun vs H Q _ => ∃ x y : Str, vs = [.str x, .str y] ∧ Q (.bl (decide (x = y))) H
def spIsN : Sp := fun vs H Q _ => ∃ x y : Int, vs = [.int x, .int y] ∧ Q (.bl (decide (x = y))) H
def spPair : Sp := fun vs H Q _ => ∃ l m : List Bool, vs = [.str (sb l), .str (sb m)] ∧ l.length = m.length ∧ l.length ≤ 640 ∧ ∀ H', Same H H' → Q (.bl true) H'
def spLaw (K : PySem.W.Frag) : Sp := fun vs H Q _ => ∃ (a : Addr) (ns : List Int), vs = [.ref a] ∧ SqL K H a (ns.map V.int) ∧ ns.length ≤ 63 ∧ ∀ H', Q (.bl true) H'
/-- what was made anew may change: nothing that was there is it -/
theorem Keep.set {a p : Addr} {H H' : Hp} {o : HO} (h : Keep a H H') (np : H p = none) : Keep a H (upd H' p o) := fun b u e n => by
  rw [upd_ne (ne_of_none e np)]
  exact h b u e n
theorem Keep.free {a p : Addr} {H H' : Hp} (h : Keep a H H') (np : H' p = none) (pa : p ≠ a) : H p = none := by
  cases e : H p with
  | none => rfl
  | some o =>
    have := h p o e pa
    rw [np] at this
    cases this
/-- the heap without the hand: what data stand on -/
def off (a : Addr) (H : Hp) : Hp := fun b => if b = a then none else H b
theorem off_ne {a b : Addr} {H : Hp} (h : b ≠ a) : off a H b = H b := if_neg h
theorem off_same (a : Addr) (H : Hp) : Same (off a H) H := fun b o e => by
  unfold off at e
  by_cases h : b = a
  · rw [if_pos h] at e
    cases e
  · rw [if_neg h] at e
    exact e
theorem Keep.off {a : Addr} {H H' : Hp} (k : Keep a H H') : Same (off a H) (off a H') := fun b o e => by
  unfold My.off at e ⊢
  by_cases h : b = a
  · rw [if_pos h] at e
    cases e
  · rw [if_neg h] at e ⊢
    exact k b o e h

def spWhole (K : PySem.W.Frag) : Sp := fun vs H Q _ => ∃ (v : V) (d : PyData) (lo hi : Int), vs = [v, .int lo, .int hi] ∧ Dp K H v d ∧ Q (.bl (whole d lo hi)) H
def spRows (K : PySem.W.Frag) : Sp := fun vs H Q _ => ∃ (v : V) (d : PyData) (n : Nat) (many m : Int), vs = [v, .int many, .int m] ∧ Dp K H v d ∧ Gd n d ∧ many ≤ 4096 ∧ m ≤ 40 ∧ ∀ H', Same H H' → Q (.bl (rowsOk d many m)) H'
def spGen (K : PySem.W.Frag) : Sp := fun vs H Q _ => ∃ (v : V) (d : PyData) (n : Nat), vs = [v] ∧ Dp K H v d ∧ Gd n d ∧ n ≤ 64 ∧ ∀ H', Same H H' → Q (.bl (genOk d)) H'
def spFun (K : PySem.W.Frag) : Sp := fun vs H Q _ => ∃ (v : V) (d : PyData) (n : Nat), vs = [v] ∧ Dp K H v d ∧ Gd n d ∧ n ≤ 64 ∧ ∀ H', Same H H' → Q (.bl (funOk d)) H'
def spCheck (K : PySem.W.Frag) (C : Addr) : Sp := fun vs H Q E => ∃ (v : V) (d : PyData) (n : Nat), vs = [v] ∧ Dp K H v d ∧ Gd n d ∧ n ≤ 64 ∧ ∀ H', Same H H' → (blockOk d = true → Q .non H') ∧ (blockOk d = false → E (.ref C) none H')

theorem for_text {x : Str} {g : TG} {tb : TS} {D : Ends} {σ : L2.St} {H : Hp} (Pv : Nat → L2.St → Hp → Prop) (h0 : Pv 0 σ H)
    (hs : ∀ i c σ H, x.cps[i]? = some c → Pv i σ H → g (.str ⟨#[c]⟩) σ H fun σ2 H2 => tb { D with nx := Pv (i + 1), ct := Pv (i + 1), bk := D.nx } σ2 H2) (hd : ∀ σ H, Pv x.cps.size σ H → D.nx σ H) :
    ∃ W : Nat → Nat → L2.St → Hp → Prop, (∃ m, W 0 m σ H) ∧ ∀ i m σ H, W i m σ H →
      ((Its x).stop i H ∧ D.nx σ H) ∨ ((Its x).go i H ∧ ∃ N : L2.St → Hp → Prop, (∀ σ' H', N σ' H' → ∃ m', m' < m ∧ W (i + 1) m' σ' H') ∧ ∀ y H', (Its x).yld i H y H' → g y σ H' fun σ2 H2 => tb { D with nx := N, ct := N, bk := D.nx } σ2 H2) := by
  refine ⟨fun i m σ H => m = x.cps.size - i ∧ i ≤ x.cps.size ∧ Pv i σ H, ⟨x.cps.size, by omega, Nat.zero_le _, h0⟩, ?_⟩
  rintro i m σ H ⟨rfl, hi, p⟩
  by_cases c : i < x.cps.size
  · refine .inr ⟨c, Pv (i + 1), fun σ' H' p' => ⟨x.cps.size - (i + 1), by omega, rfl, c, p'⟩, ?_⟩
    rintro y H' ⟨rfl, k, hk, rfl⟩
    exact hs i k σ _ hk p
  · have e : i = x.cps.size := by omega
    subst e
    exact .inl ⟨Nat.le_refl _, hd σ H p⟩

theorem ix_nat (n d i : Nat) : HT.sIx n d (some (i : Int)) = min i n := by
  unfold HT.sIx
  show (if (i : Int) < 0 then _ else min (i : Int).toNat n) = _
  rw [if_neg (by omega)]
  rfl
theorem sb_drop_take (l : List Bool) (a b : Nat) : (⟨(((sb l).cps.toList.drop a).take b).toArray⟩ : Str) = sb ((l.drop a).take b) := by
  unfold sb
  rw [List.map_take, List.map_drop]
theorem cut_pre {l : List Bool} {i : Nat} : cutS (sb l) none (some (i : Int)) = sb (l.take i) := by
  unfold cutS
  rw [sb_drop_take, ix_nat, HT.sIx_none, sb_len, List.drop_zero, Nat.sub_zero]
  congr 1
  by_cases h : i ≤ l.length
  · rw [Nat.min_eq_left h]
  · rw [List.take_of_length_le (by omega), List.take_of_length_le (by omega)]
theorem cut_suf {l : List Bool} {i : Nat} : cutS (sb l) (some (i : Int)) none = sb (l.drop i) := by
  unfold cutS
  rw [sb_drop_take, ix_nat, HT.sIx_none, sb_len, List.take_of_length_le (by rw [List.length_drop]; omega)]
  congr 1
  by_cases h : i ≤ l.length
  · rw [Nat.min_eq_left h]
  · rw [Nat.min_eq_right (by omega), List.drop_length, List.drop_of_length_le (by omega)]
theorem cut_one {l : List Bool} {i : Nat} : cutS (sb l) (some (i : Int)) (some ((i : Int) + 1)) = sb ((l.drop i).take 1) := by
  unfold cutS
  rw [show ((i : Int) + 1) = ((i + 1 : Nat) : Int) by omega, sb_drop_take, ix_nat, ix_nat, sb_len]
  congr 1
  by_cases h : i + 1 ≤ l.length
  · rw [Nat.min_eq_left h, Nat.min_eq_left (by omega)]
    congr 1
    omega
  · by_cases h' : i = l.length
    · subst h'
      rw [Nat.min_self, List.drop_length]
      simp
    · rw [Nat.min_eq_right (show l.length ≤ i by omega), List.drop_length, List.drop_eq_nil_of_le (show l.length ≤ i by omega)]
      simp
theorem rep_bits (b : Bool) (n : Nat) : SX.S (List.replicate n [cB b]).flatten = sb (List.replicate n b) := by
  unfold sb
  congr 1
  induction n with
  | zero => rfl
  | succ n ih =>
    rw [List.replicate_succ, List.flatten_cons, ih]
    rfl
theorem val_take (l : List Bool) (i : Nat) (h : i < l.length) : val (l.take (i + 1)) = 2 * val (l.take i) + bit l[i] := by
  rw [List.take_add_one, List.getElem?_eq_getElem h]
  exact val_snoc _ _
theorem val_zeros (n : Nat) : val (List.replicate n false) = 0 := by
  induction n with
  | zero => rfl
  | succ n ih =>
    rw [List.replicate_succ', val_snoc, ih]
    rfl
theorem sb_at {l : List Bool} {i c : Nat} (h : (sb l).cps[i]? = some c) : ∃ h : i < l.length, c = cB l[i] := by
  have e : (l.map cB)[i]? = some c := by
    rw [← h]
    show _ = ((l.map cB).toArray)[i]?
    simp
  rw [List.getElem?_map] at e
  obtain ⟨b, hb, rfl⟩ := Option.map_eq_some_iff.mp e
  obtain ⟨hi, rfl⟩ := List.getElem?_eq_some_iff.mp hb
  exact ⟨hi, rfl⟩

theorem name_ne {d : PyData} {x : Str} : (!PyData.eqv d (.str x)) = !named x d := rfl
theorem whole_int {d : PyData} {lo hi : Int} (h : whole d lo hi = true) : ∃ i, d = .int i ∧ lo ≤ i ∧ i ≤ hi := by
  cases d with
  | int i =>
    have h' : (decide (lo ≤ i) && decide (i ≤ hi)) = true := h
    rw [Bool.and_eq_true, decide_eq_true_eq, decide_eq_true_eq] at h'
    exact ⟨i, rfl, h'⟩
  | _ => cases h
theorem gen_eq {k n m r : PyData} : genOk (.tuple [k, n, m, r]) = (named "generator" k && whole n 1 10 && whole m 1 40 && genRows n m r) := rfl
theorem fun_eq {k n l m t : PyData} : funOk (.tuple [k, n, l, m, t]) = (named "function" k && whole n 1 8 && whole l 1 8 && sumLe n l && whole m 1 40 && funTabs n l m t) := rfl
theorem pow_le {n : Int} {b : Nat} (h0 : 1 ≤ n) (h : n ≤ (b : Int)) : (1 : Int) * 2 ^ n.toNat ≤ ((2 ^ b : Nat) : Int) := by
  have h1 : (2 : Nat) ^ n.toNat ≤ 2 ^ b := Nat.pow_le_pow_right (by decide) (by omega)
  have h2 : ((2 ^ n.toNat : Nat) : Int) ≤ ((2 ^ b : Nat) : Int) := Int.ofNat_le.mpr h1
  rw [Int.natCast_pow] at h2
  rw [Int.one_mul]
  exact h2
theorem dp4 {K : PySem.W.Frag} {H : Hp} {ws : List V} {xs : List PyData} (h : DpAll K H ws xs) (c : ws.length = 4) : ∃ v0 v1 v2 v3 d0 d1 d2 d3, ws = [v0, v1, v2, v3] ∧ xs = [d0, d1, d2, d3] ∧ Dp K H v0 d0 ∧ Dp K H v1 d1 ∧ Dp K H v2 d2 ∧ Dp K H v3 d3 := by
  match xs, ws, c, h with
  | _, [v0, v1, v2, v3], _, .cons h0 (.cons h1 (.cons h2 (.cons h3 .nil))) => exact ⟨_, _, _, _, _, _, _, _, rfl, rfl, h0, h1, h2, h3⟩
theorem dp5 {K : PySem.W.Frag} {H : Hp} {ws : List V} {xs : List PyData} (h : DpAll K H ws xs) (c : ws.length = 5) : ∃ v0 v1 v2 v3 v4 d0 d1 d2 d3 d4, ws = [v0, v1, v2, v3, v4] ∧ xs = [d0, d1, d2, d3, d4] ∧ Dp K H v0 d0 ∧ Dp K H v1 d1 ∧ Dp K H v2 d2 ∧ Dp K H v3 d3 ∧ Dp K H v4 d4 := by
  match xs, ws, c, h with
  | _, [v0, v1, v2, v3, v4], _, .cons h0 (.cons h1 (.cons h2 (.cons h3 (.cons h4 .nil)))) => exact ⟨_, _, _, _, _, _, _, _, _, _, rfl, rfl, h0, h1, h2, h3, h4⟩
theorem join_all : ∀ ys : List Str, (Txt.join "" ys).cps.toList = (ys.map (·.cps.toList)).flatten := by
  intro ys
  have j : ∀ ps : List (List Nat), TL.joinL [] ps = ps.flatten := by
    intro ps
    induction ps with
    | nil => rfl
    | cons x r ih =>
      cases r with
      | nil => exact (List.append_nil x).symm
      | cons y r =>
        show x ++ ([] ++ TL.joinL [] (y :: r)) = x ++ (y :: r).flatten
        rw [ih, List.nil_append]
  have e : ys = (ys.map (·.cps.toList)).map SX.S := by
    rw [List.map_map]
    exact (List.map_id'' (fun x => SX.S_tl x) ys).symm
  have h := SX.join_S [] (ys.map (·.cps.toList))
  rw [← e, j] at h
  exact congrArg (fun z : Str => z.cps.toList) h

def spTable (K : PySem.W.Frag) : Sp := fun vs H Q _ => ∃ (a d : Addr) (n m : Nat), vs = [.ref a, .int (n : Int), .int (m : Int)] ∧ n ≤ 8 ∧ m ≤ 200 ∧ Hnd H a d ∧
  ∀ v rows H', rows.length = 2 ^ n → (∀ r ∈ rows, r.length = m) → Dp K (off a H') v (tabD n m rows) → Hnd H' a d → Keep a H H' → Q v H'
def spFunction (K : PySem.W.Frag) : Sp := fun vs H Q _ => ∃ (a d : Addr) (n l m : Nat), vs = [.ref a, .int (n : Int), .int (l : Int), .int (m : Int)] ∧ n ≤ 8 ∧ l ≤ 8 ∧ m ≤ 200 ∧ Hnd H a d ∧
  ∀ v tabs H', tabs.length = 2 ^ n → (∀ rows ∈ tabs, rows.length = 2 ^ l ∧ ∀ r ∈ rows, r.length = m) → Dp K (off a H') v (funD n l m tabs) → Hnd H' a d → Keep a H H' → Q v H'

/-! ### data of a size -/
def okS (s : Nat) (x : Str) : Prop := PySem.PyData.strOk x = true ∧ x.length ≤ s
def Gz (s : Nat) : Nat → PyData → Prop
  | 0, d => match d with
    | .none => True
    | .bool _ => True
    | .int i => i.natAbs < 10 ^ s
    | .str x => okS s x
    | _ => False
  | n + 1, d => match d with
    | .none => True
    | .bool _ => True
    | .int i => i.natAbs < 10 ^ s
    | .str x => okS s x
    | .list xs => xs.length ≤ s ∧ ∀ x ∈ xs, Gz s n x
    | .tuple xs => xs.length ≤ s ∧ ∀ x ∈ xs, Gz s n x
    | .dict _ => False
theorem gz_str {s n : Nat} {x : Str} : Gz s n (.str x) ↔ okS s x := by
  cases n <;> exact Iff.rfl
theorem gz_int {s n : Nat} {i : Int} : Gz s n (.int i) ↔ i.natAbs < 10 ^ s := by
  cases n <;> exact Iff.rfl
theorem gz_bool {s n : Nat} {b : Bool} : Gz s n (.bool b) := by
  cases n <;> trivial
theorem gz_none {s n : Nat} : Gz s n .none := by
  cases n <;> trivial
theorem gz_tup {s n : Nat} {xs : List PyData} (h : Gz s n (.tuple xs)) : xs.length ≤ s ∧ ∃ m, n = m + 1 ∧ ∀ x ∈ xs, Gz s m x := by
  cases n with
  | zero => exact h.elim
  | succ n => exact ⟨h.1, n, rfl, h.2⟩
theorem gz_gd {s : Nat} (hs : s ≤ 5000) : ∀ {n : Nat} {d : PyData}, Gz s n d → Gd n d
  | 0, .none, h => h
  | 0, .bool _, h => h
  | 0, .int _, h => trivial
  | 0, .str _, h => ⟨h.1, Nat.le_trans h.2 hs⟩
  | n + 1, .none, h => h
  | n + 1, .bool _, h => h
  | n + 1, .int _, h => trivial
  | n + 1, .str _, h => ⟨h.1, Nat.le_trans h.2 hs⟩
  | n + 1, .list xs, h => ⟨Nat.le_trans h.1 hs, fun x hx => gz_gd hs (h.2 x hx)⟩
  | n + 1, .tuple xs, h => ⟨Nat.le_trans h.1 hs, fun x hx => gz_gd hs (h.2 x hx)⟩
theorem gz_up {s t : Nat} (hs : s ≤ t) : ∀ {n m : Nat} {d : PyData}, n ≤ m → Gz s n d → Gz t m d
  | n, m, .none, _, h => gz_none
  | n, m, .bool _, _, h => gz_bool
  | n, m, .int _, _, h => gz_int.mpr (Nat.lt_of_lt_of_le (gz_int.mp h) (Nat.pow_le_pow_right (by decide) hs))
  | n, m, .str _, _, h => gz_str.mpr ⟨(gz_str.mp h).1, Nat.le_trans (gz_str.mp h).2 hs⟩
  | 0, m, .list _, _, h => h.elim
  | 0, m, .tuple _, _, h => h.elim
  | 0, m, .dict _, _, h => h.elim
  | n + 1, m, .dict _, _, h => h.elim
  | n + 1, m + 1, .list xs, hm, h => ⟨Nat.le_trans h.1 hs, fun x hx => gz_up hs (Nat.le_of_succ_le_succ hm) (h.2 x hx)⟩
  | n + 1, m + 1, .tuple xs, hm, h => ⟨Nat.le_trans h.1 hs, fun x hx => gz_up hs (Nat.le_of_succ_le_succ hm) (h.2 x hx)⟩
theorem sqt_off {K : PySem.W.Frag} {H : Hp} {a d p : Addr} {xs : List V} (h : Hnd H a d) (s : SqT K H p xs) : SqT K (off a H) p xs := by
  obtain ⟨ds, i, h1, _⟩ := h
  rcases s with (s | ⟨o, s⟩) | s
  · refine .inl (.inl ?_)
    rw [off_ne fun e => ?_]
    · exact s
    · rw [e, h1] at s
      cases s
  · refine .inl (.inr ⟨o, ?_⟩)
    rw [off_ne fun e => ?_]
    · exact s
    · rw [e, h1] at s
      cases s
  · exact .inr s
theorem sqt_on {K : PySem.W.Frag} {H : Hp} {a p : Addr} {xs : List V} (s : SqT K (off a H) p xs) : SqT K H p xs := same_sqt (off_same a H) s
theorem sql_on {K : PySem.W.Frag} {H : Hp} {a p : Addr} {xs : List V} (s : SqL K (off a H) p xs) : SqL K H p xs := (off_same a H).seq s
/-- a value of data of a size, beside the hand -/
def Ok (K : PySem.W.Frag) (a : Addr) (H : Hp) (s n : Nat) (v : V) : Prop := ∃ D, Dp K (off a H) v D ∧ Gz s n D
theorem Ok.same {K : PySem.W.Frag} {a : Addr} {H H' : Hp} {s n : Nat} {v : V} (h : Ok K a H s n v) (e : Same (off a H) (off a H')) : Ok K a H' s n v := by
  obtain ⟨D, h1, h2⟩ := h
  exact ⟨D, dp_same e D h1, h2⟩
theorem Ok.keep {K : PySem.W.Frag} {a : Addr} {H H' : Hp} {s n : Nat} {v : V} (h : Ok K a H s n v) (e : Keep a H H') : Ok K a H' s n v := h.same e.off
theorem Ok.up {K : PySem.W.Frag} {a : Addr} {H : Hp} {s n t m : Nat} {v : V} (h : Ok K a H s n v) (hs : s ≤ t) (hm : n ≤ m) : Ok K a H t m v := by
  obtain ⟨D, h1, h2⟩ := h
  exact ⟨D, h1, gz_up hs hm h2⟩
theorem same_off {a : Addr} {H H' : Hp} (s : Same H H') : Same (off a H) (off a H') := (Keep.same (a := a) s).off
theorem cutV_all {xs : List V} {lo hi : Option Int} (h1 : HT.sIx xs.length 0 lo = 0) (h2 : HT.sIx xs.length xs.length hi = xs.length) : cutV xs lo hi = xs := by
  unfold cutV
  rw [h1, h2]
  simp
theorem sl_any {K : PySem.W.Frag} {H : Hp} {Q : VK} {lo hi : Option Int} {a : Addr} {xs : List V} (hT : SqT K H a xs) (q : ∀ p H', Same H H' → SqT K H' p (cutV xs lo hi) → Q (.ref p) H') : rSlA K (.ref a) lo hi H Q := by
  refine ⟨a, xs, rfl, hT, fun hw => ?_, fun hw p np => ?_⟩
  · exact q a H (Same.refl H) (by rw [cutV_all hw.1 hw.2]; exact hT)
  · exact q p _ (same_new np) (.inl (.inl upd_same))
theorem sl_anyN {K : PySem.W.Frag} {σ : L2.St} {H : Hp} {Q : VK} {l : Option Int} {a : Addr} {xs : List V} (hT : SqT K H a xs) (q : ∀ p H', Same H H' → SqT K H' p (cutV xs l none) → Q (.ref p) H') : tNoPart σ H fun u H3 => rSlA K (.ref a) l u H3 Q := sl_any hT q
theorem cat_any {K : PySem.W.Frag} {H : Hp} {Q : VK} {a b : Addr} {xs ys : List V} (ha : SqT K H a xs) (hb : SqT K H b ys) (hz : xs.length + ys.length ≤ sizeLine) (q : ∀ p H', Same H H' → SqT K H' p (xs ++ ys) → Q (.ref p) H') : rCatA K (.ref a) (.ref b) H Q := by
  refine ⟨a, b, xs, ys, rfl, rfl, ha, hb, hz, fun e => ?_, fun e1 e2 => ?_, fun e1 e2 p np => ?_⟩
  · subst e
    exact q b H (Same.refl H) hb
  · subst e2
    exact q a H (Same.refl H) (by rw [List.append_nil]; exact ha)
  · exact q p _ (same_new np) (.inl (.inl upd_same))
theorem dps_drop {K : PySem.W.Frag} {H : Hp} : ∀ (i : Nat) {vs : List V} {ds : List PyData}, DpAll K H vs ds → DpAll K H (vs.drop i) (ds.drop i)
  | 0, _, _, h => h
  | i + 1, _, _, .nil => .nil
  | i + 1, _, _, .cons _ t => dps_drop i t
theorem dps_take {K : PySem.W.Frag} {H : Hp} : ∀ (i : Nat) {vs : List V} {ds : List PyData}, DpAll K H vs ds → DpAll K H (vs.take i) (ds.take i)
  | 0, _, _, h => .nil
  | i + 1, _, _, .nil => .nil
  | i + 1, _, _, .cons h t => .cons h (dps_take i t)
theorem dps_app {K : PySem.W.Frag} {H : Hp} : ∀ {vs ws : List V} {ds es : List PyData}, DpAll K H vs ds → DpAll K H ws es → DpAll K H (vs ++ ws) (ds ++ es)
  | _, _, _, _, .nil, h => h
  | _, _, _, _, .cons h t, h' => .cons h (dps_app t h')
/-- the values of a row, all of a size -/
def Oks (K : PySem.W.Frag) (a : Addr) (H : Hp) (s n : Nat) (vs : List V) : Prop := ∃ ds, DpAll K (off a H) vs ds ∧ ∀ d ∈ ds, Gz s n d
theorem Oks.keep {K : PySem.W.Frag} {a : Addr} {H H' : Hp} {s n : Nat} {vs : List V} (h : Oks K a H s n vs) (e : Keep a H H') : Oks K a H' s n vs := by
  obtain ⟨D, h1, h2⟩ := h
  exact ⟨D, dps_same e.off D h1, h2⟩
theorem Oks.up {K : PySem.W.Frag} {a : Addr} {H : Hp} {s n t m : Nat} {vs : List V} (h : Oks K a H s n vs) (hs : s ≤ t) (hm : n ≤ m) : Oks K a H t m vs := by
  obtain ⟨D, h1, h2⟩ := h
  exact ⟨D, h1, fun d hd => gz_up hs hm (h2 d hd)⟩
theorem Oks.app {K : PySem.W.Frag} {a : Addr} {H : Hp} {s n : Nat} {vs ws : List V} (h : Oks K a H s n vs) (h' : Oks K a H s n ws) : Oks K a H s n (vs ++ ws) := by
  obtain ⟨D, h1, h2⟩ := h
  obtain ⟨E, h3, h4⟩ := h'
  refine ⟨D ++ E, dps_app h1 h3, fun d hd => ?_⟩
  rcases List.mem_append.mp hd with z | z
  · exact h2 d z
  · exact h4 d z
theorem Oks.cut {K : PySem.W.Frag} {a : Addr} {H : Hp} {s n : Nat} {vs : List V} (lo hi : Option Int) (h : Oks K a H s n vs) : Oks K a H s n (cutV vs lo hi) := by
  obtain ⟨D, h1, h2⟩ := h
  exact ⟨(D.drop _).take _, dps_take _ (dps_drop _ h1), fun d hd => h2 d (List.mem_of_mem_drop (List.mem_of_mem_take hd))⟩
theorem Oks.one {K : PySem.W.Frag} {a : Addr} {H : Hp} {s n : Nat} {v : V} (h : Ok K a H s n v) : Oks K a H s n [v] := by
  obtain ⟨D, h1, h2⟩ := h
  refine ⟨[D], .cons h1 .nil, fun d hd => ?_⟩
  rw [List.mem_singleton.mp hd]
  exact h2
theorem Oks.get {K : PySem.W.Frag} {a : Addr} {H : Hp} {s n i : Nat} {v : V} {vs : List V} (h : Oks K a H s n vs) (e : vs[i]? = some v) : Ok K a H s n v := by
  obtain ⟨D, h1, h2⟩ := h
  obtain ⟨d, hd, h3⟩ := dp_all_get h1 e
  exact ⟨d, h3, h2 d (List.mem_of_getElem? hd)⟩
theorem Ok.tup {K : PySem.W.Frag} {a d p : Addr} {H : Hp} {s n : Nat} {vs : List V} (hh : Hnd H a d) (hT : SqT K H p vs) (h : Oks K a H s n vs) (hl : vs.length ≤ s) : Ok K a H s (n + 1) (.ref p) := by
  obtain ⟨D, h1, h2⟩ := h
  exact ⟨.tuple D, .tup (sqt_off hh hT) h1, by rw [← dp_all_len h1]; exact hl, h2⟩
theorem Ok.lst {K : PySem.W.Frag} {a p : Addr} {H : Hp} {s n : Nat} {vs : List V} (pa : p ≠ a) (hL : H p = some (.lst vs)) (h : Oks K a H s n vs) (hl : vs.length ≤ s) : Ok K a H s (n + 1) (.ref p) := by
  obtain ⟨D, h1, h2⟩ := h
  exact ⟨.list D, .lst (.inl (.inl (by rw [off_ne pa]; exact hL))) h1, by rw [← dp_all_len h1]; exact hl, h2⟩
theorem Ok.str {K : PySem.W.Frag} {a : Addr} {H : Hp} {s n : Nat} {x : Str} (h : okS s x) : Ok K a H s n (.str x) := ⟨.str x, .str x, gz_str.mpr h⟩
theorem Ok.int {K : PySem.W.Frag} {a : Addr} {H : Hp} {s n : Nat} {i : Int} (h : i.natAbs < 10 ^ s) : Ok K a H s n (.int i) := ⟨.int i, .int i, gz_int.mpr h⟩
theorem Ok.bl {K : PySem.W.Frag} {a : Addr} {H : Hp} {s n : Nat} {b : Bool} : Ok K a H s n (.bl b) := ⟨.bool b, .bl b, gz_bool⟩
theorem Ok.non {K : PySem.W.Frag} {a : Addr} {H : Hp} {s n : Nat} : Ok K a H s n .non := ⟨.none, .non, gz_none⟩
/-! ### signs -/
theorem strOk_iff {x : Str} : PySem.PyData.strOk x = true ↔ ∀ c ∈ x.cps.toList, c < 1114112 := by
  unfold PySem.PyData.strOk
  rw [← Array.all_toList, List.all_eq_true]
  constructor
  · intro h c hc
    exact of_decide_eq_true (h c hc)
  · intro h c hc
    exact decide_eq_true (h c hc)
theorem strOk_app {x y : Str} (hx : PySem.PyData.strOk x = true) (hy : PySem.PyData.strOk y = true) : PySem.PyData.strOk (x ++ y) = true := by
  rw [strOk_iff] at hx hy ⊢
  intro c hc
  have e : (x ++ y).cps.toList = x.cps.toList ++ y.cps.toList := by
    show (x.cps ++ y.cps).toList = _
    simp
  rw [e] at hc
  rcases List.mem_append.mp hc with z | z
  · exact hx c z
  · exact hy c z
theorem strOk_cut {x : Str} {lo hi : Option Int} (hx : PySem.PyData.strOk x = true) : PySem.PyData.strOk (cutS x lo hi) = true := by
  rw [strOk_iff] at hx ⊢
  intro c hc
  exact hx c (List.mem_of_mem_drop (List.mem_of_mem_take hc))
theorem str_app_len (x y : Str) : (x ++ y).length = x.length + y.length := by
  show (x.cps ++ y.cps).size = _
  rw [Array.size_append]
  rfl
theorem cutS_len {x : Str} {lo hi : Option Int} : (cutS x lo hi).length = min (HT.sIx x.length x.length hi - HT.sIx x.length 0 lo) (x.length - HT.sIx x.length 0 lo) := by
  show (List.toArray _).size = _
  rw [List.size_toArray, List.length_take, List.length_drop]
  rfl
theorem cutV_len {x : List V} {lo hi : Option Int} : (cutV x lo hi).length = min (HT.sIx x.length x.length hi - HT.sIx x.length 0 lo) (x.length - HT.sIx x.length 0 lo) := by
  unfold cutV
  rw [List.length_take, List.length_drop]
theorem okS_int {s : Nat} {i : Int} (h : i.natAbs < 10 ^ s) (hs : 0 < s) : okS (s + 1) (Str.ofString (toString i)) := by
  refine ⟨?_, ?_⟩
  · rw [strOk_iff, Str.ofString_eq_toList]
    intro c hc
    obtain ⟨k, _, e⟩ := List.mem_map.mp hc
    rw [← e]
    have := k.valid
    rcases this with h | ⟨_, h⟩
    · show k.val.toNat < _
      have h' : k.val.toNat < 55296 := h
      omega
    · exact h
  · rw [PySem.ofString_length]
    exact int_text_length_le10 hs h
theorem atI_mem {xs : List V} {i : Int} (h0 : 0 ≤ i) (h1 : i < (xs.length : Int)) : ∃ x, atI xs i = some x ∧ x ∈ xs := by
  obtain ⟨k, rfl⟩ : ∃ k : Nat, i = (k : Int) := ⟨i.toNat, by omega⟩
  have hk : k < xs.length := by omega
  exact ⟨xs[k], atI_nat (List.getElem?_eq_getElem hk), List.getElem_mem hk⟩
theorem okS_mono {s t : Nat} {x : Str} (h : okS s x) (e : s ≤ t) : okS t x := ⟨h.1, Nat.le_trans h.2 e⟩
theorem okS_app {s t : Nat} {x y : Str} (hx : okS s x) (hy : okS t y) : okS (s + t) (x ++ y) := ⟨strOk_app hx.1 hy.1, by
  rw [str_app_len]
  have h1 := hx.2
  have h2 := hy.2
  omega⟩
theorem sIx_n (n d k : Nat) : HT.sIx n d (some (k : Int)) = min k n := HT.sIx_nat n d k
theorem okS_pre {s k : Nat} {x : Str} (hx : okS s x) (hk : k ≤ x.length) : okS k (cutS x none (some (k : Int))) := ⟨strOk_cut hx.1, by
  rw [cutS_len, sIx_n, HT.sIx_none]
  omega⟩
theorem okS_suf {s k : Nat} {x : Str} (hx : okS s x) : okS (x.length - k) (cutS x (some (k : Int)) none) := ⟨strOk_cut hx.1, by
  rw [cutS_len, sIx_n, HT.sIx_none]
  omega⟩
theorem Oks.nil {K : PySem.W.Frag} {a : Addr} {H : Hp} {s n : Nat} : Oks K a H s n [] := ⟨[], .nil, fun d hd => nomatch hd⟩
theorem Oks.cons {K : PySem.W.Frag} {a : Addr} {H : Hp} {s n : Nat} {v : V} {vs : List V} (h : Ok K a H s n v) (h' : Oks K a H s n vs) : Oks K a H s n (v :: vs) := (Oks.one h).app h'
theorem Oks.rep {K : PySem.W.Frag} {a : Addr} {H : Hp} {s n : Nat} {v : V} (h : Ok K a H s n v) : ∀ k : Nat, Oks K a H s n (List.replicate k v)
  | 0 => .nil
  | k + 1 => by
    rw [List.replicate_succ]
    exact .cons h (Oks.rep h k)
theorem Ok.small {K : PySem.W.Frag} {a : Addr} {H : Hp} {s n : Nat} {i : Int} (h : i.natAbs < 100) (hs : 2 ≤ s) : Ok K a H s n (.int i) := .int (Nat.lt_of_lt_of_le (show i.natAbs < 10 ^ 2 from h) (Nat.pow_le_pow_right (by decide) hs))
theorem shl_one (n : Nat) : (1 : Int) * 2 ^ ((n : Nat) : Int).toNat = ((2 ^ n : Nat) : Int) := by
  rw [Int.one_mul, Int.toNat_natCast, Int.natCast_pow]
  rfl
theorem two_pow_le {n b : Nat} (h : n ≤ b) : 2 ^ n ≤ 2 ^ b := Nat.pow_le_pow_right (by decide) h
theorem at0 {v : V} {ws : List V} : atI (v :: ws) 0 = some v := atI_nat (j := 0) rfl
theorem all4 {P : PyData → Prop} {a b c d : PyData} (h1 : P a) (h2 : P b) (h3 : P c) (h4 : P d) : ∀ x ∈ [a, b, c, d], P x := by
  intro x hx
  rcases List.mem_cons.mp hx with e | hx
  · exact e ▸ h1
  rcases List.mem_cons.mp hx with e | hx
  · exact e ▸ h2
  rcases List.mem_cons.mp hx with e | hx
  · exact e ▸ h3
  rcases List.mem_cons.mp hx with e | hx
  · exact e ▸ h4
  exact nomatch hx
theorem off_upd {R : Addr} {H : Hp} {o : HO} (a : Addr) : off R (off a (upd H R o)) = off R (off a H) := by
  funext b
  unfold off
  by_cases h : b = R
  · rw [if_pos h, if_pos h]
  · rw [if_neg h, if_neg h]
    by_cases h' : b = a
    · rw [if_pos h', if_pos h']
    · rw [if_neg h', if_neg h', upd_ne h]
theorem off_mono {R : Addr} {H H' : Hp} (s : Same H H') : Same (off R H) (off R H') := fun b o e => by
  unfold off at e ⊢
  by_cases h : b = R
  · rw [if_pos h] at e
    cases e
  · rw [if_neg h] at e ⊢
    exact s b o e

theorem dp_sbs {K : PySem.W.Frag} {H : Hp} : ∀ {vs : List V} {rows : List (List Bool)}, DpAll K H vs (rows.map fun r => PyData.str (sb r)) → vs = rows.map fun r => V.str (sb r)
  | _, [], .nil => rfl
  | _, _ :: _, .cons (.str _) t => by rw [List.map_cons, dp_sbs t]
/-! ### generators, as the document tells them -/
structure Wf (n m : Nat) (rows : List (List Bool)) : Prop where
  n1 : 1 ≤ n
  n2 : n ≤ 10
  m1 : 1 ≤ m
  m2 : m ≤ 40
  len : rows.length = 2 ^ n
  row : ∀ r ∈ rows, r.length = m
theorem bitRow_sb {m : Nat} {r : List Bool} (h : r.length = m) : bitRow (m : Int) (.str (sb r)) = true := by
  show (decide (((sb r).length : Int) = (m : Int)) && (sb r).cps.toList.all _) = true
  rw [sb_len, h, decide_eq_true rfl, Bool.true_and, List.all_eq_true]
  intro c hc
  have e : (sb r).cps.toList = r.map cB := by
    show ((r.map cB).toArray).toList = _
    simp
  rw [e] at hc
  obtain ⟨b, _, rfl⟩ := List.mem_map.mp hc
  cases b <;> rfl
theorem sb_bitRow {m : Int} {d : PyData} (h : bitRow m d = true) : ∃ r : List Bool, d = .str (sb r) ∧ (r.length : Int) = m := by
  cases d with
  | str x =>
    have h' : (decide ((x.length : Int) = m) && x.cps.toList.all (fun c => c == 48 || c == 49)) = true := h
    obtain ⟨h1, h2⟩ := Bool.and_eq_true_iff.mp h'
    have key : ∀ l : List Nat, l.all (fun c => c == 48 || c == 49) = true → ∃ r : List Bool, l = r.map cB := by
      intro l
      induction l with
      | nil => exact fun _ => ⟨[], rfl⟩
      | cons c l ih =>
        intro hl
        rw [List.all_cons, Bool.and_eq_true] at hl
        obtain ⟨r, e⟩ := ih hl.2
        rcases Bool.or_eq_true_iff.mp hl.1 with z | z
        · exact ⟨false :: r, by rw [e, beq_iff_eq.mp z]; rfl⟩
        · exact ⟨true :: r, by rw [e, beq_iff_eq.mp z]; rfl⟩
    obtain ⟨r, e⟩ := key _ h2
    have ex : x = sb r := TL.ext_tl (by
      show x.cps.toList = ((r.map cB).toArray).toList
      rw [e])
    refine ⟨r, by rw [ex], ?_⟩
    have := of_decide_eq_true h1
    rw [ex, sb_len] at this
    exact this
  | _ => cases h
theorem rows_ok {many m : Nat} {rows : List (List Bool)} (h1 : rows.length = many) (h2 : ∀ r ∈ rows, r.length = m) : rowsOk (rowsD rows) (many : Int) (m : Int) = true := by
  show (decide (((rows.map fun r => PyData.str (sb r)).length : Int) = (many : Int)) && (rows.map fun r => PyData.str (sb r)).all (bitRow (m : Int))) = true
  rw [List.length_map, h1, decide_eq_true rfl, Bool.true_and, List.all_eq_true]
  intro x hx
  obtain ⟨r, hr, rfl⟩ := List.mem_map.mp hx
  exact bitRow_sb (h2 r hr)
theorem ok_rowsD {many m : Int} {d : PyData} (h : rowsOk d many m = true) : ∃ rows : List (List Bool), d = rowsD rows ∧ (rows.length : Int) = many ∧ ∀ r ∈ rows, (r.length : Int) = m := by
  cases d with
  | tuple xs =>
    have h' : (decide ((xs.length : Int) = many) && xs.all (bitRow m)) = true := h
    obtain ⟨h1, h2⟩ := Bool.and_eq_true_iff.mp h'
    have key : ∀ l : List PyData, l.all (bitRow m) = true → ∃ rows : List (List Bool), l = rows.map (fun r => .str (sb r)) ∧ ∀ r ∈ rows, (r.length : Int) = m := by
      intro l
      induction l with
      | nil => exact fun _ => ⟨[], rfl, fun r hr => nomatch hr⟩
      | cons c l ih =>
        intro hl
        rw [List.all_cons, Bool.and_eq_true] at hl
        obtain ⟨rows, e, hr⟩ := ih hl.2
        obtain ⟨r, er, hl'⟩ := sb_bitRow hl.1
        refine ⟨r :: rows, by rw [e, er]; rfl, fun x hx => ?_⟩
        rcases List.mem_cons.mp hx with z | z
        · rw [z]
          exact hl'
        · exact hr x z
    obtain ⟨rows, e, hr⟩ := key _ h2
    refine ⟨rows, by rw [e]; rfl, ?_, hr⟩
    have := of_decide_eq_true h1
    rw [e, List.length_map] at this
    exact this
  | _ => cases h
theorem wf_gen {n m : Nat} {rows : List (List Bool)} (h : Wf n m rows) : genOk (tabD n m rows) = true := by
  have e1 : whole (.int (n : Int)) 1 10 = true := by
    show (decide _ && decide _) = true
    rw [decide_eq_true (show (1 : Int) ≤ (n : Int) by have := h.n1; omega), decide_eq_true (show (n : Int) ≤ 10 by have := h.n2; omega)]
    rfl
  have e2 : whole (.int (m : Int)) 1 40 = true := by
    show (decide _ && decide _) = true
    rw [decide_eq_true (show (1 : Int) ≤ (m : Int) by have := h.m1; omega), decide_eq_true (show (m : Int) ≤ 40 by have := h.m2; omega)]
    rfl
  have e3 : genRows (.int (n : Int)) (.int (m : Int)) (rowsD rows) = true := by
    show rowsOk (rowsD rows) (1 * 2 ^ (n : Int).toNat) (m : Int) = true
    rw [shl_one]
    exact rows_ok h.len h.row
  show genOk (.tuple [.str "generator", .int (n : Int), .int (m : Int), rowsD rows]) = true
  rw [gen_eq, e1, e2, e3]
  decide +kernel
theorem named_iff {x : Str} {d : PyData} (h : named x d = true) : d = .str x := by
  cases d with
  | str y =>
    have h' : (y == x) = true := h
    rw [beq_iff_eq.mp h']
  | _ => cases h
theorem gen_wf {d : PyData} (h : genOk d = true) : ∃ (n m : Nat) (rows : List (List Bool)), d = tabD n m rows ∧ Wf n m rows := by
  unfold genOk at h
  split at h
  · rename_i k n m r
    obtain ⟨g3, h4⟩ := Bool.and_eq_true_iff.mp h
    obtain ⟨g2, h3⟩ := Bool.and_eq_true_iff.mp g3
    obtain ⟨h1, h2⟩ := Bool.and_eq_true_iff.mp g2
    obtain ⟨n, rfl, n1, n2⟩ := whole_int h2
    obtain ⟨m, rfl, m1, m2⟩ := whole_int h3
    obtain ⟨n, rfl⟩ : ∃ k : Nat, n = (k : Int) := ⟨n.toNat, by omega⟩
    obtain ⟨m, rfl⟩ : ∃ k : Nat, m = (k : Int) := ⟨m.toNat, by omega⟩
    have h4' : rowsOk r (1 * 2 ^ (n : Int).toNat) (m : Int) = true := h4
    rw [shl_one] at h4'
    obtain ⟨rows, rfl, hl, hr⟩ := ok_rowsD h4'
    refine ⟨n, m, rows, by rw [named_iff h1]; rfl, by omega, by omega, by omega, by omega, by omega, fun r hr' => by have := hr r hr'; omega⟩
  · cases h
theorem fun_no_gen {d : PyData} (h : funOk d = true) : genOk d = false ∧ ∃ ds, d = .tuple (.str "function" :: ds) := by
  unfold funOk at h
  split at h
  · rename_i k n l m t
    have h1 : named "function" k = true := by
      obtain ⟨h, _⟩ := Bool.and_eq_true_iff.mp h
      obtain ⟨h, _⟩ := Bool.and_eq_true_iff.mp h
      obtain ⟨h, _⟩ := Bool.and_eq_true_iff.mp h
      obtain ⟨h, _⟩ := Bool.and_eq_true_iff.mp h
      exact (Bool.and_eq_true_iff.mp h).1
    have e := named_iff h1
    subst e
    exact ⟨gen_no (by show ¬ 5 = 4; decide), _, rfl⟩
  · cases h
theorem wf_block {n m : Nat} {rows : List (List Bool)} (h : Wf n m rows) : blockOk (tabD n m rows) = true := by
  unfold blockOk
  rw [wf_gen h]
  rfl
/-- data of tuples, texts and numbers alone -/
def Pl : Nat → PyData → Prop
  | 0, d => match d with
    | .int _ => True
    | .str x => okT x
    | _ => False
  | n + 1, d => match d with
    | .int _ => True
    | .str x => okT x
    | .tuple xs => xs.length ≤ 5000 ∧ ∀ x ∈ xs, Pl n x
    | _ => False
theorem pl_str {n : Nat} {x : Str} : Pl n (.str x) ↔ okT x := by cases n <;> exact Iff.rfl
theorem pl_int {n : Nat} {i : Int} : Pl n (.int i) := by cases n <;> trivial
theorem pl_tup {n : Nat} {xs : List PyData} (h : Pl n (.tuple xs)) : xs.length ≤ 5000 ∧ ∃ m, n = m + 1 ∧ ∀ x ∈ xs, Pl m x := by
  cases n with
  | zero => exact h.elim
  | succ n => exact ⟨h.1, n, rfl, h.2⟩
theorem pl_gd : ∀ {n : Nat} {d : PyData}, Pl n d → Gd n d
  | 0, .int _, _ => trivial
  | 0, .str _, h => h
  | n + 1, .int _, _ => trivial
  | n + 1, .str _, h => h
  | n + 1, .tuple xs, h => ⟨h.1, fun x hx => pl_gd (h.2 x hx)⟩
theorem dp_offs {K : PySem.W.Frag} {a d : Addr} {H : Hp} (hh : Hnd H a d) : ∀ {n : Nat} {D : PyData} {v : V}, Pl n D → Dp K H v D → Dp K (off a H) v D
  | 0, .int _, _, _, .int i => .int i
  | 0, .str _, _, _, .str x => .str x
  | n + 1, .int _, _, _, .int i => .int i
  | n + 1, .str _, _, _, .str x => .str x
  | n + 1, .tuple xs, _, h, .tup hT hA => .tup (sqt_off hh hT) (go h.2 hA)
where go {n : Nat} : ∀ {xs : List PyData} {vs : List V}, (∀ x ∈ xs, Pl n x) → DpAll K H vs xs → DpAll K (off a H) vs xs
  | [], _, _, .nil => .nil
  | x :: xs, _, h, .cons hv t => .cons (dp_offs hh (h x List.mem_cons_self) hv) (go (fun y hy => h y (List.mem_cons_of_mem _ hy)) t)
theorem okT_sb {r : List Bool} (h : r.length ≤ 5000) : okT (sb r) := by
  refine ⟨?_, by rw [sb_len]; exact h⟩
  unfold PySem.PyData.strOk
  rw [← Array.all_toList, List.all_eq_true]
  intro c hc
  have e : (sb r).cps.toList = r.map cB := by
    show ((r.map cB).toArray).toList = _
    simp
  rw [e] at hc
  obtain ⟨b, _, rfl⟩ := List.mem_map.mp hc
  cases b <;> decide
theorem pl_tab {n m : Nat} {rows : List (List Bool)} (h1 : rows.length ≤ 5000) (h2 : ∀ r ∈ rows, r.length ≤ 5000) : Pl 2 (tabD n m rows) := by
  refine ⟨by show 4 ≤ 5000; decide, fun x hx => ?_⟩
  rcases List.mem_cons.mp hx with e | hx
  · rw [e]
    exact pl_str.mpr ⟨by decide +kernel, by decide +kernel⟩
  rcases List.mem_cons.mp hx with e | hx
  · rw [e]
    exact pl_int
  rcases List.mem_cons.mp hx with e | hx
  · rw [e]
    exact pl_int
  rcases List.mem_cons.mp hx with e | hx
  · rw [e]
    refine ⟨by rw [List.length_map]; exact h1, fun y hy => ?_⟩
    obtain ⟨r, hr, rfl⟩ := List.mem_map.mp hy
    exact pl_str.mpr (okT_sb (h2 r hr))
  exact nomatch hx
theorem Wf.pl {n m : Nat} {rows : List (List Bool)} (h : Wf n m rows) : Pl 2 (tabD n m rows) := by
  have h2 := two_pow_le (b := 10) h.n2
  have h1 := h.len
  exact pl_tab (by omega) fun r hr => by
    have := h.row r hr
    have := h.m2
    omega
/-- where a generator stands -/
theorem dp_tab {K : PySem.W.Frag} {H : Hp} {v : V} {n m : Nat} {rows : List (List Bool)} (h : Dp K H v (tabD n m rows)) : ∃ a r, v = .ref a ∧ SqT K H a [.str "generator", .int (n : Int), .int (m : Int), .ref r] ∧ SqT K H r (rows.map fun r => V.str (sb r)) := by
  cases h with
  | @tup a ws _ hT hA =>
    cases hA with
    | cons h0 hA =>
      cases hA with
      | cons h1 hA =>
        cases hA with
        | cons h2 hA =>
          cases hA with
          | cons h3 hA =>
            cases hA
            cases h0
            cases h1
            cases h2
            cases h3 with
            | @tup r us _ hR hU => exact ⟨a, r, rfl, hT, by rw [← dp_sbs hU]; exact hR⟩
theorem tab_dp {K : PySem.W.Frag} {H : Hp} {a r : Addr} {n m : Nat} {rows : List (List Bool)} (h1 : SqT K H a [.str "generator", .int (n : Int), .int (m : Int), .ref r]) (h2 : SqT K H r (rows.map fun r => V.str (sb r))) : Dp K H (.ref a) (tabD n m rows) :=
  .tup h1 (.cons (.str _) (.cons (.int _) (.cons (.int _) (.cons (.tup h2 (dp_bits rows)) .nil))))

/-! ### larger blocks -/
def rowV (rows : List (List Bool)) : List V := rows.map fun r => V.str (sb r)
def spAll (K : PySem.W.Frag) : Sp := fun vs H Q _ => ∃ n : Nat, vs = [.int (n : Int)] ∧ n ≤ 12 ∧ ∀ p H', H p = none → Same H H' → H' p = some (.lst (rowV ((List.range (2 ^ n)).map fun i => toB n i))) → Q (.ref p) H'
def spParts (K : PySem.W.Frag) (CB CS : Addr) : Sp := fun vs H Q E => ∃ (v : V) (D : PyData) (k : Nat), vs = [v] ∧ Dp K H v D ∧ Gd k D ∧ k ≤ 64 ∧
  ((blockOk D = false ∧ ∀ H', Same H H' → E (.ref CB) none H') ∨ (funOk D = true ∧ ∀ H', Same H H' → E (.ref CS) none H') ∨
    (∃ n m rows, D = tabD n m rows ∧ Wf n m rows ∧ ∀ p r H', Same H H' → SqT K H' p [.int (n : Int), .int (m : Int), .ref r] → SqT K H' r (rowV rows) → Q (.ref p) H'))
/-- signs from a state, so many, then the state -/
def putOut (rows : List (List Bool)) : Nat → List Bool → List Bool
  | 0, s => s
  | k + 1, s => (rows.getD (val s) []).drop ((rows.getD (val s) []).length - 1) ++ putOut rows k (rows.getD (val s) []).dropLast
def longR (n : Nat) (rows : List (List Bool)) (k : Nat) : List (List Bool) := (List.range (2 ^ n)).map fun i => putOut rows k (toB n i)
def spPut (K : PySem.W.Frag) : Sp := fun vs H Q _ => ∃ (r : Addr) (n k : Nat) (rows : List (List Bool)) (s : List Bool), vs = [.ref r, .str (sb s), .int (k : Int)] ∧ SqT K H r (rowV rows) ∧ Wf n (n + 1) rows ∧ s.length = n ∧ k ≤ 20 ∧ Q (.str (sb (putOut rows k s))) H
def LongBad (D : PyData) (k : Int) : Prop := funOk D = true ∨ ∃ n m rows, D = tabD n m rows ∧ Wf n m rows ∧ (m ≠ n + 1 ∨ whole (.int k) 1 20 = false)
def spLong (K : PySem.W.Frag) (CB CS : Addr) : Sp := fun vs H Q E => ∃ (v : V) (D : PyData) (d : Nat) (k : Int), vs = [v, .int k] ∧ Dp K H v D ∧ Gd d D ∧ d ≤ 64 ∧
  ((blockOk D = false ∧ ∀ H', Same H H' → E (.ref CB) none H') ∨ (LongBad D k ∧ ∀ H', Same H H' → E (.ref CS) none H') ∨
    (∃ (n j : Nat) (rows : List (List Bool)), D = tabD n (n + 1) rows ∧ k = (j : Int) ∧ Wf n (n + 1) rows ∧ 1 ≤ j ∧ j ≤ 20 ∧ ∀ v' H', Same H H' → Dp K H' v' (tabD n (n + j) (longR n rows j)) → Q v' H'))
def CutBad (D : PyData) (b : Int) : Prop := funOk D = true ∨ ∃ n m rows, D = tabD n m rows ∧ Wf n m rows ∧ whole (.int b) 1 (m : Int) = false
def spCut (K : PySem.W.Frag) (CB CS : Addr) : Sp := fun vs H Q E => ∃ (v : V) (D : PyData) (d : Nat) (b : Int), vs = [v, .int b] ∧ Dp K H v D ∧ Gd d D ∧ d ≤ 64 ∧
  ((blockOk D = false ∧ ∀ H', Same H H' → E (.ref CB) none H') ∨ (CutBad D b ∧ ∀ H', Same H H' → E (.ref CS) none H') ∨
    (∃ (n m j : Nat) (rows : List (List Bool)), D = tabD n m rows ∧ b = (j : Int) ∧ Wf n m rows ∧ 1 ≤ j ∧ j ≤ m ∧ ∀ v' H', Same H H' → Dp K H' v' (tabD n j (rows.map fun r => r.take j)) → Q v' H'))
def spSame (K : PySem.W.Frag) (j : Nat) : Sp := fun vs H Q _ => ∃ (v w : V) (d : PyData), vs = [v, w] ∧ Dp K H v d ∧ Dp K H w d ∧ Pl j d ∧ Q (.bl true) H
def spSameB (K : PySem.W.Frag) (j : Nat) : Sp := fun vs H Q E => 1 ≤ j ∧ spSame K (j - 1) vs H Q E
def spLawLong (K : PySem.W.Frag) : Sp := fun vs H Q _ => ∃ (v : V) (n j : Nat) (rows : List (List Bool)), vs = [v, .int (j : Int)] ∧ Dp K H v (tabD n (n + 1) rows) ∧ Wf n (n + 1) rows ∧ 1 ≤ j ∧ j ≤ 20 ∧ ∀ v' H', Same H H' → Dp K H' v' (tabD n (n + j) (longR n rows j)) → Q v' H'
theorem put_len {n : Nat} {rows : List (List Bool)} (h : Wf n (n + 1) rows) : ∀ (k : Nat) (s : List Bool), s.length = n → (putOut rows k s).length = n + k
  | 0, s, hs => hs
  | k + 1, s, hs => by
    have h1 := val_lt s
    rw [hs, ← h.len] at h1
    have hr : (rows.getD (val s) []).length = n + 1 := by
      rw [List.getD_eq_getElem?_getD, List.getElem?_eq_getElem h1]
      exact h.row _ (List.getElem_mem h1)
    show ((rows.getD (val s) []).drop ((rows.getD (val s) []).length - 1) ++ putOut rows k (rows.getD (val s) []).dropLast).length = _
    rw [List.length_append, put_len h k _ (by rw [List.length_dropLast, hr]; rfl), List.length_drop, hr]
    omega
theorem Wf.long {n j : Nat} {rows : List (List Bool)} (h : Wf n (n + 1) rows) (h2 : n + j ≤ 40) : Wf n (n + j) (longR n rows j) where
  n1 := h.n1
  n2 := h.n2
  m1 := by have := h.n1; omega
  m2 := h2
  len := by
    unfold longR
    rw [List.length_map, List.length_range]
  row := fun r hr => by
    unfold longR at hr
    obtain ⟨i, _, rfl⟩ := List.mem_map.mp hr
    exact put_len h j _ (toB_len _ _)
theorem Wf.cut {n m j : Nat} {rows : List (List Bool)} (h : Wf n m rows) (h1 : 1 ≤ j) (h2 : j ≤ m) : Wf n j (rows.map fun r => r.take j) where
  n1 := h.n1
  n2 := h.n2
  m1 := h1
  m2 := Nat.le_trans h2 h.m2
  len := by
    rw [List.length_map]
    exact h.len
  row := fun r hr => by
    obtain ⟨x, hx, rfl⟩ := List.mem_map.mp hr
    rw [List.length_take, h.row x hx]
    omega
def spSpoilt (K : PySem.W.Frag) : Sp := fun vs H Q _ => ∃ (a d : Addr) (v : V) (n m : Nat) (rows : List (List Bool)), vs = [.ref a, v] ∧ Hnd H a d ∧ Dp K H v (tabD n m rows) ∧ Wf n m rows ∧
  ∀ v' D' H', Dp K H' v' D' → Pl 2 D' → blockOk D' = false → Hnd H' a d → Keep a H H' → Q v' H'
theorem dp_txts {K : PySem.W.Frag} {H : Hp} : ∀ ys : List Str, DpAll K H (ys.map V.str) (ys.map PyData.str)
  | [] => .nil
  | y :: ys => .cons (.str y) (dp_txts ys)
theorem rowV_txts (rows : List (List Bool)) : rowV rows = (rows.map sb).map V.str := by
  unfold rowV
  rw [List.map_map]
  rfl
theorem spoilt_bad {n m i : Nat} {ys : List Str} {y : Str} (hi : ys[i]? = some y) (hy : bitRow (m : Int) (.str y) = false) : blockOk (.tuple [.str "generator", .int (n : Int), .int (m : Int), .tuple (ys.map PyData.str)]) = false := by
  have e1 : (ys.map PyData.str).all (bitRow (m : Int)) = false := by
    rw [Bool.eq_false_iff]
    intro z
    rw [List.all_eq_true] at z
    have := z (.str y) (List.mem_map.mpr ⟨y, List.mem_of_getElem? hi, rfl⟩)
    rw [hy] at this
    cases this
  have e2 : genRows (.int (n : Int)) (.int (m : Int)) (.tuple (ys.map PyData.str)) = false := by
    show (decide _ && _) = false
    rw [e1, Bool.and_false]
  unfold blockOk
  rw [gen_eq, e2, Bool.and_false, Bool.false_or]
  exact fun_no (by show ¬ 4 = 5; decide)
theorem spoilt_row {r : List Bool} {m p : Nat} (hr : r.length = m) (hp : p < m) {c : Str} (hc : c = "2" ∨ c = "" ∨ c = "01") : bitRow (m : Int) (.str (sb (r.take p) ++ c ++ sb (r.drop (p + 1)))) = false := by
  show (decide (((sb (r.take p) ++ c ++ sb (r.drop (p + 1))).length : Int) = (m : Int)) && (sb (r.take p) ++ c ++ sb (r.drop (p + 1))).cps.toList.all (fun c => c == 48 || c == 49)) = false
  have l1 : (sb (r.take p) ++ c ++ sb (r.drop (p + 1))).length = p + c.length + (m - (p + 1)) := by
    rw [str_app_len, str_app_len, sb_len, sb_len, List.length_take, List.length_drop, hr]
    omega
  rcases hc with e | e | e
  · have e2 : (sb (r.take p) ++ c ++ sb (r.drop (p + 1))).cps.toList.all (fun c => c == 48 || c == 49) = false := by
      have e3 : (sb (r.take p) ++ c ++ sb (r.drop (p + 1))).cps.toList = (sb (r.take p)).cps.toList ++ c.cps.toList ++ (sb (r.drop (p + 1))).cps.toList := by
        show (((sb (r.take p)).cps ++ c.cps) ++ (sb (r.drop (p + 1))).cps).toList = _
        simp
      rw [e3, List.all_append, List.all_append, e]
      have e4 : ("2" : Str).cps.toList.all (fun c => c == 48 || c == 49) = false := by decide +kernel
      rw [e4, Bool.and_false, Bool.false_and]
    rw [e2, Bool.and_false]
  · have lc : c.length = 0 := by rw [e]; decide +kernel
    rw [l1, lc, decide_eq_false (by omega), Bool.false_and]
  · have lc : c.length = 2 := by rw [e]; decide +kernel
    rw [l1, lc, decide_eq_false (by omega), Bool.false_and]
def LongFits (D : PyData) (k : Int) : Prop := ∃ (n j : Nat) (rows : List (List Bool)), D = tabD n (n + 1) rows ∧ k = (j : Int) ∧ Wf n (n + 1) rows ∧ 1 ≤ j ∧ j ≤ 20
def CutFits (D : PyData) (b : Int) : Prop := ∃ (n m j : Nat) (rows : List (List Bool)), D = tabD n m rows ∧ b = (j : Int) ∧ Wf n m rows ∧ 1 ≤ j ∧ j ≤ m
def spTold3 (K : PySem.W.Frag) : Sp := fun vs H Q _ => ∃ (v : V) (D : PyData) (d : Nat) (which k : Int), vs = [.int which, v, .int k] ∧ (which = 0 ∨ which = 1) ∧ Dp K H v D ∧ Gd d D ∧ d ≤ 64 ∧
  ((blockOk D = false ∧ ∀ H', Same H H' → Q (.str "block") H') ∨ ((which = 0 ∧ LongBad D k ∨ which = 1 ∧ CutBad D k) ∧ ∀ H', Same H H' → Q (.str "scheme") H') ∨
    ((which = 0 ∧ LongFits D k ∨ which = 1 ∧ CutFits D k) ∧ ∀ H', Same H H' → Q (.str "fine") H'))
theorem fun_ok {n l m : Nat} {tabs : List (List (List Bool))} (hn : 1 ≤ n ∧ n ≤ 8) (hl : 1 ≤ l ∧ l ≤ 8) (hnl : n + l ≤ 12) (hm : 1 ≤ m ∧ m ≤ 40) (h1 : tabs.length = 2 ^ n) (h2 : ∀ rows ∈ tabs, rows.length = 2 ^ l ∧ ∀ r ∈ rows, r.length = m) : funOk (funD n l m tabs) = true := by
  have w : ∀ {i k : Nat}, 1 ≤ i → i ≤ k → whole (.int (i : Int)) 1 (k : Int) = true := fun {i k} h1 h2 => by
    show (decide _ && decide _) = true
    rw [decide_eq_true (show (1 : Int) ≤ (i : Int) by omega), decide_eq_true (show (i : Int) ≤ (k : Int) by omega)]
    rfl
  have e1 : whole (.int (n : Int)) 1 8 = true := w hn.1 hn.2
  have e2 : whole (.int (l : Int)) 1 8 = true := w hl.1 hl.2
  have e3 : whole (.int (m : Int)) 1 40 = true := w hm.1 hm.2
  have e4 : sumLe (.int (n : Int)) (.int (l : Int)) = true := decide_eq_true (show (n : Int) + (l : Int) ≤ 12 by omega)
  have e5 : funTabs (.int (n : Int)) (.int (l : Int)) (.int (m : Int)) (.tuple (tabs.map rowsD)) = true := by
    show (decide (((tabs.map rowsD).length : Int) = 1 * 2 ^ (n : Int).toNat) && (tabs.map rowsD).all (fun r => rowsOk r (1 * 2 ^ (l : Int).toNat) (m : Int))) = true
    rw [shl_one, shl_one, List.length_map, h1, decide_eq_true rfl, Bool.true_and, List.all_eq_true]
    intro x hx
    obtain ⟨rows, hr, rfl⟩ := List.mem_map.mp hx
    exact rows_ok (h2 rows hr).1 (h2 rows hr).2
  show funOk (.tuple [.str "function", .int (n : Int), .int (l : Int), .int (m : Int), .tuple (tabs.map rowsD)]) = true
  rw [fun_eq, e1, e2, e3, e4, e5]
  decide +kernel
theorem pl_fun {n l m : Nat} {tabs : List (List (List Bool))} (h1 : tabs.length ≤ 5000) (h2 : ∀ rows ∈ tabs, rows.length ≤ 5000 ∧ ∀ r ∈ rows, r.length ≤ 5000) : Pl 3 (funD n l m tabs) := by
  refine ⟨by show 5 ≤ 5000; decide, fun x hx => ?_⟩
  rcases List.mem_cons.mp hx with e | hx
  · rw [e]
    exact pl_str.mpr ⟨by decide +kernel, by decide +kernel⟩
  refine all4 pl_int pl_int pl_int ?_ x hx
  refine ⟨by rw [List.length_map]; exact h1, fun y hy => ?_⟩
  obtain ⟨rows, hrow, rfl⟩ := List.mem_map.mp hy
  refine ⟨by rw [List.length_map]; exact (h2 rows hrow).1, fun z hz => ?_⟩
  obtain ⟨r, hr, rfl⟩ := List.mem_map.mp hz
  exact pl_str.mpr (okT_sb ((h2 rows hrow).2 r hr))
theorem short_bad : blockOk (.tuple [.str "generator", .int 1, .int 2, .tuple [.str "00"]]) = false := by decide +kernel
theorem whole_no {x lo hi : Int} (h : x < lo ∨ hi < x) : whole (.int x) lo hi = false := by
  show (decide (lo ≤ x) && decide (x ≤ hi)) = false
  rcases h with h | h
  · rw [decide_eq_false (show ¬ lo ≤ x by omega), Bool.false_and]
  · rw [decide_eq_false (show ¬ x ≤ hi by omega), Bool.and_false]

theorem getD_row {rows : List (List Bool)} {i : Nat} (h : i < rows.length) : (rowV rows)[i]? = some (.str (sb (rows.getD i []))) := by
  unfold rowV
  rw [List.getElem?_map, List.getElem?_eq_getElem h, List.getD_eq_getElem?_getD, List.getElem?_eq_getElem h]
  rfl
theorem Wf.at {n m : Nat} {rows : List (List Bool)} (h : Wf n m rows) {s : List Bool} (hs : s.length = n) : val s < rows.length ∧ (rows.getD (val s) []).length = m := by
  have h1 := val_lt s
  rw [hs, ← h.len] at h1
  refine ⟨h1, ?_⟩
  rw [List.getD_eq_getElem?_getD, List.getElem?_eq_getElem h1]
  exact h.row _ (List.getElem_mem h1)
theorem sb_cps (l : List Bool) : (sb l).cps.toList = l.map cB := by
  show ((l.map cB).toArray).toList = _
  simp
theorem last_bit {row : List Bool} {n : Nat} (h : row.length = n + 1) : ∃ b, row.drop n = [b] ∧ atI (sb row).cps.toList (-1) = some (cB b) := by
  have hn : n < row.length := by omega
  refine ⟨row[n], ?_, ?_⟩
  · rw [List.drop_eq_getElem_cons hn, List.drop_of_length_le (by omega)]
  · rw [sb_cps]
    unfold atI ixN
    rw [List.length_map, if_neg (by decide), if_pos (by omega)]
    show (row.map cB)[((-1 : Int) + (row.length : Int)).toNat]? = _
    rw [show ((-1 : Int) + (row.length : Int)).toNat = n by omega, List.getElem?_map, List.getElem?_eq_getElem hn]
    rfl
theorem cut_last {l : List Bool} : cutS (sb l) none (some (-1)) = sb l.dropLast := by
  unfold cutS
  rw [sb_drop_take]
  have e0 : HT.sIx (sb l).length 0 none = 0 := rfl
  rw [e0, List.drop_zero, Nat.sub_zero]
  have e : HT.sIx (sb l).length (sb l).length (some (-1)) = l.length - 1 := by
    rw [sb_len]
    show (if (-1 : Int) < 0 then ((-1 : Int) + (l.length : Int)).toNat else min (-1 : Int).toNat l.length) = _
    rw [if_pos (by decide)]
    omega
  rw [show HT.sIx (sb l).length (sb l).length (some (-1)) = l.length - 1 from e, List.dropLast_eq_take]

theorem str_bit (k : Nat) : Str.ofString (toString ((k : Int) % 2)) = sb [k % 2 == 1] := by
  have h : ((k : Int) % 2) = ((k % 2 : Nat) : Int) := by omega
  rw [h]
  rcases Nat.mod_two_eq_zero_or_one k with z | z <;> rw [z] <;> decide +kernel

/-! ### (z,) * k, k from 1 on -/
def rRep1 (K : PySem.W.Frag) : R2 := fun x y H Q => ∃ (l : Addr) (k : Int) (z : V), x = .ref l ∧ y = .int k ∧ SqT K H l [z] ∧ 1 ≤ k ∧ k ≤ 5000 ∧ ∀ p H', Same H H' → SqT K H' p (List.replicate k.toNat z) → Q (.ref p) H'
theorem tuple_once (l : Addr) (z : Value) (n : Nat) (dd : Option Addr) (sl : Array (Option Value)) (u : Tok) :
    Meets (Builtin.«tuple.__mul__» ⟨[.ref l, .int 1 u], []⟩) (fun _ R s => s.heap.get? l = some { cls := .type "tuple", dict := dd, data := .seq #[z] n, slots := sl } ∧ R (.ok (.ret (.ref l))) s) :=
  .of_wp fun prog w A R s h => by
    obtain ⟨hp, g, d, tk, os⟩ := s
    obtain ⟨hl, h⟩ := h
    have idx := AutoSeq1.idx_int
    wp_walk using wpAny_loadPart' hl
    exact ⟨_, rfl, h⟩
section
variable {X : Cx}
theorem op_rep1 (K : PySem.W.Frag) (hK : X.K = K := by rfl) : OpR X (binaryOp .Mult) (rRep1 K) := by
  subst hK
  intro pins s σ H x y v u Q I rx ry h
  obtain ⟨l, k, z, rfl, rfl, hT, h1, h2, q⟩ := h
  cases rx
  obtain ⟨t, rfl⟩ := ry
  obtain ⟨its, rz, ⟨⟨cls, dd, data, sl⟩, ho, hc, n, hd⟩, hs⟩ := I.tuple hT
  dsimp only at hc hd
  subst hc hd
  match its, rz with
  | [w], .cons rw' .nil =>
    -- what the slot of the tuple must do
    have road : ∀ {Q' : Value → Shared → Prop}, wpAny (model X.prog X.w) X.A (call (.builtin "tuple.__mul__") [.ref l, .int k t]) Q' X.xe s →
        wpAny (model X.prog X.w) X.A (binaryOp .Mult (.ref l) (.int k t)) Q' X.xe s := fun {Q'} c =>
      wpAny_binaryOp_repeat_ref (U := "int") (T := "tuple") (by decide)
        ⟨_, ho, rfl⟩ (fun s' => typeIs_int s' k t)
        noFill_tuple_mul F.fills_int_mul
        F.slot_int_rmul repeat_tuple
        F.slot_int_index.lookup
        (call_meets F.slot_int_rmul (typeIs_int s k t)
          F.entry_int_rmul (F.args_int_rmul_2 _ _)
          (int_rmul_tuple k t l _ n dd sl)
          ⟨ho, rfl, ⟨_, ho, rfl⟩, c⟩)
    refine road ?_
    by_cases one : k = 1
    · subst one
      refine call_meets F.slot_tuple_mul ⟨_, ho, rfl⟩
        F.entry_tuple_mul (F.args_tuple_mul_2 _ _)
        (tuple_once l w n dd sl t) ⟨ho, ?_⟩
      exact ⟨.ref l, H, I, rfl, q l H (Same.refl H) hT⟩
    · have a0 : (decide (k < -(2 ^ 63)) || decide (k ≥ 2 ^ 63)) = false := by
        rw [decide_eq_false (show ¬ k < -(2 ^ 63) by omega), Bool.false_or]
        exact decide_eq_false (by omega)
      have a1 : ((#[w] : Array Value).isEmpty || k == 1) = false := beq_eq_false_iff_ne.mpr one
      have a2 : (decide (k ≤ 0) || (#[w] : Array Value).isEmpty) = false := by
        rw [decide_eq_false (show ¬ k ≤ 0 by omega)]
        rfl
      have sz : (((#[w] : Array Value).size : Nat) : Int) = 1 := rfl
      have a4 : Builtin.Tuple.tupleTooMany ((((#[w] : Array Value).size : Nat) : Int) * k) = false := by
        rw [sz, Int.one_mul]
        unfold Builtin.Tuple.tupleTooMany
        exact decide_eq_false (by rw [sizeLine_eq]; omega)
      have len : (List.replicate k.toNat [w]).flatten.length = k.toNat := by
        rw [PyProof.Rows.lm_len_rep_flat]
        exact Nat.mul_one _
      refine call_meets F.slot_tuple_mul ⟨_, ho, rfl⟩
        F.entry_tuple_mul (F.args_tuple_mul_2 _ _)
        (tuple_mulW l #[w] n dd sl k t a0 a1 a2 (by rw [sz]; omega) a4 (by rw [show (#[w] : Array Value) = [w].toArray from rfl, size_rep, List.size_toArray, len, sizeLine_eq]; omega)) ⟨ho, ?_⟩
      rw [show (#[w] : Array Value) = [w].toArray from rfl, size_rep]
      have np := I.hok.fresh (Nat.le_refl s.heap.objs.size)
      have e1 : (List.replicate k.toNat [z]).flatten = List.replicate k.toNat z := by
        generalize k.toNat = j
        induction j with
        | zero => rfl
        | succ j ih => rw [List.replicate_succ, List.flatten_cons, ih, List.replicate_succ]; rfl
      refine ⟨.ref s.heap.objs.size, _, I.laid (t' := s.toks) (o := .tup (List.replicate k.toNat [z]).flatten) (fun _ _ g => Heap.get?_push_of_some _ g) (Nat.le_refl _) ?_, rfl, q _ _ (same_new np) (.inl (.inl (by rw [upd_same, e1])))⟩
      refine ⟨?_, _, (show Vals [z] [w] from .cons rw' .nil).rep k.toNat, IsTup.new _ _⟩
      rw [PyProof.Rows.lm_len_rep_flat, sizeLine_eq]
      show k.toNat * 1 ≤ _
      omega
end

theorem pss_when {X : Cx} {b : List Stmt} {cls : Value} {d : Option Addr} {C : Addr} {oe : Obj} {t : TS} (hz : Zc cls d oe) (h : Zc (.ref C) none oe → PSs X b t) : PSs X b (fun D σ H => (cls = .ref C ∧ d = none) ∧ t D σ H) := by
  refine ⟨fun pins s σ H D I q => ?_⟩
  obtain ⟨⟨e1, e2⟩, q⟩ := q
  subst e1
  subst e2
  exact (h hz).run pins s σ H D I q

theorem rowV_snoc (l : List (List Bool)) (b : List Bool) : rowV (l ++ [b]) = rowV l ++ [.str (sb b)] := by
  unfold rowV
  rw [List.map_append]
  rfl
theorem rowV_len (l : List (List Bool)) : (rowV l).length = l.length := by
  unfold rowV
  rw [List.length_map]
theorem rowV_at {l : List (List Bool)} {i : Nat} {x : V} (h : (rowV l)[i]? = some x) : ∃ b, l[i]? = some b ∧ x = .str (sb b) := by
  unfold rowV at h
  rw [List.getElem?_map] at h
  obtain ⟨b, hb, rfl⟩ := Option.map_eq_some_iff.mp h
  exact ⟨b, hb, rfl⟩
/-! ### values of some data -/
theorem av0 {P : V → Prop} : ∀ x ∈ ([] : List V), P x := fun x h => nomatch h
theorem av {P : V → Prop} {a : V} {l : List V} (h1 : P a) (h : ∀ x ∈ l, P x) : ∀ x ∈ a :: l, P x := by
  intro x hx
  rcases List.mem_cons.mp hx with e | hx
  · rw [e]
    exact h1
  · exact h x hx
theorem av_app {P : V → Prop} {l m : List V} (h1 : ∀ x ∈ l, P x) (h : ∀ x ∈ m, P x) : ∀ x ∈ l ++ m, P x := by
  intro x hx
  rcases List.mem_append.mp hx with e | hx
  · exact h1 x e
  · exact h x hx
theorem av1 {P : V → Prop} {a : V} (h1 : P a) : ∀ x ∈ [a], P x := av h1 av0
/-- data within which a list is empty or begins with a text: none of them is the hand -/
def hdS : List PyData → Prop
  | [] => True
  | .str _ :: _ => True
  | _ => False
def Gh : Nat → PyData → Prop
  | 0, d => match d with
    | .none => True
    | .bool _ => True
    | .int _ => True
    | .str x => okT x
    | _ => False
  | n + 1, d => match d with
    | .none => True
    | .bool _ => True
    | .int _ => True
    | .str x => okT x
    | .list xs => xs.length ≤ 5000 ∧ hdS xs ∧ ∀ x ∈ xs, Gh n x
    | .tuple xs => xs.length ≤ 5000 ∧ ∀ x ∈ xs, Gh n x
    | .dict _ => False
theorem gh_gd : ∀ {n : Nat} {d : PyData}, Gh n d → Gd n d
  | 0, .none, h => h
  | 0, .bool _, h => h
  | 0, .int _, h => h
  | 0, .str _, h => h
  | n + 1, .none, h => h
  | n + 1, .bool _, h => h
  | n + 1, .int _, h => h
  | n + 1, .str _, h => h
  | n + 1, .list xs, h => ⟨h.1, fun x hx => gh_gd (h.2.2 x hx)⟩
  | n + 1, .tuple xs, h => ⟨h.1, fun x hx => gh_gd (h.2 x hx)⟩
theorem gh_up : ∀ {n : Nat} {d : PyData}, Gh n d → Gh (n + 1) d
  | 0, .none, h => h
  | 0, .bool _, h => h
  | 0, .int _, h => h
  | 0, .str _, h => h
  | n + 1, .none, h => h
  | n + 1, .bool _, h => h
  | n + 1, .int _, h => h
  | n + 1, .str _, h => h
  | n + 1, .list xs, h => ⟨h.1, h.2.1, fun x hx => gh_up (h.2.2 x hx)⟩
  | n + 1, .tuple xs, h => ⟨h.1, fun x hx => gh_up (h.2 x hx)⟩
theorem gh_le {n m : Nat} {d : PyData} (h : Gh n d) (hm : n ≤ m) : Gh m d := by
  induction hm with
  | refl => exact h
  | step _ ih => exact gh_up ih
theorem hds_rowV {K : PySem.W.Frag} {H : Hp} {rows : List (List Bool)} {ds : List PyData} (h : DpAll K H (rowV rows) ds) : hdS ds := by
  cases rows with
  | nil =>
    cases h
    trivial
  | cons b tl =>
    cases h with
    | cons h1 h2 =>
      cases h1
      trivial
theorem sql_offh {K : PySem.W.Frag} {H : Hp} {a d p : Addr} {vs : List V} {xs : List PyData} (hh : Hnd H a d) (hx : hdS xs) (hA : DpAll K H vs xs) (s : SqL K H p vs) : SqL K (off a H) p vs := by
  obtain ⟨ds, i, h1, _⟩ := hh
  have bad : vs ≠ [.ref d, .int (i : Int)] := fun e => by
    rw [e] at hA
    cases hA with
    | cons h2 h3 =>
      cases h2 with
      | _ => exact hx
  rcases s with (s | ⟨o, s⟩) | s
  · refine .inl (.inl ?_)
    rw [off_ne fun e => ?_]
    · exact s
    · rw [e, h1] at s
      injection s with s
      injection s with s
      exact bad s.symm
  · refine .inl (.inr ⟨o, ?_⟩)
    rw [off_ne fun e => ?_]
    · exact s
    · rw [e, h1] at s
      cases s
  · exact .inr s
theorem dp_offh {K : PySem.W.Frag} {a d : Addr} {H : Hp} (hh : Hnd H a d) : ∀ {n : Nat} {D : PyData} {v : V}, Gh n D → Dp K H v D → Dp K (off a H) v D
  | _, .none, _, _, .non => .non
  | _, .bool _, _, _, .bl b => .bl b
  | _, .int _, _, _, .int i => .int i
  | _, .str _, _, _, .str x => .str x
  | n + 1, .list xs, _, h, .lst hS hA => .lst (sql_offh hh h.2.1 hA hS) (go h.2.2 hA)
  | n + 1, .tuple xs, _, h, .tup hT hA => .tup (sqt_off hh hT) (go h.2 hA)
where go {n : Nat} : ∀ {xs : List PyData} {vs : List V}, (∀ x ∈ xs, Gh n x) → DpAll K H vs xs → DpAll K (off a H) vs xs
  | [], _, _, .nil => .nil
  | x :: xs, _, h, .cons hv t => .cons (dp_offh hh (h x List.mem_cons_self) hv) (go (fun y hy => h y (List.mem_cons_of_mem _ hy)) t)
def GD (K : PySem.W.Frag) (H : Hp) (k : Nat) (v : V) : Prop := ∃ D, Dp K H v D ∧ Gh k D
theorem GD.same {K : PySem.W.Frag} {H H' : Hp} {k : Nat} {v : V} (h : GD K H k v) (s : Same H H') : GD K H' k v := by
  obtain ⟨D, h1, h2⟩ := h
  exact ⟨D, dp_same s _ h1, h2⟩
theorem GD.str {K : PySem.W.Frag} {H : Hp} {k : Nat} {x : Str} (h : okT x) : GD K H k (.str x) := ⟨.str x, .str x, by cases k <;> exact h⟩
theorem GD.int {K : PySem.W.Frag} {H : Hp} {k : Nat} {i : Int} : GD K H k (.int i) := ⟨.int i, .int i, by cases k <;> trivial⟩
theorem GD.non {K : PySem.W.Frag} {H : Hp} {k : Nat} : GD K H k .non := ⟨.none, .non, by cases k <;> trivial⟩
theorem GD.up {K : PySem.W.Frag} {H : Hp} {k j : Nat} {v : V} (h : GD K H k v) (hk : k ≤ j) : GD K H j v := by
  obtain ⟨D, h1, h2⟩ := h
  exact ⟨D, h1, gh_le h2 hk⟩
theorem gds_of {K : PySem.W.Frag} {H : Hp} {k : Nat} : ∀ {vs : List V}, (∀ v ∈ vs, GD K H k v) → ∃ ds, DpAll K H vs ds ∧ ∀ d ∈ ds, Gh k d
  | [], _ => ⟨[], .nil, fun _ h => nomatch h⟩
  | v :: vs, h => by
    obtain ⟨D, h1, h2⟩ := h v List.mem_cons_self
    obtain ⟨ds, h3, h4⟩ := gds_of (vs := vs) fun x hx => h x (List.mem_cons_of_mem _ hx)
    refine ⟨D :: ds, .cons h1 h3, fun d hd => ?_⟩
    rcases List.mem_cons.mp hd with e | e
    · rw [e]
      exact h2
    · exact h4 d e
theorem GD.tup {K : PySem.W.Frag} {H : Hp} {k : Nat} {a : Addr} {vs : List V} (hT : SqT K H a vs) (hl : vs.length ≤ 5000) (h : ∀ v ∈ vs, GD K H k v) : GD K H (k + 1) (.ref a) := by
  obtain ⟨ds, h1, h2⟩ := gds_of h
  exact ⟨.tuple ds, .tup hT h1, by rw [← dp_all_len h1]; exact hl, h2⟩
theorem gd_rowV {K : PySem.W.Frag} {H : Hp} {k : Nat} {rows : List (List Bool)} (h : ∀ r ∈ rows, r.length ≤ 5000) : ∀ v ∈ rowV rows, GD K H k v := by
  intro v hv
  obtain ⟨r, hr, rfl⟩ := List.mem_map.mp hv
  exact .str (okT_sb (h r hr))
theorem cutV_mem {xs : List V} {lo hi : Option Int} {v : V} (h : v ∈ cutV xs lo hi) : v ∈ xs := List.mem_of_mem_drop (List.mem_of_mem_take h)
theorem cutV_suf {xs : List V} {k : Nat} : cutV xs (some (k : Int)) none = xs.drop k := by
  unfold cutV
  rw [HT.sIx_nat, HT.sIx_none]
  by_cases h : k ≤ xs.length
  · rw [Nat.min_eq_left h]
    exact List.take_of_length_le (by rw [List.length_drop]; exact Nat.le_refl _)
  · rw [Nat.min_eq_right (by omega), List.drop_length, List.drop_of_length_le (by omega)]
    exact List.take_nil
/-- rows of another number are none -/
theorem rows_len_bad {ds : List PyData} {n m : Nat} (h : ds.length ≠ 2 ^ n) : genRows (.int (n : Int)) (.int (m : Int)) (.tuple ds) = false := by
  show (decide ((ds.length : Int) = 1 * 2 ^ (n : Int).toNat) && _) = false
  rw [shl_one, decide_eq_false (fun z => h (by omega))]
  rfl
/-- rows with a last one of another length are none -/
theorem rows_last_bad {ds : List PyData} {x : Str} {n m : Nat} (h : x.length ≠ m) : genRows (.int (n : Int)) (.int (m : Int)) (.tuple (ds ++ [.str x])) = false := by
  show (_ && (ds ++ [PyData.str x]).all (bitRow (m : Int))) = false
  have e : bitRow (m : Int) (.str x) = false := by
    show (decide ((x.length : Int) = (m : Int)) && _) = false
    rw [decide_eq_false (by omega)]
    rfl
  rw [List.all_append, List.all_cons, e, Bool.false_and, Bool.and_false, Bool.and_false]
theorem sqt_offL {K : PySem.W.Frag} {H : Hp} {a p : Addr} {xs ys : List V} (h : H a = some (.lst ys)) (s : SqT K H p xs) : SqT K (off a H) p xs := by
  rcases s with (s | ⟨o, s⟩) | s
  · refine .inl (.inl ?_)
    rw [off_ne fun e => ?_]
    · exact s
    · rw [e, h] at s
      cases s
  · refine .inl (.inr ⟨o, ?_⟩)
    rw [off_ne fun e => ?_]
    · exact s
    · rw [e, h] at s
      cases s
  · exact .inr s
theorem off_upd1 {R : Addr} {H : Hp} {o : HO} : off R (upd H R o) = off R H := by
  funext b
  unfold off
  by_cases h : b = R
  · rw [if_pos h, if_pos h]
  · rw [if_neg h, if_neg h, upd_ne h]

/-! ### openings of both -/
def hits (rows : List (List Bool)) (k : Nat) : Bool := rows.any fun a => rows.any fun b => (val a ^^^ val b) == k
def opens (m : Nat) (rows : List (List Bool)) : List Nat := (List.range (2 ^ m)).filter (hits rows)
theorem hits_iff {rows : List (List Bool)} {k : Nat} : hits rows k = true ↔ ∃ a ∈ rows, ∃ b ∈ rows, val a ^^^ val b = k := by
  unfold hits
  simp [List.any_eq_true]
theorem opens_mem {n m : Nat} {rows : List (List Bool)} (wf : Wf n m rows) {k : Nat} : k ∈ opens m rows ↔ ∃ a ∈ rows, ∃ b ∈ rows, val a ^^^ val b = k := by
  unfold opens
  rw [List.mem_filter, hits_iff, List.mem_range]
  refine ⟨fun h => h.2, fun h => ⟨?_, h⟩⟩
  obtain ⟨a, ha, b, hb, e⟩ := h
  have h1 := val_lt a
  have h2 := val_lt b
  rw [wf.row a ha] at h1
  rw [wf.row b hb] at h2
  rw [← e]
  exact Nat.xor_lt_two_pow h1 h2
theorem opens_up (m : Nat) (rows : List (List Bool)) : ((opens m rows).map fun k : Nat => (k : Int)).Pairwise (· < ·) := by
  refine List.pairwise_map.mpr ?_
  exact (List.pairwise_lt_range.filter (hits rows)).imp fun h => Int.ofNat_lt.mpr h
theorem opens_len (m : Nat) (rows : List (List Bool)) : (opens m rows).length ≤ 2 ^ m := by
  have := List.length_filter_le (hits rows) (List.range (2 ^ m))
  rw [List.length_range] at this
  exact this
/-- what rises and has the same members is the same -/
theorem up_eq : ∀ {l m : List Int}, l.Pairwise (· < ·) → m.Pairwise (· < ·) → (∀ k, k ∈ l ↔ k ∈ m) → l = m
  | [], [], _, _, _ => rfl
  | [], b :: m, _, _, h => nomatch (h b).mpr List.mem_cons_self
  | a :: l, [], _, _, h => nomatch (h a).mp List.mem_cons_self
  | a :: l, b :: m, hl, hm, h => by
    obtain ⟨l1, l2⟩ := List.pairwise_cons.mp hl
    obtain ⟨m1, m2⟩ := List.pairwise_cons.mp hm
    have e : a = b := by
      rcases List.mem_cons.mp ((h a).mp List.mem_cons_self) with e | z
      · exact e
      rcases List.mem_cons.mp ((h b).mpr List.mem_cons_self) with e | y
      · exact e.symm
      have h1 := l1 b y
      have h2 := m1 a z
      omega
    subst e
    rw [up_eq l2 m2 fun k => ⟨fun hk => ?_, fun hk => ?_⟩]
    · rcases List.mem_cons.mp ((h k).mp (List.mem_cons_of_mem _ hk)) with z | z
      · have := l1 k hk
        omega
      · exact z
    · rcases List.mem_cons.mp ((h k).mpr (List.mem_cons_of_mem _ hk)) with z | z
      · have := m1 k hk
        omega
      · exact z
/-- the pairs that two nested loops over ns have met -/
def Met (ns : List Int) (i j : Nat) (k : Int) : Prop := (∃ i' a b, i' < i ∧ ns[i']? = some a ∧ b ∈ ns ∧ Builtin.bitXor a b = k) ∨ (∃ a j' b, ns[i]? = some a ∧ j' < j ∧ ns[j']? = some b ∧ Builtin.bitXor a b = k)
theorem met0 {ns : List Int} {k : Int} : ¬ Met ns 0 0 k := by
  rintro (⟨_, _, _, h, _⟩ | ⟨_, _, _, _, h, _⟩) <;> exact Nat.not_lt_zero _ h
theorem met_step {ns : List Int} {i j : Nat} {a b k : Int} (ha : ns[i]? = some a) (hb : ns[j]? = some b) : Met ns i (j + 1) k ↔ Met ns i j k ∨ k = Builtin.bitXor a b := by
  constructor
  · rintro (h | ⟨a', j', b', e1, lt, e2, e3⟩)
    · exact .inl (.inl h)
    · rcases Nat.lt_succ_iff_lt_or_eq.mp lt with l | l
      · exact .inl (.inr ⟨a', j', b', e1, l, e2, e3⟩)
      · subst l
        rw [ha] at e1
        rw [hb] at e2
        cases e1
        cases e2
        exact .inr e3.symm
  · rintro ((h | ⟨a', j', b', e1, lt, e2, e3⟩) | e)
    · exact .inl h
    · exact .inr ⟨a', j', b', e1, Nat.lt_succ_of_lt lt, e2, e3⟩
    · exact .inr ⟨a, j, b, ha, Nat.lt_succ_self j, hb, e.symm⟩
theorem met_row {ns : List Int} {i : Nat} {k : Int} : Met ns i ns.length k ↔ Met ns (i + 1) 0 k := by
  constructor
  · rintro (⟨i', a, b, lt, h⟩ | ⟨a, j', b, e1, lt, e2, e3⟩)
    · exact .inl ⟨i', a, b, Nat.lt_succ_of_lt lt, h⟩
    · exact .inl ⟨i, a, b, Nat.lt_succ_self i, e1, List.mem_of_getElem? e2, e3⟩
  · rintro (⟨i', a, b, lt, e1, e2, e3⟩ | ⟨_, _, _, _, h, _⟩)
    · rcases Nat.lt_succ_iff_lt_or_eq.mp lt with l | l
      · exact .inl ⟨i', a, b, l, e1, e2, e3⟩
      · subst l
        obtain ⟨j, hj⟩ := List.getElem?_of_mem e2
        exact .inr ⟨a, j, b, e1, (List.getElem?_eq_some_iff.mp hj).1, hj, e3⟩
    · exact absurd h (Nat.not_lt_zero _)
theorem met_all {ns : List Int} {k : Int} : Met ns ns.length 0 k ↔ ∃ a ∈ ns, ∃ b ∈ ns, Builtin.bitXor a b = k := by
  constructor
  · rintro (⟨i', a, b, lt, e1, e2, e3⟩ | ⟨_, _, _, _, h, _⟩)
    · exact ⟨a, List.mem_of_getElem? e1, b, e2, e3⟩
    · exact absurd h (Nat.not_lt_zero _)
  · rintro ⟨a, ha, b, hb, e⟩
    obtain ⟨i, hi⟩ := List.getElem?_of_mem ha
    exact .inl ⟨i, a, b, (List.getElem?_eq_some_iff.mp hi).1, hi, hb, e⟩
theorem same_set {H H' : Hp} {p : Addr} {o : HO} (s : Same H H') (np : H p = none) : Same H (upd H' p o) := fun b x e => by
  rw [upd_ne (ne_of_none e np)]
  exact s b x e
theorem rowV_append (l m : List (List Bool)) : rowV (l ++ m) = rowV l ++ rowV m := by
  unfold rowV
  rw [List.map_append]
theorem free_of {H H' : Hp} {p : Addr} (s : Same H H') (h : H' p = none) : H p = none := by
  cases e : H p with
  | none => rfl
  | some o =>
    rw [s p o e] at h
    cases h
theorem xor_nat (a b : Nat) : Builtin.bitXor (a : Int) (b : Int) = ((a ^^^ b : Nat) : Int) := by
  rw [Bits.bitXor_pp (by omega) (by omega)]
  rfl
theorem opens_ints {n m : Nat} {rows : List (List Bool)} (wf : Wf n m rows) {ns : List Int} (memb : ∀ k, k ∈ ns ↔ ∃ b ∈ rows, ((val b : Nat) : Int) = k) {ms : List Int} (up : ms.Pairwise (· < ·)) (mem : ∀ k, k ∈ ms ↔ Met ns ns.length 0 k) : ms = (opens m rows).map fun k : Nat => (k : Int) := by
  refine up_eq up (opens_up m rows) fun k => (mem k).trans (met_all.trans ⟨?_, fun h => ?_⟩)
  · rintro ⟨a, ha, b, hb, e⟩
    obtain ⟨x, hx, rfl⟩ := (memb a).mp ha
    obtain ⟨y, hy, rfl⟩ := (memb b).mp hb
    rw [xor_nat] at e
    exact List.mem_map.mpr ⟨_, (opens_mem wf).mpr ⟨x, hx, y, hy, rfl⟩, e⟩
  · obtain ⟨j, hj, e⟩ := List.mem_map.mp h
    obtain ⟨x, hx, y, hy, e2⟩ := (opens_mem wf).mp hj
    exact ⟨_, (memb _).mpr ⟨x, hx, rfl⟩, _, (memb _).mpr ⟨y, hy, rfl⟩, by rw [xor_nat, e2, e]⟩
def spDouble (K : PySem.W.Frag) (CB : Addr) : Sp := fun vs H Q E => ∃ (v : V) (D : PyData) (k : Nat), vs = [v] ∧ Dp K H v D ∧ Gd k D ∧ k ≤ 64 ∧
  ((genOk D = false ∧ ∀ H', Same H H' → E (.ref CB) none H') ∨
    (∃ n m rows, D = tabD n m rows ∧ Wf n m rows ∧ n ≤ 4 ∧ m ≤ 6 ∧ ∀ p H', H p = none → Same H H' → H' p = some (.lst (rowV ((opens m rows).map (toB m)))) → Q (.ref p) H'))
theorem toB_front : ∀ (i k : Nat), toB (i + 1) k = (k / 2 ^ i % 2 == 1) :: toB i k
  | 0, k => by
    show [k % 2 == 1] = [k / 1 % 2 == 1]
    rw [Nat.div_one]
  | i + 1, k => by
    show toB (i + 1) (k / 2) ++ [k % 2 == 1] = _
    rw [toB_front i]
    show (k / 2 / 2 ^ i % 2 == 1) :: (toB i (k / 2) ++ [k % 2 == 1]) = (k / 2 ^ (i + 1) % 2 == 1) :: toB (i + 1) k
    rw [Nat.div_div_eq_div_mul, ← Nat.pow_succ']
    rfl
def spBitsS : Sp := fun vs H Q _ => ∃ n k : Nat, vs = [.int (n : Int), .int (k : Int)] ∧ n ≤ 20 ∧ Q (.str (sb (toB n k))) H
def spNumL (K : PySem.W.Frag) : Sp := fun vs H Q _ => ∃ (L : Addr) (bs : List Bool), vs = [.ref L] ∧ SqL K H L (bs.map fun b => V.str (sb [b])) ∧ bs.length ≤ 640 ∧ Q (.int ((val bs : Nat) : Int)) H
/-! what is no generator -/
def BG (K : PySem.W.Frag) (H : Hp) (v : V) : Prop := ∃ D k, Dp K H v D ∧ Gh k D ∧ k ≤ 64 ∧ genOk D = false
theorem BG.same {K : PySem.W.Frag} {H H' : Hp} {v : V} (h : BG K H v) (s : Same H H') : BG K H' v := by
  obtain ⟨D, k, h1, h2, h3, h4⟩ := h
  exact ⟨D, k, dp_same s _ h1, h2, h3, h4⟩
theorem BG.keep {K : PySem.W.Frag} {H H' : Hp} {a d : Addr} {v : V} (hh : Hnd H a d) (kp : Keep a H H') (h : BG K H v) : BG K H' v := by
  obtain ⟨D, k, h1, h2, h3, h4⟩ := h
  exact ⟨D, k, dp_same (off_same a H') _ (dp_same kp.off _ (dp_offh hh h2 h1)), h2, h3, h4⟩
theorem BG.non {K : PySem.W.Frag} {H : Hp} : BG K H .non := ⟨.none, 0, .non, trivial, by decide, rfl⟩
theorem BG.nil {K : PySem.W.Frag} {H : Hp} {a : Addr} (hT : SqT K H a []) : BG K H (.ref a) := ⟨.tuple [], 1, .tup hT .nil, ⟨Nat.zero_le _, fun _ h => nomatch h⟩, by decide, rfl⟩
theorem BG.lst {K : PySem.W.Frag} {H : Hp} {k : Nat} {a : Addr} {z : Str} {vs : List V} (hL : SqL K H a (.str z :: vs)) (hk : k ≤ 60) (hl : vs.length ≤ 4000) (h : ∀ v ∈ (.str z :: vs : List V), GD K H k v) : BG K H (.ref a) := by
  obtain ⟨ds, h1, h2⟩ := gds_of h
  refine ⟨.list ds, k + 1, .lst hL h1, ⟨by rw [← dp_all_len h1, List.length_cons]; omega, ?_, h2⟩, by omega, rfl⟩
  cases h1 with
  | cons h3 h4 =>
    cases h3
    trivial
theorem BG.gen {K : PySem.W.Frag} {H : Hp} {k : Nat} {a : Addr} {x y v : V} {N M R : PyData} (hT : SqT K H a [.str "generator", x, y, v]) (hN : Dp K H x N) (hM : Dp K H y M) (hR : Dp K H v R) (gN : Gh k N) (gM : Gh k M) (hg : Gh k R) (hk : k ≤ 60)
    (h : whole N 1 10 = false ∨ genRows N M R = false) : BG K H (.ref a) := by
  refine ⟨.tuple [.str "generator", N, M, R], k + 1, .tup hT (.cons (.str _) (.cons hN (.cons hM (.cons hR .nil)))), ⟨by show 4 ≤ 5000; decide, all4 ?_ gN gM hg⟩, by omega, ?_⟩
  · have : okT "generator" := ⟨by decide +kernel, by decide +kernel⟩
    cases k <;> exact this
  · rw [gen_eq]
    rcases h with h | h <;> rw [h] <;> simp
theorem BG.fun_ {K : PySem.W.Frag} {H : Hp} {v : V} {n l m : Nat} {tabs : List (List (List Bool))} (hd : Dp K H v (funD n l m tabs)) (hg : Gh 4 (funD n l m tabs)) : BG K H v := by
  exact ⟨_, 4, hd, hg, by decide, gen_no (by show ¬ 5 = 4; decide)⟩
def spRef30 (K : PySem.W.Frag) : Sp := fun vs H Q _ => ∃ (v : V), vs = [v] ∧ BG K H v ∧ ∀ H', Same H H' → Q (.bl true) H'
/-! the law's marks -/
def marks (m : Nat) (f : Nat → Bool) : List V := (List.range (2 ^ m)).map fun k => V.int (if f k = true then 1 else 0)
theorem marks_len {m : Nat} {f : Nat → Bool} : (marks m f).length = 2 ^ m := by
  unfold marks
  rw [List.length_map, List.length_range]
theorem marks_at {m k : Nat} {f : Nat → Bool} (h : k < 2 ^ m) : (marks m f)[k]? = some (.int (if f k = true then 1 else 0)) := by
  unfold marks
  rw [List.getElem?_map, List.getElem?_range h]
  rfl
theorem marks_set {m v : Nat} {f : Nat → Bool} : (marks m f).set v (.int 1) = marks m fun k => f k || k == v := by
  apply List.ext_getElem?
  intro k
  by_cases h : k < 2 ^ m
  · by_cases e : v = k
    · subst e
      rw [List.getElem?_set_self (by rw [marks_len]; exact h), marks_at h]
      simp
    · rw [List.getElem?_set_ne e, marks_at h, marks_at h, show (k == v) = false from beq_eq_false_iff_ne.mpr (Ne.symm e), Bool.or_false]
  · rw [List.getElem?_eq_none (by rw [List.length_set, marks_len]; omega), List.getElem?_eq_none (by rw [marks_len]; omega)]
theorem marks_zero {m : Nat} : List.replicate (2 ^ m) (V.int 0) = marks m fun _ => false := by
  unfold marks
  rw [List.map_const', List.length_range]
  rfl
theorem val_zip {a b : List Bool} (h : a.length = b.length) : val (List.zipWith (fun x y => x != y) a b) = val a ^^^ val b := by
  have e := toB_xor a.length (val a) (val b)
  rw [toB_val a, h, toB_val b] at e
  rw [← e, val_toB]
  have h1 := val_lt a
  rw [h] at h1
  exact Nat.xor_lt_two_pow h1 (val_lt b)
theorem sqt_upd {K : PySem.W.Frag} {H : Hp} {M p : Addr} {xs ys zs : List V} (h : H M = some (.lst ys)) (s : SqT K H p xs) : SqT K (upd H M (.lst zs)) p xs := by
  have q := sqt_offL h s
  rw [← off_upd1 (o := .lst zs)] at q
  exact same_sqt (off_same M _) q
theorem ixN_of {n j : Nat} (hj : j < n) : ixN n (j : Int) = some j := by
  unfold ixN
  rw [if_pos (by omega), if_pos (by omega)]
  rfl
def Got (K : PySem.W.Frag) (b d p r M : Addr) (n m : Nat) (rows : List (List Bool)) (H : Hp) (i j : Nat) : Prop :=
  Hnd H b d ∧ SqT K H p [.str "generator", .int (n : Int), .int (m : Int), .ref r] ∧ SqT K H r (rowV rows) ∧ ∃ f, H M = some (.lst (marks m f)) ∧ ∀ k : Nat, k < 2 ^ m → (f k = true ↔ Met (rows.map fun b => ((val b : Nat) : Int)) i j (k : Int))
theorem cB_strs (x y : Bool) : (!decide (V.str (⟨#[cB x]⟩ : Str) = V.str ⟨#[cB y]⟩)) = (x != y) := by
  cases x <;> cases y <;> decide +kernel
theorem bit_str (x : Bool) : Str.ofString (toString (if x = true then (1 : Int) else 0)) = sb [x] := by
  cases x <;> decide +kernel
theorem dp_gen {K : PySem.W.Frag} {G : Hp} {p t : Addr} {n m : Nat} {rows : List (List Bool)} (h1 : SqT K G p [.str "generator", .int (n : Int), .int (m : Int), .ref t]) (h2 : SqT K G t (rowV rows)) : Dp K G (.ref p) (tabD n m rows) :=
  .tup h1 (.cons (.str _) (.cons (.int _) (.cons (.int _) (.cons (.tup h2 (dp_bits rows)) .nil))))
theorem sqt_keep {K : PySem.W.Frag} {H H' : Hp} {a d p : Addr} {xs : List V} (hh : Hnd H a d) (k : Keep a H H') (s : SqT K H p xs) : SqT K H' p xs := sqt_on (same_sqt k.off (sqt_off hh s))
theorem gh_rows {rows : List (List Bool)} {m : Nat} (h : rows.length ≤ 5000) (hm : m ≤ 5000) (hr : ∀ r ∈ rows, r.length = m) : (rows.map fun r => PyData.str (sb r)).length ≤ 5000 ∧ ∀ x ∈ rows.map fun r => PyData.str (sb r), Gh 1 x := by
  refine ⟨by rw [List.length_map]; exact h, fun x hx => ?_⟩
  obtain ⟨r, hr', rfl⟩ := List.mem_map.mp hx
  exact okT_sb (by rw [hr r hr']; exact hm)
theorem gh_fun {n l m : Nat} {tabs : List (List (List Bool))} (h : tabs.length ≤ 5000) (hl : l ≤ 8) (hm : m ≤ 200) (ht : ∀ rows ∈ tabs, rows.length = 2 ^ l ∧ ∀ r ∈ rows, r.length = m) : Gh 4 (funD n l m tabs) := by
  have hp : 2 ^ l ≤ 2 ^ 8 := two_pow_le hl
  have okF : okT "function" := ⟨by decide +kernel, by decide +kernel⟩
  refine ⟨by show 5 ≤ 5000; decide, fun x hx => ?_⟩
  rcases List.mem_cons.mp hx with e | hx
  · rw [e]
    exact okF
  rcases List.mem_cons.mp hx with e | hx
  · rw [e]
    trivial
  rcases List.mem_cons.mp hx with e | hx
  · rw [e]
    trivial
  rcases List.mem_cons.mp hx with e | hx
  · rw [e]
    trivial
  rw [List.mem_singleton.mp hx]
  refine ⟨by rw [List.length_map]; exact h, fun x hx => ?_⟩
  obtain ⟨rows, hr, rfl⟩ := List.mem_map.mp hx
  obtain ⟨h1, h2⟩ := ht rows hr
  exact gh_rows (by omega) (by omega) h2

def top_level : Nat := 7
section
variable {P : Program} {w : World} {K : PySem.W.Frag} {mg : Str → Option Value} {base : Heap} {cs : Cs}
theorem dig_len {n k : Nat} (h : k < 2 ^ (n + 1)) : (dig k).length ≤ n + 1 := by
  obtain ⟨p, e⟩ := dig_toB n k h
  have := congrArg List.length e
  rw [List.length_map, toB_len, List.length_append, List.length_replicate] at this
  omega
theorem ok_bits {f : Addr} {fd : FuncData} (D : Df K mg "bits" s_bits ["length", "number"] f fd) (T : Txt K mg cs) : FnOk P w K mg base CX0 1 f fd ["length", "number"] spBits := by
  refine D.fn.ok sc_bits (fun vs H Q E h => ?_) (fun cdv A outer s H vs Q E hr h => ?_)
  · obtain ⟨n, k, rfl, _⟩ := h
    rfl
  · obtain ⟨n, k, rfl, hn, hk, q⟩ := h
    refine ⟨_, (pss_cons (ps_if (pt_cmpR op_eq (pv 0) pe_int (nomark _)) (pss_one (ps_ret pe_str)) pss_nil) (pss_one (ps_ret (pe_m1 PySem.F.slot_str_zfill PySem.F.type_str_zfill mt_zfill (pe_fmtB (pv 1)) (pv 0))))), ?_⟩
    refine ⟨_, rfl, rfl, _, rfl, ite2 (fun c => ?_) (fun c => ?_)⟩
    · have e : (n : Int) = 0 := V.int.inj (of_decide_eq_true c)
      have e : n = 0 := by omega
      subst e
      exact q
    · obtain ⟨m, rfl⟩ : ∃ m, n = m + 1 := by
        cases n with
        | zero => exact absurd (decide_eq_true rfl) c
        | succ m => exact ⟨m, rfl⟩
      refine ⟨_, rfl, k, rfl, ?_, ⟨_, rfl⟩, _, rfl, _, _, rfl, rfl, padOk_of (by omega) (by omega), ?_⟩
      · have := dig_len hk
        omega
      · rw [zfill_dig m k hk]
        exact q

theorem num_val (bs : List Bool) : Two.num (bs.map cB) = val bs := by
  unfold Two.num val
  rw [List.foldl_map]
  congr 1
  funext a b
  cases b
  · show a * 2 + 0 = 2 * a + 0
    omega
  · show a * 2 + 1 = 2 * a + 1
    omega
theorem ok_number {f : Addr} {fd : FuncData} (D : Df K mg "number_of" s_number_of ["string"] f fd) (T : Txt K mg cs) : FnOk P w K mg base CX0 1 f fd ["string"] spNumber := by
  refine D.fn.ok sc_number_of (fun vs H Q E h => ?_) (fun cdv A outer s H vs Q E hr h => ?_)
  · obtain ⟨bs, rfl, _⟩ := h
    rfl
  · obtain ⟨bs, rfl, hl, q⟩ := h
    refine ⟨_, (pss_cons (ps_if (pt_cmpR op_eq (pv 0) pe_str (nomark _)) (pss_one (ps_ret pe_int)) pss_nil) (pss_one (ps_ret (pe_callTy call_int_bin (by rfl) T.n_int (by decide +kernel) (pa_cons (pv 0) (pa_cons pe_int pa_nil)))))), ?_⟩
    refine ⟨_, rfl, rfl, _, rfl, ite2 (fun c => ?_) (fun c => ?_)⟩
    · have e : sb bs = sb [] := V.str.inj (of_decide_eq_true c)
      have e := sb_inj e
      subst e
      exact q
    · refine ⟨_, rfl, bs.map cB, rfl, ⟨?_, ?_, ?_⟩, ?_⟩
      · intro z
        have e : bs = [] := List.map_eq_nil_iff.mp z
        subst e
        exact c (decide_eq_true rfl)
      · rw [List.length_map]
        exact hl
      · intro x hx
        obtain ⟨b, _, rfl⟩ := List.mem_map.mp hx
        cases b
        · exact .inl rfl
        · exact .inr rfl
      · rw [num_val]
        exact q

theorem ok_whole {f : Addr} {fd : FuncData} (D : Df K mg "is_whole" s_is_whole ["value", "low", "high"] f fd) (T : Txt K mg cs) : FnOk P w K mg base CX0 1 f fd ["value", "low", "high"] (spWhole K) := by
  refine D.fn.ok sc_is_whole (fun vs H Q E h => ?_) (fun cdv A outer s H vs Q E hr h => ?_)
  · obtain ⟨v, d, lo, hi, rfl, _⟩ := h
    rfl
  · obtain ⟨v, d, lo, hi, rfl, hd, q⟩ := h
    refine ⟨_, (pss_one (ps_ret (pe_and (pe_callB (isiK K) (by rfl) T.n_isinstance (by decide +kernel) (pa_cons (pv 0) (pa_cons (pe_ty "int" (by rfl) T.n_int (by decide +kernel)) pa_nil))) (pe_and (pe_not (pe_callB (isiK K) (by rfl) T.n_isinstance (by decide +kernel) (pa_cons (pv 0) (pa_cons (pe_ty "bool" (by rfl) T.n_bool (by decide +kernel)) pa_nil)))) (pe_one (pe_chain op_le op_le (pv 1) (pv 0) (pv 2))))))), ?_⟩
    refine ⟨_, rfl, _, _, _, _, _, rfl, .ty "int", dp_ty hd, kit_int d, _, rfl, ?_⟩
    cases d with
    | int i =>
      cases hd
      refine ⟨_, rfl, _, _, _, _, false, rfl, .ty "bool", .base (.int i), kit_ty (by decide +kernel), _, rfl, _, rfl, ?_⟩
      refine ⟨_, rfl, _, rfl, _, _, rfl, rfl, _, rfl, ?_⟩
      by_cases c : lo ≤ i
      · rw [decide_eq_true c]
        refine ⟨_, rfl, _, _, rfl, rfl, ?_⟩
        have e : whole (.int i) lo hi = decide (i ≤ hi) := by
          show (decide (lo ≤ i) && decide (i ≤ hi)) = _
          rw [decide_eq_true c, Bool.true_and]
        rw [e] at q
        exact q
      · rw [decide_eq_false c]
        have e : whole (.int i) lo hi = false := by
          show (decide (lo ≤ i) && decide (i ≤ hi)) = _
          rw [decide_eq_false c, Bool.false_and]
        rw [e] at q
        exact q
    | bool b =>
      cases hd
      exact ⟨_, rfl, _, _, _, _, true, rfl, .ty "bool", .base (.bl b), kit_ty (by decide +kernel), _, rfl, _, rfl, q⟩
    | none => exact q
    | str x => exact q
    | list xs => exact q
    | tuple xs => exact q
    | dict xs => exact q
theorem all_rows {m : Int} {xs : List PyData} (h : xs.all (strLen m) = true) : ∃ ys : List Str, xs = ys.map PyData.str ∧ ∀ y ∈ ys, (y.length : Int) = m := by
  induction xs with
  | nil => exact ⟨[], rfl, fun y hy => (nomatch hy)⟩
  | cons x xs ih =>
    rw [List.all_cons, Bool.and_eq_true] at h
    obtain ⟨ys, e, hy⟩ := ih h.2
    cases x with
    | str z =>
      refine ⟨z :: ys, by rw [e]; rfl, fun y hy' => ?_⟩
      rcases List.mem_cons.mp hy' with r | r
      · subst r
        exact of_decide_eq_true h.1
      · exact hy y r
    | _ => cases h.1
theorem dp_strs {K : PySem.W.Frag} {H : Hp} : ∀ {vs : List V} {ys : List Str}, DpAll K H vs (ys.map PyData.str) → vs = ys.map V.str
  | _, [], .nil => rfl
  | _, y :: ys, .cons (.str _) t => by rw [List.map_cons, dp_strs t]
theorem sum_len {m : Nat} : ∀ {ys : List Str}, (∀ y ∈ ys, (y.length : Int) = (m : Int)) → (ys.map (·.length)).sum = ys.length * m
  | [], _ => by simp
  | y :: ys, h => by
    have h1 := h y List.mem_cons_self
    rw [List.map_cons, List.sum_cons, sum_len fun z hz => h z (List.mem_cons_of_mem _ hz), List.length_cons, Nat.succ_mul]
    omega
theorem all_bits {m : Int} {ys : List Str} (h : ∀ y ∈ ys, (y.length : Int) = m) : (ys.map PyData.str).all (bitRow m) = (Txt.join "" ys).cps.toList.all (fun c => c == 48 || c == 49) := by
  rw [join_all]
  induction ys with
  | nil => rfl
  | cons y ys ih =>
    rw [List.map_cons, List.all_cons, ih fun z hz => h z (List.mem_cons_of_mem _ hz), List.map_cons, List.flatten_cons, List.all_append]
    congr 1
    show (decide ((y.length : Int) = m) && _) = _
    rw [decide_eq_true (h y List.mem_cons_self), Bool.true_and]
theorem not_all {m : Int} {xs : List PyData} (h : xs.all (strLen m) = false) : xs.all (bitRow m) = false := by
  rw [Bool.eq_false_iff] at h ⊢
  intro z
  refine h ?_
  rw [List.all_eq_true] at z ⊢
  intro x hx
  have := z x hx
  cases x with
  | str y =>
    have h2 : (decide ((y.length : Int) = m) && y.cps.toList.all (fun c => c == 48 || c == 49)) = true := this
    exact (Bool.and_eq_true_iff.mp h2).1
  | _ => cases this
theorem ok_rows {f : Addr} {fd : FuncData} (D : Df K mg "are_rows" s_are_rows ["value", "many", "m"] f fd) (T : Txt K mg cs) : FnOk P w K mg base CX0 1 f fd ["value", "many", "m"] (spRows K) := by
  refine D.fn.ok sc_are_rows (fun vs H Q E h => ?_) (fun cdv A outer s H vs Q E hr h => ?_)
  · obtain ⟨v, d, n, many, m, rfl, _⟩ := h
    rfl
  · obtain ⟨v, d, n, many, m, rfl, hd, hg, hmany, hm, q⟩ := h
    refine ⟨_, (pss_cons (ps_if (PW.pt (pw_or (pt_not (pt_val (pe_callB (isiK K) (by rfl) T.n_isinstance (by decide +kernel) (pa_cons (pv 0) (pa_cons (pe_ty "tuple" (by rfl) T.n_tuple (by decide +kernel)) pa_nil))))) (pw_or1 (pt_cmpR op_ne (pe_callB (lenS K) (by rfl) T.n_len (by decide +kernel) (pa_cons (pv 0) pa_nil)) (pv 1) (nomark _))))) (pss_one (ps_ret pe_bl)) pss_nil) (pss_cons (ps_if (pt_not (pt_val (pe_callB (crAll K rfl) (by rfl) T.n_all (by decide +kernel) (pa_cons (pe_lc (own := [("row", 3)]) (g := gName 3) (tt := tYes) rfl sc_are_rows.nd (pi_tup (pv 0)) (blkOk_by (own := [("row", 3)]) (N := ["value", "many", "m", "row"]) (sc := defScope s_are_rows) (by decide +kernel)) (fun _ _ _ _ _ => (pg_name (i := 3) sc_are_rows.nd rfl (.inl rfl))) (fun _ _ _ _ _ => pts_nil) (fun _ _ _ _ _ => (pe_and (pe_callB (isiK K) (by rfl) T.n_isinstance (by decide +kernel) (pa_cons (pv 3) (pa_cons (pe_ty "str" (by rfl) T.n_str (by decide +kernel)) pa_nil))) (pe_one (pe_cmpR op_eq (pe_callB call_len_str (by rfl) T.n_len (by decide +kernel) (pa_cons (pv 3) pa_nil)) (pv 2) (nomark _)))))) pa_nil)))) (pss_one (ps_ret pe_bl)) pss_nil) (pss_one (ps_ret (pe_cmpR op_eq (pe_m1 PySem.F.slot_str_strip PySem.F.type_str_strip mt_stripChars (pe_m1 PySem.F.slot_str_join PySem.F.type_str_join (mtJoin K) pe_str (pv 0)) pe_str) pe_str (nomark _)))))), ?_⟩
    refine ⟨_, rfl, _, _, _, _, _, rfl, .ty "tuple", dp_ty hd, kit_tup d, _, rfl, ?_⟩
    cases d with
    | tuple xs =>
      cases hd with
      | @tup a ws _ hT hA =>
        obtain ⟨hl, n', rfl, hx⟩ := gd_tup hg
        have hwl := dp_all_len hA
        refine ⟨_, rfl, a, ws, rfl, .inr hT, _, rfl, rfl, _, rfl, ?_⟩
        by_cases c : (ws.length : Int) = many
        · rw [decide_eq_true (show V.int (ws.length : Int) = V.int many by rw [c])]
          -- all([isinstance(row, str) and len(row) == m for row in value])
          refine ⟨_, rfl, a, rfl, ⟨_, hT⟩, fun Dl hD => ?_⟩
          refine lc_tup (xs := ws) (fun i H' => Same H H' ∧ H' Dl = some (.lst ((xs.take i).map fun x => V.bl (strLen m x)))) ?_ ?_ ?_ ?_
          · exact ⟨same_new hD, upd_same⟩
          · rintro i H' _ ⟨s1, _⟩
            exact same_sqt s1 hT
          · rintro i x H' hxi ⟨s1, e1⟩
            obtain ⟨d, hdi, hdx⟩ := dp_all_get hA hxi
            have hdx' := dp_same s1 d hdx
            have hgd := hx d (List.mem_of_getElem? hdi)
            have hi : i < xs.length := (List.getElem?_eq_some_iff.mp hdi).1
            have fin : ∀ b : Bool, strLen m d = b → ∃ acc, H' Dl = some (.lst acc) ∧ acc.length < sizeLine ∧ (Same H (upd H' Dl (.lst (acc ++ [.bl b]))) ∧ upd H' Dl (.lst (acc ++ [.bl b])) Dl = some (.lst ((xs.take (i + 1)).map fun x => V.bl (strLen m x)))) := by
              intro b hb
              refine ⟨_, e1, ?_, fun p o e => ?_, ?_⟩
              · rw [List.length_map, List.length_take]
                exact Nat.lt_of_lt_of_le (show min i xs.length < 10000 by omega) (by decide)
              · rw [upd_ne (ne_of_none e hD)]
                exact s1 p o e
              · rw [upd_same, List.take_add_one, hdi, List.map_append]
                show _ = some (HO.lst (_ ++ [V.bl (strLen m d)]))
                rw [hb]
            refine ⟨rfl, ?_⟩
            refine ⟨_, rfl, _, _, _, _, _, rfl, .ty "str", dp_ty hdx', kit_str d, _, rfl, ?_⟩
            cases d with
            | str z =>
              cases hdx'
              have hz := (gd_str hgd).2
              refine ⟨_, rfl, z, rfl, ?_, _, rfl, rfl, ?_⟩
              · rw [sizeLine_eq]
                omega
              · refine fin _ ?_
                show decide ((z.length : Int) = m) = decide (V.int (z.length : Int) = V.int m)
                by_cases c : (z.length : Int) = m
                · rw [decide_eq_true c, decide_eq_true (congrArg V.int c)]
                · rw [decide_eq_false c, decide_eq_false fun z => c (V.int.inj z)]
            | none => exact fin false rfl
            | bool b => exact fin false rfl
            | int b => exact fin false rfl
            | list b => exact fin false rfl
            | tuple b => exact fin false rfl
            | dict b => exact fin false rfl
          · rintro H' ⟨s1, e1⟩
            have et : (xs.take ws.length).map (fun x => V.bl (strLen m x)) = ((xs.map (strLen m)).map V.bl) := by
              rw [List.take_of_length_le (by omega), List.map_map]
              rfl
            rw [et] at e1
            refine ⟨Dl, _, rfl, .inl (.inl e1), _, rfl, ?_⟩
            have ea : (xs.map (strLen m)).all id = xs.all (strLen m) := by
              rw [List.all_map]
              rfl
            rw [ea]
            cases hc : xs.all (strLen m) with
            | false =>
              have e : rowsOk (.tuple xs) many m = false := by
                show (decide _ && xs.all (bitRow m)) = false
                rw [not_all hc, Bool.and_false]
              have q' := q H' s1
              rw [e] at q'
              exact q'
            | true =>
              obtain ⟨ys, rfl, hy⟩ := all_rows hc
              have ew := dp_strs hA
              subst ew
              have hm0 : ∃ k : Nat, ys = [] ∨ m = (k : Int) := by
                cases ys with
                | nil => exact ⟨0, .inl rfl⟩
                | cons y ys => exact ⟨y.length, .inr (hy y List.mem_cons_self).symm⟩
              have hsum : (ys.map (·.length)).sum ≤ 4096 * 40 := by
                obtain ⟨k, rfl | rfl⟩ := hm0
                · simp
                · rw [sum_len hy]
                  have h1 : ys.length ≤ 4096 := by
                    rw [List.length_map] at c
                    omega
                  have h2 : k ≤ 40 := by omega
                  exact Nat.mul_le_mul h1 h2
              refine ⟨⟨_, rfl⟩, _, rfl, "", a, ys, rfl, rfl, .inr (same_sqt s1 hT), ?_, ⟨_, rfl⟩, _, _, rfl, rfl, ?_, rfl, ?_⟩
              · show _ + _ * 0 ≤ _
                omega
              · have hj : (Txt.join "" ys).length = (ys.map (·.length)).sum := by
                  show (Txt.join "" ys).cps.size = _
                  rw [← Array.length_toList, join_all, List.length_flatten, List.map_map]
                  congr 1
                rw [hj, sizeLine_eq]
                omega
              · rw [strip_all, ← all_bits hy]
                have e : rowsOk (.tuple (ys.map PyData.str)) many m = (ys.map PyData.str).all (bitRow m) := by
                  show (decide (((ys.map PyData.str).length : Int) = many) && _) = _
                  rw [decide_eq_true (by rw [List.length_map] at c ⊢; exact c), Bool.true_and]
                have q' := q H' s1
                rw [e] at q'
                exact q'
        · rw [decide_eq_false (show ¬ V.int (ws.length : Int) = V.int many from fun z => c (V.int.inj z))]
          have e : rowsOk (.tuple xs) many m = false := by
            show (decide ((xs.length : Int) = many) && _) = false
            rw [decide_eq_false (by rw [← hwl]; exact c), Bool.false_and]
          have q' := q H (Same.refl H)
          rw [e] at q'
          exact q'
    | bool b => exact q H (Same.refl H)
    | none => exact q H (Same.refl H)
    | int x => exact q H (Same.refl H)
    | str x => exact q H (Same.refl H)
    | list xs => exact q H (Same.refl H)
    | dict xs => exact q H (Same.refl H)

theorem ok_gen {f : Addr} {fd : FuncData} (D : Df K mg "is_generator" s_is_generator ["value"] f fd) (T : Txt K mg cs) (c_is_whole : Cl P w K mg base CX0 1 "is_whole" (spWhole K)) (c_are_rows : Cl P w K mg base CX0 1 "are_rows" (spRows K)) : FnOk P w K mg base CX0 2 f fd ["value"] (spGen K) := by
  refine D.fn.ok sc_is_generator (fun vs H Q E h => ?_) (fun cdv A outer s H vs Q E hr h => ?_)
  · obtain ⟨v, d, n, rfl, _⟩ := h
    rfl
  · obtain ⟨v, d, n, rfl, hd, hg, hn64, q⟩ := h
    refine ⟨_, (pss_cons (ps_if (PW.pt (pw_or (pt_not (pt_val (pe_callB (isiK K) (by rfl) T.n_isinstance (by decide +kernel) (pa_cons (pv 0) (pa_cons (pe_ty "tuple" (by rfl) T.n_tuple (by decide +kernel)) pa_nil))))) (pw_or1 (pt_cmpR op_ne (pe_callB (lenS K) (by rfl) T.n_len (by decide +kernel) (pa_cons (pv 0) pa_nil)) pe_int (nomark _))))) (pss_one (ps_ret pe_bl)) pss_nil) (pss_cons (ps_asg (pv 0) (pg_tup (by rfl) (pgs_cons (pg_name (i := 1) sc_is_generator.nd rfl (.inl rfl)) (pgs_cons (pg_name (i := 2) sc_is_generator.nd rfl (.inl rfl)) (pgs_cons (pg_name (i := 3) sc_is_generator.nd rfl (.inl rfl)) (pgs_cons (pg_name (i := 4) sc_is_generator.nd rfl (.inl rfl)) pgs_nil)))))) (pss_cons (ps_if (PW.pt (pw_or (pt_cmpR (op_neD hr.units) (pv 1) pe_str (nomark _)) (pw_or (pt_not (pt_val (pe_cl c_is_whole hr (by first | decide | omega) (by rfl) (pa_cons (pv 2) (pa_cons pe_int (pa_cons pe_int pa_nil)))))) (pw_or1 (pt_not (pt_val (pe_cl c_is_whole hr (by first | decide | omega) (by rfl) (pa_cons (pv 3) (pa_cons pe_int (pa_cons (C8.pe_gc (by rfl) T.g_MOST_BITS) pa_nil)))))))))) (pss_one (ps_ret pe_bl)) pss_nil) (pss_one (ps_ret (pe_cl c_are_rows hr (by first | decide | omega) (by rfl) (pa_cons (pv 4) (pa_cons (pe_op op_shl pe_int (pv 2)) (pa_cons (pv 3) pa_nil))))))))), ?_⟩
    refine ⟨_, rfl, _, _, _, _, _, rfl, .ty "tuple", dp_ty hd, kit_tup d, _, rfl, ?_⟩
    cases d with
    | tuple xs =>
      cases hd with
      | @tup a ws _ hT hA =>
        obtain ⟨hl, n', rfl, hx⟩ := gd_tup hg
        have hwl := dp_all_len hA
        refine ⟨_, rfl, a, ws, rfl, .inr hT, rfl, _, rfl, ?_⟩
        by_cases c : ws.length = 4
        · obtain ⟨v0, v1, v2, v3, k, n, m, r, rfl, rfl, h0, h1, h2, h3⟩ := dp4 hA c
          rw [decide_eq_true (show V.int (([v0, v1, v2, v3].length : Nat) : Int) = V.int 4 from rfl)]
          refine ⟨_, rfl, a, _, rfl, hT, rfl, _, _, rfl, _, _, rfl, _, _, rfl, _, _, rfl, rfl, ?_⟩
          have g0 := hx k List.mem_cons_self
          have g3 := hx r (List.mem_cons_of_mem _ (List.mem_cons_of_mem _ (List.mem_cons_of_mem _ List.mem_cons_self)))
          rw [gen_eq] at q
          -- kind != 'generator'
          refine ⟨_, rfl, k, .str "generator", h0, .str _, gd_shaped g0 (by omega), by decide +kernel, _, rfl, ?_⟩
          rw [name_ne]
          cases ck : named "generator" k with
          | false =>
            rw [ck] at q
            exact q H (Same.refl H)
          | true =>
            rw [ck] at q
            refine ⟨_, rfl, v1, n, 1, 10, rfl, h1, _, rfl, ?_⟩
            cases cn : whole n 1 10 with
            | false =>
              rw [cn] at q
              exact q H (Same.refl H)
            | true =>
              rw [cn] at q
              refine ⟨_, rfl, v2, m, 1, 40, rfl, h2, _, rfl, ?_⟩
              cases cm : whole m 1 40 with
              | false =>
                rw [cm] at q
                exact q H (Same.refl H)
              | true =>
                rw [cm] at q
                obtain ⟨n, rfl, n1, n2⟩ := whole_int cn
                obtain ⟨m, rfl, m1, m2⟩ := whole_int cm
                cases h1
                cases h2
                refine ⟨_, rfl, _, rfl, _, _, rfl, rfl, ⟨by omega, by omega, by decide⟩, _, rfl, v3, r, _, _, _, rfl, h3, g3, ?_, m2, fun H' s' => q H' s'⟩
                exact Int.le_trans (pow_le (b := 10) n1 n2) (by decide)
        · have hne : ((ws.length : Nat) : Int) ≠ 4 := by omega
          rw [decide_eq_false (show ¬ V.int (ws.length : Int) = V.int 4 from fun z => hne (V.int.inj z))]
          have e := gen_no (xs := xs) (by omega)
          have q' := q H (Same.refl H)
          rw [e] at q'
          exact q'
    | bool b => exact q H (Same.refl H)
    | none => exact q H (Same.refl H)
    | int x => exact q H (Same.refl H)
    | str x => exact q H (Same.refl H)
    | list xs => exact q H (Same.refl H)
    | dict xs => exact q H (Same.refl H)

theorem ok_fun {f : Addr} {fd : FuncData} (D : Df K mg "is_function" s_is_function ["value"] f fd) (T : Txt K mg cs) (c_is_whole : Cl P w K mg base CX0 1 "is_whole" (spWhole K)) (c_are_rows : Cl P w K mg base CX0 1 "are_rows" (spRows K)) : FnOk P w K mg base CX0 2 f fd ["value"] (spFun K) := by
  refine D.fn.ok sc_is_function (fun vs H Q E h => ?_) (fun cdv A outer s H vs Q E hr h => ?_)
  · obtain ⟨v, d, n, rfl, _⟩ := h
    rfl
  · obtain ⟨v, d, n, rfl, hd, hg, hn64, q⟩ := h
    refine ⟨_, (pss_cons (ps_if (PW.pt (pw_or (pt_not (pt_val (pe_callB (isiK K) (by rfl) T.n_isinstance (by decide +kernel) (pa_cons (pv 0) (pa_cons (pe_ty "tuple" (by rfl) T.n_tuple (by decide +kernel)) pa_nil))))) (pw_or1 (pt_cmpR op_ne (pe_callB (lenS K) (by rfl) T.n_len (by decide +kernel) (pa_cons (pv 0) pa_nil)) pe_int (nomark _))))) (pss_one (ps_ret pe_bl)) pss_nil) (pss_cons (ps_asg (pv 0) (pg_tup (by rfl) (pgs_cons (pg_name (i := 1) sc_is_function.nd rfl (.inl rfl)) (pgs_cons (pg_name (i := 2) sc_is_function.nd rfl (.inl rfl)) (pgs_cons (pg_name (i := 3) sc_is_function.nd rfl (.inr rfl)) (pgs_cons (pg_name (i := 4) sc_is_function.nd rfl (.inr rfl)) (pgs_cons (pg_name (i := 5) sc_is_function.nd rfl (.inl rfl)) pgs_nil))))))) (pss_cons (ps_if (PW.pt (pw_or (pt_cmpR (op_neD hr.units) (pv 1) pe_str (nomark _)) (pw_or (pt_not (pt_val (pe_cl c_is_whole hr (by first | decide | omega) (by rfl) (pa_cons (pv 2) (pa_cons pe_int (pa_cons pe_int pa_nil)))))) (pw_or (pt_not (pt_val (pe_cl c_is_whole hr (by first | decide | omega) (by rfl) (pa_cons (pv 3) (pa_cons pe_int (pa_cons pe_int pa_nil)))))) (pw_or1 (pt_cmpR op_gt (pe_op op_add (pv 2) (pv 3)) pe_int (nomark _))))))) (pss_one (ps_ret pe_bl)) pss_nil) (pss_cons (ps_if (PW.pt (pw_or (pt_not (pt_val (pe_cl c_is_whole hr (by first | decide | omega) (by rfl) (pa_cons (pv 4) (pa_cons pe_int (pa_cons (C8.pe_gc (by rfl) T.g_MOST_BITS) pa_nil)))))) (pw_or (pt_not (pt_val (pe_callB (isiK K) (by rfl) T.n_isinstance (by decide +kernel) (pa_cons (pv 5) (pa_cons (pe_ty "tuple" (by rfl) T.n_tuple (by decide +kernel)) pa_nil))))) (pw_or1 (pt_cmpR op_ne (pe_callB (lenS K) (by rfl) T.n_len (by decide +kernel) (pa_cons (pv 5) pa_nil)) (pe_op op_shl pe_int (pv 2)) (nomark _)))))) (pss_one (ps_ret pe_bl)) pss_nil) (pss_one (ps_ret (pe_callB (crAll K rfl) (by rfl) T.n_all (by decide +kernel) (pa_cons (pe_lc (own := [("rows", 6)]) (g := gName 6) (tt := tYes) rfl sc_is_function.nd (pi_tup (pv 5)) (blkOk_by (own := [("rows", 6)]) (N := ["value", "kind", "n", "l", "m", "tables", "rows"]) (sc := defScope s_is_function) (by decide +kernel)) (fun _ _ _ _ _ => (pg_name (i := 6) sc_is_function.nd rfl (.inl rfl))) (fun _ _ _ _ _ => pts_nil) (fun _ _ _ _ _ => (pe_cl c_are_rows hr (by first | decide | omega) (by rfl) (pa_cons (pv 6) (pa_cons (pe_op op_shl pe_int (pv 3)) (pa_cons (pv 4) pa_nil)))))) pa_nil)))))))), ?_⟩
    refine ⟨_, rfl, _, _, _, _, _, rfl, .ty "tuple", dp_ty hd, kit_tup d, _, rfl, ?_⟩
    cases d with
    | tuple xs =>
      cases hd with
      | @tup a ws _ hT hA =>
        obtain ⟨hl, n', rfl, hx⟩ := gd_tup hg
        have hwl := dp_all_len hA
        refine ⟨_, rfl, a, ws, rfl, .inr hT, rfl, _, rfl, ?_⟩
        by_cases c : ws.length = 5
        · obtain ⟨v0, v1, v2, v3, v4, k, n, l, m, t, rfl, rfl, h0, h1, h2, h3, h4⟩ := dp5 hA c
          rw [decide_eq_true (show V.int (([v0, v1, v2, v3, v4].length : Nat) : Int) = V.int 5 from rfl)]
          refine ⟨_, rfl, a, _, rfl, hT, rfl, _, _, rfl, _, _, rfl, _, _, rfl, _, _, rfl, _, _, rfl, rfl, ?_⟩
          have g0 := hx k List.mem_cons_self
          have g4 := hx t (List.mem_cons_of_mem _ (List.mem_cons_of_mem _ (List.mem_cons_of_mem _ (List.mem_cons_of_mem _ List.mem_cons_self))))
          clear hx hA hT hwl hl c
          rw [fun_eq] at q
          -- kind != 'function'
          refine ⟨_, rfl, k, .str "function", h0, .str _, gd_shaped g0 (by omega), by decide +kernel, _, rfl, ?_⟩
          rw [name_ne]
          cases ck : named "function" k with
          | false =>
            rw [ck] at q
            exact q H (Same.refl H)
          | true =>
            rw [ck] at q
            refine ⟨_, rfl, v1, n, 1, 8, rfl, h1, _, rfl, ?_⟩
            cases cn : whole n 1 8 with
            | false =>
              rw [cn] at q
              exact q H (Same.refl H)
            | true =>
              rw [cn] at q
              refine ⟨_, rfl, v2, l, 1, 8, rfl, h2, _, rfl, ?_⟩
              cases cl : whole l 1 8 with
              | false =>
                rw [cl] at q
                exact q H (Same.refl H)
              | true =>
                rw [cl] at q
                obtain ⟨n, rfl, n1, n2⟩ := whole_int cn
                obtain ⟨l, rfl, l1, l2⟩ := whole_int cl
                cases h1
                cases h2
                refine ⟨_, rfl, _, rfl, _, _, rfl, rfl, _, _, rfl, rfl, _, rfl, ?_⟩
                by_cases cs : n + l ≤ 12
                · rw [decide_eq_false (show ¬ (12 : Int) < n + l by omega)]
                  have e : sumLe (.int n) (.int l) = true := decide_eq_true cs
                  rw [e] at q
                  refine ⟨_, rfl, v3, m, 1, 40, rfl, h3, _, rfl, ?_⟩
                  cases cm : whole m 1 40 with
                  | false =>
                    rw [cm] at q
                    exact q H (Same.refl H)
                  | true =>
                    rw [cm] at q
                    obtain ⟨m, rfl, m1, m2⟩ := whole_int cm
                    cases h3
                    -- isinstance(tables, tuple), len(tables)
                    refine ⟨_, rfl, _, _, _, _, _, rfl, .ty "tuple", dp_ty h4, kit_tup t, _, rfl, ?_⟩
                    cases t with
                    | tuple ts =>
                      cases h4 with
                      | @tup b us _ hT hA =>
                        obtain ⟨hl, n'', rfl, hx⟩ := gd_tup g4
                        have hwl := dp_all_len hA
                        have q2 : ∀ H' : Hp, Same H H' → Q (.bl (decide ((ts.length : Int) = 1 * 2 ^ n.toNat) && ts.all (fun r => rowsOk r (1 * 2 ^ l.toNat) m))) H' := fun H' s' => q H' s'
                        clear q
                        refine ⟨_, rfl, b, us, rfl, .inr hT, _, rfl, _, _, rfl, rfl, ⟨by omega, by omega, by decide⟩, rfl, _, rfl, ?_⟩
                        by_cases c : ((us.length : Nat) : Int) = 1 * 2 ^ n.toNat
                        · rw [decide_eq_true (show V.int ((us.length : Nat) : Int) = V.int (1 * 2 ^ n.toNat) from congrArg V.int c)]
                          refine ⟨_, rfl, b, rfl, ⟨_, hT⟩, fun Dl hD => ?_⟩
                          refine lc_tup (xs := us) (fun i H' => Same H H' ∧ H' Dl = some (.lst ((ts.take i).map fun r => V.bl (rowsOk r (1 * 2 ^ l.toNat) m)))) ?_ ?_ ?_ ?_
                          · exact ⟨same_new hD, upd_same⟩
                          · rintro i H' _ ⟨s1, _⟩
                            exact same_sqt s1 hT
                          · rintro i x H' hxi ⟨s1, e1⟩
                            obtain ⟨d, hdi, hdx⟩ := dp_all_get hA hxi
                            have hi : i < ts.length := (List.getElem?_eq_some_iff.mp hdi).1
                            refine ⟨rfl, ?_⟩
                            refine ⟨_, rfl, _, rfl, _, _, rfl, rfl, ⟨by omega, by omega, by decide⟩, _, rfl, x, d, _, _, _, rfl, dp_same s1 d hdx, hx d (List.mem_of_getElem? hdi), ?_, m2, fun H2 s2 => ?_⟩
                            · exact Int.le_trans (pow_le (b := 8) l1 l2) (by decide)
                            · refine ⟨_, s2 _ _ e1, ?_, fun p o e => ?_, ?_⟩
                              · rw [List.length_map, List.length_take]
                                exact Nat.lt_of_lt_of_le (show min i ts.length < 10000 by omega) (by decide)
                              · rw [upd_ne (ne_of_none e hD)]
                                exact s2 _ _ (s1 p o e)
                              · rw [upd_same, List.take_add_one, hdi, List.map_append]
                                rfl
                          · rintro H' ⟨s1, e1⟩
                            have et : (ts.take us.length).map (fun r => V.bl (rowsOk r (1 * 2 ^ l.toNat) m)) = ((ts.map (fun r => rowsOk r (1 * 2 ^ l.toNat) m)).map V.bl) := by
                              rw [List.take_of_length_le (by omega), List.map_map]
                              rfl
                            rw [et] at e1
                            refine ⟨Dl, _, rfl, .inl (.inl e1), ?_⟩
                            have ea : (ts.map (fun r => rowsOk r (1 * 2 ^ l.toNat) m)).all id = ts.all (fun r => rowsOk r (1 * 2 ^ l.toNat) m) := by
                              rw [List.all_map]
                              rfl
                            rw [ea]
                            have q3 := q2 H' s1
                            rw [decide_eq_true (by rw [← hwl]; exact c), Bool.true_and] at q3
                            exact q3
                        · rw [decide_eq_false (show ¬ V.int ((us.length : Nat) : Int) = V.int (1 * 2 ^ n.toNat) from fun z => c (V.int.inj z))]
                          have q3 := q2 H (Same.refl H)
                          rw [decide_eq_false (by rw [← hwl]; exact c), Bool.false_and] at q3
                          exact q3
                    | bool b => exact q H (Same.refl H)
                    | none => exact q H (Same.refl H)
                    | int x => exact q H (Same.refl H)
                    | str x => exact q H (Same.refl H)
                    | list xs => exact q H (Same.refl H)
                    | dict xs => exact q H (Same.refl H)
                · rw [decide_eq_true (show (12 : Int) < n + l by omega)]
                  have e : sumLe (.int n) (.int l) = false := decide_eq_false cs
                  rw [e] at q
                  exact q H (Same.refl H)
        · have hne : ((ws.length : Nat) : Int) ≠ 5 := by omega
          rw [decide_eq_false (show ¬ V.int (ws.length : Int) = V.int 5 from fun z => hne (V.int.inj z))]
          have e := fun_no (xs := xs) (by omega)
          have q' := q H (Same.refl H)
          rw [e] at q'
          exact q'
    | bool b => exact q H (Same.refl H)
    | none => exact q H (Same.refl H)
    | int x => exact q H (Same.refl H)
    | str x => exact q H (Same.refl H)
    | list xs => exact q H (Same.refl H)
    | dict xs => exact q H (Same.refl H)
theorem ok_check {f : Addr} {fd : FuncData} (D : Df K mg "check_block" s_check_block ["block"] f fd) (T : Txt K mg cs) (c_is_generator : Cl P w K mg base CX0 2 "is_generator" (spGen K)) (c_is_function : Cl P w K mg base CX0 2 "is_function" (spFun K)) : FnOk P w K mg base (L2.CX P w) 3 f fd ["block"] (spCheck K cs.BadBlock) := by
  refine D.fn.okX sc_check_block (fun vs H Q E h => ?_) (fun cdv A outer s H vs Q E hr h => ?_)
  · obtain ⟨v, d, n, rfl, _⟩ := h
    rfl
  · obtain ⟨v, d, n, rfl, hd, hg, hn, q⟩ := h
    have tk := takes_of (X := cxOf (L2.CX P w) P w K mg base ["block"] "check_block" (defScope s_check_block) f cdv A outer s H E) (E := E) rfl rfl rfl rfl
    refine ⟨_, (pss_one (ps_if (PW.pt (pw_and (pt_not (pt_val (pe_cl c_is_generator hr (by first | decide | omega) (by rfl) (pa_cons (pv 0) pa_nil)))) (pw_and1 (pt_not (pt_val (pe_cl c_is_function hr (by first | decide | omega) (by rfl) (pa_cons (pv 0) pa_nil))))))) (pss_one (ps_raiseE T.x_BadBlock rfl tk (by rfl))) pss_nil)), ?_⟩
    refine ⟨_, rfl, v, d, n, rfl, hd, hg, hn, fun H1 s1 => ⟨_, rfl, ?_⟩⟩
    unfold blockOk at q
    cases cg : genOk d with
    | true =>
      rw [cg] at q
      exact (q H1 s1).1 rfl
    | false =>
      rw [cg] at q
      refine ⟨_, rfl, v, d, n, rfl, dp_same s1 d hd, hg, hn, fun H2 s2 => ⟨_, rfl, ?_⟩⟩
      cases cf : funOk d with
      | true =>
        rw [cf] at q
        exact (q H2 (s1.trans s2)).1 rfl
      | false =>
        rw [cf] at q
        exact (q H2 (s1.trans s2)).2 rfl

theorem map_int_set (rs : List Int) (j : Nat) (x : Int) : (rs.map V.int).set j (.int x) = (rs.set j x).map V.int := by
  rw [List.map_set]
theorem at_int {rs : List Int} {j : Nat} {z : Int} (h : rs[j]? = some z) : atI (rs.map V.int) ((j : Nat) : Int) = some (.int z) := atI_nat (by
  rw [List.getElem?_map, h]
  rfl)
theorem ok_draws {f : Addr} {fd : FuncData} (D : Df K mg "_law_draws" s_law_draws ["script", "many"] f fd) (T : Txt K mg cs) : FnOk P w K mg base CX0 1 f fd ["script", "many"] (spDraws K) := by
  refine D.fn.ok sc_law_draws (fun vs H Q E h => ?_) (fun cdv A outer s H vs Q E hr h => ?_)
  · obtain ⟨a, ns, many, rfl, _⟩ := h
    rfl
  · obtain ⟨a, ns, many, rfl, hS, hl, hm, q⟩ := h
    refine ⟨_, (pss_cons (ps_setLc (i := 2) (own := [("cell", 5)]) (g := gName 5) (tt := tYes) rfl sc_law_draws.nd rfl rfl (sw_true rfl rfl rfl (by decide +kernel)) (pi_list (pv 0)) (blkOk_by (own := [("cell", 5)]) (N := ["script", "many", "rests", "draws", "k", "cell", "at", "mixed"]) (sc := defScope s_law_draws) (by decide +kernel)) (fun _ _ _ _ _ => (pg_name (i := 5) sc_law_draws.nd rfl (.inl rfl))) (fun _ _ _ _ _ => pts_nil) (fun _ _ _ _ _ => (pe_callB call_abs (by rfl) T.n_abs (by decide +kernel) (pa_cons (pe_callTy call_int1 (by rfl) T.n_int (by decide +kernel) (pa_cons (pv 5) pa_nil)) pa_nil)))) (pss_cons (ps_set (i := 3) sc_law_draws.nd rfl (.inl rfl) (pe_lst pa_nil)) (pss_cons (ps_for PassesOwn.never rfl (pi_range1 (by rfl) T.n_range (pa_cons (pv 1) pa_nil)) (pg_name (i := 4) sc_law_draws.nd rfl (.inl rfl)) (pss_cons (ps_set (i := 5) sc_law_draws.nd rfl (.inl rfl) (pv 4)) (C8.pss_cut (ps_if (pt_cmpR op_gt (pe_callB (lenS K) (by rfl) T.n_len (by decide +kernel) (pa_cons (pv 0) pa_nil)) pe_int (nomark _)) (pss_cons (ps_set (i := 6) sc_law_draws.nd rfl (.inl rfl) (pe_op op_mod (pv 4) (pe_callB (lenS K) (by rfl) T.n_len (by decide +kernel) (pa_cons (pv 0) pa_nil)))) (pss_cons (ps_set (i := 5) sc_law_draws.nd rfl (.inl rfl) (pe_callTy call_int1 (by rfl) T.n_int (by decide +kernel) (pa_cons (pe_ix (ixL K) (pv 0) (pv 6) (fun _ _ => rfl)) pa_nil))) (pss_one (ps_if (PW.pt (pw_and (pt_cmpR op_ge (pv 5) (pe_op op_pow pe_int pe_int) (nomark _)) (pw_and1 (pt_cmpR op_gt (pe_ix (ixL K) (pv 2) (pv 6) (fun _ _ => rfl)) pe_int (nomark _))))) (pss_cons (ps_expr (pe_bm PySem.F.plainAttrs_list PySem.F.slot_list_append PySem.F.type_list_append mt_append (pv 3) (pa_cons (pe_op op_mod (pe_callTy call_int1 (by rfl) T.n_int (by decide +kernel) (pa_cons (pe_ix (ixL K) (pv 2) (pv 6) (fun _ _ => rfl)) pa_nil)) pe_int) pa_nil))) (pss_cons (ps_asg (pe_op op_fdiv (pe_callTy call_int1 (by rfl) T.n_int (by decide +kernel) (pa_cons (pe_ix (ixL K) (pv 2) (pv 6) (fun _ _ => rfl)) pa_nil)) pe_int) (pg_sub (pv 2) (pv 6) set_list)) (pss_one ps_continue))) pss_nil)))) pss_nil) (pss_cons (ps_set (i := 7) sc_law_draws.nd rfl (.inl rfl) (pe_op op_mod (pe_callTy call_int1 (by rfl) T.n_int (by decide +kernel) (pa_cons (pe_op op_add (pe_op op_add (pe_op op_mul (pv 5) pe_int) (pe_op op_mul (pv 4) pe_int)) pe_int) pa_nil)) pe_int)) (pss_cons (ps_set (i := 7) sc_law_draws.nd rfl (.inl rfl) (pe_op op_mod (pe_callTy call_int1 (by rfl) T.n_int (by decide +kernel) (pa_cons (pe_op op_add (pe_op op_fdiv (pe_op op_mul (pv 7) (pv 7)) pe_int) (pv 7)) pa_nil)) pe_int)) (pss_one (ps_expr (pe_bm PySem.F.plainAttrs_list PySem.F.slot_list_append PySem.F.type_list_append mt_append (pv 3) (pa_cons (pe_op op_mod (pe_callTy call_int1 (by rfl) T.n_int (by decide +kernel) (pa_cons (pe_op op_add (pe_op op_fdiv (pe_op op_mul (pv 7) (pv 7)) pe_int) (pe_op op_mul (pv 4) pe_int)) pa_nil)) pe_int) pa_nil))))))))) (pss_one (ps_ret (pv 3)))))), ?_⟩
    -- rests
    refine ⟨_, rfl, a, rfl, ⟨_, hS⟩, fun R hR => ?_⟩
    refine lc_list (xs := ns.map V.int) (fun i H' => ∃ rs : List Int, rs.length = i ∧ (∀ x ∈ rs, 0 ≤ x) ∧ Same H H' ∧ H' R = some (.lst (rs.map V.int))) ?_ ?_ ?_ ?_
    · exact ⟨[], rfl, fun x hx => (nomatch hx), same_new hR, upd_same⟩
    · rintro i H' _ ⟨rs, _, _, hs, _⟩
      exact hs.seq hS
    · rintro i x H' hx ⟨rs, hn, h0, hs, hr'⟩
      obtain ⟨z, hz⟩ : ∃ z, x = V.int z := by
        rw [List.getElem?_map] at hx
        cases e : ns[i]? with
        | none =>
          rw [e] at hx
          cases hx
        | some z =>
          rw [e] at hx
          exact ⟨z, (Option.some.inj hx).symm⟩
      subst hz
      have hi : i < ns.length := by
        have := (List.getElem?_eq_some_iff.mp hx).1
        rw [List.length_map] at this
        exact this
      refine ⟨rfl, ?_⟩
      refine ⟨_, rfl, .inl ⟨_, rfl, _, rfl, _, hr', ?_, ?_⟩⟩
      · rw [List.length_map]
        exact small1000 (by omega)
      · refine ⟨rs ++ [if z < 0 then -z else z], by rw [List.length_append, hn]; rfl, ?_, ?_, ?_⟩
        · intro y hy
          rcases List.mem_append.mp hy with hy | hy
          · exact h0 y hy
          · rw [List.mem_singleton.mp hy]
            split <;> omega
        · intro b o e
          rw [upd_ne (ne_of_none e hR)]
          exact hs b o e
        · rw [upd_same, List.map_append]
          rfl
    · rintro H1 ⟨rs, hn, h0, s1, e1⟩
      rw [List.length_map] at hn
      -- draws = []
      refine ⟨Nat.zero_le _, fun L hL => ?_⟩
      have nRL : R ≠ L := ne_of_none e1 hL
      have hL0 : H L = none := s1.free hL
      -- the loop
      refine ⟨_, rfl, _, rfl, by omega, by omega, for_range (lo := 0) (n := many) (fun i σ H' => ∃ (rs ds : List Int) (y4 y5 y6 y7 : Option V), σ = [some (.ref a), some (.int (many : Int)), some (.ref R), some (.ref L), y4, y5, y6, y7] ∧
        rs.length = ns.length ∧ (∀ x ∈ rs, 0 ≤ x) ∧ ds.length = i ∧ (∀ x ∈ ds, 0 ≤ x) ∧ Same H H' ∧ H' R = some (.lst (rs.map V.int)) ∧ H' L = some (.lst (ds.map V.int))) ?_ ?_ ?_⟩
      · refine ⟨rs, [], none, none, none, none, rfl, hn, h0, rfl, fun x hx => (nomatch hx), s1.trans (same_new hL), ?_, upd_same⟩
        rw [upd_ne nRL]
        exact e1
      · clear e1 hn h0 rs s1 hL
        rintro i σ H' hi ⟨rs, ds, y4, y5, y6, y7, rfl, hn, h0, hd, hd0, s1, e1, e2⟩
        have hSL : SqL K H' a (ns.map V.int) := s1.seq hS
        -- what the rest of the turn asks: a number is put behind the draws
        have put : ∀ (x : Int) (σ' : L2.St) (H2 : Hp) (rs' : List Int), 0 ≤ x → rs'.length = ns.length → (∀ x ∈ rs', 0 ≤ x) → Same H H2 → H2 R = some (.lst (rs'.map V.int)) → H2 L = some (.lst ((ds ++ [x]).map V.int)) →
            (∃ y4 y5 y6 y7 : Option V, σ' = [some (.ref a), some (.int (many : Int)), some (.ref R), some (.ref L), y4, y5, y6, y7]) →
            (fun (i : Nat) (σ : L2.St) (H' : Hp) => ∃ (rs ds : List Int) (y4 y5 y6 y7 : Option V), σ = [some (.ref a), some (.int (many : Int)), some (.ref R), some (.ref L), y4, y5, y6, y7] ∧
              rs.length = ns.length ∧ (∀ x ∈ rs, 0 ≤ x) ∧ ds.length = i ∧ (∀ x ∈ ds, 0 ≤ x) ∧ Same H H' ∧ H' R = some (.lst (rs.map V.int)) ∧ H' L = some (.lst (ds.map V.int))) (i + 1) σ' H2 := by
          rintro x σ' H2 rs' hx g1 g2 g3 g4 g5 ⟨z4, z5, z6, z7, rfl⟩
          refine ⟨rs', ds ++ [x], z4, z5, z6, z7, rfl, g1, g2, by rw [List.length_append, hd]; rfl, ?_, g3, g4, g5⟩
          intro y hy
          rcases List.mem_append.mp hy with hy | hy
          · exact hd0 y hy
          · rw [List.mem_singleton.mp hy]
            exact hx
        have app : ∀ (x : Int), upd H' L (.lst (ds.map V.int ++ [.int x])) R = some (.lst (rs.map V.int)) ∧ Same H (upd H' L (.lst (ds.map V.int ++ [.int x]))) ∧ upd H' L (.lst (ds.map V.int ++ [.int x])) L = some (.lst ((ds ++ [x]).map V.int)) := by
          intro x
          refine ⟨by rw [upd_ne nRL]; exact e1, fun b u e => ?_, ?_⟩
          · rw [upd_ne (ne_of_none e hL0)]
            exact s1 b u e
          · rw [upd_same, List.map_append]
            rfl
        have hsz : (ds.map V.int).length < sizeLine := by
          rw [List.length_map]
          exact Nat.lt_of_lt_of_le (show ds.length < 10000 by omega) (by decide)
        -- cell = k
        refine ⟨_, rfl, ?_⟩
        refine ⟨fun σ2 H2 => H2 = H' ∧ ∃ (c : Int) (y6 : Option V), σ2 = [some (.ref a), some (.int (many : Int)), some (.ref R), some (.ref L), some (.int (0 + (i : Int))), some (.int c), y6, y7], ?_, ?_⟩
        · -- if len(script) > 0
          refine ⟨_, rfl, a, _, rfl, .inl hSL, _, _, rfl, rfl, _, rfl, ite2 (fun c => ?_) (fun c => ?_)⟩
          · have hp : 0 < ns.length := by
              have c' : (0 : Int) < (((ns.map V.int).length : Nat) : Int) := of_decide_eq_true c
              rw [List.length_map] at c'
              omega
            -- at = k % len(script)
            refine ⟨_, rfl, _, rfl, a, _, rfl, .inl hSL, _, _, rfl, rfl, ?_, ?_⟩
            · rw [List.length_map]
              omega
            · obtain ⟨j, hj, hjl⟩ : ∃ j : Nat, (0 + (i : Int)) % (((ns.map V.int).length : Nat) : Int) = (j : Int) ∧ j < ns.length := by
                rw [List.length_map]
                have h1 := Int.emod_nonneg (0 + (i : Int)) (b := (ns.length : Int)) (by omega)
                have h2 := Int.emod_lt_of_pos (0 + (i : Int)) (b := (ns.length : Int)) (by omega)
                exact ⟨((0 + (i : Int)) % (ns.length : Int)).toNat, by omega, by omega⟩
              show gName 6 (V.int ((0 + (i : Int)) % (((ns.map V.int).length : Nat) : Int))) _ _ _
              rw [hj]
              have hx : (ns.map V.int)[j]? = some (.int ns[j]) := by
                rw [List.getElem?_map, List.getElem?_eq_getElem hjl]
                rfl
              have hjr : j < rs.length := by omega
              have hy : (rs.map V.int)[j]? = some (.int rs[j]) := by
                rw [List.getElem?_map, List.getElem?_eq_getElem hjr]
                rfl
              -- cell = int(script[at])
              refine ⟨_, rfl, _, rfl, a, _, (j : Int), _, rfl, rfl, hSL, atI_nat hx, .inl ⟨_, rfl, ?_⟩⟩
              -- if cell >= 10 ** 18 and rests[at] > 0
              refine ⟨_, rfl, _, _, rfl, rfl, ⟨by decide, by decide, by decide⟩, _, _, rfl, rfl, _, rfl, ite2 (fun c => ?_) (fun c => ?_)⟩
              · refine ⟨_, rfl, _, rfl, R, _, (j : Int), _, rfl, rfl, .inl (.inl e1), atI_nat hy, _, _, rfl, rfl, _, rfl, ite2 (fun c => ?_) (fun c => ?_)⟩
                · have hr0 : 0 ≤ rs[j] := h0 _ (List.getElem_mem hjr)
                  -- draws.append(int(rests[at]) % 1000003)
                  refine ⟨_, rfl, .inl ⟨rfl, _, .inl (.inl e2)⟩, _, rfl, _, rfl, R, _, (j : Int), _, rfl, rfl, .inl (.inl e1), atI_nat hy, .inl ⟨_, rfl, _, _, rfl, rfl, (by show (0 : Int) < 1000003; decide), L, _, _, rfl, rfl, e2, hsz, ?_⟩⟩
                  obtain ⟨p1, p2, p3⟩ := app (rs[j] % 1000003)
                  -- rests[at] = int(rests[at]) // 1000003
                  refine ⟨_, rfl, _, rfl, R, _, (j : Int), _, rfl, rfl, .inl (.inl p1), atI_nat hy, .inl ⟨_, rfl, _, _, rfl, rfl, ⟨by decide, by decide⟩, _, rfl, _, rfl, R, _, (j : Int), j, rfl, rfl, p1, ?_, ?_⟩⟩
                  · unfold ixN
                    rw [if_pos (by omega), if_pos (by rw [List.length_map]; omega)]
                    rfl
                  · refine put (rs[j] % 1000003) _ _ (rs.set j (rs[j] / 1000003)) (by omega) (by rw [List.length_set]; exact hn) ?_ ?_ ?_ ?_ ⟨_, _, _, _, rfl⟩
                    · intro y hy'
                      rcases List.mem_or_eq_of_mem_set hy' with z | z
                      · exact h0 y z
                      · rw [z]
                        omega
                    · intro b u e
                      rw [upd_ne (ne_of_none e hR)]
                      exact p2 b u e
                    · rw [upd_same, List.map_set]
                    · rw [upd_ne nRL.symm]
                      exact p3
                · exact ⟨rfl, _, _, rfl⟩
              · exact ⟨rfl, _, _, rfl⟩
          · exact ⟨rfl, _, _, rfl⟩
        · rintro σ2 H2 ⟨rfl, c, z6, rfl⟩
          -- mixed, twice
          refine ⟨_, rfl, _, _, rfl, rfl, .inr ⟨by decide, by decide⟩, _, rfl, _, _, rfl, rfl, .inr ⟨by decide, by decide⟩, _, _, rfl, rfl, _, _, rfl, rfl, .inl ⟨_, rfl, _, _, rfl, rfl, (by show (0 : Int) < 2147483647; decide), ?_⟩⟩
          refine ⟨_, rfl, _, rfl, _, _, rfl, rfl, .inl ⟨?_, ?_⟩, _, _, rfl, rfl, ⟨by decide, by decide⟩, _, rfl, _, _, rfl, rfl, .inl ⟨_, rfl, _, _, rfl, rfl, (by show (0 : Int) < 2147483629; decide), ?_⟩⟩
          · omega
          · omega
          -- draws.append
          refine ⟨_, rfl, .inl ⟨rfl, _, .inl (.inl e2)⟩, _, rfl, _, rfl, _, _, rfl, rfl, .inl ⟨?_, ?_⟩, _, _, rfl, rfl, ⟨by decide, by decide⟩, _, rfl, _, _, rfl, rfl, .inr ⟨by decide, by decide⟩, _, _, rfl, rfl, .inl ⟨_, rfl, _, _, rfl, rfl, (by show (0 : Int) < 2147483629; decide), L, _, _, rfl, rfl, e2, hsz, ?_⟩⟩
          · omega
          · omega
          refine put _ _ _ rs ?_ hn h0 (app _).2.1 (app _).1 (app _).2.2 ⟨_, _, _, _, rfl⟩
          exact Int.emod_nonneg _ (by decide)
      · rintro σ H2 ⟨rs, ds, y4, y5, y6, y7, rfl, hn, h0, hd, hd0, s2, e1, e2⟩
        exact ⟨_, rfl, q L ds H2 hL0 s2 e2 hd0⟩

theorem ok_take {f : Addr} {fd : FuncData} (D : Df K mg "_law_take" s_law_take ["hand", "many"] f fd) (T : Txt K mg cs) : FnOk P w K mg base CX0 1 f fd ["hand", "many"] spTake := by
  refine D.fn.ok sc_law_take (fun vs H Q E h => ?_) (fun cdv A outer s H vs Q E hr h => ?_)
  · obtain ⟨a, d, many, rfl, _⟩ := h
    rfl
  · obtain ⟨a, d, many, rfl, hm, ⟨ds, i, h1, h2, h3, h4⟩, q⟩ := h
    refine ⟨_, (pss_cons (ps_set (i := 2) sc_law_take.nd rfl (.inl rfl) (pe_ix (ixL K) (pv 0) pe_int (fun _ _ => rfl))) (pss_cons (ps_asg (pe_op op_add (pv 2) pe_int) (pg_sub (pv 0) pe_int set_list)) (pss_cons (ps_set (i := 3) sc_law_take.nd rfl (.inl rfl) (pe_ix (ixL K) (pv 0) pe_int (fun _ _ => rfl))) (pss_cons (ps_if (pt_cmpR op_ge (pv 2) (pe_callB (lenS K) (by rfl) T.n_len (by decide +kernel) (pa_cons (pv 3) pa_nil)) (nomark _)) (pss_one (ps_ret pe_int)) pss_nil) (pss_one (ps_ret (pe_op op_mod (pe_op op_fdiv (pe_callTy call_int1 (by rfl) T.n_int (by decide +kernel) (pa_cons (pe_ix (ixL K) (pv 3) (pv 2) (fun _ _ => rfl)) pa_nil)) pe_int) (pv 1)))))))), ?_⟩
    have s1 : Same H H := Same.refl H
    -- at = hand[1]
    refine ⟨_, rfl, a, _, 1, .int (i : Int), rfl, rfl, .inl (.inl h1), rfl, ?_⟩
    -- hand[1] = at + 1
    refine ⟨_, rfl, _, _, rfl, rfl, _, rfl, a, _, 1, 1, rfl, rfl, h1, rfl, ?_⟩
    -- draws = hand[0]
    refine ⟨_, rfl, a, _, 0, .ref d, rfl, rfl, .inl (.inl upd_same), rfl, ?_⟩
    have hd : (upd H a (.lst [.ref d, .int ((i : Int) + 1)])) d = some (.lst (ds.map V.int)) := by
      rw [upd_ne h4]
      exact h2
    have hn : Hnd (upd H a (.lst [.ref d, .int ((i : Int) + 1)])) a d := ⟨ds, i + 1, upd_same, hd, h3, h4⟩
    have hk : Keep a H (upd H a (.lst [.ref d, .int ((i : Int) + 1)])) := fun b o e n => by
      rw [upd_ne n]
      exact e
    -- at >= len(draws)
    refine ⟨_, rfl, _, rfl, d, _, rfl, .inl (.inl (.inl hd)), _, _, rfl, rfl, _, rfl, ite2 (fun c => ?_) (fun c => ?_)⟩
    · exact q 0 _ (Int.le_refl 0) hm hn hk
    · have hi : i < ds.length := by
        have c' : ¬ (((ds.map V.int).length : Int) ≤ (i : Int)) := fun z => c (decide_eq_true z)
        rw [List.length_map] at c'
        omega
      have hx : (ds.map V.int)[i]? = some (.int ds[i]) := by
        rw [List.getElem?_map, List.getElem?_eq_getElem hi]
        rfl
      have h0 := h3 ds[i] (List.getElem_mem hi)
      refine ⟨_, rfl, _, rfl, d, _, (i : Int), .int ds[i], rfl, rfl, .inl (.inl hd), atI_nat hx, .inl ⟨_, rfl, ?_⟩⟩
      refine ⟨_, _, rfl, rfl, ⟨by decide, by decide⟩, _, rfl, _, _, rfl, rfl, hm, ?_⟩
      exact q _ _ (Int.emod_nonneg _ (by omega)) (Int.emod_lt_of_pos _ hm) hn hk

theorem join_bits (bs : List Bool) : Txt.join "" (bs.map fun b => sb [b]) = sb bs := by
  have e : bs.map (fun b => sb [b]) = (bs.map fun b => [cB b]).map SX.S := by
    rw [List.map_map]
    rfl
  have j : ∀ ps : List (List Nat), TL.joinL [] ps = ps.flatten := by
    intro ps
    induction ps with
    | nil => rfl
    | cons x r ih =>
      cases r with
      | nil => exact (List.append_nil x).symm
      | cons y r =>
        show x ++ ([] ++ TL.joinL [] (y :: r)) = x ++ (y :: r).flatten
        rw [ih, List.nil_append]
  rw [e]
  refine (SX.join_S [] _).trans ?_
  rw [j]
  unfold sb
  congr 1
  clear e j
  induction bs with
  | nil => rfl
  | cons b bs ih =>
    rw [List.map_cons, List.flatten_cons, ih]
    rfl
theorem ok_string {f : Addr} {fd : FuncData} (D : Df K mg "_law_string" s_law_string ["hand", "length"] f fd) (T : Txt K mg cs) (c_law_take : Cl P w K mg base CX0 1 "_law_take" spTake) : FnOk P w K mg base CX0 2 f fd ["hand", "length"] spString := by
  refine D.fn.ok sc_law_string (fun vs H Q E h => ?_) (fun cdv A outer s H vs Q E hr h => ?_)
  · obtain ⟨a, d, n, rfl, _⟩ := h
    rfl
  · obtain ⟨a, d, n, rfl, hn, hh, q⟩ := h
    refine ⟨_, (pss_one (ps_ret (pe_m1 PySem.F.slot_str_join PySem.F.type_str_join (mtJoin K) pe_str (pe_lc (own := [("k", 2)]) (g := gName 2) (tt := tYes) rfl sc_law_string.nd (pi_range1 (by rfl) T.n_range (pa_cons (pv 1) pa_nil)) (blkOk_by (own := [("k", 2)]) (N := ["hand", "length", "k"]) (sc := defScope s_law_string) (by decide +kernel)) (fun _ _ _ _ _ => (pg_name (i := 2) sc_law_string.nd rfl (.inl rfl))) (fun _ _ _ _ _ => pts_nil) (fun _ _ _ _ _ => (pe_ix (ixL K) (pe_lst (pa_cons pe_str (pa_cons pe_str pa_nil))) (pe_cl c_law_take hr (by first | decide | omega) (by rfl) (pa_cons (pv 0) (pa_cons pe_int pa_nil))) (fun _ _ => rfl))))))), ?_⟩
    refine ⟨⟨_, rfl⟩, _, rfl, _, rfl, by omega, by omega, fun Dl hD => ?_⟩
    obtain ⟨nDa, nDd⟩ := hh.ne hD
    refine lc_range (lo := 0) (n := n) (fun i H' => ∃ bs : List Bool, bs.length = i ∧ Hnd H' a d ∧ Keep a H H' ∧ H' Dl = some (.lst (bs.map fun b => V.str (sb [b])))) ?_ ?_ ?_
    · exact ⟨[], rfl, hh.new hD, Keep.new hD, upd_same⟩
    · rintro i H' hi ⟨bs, hl, h1, h2, h3⟩
      refine ⟨rfl, ?_⟩
      -- the list ['0', '1'], then the draw
      refine ⟨by decide, fun p np => ?_⟩
      obtain ⟨npa, npd⟩ := h1.ne np
      refine ⟨_, rfl, a, d, 2, rfl, by decide, h1.new np, fun r H2 hr0 hr2 hh2 hk2 => ?_⟩
      have e2 : H2 Dl = some (.lst (bs.map fun b => V.str (sb [b]))) := hk2 _ _ (by rw [upd_ne (ne_of_none h3 np)]; exact h3) nDa
      have hb : ∃ b : Bool, atI [V.str "0", V.str "1"] r = some (V.str (sb [b])) := by
        have er : r = 0 ∨ r = 1 := by omega
        rcases er with e | e <;> subst e
        · exact ⟨false, rfl⟩
        · exact ⟨true, rfl⟩
      obtain ⟨b, hb⟩ := hb
      refine ⟨p, _, r, _, rfl, rfl, .inl (.inl (hk2 _ _ upd_same npa)), hb, _, e2, ?_, ?_⟩
      · rw [List.length_map]
        exact Nat.lt_of_lt_of_le (show bs.length < 10000 by omega) (by decide)
      · refine ⟨bs ++ [b], by rw [List.length_append, hl]; rfl, hh2.set nDa nDd, ((h2.trans (Keep.new np)).trans hk2).set hD, ?_⟩
        rw [upd_same, List.map_append]
        rfl
    · rintro H' ⟨bs, hl, h1, h2, h3⟩
      refine ⟨_, Dl, bs.map (fun b => sb [b]), rfl, rfl, .inl (.inl (.inl (by rw [List.map_map]; exact h3))), ?_, ?_⟩
      · have e : ((bs.map fun b => sb [b]).map (·.length)).sum = bs.length := by
          rw [List.map_map]
          clear h3 hl
          induction bs with
          | nil => rfl
          | cons b bs ih =>
            rw [List.map_cons, List.sum_cons, ih, List.length_cons]
            show 1 + _ = _
            omega
        rw [e]
        show _ + _ * 0 ≤ _
        omega
      · rw [join_bits]
        exact q bs H' hl h1 h2

theorem ok_table {f : Addr} {fd : FuncData} (D : Df K mg "_law_table" s_law_table ["hand", "n", "m"] f fd) (T : Txt K mg cs) (c_law_string : Cl P w K mg base CX0 2 "_law_string" spString) : FnOk P w K mg base CX0 3 f fd ["hand", "n", "m"] (spTable K) := by
  refine D.fn.ok sc_law_table (fun vs H Q E h => ?_) (fun cdv A outer s H vs Q E hr h => ?_)
  · obtain ⟨a, d, n, m, rfl, _⟩ := h
    rfl
  · obtain ⟨a, d, n, m, rfl, hn, hm, hh, q⟩ := h
    refine ⟨_, (pss_cons (ps_setLc (i := 3) (own := [("k", 4)]) (g := gName 4) (tt := tYes) rfl sc_law_table.nd rfl rfl (sw_true rfl rfl rfl (by decide +kernel)) (pi_range1 (by rfl) T.n_range (pa_cons (pe_op op_shl pe_int (pv 1)) pa_nil)) (blkOk_by (own := [("k", 4)]) (N := ["hand", "n", "m", "rows", "k"]) (sc := defScope s_law_table) (by decide +kernel)) (fun _ _ _ _ _ => (pg_name (i := 4) sc_law_table.nd rfl (.inl rfl))) (fun _ _ _ _ _ => pts_nil) (fun _ _ _ _ _ => (pe_cl c_law_string hr (by first | decide | omega) (by rfl) (pa_cons (pv 0) (pa_cons (pv 2) pa_nil))))) (pss_one (ps_ret (pe_tup (pa_cons pe_str (pa_cons (pv 1) (pa_cons (pv 2) (pa_cons (pe_callTy (tupOf K) (by rfl) T.n_tuple (by decide +kernel) (pa_cons (pv 3) pa_nil)) pa_nil)))))))), ?_⟩
    have hp : 2 ^ n ≤ 256 := two_pow_le (b := 8) hn
    refine ⟨_, rfl, _, _, rfl, rfl, ⟨by omega, by omega, by decide⟩, _, rfl, ?_⟩
    rw [shl_one]
    generalize hN : 2 ^ n = N at hp ⊢
    refine ⟨by omega, by omega, fun Dl hD => ?_⟩
    obtain ⟨nDa, nDd⟩ := hh.ne hD
    refine lc_range (lo := 0) (n := _) (fun i H' => ∃ rows : List (List Bool), rows.length = i ∧ (∀ r ∈ rows, r.length = m) ∧ Hnd H' a d ∧ Keep a H H' ∧ H' Dl = some (.lst (rows.map fun r => V.str (sb r)))) ?_ ?_ ?_
    · exact ⟨[], rfl, fun r hr => (nomatch hr), hh.new hD, Keep.new hD, upd_same⟩
    · rintro i H' hi ⟨rows, hl, hr, h1, h2, h3⟩
      refine ⟨rfl, ?_⟩
      refine ⟨_, rfl, _, rfl, a, d, m, rfl, by omega, h1, fun bs H2 hb hh2 hk2 => ⟨_, hk2 _ _ h3 nDa, ?_, ?_⟩⟩
      · rw [List.length_map]
        exact Nat.lt_of_lt_of_le (show rows.length < 10000 by omega) (by decide)
      · refine ⟨rows ++ [bs], by rw [List.length_append, hl]; rfl, ?_, hh2.set nDa nDd, (h2.trans hk2).set hD, ?_⟩
        · intro r hr'
          rcases List.mem_append.mp hr' with z | z
          · exact hr r z
          · rw [List.mem_singleton.mp z]
            exact hb
        · rw [upd_same, List.map_append]
          rfl
    · rintro H' ⟨rows, hl, hr, h1, h2, h3⟩
      have hl2 : rows.length = 2 ^ n := by
        rw [hl, hN]
        omega
      refine ⟨_, rfl, _, rfl, _, rfl, Dl, _, rfl, .inl ⟨.inl (.inl h3), fun l hl' => ⟨(by show 4 ≤ sizeLine; decide), fun p np => ?_⟩⟩⟩
      have hl1 := h1.ne hl'
      have h1' := h1.new (o := .tup (rows.map fun r => V.str (sb r))) hl'
      have hp1 := h1'.ne np
      refine q _ rows _ hl2 hr ?_ (h1'.new np) ((h2.trans (Keep.new hl')).trans (Keep.new np))
      have e1 : off a (upd (upd H' l (.tup (rows.map fun r => V.str (sb r)))) p (.tup [.str "generator", .int (n : Int), .int (m : Int), .ref l])) p = some (.tup [.str "generator", .int (n : Int), .int (m : Int), .ref l]) := by
        rw [off_ne hp1.1, upd_same]
      have e2 : off a (upd (upd H' l (.tup (rows.map fun r => V.str (sb r)))) p (.tup [.str "generator", .int (n : Int), .int (m : Int), .ref l])) l = some (.tup (rows.map fun r => V.str (sb r))) := by
        rw [off_ne hl1.1, upd_ne (ne_of_none upd_same np), upd_same]
      exact .tup (.inl (.inl e1)) (.cons (.str _) (.cons (.int _) (.cons (.int _) (.cons (.tup (.inl (.inl e2)) (dp_bits rows)) .nil))))
theorem ok_function {f : Addr} {fd : FuncData} (D : Df K mg "_law_function" s_law_function ["hand", "n", "l", "m"] f fd) (T : Txt K mg cs) (c_law_string : Cl P w K mg base CX0 2 "_law_string" spString) : FnOk P w K mg base CX0 3 f fd ["hand", "n", "l", "m"] (spFunction K) := by
  refine D.fn.ok sc_law_function (fun vs H Q E h => ?_) (fun cdv A outer s H vs Q E hr h => ?_)
  · obtain ⟨a, d, n, l, m, rfl, _⟩ := h
    rfl
  · obtain ⟨a, d, n, l, m, rfl, hn, hl, hm, hh, q⟩ := h
    refine ⟨_, (pss_cons (ps_set (i := 4) sc_law_function.nd rfl (.inl rfl) (pe_lst pa_nil)) (pss_cons (ps_for PassesOwn.never rfl (pi_range1 (by rfl) T.n_range (pa_cons (pe_op op_shl pe_int (pv 1)) pa_nil)) (pg_name (i := 5) sc_law_function.nd rfl (.inl rfl)) (pss_one (ps_expr (pe_bm PySem.F.plainAttrs_list PySem.F.slot_list_append PySem.F.type_list_append mt_append (pv 4) (pa_cons (pe_callTy (tupOf K) (by rfl) T.n_tuple (by decide +kernel) (pa_cons (pe_lc (own := [("k", 6)]) (g := gName 6) (tt := tYes) rfl sc_law_function.nd (pi_range1 (by rfl) T.n_range (pa_cons (pe_op op_shl pe_int (pv 2)) pa_nil)) (blkOk_by (own := [("k", 6)]) (N := ["hand", "n", "l", "m", "rows", "key", "k"]) (sc := defScope s_law_function) (by decide +kernel)) (fun _ _ _ _ _ => (pg_name (i := 6) sc_law_function.nd rfl (.inl rfl))) (fun _ _ _ _ _ => pts_nil) (fun _ _ _ _ _ => (pe_cl c_law_string hr (by first | decide | omega) (by rfl) (pa_cons (pv 0) (pa_cons (pv 3) pa_nil))))) pa_nil)) pa_nil))))) (pss_one (ps_ret (pe_tup (pa_cons pe_str (pa_cons (pv 1) (pa_cons (pv 2) (pa_cons (pv 3) (pa_cons (pe_callTy (tupOf K) (by rfl) T.n_tuple (by decide +kernel) (pa_cons (pv 4) pa_nil)) pa_nil)))))))))), ?_⟩
    have hp : 2 ^ n ≤ 256 := two_pow_le (b := 8) hn
    have hpl : 2 ^ l ≤ 256 := two_pow_le (b := 8) hl
    refine ⟨Nat.zero_le _, fun R hR => ?_⟩
    obtain ⟨nRa, nRd⟩ := hh.ne hR
    refine ⟨_, rfl, _, _, rfl, rfl, ⟨by omega, by omega, by decide⟩, _, rfl, ?_⟩
    rw [shl_one]
    generalize hN : 2 ^ n = N at hp ⊢
    refine ⟨by omega, by omega, for_range (lo := 0) (n := _) (fun i σ H' => ∃ (y5 y6 : Option V) (ws : List V) (tabs : List (List (List Bool))), σ = [some (.ref a), some (.int (n : Int)), some (.int (l : Int)), some (.int (m : Int)), some (.ref R), y5, y6] ∧ tabs.length = i ∧
      (∀ rows ∈ tabs, rows.length = 2 ^ l ∧ ∀ r ∈ rows, r.length = m) ∧ ws.length = i ∧ DpAll K (off R (off a H')) ws (tabs.map rowsD) ∧ Hnd H' a d ∧ Keep a H H' ∧ H' R = some (.lst ws)) ?_ ?_ ?_⟩
    · exact ⟨none, none, [], [], rfl, rfl, fun r hr => (nomatch hr), rfl, DpAll.nil, hh.new hR, Keep.new hR, upd_same⟩
    · rintro i σ H' hi ⟨y5, y6, ws, tabs, rfl, ht, hts, hws, hdp, h1, h2, h3⟩
      refine ⟨_, rfl, .inl ⟨rfl, _, .inl (.inl h3)⟩, ?_⟩
      refine ⟨_, rfl, _, _, rfl, rfl, ⟨by omega, by omega, by decide⟩, _, rfl, ?_⟩
      rw [shl_one]
      generalize hL : 2 ^ l = L at hpl ⊢
      refine ⟨by omega, by omega, fun Dl hD => ?_⟩
      obtain ⟨nDa, nDd⟩ := h1.ne hD
      have nDR : Dl ≠ R := (ne_of_none h3 hD).symm
      refine lc_range (lo := 0) (n := _) (fun j H2 => ∃ rows : List (List Bool), rows.length = j ∧ (∀ r ∈ rows, r.length = m) ∧ Hnd H2 a d ∧ Keep a H' H2 ∧ H2 R = some (.lst ws) ∧ H2 Dl = some (.lst (rows.map fun r => V.str (sb r)))) ?_ ?_ ?_
      · exact ⟨[], rfl, fun r hr => (nomatch hr), h1.new hD, Keep.new hD, by rw [upd_ne nDR.symm]; exact h3, upd_same⟩
      · rintro j H2 hj ⟨rows, hl', hr, g1, g2, g3, g4⟩
        refine ⟨rfl, ?_⟩
        refine ⟨_, rfl, _, rfl, a, d, m, rfl, by omega, g1, fun bs H3 hb hh3 hk3 => ⟨_, hk3 _ _ g4 nDa, ?_, ?_⟩⟩
        · rw [List.length_map]
          exact Nat.lt_of_lt_of_le (show rows.length < 10000 by omega) (by decide)
        · refine ⟨rows ++ [bs], by rw [List.length_append, hl']; rfl, ?_, hh3.set nDa nDd, (g2.trans hk3).set hD, ?_, ?_⟩
          · intro r hr'
            rcases List.mem_append.mp hr' with z | z
            · exact hr r z
            · rw [List.mem_singleton.mp z]
              exact hb
          · rw [upd_ne nDR.symm]
            exact hk3 _ _ g3 nRa
          · rw [upd_same, List.map_append]
            rfl
      · rintro H2 ⟨rows, hl', hr, g1, g2, g3, g4⟩
        have hl2 : rows.length = 2 ^ l := by
          rw [hl', hL]
          omega
        refine ⟨Dl, _, rfl, .inl ⟨.inl (.inl g4), fun t nt => ⟨R, ws, _, rfl, rfl, ?_, ?_, ?_⟩⟩⟩
        · rw [upd_ne (ne_of_none g3 nt)]
          exact g3
        · exact Nat.lt_of_lt_of_le (show ws.length < 10000 by omega) (by decide)
        · obtain ⟨nta, ntd⟩ := g1.ne nt
          have ntR : t ≠ R := (ne_of_none g3 nt).symm
          have kk : Keep a H' (upd H2 t (.tup (rows.map fun r => V.str (sb r)))) := g2.trans (Keep.new nt)
          refine ⟨_, _, ws ++ [.ref t], tabs ++ [rows], rfl, by rw [List.length_append, ht]; rfl, ?_, by rw [List.length_append, hws]; rfl, ?_, (g1.new nt).set nRa nRd, (h2.trans kk).set hR, upd_same⟩
          · intro rows' hr'
            rw [← hL]
            rcases List.mem_append.mp hr' with z | z
            · exact hts _ z
            · rw [List.mem_singleton.mp z]
              exact ⟨hl2, hr⟩
          · rw [off_upd, List.map_append]
            refine dpAll_snoc (dps_same (off_mono kk.off) _ hdp) ?_
            refine .tup (.inl (.inl ?_)) (dp_bits rows)
            rw [off_ne ntR, off_ne nta, upd_same]
    · rintro σ H' ⟨y5, y6, ws, tabs, rfl, ht, hts, hws, hdp, h1, h2, h3⟩
      have hl2 : tabs.length = 2 ^ n := by
        rw [ht, hN]
        omega
      refine ⟨_, rfl, _, rfl, _, rfl, _, rfl, R, _, rfl, .inl ⟨.inl (.inl h3), fun t nt => ⟨(by show 5 ≤ sizeLine; decide), fun p np => ?_⟩⟩⟩
      have ht1 := h1.ne nt
      have h1' := h1.new (o := .tup ws) nt
      have hp1 := h1'.ne np
      refine q _ tabs _ hl2 hts ?_ (h1'.new np) ((h2.trans (Keep.new nt)).trans (Keep.new np))
      have e1 : off a (upd (upd H' t (.tup ws)) p (.tup [.str "function", .int (n : Int), .int (l : Int), .int (m : Int), .ref t])) p = some (.tup [.str "function", .int (n : Int), .int (l : Int), .int (m : Int), .ref t]) := by
        rw [off_ne hp1.1, upd_same]
      have e2 : off a (upd (upd H' t (.tup ws)) p (.tup [.str "function", .int (n : Int), .int (l : Int), .int (m : Int), .ref t])) t = some (.tup ws) := by
        rw [off_ne ht1.1, upd_ne (ne_of_none upd_same np), upd_same]
      have e3 : Same (off R (off a H')) (off a (upd (upd H' t (.tup ws)) p (.tup [.str "function", .int (n : Int), .int (l : Int), .int (m : Int), .ref t]))) := fun b o e => (((Keep.new nt).trans (Keep.new np)).off) b o (off_same R _ b o e)
      exact .tup (.inl (.inl e1)) (.cons (.str _) (.cons (.int _) (.cons (.int _) (.cons (.int _) (.cons (.tup (.inl (.inl e2)) (dps_same e3 _ hdp)) .nil)))))

theorem ok_double {f : Addr} {fd : FuncData} (D : Df K mg "double_openings" s_double_openings ["block"] f fd) (T : Txt K mg cs) (c_check_block : Cl P w K mg base (L2.CX P w) 3 "check_block" (spCheck K cs.BadBlock))
    (c_bits : Cl P w K mg base CX0 1 "bits" spBits) (c_number_of : Cl P w K mg base CX0 1 "number_of" spNumber) : FnOk P w K mg base (L2.CX P w) 4 f fd ["block"] (spDouble K cs.BadBlock) := by
  refine D.fn.okX sc_double_openings (fun vs H Q E h => ?_) (fun cdv A outer s H vs Q E hr h => ?_)
  · obtain ⟨v, d, n, rfl, _⟩ := h
    rfl
  · obtain ⟨v, d, n, rfl, hd, hg, hn, q⟩ := h
    have tk := takes_of (X := cxOf (L2.CX P w) P w K mg base ["block", "numbers", "found", "row", "first", "second", "number"] "double_openings" (defScope s_double_openings) f cdv A outer s H E) (E := E) rfl rfl rfl rfl
    refine ⟨_, (pss_cons (ps_expr (pe_clX c_check_block hr (by first | decide | omega) (by rfl) tk (pa_cons (pv 0) pa_nil))) (pss_cons (ps_if (pt_cmpR op_ne (pe_ix (ixT K) (pv 0) pe_int (fun _ _ => rfl)) pe_str (nomark _)) (pss_one (ps_raiseE T.x_BadBlock rfl tk (by rfl))) pss_nil) (pss_cons (ps_set (i := 1) sc_double_openings.nd rfl (.inr rfl) (pe_callB (cr_sortS rfl) (by rfl) T.n_sorted (by decide +kernel) (pa_cons (pe_callTy (crSetL K rfl) (by rfl) T.n_set (by decide +kernel) (pa_cons (pe_lc (own := [("row", 3)]) (g := gName 3) (tt := tYes) rfl sc_double_openings.nd (pi_tup (pe_ix (ixT K) (pv 0) pe_int (fun _ _ => rfl))) (blkOk_by (own := [("row", 3)]) (N := ["block", "numbers", "found", "row", "first", "second", "number"]) (sc := defScope s_double_openings) (by decide +kernel)) (fun _ _ _ _ _ => (pg_name (i := 3) sc_double_openings.nd rfl (.inl rfl))) (fun _ _ _ _ _ => pts_nil) (fun _ _ _ _ _ => (pe_cl c_number_of hr (by first | decide | omega) (by rfl) (pa_cons (pv 3) pa_nil)))) pa_nil)) pa_nil))) (pss_cons (ps_set (i := 2) sc_double_openings.nd rfl (.inl rfl) (pe_callB (cr_sortS rfl) (by rfl) T.n_sorted (by decide +kernel) (pa_cons (pe_sc2 (own := [("first", 4), ("second", 5)]) (vs1 := [5]) (g := gName 4) (g1 := gName 5) (tt := tYes) (tt1 := tYes) rfl sc_double_openings.nd (pi_list (pv 1)) (blkOk_by (own := [("first", 4), ("second", 5)]) (N := ["block", "numbers", "found", "row", "first", "second", "number"]) (sc := defScope s_double_openings) (by decide +kernel)) (by decide) (fun _ _ _ _ _ => (pg_name (i := 4) sc_double_openings.nd rfl (.inl rfl))) (fun _ _ _ _ _ => pts_nil) (fun _ _ _ _ _ => (piL K (pv 1))) (fun _ _ _ _ _ => (pg_name (i := 5) sc_double_openings.nd rfl (.inl rfl))) (fun _ _ _ _ _ => pts_nil) (fun _ _ _ _ _ => (pe_op op_xor (pv 4) (pv 5)))) pa_nil))) (pss_one (ps_ret (pe_lc (own := [("number", 6)]) (g := gName 6) (tt := tYes) rfl sc_double_openings.nd (pi_list (pv 2)) (blkOk_by (own := [("number", 6)]) (N := ["block", "numbers", "found", "row", "first", "second", "number"]) (sc := defScope s_double_openings) (by decide +kernel)) (fun _ _ _ _ _ => (pg_name (i := 6) sc_double_openings.nd rfl (.inl rfl))) (fun _ _ _ _ _ => pts_nil) (fun _ _ _ _ _ => (pe_cl c_bits hr (by first | decide | omega) (by rfl) (pa_cons (pe_ix (ixT K) (pv 0) pe_int (fun _ _ => rfl)) (pa_cons (pv 6) pa_nil))))))))))), ?_⟩
    refine ⟨_, rfl, v, d, n, rfl, hd, hg, hn, fun H1 s1 => ⟨fun ok => ?_, fun no => ?_⟩⟩
    · rcases q with ⟨q0, q⟩ | ⟨n', m, rows, rfl, wf, n4, m6, q⟩
      · have hf : funOk d = true := by
          unfold blockOk at ok
          rw [q0] at ok
          exact ok
        obtain ⟨_, ds, rfl⟩ := fun_no_gen hf
        cases hd with
        | @tup a ws _ hT hA =>
          cases hA with
          | cons h0 hA =>
            cases h0
            refine ⟨_, rfl, a, _, 0, _, rfl, rfl, same_sqt s1 hT, at0, rfl, _, rfl, ?_⟩
            exact q H1 s1
      · obtain ⟨a, r, rfl, hT, hR⟩ := dp_tab hd
        have hT1 := same_sqt s1 hT
        refine ⟨_, rfl, a, _, 0, _, rfl, rfl, hT1, at0, rfl, _, rfl, ?_⟩
        have hR1 : SqT K H1 r (rowV rows) := same_sqt s1 hR
        have n16 : rows.length ≤ 16 := by
          rw [wf.len]
          exact two_pow_le (b := 4) n4
        refine ⟨_, rfl, a, _, 3, _, rfl, rfl, hT1, rfl, r, rfl, ⟨_, hR1⟩, fun L nL => ?_⟩
        refine lc_tup (xs := rowV rows) (fun i H' => Same H1 H' ∧ H' L = some (.lst ((rows.take i).map fun b => V.int ((val b : Nat) : Int)))) ?_ (fun i H' _ h => same_sqt h.1 hR1) ?_ ?_
        · exact ⟨same_new nL, upd_same⟩
        · rintro i x H' hx ⟨h1, h2⟩
          obtain ⟨b, hb, rfl⟩ := rowV_at hx
          have lb := wf.row b (List.mem_of_getElem? hb)
          refine ⟨rfl, _, rfl, b, rfl, by omega, _, h2, ?_, same_set h1 nL, ?_⟩
          · rw [List.length_map, List.length_take, sizeLine_eq]
            omega
          · rw [upd_same, List.take_add_one, hb, List.map_append]
            rfl
        rintro H2 ⟨s2, hL⟩
        rw [rowV_len, List.take_length] at hL
        have nums : ∀ k : Int, k ∈ (rows.map fun b => ((val b : Nat) : Int)) ↔ ∃ b ∈ rows, ((val b : Nat) : Int) = k := fun k => List.mem_map
        have numl : (rows.map fun b => ((val b : Nat) : Int)).length = rows.length := List.length_map _
        refine ⟨L, rows.map fun b => ((val b : Nat) : Int), rfl, .inl (.inl (by rw [hL, List.map_map]; rfl)), by unfold scanBound; omega, fun p c np le => ?_⟩
        refine ⟨p, _, c, rfl, upd_same, fun ns N up mem len nN => ?_⟩
        have s3 := (s1.trans s2).trans ((same_new (o := SetO w p (fun j => decide (j ∈ rows.map fun b => ((val b : Nat) : Int))) c) np).trans (same_new (o := .lst (ns.map V.int)) nN))
        have hN : upd (upd H2 p (SetO w p (fun j => decide (j ∈ rows.map fun b => ((val b : Nat) : Int))) c)) N (.lst (ns.map V.int)) N = some (.lst (ns.map V.int)) := upd_same
        have hT3 := same_sqt ((s2.trans ((same_new (o := SetO w p (fun j => decide (j ∈ rows.map fun b => ((val b : Nat) : Int))) c) np).trans (same_new (o := .lst (ns.map V.int)) nN)))) hT1
        have memb : ∀ k, k ∈ ns ↔ ∃ b ∈ rows, ((val b : Nat) : Int) = k := fun k => (mem k).trans (by rw [decide_eq_true_eq]; exact nums k)
        have few : ns.length ≤ 16 := by omega
        show gName 1 (V.ref N) _ (upd (upd H2 p (SetO w p (fun j => decide (j ∈ rows.map fun b => ((val b : Nat) : Int))) c)) N (.lst (ns.map V.int))) _
        generalize upd (upd H2 p (SetO w p (fun j => decide (j ∈ rows.map fun b => ((val b : Nat) : Int))) c)) N (.lst (ns.map V.int)) = H3 at s3 hN hT3
        clear nN up mem len np le hL s2 nL
        refine ⟨_, rfl, N, rfl, ⟨_, .inl (.inl hN)⟩, fun D nD => ?_⟩
        have num : ∀ {G : Hp} {j : Nat} (lt : j < ns.length) {x : V}, Same H3 G → (∀ xs, SqL K G N xs → xs[j]? = some x) → x = .int ns[j] := fun {G j} lt {x} sG y => by
          have e := y _ (.inl (.inl (sG _ _ hN)))
          rw [List.getElem?_map, List.getElem?_eq_getElem lt] at e
          exact (Option.some.inj e).symm
        have has : ∀ {G : Hp} {j : Nat} (lt : j < ns.length), Same H3 G → ∃ xs x, SqL K G N xs ∧ xs[j]? = some x := fun {G j} lt sG => ⟨_, V.int ns[j], .inl (.inl (sG _ _ hN)), by rw [List.getElem?_map, List.getElem?_eq_getElem lt]; rfl⟩
        have ends : ∀ {G : Hp} {j : Nat}, ¬ j < ns.length → Same H3 G → ∃ xs, SqL K G N xs ∧ xs.length ≤ j := fun {G j} lt sG => ⟨_, .inl (.inl (sG _ _ hN)), by rw [List.length_map]; omega⟩
        refine ⟨fun i c H' => c = ns.length - i ∧ i ≤ ns.length ∧ Same H3 H' ∧ ∃ S c, H' D = some (SetO w D S c) ∧ c ≤ i * ns.length ∧ ∀ k, S k = true ↔ Met ns i 0 k, ⟨ns.length - 0, rfl, Nat.zero_le _, same_new nD, _, _, upd_same, Nat.zero_le _, fun k => ⟨fun z => Bool.noConfusion z, fun z => absurd z met0⟩⟩, ?_⟩
        rintro i c4 H4 ⟨rfl, hi, s4, S, c, h2, h3, h4⟩
        have room : i * ns.length ≤ 16 * 16 := Nat.mul_le_mul (by omega) few
        by_cases lt : i < ns.length
        · refine .inr ⟨has lt s4, fun H' => Same H3 H' ∧ ∃ S c, H' D = some (SetO w D S c) ∧ c ≤ (i + 1) * ns.length ∧ ∀ k, S k = true ↔ Met ns (i + 1) 0 k, fun H' p' => ⟨ns.length - (i + 1), by omega, rfl, lt, p'⟩, fun x H5 y => ?_⟩
          obtain ⟨rfl, y⟩ := y
          obtain rfl := num lt s4 y
          refine ⟨rfl, _, rfl, N, rfl, ⟨_, .inl (.inl (s4 _ _ hN))⟩, ?_⟩
          refine ⟨fun j c H' => c = ns.length - j ∧ j ≤ ns.length ∧ Same H3 H' ∧ ∃ S c, H' D = some (SetO w D S c) ∧ c ≤ i * ns.length + j ∧ ∀ k, S k = true ↔ Met ns i j k, ⟨ns.length - 0, rfl, Nat.zero_le _, s4, S, c, h2, h3, h4⟩, ?_⟩
          rintro j c6 H6 ⟨rfl, hj, s6, S6, c6, g2, g3, g4⟩
          by_cases lt2 : j < ns.length
          · refine .inr ⟨has lt2 s6, fun H' => Same H3 H' ∧ ∃ S c, H' D = some (SetO w D S c) ∧ c ≤ i * ns.length + (j + 1) ∧ ∀ k, S k = true ↔ Met ns i (j + 1) k, fun H' p' => ⟨ns.length - (j + 1), by omega, rfl, lt2, p'⟩, fun x H7 y => ?_⟩
            obtain ⟨rfl, y⟩ := y
            obtain rfl := num lt2 s6 y
            refine ⟨rfl, _, rfl, _, rfl, _, _, rfl, rfl, _, S6, c6, rfl, g2, by unfold scanBound; omega, same_set s6 nD, _, _, upd_same, by split <;> omega, fun k => ?_⟩
            rw [met_step (List.getElem?_eq_getElem lt) (List.getElem?_eq_getElem lt2), ← g4 k, Bool.or_eq_true, decide_eq_true_eq]
          · have e : j = ns.length := by omega
            subst e
            exact .inl ⟨ends lt2 s6, s6, S6, c6, g2, by rw [Nat.succ_mul]; exact g3, fun k => (g4 k).trans met_row⟩
        · have e : i = ns.length := by omega
          subst e
          refine .inl ⟨ends lt s4, D, S, c, rfl, h2, fun ms F up mem len nF => ?_⟩
          obtain rfl := opens_ints wf memb up fun k => (mem k).trans (h4 k)
          have s5 := s4.trans (same_new (o := .lst (((opens m rows).map fun k : Nat => (k : Int)).map V.int)) nF)
          have hF : upd H4 F (.lst (((opens m rows).map fun k : Nat => (k : Int)).map V.int)) F = some (.lst (((opens m rows).map fun k : Nat => (k : Int)).map V.int)) := upd_same
          show gName 2 (V.ref F) _ (upd H4 F (.lst (((opens m rows).map fun k : Nat => (k : Int)).map V.int))) _
          generalize upd H4 F (.lst (((opens m rows).map fun k : Nat => (k : Int)).map V.int)) = H5 at s5 hF
          have hT5 := same_sqt s5 hT3
          have m64 : (opens m rows).length ≤ 2 ^ 6 := Nat.le_trans (opens_len m rows) (two_pow_le m6)
          refine ⟨_, rfl, F, rfl, ⟨_, .inl (.inl hF)⟩, fun R nR => ?_⟩
          refine lc_list (xs := ((opens m rows).map fun k : Nat => (k : Int)).map V.int) (fun i H' => Same H5 H' ∧ H' R = some (.lst (rowV (((opens m rows).take i).map (toB m))))) ?_ (fun i H' _ h => .inl (.inl (h.1 _ _ hF))) ?_ ?_
          · exact ⟨same_new nR, upd_same⟩
          · rintro i x H' hx ⟨h1, h2⟩
            rw [List.getElem?_map, List.getElem?_map] at hx
            obtain ⟨y, hy, rfl⟩ := Option.map_eq_some_iff.mp hx
            obtain ⟨k, hk, rfl⟩ := Option.map_eq_some_iff.mp hy
            have kl : k < 2 ^ m := by
              have := (List.mem_filter.mp (List.mem_of_getElem? hk)).1
              exact List.mem_range.mp this
            refine ⟨rfl, _, rfl, a, _, 2, _, rfl, rfl, same_sqt h1 hT5, rfl, _, rfl, m, k, rfl, by omega, kl, _, h2, ?_, same_set h1 nR, ?_⟩
            · rw [rowV_len, List.length_map, List.length_take, sizeLine_eq]
              omega
            · rw [upd_same, List.take_add_one, hk, List.map_append, rowV_append]
              rfl
          · rintro H' ⟨h1, h2⟩
            rw [List.length_map, List.length_map, List.take_length] at h2
            have hq := (s3.trans s5)
            exact q R H' (free_of hq nR) (hq.trans h1) h2
    · rcases q with ⟨_, q⟩ | ⟨n', m, rows, rfl, wf, q⟩
      · exact q H1 s1
      · rw [wf_block wf] at no
        cases no

theorem ok_lawbitsS {f : Addr} {fd : FuncData} (D : Df K mg "_law_bits" s_law_bits ["length", "number"] f fd) (T : Txt K mg cs) : FnOk P w K mg base CX0 1 f fd ["length", "number"] spBitsS := by
  refine D.fn.ok sc_law_bits (fun vs H Q E h => ?_) (fun cdv A outer s H vs Q E hr h => ?_)
  · obtain ⟨n, k, rfl, _⟩ := h
    rfl
  · obtain ⟨n, k, rfl, hn, q⟩ := h
    refine ⟨_, (pss_cons (ps_set (i := 2) sc_law_bits.nd rfl (.inl rfl) pe_str) (pss_cons (ps_for PassesOwn.never rfl (pi_range1 (by rfl) T.n_range (pa_cons (pv 0) pa_nil)) (pg_name (i := 3) sc_law_bits.nd rfl (.inl rfl)) (pss_one (ps_set (i := 2) sc_law_bits.nd rfl (.inl rfl) (pe_op op_add_str (pe_callTy call_str_int (by rfl) T.n_str (by decide +kernel) (pa_cons (pe_op op_sub (pe_op op_fdiv (pv 1) (pe_op op_shl pe_int (pv 3))) (pe_op op_mul (pe_op op_fdiv (pv 1) (pe_op op_shl pe_int (pv 3))) pe_int)) pa_nil)) (pv 2))))) (pss_one (ps_ret (pv 2))))), ?_⟩
    refine ⟨_, rfl, _, rfl, by omega, by omega, for_range (lo := 0) (n := n) (fun i σ H' => ∃ (y : Option V), σ = [some (.int (n : Int)), some (.int (k : Int)), some (.str (sb (toB i k))), y] ∧ i ≤ n ∧ H' = H) ?_ ?_ ?_⟩
    · exact ⟨none, rfl, Nat.zero_le _, rfl⟩
    · rintro i σ H' hi ⟨y, rfl, hin, rfl⟩
      rw [show ((0 : Int) + (i : Int)) = (i : Int) from Int.zero_add _]
      have hp : 2 ^ i ≤ 2 ^ 20 := two_pow_le (by omega)
      have hp0 : 0 < 2 ^ i := Nat.two_pow_pos i
      have e1 : (1 : Int) * 2 ^ (i : Int).toNat = ((2 ^ i : Nat) : Int) := shl_one i
      have e2 : (2 : Int) * 2 ^ (i : Int).toNat = ((2 ^ (i + 1) : Nat) : Int) := by
        rw [Int.toNat_natCast, Nat.pow_succ', Int.natCast_mul, Int.natCast_pow]
        rfl
      have hp1 : 2 ^ (i + 1) ≤ 2 ^ 21 := two_pow_le (by omega)
      have hp10 : 0 < 2 ^ (i + 1) := Nat.two_pow_pos (i + 1)
      refine ⟨_, rfl, _, rfl, _, _, rfl, rfl, ⟨by omega, by omega, by decide⟩, ?_⟩
      have ev : (k : Int) / (1 * 2 ^ (i : Int).toNat) - (k : Int) / (2 * 2 ^ (i : Int).toNat) * 2 = ((k / 2 ^ i : Nat) : Int) % 2 := by
        rw [e1, e2, ← Int.natCast_ediv, ← Int.natCast_ediv, Nat.pow_succ, ← Nat.div_div_eq_div_mul]
        omega
      have hd : ∀ {j : Nat}, j ≤ 21 → CDiv (k : Int) ((2 ^ j : Nat) : Int) := fun {j} hj => by
        have h1 : 2 ^ j ≤ 2 ^ 21 := two_pow_le hj
        have h2 : 0 < 2 ^ j := Nat.two_pow_pos j
        have h3 : ((2 ^ j : Nat) : Int) < 1073741824 := by omega
        exact ⟨by omega, h3⟩
      refine ⟨_, _, rfl, rfl, ?_, _, rfl, _, rfl, _, _, rfl, rfl, ⟨by omega, by omega, by decide⟩, _, _, rfl, rfl, ?_, _, _, rfl, rfl, .inr ⟨by decide, by decide⟩, _, _, rfl, rfl, ?_⟩
      · show CDiv _ (1 * 2 ^ (i : Int).toNat)
        rw [e1]
        exact hd (by omega)
      · show CDiv _ (2 * 2 ^ (i : Int).toNat)
        rw [e2]
        exact hd (by omega)
      dsimp only
      rw [ev]
      refine ⟨_, rfl, ?_, _, rfl, _, _, rfl, rfl, ?_, ?_⟩
      · have h2 : (((k / 2 ^ i : Nat) : Int) % 2).natAbs < 2 := by omega
        have : (((k / 2 ^ i : Nat) : Int) % 2).natAbs.log2 ≤ (((k / 2 ^ i : Nat) : Int) % 2).natAbs := Nat.log2_le_self _
        omega
      · rw [str_bit, sb_len, sb_len, toB_len, sizeLine_eq]
        show 1 + i ≤ 16777216
        omega
      · rw [str_bit, sb_cat, show [k / 2 ^ i % 2 == 1] ++ toB i k = toB (i + 1) k from (toB_front i k).symm]
        exact ⟨_, rfl, by omega, rfl⟩
    · rintro σ H' ⟨y, rfl, hin, rfl⟩
      exact ⟨_, rfl, q⟩

theorem ok_numL {f : Addr} {fd : FuncData} (D : Df K mg "_law_number" s_law_number ["string"] f fd) (T : Txt K mg cs) : FnOk P w K mg base CX0 1 f fd ["string"] (spNumL K) := by
  refine D.fn.ok sc_law_number (fun vs H Q E h => ?_) (fun cdv A outer s H vs Q E hr h => ?_)
  · obtain ⟨L, bs, rfl, _⟩ := h
    rfl
  · obtain ⟨L, bs, rfl, hL, hl, q⟩ := h
    refine ⟨_, (pss_cons (ps_set (i := 1) sc_law_number.nd rfl (.inl rfl) pe_int) (pss_cons (ps_for PassesOwn.never rfl (pi_list (pv 0)) (pg_name (i := 2) sc_law_number.nd rfl (.inl rfl)) (pss_one (ps_set (i := 1) sc_law_number.nd rfl (.inl rfl) (pe_op op_add (pe_op op_mul pe_int (pv 1)) (pe_callTy call_int_str (by rfl) T.n_int (by decide +kernel) (pa_cons (pv 2) pa_nil)))))) (pss_one (ps_ret (pv 1))))), ?_⟩
    refine ⟨_, rfl, L, rfl, ⟨_, hL⟩, for_list (xs := bs.map fun b => V.str (sb [b])) (fun i σ H' => ∃ y2 : Option V, σ = [some (.ref L), some (.int ((val (bs.take i) : Nat) : Int)), y2] ∧ H' = H) ?_ ?_ ?_ ?_⟩
    · exact ⟨none, rfl, rfl⟩
    · rintro i σ H' hi ⟨y2, rfl, rfl⟩
      exact hL
    · rintro i x σ H' hx ⟨y2, rfl, rfl⟩
      rw [List.getElem?_map] at hx
      obtain ⟨b, hb, rfl⟩ := Option.map_eq_some_iff.mp hx
      obtain ⟨hi, rfl⟩ := List.getElem?_eq_some_iff.mp hb
      have ei : PySem.intText? (sb [bs[i]]) = some ((bit bs[i] : Nat) : Int) := by
        cases bs[i] <;> decide +kernel
      refine ⟨_, rfl, _, _, rfl, rfl, .inl ⟨by decide, by decide⟩, _, rfl, _, _, rfl, ei, (by show 1 ≤ 640; decide), _, _, rfl, rfl, some (.str (sb [bs[i]])), ?_, rfl⟩
      show [_, some (V.int _), _] = _
      rw [val_take bs i hi]
      rw [show (2 : Int) * ((val (bs.take i) : Nat) : Int) + ((bit bs[i] : Nat) : Int) = ((2 * val (bs.take i) + bit bs[i] : Nat) : Int) by omega]
    · rintro σ H' ⟨y2, rfl, rfl⟩
      rw [List.length_map, List.take_length]
      exact ⟨_, rfl, q⟩
theorem ok_ref30 {f : Addr} {fd : FuncData} (D : Df K mg "_law_refused" s_law_refused ["block"] f fd) (T : Txt K mg cs) (c_double_openings : Cl P w K mg base (L2.CX P w) 4 "double_openings" (spDouble K cs.BadBlock)) : FnOk P w K mg base CX0 5 f fd ["block"] (spRef30 K) := by
  refine D.fn.ok sc_law_refused (fun vs H Q E h => ?_) (fun cdv A outer s H vs Q E hr h => ?_)
  · obtain ⟨v, rfl, _⟩ := h
    rfl
  · obtain ⟨v, rfl, ⟨D', k, hd, hg, hk, hb⟩, q⟩ := h
    refine ⟨_, (pss_cons (ps_try_as (i := 1) (Wout := fun _ _ _ _ => False) rfl rfl sc_law_refused.nd rfl rfl ⟨rfl, by decide, .inl T.gl_BadBlock⟩ takes0 (fun W pn xe tk _ => (pss_one (ps_expr (pe_clX c_double_openings hr (by first | decide | omega) (by rfl) tk (pa_cons (pv 0) pa_nil))))) (fun a oe cls d pn hz hf => pss_when (C := cs.BadBlock) hz fun hz => (pss_one (ps_ret (pe_and (pe_callB (call_isE T.e_BadBlock hz hf) (by rfl) T.n_isinstance (by decide +kernel) (pa_cons (pv 1) (pa_cons (pe_glob (v := .ref cs.BreakError) (by rfl) T.gl_BreakError rfl) pa_nil))) (pe_one (pe_callB (call_isE T.e_BadBlock hz hf) (by rfl) T.n_isinstance (by decide +kernel) (pa_cons (pv 1) (pa_cons (pe_ty "ValueError" (by rfl) T.n_ValueError (by decide +kernel)) pa_nil))))))))) (pss_one (ps_ret pe_bl))), ?_⟩
    refine ⟨_, rfl, v, D', k, rfl, hd, gh_gd hg, hk, .inl ⟨hb, fun H1 s1 => ?_⟩⟩
    refine ⟨true, T.exm_BadBlock_BadBlock, fun _ a na => ⟨⟨rfl, rfl⟩, ?_⟩, fun q => nomatch q⟩
    refine ⟨_, rfl, _, _, true, rfl, fun u hu => hu, T.kit_BadBlock_BreakError, ?_⟩
    refine ⟨_, rfl, ?_⟩
    exact ⟨_, rfl, _, _, true, rfl, fun u hu => hu, T.kit_BadBlock_ValueError, q H1 s1⟩

theorem ok_whole30 {f : Addr} {fd : FuncData} (D : Df K mg "_law_whole" s_law_whole ["script"] f fd) (T : Txt K mg cs) (c_law_draws : Cl P w K mg base CX0 1 "_law_draws" (spDraws K)) (c_law_take : Cl P w K mg base CX0 1 "_law_take" spTake)
    (c_law_table : Cl P w K mg base CX0 3 "_law_table" (spTable K)) (c_law_function : Cl P w K mg base CX0 3 "_law_function" (spFunction K)) (c_law_bits : Cl P w K mg base CX0 1 "_law_bits" spBitsS) (c_law_number : Cl P w K mg base CX0 1 "_law_number" (spNumL K))
    (c_double_openings : Cl P w K mg base (L2.CX P w) 4 "double_openings" (spDouble K cs.BadBlock)) (k_double_openings : Ck P w K mg base (L2.CX P w) 4 0 "double_openings" ["block"] (fun _ zs => zs) (spDouble K cs.BadBlock)) (c_law_refused : Cl P w K mg base CX0 5 "_law_refused" (spRef30 K)) :
    FnOk P w K mg base CX0 6 f fd ["script"] (spLaw K) := by
  refine D.fn.ok sc_law_whole (fun vs H Q E h => ?_) (fun cdv A outer s H vs Q E hr h => ?_)
  · obtain ⟨a, ns, rfl, _⟩ := h
    rfl
  · obtain ⟨a, ns, rfl, hS, hlen, q⟩ := h
    refine ⟨_, (pss_cons (ps_set (i := 1) sc_law_whole.nd rfl (.inl rfl) (pe_lst (pa_cons (pe_cl c_law_draws hr (by first | decide | omega) (by rfl) (pa_cons (pv 0) (pa_cons pe_int pa_nil))) (pa_cons pe_int pa_nil)))) (pss_cons (ps_set (i := 2) sc_law_whole.nd rfl (.inl rfl) (pe_op op_add pe_int (pe_cl c_law_take hr (by first | decide | omega) (by rfl) (pa_cons (pv 1) (pa_cons pe_int pa_nil))))) (pss_cons (ps_set (i := 3) sc_law_whole.nd rfl (.inr rfl) (pe_op op_add pe_int (pe_cl c_law_take hr (by first | decide | omega) (by rfl) (pa_cons (pv 1) (pa_cons pe_int pa_nil))))) (pss_cons (ps_set (i := 4) sc_law_whole.nd rfl (.inl rfl) (pe_cl c_law_table hr (by first | decide | omega) (by rfl) (pa_cons (pv 1) (pa_cons (pv 2) (pa_cons (pv 3) pa_nil))))) (C8.pss_cut (ps_if (pt_cmpR op_eq (pe_cl c_law_take hr (by first | decide | omega) (by rfl) (pa_cons (pv 1) (pa_cons pe_int pa_nil))) pe_int (nomark _)) (pss_cons (ps_set (i := 5) sc_law_whole.nd rfl (.inl rfl) (pe_callTy (listOf K) (by rfl) T.n_list (by decide +kernel) (pa_cons (pe_ix (ixT K) (pv 4) pe_int (fun _ _ => rfl)) pa_nil))) (pss_cons (ps_asg (pe_ix (ixL K) (pv 5) (pe_cl c_law_take hr (by first | decide | omega) (by rfl) (pa_cons (pv 1) (pa_cons (pe_callB (lenS K) (by rfl) T.n_len (by decide +kernel) (pa_cons (pv 5) pa_nil)) pa_nil))) (fun _ _ => rfl)) (pg_sub (pv 5) (pe_cl c_law_take hr (by first | decide | omega) (by rfl) (pa_cons (pv 1) (pa_cons (pe_callB (lenS K) (by rfl) T.n_len (by decide +kernel) (pa_cons (pv 5) pa_nil)) pa_nil))) set_list)) (pss_one (ps_set (i := 4) sc_law_whole.nd rfl (.inl rfl) (pe_tup (pa_cons pe_str (pa_cons (pv 2) (pa_cons (pv 3) (pa_cons (pe_callTy (tupOf K) (by rfl) T.n_tuple (by decide +kernel) (pa_cons (pv 5) pa_nil)) pa_nil))))))))) pss_nil) (pss_cons (ps_set (i := 6) sc_law_whole.nd rfl (.inr rfl) (pe_op op_rep (pe_lst (pa_cons pe_int pa_nil)) (pe_op op_shl pe_int (pv 3)))) (pss_cons (ps_for PassesOwn.never rfl (pi_tup (pe_ix (ixT K) (pv 4) pe_int (fun _ _ => rfl))) (pg_name (i := 7) sc_law_whole.nd rfl (.inr rfl)) (pss_one (ps_for PassesOwn.never rfl (pi_tup (pe_ix (ixT K) (pv 4) pe_int (fun _ _ => rfl))) (pg_name (i := 8) sc_law_whole.nd rfl (.inr rfl)) (pss_one (ps_asg pe_int (pg_sub (pv 6) (pe_cl c_law_number hr (by first | decide | omega) (by rfl) (pa_cons (pe_lc (own := [("k", 12)]) (g := gName 12) (tt := tYes) rfl sc_law_whole.nd (pi_range1 (by rfl) T.n_range (pa_cons (pv 3) pa_nil)) (blkOk_by (own := [("k", 12)]) (N := ["script", "hand", "n", "m", "block", "rows", "marks", "one", "other", "due", "answer", "odd", "k", "number"]) (sc := defScope s_law_whole) (by decide +kernel)) (fun _ _ _ _ _ => (pg_name (i := 12) sc_law_whole.nd rfl (.inl rfl))) (fun _ _ _ _ _ => pts_nil) (fun _ _ _ _ _ => (pe_callTy call_str_int (by rfl) T.n_str (by decide +kernel) (pa_cons (pe_callTy call_int1 (by rfl) T.n_int (by decide +kernel) (pa_cons (pe_cmpR op_ne (pe_ix ix_str (pv 7) (pv 12) (fun _ _ => rfl)) (pe_ix ix_str (pv 8) (pv 12) (fun _ _ => rfl)) (nomark _)) pa_nil)) pa_nil)))) pa_nil)) set_list)))))) (pss_cons (ps_setLc (i := 9) (own := [("number", 13)]) (g := gName 13) (tt := _) rfl sc_law_whole.nd rfl rfl (sw_true rfl rfl rfl (by decide +kernel)) (pi_range1 (by rfl) T.n_range (pa_cons (pe_op op_shl pe_int (pv 3)) pa_nil)) (blkOk_by (own := [("number", 13)]) (N := ["script", "hand", "n", "m", "block", "rows", "marks", "one", "other", "due", "answer", "odd", "k", "number"]) (sc := defScope s_law_whole) (by decide +kernel)) (fun _ _ _ _ _ => (pg_name (i := 13) sc_law_whole.nd rfl (.inl rfl))) (fun _ _ _ _ _ => pts_one (pt_cmpR op_eq (pe_ix (ixL K) (pv 6) (pv 13) (fun _ _ => rfl)) pe_int (nomark _))) (fun _ _ _ _ _ => (pe_cl c_law_bits hr (by first | decide | omega) (by rfl) (pa_cons (pv 3) (pa_cons (pv 13) pa_nil))))) (pss_cons (ps_set (i := 10) sc_law_whole.nd rfl (.inl rfl) (pe_clX c_double_openings hr (by first | decide | omega) (by rfl) takes0 (pa_cons (pv 4) pa_nil))) (pss_cons (ps_if (PW.pt (pw_or (pt_not (pt_val (pe_callB (isiK K) (by rfl) T.n_isinstance (by decide +kernel) (pa_cons (pv 10) (pa_cons (pe_ty "list" (by rfl) T.n_list (by decide +kernel)) pa_nil))))) (pw_or1 (pt_cmpR (op_neD hr.units) (pv 10) (pv 9) (nomark _))))) (pss_one (ps_ret pe_bl)) pss_nil) (pss_cons (ps_expr (pe_bm PySem.F.plainAttrs_list PySem.F.slot_list_append PySem.F.type_list_append mt_append (pv 10) (pa_cons pe_str pa_nil))) (pss_cons (ps_asg pe_str (pg_sub (pv 10) pe_int set_list)) (pss_cons (ps_if (pt_cmpR (op_neD hr.units) (pe_ckX0 k_double_openings hr (by first | decide | omega) (by rfl) (pk_cons (pv 4) pk_nil)) (pv 9) (nomark _)) (pss_one (ps_ret pe_bl)) pss_nil) (pss_cons (ps_set (i := 11) sc_law_whole.nd rfl (.inl rfl) (pe_lst (pa_cons (pe_cl c_law_function hr (by first | decide | omega) (by rfl) (pa_cons (pv 1) (pa_cons pe_int (pa_cons pe_int (pa_cons (pe_op op_add pe_int (pe_cl c_law_take hr (by first | decide | omega) (by rfl) (pa_cons (pv 1) (pa_cons pe_int pa_nil)))) pa_nil))))) (pa_cons (pe_tup (pa_cons pe_str (pa_cons (pv 2) (pa_cons (pv 3) (pa_cons (pe_slice (slTA K) (pe_ix (ixT K) (pv 4) pe_int (fun _ _ => rfl)) (po_some pe_int) po_none) pa_nil))))) (pa_cons pe_non (pa_cons (pe_callTy (listOf K) (by rfl) T.n_list (by decide +kernel) (pa_cons (pv 4) pa_nil)) (pa_cons (pe_tup pa_nil) pa_nil))))))) (pss_cons (ps_set (i := 11) sc_law_whole.nd rfl (.inl rfl) (pe_op op_cat (pv 11) (pe_lst (pa_cons (pe_tup (pa_cons pe_str (pa_cons (pv 2) (pa_cons (pv 3) (pa_cons (pe_callTy (listOf K) (by rfl) T.n_list (by decide +kernel) (pa_cons (pe_ix (ixT K) (pv 4) pe_int (fun _ _ => rfl)) pa_nil)) pa_nil))))) (pa_cons (pe_tup (pa_cons pe_str (pa_cons pe_bl (pa_cons (pv 3) (pa_cons (pe_ix (ixT K) (pv 4) pe_int (fun _ _ => rfl)) pa_nil))))) pa_nil))))) (pss_one (ps_ret (pe_cl c_law_refused hr (by first | decide | omega) (by rfl) (pa_cons (pe_ix (ixL K) (pv 11) (pe_cl c_law_take hr (by first | decide | omega) (by rfl) (pa_cons (pv 1) (pa_cons (pe_callB (lenS K) (by rfl) T.n_len (by decide +kernel) (pa_cons (pv 11) pa_nil)) pa_nil))) (fun _ _ => rfl)) pa_nil))))))))))))))))))), ?_⟩
    refine ⟨_, rfl, a, ns, 300, rfl, hS, hlen, by omega, fun d ds H1 nd s1 ed hd0 => ⟨(by show 2 ≤ sizeLine; decide), fun b nb => ?_⟩⟩
    have hn1 : Hnd (upd H1 b (.lst [.ref d, .int 0])) b d := ⟨ds, 0, upd_same, by rw [upd_ne (ne_of_none ed nb)]; exact ed, hd0, ne_of_none ed nb⟩
    generalize upd H1 b (.lst [.ref d, .int 0]) = H2 at hn1
    clear nb ed nd s1 hd0
    have q1 : ∀ H', Q (.bl true) H' := q
    clear q
    refine ⟨_, rfl, b, d, 4, rfl, by decide, hn1, fun r1 H3 l1 u1 hn3 k3 => ⟨_, _, rfl, rfl, ?_⟩⟩
    obtain ⟨n, en, hn⟩ : ∃ n : Nat, (1 : Int) + r1 = (n : Int) ∧ 1 ≤ n ∧ n ≤ 4 := ⟨(1 + r1).toNat, by omega, by omega, by omega⟩
    show gName 2 (V.int (1 + r1)) _ _ _
    rw [en]
    refine ⟨_, rfl, b, d, 6, rfl, by decide, hn3, fun r2 H4 l2 u2 hn4 k4 => ⟨_, _, rfl, rfl, ?_⟩⟩
    obtain ⟨m, em, hm⟩ : ∃ m : Nat, (1 : Int) + r2 = (m : Int) ∧ 1 ≤ m ∧ m ≤ 6 := ⟨(1 + r2).toNat, by omega, by omega, by omega⟩
    show gName 3 (V.int (1 + r2)) _ _ _
    rw [em]
    refine ⟨_, rfl, _, rfl, _, rfl, b, d, n, m, rfl, by omega, by omega, hn4, fun v1 rows1 H5 hl1 hr1 hd1 hn5 k5 => ?_⟩
    have wf : Wf n m rows1 := ⟨by omega, by omega, by omega, by omega, hl1, hr1⟩
    obtain ⟨p, t, rfl, -, -⟩ := dp_tab hd1
    clear k3 k4 k5 hn1 hn3 hn4 en em l1 u1 l2 u2 hl1 hr1
    have on : ∀ {H' : Hp} {v : V} {D : PyData}, Dp K (off b H') v D → Dp K H' v D := fun h => dp_same (off_same b _) _ h
    have pt : ∀ {G : Hp} {p : Addr} {rows : List (List Bool)}, Dp K (off b G) (.ref p) (tabD n m rows) → ∃ r, SqT K G p [.str "generator", .int (n : Int), .int (m : Int), .ref r] ∧ SqT K G r (rowV rows) := fun h => by
      obtain ⟨p, r, e, h1, h2⟩ := dp_tab h
      cases e
      exact ⟨r, sqt_on h1, sqt_on h2⟩
    refine ⟨fun σ2 H2 => ∃ (p : Addr) (rows : List (List Bool)) (y5 : Option V), σ2 = [some (.ref a), some (.ref b), some (.int (n : Int)), some (.int (m : Int)), some (.ref p), y5, none, none, none, none, none, none, none, none] ∧ Dp K (off b H2) (.ref p) (tabD n m rows) ∧ Wf n m rows ∧ Hnd H2 b d, ?_, ?_⟩
    · refine ⟨_, rfl, b, d, 3, rfl, by decide, hn5, fun r3 H6 _ _ hn6 k6 => ⟨rfl, _, rfl, ?_⟩⟩
      replace hd1 := dp_same k6.off _ hd1
      by_cases c : r3 = 0
      · rw [decide_eq_true (show V.int r3 = V.int 0 from congrArg V.int c)]
        obtain ⟨r, hP, hR⟩ := pt hd1
        have len0 : 0 < (rowV rows1).length := by
          rw [rowV_len, wf.len]
          exact Nat.two_pow_pos n
        refine ⟨_, rfl, p, _, 3, _, rfl, rfl, hP, rfl, r, rowV rows1, rfl, .inr hR, fun R nR => ?_⟩
        have hn7 := hn6.new (o := .lst (rowV rows1)) nR
        have neR := hn6.ne nR
        have hR7 : upd H6 R (.lst (rowV rows1)) R = some (.lst (rowV rows1)) := upd_same
        show gName 5 (V.ref R) _ (upd H6 R (.lst (rowV rows1))) _
        generalize upd H6 R (.lst (rowV rows1)) = H7 at hn7 hR7
        refine ⟨_, rfl, _, rfl, _, rfl, R, rowV rows1, rfl, .inl (.inl (.inl hR7)), b, d, _, rfl, by omega, hn7, fun r4 H8 l4 u4 hn8 k8 => ?_⟩
        have hR8 := k8 _ _ hR7 neR.1
        obtain ⟨x, hat, hm⟩ := atI_mem l4 u4
        refine ⟨R, rowV rows1, r4, x, rfl, rfl, .inl (.inl hR8), hat, ?_⟩
        refine ⟨_, rfl, _, rfl, _, rfl, R, rowV rows1, rfl, .inl (.inl (.inl hR8)), b, d, _, rfl, by omega, hn8, fun r5 H9 l5 u5 hn9 k9 => ?_⟩
        have hR9 := k9 _ _ hR8 neR.1
        obtain ⟨j, rfl, hj⟩ : ∃ j : Nat, r5 = (j : Int) ∧ j < (rowV rows1).length := ⟨r5.toNat, by omega, by omega⟩
        refine ⟨R, rowV rows1, (j : Int), j, rfl, rfl, hR9, ixN_of hj, ?_⟩
        obtain ⟨row, hrow, rfl⟩ := List.mem_map.mp hm
        have set_eq : (rowV rows1).set j (.str (sb row)) = rowV (rows1.set j row) := by
          unfold rowV
          rw [List.map_set]
        rw [set_eq]
        have wf2 : Wf n m (rows1.set j row) := ⟨wf.n1, wf.n2, wf.m1, wf.m2, by rw [List.length_set]; exact wf.len, fun z hz => by
          rcases List.mem_or_eq_of_mem_set hz with h | h
          · exact wf.row z h
          · rw [h]
            exact wf.row row hrow⟩
        refine ⟨_, rfl, _, rfl, _, rfl, R, _, rfl, .inl ⟨.inl (.inl upd_same), fun t nt => ⟨(by show 4 ≤ sizeLine; decide), fun p2 np => ?_⟩⟩⟩
        have hn10 := hn9.set (o := .lst (rowV (rows1.set j row))) neR.1 neR.2
        generalize upd H9 R (.lst (rowV (rows1.set j row))) = H10 at hn10 nt np
        have t1 := hn10.ne nt
        have hn11 := hn10.new (o := .tup (rowV (rows1.set j row))) nt
        have p1 := hn11.ne np
        refine ⟨p2, rows1.set j row, some (.ref R), rfl, ?_, wf2, hn11.new np⟩
        refine dp_gen (.inl (.inl (?_ : off b _ p2 = _))) (.inl (.inl (?_ : off b _ t = _)))
        · rw [off_ne p1.1, upd_same]
        · rw [off_ne t1.1, upd_ne (ne_of_none upd_same np), upd_same]
      · rw [decide_eq_false (show ¬ V.int r3 = V.int 0 from fun z => c (V.int.inj z))]
        exact ⟨p, rows1, none, rfl, hd1, wf, hn6⟩
    · rintro σ2 H6 ⟨p, rows, y5, rfl, hd6, wf6, hn6⟩
      obtain ⟨r, hP, hR⟩ := pt hd6
      have hp6 : 2 ^ m ≤ 64 := two_pow_le (b := 6) hm.2
      have rl : rows.length ≤ 16 := by
        rw [wf6.len]
        exact two_pow_le (b := 4) hn.2
      clear hd6 hd1 pt hn5
      refine ⟨(by show 1 ≤ sizeLine; decide), fun L nL => ⟨_, rfl, _, _, rfl, rfl, ⟨by omega, by omega, by decide⟩, ?_⟩⟩
      refine ⟨L, ((2 ^ m : Nat) : Int), [.int 0], rfl, congrArg V.int (shl_one m), upd_same, Int.le_trans (by decide) (Int.natCast_nonneg _), Int.lt_of_le_of_lt (Int.ofNat_le.mpr hp6) (by decide), ?_, fun M nM => ?_⟩
      · rw [Int.toNat_natCast, sizeLine_eq]
        show 1 * 2 ^ m ≤ _
        omega
      have s7 := (same_new (o := .lst [.int 0]) nL).trans (same_new (o := .lst (List.replicate ((2 ^ m : Nat) : Int).toNat [V.int 0]).flatten) nM)
      have hM7 : upd (upd H6 L (.lst [.int 0])) M (.lst (List.replicate ((2 ^ m : Nat) : Int).toNat [V.int 0]).flatten) M = some (.lst (marks m fun _ => false)) := by
        rw [upd_same, Int.toNat_natCast, List.flatten_replicate_singleton, marks_zero]
      have hn7 := hn6.same s7
      have neM := (hn6.new (o := .lst [.int 0]) nL).ne nM
      have got0 : Got K b d p r M n m rows (upd (upd H6 L (.lst [.int 0])) M (.lst (List.replicate ((2 ^ m : Nat) : Int).toNat [V.int 0]).flatten)) 0 0 := ⟨hn7, same_sqt s7 hP, same_sqt s7 hR, _, hM7, fun k _ => ⟨fun z => Bool.noConfusion z, fun z => absurd z met0⟩⟩
      show gName 6 (V.ref M) _ (upd (upd H6 L (.lst [.int 0])) M (.lst (List.replicate ((2 ^ m : Nat) : Int).toNat [V.int 0]).flatten)) _
      generalize upd (upd H6 L (.lst [.int 0])) M (.lst (List.replicate ((2 ^ m : Nat) : Int).toNat [V.int 0]).flatten) = H7 at got0
      clear s7 hM7 hn7 nM nL hP hR hn6
      have vlen : (rows.map fun b => ((val b : Nat) : Int)).length = (rowV rows).length := by rw [List.length_map, rowV_len]
      refine ⟨_, rfl, p, _, 3, _, rfl, rfl, got0.2.1, rfl, r, rfl, ⟨_, got0.2.2.1⟩, for_tup (xs := rowV rows) (fun i σ H' => ∃ y7 y8 : Option V, σ = [some (.ref a), some (.ref b), some (.int (n : Int)), some (.int (m : Int)), some (.ref p), y5, some (.ref M), y7, y8, none, none, none, none, none] ∧ Got K b d p r M n m rows H' i 0) ?_ ?_ ?_ ?_⟩
      · exact ⟨none, none, rfl, got0⟩
      · rintro i σ H' _ ⟨y7, y8, rfl, g⟩
        exact g.2.2.1
      · rintro i x σ H' hx ⟨y7, y8, rfl, g⟩
        obtain ⟨r1, hr1, rfl⟩ := rowV_at hx
        refine ⟨_, rfl, p, _, 3, _, rfl, rfl, g.2.1, rfl, r, rfl, ⟨_, g.2.2.1⟩, for_tup (xs := rowV rows) (fun j σ H' => ∃ y8 : Option V, σ = [some (.ref a), some (.ref b), some (.int (n : Int)), some (.int (m : Int)), some (.ref p), y5, some (.ref M), some (.str (sb r1)), y8, none, none, none, none, none] ∧ Got K b d p r M n m rows H' i j) ?_ ?_ ?_ ?_⟩
        · exact ⟨y8, rfl, g⟩
        · rintro j σ H' _ ⟨y8, rfl, g⟩
          exact g.2.2.1
        · rintro j x σ H8 hx ⟨y8, rfl, g⟩
          obtain ⟨r2, hr2, rfl⟩ := rowV_at hx
          have l1 := wf6.row r1 (List.mem_of_getElem? hr1)
          have l2 := wf6.row r2 (List.mem_of_getElem? hr2)
          have zl : (List.zipWith (fun x y => x != y) r1 r2).length = m := by rw [List.length_zipWith, l1, l2, Nat.min_self]
          have vz := val_zip (l1.trans l2.symm)
          have vlt := val_lt (List.zipWith (fun x y => x != y) r1 r2)
          rw [zl] at vlt
          refine ⟨_, rfl, _, rfl, _, rfl, by omega, by omega, fun Dl nD => ?_⟩
          refine lc_range (lo := 0) (n := _) (fun i H' => Same H8 H' ∧ H' Dl = some (.lst (((List.zipWith (fun x y => x != y) r1 r2).take i).map fun b => V.str (sb [b])))) ?_ ?_ ?_
          · exact ⟨same_new nD, upd_same⟩
          · rintro t H' ht ⟨h1, h2⟩
            have t1 : t < r1.length := by omega
            have t2 : t < r2.length := by omega
            have tz : t < (List.zipWith (fun x y => x != y) r1 r2).length := by omega
            have zt : (List.zipWith (fun x y => x != y) r1 r2)[t] = (r1[t] != r2[t]) := List.getElem_zipWith
            have cat : ∀ (l : List Bool) (h : t < l.length), atI (sb l).cps.toList (t : Int) = some (cB l[t]) := fun l h => by
              rw [sb_cps]
              refine atI_nat ?_
              rw [List.getElem?_map, List.getElem?_eq_getElem h]
              rfl
            rw [show ((0 : Int) + (t : Int)) = (t : Int) from Int.zero_add _]
            refine ⟨rfl, _, rfl, _, rfl, _, (t : Int), _, rfl, rfl, by rw [sb_len, sizeLine_eq]; omega, cat r1 t1, _, rfl, _, rfl, _, (t : Int), _, rfl, rfl, by rw [sb_len, sizeLine_eq]; omega, cat r2 t2, ?_⟩
            refine ⟨rfl, .inr ⟨_, rfl, _, rfl, ?_, _, h2, ?_, same_set h1 nD, ?_⟩⟩
            · split <;> decide
            · rw [List.length_map, List.length_take, sizeLine_eq]
              omega
            · rw [upd_same, List.take_add_one, List.getElem?_eq_getElem tz, List.map_append, zt, cB_strs, bit_str]
              rfl
          · rintro H9 ⟨h1, h2⟩
            rw [Int.toNat_natCast, List.take_of_length_le (by omega)] at h2
            obtain ⟨gh, gp, gr, f, gM, gf⟩ := g
            have gM9 := h1 _ _ gM
            refine ⟨Dl, _, rfl, .inl (.inl h2), by omega, M, marks m f, _, val (List.zipWith (fun x y => x != y) r1 r2), rfl, rfl, gM9, ixN_of (by rw [marks_len]; exact vlt), ?_⟩
            refine ⟨_, rfl, (gh.same h1).set neM.1 neM.2, sqt_upd gM9 (same_sqt h1 gp), sqt_upd gM9 (same_sqt h1 gr), fun k => f k || k == val (List.zipWith (fun x y => x != y) r1 r2), by rw [upd_same, marks_set], fun k hk => ?_⟩
            rw [met_step (a := ((val r1 : Nat) : Int)) (b := ((val r2 : Nat) : Int)) (by rw [List.getElem?_map, hr1]; rfl) (by rw [List.getElem?_map, hr2]; rfl), ← gf k hk, xor_nat, ← vz, Bool.or_eq_true, beq_iff_eq]
            constructor
            · rintro (h | h)
              · exact .inl h
              · exact .inr (by rw [h])
            · rintro (h | h)
              · exact .inl h
              · exact .inr (Int.ofNat_inj.mp h)
        · rintro σ H8 ⟨y8, rfl, gh, gp, gr, f, gM, gf⟩
          exact ⟨_, _, rfl, gh, gp, gr, f, gM, fun k hk => (gf k hk).trans (by rw [← vlen]; exact met_row)⟩
      · rintro σ H8 ⟨y7, y8, rfl, gh, gp, gr, f, gM, gf⟩
        have ff : ∀ k, k < 2 ^ m → f k = hits rows k := fun k hk => by
          rw [Bool.eq_iff_iff, gf k hk, ← vlen, met_all, hits_iff]
          constructor
          · rintro ⟨x, hx, y, hy, e⟩
            obtain ⟨u, hu, rfl⟩ := List.mem_map.mp hx
            obtain ⟨v, hv, rfl⟩ := List.mem_map.mp hy
            rw [xor_nat] at e
            exact ⟨u, hu, v, hv, Int.ofNat_inj.mp e⟩
          · rintro ⟨u, hu, v, hv, e⟩
            exact ⟨_, List.mem_map.mpr ⟨u, hu, rfl⟩, _, List.mem_map.mpr ⟨v, hv, rfl⟩, by rw [xor_nat, e]⟩
        clear gf got0 H7
        refine ⟨_, rfl, _, _, rfl, rfl, ⟨by omega, by omega, by decide⟩, _, rfl, ?_⟩
        rw [shl_one]
        refine ⟨Int.le_trans (by decide) (Int.natCast_nonneg _), Int.lt_of_le_of_lt (Int.ofNat_le.mpr hp6) (by decide), fun Dl nD => ?_⟩
        refine lc_range (lo := 0) (n := _) (fun i H' => Same H8 H' ∧ H' Dl = some (.lst (rowV (((List.range i).filter (hits rows)).map (toB m))))) ?_ ?_ ?_
        · exact ⟨same_new nD, upd_same⟩
        · rintro i H' hi ⟨h1, h2⟩
          rw [Int.toNat_natCast] at hi
          rw [show ((0 : Int) + (i : Int)) = (i : Int) from Int.zero_add _]
          refine ⟨rfl, _, rfl, _, rfl, M, marks m f, (i : Int), _, rfl, rfl, .inl (.inl (h1 _ _ gM)), atI_nat (marks_at hi), rfl, _, rfl, ?_⟩
          rw [show decide (V.int (if f i = true then (1 : Int) else 0) = V.int 1) = f i by cases f i <;> decide, ff i hi]
          by_cases c : hits rows i = true
          · refine ite_y c ?_
            refine ⟨_, rfl, _, rfl, m, i, rfl, by omega, _, h2, ?_, same_set h1 nD, ?_⟩
            · rw [rowV_len, List.length_map, sizeLine_eq]
              have := List.length_filter_le (hits rows) (List.range i)
              rw [List.length_range] at this
              omega
            · rw [upd_same, List.range_succ, List.filter_append, List.map_append, rowV_append, List.filter_cons_of_pos c]
              rfl
          · refine ite_n c ⟨h1, ?_⟩
            rw [h2, List.range_succ, List.filter_append, List.filter_cons_of_neg c, List.filter_nil, List.append_nil]
        · rintro H9 ⟨s9, hD9⟩
          rw [Int.toNat_natCast] at hD9
          change H9 Dl = some (.lst (rowV ((opens m rows).map (toB m)))) at hD9
          have ol := Nat.le_trans (opens_len m rows) hp6
          generalize hG : (opens m rows).map (toB m) = G at hD9
          have gl : G.length ≤ 64 := by
            rw [← hG, List.length_map]
            exact ol
          have gda : Gd 1 (.list (G.map fun r => .str (sb r))) := ⟨by rw [List.length_map]; omega, fun x hx => by
            obtain ⟨r, hr, rfl⟩ := List.mem_map.mp hx
            rw [← hG] at hr
            obtain ⟨k, _, rfl⟩ := List.mem_map.mp hr
            exact okT_sb (by rw [toB_len]; omega)⟩
          have hda : ∀ {H' : Hp} {X : Addr}, H' X = some (.lst (rowV G)) → Dp K H' (.ref X) (.list (G.map fun r => .str (sb r))) := fun h => .lst (.inl (.inl h)) (dp_bits G)
          have heqv : PyData.eqv (.list (G.map fun r => .str (sb r))) (.list (G.map fun r => .str (sb r))) = true := PySem.SeqAt.eqv_refl _ (gd_facts gda).1
          replace gh := gh.same s9
          replace gp := same_sqt s9 gp
          replace gr := same_sqt s9 gr
          clear s9 gM ff nD
          refine ⟨_, rfl, .ref p, _, 2, rfl, dp_gen gp gr, pl_gd wf6.pl, by decide, .inr ⟨n, m, rows, rfl, wf6, hn.2, hm.2, fun A H10 nA s10 hA => ?_⟩⟩
          rw [hG] at hA
          refine ⟨_, rfl, _, _, _, _, true, rfl, .ty "list", dp_ty (hda hA), (show PySem.W.kitOne K (.type "list") (.type "list") = some true from kit_ty (by decide +kernel)), _, rfl, ?_⟩
          refine ⟨_, rfl, _, rfl, _, _, hda hA, hda (s10 _ _ hD9), gd_shaped gda (by decide), gd_shaped gda (by decide), _, rfl, ?_⟩
          rw [heqv]
          refine ⟨_, rfl, .inl ⟨rfl, _, .inl (.inl hA)⟩, A, _, _, rfl, rfl, hA, ?_, ?_⟩
          · rw [rowV_len, sizeLine_eq]
            omega
          refine ⟨_, rfl, A, _, 0, 0, rfl, rfl, upd_same, ixN_of (j := 0) (by rw [List.length_append]; exact Nat.succ_pos _), ?_⟩
          have s11 := same_set (o := .lst ((rowV G ++ [V.str "changed"]).set 0 (.str "1"))) (same_set (o := .lst (rowV G ++ [V.str "changed"])) s10 nA) nA
          generalize upd (upd H10 A (.lst (rowV G ++ [V.str "changed"]))) A (.lst ((rowV G ++ [V.str "changed"]).set 0 (.str "1"))) = H11 at s11 ⊢
          refine ⟨_, rfl, rfl, rfl, .ref p, _, 2, rfl, dp_gen (same_sqt s11 gp) (same_sqt s11 gr), pl_gd wf6.pl, by decide, .inr ⟨n, m, rows, rfl, wf6, hn.2, hm.2, fun A2 H12 nA2 s12 hA2 => ?_⟩⟩
          rw [hG] at hA2
          have s13 := s11.trans s12
          refine ⟨_, rfl, _, _, hda hA2, hda (s13 _ _ hD9), gd_shaped gda (by decide), gd_shaped gda (by decide), _, rfl, ?_⟩
          rw [heqv]
          replace gh := gh.same s13
          replace gp := same_sqt s13 gp
          replace gr := same_sqt s13 gr
          clear s13 s12 s11 s10 hA2 nA2 hA nA hD9 heqv hda gda gl ol hG
          refine ⟨_, rfl, _, rfl, b, d, 2, rfl, by decide, gh, fun r3 H13 l3 u3 gh13 k13 => ⟨_, _, rfl, rfl, ?_⟩⟩
          obtain ⟨m2, em2, hm2⟩ : ∃ m2 : Nat, (1 : Int) + r3 = (m2 : Int) ∧ m2 ≤ 2 := ⟨(1 + r3).toNat, by omega, by omega⟩
          refine ⟨b, d, 1, 1, m2, by rw [← em2]; rfl, by decide, by decide, by omega, gh13, fun fv tabs H14 ht hts hfd gh14 k14 => ?_⟩
          replace gp := sqt_keep gh13 k14 (sqt_keep gh k13 gp)
          replace gr := sqt_keep gh13 k14 (sqt_keep gh k13 gr)
          have bf : BG K H14 fv := .fun_ (on hfd) (gh_fun (by rw [ht]; decide) (by decide) (by omega) hts)
          clear k13 k14 gh gh13 hfd ht hts em2 l3 u3
          refine ⟨_, rfl, _, rfl, _, rfl, p, _, 3, _, rfl, rfl, gp, rfl, _, rfl, sl_anyN gr fun c1 H15 s15 t15 => ⟨(by show 4 ≤ sizeLine; decide), fun q2 nq2 => ?_⟩⟩
          have rrow : ∀ x ∈ rows, x.length ≤ 5000 := fun x hx => by
            rw [wf6.row x hx]
            omega
          have rgd : ∀ {H' : Hp} {k : Nat}, ∀ v ∈ rowV rows, GD K H' k v := fun {H' k} => gd_rowV (K := K) (H := H') (k := k) rrow
          have ghr := gh_rows (m := m) (show rows.length ≤ 5000 by omega) (by omega) wf6.row
          have ghi : ∀ {k : Nat} {i : Int}, Gh k (.int i) := fun {k i} => by cases k <;> trivial
          -- rows without the first
          have rpos := Nat.two_pow_pos n
          rw [show cutV (rowV rows) (some 1) none = rowV (rows.drop 1) by
            rw [show (1 : Int) = ((1 : Nat) : Int) from rfl, cutV_suf]
            unfold rowV
            rw [List.map_drop]] at t15
          have b2 : BG K (upd H15 q2 (.tup [.str "generator", .int (n : Int), .int (m : Int), .ref c1])) (.ref q2) := by
            refine BG.gen (k := 2) (.inl (.inl upd_same)) (.int _) (.int _) (.tup (same_sqt (same_new nq2) t15) (dp_bits (rows.drop 1))) ghi ghi ?_ (by decide) (.inr ?_)
            · have := gh_rows (rows := rows.drop 1) (m := m) (by rw [List.length_drop]; omega) (by omega) fun x hx => wf6.row x (List.mem_of_mem_drop hx)
              exact this
            · refine rows_len_bad ?_
              rw [List.length_map, List.length_drop, wf6.len]
              omega
          have s16 := s15.trans (same_new (o := .tup [.str "generator", .int (n : Int), .int (m : Int), .ref c1]) nq2)
          have gh16 := gh14.same s16
          have bs16 : ∀ v ∈ [fv, V.ref q2], BG K (upd H15 q2 (.tup [.str "generator", .int (n : Int), .int (m : Int), .ref c1])) v := av (bf.same s16) (av1 b2)
          replace gp := same_sqt s16 gp
          replace gr := same_sqt s16 gr
          generalize upd H15 q2 (.tup [.str "generator", .int (n : Int), .int (m : Int), .ref c1]) = H16 at gh16 bs16 gp gr ⊢
          clear b2 s16 s15 t15 nq2 gh14 bf
          -- the block as a list, the empty tuple
          refine ⟨_, rfl, p, _, rfl, .inr gp, fun q3 nq3 => ⟨(by show 0 ≤ sizeLine; decide), fun q4 nq4 => ?_⟩⟩
          have b3 : BG K (upd H16 q3 (.lst [.str "generator", .int (n : Int), .int (m : Int), .ref r])) (.ref q3) := by
            refine BG.lst (k := 3) (.inl (.inl upd_same)) (by decide) (by show 3 ≤ 4000; decide) (av (.str ⟨by decide +kernel, by decide +kernel⟩) (av .int (av .int (av1 ?_))))
            exact .tup (k := 2) (same_sqt (same_new nq3) gr) (by rw [rowV_len]; omega) rgd
          have s17 := same_new (o := .lst [.str "generator", .int (n : Int), .int (m : Int), .ref r]) nq3
          have s18 := same_new (o := .tup []) nq4
          have b4 : BG K (upd (upd H16 q3 (.lst [.str "generator", .int (n : Int), .int (m : Int), .ref r])) q4 (.tup [])) (.ref q4) := .nil (.inl (.inl upd_same))
          have bs18 : ∀ v ∈ [fv, V.ref q2, .non, .ref q3, .ref q4], BG K (upd (upd H16 q3 (.lst [.str "generator", .int (n : Int), .int (m : Int), .ref r])) q4 (.tup [])) v :=
            av ((bs16 _ List.mem_cons_self).same (s17.trans s18)) (av ((bs16 _ (List.mem_cons_of_mem _ List.mem_cons_self)).same (s17.trans s18)) (av .non (av (b3.same s18) (av1 b4))))
          replace gp := same_sqt (s17.trans s18) gp
          replace gr := same_sqt (s17.trans s18) gr
          have gh18 := gh16.same (s17.trans s18)
          generalize upd (upd H16 q3 (.lst [.str "generator", .int (n : Int), .int (m : Int), .ref r])) q4 (.tup []) = H18 at gh18 bs18 gp gr ⊢
          clear b3 b4 s17 s18 nq3 nq4 bs16 gh16
          refine ⟨(by show 5 ≤ sizeLine; decide), fun O nO => ?_⟩
          have s19 := same_new (o := .lst [fv, V.ref q2, .non, .ref q3, .ref q4]) nO
          have hO : upd H18 O (.lst [fv, V.ref q2, .non, .ref q3, .ref q4]) O = some (.lst [fv, V.ref q2, .non, .ref q3, .ref q4]) := upd_same
          replace gp := same_sqt s19 gp
          replace gr := same_sqt s19 gr
          have gh19 := gh18.same s19
          have bs19 : ∀ v ∈ [fv, V.ref q2, .non, .ref q3, .ref q4], BG K (upd H18 O (.lst [fv, V.ref q2, .non, .ref q3, .ref q4])) v := fun v hv => (bs18 v hv).same s19
          show gName 11 (V.ref O) _ (upd H18 O (.lst [fv, V.ref q2, .non, .ref q3, .ref q4])) _
          generalize upd H18 O (.lst [fv, V.ref q2, .non, .ref q3, .ref q4]) = H19 at gh19 bs19 gp gr hO
          clear s19 nO bs18 gh18
          refine ⟨_, rfl, _, rfl, _, rfl, _, rfl, p, _, 3, _, rfl, rfl, gp, rfl, r, _, rfl, .inr gr, fun q5 nq5 => ⟨(by show 4 ≤ sizeLine; decide), fun q6 nq6 => ?_⟩⟩
          have s20 := same_new (o := .lst (rowV rows)) nq5
          have s21 := same_new (o := .tup [.str "generator", .int (n : Int), .int (m : Int), .ref q5]) nq6
          have b6 : BG K (upd (upd H19 q5 (.lst (rowV rows))) q6 (.tup [.str "generator", .int (n : Int), .int (m : Int), .ref q5])) (.ref q6) := by
            refine BG.gen (k := 2) (.inl (.inl upd_same)) (.int _) (.int _) (.lst (.inl (.inl (s21 _ _ upd_same))) (dp_bits rows)) ghi ghi ⟨ghr.1, ?_, ghr.2⟩ (by decide) (.inr rfl)
            cases rows <;> trivial
          have s22 := s20.trans s21
          have bs21 : ∀ v ∈ [fv, V.ref q2, .non, .ref q3, .ref q4], BG K (upd (upd H19 q5 (.lst (rowV rows))) q6 (.tup [.str "generator", .int (n : Int), .int (m : Int), .ref q5])) v := fun v hv => (bs19 v hv).same s22
          replace gp := same_sqt s22 gp
          replace gr := same_sqt s22 gr
          replace hO := s22 _ _ hO
          have gh21 := gh19.same s22
          generalize upd (upd H19 q5 (.lst (rowV rows))) q6 (.tup [.str "generator", .int (n : Int), .int (m : Int), .ref q5]) = H21 at gh21 bs21 b6 gp gr hO ⊢
          clear s20 s21 s22 nq5 nq6 bs19 gh19
          refine ⟨_, rfl, _, rfl, p, _, 3, _, rfl, rfl, gp, rfl, ⟨(by show 4 ≤ sizeLine; decide), fun q7 nq7 => ?_⟩⟩
          have s23 := same_new (o := .tup [.str "generator", .bl true, .int (m : Int), .ref r]) nq7
          have b7 : BG K (upd H21 q7 (.tup [.str "generator", .bl true, .int (m : Int), .ref r])) (.ref q7) := by
            refine BG.gen (k := 2) (.inl (.inl upd_same)) (.bl true) (.int _) (.tup (same_sqt s23 gr) (dp_bits rows)) (show Gh 2 (.bool true) from trivial) ghi ghr (by decide) (.inl rfl)
          have bs23 : ∀ v ∈ [fv, V.ref q2, .non, .ref q3, .ref q4], BG K (upd H21 q7 (.tup [.str "generator", .bl true, .int (m : Int), .ref r])) v := fun v hv => (bs21 v hv).same s23
          replace b6 := b6.same s23
          replace hO := s23 _ _ hO
          have gh23 := gh21.same s23
          generalize upd H21 q7 (.tup [.str "generator", .bl true, .int (m : Int), .ref r]) = H23 at gh23 bs23 b6 b7 hO ⊢
          clear s23 nq7 bs21 gh21 gp gr
          refine ⟨(by show 2 ≤ sizeLine; decide), fun O2 nO2 => ?_⟩
          have s24 := same_new (o := .lst [V.ref q6, .ref q7]) nO2
          refine ⟨O, O2, _, _, rfl, rfl, s24 _ _ hO, upd_same, (by show 5 + 2 ≤ sizeLine; decide), fun O3 nO3 => ?_⟩
          have s25 := s24.trans (same_new (o := .lst ([fv, V.ref q2, .non, .ref q3, .ref q4] ++ [V.ref q6, .ref q7])) nO3)
          have hO3 : upd (upd H23 O2 (.lst [V.ref q6, .ref q7])) O3 (.lst ([fv, V.ref q2, .non, .ref q3, .ref q4] ++ [V.ref q6, .ref q7])) O3 = some (.lst ([fv, V.ref q2, .non, .ref q3, .ref q4] ++ [V.ref q6, .ref q7])) := upd_same
          have gh25 := gh23.same s25
          have neO := (gh23.same s24).ne nO3
          have bs25 : ∀ v ∈ [fv, V.ref q2, .non, .ref q3, .ref q4] ++ [V.ref q6, .ref q7], BG K (upd (upd H23 O2 (.lst [V.ref q6, .ref q7])) O3 (.lst ([fv, V.ref q2, .non, .ref q3, .ref q4] ++ [V.ref q6, .ref q7]))) v := fun v hv => (av_app bs23 (av b6 (av1 b7)) v hv).same s25
          show gName 11 (V.ref O3) _ (upd (upd H23 O2 (.lst [V.ref q6, .ref q7])) O3 (.lst ([fv, V.ref q2, .non, .ref q3, .ref q4] ++ [V.ref q6, .ref q7]))) _
          generalize upd (upd H23 O2 (.lst [V.ref q6, .ref q7])) O3 (.lst ([fv, V.ref q2, .non, .ref q3, .ref q4] ++ [V.ref q6, .ref q7])) = H25 at gh25 bs25 hO3
          clear s25 s24 nO2 nO3 bs23 b6 b7 gh23 hO
          refine ⟨_, rfl, _, rfl, _, rfl, O3, _, rfl, .inl (.inl (.inl hO3)), b, d, _, rfl, (by show (0 : Int) < 7; decide), gh25, fun r6 H26 l6 u6 gh26 k26 => ?_⟩
          obtain ⟨v, hat, hmem⟩ := atI_mem l6 u6
          exact ⟨O3, _, r6, v, rfl, rfl, .inl (.inl (k26 _ _ hO3 neO.1)), hat, v, rfl, (bs25 v hmem).keep gh25 k26, fun H' _ => q1 H'⟩
theorem ok_law30 {f : Addr} {fd : FuncData} (F : Fun K "law" "law" s_law f fd) (T : Txt K mg cs) (c_law_whole : Cl P w K mg base CX0 6 "_law_whole" (spLaw K)) : FnOk P w K mg base CX0 7 f fd ["script"] (spLaw K) := by
  refine F.ok sc_law (fun vs H Q E h => ?_) (fun cdv A outer s H vs Q E hr h => ?_)
  · obtain ⟨a, ns, rfl, _⟩ := h
    rfl
  · obtain ⟨a, ns, rfl, hS, hlen, q⟩ := h
    refine ⟨_, (pss_one (ps_try_many (Wout := fun _ _ _ _ => False) rfl rfl takes0 (fun W pn xe tk _ => (pss_one (ps_ret (pe_cl c_law_whole hr (by first | decide | omega) (by rfl) (pa_cons (pv 0) pa_nil))))) (HdsOk.cons ⟨rfl, by decide, .inl T.gl_BreakError⟩ (fun a oe cls d pn hz hf => (pss_one (ps_ret pe_bl))) HdsOk.nil))), ?_⟩
    exact ⟨_, rfl, a, ns, rfl, hS, hlen, q⟩

theorem kb2 {x qual : Str} {st : Stmt} {f : Addr} {fd : FuncData} {ps ks : List Str} (F : Fun K x qual st f fd)
    (h : ∀ (kV doc pm : Value) (an : Option Addr) (cdv ct : Value) (us ws : List Value), us.length = 0 → ws.length = ks.length → bindArgs (PySem.W.fnOf x qual (defArgs st) (defBody st) (defScope st) .none kV doc pm an cdv ct) ⟨us, ks.zip ws⟩ = pure (ps.zip ws)) :
    KBn K fd ps 0 ks (fun _ ws => ws) (fun _ zs => zs) := Fun.kb F 0 h (fun _ r => r)
theorem mk_law {f1 f2 f3 f4 f5 f6 f7 f8 f9 f10 f11 f12 f13 f14 f15 f16 f17 f : Addr} {d1 d2 d3 d4 d5 d6 d7 d8 d9 d10 d11 d12 d13 d14 d15 d16 d17 fd : FuncData} (T : Txt K mg cs)
    (D_bits : Df K mg "bits" s_bits ["length", "number"] f1 d1)
    (D_number_of : Df K mg "number_of" s_number_of ["string"] f2 d2)
    (D_is_whole : Df K mg "is_whole" s_is_whole ["value", "low", "high"] f3 d3)
    (D_are_rows : Df K mg "are_rows" s_are_rows ["value", "many", "m"] f4 d4)
    (D_is_generator : Df K mg "is_generator" s_is_generator ["value"] f5 d5)
    (D_is_function : Df K mg "is_function" s_is_function ["value"] f6 d6)
    (D_check_block : Df K mg "check_block" s_check_block ["block"] f7 d7)
    (D_double_openings : Df K mg "double_openings" s_double_openings ["block"] f8 d8)
    (D__law_draws : Df K mg "_law_draws" s_law_draws ["script", "many"] f9 d9)
    (D__law_take : Df K mg "_law_take" s_law_take ["hand", "many"] f10 d10)
    (D__law_string : Df K mg "_law_string" s_law_string ["hand", "length"] f11 d11)
    (D__law_table : Df K mg "_law_table" s_law_table ["hand", "n", "m"] f12 d12)
    (D__law_function : Df K mg "_law_function" s_law_function ["hand", "n", "l", "m"] f13 d13)
    (D__law_bits : Df K mg "_law_bits" s_law_bits ["length", "number"] f14 d14)
    (D__law_number : Df K mg "_law_number" s_law_number ["string"] f15 d15)
    (D__law_refused : Df K mg "_law_refused" s_law_refused ["block"] f16 d16)
    (D__law_whole : Df K mg "_law_whole" s_law_whole ["script"] f17 d17)
    (F : Fun K "law" "law" s_law f fd) : FnOk P w K mg base CX0 top_level f fd ["script"] (spLaw K) := by
  have c_take : Cl P w K mg base CX0 1 "_law_take" spTake := D__law_take.cl (ok_take D__law_take T)
  have c_string : Cl P w K mg base CX0 2 "_law_string" spString := D__law_string.cl (ok_string D__law_string T c_take)
  have c_bits : Cl P w K mg base CX0 1 "bits" spBits := D_bits.cl (ok_bits D_bits T)
  have c_number : Cl P w K mg base CX0 1 "number_of" spNumber := D_number_of.cl (ok_number D_number_of T)
  have c_whole : Cl P w K mg base CX0 1 "is_whole" (spWhole K) := D_is_whole.cl (ok_whole D_is_whole T)
  have c_rows : Cl P w K mg base CX0 1 "are_rows" (spRows K) := D_are_rows.cl (ok_rows D_are_rows T)
  have c_check : Cl P w K mg base (L2.CX P w) 3 "check_block" (spCheck K cs.BadBlock) := D_check_block.cl (ok_check D_check_block T (D_is_generator.cl (ok_gen D_is_generator T c_whole c_rows)) (D_is_function.cl (ok_fun D_is_function T c_whole c_rows)))
  have o_double := ok_double (P := P) (w := w) (base := base) D_double_openings T c_check c_bits c_number
  have c_double : Cl P w K mg base (L2.CX P w) 4 "double_openings" (spDouble K cs.BadBlock) := D_double_openings.cl o_double
  have k_double : Ck P w K mg base (L2.CX P w) 4 0 "double_openings" ["block"] (fun _ zs => zs) (spDouble K cs.BadBlock) := ⟨_, _, _, _, o_double, D_double_openings.gl, D_double_openings.fn.kp, kb2 D_double_openings.fn (fun _ _ _ _ _ _ us ws hu hw => match us, ws, hu, hw with | [], [_], _, _ => rfl)⟩
  have c_refused : Cl P w K mg base CX0 5 "_law_refused" (spRef30 K) := D__law_refused.cl (ok_ref30 D__law_refused T c_double)
  exact ok_law30 F T (D__law_whole.cl (ok_whole30 D__law_whole T (D__law_draws.cl (ok_draws D__law_draws T)) c_take (D__law_table.cl (ok_table D__law_table T c_string)) (D__law_function.cl (ok_function D__law_function T c_string)) (D__law_bits.cl (ok_lawbitsS D__law_bits T)) (D__law_number.cl (ok_numL D__law_number T)) c_double k_double c_refused))
end
theorem all_mk {l : PySem.W.OpenLaw} {w : World} {K : PySem.W.Frag} {h : Heap} {mg : Str → Option Value} {fa f1 f2 f3 f4 f5 f6 f7 f8 f9 f10 f11 f12 f13 f14 f15 f16 f17 f18 : Addr} (X : K.In h) (G : h.Ns mainGlobals mg) (hfa : mg "law" = some (.ref fa))
    {od1 an1 od2 an2 od3 an3 od4 an4 od5 an5 od6 an6 od7 an7 od8 an8 od9 an9 od10 an10 od11 an11 od12 an12 od13 an13 od14 an14 od15 an15 od16 an16 od17 an17 od18 an18 : Option Addr} {sl1 sl2 sl3 sl4 sl5 sl6 sl7 sl8 sl9 sl10 sl11 sl12 sl13 sl14 sl15 sl16 sl17 sl18 : Array (Option Value)} {oc1 kV1 dc1 pm1 cd1 ct1 oc2 kV2 dc2 pm2 cd2 ct2 oc3 kV3 dc3 pm3 cd3 ct3 oc4 kV4 dc4 pm4 cd4 ct4 oc5 kV5 dc5 pm5 cd5 ct5 oc6 kV6 dc6 pm6 cd6 ct6 oc7 kV7 dc7 pm7 cd7 ct7 oc8 kV8 dc8 pm8 cd8 ct8 oc9 kV9 dc9 pm9 cd9 ct9 oc10 kV10 dc10 pm10 cd10 ct10 oc11 kV11 dc11 pm11 cd11 ct11 oc12 kV12 dc12 pm12 cd12 ct12 oc13 kV13 dc13 pm13 cd13 ct13 oc14 kV14 dc14 pm14 cd14 ct14 oc15 kV15 dc15 pm15 cd15 ct15 oc16 kV16 dc16 pm16 cd16 ct16 oc17 kV17 dc17 pm17 cd17 ct17 oc18 kV18 dc18 pm18 cd18 ct18 : Value}
    (a1 : PySem.W.nsIn K mainGlobals "bits" = some (some (.ref f1))) (l1 : K.lookup f1 = some ⟨oc1, od1, .func (PySem.W.fnOf "bits" "bits" (defArgs s_bits) (defBody s_bits) (defScope s_bits) .none kV1 dc1 pm1 an1 cd1 ct1), sl1⟩) (c1 : PySem.W.codeIn K cd1 "bits" = true) (k1 : PySem.W.keepIn K (.ref f1) = true)
    (a2 : PySem.W.nsIn K mainGlobals "number_of" = some (some (.ref f2))) (l2 : K.lookup f2 = some ⟨oc2, od2, .func (PySem.W.fnOf "number_of" "number_of" (defArgs s_number_of) (defBody s_number_of) (defScope s_number_of) .none kV2 dc2 pm2 an2 cd2 ct2), sl2⟩) (c2 : PySem.W.codeIn K cd2 "number_of" = true) (k2 : PySem.W.keepIn K (.ref f2) = true)
    (a3 : PySem.W.nsIn K mainGlobals "is_whole" = some (some (.ref f3))) (l3 : K.lookup f3 = some ⟨oc3, od3, .func (PySem.W.fnOf "is_whole" "is_whole" (defArgs s_is_whole) (defBody s_is_whole) (defScope s_is_whole) .none kV3 dc3 pm3 an3 cd3 ct3), sl3⟩) (c3 : PySem.W.codeIn K cd3 "is_whole" = true) (k3 : PySem.W.keepIn K (.ref f3) = true)
    (a4 : PySem.W.nsIn K mainGlobals "are_rows" = some (some (.ref f4))) (l4 : K.lookup f4 = some ⟨oc4, od4, .func (PySem.W.fnOf "are_rows" "are_rows" (defArgs s_are_rows) (defBody s_are_rows) (defScope s_are_rows) .none kV4 dc4 pm4 an4 cd4 ct4), sl4⟩) (c4 : PySem.W.codeIn K cd4 "are_rows" = true) (k4 : PySem.W.keepIn K (.ref f4) = true)
    (a5 : PySem.W.nsIn K mainGlobals "is_generator" = some (some (.ref f5))) (l5 : K.lookup f5 = some ⟨oc5, od5, .func (PySem.W.fnOf "is_generator" "is_generator" (defArgs s_is_generator) (defBody s_is_generator) (defScope s_is_generator) .none kV5 dc5 pm5 an5 cd5 ct5), sl5⟩) (c5 : PySem.W.codeIn K cd5 "is_generator" = true) (k5 : PySem.W.keepIn K (.ref f5) = true)
    (a6 : PySem.W.nsIn K mainGlobals "is_function" = some (some (.ref f6))) (l6 : K.lookup f6 = some ⟨oc6, od6, .func (PySem.W.fnOf "is_function" "is_function" (defArgs s_is_function) (defBody s_is_function) (defScope s_is_function) .none kV6 dc6 pm6 an6 cd6 ct6), sl6⟩) (c6 : PySem.W.codeIn K cd6 "is_function" = true) (k6 : PySem.W.keepIn K (.ref f6) = true)
    (a7 : PySem.W.nsIn K mainGlobals "check_block" = some (some (.ref f7))) (l7 : K.lookup f7 = some ⟨oc7, od7, .func (PySem.W.fnOf "check_block" "check_block" (defArgs s_check_block) (defBody s_check_block) (defScope s_check_block) .none kV7 dc7 pm7 an7 cd7 ct7), sl7⟩) (c7 : PySem.W.codeIn K cd7 "check_block" = true) (k7 : PySem.W.keepIn K (.ref f7) = true)
    (a8 : PySem.W.nsIn K mainGlobals "double_openings" = some (some (.ref f8))) (l8 : K.lookup f8 = some ⟨oc8, od8, .func (PySem.W.fnOf "double_openings" "double_openings" (defArgs s_double_openings) (defBody s_double_openings) (defScope s_double_openings) .none kV8 dc8 pm8 an8 cd8 ct8), sl8⟩) (c8 : PySem.W.codeIn K cd8 "double_openings" = true) (k8 : PySem.W.keepIn K (.ref f8) = true)
    (a9 : PySem.W.nsIn K mainGlobals "_law_draws" = some (some (.ref f9))) (l9 : K.lookup f9 = some ⟨oc9, od9, .func (PySem.W.fnOf "_law_draws" "_law_draws" (defArgs s_law_draws) (defBody s_law_draws) (defScope s_law_draws) .none kV9 dc9 pm9 an9 cd9 ct9), sl9⟩) (c9 : PySem.W.codeIn K cd9 "_law_draws" = true) (k9 : PySem.W.keepIn K (.ref f9) = true)
    (a10 : PySem.W.nsIn K mainGlobals "_law_take" = some (some (.ref f10))) (l10 : K.lookup f10 = some ⟨oc10, od10, .func (PySem.W.fnOf "_law_take" "_law_take" (defArgs s_law_take) (defBody s_law_take) (defScope s_law_take) .none kV10 dc10 pm10 an10 cd10 ct10), sl10⟩) (c10 : PySem.W.codeIn K cd10 "_law_take" = true) (k10 : PySem.W.keepIn K (.ref f10) = true)
    (a11 : PySem.W.nsIn K mainGlobals "_law_string" = some (some (.ref f11))) (l11 : K.lookup f11 = some ⟨oc11, od11, .func (PySem.W.fnOf "_law_string" "_law_string" (defArgs s_law_string) (defBody s_law_string) (defScope s_law_string) .none kV11 dc11 pm11 an11 cd11 ct11), sl11⟩) (c11 : PySem.W.codeIn K cd11 "_law_string" = true) (k11 : PySem.W.keepIn K (.ref f11) = true)
    (a12 : PySem.W.nsIn K mainGlobals "_law_table" = some (some (.ref f12))) (l12 : K.lookup f12 = some ⟨oc12, od12, .func (PySem.W.fnOf "_law_table" "_law_table" (defArgs s_law_table) (defBody s_law_table) (defScope s_law_table) .none kV12 dc12 pm12 an12 cd12 ct12), sl12⟩) (c12 : PySem.W.codeIn K cd12 "_law_table" = true) (k12 : PySem.W.keepIn K (.ref f12) = true)
    (a13 : PySem.W.nsIn K mainGlobals "_law_function" = some (some (.ref f13))) (l13 : K.lookup f13 = some ⟨oc13, od13, .func (PySem.W.fnOf "_law_function" "_law_function" (defArgs s_law_function) (defBody s_law_function) (defScope s_law_function) .none kV13 dc13 pm13 an13 cd13 ct13), sl13⟩) (c13 : PySem.W.codeIn K cd13 "_law_function" = true) (k13 : PySem.W.keepIn K (.ref f13) = true)
    (a14 : PySem.W.nsIn K mainGlobals "_law_bits" = some (some (.ref f14))) (l14 : K.lookup f14 = some ⟨oc14, od14, .func (PySem.W.fnOf "_law_bits" "_law_bits" (defArgs s_law_bits) (defBody s_law_bits) (defScope s_law_bits) .none kV14 dc14 pm14 an14 cd14 ct14), sl14⟩) (c14 : PySem.W.codeIn K cd14 "_law_bits" = true) (k14 : PySem.W.keepIn K (.ref f14) = true)
    (a15 : PySem.W.nsIn K mainGlobals "_law_number" = some (some (.ref f15))) (l15 : K.lookup f15 = some ⟨oc15, od15, .func (PySem.W.fnOf "_law_number" "_law_number" (defArgs s_law_number) (defBody s_law_number) (defScope s_law_number) .none kV15 dc15 pm15 an15 cd15 ct15), sl15⟩) (c15 : PySem.W.codeIn K cd15 "_law_number" = true) (k15 : PySem.W.keepIn K (.ref f15) = true)
    (a16 : PySem.W.nsIn K mainGlobals "_law_refused" = some (some (.ref f16))) (l16 : K.lookup f16 = some ⟨oc16, od16, .func (PySem.W.fnOf "_law_refused" "_law_refused" (defArgs s_law_refused) (defBody s_law_refused) (defScope s_law_refused) .none kV16 dc16 pm16 an16 cd16 ct16), sl16⟩) (c16 : PySem.W.codeIn K cd16 "_law_refused" = true) (k16 : PySem.W.keepIn K (.ref f16) = true)
    (a17 : PySem.W.nsIn K mainGlobals "_law_whole" = some (some (.ref f17))) (l17 : K.lookup f17 = some ⟨oc17, od17, .func (PySem.W.fnOf "_law_whole" "_law_whole" (defArgs s_law_whole) (defBody s_law_whole) (defScope s_law_whole) .none kV17 dc17 pm17 an17 cd17 ct17), sl17⟩) (c17 : PySem.W.codeIn K cd17 "_law_whole" = true) (k17 : PySem.W.keepIn K (.ref f17) = true)
    (a18 : PySem.W.nsIn K mainGlobals "law" = some (some (.ref f18))) (l18 : K.lookup f18 = some ⟨oc18, od18, .func (PySem.W.fnOf "law" "law" (defArgs s_law) (defBody s_law) (defScope s_law) .none kV18 dc18 pm18 an18 cd18 ct18), sl18⟩) (c18 : PySem.W.codeIn K cd18 "law" = true) (k18 : PySem.W.keepIn K (.ref f18) = true)
    (z1 : PySem.W.nsIn K mainGlobals "ValueError" = some none)
    (z2 : PySem.W.nsIn K mainGlobals "abs" = some none)
    (z3 : PySem.W.nsIn K mainGlobals "all" = some none)
    (z4 : PySem.W.nsIn K mainGlobals "bool" = some none)
    (z5 : PySem.W.nsIn K mainGlobals "int" = some none)
    (z6 : PySem.W.nsIn K mainGlobals "isinstance" = some none)
    (z7 : PySem.W.nsIn K mainGlobals "len" = some none)
    (z8 : PySem.W.nsIn K mainGlobals "list" = some none)
    (z9 : PySem.W.nsIn K mainGlobals "range" = some none)
    (z10 : PySem.W.nsIn K mainGlobals "set" = some none)
    (z11 : PySem.W.nsIn K mainGlobals "sorted" = some none)
    (z12 : PySem.W.nsIn K mainGlobals "str" = some none)
    (z13 : PySem.W.nsIn K mainGlobals "tuple" = some none)
    {tk1 : Tok} (y1 : PySem.W.nsIn K mainGlobals "MOST_BITS" = some (some (.int 40 tk1)))
    {CBadBlock CBreakError : Addr}
    (gBadBlock : PySem.W.nsIn K mainGlobals "BadBlock" = some (some (.ref CBadBlock)))
    (gBreakError : PySem.W.nsIn K mainGlobals "BreakError" = some (some (.ref CBreakError)))
    (xBadBlock : PySem.W.excIn K CBadBlock [.type "ValueError", .type "Exception", .type "BaseException", .type "object"] "ValueError.__new__" = true)
    (kBadBlock : PySem.W.keepIn K (.ref CBadBlock) = true)
    (bBadBlock : PySem.W.subIn K (.ref CBadBlock) (.type "BaseException") = some true)
    (tBadBlock : PySem.W.typeIn K (.ref CBadBlock) = some (.type "type"))
    (uBadBlock : PySem.W.findIn K (.ref CBadBlock) "__getattribute__" = some (some (.builtin "BaseException.__getattribute__")))
    (vBadBlock : PySem.W.findIn K (.ref CBadBlock) "__getattr__" = some none)
    (hBadBlock : PySem.W.hasDictIn K CBadBlock = true)
    (wBadBlock : PySem.W.findIn K (.ref CBadBlock) "__class__" = some (some (.builtin "object.__class__")))
    (mBadBlock : PySem.W.mroIn K CBadBlock (.type "object") = some true)
    (eBadBlockBadBlock : PySem.W.exmOne K (.ref CBadBlock) (.ref CBadBlock) = some true)
    (kBadBlockBreakError : PySem.W.kitOne K (.ref CBadBlock) (.ref CBreakError) = some true)
    (kBadBlockValueError : PySem.W.kitOne K (.ref CBadBlock) (.type "ValueError") = some true)
    (sp1 : PySem.W.specialIn K (.builtin "object.__class__") "__get__" = some (some (.builtin "getset_descriptor.__get__")))
    (tk1 : PySem.W.takesIn K (.builtin "object.__class__") = some true) :
    ∃ fd : FuncData, (∀ (s : Shared) (v : Value), BindsTo s fd ⟨[v], []⟩ [("script", v)]) ∧ ∀ base : Heap, K.In base → base.Ns mainGlobals mg → FnOk l.prog w K mg base CX0 top_level fa fd ["script"] (spLaw K) := by
  have e := hfa.symm.trans (PySem.W.mg_of X G a18)
  cases e
  have T : Txt K mg ⟨CBadBlock, CBreakError⟩ := { n_ValueError := PySem.W.mg_none_of X G z1, n_abs := PySem.W.mg_none_of X G z2, n_all := PySem.W.mg_none_of X G z3, n_bool := PySem.W.mg_none_of X G z4, n_int := PySem.W.mg_none_of X G z5, n_isinstance := PySem.W.mg_none_of X G z6, n_len := PySem.W.mg_none_of X G z7, n_list := PySem.W.mg_none_of X G z8, n_range := PySem.W.mg_none_of X G z9, n_set := PySem.W.mg_none_of X G z10, n_sorted := PySem.W.mg_none_of X G z11, n_str := PySem.W.mg_none_of X G z12, n_tuple := PySem.W.mg_none_of X G z13, g_MOST_BITS := ⟨_, PySem.W.mg_of X G y1, ⟨_, rfl⟩⟩, gl_BadBlock := PySem.W.mg_of X G gBadBlock, gl_BreakError := PySem.W.mg_of X G gBreakError, x_BadBlock := ⟨xBadBlock, PySem.W.mg_of X G gBadBlock, kBadBlock, bBadBlock, tBadBlock⟩, e_BadBlock := ⟨uBadBlock, vBadBlock, bBadBlock, hBadBlock, wBadBlock, sp1, tk1, mBadBlock⟩, exm_BadBlock_BadBlock := eBadBlockBadBlock, kit_BadBlock_BreakError := kBadBlockBreakError, kit_BadBlock_ValueError := kBadBlockValueError }
  have F1 := fun_mk (st := s_bits) l1 c1 k1
  have b1 := F1.binds (ps := ["length", "number"]) fun _ _ _ _ _ _ us hl => match us, hl with | [_, _], _ => rfl
  have F2 := fun_mk (st := s_number_of) l2 c2 k2
  have b2 := F2.binds (ps := ["string"]) fun _ _ _ _ _ _ us hl => match us, hl with | [_], _ => rfl
  have F3 := fun_mk (st := s_is_whole) l3 c3 k3
  have b3 := F3.binds (ps := ["value", "low", "high"]) fun _ _ _ _ _ _ us hl => match us, hl with | [_, _, _], _ => rfl
  have F4 := fun_mk (st := s_are_rows) l4 c4 k4
  have b4 := F4.binds (ps := ["value", "many", "m"]) fun _ _ _ _ _ _ us hl => match us, hl with | [_, _, _], _ => rfl
  have F5 := fun_mk (st := s_is_generator) l5 c5 k5
  have b5 := F5.binds (ps := ["value"]) fun _ _ _ _ _ _ us hl => match us, hl with | [_], _ => rfl
  have F6 := fun_mk (st := s_is_function) l6 c6 k6
  have b6 := F6.binds (ps := ["value"]) fun _ _ _ _ _ _ us hl => match us, hl with | [_], _ => rfl
  have F7 := fun_mk (st := s_check_block) l7 c7 k7
  have b7 := F7.binds (ps := ["block"]) fun _ _ _ _ _ _ us hl => match us, hl with | [_], _ => rfl
  have F8 := fun_mk (st := s_double_openings) l8 c8 k8
  have b8 := F8.binds (ps := ["block"]) fun _ _ _ _ _ _ us hl => match us, hl with | [_], _ => rfl
  have F9 := fun_mk (st := s_law_draws) l9 c9 k9
  have b9 := F9.binds (ps := ["script", "many"]) fun _ _ _ _ _ _ us hl => match us, hl with | [_, _], _ => rfl
  have F10 := fun_mk (st := s_law_take) l10 c10 k10
  have b10 := F10.binds (ps := ["hand", "many"]) fun _ _ _ _ _ _ us hl => match us, hl with | [_, _], _ => rfl
  have F11 := fun_mk (st := s_law_string) l11 c11 k11
  have b11 := F11.binds (ps := ["hand", "length"]) fun _ _ _ _ _ _ us hl => match us, hl with | [_, _], _ => rfl
  have F12 := fun_mk (st := s_law_table) l12 c12 k12
  have b12 := F12.binds (ps := ["hand", "n", "m"]) fun _ _ _ _ _ _ us hl => match us, hl with | [_, _, _], _ => rfl
  have F13 := fun_mk (st := s_law_function) l13 c13 k13
  have b13 := F13.binds (ps := ["hand", "n", "l", "m"]) fun _ _ _ _ _ _ us hl => match us, hl with | [_, _, _, _], _ => rfl
  have F14 := fun_mk (st := s_law_bits) l14 c14 k14
  have b14 := F14.binds (ps := ["length", "number"]) fun _ _ _ _ _ _ us hl => match us, hl with | [_, _], _ => rfl
  have F15 := fun_mk (st := s_law_number) l15 c15 k15
  have b15 := F15.binds (ps := ["string"]) fun _ _ _ _ _ _ us hl => match us, hl with | [_], _ => rfl
  have F16 := fun_mk (st := s_law_refused) l16 c16 k16
  have b16 := F16.binds (ps := ["block"]) fun _ _ _ _ _ _ us hl => match us, hl with | [_], _ => rfl
  have F17 := fun_mk (st := s_law_whole) l17 c17 k17
  have b17 := F17.binds (ps := ["script"]) fun _ _ _ _ _ _ us hl => match us, hl with | [_], _ => rfl
  have F18 := fun_mk (st := s_law) l18 c18 k18
  have b18 := F18.binds (ps := ["script"]) fun _ _ _ _ _ _ us hl => match us, hl with | [_], _ => rfl
  refine ⟨PySem.W.fnOf "law" "law" (defArgs s_law) (defBody s_law) (defScope s_law) .none kV18 dc18 pm18 an18 cd18 ct18, fun s v => .of_eq rfl, fun base _ _ => ?_⟩
  exact mk_law T ⟨F1, b1, PySem.W.mg_of X G a1⟩ ⟨F2, b2, PySem.W.mg_of X G a2⟩ ⟨F3, b3, PySem.W.mg_of X G a3⟩ ⟨F4, b4, PySem.W.mg_of X G a4⟩ ⟨F5, b5, PySem.W.mg_of X G a5⟩ ⟨F6, b6, PySem.W.mg_of X G a6⟩ ⟨F7, b7, PySem.W.mg_of X G a7⟩ ⟨F8, b8, PySem.W.mg_of X G a8⟩ ⟨F9, b9, PySem.W.mg_of X G a9⟩ ⟨F10, b10, PySem.W.mg_of X G a10⟩ ⟨F11, b11, PySem.W.mg_of X G a11⟩ ⟨F12, b12, PySem.W.mg_of X G a12⟩ ⟨F13, b13, PySem.W.mg_of X G a13⟩ ⟨F14, b14, PySem.W.mg_of X G a14⟩ ⟨F15, b15, PySem.W.mg_of X G a15⟩ ⟨F16, b16, PySem.W.mg_of X G a16⟩ ⟨F17, b17, PySem.W.mg_of X G a17⟩ F18
end My
open PySem PySem.W PyProof.Rows
set_option maxRecDepth 100000 in
set_option maxHeartbeats 0 in
theorem PySem.Challenge.cw_breakback_k30_double_openings_holds : PySem.Challenge.rw_breakback_k30_double_openings.Holds := by
  w_on; o_law; k_head; (case hw => w_witness2)
  k_fill
  refine L2.walk_of (l := PySem.Challenge.rw_breakback_k30_double_openings) (n := 63) (k := My.top_level) (x := "script") (CX := fun _ => L2.CX0) (sp := fun w => My.spLaw _) rfl (by decide) rfl ⟨rfl, by decide, by decide⟩ (fun w h Y => PySem.W.kIn_of Y) ?F (fun _ _ a ns hl _ hS => ⟨a, ns, rfl, hS, hl, fun _ => rfl⟩) (fun _ _ _ _ _ h => h)
  case F =>
    intro w mg fa h KX G hmg
    refine' My.all_mk KX G hmg ?a1 ?l1 ?c1 ?k1 ?a2 ?l2 ?c2 ?k2 ?a3 ?l3 ?c3 ?k3 ?a4 ?l4 ?c4 ?k4 ?a5 ?l5 ?c5 ?k5 ?a6 ?l6 ?c6 ?k6 ?a7 ?l7 ?c7 ?k7 ?a8 ?l8 ?c8 ?k8 ?a9 ?l9 ?c9 ?k9 ?a10 ?l10 ?c10 ?k10 ?a11 ?l11 ?c11 ?k11 ?a12 ?l12 ?c12 ?k12 ?a13 ?l13 ?c13 ?k13 ?a14 ?l14 ?c14 ?k14 ?a15 ?l15 ?c15 ?k15 ?a16 ?l16 ?c16 ?k16 ?a17 ?l17 ?c17 ?k17 ?a18 ?l18 ?c18 ?k18 ?z1 ?z2 ?z3 ?z4 ?z5 ?z6 ?z7 ?z8 ?z9 ?z10 ?z11 ?z12 ?z13 ?y1 ?gBadBlock ?gBreakError ?xBadBlock ?kBadBlock ?bBadBlock ?tBadBlock ?uBadBlock ?vBadBlock ?hBadBlock ?wBadBlock ?mBadBlock ?eBadBlockBadBlock ?kBadBlockBreakError ?kBadBlockValueError ?sp1 ?tk1
    (case a1 => k_is); (case l1 => k_is); (case c1 => k_is); (case k1 => k_is); (case a2 => k_is); (case l2 => k_is); (case c2 => k_is); (case k2 => k_is)
    (case a3 => k_is); (case l3 => k_is); (case c3 => k_is); (case k3 => k_is); (case a4 => k_is); (case l4 => k_is); (case c4 => k_is); (case k4 => k_is)
    (case a5 => k_is); (case l5 => k_is); (case c5 => k_is); (case k5 => k_is); (case a6 => k_is); (case l6 => k_is); (case c6 => k_is); (case k6 => k_is)
    (case a7 => k_is); (case l7 => k_is); (case c7 => k_is); (case k7 => k_is); (case a8 => k_is); (case l8 => k_is); (case c8 => k_is); (case k8 => k_is)
    (case a9 => k_is); (case l9 => k_is); (case c9 => k_is); (case k9 => k_is); (case a10 => k_is); (case l10 => k_is); (case c10 => k_is); (case k10 => k_is)
    (case a11 => k_is); (case l11 => k_is); (case c11 => k_is); (case k11 => k_is); (case a12 => k_is); (case l12 => k_is); (case c12 => k_is); (case k12 => k_is)
    (case a13 => k_is); (case l13 => k_is); (case c13 => k_is); (case k13 => k_is); (case a14 => k_is); (case l14 => k_is); (case c14 => k_is); (case k14 => k_is)
    (case a15 => k_is); (case l15 => k_is); (case c15 => k_is); (case k15 => k_is); (case a16 => k_is); (case l16 => k_is); (case c16 => k_is); (case k16 => k_is)
    (case a17 => k_is); (case l17 => k_is); (case c17 => k_is); (case k17 => k_is); (case a18 => k_is); (case l18 => k_is); (case c18 => k_is); (case k18 => k_is)
    (case z1 => k_is); (case z2 => k_is); (case z3 => k_is); (case z4 => k_is); (case z5 => k_is); (case z6 => k_is); (case z7 => k_is); (case z8 => k_is)
    (case z9 => k_is); (case z10 => k_is); (case z11 => k_is); (case z12 => k_is); (case z13 => k_is); (case y1 => k_is); (case gBadBlock => k_is); (case gBreakError => k_is)
    (case xBadBlock => k_exc); (case kBadBlock => k_is); (case bBadBlock => k_is); (case tBadBlock => k_is); (case uBadBlock => k_is); (case vBadBlock => k_is); (case hBadBlock => k_is); (case wBadBlock => k_is)
    (case mBadBlock => k_is); (case eBadBlockBadBlock => first | rfl | k_is); (case kBadBlockBreakError => first | rfl | k_is); (case kBadBlockValueError => first | rfl | k_is); (case sp1 => first | rfl | k_is); (case tk1 => first | rfl | k_is)
#print axioms PySem.Challenge.cw_breakback_k30_double_openings_holds
