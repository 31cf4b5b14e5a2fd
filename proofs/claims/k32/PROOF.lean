
import PyProof.Rows.All
import Wide.All
import OpenK.AllK
import Wide.FinOn
import HandS.ForMost
import HandS.Codes
import HandS.StrMore
import HandS.Defaults
import HandS.IntHex
import HandS.IsInst
import HandS.TupAny
import HandS.TupMul
import PyProof.FString3
import PyProof.Rows.StrIntSpec
import PyProof.StrOps2
import KE.IntText
import KE.KIntText
import KE.IntTextLaws
import HandS.Exc
import HandS.ExcOwn
import HandS.TryOnly
import HandS.TryMany
import HandS.ExcIs
import HandS.WordsExc
import HandS.ForExc

import HandS.Gcd
import HandS.Zip
import HandS.Walk
import HandS.CallLocal
import HandS.More
import HandS.Iter
import HandS.Style
import PyProof.P3Eq
import PySem.Challenge.RW_breakback_k32_carried_shape
set_option Elab.async false
set_option linter.all false
set_option maxRecDepth 100000
set_option maxHeartbeats 4000000
namespace My
open PySem PySem.Spec PyProof.Rows L2
theorem snocInd {α : Type} {P : List α → Prop} (h0 : P []) (h1 : ∀ l a, P l → P (l ++ [a])) (l : List α) : P l := by
  have h : ∀ (n : Nat) (l : List α), l.length = n → P l := by
    intro n
    induction n with
    | zero =>
      intro l e
      rw [List.eq_nil_of_length_eq_zero e]
      exact h0
    | succ n ih =>
      intro l e
      have hn : l ≠ [] := fun z => by
        rw [z] at e
        cases e
      rw [← List.dropLast_concat_getLast hn]
      exact h1 _ _ (ih _ (by rw [List.length_dropLast, e]; rfl))
  exact h _ l rfl
/-! ### strings of bits -/
def cB (b : Bool) : Nat := if b then 49 else 48
def sb (bs : List Bool) : Str := SX.S (bs.map cB)
def toB : Nat → Nat → List Bool
  | 0, _ => []
  | n + 1, k => toB n (k / 2) ++ [k % 2 == 1]
def bit (b : Bool) : Nat := if b then 1 else 0
def val (bs : List Bool) : Nat := bs.foldl (fun a b => 2 * a + bit b) 0
theorem toB_len : ∀ n k, (toB n k).length = n
  | 0, _ => rfl
  | n + 1, k => by
    show (toB n (k / 2) ++ [k % 2 == 1]).length = n + 1
    rw [List.length_append, toB_len n]
    rfl
theorem sb_len (bs : List Bool) : (sb bs).length = bs.length := by
  unfold sb
  rw [SX.S_len, List.length_map]
theorem cB_inj {a b : Bool} (h : cB a = cB b) : a = b := by
  cases a <;> cases b <;> first | rfl | (exact absurd h (by decide))
theorem map_cB_inj : ∀ {l m : List Bool}, l.map cB = m.map cB → l = m
  | [], [], _ => rfl
  | [], _ :: _, h => by simp at h
  | _ :: _, [], h => by simp at h
  | a :: l, b :: m, h => by
    rw [List.map_cons, List.map_cons] at h
    injection h with h1 h2
    rw [cB_inj h1, map_cB_inj h2]
theorem sb_inj {l m : List Bool} (h : sb l = sb m) : l = m := map_cB_inj (SX.S_inj h)
theorem sb_cat (l m : List Bool) : sb l ++ sb m = sb (l ++ m) := by
  unfold sb
  rw [SX.S_cat, List.map_append]
theorem val_snoc (l : List Bool) (b : Bool) : val (l ++ [b]) = 2 * val l + bit b := by
  unfold val
  rw [List.foldl_append]
  rfl
theorem bit_lt (b : Bool) : bit b < 2 := by cases b <;> decide
theorem toB_val (bs : List Bool) : toB bs.length (val bs) = bs := by
  induction bs using snocInd with
  | h0 => rfl
  | h1 l b ih =>
    rw [List.length_append, val_snoc]
    show toB (l.length + 1) _ = _
    show toB l.length ((2 * val l + bit b) / 2) ++ [(2 * val l + bit b) % 2 == 1] = l ++ [b]
    have h := bit_lt b
    rw [show (2 * val l + bit b) / 2 = val l by omega, ih, show (2 * val l + bit b) % 2 = bit b by omega]
    cases b <;> rfl
theorem val_lt (bs : List Bool) : val bs < 2 ^ bs.length := by
  induction bs using snocInd with
  | h0 => exact Nat.one_pos
  | h1 l b ih =>
    rw [List.length_append, val_snoc]
    show _ < 2 ^ (l.length + 1)
    have h := bit_lt b
    rw [Nat.pow_succ]
    omega
theorem val_toB : ∀ (n k : Nat), k < 2 ^ n → val (toB n k) = k
  | 0, k, h => by
    have e : k = 0 := by
      have : k < 1 := h
      omega
    subst e
    rfl
  | n + 1, k, h => by
    show val (toB n (k / 2) ++ [k % 2 == 1]) = k
    rw [Nat.pow_succ] at h
    rw [val_snoc, val_toB n (k / 2) (by omega)]
    have e : bit (k % 2 == 1) = k % 2 := by
      rcases Nat.mod_two_eq_zero_or_one k with z | z <;> rw [z] <;> rfl
    rw [e]
    omega
theorem toB_zero (n : Nat) : toB n 0 = List.replicate n false := by
  induction n with
  | zero => rfl
  | succ n ih =>
    show toB n 0 ++ [false] = _
    rw [ih, List.replicate_succ']
/-! ### two strings place by place -/
theorem toB_xor : ∀ (n a b : Nat), toB n (a ^^^ b) = List.zipWith (fun x y => x != y) (toB n a) (toB n b)
  | 0, _, _ => rfl
  | n + 1, a, b => by
    show toB n ((a ^^^ b) / 2) ++ [(a ^^^ b) % 2 == 1] = List.zipWith (fun x y => x != y) (toB n (a / 2) ++ [a % 2 == 1]) (toB n (b / 2) ++ [b % 2 == 1])
    rw [List.zipWith_append (by rw [toB_len, toB_len]), Nat.xor_div_two, toB_xor n]
    congr 1
    have e : (a ^^^ b) % 2 = (a % 2) ^^^ (b % 2) := by
      have h := Nat.xor_mod_two_pow (a := a) (b := b) (n := 1)
      rw [Nat.pow_one] at h
      exact h
    rw [e]
    rcases Nat.mod_two_eq_zero_or_one a with z | z <;> rcases Nat.mod_two_eq_zero_or_one b with y | y <;> rw [z, y] <;> rfl
theorem toB_and : ∀ (n a b : Nat), toB n (a &&& b) = List.zipWith (fun x y => x && y) (toB n a) (toB n b)
  | 0, _, _ => rfl
  | n + 1, a, b => by
    show toB n ((a &&& b) / 2) ++ [(a &&& b) % 2 == 1] = List.zipWith (fun x y => x && y) (toB n (a / 2) ++ [a % 2 == 1]) (toB n (b / 2) ++ [b % 2 == 1])
    rw [List.zipWith_append (by rw [toB_len, toB_len]), Nat.and_div_two, toB_and n]
    congr 1
    have e : (a &&& b) % 2 = (a % 2) * (b % 2) := by
      have h := Nat.and_mod_two_pow (a := a) (b := b) (n := 1)
      rw [Nat.pow_one] at h
      rw [h]
      rcases Nat.mod_two_eq_zero_or_one a with z | z <;> rcases Nat.mod_two_eq_zero_or_one b with y | y <;> rw [z, y] <;> rfl
    rw [e]
    rcases Nat.mod_two_eq_zero_or_one a with z | z <;> rcases Nat.mod_two_eq_zero_or_one b with y | y <;> rw [z, y] <;> rfl
/-! ### the digits that Python writes -/
def dig (k : Nat) : List Nat := (Nat.toDigits 2 k).map Char.toNat
theorem dig_lt {k : Nat} (h : k < 2) : dig k = [cB (k == 1)] := by
  unfold dig
  rw [Nat.toDigits_of_lt_base h]
  have : k = 0 ∨ k = 1 := by omega
  rcases this with e | e <;> subst e <;> rfl
theorem dig_ge {k : Nat} (h : 2 ≤ k) : dig k = dig (k / 2) ++ [cB (k % 2 == 1)] := by
  unfold dig
  rw [Nat.toDigits_of_base_le (by decide) h, List.map_append]
  congr 1
  rcases Nat.mod_two_eq_zero_or_one k with z | z <;> rw [z] <;> rfl
theorem dig_toB : ∀ (n k : Nat), k < 2 ^ (n + 1) → ∃ p, (toB (n + 1) k).map cB = List.replicate p 48 ++ dig k
  | 0, k, h => by
    have hk : k < 2 := h
    refine ⟨0, ?_⟩
    rw [dig_lt hk]
    show [cB (k % 2 == 1)] = [cB (k == 1)]
    rw [Nat.mod_eq_of_lt hk]
  | n + 1, k, h => by
    show ∃ p, (toB (n + 1) (k / 2) ++ [k % 2 == 1]).map cB = _
    rw [List.map_append]
    by_cases hk : k < 2
    · refine ⟨n + 1, ?_⟩
      rw [dig_lt hk, show k / 2 = 0 by omega, toB_zero, List.map_replicate, Nat.mod_eq_of_lt hk]
      rfl
    · have h' : k < 2 ^ (n + 1) * 2 := by
        rw [← Nat.pow_succ]
        exact h
      obtain ⟨p, e⟩ := dig_toB n (k / 2) (by omega)
      refine ⟨p, ?_⟩
      rw [e, dig_ge (k := k) (by omega), List.append_assoc]
      rfl
theorem dig_len_pos (k : Nat) : 0 < (dig k).length := by
  unfold dig
  rw [List.length_map]
  exact Nat.length_toDigits_pos
theorem dig_head (k : Nat) : ∃ c r, dig k = c :: r ∧ (c = 48 ∨ c = 49) := by
  induction k using Nat.strongRecOn with
  | _ k ih =>
    by_cases hk : k < 2
    · rw [dig_lt hk]
      exact ⟨_, _, rfl, by cases (k == 1) <;> decide⟩
    · obtain ⟨c, r, e, h⟩ := ih (k / 2) (by omega)
      rw [dig_ge (by omega), e]
      exact ⟨c, r ++ [_], rfl, h⟩
theorem zfill_dig (n k : Nat) (h : k < 2 ^ (n + 1)) : Txt.zfill (SX.S (dig k)) ((n + 1 : Nat) : Int) = sb (toB (n + 1) k) := by
  obtain ⟨p, e⟩ := dig_toB n k h
  have hl : n + 1 = p + (dig k).length := by
    have := congrArg List.length e
    rw [List.length_map, toB_len, List.length_append, List.length_replicate] at this
    exact this
  unfold sb
  rw [e]
  unfold Txt.zfill
  rw [SX.S_len]
  by_cases hp : p = 0
  · subst hp
    rw [if_pos (by omega)]
    rfl
  · rw [if_neg (by omega)]
    obtain ⟨c, r, ed, hc⟩ := dig_head k
    have hm : ((n + 1 : Nat) : Int).toNat - (dig k).length = p := by omega
    rw [hm]
    unfold zfilled
    rw [ed]
    rcases hc with rfl | rfl
    · show Builtin.Str.padded _ p 0 48 = _
      refine TL.ext_tl ?_
      simp [Builtin.Str.padded, TL.tl, SX.S]
    · show Builtin.Str.padded _ p 0 48 = _
      refine TL.ext_tl ?_
      simp [Builtin.Str.padded, TL.tl, SX.S]
section
open Builtin Builtin.Str Builtin.Int Builtin.Float
theorem ite_n {c : Prop} [Decidable c] {X Y : Prop} (hc : ¬ c) (h : Y) : if c then X else Y := by
  rw [if_neg hc]
  exact h
theorem ite_y {c : Prop} [Decidable c] {X Y : Prop} (hc : c) (h : X) : if c then X else Y := by
  rw [if_pos hc]
  exact h
/-- the text of the bits of n, as the format "b" makes it -/
theorem field_b (l : List Nat) (hl : l ≠ []) : intField' { fill := 32, align := 62, type := some 98 } false [] l [] 4 = ⟨l.toArray⟩ := by
  unfold intField'
  have h0 : l.isEmpty = false := by
    cases l with
    | nil => exact absurd rfl hl
    | cons a r => rfl
  simp [h0]
theorem wp_eq {α : Type} {M : Model} {A : Around} {t t' : Sem α} {Q : α → Shared → Prop} {E : Value → Shared → Prop} {s : Shared} (e : t = t') (h : wpAny M A t' Q E s) : wpAny M A t Q E s := by
  rw [e]
  exact h
set_option maxHeartbeats 1000000 in
theorem gives_fmtB {spec : PySem.Str} (n : Nat) (t u : Tok) (hz : (Nat.toDigits 2 n).length ≤ sizeLine)
    (hp : parseFormatSpec spec.cps.toList "int" 62 = .ok { fill := 32, align := 62, type := some 98 }) (hne : (spec.length == 0) = false)
    (hasc : ((spec.cps.toList.drop 1).any (· ≥ 128) || (spec.cps.getD 0 0 ≥ 128 && !([60, 62, 61, 94] : List Nat).contains (spec.cps.getD 1 0))) = false) :
    Gives («int.__format__» ⟨[.int (n : Int) t, .str spec u], []⟩) (.str ⟨((Nat.toDigits 2 n).map Char.toNat).toArray⟩) := by
  intro prog w A R s hq
  unfold Builtin.«int.__format__»
  simp only [selfAndOne, noKeywords, Int.intOfSelf, asInt?, asStr?, List.isEmpty_nil, if_true, pure_bind, bind_pure, bind_assoc, hne, hasc, Bool.false_eq_true, if_false,
    show (Value.str spec u == Value.none) = false from rfl]
  refine wpAny_bind (wpAny_typeNameOf (T := "str") (typeIs_str _ _ _) (by decide) fun _ => ?_)
  refine wpAny_bind (wpAny_typeNameOfCut_int ?_)
  simp only [hp, Option.getD_some]
  refine wpAny_ite (ite_y (by decide) ?_)
  refine wp_eq (t' := retStr (intField' { fill := 32, align := 62, type := some 98 } (decide ((n : Int) < 0)) [] ((Nat.toDigits 2 n).map fun c => (if (98 : Nat) == 88 then c.toUpper else c).toNat) [] 4)) (by kernel_rfl) ?_
  rw [show decide ((n : Int) < 0) = false from decide_eq_false (by omega), field_b _ (by
    have := Nat.length_toDigits_pos (b := 2) (n := n)
    intro z
    rw [List.map_eq_nil_iff] at z
    rw [z] at this
    exact absurd this (by decide))]
  refine wpAny_bind (wpAny_mkStr (wpAny_pure hq.2) ?_)
  show (List.toArray _).size ≤ _
  rw [List.size_toArray, List.length_map]
  exact hz
end
/-! ### a text times an int -/
theorem foldl_app (x : Array Nat) : ∀ (n : Nat) (acc : Array Nat), ((List.replicate n x).foldl (· ++ ·) acc).toList = acc.toList ++ (List.replicate n x.toList).flatten
  | 0, acc => by simp
  | n + 1, acc => by
    rw [List.replicate_succ, List.foldl_cons, foldl_app x n, List.replicate_succ, List.flatten_cons, Array.toList_append, List.append_assoc]
def rRepS : R2 := fun x y H Q => ∃ (l : List Nat) (k : Int), x = .str (SX.S l) ∧ y = .int k ∧ (0 ≤ k ∧ l.length * k.toNat ≤ 16777216 ∧ k ≤ 16777216) ∧ Q (.str (SX.S (List.replicate k.toNat l).flatten)) H
theorem op_repS {X : Cx} : OpR X (binaryOp .Mult) rRepS := by
  intro pins s σ H x y v u Q I rx ry h
  obtain ⟨l, k, rfl, rfl, ⟨h0, hz, hk⟩, q⟩ := h
  obtain ⟨t, rfl⟩ := rx
  obtain ⟨t', rfl⟩ := ry
  have hs : sizeLine = 16777216 := sizeLine_eq
  refine PySem.P.mul_str ?_ (fun h1 _ => ?_) (fun _ _ => ?_) ?_
  · rw [decide_eq_false (by omega), decide_eq_false (by omega)]
    rfl
  · rw [SX.S_len]
    have hp : 0 < k := by omega
    have : (l.length : Int) * k ≤ 16777216 := by
      have e : ((l.length * k.toNat : Nat) : Int) = (l.length : Int) * k := by
        rw [Int.natCast_mul, Int.toNat_of_nonneg h0]
      omega
    have := (Int.le_ediv_iff_mul_le hp (a := (l.length : Int)) (b := 2 ^ 63 - 1)).mpr (by omega)
    omega
  · rw [SX.S_len]
    unfold Builtin.Str.tooLong
    rw [sizeLine_eq]
    exact decide_eq_false (by omega)
  · by_cases h1 : k < 1
    · rw [if_pos h1]
      have e : k = 0 := by omega
      subst e
      exact ⟨by decide, .str (SX.S []), H, I.tok _, ⟨_, rfl⟩, q⟩
    · rw [if_neg h1]
      by_cases h2 : (k == 1 || (SX.S l).length == 0) = true
      · rw [if_pos h2]
        have e : (List.replicate k.toNat l).flatten = l := by
          rw [Bool.or_eq_true, beq_iff_eq, beq_iff_eq, SX.S_len] at h2
          rcases h2 with e | e
          · subst e
            simp
          · rw [List.eq_nil_of_length_eq_zero e]
            simp
        rw [e] at q
        exact ⟨.str (SX.S l), H, I, ⟨t, rfl⟩, q⟩
      · rw [if_neg h2]
        have e : (⟨(List.replicate k.toNat (SX.S l).cps).foldl (· ++ ·) #[]⟩ : Str) = SX.S (List.replicate k.toNat l).flatten := by
          refine TL.ext_tl ?_
          show (List.foldl (· ++ ·) (#[] : Array Nat) (List.replicate k.toNat l.toArray)).toList = _
          rw [foldl_app]
          rfl
        rw [e]
        refine ⟨?_, .str _, H, I.tok _, ⟨_, rfl⟩, q⟩
        rw [SX.S_len, List.length_flatten, List.map_replicate, List.sum_replicate_nat, hs]
        rw [Nat.mul_comm]
        exact hz
/-! ### f(k = v, ..): keywords alone -/
theorem pe_callN0 {X : Cx} {CX : CXT} {k : Nat} {f : Addr} {fd : FuncData} {ps ks : List Str} {sp : Sp} {E : XK} {x : Str} {p pos : Pos} {kws : List Keyword} {tk : TA} {g : List Value → List Value → List Value} {gV : List V → List V → List V}
    (F : FnOk X.prog X.w X.K X.mg X.base CX k f fd ps sp) (hr : Room k X.A) (hg : Gl X x) (hm : X.mg x = some (.ref f)) (hk : PySem.W.keepIn X.K (.ref f) = true) (hb : KBn X.K fd ps 0 ks g gV) (hx : Passes CX X E)
    (hkw : PK X kws tk) (hall : (backToKw pos (keywordEach kws X.env)).all (·.1.isSome) = true := by rfl) (hks : (backToKw pos (keywordEach kws X.env)).filterMap (·.1) = ks := by rfl)
    (hdb : (x == ("__debug__" : Str)) = false := by decide)
    (hpl : ((backTo pos (starEach [] X.env)).any (·.1) || (backToKw pos (keywordEach kws X.env)).any (·.1.isNone)) = false := by rfl) :
    PE X (.Call (.Name x p) [] kws pos) (tCallN 0 ks.length sp gV E tNil tk) := by
  refine ⟨fun pins s σ H Q I h => ?_⟩
  refine wpAny_Call_Name_kw (ld_glob I hg hm ?_ hdb)
  refine PySem.W.callWith_KW0 (h₀ := X.base) I.ok.mod.kin hk hall ?_ hpl
  refine thn (hkw.run pos pins s σ H _ I h) fun ws s2 ⟨zs, H2, I2, rz, l1, l2, q2⟩ => ⟨I2.kIn, ?_⟩
  rw [hks]
  exact run_fnN (us := []) (vs := []) F hr hb hx I2 .nil rz rfl l2 q2
/-! ### int(t, 2) -/
namespace Two
open PySem.NumText PySem.Calls
def Bin (c : Nat) : Prop := c = 48 ∨ c = 49
def num (l : List Nat) : Nat := l.foldl (fun a c => a * 2 + (c - 48)) 0
theorem Bin.plain {c : Nat} (h : Bin c) : c ≠ 95 ∧ c ≠ 0 ∧ c < 128 ∧ 33 ≤ c ∧ c ≠ 32 ∧ c ≠ 43 ∧ c ≠ 45 := by
  rcases h with e | e <;> subst e <;> decide
theorem one {ds : Array Nat} {b : Bool} {c : Nat} (h : Bin c) : PySem.NumText.step 2 (ds, b) c = some (ds.push (c - 48), true) := by
  rcases h with e | e <;> subst e <;> rfl
theorem more : ∀ (cs : List Nat) (ds : Array Nat), (∀ c ∈ cs, Bin c) → cs.foldlM (PySem.NumText.step 2) (ds, true) = some ((ds.toList ++ cs.map (· - 48)).toArray, true)
  | [], ds, _ => by simp
  | c :: cs, ds, h => by
    rw [List.foldlM_cons, one (h c (List.mem_cons_self ..))]
    refine (more cs (ds.push (c - 48)) fun d hd => h d (List.mem_cons_of_mem _ hd)).trans ?_
    simp
theorem all {cs : List Nat} (h : ∀ c ∈ cs, Bin c) (hne : cs ≠ []) : digits? 2 cs = some (cs.map (· - 48)).toArray := by
  cases cs with
  | nil => exact absurd rfl hne
  | cons c cs =>
    have e : List.foldlM (PySem.NumText.step 2) ((#[] : Array Nat), false) (c :: cs) = some (((c :: cs).map (· - 48)).toArray, true) := by
      rw [List.foldlM_cons, one (h c (List.mem_cons_self ..))]
      refine (more cs (#[].push (c - 48)) fun d hd => h d (List.mem_cons_of_mem _ hd)).trans ?_
      simp
    unfold digits?
    rw [e]
    rfl
theorem worth (l : List Nat) : (l.map (· - 48)).toArray.foldl (fun acc d => acc * 2 + d) 0 = num l := by
  rw [← Array.foldl_toList]
  unfold num
  rw [List.foldl_map]
theorem noBlank {cs : List Nat} (h : ∀ c ∈ cs, Bin c) : cs.dropWhile blank = cs := by
  cases cs with
  | nil => rfl
  | cons c cs =>
    have := (h c (List.mem_cons_self ..)).plain
    exact dropWhile_of (by omega)
theorem noSign {cs : List Nat} (h : ∀ c ∈ cs, Bin c) : sign cs = (false, cs) := by
  cases cs with
  | nil => rfl
  | cons c cs =>
    have := (h c (List.mem_cons_self ..)).plain
    exact sign_of (by omega) (by omega)
theorem noPre {cs : List Nat} (h : ∀ c ∈ cs, Bin c) : based 2 cs = (2, false, cs) := by
  match cs, h with
  | [], _ => rfl
  | [a], h =>
    rcases h a (List.mem_cons_self ..) with e | e <;> subst e <;> rfl
  | a :: c :: r, h =>
    rcases h a (List.mem_cons_self ..) with e | e <;> subst e <;>
      rcases h c (List.mem_cons_of_mem _ (List.mem_cons_self ..)) with e | e <;> subst e <;> rfl
theorem read {cs : List Nat} (h : ∀ c ∈ cs, Bin c) (hne : cs ≠ []) : (int_private% "readNumeral") 0 2 cs = (int_private% "Numeral.value") ((num cs : Nat) : Int) := by
  have hb : based 2 cs = (2, false, cs) := noPre h
  have hr : ∀ c ∈ cs.reverse, Bin c := fun c hc => h c (List.mem_reverse.mp hc)
  rw [readNumeral_eq 0 2 cs, noBlank h, noSign h]
  show judge 0 false (based 2 cs).1 (based 2 cs).2.1 (digits? (based 2 cs).1 (((based 2 cs).2.2.reverse.dropWhile blank).reverse)) = _
  rw [hb]
  show judge 0 false 2 false (digits? 2 ((cs.reverse.dropWhile blank).reverse)) = _
  rw [noBlank hr, List.reverse_reverse, all h hne]
  show (int_private% "Numeral.value") (((cs.map (· - 48)).toArray.foldl (fun acc d => acc * 2 + d) 0 : Nat) : Int) = _
  rw [worth]
theorem seen {x : Str} (h : ∀ c ∈ x.cps.toList, Bin c) : numTextOf x = x.cps.toList ∧ numSeenOf x = x.cps.toList := by
  have e1 : numTextOf x = x.cps.toList := if_pos (by
    rw [← Array.all_toList, List.all_eq_true]
    exact fun c hc => decide_eq_true (h c hc).plain.2.2.1)
  refine ⟨e1, ?_⟩
  show List.takeWhile _ (numTextOf x) = _
  rw [e1]
  exact takeWhile_all fun c hc => bne_iff_ne.mpr (h c hc).plain.2.1
set_option maxHeartbeats 4000000 in
theorem gives {x : PySem.Str} {u t : Tok} (hl : x.length ≤ 640) (h : ∀ c ∈ x.cps.toList, Bin c) (hne : x.cps.toList ≠ []) :
    Gives (Builtin.«int.__new__» ⟨[.type "int", .str x u, .int 2 t], []⟩) (.int ((num x.cps.toList : Nat) : Int)) :=
  .of_wp fun M A E s Q hQ => by
    obtain ⟨hp, g, d, tk, os⟩ := s
    have f1 := F.conv_sub_int
    have f2 := F.madeHere_int
    have f6 : typeOf (.str x u) = pure (.type "str") := rfl
    obtain ⟨e1, e2⟩ := seen h
    have hk : Hx.Hid ((numSeenOf x).length ≤ 640 ∧ (int_private% "readNumeral") 0 2 (numSeenOf x) = (int_private% "Numeral.value") ((num x.cps.toList : Nat) : Int) ∧ ((numSeenOf x).length == (numTextOf x).length) = true) := by
      refine ⟨?_, ?_, ?_⟩
      · rw [e2, Array.length_toList]
        exact hl
      · rw [e2]
        exact read h hne
      · rw [e1, e2]
        exact beq_self_eq_true _
    clear e1 e2 hl hne h
    repeat (any_goals (first
      | assumption
      | ((with_reducible show wpAny _ _ ((int_private% "intFromText") _ _ _) _ _ _); refine Hx.wp_textB hk.out.1 hk.out.2.1 hk.out.2.2 ?_)
      | wp_step))
    all_goals (try exact ⟨_, rfl, hQ⟩)
end Two
def rIntBin : List V → Hp → VK → Prop := fun xs H Q => ∃ l : List Nat, xs = [.str (SX.S l), .int 2] ∧ (l ≠ [] ∧ l.length ≤ 640 ∧ ∀ c ∈ l, Two.Bin c) ∧ Q (.int ((Two.num l : Nat) : Int)) H
theorem call_int_bin {X : Cx} : CallR X (.type "int") rIntBin := by
  intro pins s σ H xs us Q I r h
  obtain ⟨l, rfl, ⟨hne, hl, hx⟩, q⟩ := h
  obtain ⟨u, w', rfl, ⟨t1, rfl⟩, ⟨t2, rfl⟩⟩ := vals2 r
  exact callType_new F.called_int F.newNe_int (Hx.typeCall_int_2 _ _) (Hx.newCall_int_2 _ _) (fun obj => F.initArgs_range_2 obj _ _) F.entry_int_new
    (Two.gives (x := SX.S l) (u := t1) (t := t2) (by rw [SX.S_len]; exact hl) hx hne).meets (show (Made.int ((Two.num l : Nat) : Int)).post _ s from ⟨rfl, .int ((Two.num l : Nat) : Int), H, I.tok _, ⟨_, rfl⟩, q⟩)
/-! ### f"{n:b}" -/
def tFmtB (te : TE) : TE := fun σ H Q => te σ H fun x H1 => ∃ n : Nat, x = .int (n : Int) ∧ (dig n).length ≤ 16777216 ∧ Q (.str (SX.S (dig n))) H1
theorem spec_b : Builtin.Float.parseFormatSpec (Str.ofString "b").cps.toList "int" 62 = .ok { fill := 32, align := 62, type := some 98 } := by kernel_rfl
theorem pe_fmtB {X : Cx} {e : Expr} {te : TE} {j : Nat} {p1 p2 p3 p4 : Pos} (he : PE X e te) : PE X (.JoinedStr [.FormattedValue e (-1) (some (.JoinedStr [.Constant (.str "b") j p1] p2)) p3] p4) (tFmtB te) := by
  refine ⟨fun pins s σ H Q I h => ?_⟩
  refine wpAny_JoinedStr_one (wpAny_FormattedValue_spec (thn (he.run pins s σ H _ I h) fun v s1 hv => ?_))
  obtain ⟨x, H1, I1, r1, n, rfl, hz, q⟩ := hv
  obtain ⟨t, rfl⟩ := r1
  refine wpAny_JoinedStr_one (thn ((pe_str (X := X) (x := "b") (j := j) (pos := p1)).run pins s1 σ H1 (fun v H2 => v = .str "b" ∧ H2 = H1) I1 ⟨rfl, rfl⟩) fun v s2 hv => ?_)
  obtain ⟨x, H2, I2, r2, rfl, rfl⟩ := hv
  obtain ⟨t2, rfl⟩ := r2
  have hd : (Nat.toDigits 2 n).length ≤ sizeLine := by
    have h := hz
    unfold dig at h
    rw [List.length_map] at h
    rw [sizeLine_eq]
    exact h
  refine ⟨_, t2, rfl, wpAny_formatField_spec (by decide) (fun s' => typeIs_int s' _ t) F.slot_int_format F.entry_int_format F.args_int_format_2 (fun u => gives_fmtB n t u hd spec_b (by decide) (by decide)) ⟨.str (SX.S (dig n)), _, I2.tok _, ⟨_, rfl⟩, q⟩ (by decide) ?_⟩
  show (List.toArray _).size ≤ _
  rw [List.size_toArray, List.length_map]
  exact hd
/-! ### a def under its name, with its promise -/
structure Df (K : PySem.W.Frag) (mg : Str → Option Value) (x : Str) (st : Stmt) (ps : List Str) (f : Addr) (fd : FuncData) : Prop where
  fn : Fun K x x st f fd
  bi : Binds K fd ps []
  gl : mg x = some (.ref f)
structure Cl (P : Program) (w : World) (K : PySem.W.Frag) (mg : Str → Option Value) (base : Heap) (CX : CXT) (k : Nat) (x : Str) (sp : Sp) : Prop where
  ex : ∃ (f : Addr) (fd : FuncData) (ps : List Str), FnOk P w K mg base CX k f fd ps sp ∧ mg x = some (.ref f) ∧ PySem.W.keepIn K (.ref f) = true ∧ Binds K fd ps []
structure Ck (P : Program) (w : World) (K : PySem.W.Frag) (mg : Str → Option Value) (base : Heap) (CX : CXT) (k n : Nat) (x : Str) (ks : List Str) (gV : List V → List V → List V) (sp : Sp) : Prop where
  ex : ∃ (f : Addr) (fd : FuncData) (ps : List Str) (g : List Value → List Value → List Value), FnOk P w K mg base CX k f fd ps sp ∧ mg x = some (.ref f) ∧ PySem.W.keepIn K (.ref f) = true ∧ KBn K fd ps n ks g gV
section
variable {P : Program} {w : World} {K : PySem.W.Frag} {mg : Str → Option Value} {base : Heap} {CX : CXT} {k j : Nat} {x : Str} {sp : Sp}
theorem Df.cl {st : Stmt} {ps : List Str} {f : Addr} {fd : FuncData} (D : Df K mg x st ps f fd) (h : FnOk P w K mg base CX k f fd ps sp) : Cl P w K mg base CX k x sp := ⟨f, fd, ps, h, D.gl, D.fn.kp, D.bi⟩
theorem pe_cl {X : Cx} {p pos : Pos} {e : Expr} {es : List Expr} {t : TA} (c : Cl X.prog X.w X.K X.mg X.base CX0 k x sp) (hr : Room j X.A) (hk : k ≤ j) (hg : Gl X x) (ha : PA X (e :: es) t)
    (hdb : (x == ("__debug__" : Str)) = false := by decide) (he : starEach (e :: es) X.env = (false, eval e X.env) :: starEach es X.env := by rfl) (hpl : (backTo pos (starEach es X.env)).any (·.1) = false := by rfl) :
    PE X (.Call (.Name x p) (e :: es) [] pos) (tCall sp [] E0 t) := by
  obtain ⟨f, fd, ps, F, hm, kp, b⟩ := c.ex
  exact pe_call F (hr.mono hk) hg hm kp b .nil pass0 ha hdb he hpl
theorem pe_ck0 {X : Cx} {p pos : Pos} {kws : List Keyword} {tk : TA} {ks : List Str} {gV : List V → List V → List V} (c : Ck X.prog X.w X.K X.mg X.base CX0 k 0 x ks gV sp) (hr : Room j X.A) (hk : k ≤ j) (hg : Gl X x) (hkw : PK X kws tk)
    (hall : (backToKw pos (keywordEach kws X.env)).all (·.1.isSome) = true := by rfl) (hks : (backToKw pos (keywordEach kws X.env)).filterMap (·.1) = ks := by rfl)
    (hdb : (x == ("__debug__" : Str)) = false := by decide)
    (hpl : ((backTo pos (starEach [] X.env)).any (·.1) || (backToKw pos (keywordEach kws X.env)).any (·.1.isNone)) = false := by rfl) :
    PE X (.Call (.Name x p) [] kws pos) (tCallN 0 ks.length sp gV E0 tNil tk) := by
  obtain ⟨f, fd, ps, g, F, hm, kp, b⟩ := c.ex
  exact pe_callN0 F (hr.mono hk) hg hm kp b pass0 hkw hall hks hdb hpl
end
/-! ### rules that speak of the written part, K named (a comprehension's block asks it so) -/
section
variable {X : Cx}
theorem ixL (K : PySem.W.Frag) (h : X.K = K := by rfl) : IxR X (rIxL K) := by
  subst h
  exact ix_list
theorem ixT (K : PySem.W.Frag) (h : X.K = K := by rfl) : IxR X (rIxT K) := by
  subst h
  exact ix_tup
def rLenS (K : PySem.W.Frag) : List V → Hp → VK → Prop := fun xs H Q => ∃ p ys, xs = [.ref p] ∧ (SqL K H p ys ∨ SqT K H p ys) ∧ Q (.int (ys.length : Nat)) H
theorem lenS (K : PySem.W.Frag) (h : X.K = K := by rfl) : CallR X (.builtin "len") (rLenS K) := by
  subst h
  exact call_len_seq
def rListOf (K : PySem.W.Frag) : List V → Hp → VK → Prop := fun xs H Q => ∃ p ys, xs = [.ref p] ∧ (SqL K H p ys ∨ SqT K H p ys) ∧ ∀ l, H l = none → Q (.ref l) (upd H l (.lst ys))
theorem listOf (K : PySem.W.Frag) (h : X.K = K := by rfl) : CallR X (.type "list") (rListOf K) := by
  subst h
  exact call_list_of
def rTupOf (K : PySem.W.Frag) : List V → Hp → VK → Prop := fun xs H Q => ∃ p ys, xs = [.ref p] ∧ ((SqL K H p ys ∧ ∀ l, H l = none → Q (.ref l) (upd H l (.tup ys))) ∨ (SqT K H p ys ∧ Q (.ref p) H))
theorem tupOf (K : PySem.W.Frag) (h : X.K = K := by rfl) : CallR X (.type "tuple") (rTupOf K) := by
  subst h
  exact call_tuple_of
theorem crSum (K : PySem.W.Frag) (hc : X.calm = true) (h : X.K = K := by rfl) : CallR X (.builtin "sum") (rSum K) := by
  subst h
  exact cr_sum hc
theorem crAll (K : PySem.W.Frag) (hc : X.calm = true) (h : X.K = K := by rfl) : CallR X (.builtin "all") (rAll K) := by
  subst h
  exact cr_all hc
theorem isiK (K : PySem.W.Frag) (h : X.K = K := by rfl) : CallR X (.builtin "isinstance") (rIsi K) := by
  subst h
  exact call_isi
theorem opCatA (K : PySem.W.Frag) (h : X.K = K := by rfl) : OpR X (binaryOp .Add) (rCatA K) := by
  subst h
  exact op_catA
theorem slL (K : PySem.W.Frag) (h : X.K = K := by rfl) : SlR X (rSlL K) := by
  subst h
  exact sl_list
def rJoin (K : PySem.W.Frag) : V → List V → Hp → VK → Prop := fun x xs H Q => ∃ (a : Str) (p : Addr) (ys : List Str), x = .str a ∧ xs = [.ref p] ∧ (SqL K H p (ys.map V.str) ∨ SqT K H p (ys.map V.str)) ∧ (ys.map (·.length)).sum + ys.length * a.length ≤ 16777216 ∧ Q (.str (Txt.join a ys)) H
theorem mtJoin (K : PySem.W.Frag) (h : X.K = K := by rfl) : MtR X "str.join" (rJoin K) := by
  subst h
  exact mt_join
theorem slTA (K : PySem.W.Frag) (h : X.K = K := by rfl) : SlR X (rSlA K) := by
  subst h
  exact sl_tupA
/-- a built-in class as a value -/
theorem pe_ty {x : Str} {pos : Pos} (t : String) (hg : Gl X x) (hm : X.mg x = none) (hv : bootBuiltins x = some (.type t)) (hn : x ≠ "__name__" := by decide +kernel) (hd : (x == ("__debug__" : Str)) = false := by decide +kernel) : PE X (.Name x pos) (tC (.ty t)) := pe_bltn hg hm hv rfl hn hd
end

theorem Vals.rev : ∀ {xs : List V} {us : List Value}, Vals xs us → Vals xs.reverse us.reverse
  | _, _, .nil => .nil
  | _, _, .cons r t => by
    rw [List.reverse_cons, List.reverse_cons]
    exact Vals.append (Vals.rev t) (.cons r .nil)
theorem Fun.kb {K : PySem.W.Frag} {x qual : Str} {st : Stmt} {f : Addr} {fd : FuncData} {ps ks : List Str} {g : List Value → List Value → List Value} {gV : List V → List V → List V} (F : Fun K x qual st f fd) (n : Nat)
    (h : ∀ (kV doc pm : Value) (an : Option Addr) (cdv ct : Value) (us ws : List Value), us.length = n → ws.length = ks.length → bindArgs (PySem.W.fnOf x qual (defArgs st) (defBody st) (defScope st) .none kV doc pm an cdv ct) ⟨us, ks.zip ws⟩ = pure (ps.zip (g us ws)))
    (hrel : ∀ {vs : List V} {us : List Value} {zs : List V} {ws : List Value}, Vals vs us → Vals zs ws → Vals (gV vs zs) (g us ws)) : KBn K fd ps n ks g gV := by
  obtain ⟨oc, od, kV, doc, pm, an, cdv, ct, osl, rfl, lk, hcd⟩ := F.ex
  exact ⟨fun s us ws _ l1 l2 => .of_eq (h kV doc pm an cdv ct us ws l1 l2), hrel⟩

/-! ### own errors -/
structure Exn (K : PySem.W.Frag) (mg : Str → Option Value) (x : Str) (C : Addr) : Prop where
  inn : PySem.W.excIn K C [.type "ValueError", .type "Exception", .type "BaseException", .type "object"] "ValueError.__new__" = true
  gl : mg x = some (.ref C)
  kp : PySem.W.keepIn K (.ref C) = true
  ba : PySem.W.subIn K (.ref C) (.type "BaseException") = some true
  ty : PySem.W.typeIn K (.ref C) = some (.type "type")
section
variable {X : Cx} {C : Addr} {x m : Str} {j k i : Nat} {p p2 pos pos2 : Pos} {W : WX} {sp : Sp} {e : Expr} {es : List Expr} {t : TA}
theorem ps_raiseE (e : Exn X.K X.mg x C) (hc : X.calm = true) (tk : Takes X W) (hg : Gl X x) (hdb : (x == ("__debug__" : Str)) = false := by decide) :
    PS X (.Raise (some (.Call (.Name x p) [.Constant (.str m) j p2] [] pos)) none pos2) (fun _ σ H => W (.ref C) none σ H) :=
  ps_raise hc tk (pmk_own PySem.F.excBase_ValueError e.inn e.gl e.kp (raises_own e.ba e.ty) hg hdb)
theorem pe_clX (c : Cl X.prog X.w X.K X.mg X.base (L2.CX X.prog X.w) k x sp) (hr : Room i X.A) (hk : k ≤ i) (hg : Gl X x) (tk : Takes X W) (ha : PA X (e :: es) t)
    (hdb : (x == ("__debug__" : Str)) = false := by decide) (he : starEach (e :: es) X.env = (false, eval e X.env) :: starEach es X.env := by rfl) (hpl : (backTo pos (starEach es X.env)).any (·.1) = false := by rfl) :
    PE X (.Call (.Name x p) (e :: es) [] pos) (tCallS sp (WE W) t) := by
  obtain ⟨f, fd, ps, F, hm, kp, b⟩ := c.ex
  exact pe_callS F (hr.mono hk) hg hm kp b (fun σ => passAt tk σ) ha hdb he hpl
end

/-! ### try: .. except A as n: .. except B as m: .. -/
/-- a clause that names what it catches: the class, the name's slot, what the suite does -/
structure Cla where
  c : Value
  i : Nat
  ts : Addr → Value → Option Addr → TS
/-- behind the suite the name is gone -/
def Cla.gone (q : Cla) (D : Ends) : Ends where
  nx σ H := D.nx (σ.set q.i none) H
  rt := D.rt
  bk σ H := D.bk (σ.set q.i none) H
  ct σ H := D.ct (σ.set q.i none) H
/-- what the clauses wish of an exception -/
def claW (K : PySem.W.Frag) (Wout : WX) (D : Ends) : List Cla → WX
  | [] => Wout
  | q :: r => fun cls d σ H => ∃ b, PySem.W.exmOne K cls q.c = some b ∧
      (b = true → ∀ a, H a = none → q.ts a cls d (q.gone D) (σ.set q.i (some (.ref a))) H) ∧ (b = false → claW K Wout D r cls d σ H)
inductive ClaOk (X : Cx) : List ExceptHandler → List Cla → Prop
  | nil : ClaOk X [] []
  | cons {x n : Str} {q : Cla} {b : Stmt} {bs : List Stmt} {p1 p2 : Pos} {hs : List ExceptHandler} {l : List Cla}
      (slot : X.N[q.i]? = some n) (loc : X.env.kindOf n = some .local) (cls : Names X x q.c)
      (run : ∀ (a : Addr) (oe : Obj) (cls : Value) (d : Option Addr) (pn : List (Addr × Obj)), Zc cls d oe → (∃ vs, oe.data = .fields vs) → PSs (X.suite a ((a, oe) :: pn)) (b :: bs) (q.ts a cls d))
      (rest : ClaOk X hs l) : ClaOk X (.ExceptHandler (some (.Name x p1)) (some n) (b :: bs) p2 :: hs) (q :: l)
/-- the exception at a was caught: it stands on the ground, and what was known when it was raised is known -/
structure Caught (X : Cx) (pins : List (Addr × Obj)) (σ : L2.St) (H : Hp) (B : Heap) (a : Addr) (cls : Value) (d : Option Addr) (sI t : Shared) : Prop where
  inv : Inv X pins σ H sI
  fl : HandSPX.FlyingZ B (X.env :: X.outer) a (Zc cls d) t.heap
  up : sI.heap.UpToSlots t.heap
  nb : ∀ b o, sI.heap.get? b = some o → b ∉ frs X.stack → B.get? b = some o
  na : H a = none
  os : t.os = sI.os
  ag : AllBare t.gens
section
variable {X : Cx} {pins : List (Addr × Obj)} {σ : L2.St} {H : Hp} {B : Heap} {a : Addr} {cls : Value} {d : Option Addr} {sI t : Shared}
theorem Caught.now (c : Caught X pins σ H B a cls d sI t) : Inv X pins σ H t := c.inv.landed c.nb c.fl.1 c.up c.os c.ag
theorem Caught.later (c : Caught X pins σ H B a cls d sI t) {h : Heap} (f : HandSPX.FlyingZ B (X.env :: X.outer) a (Zc cls d) h) (u : t.heap.UpToSlots h) : Caught X pins σ H B a cls d sI { t with heap := h } :=
  ⟨c.inv, f, c.up.trans u, c.nb, c.na, c.os, c.ag⟩
/-- within a suite -/
theorem Caught.inSuite (c : Caught X pins σ H B a cls d sI t) (hf : X.env.frame = some X.env.locals) : ∃ oe, Zc cls d oe ∧ (∃ vs, oe.data = .fields vs) ∧ t.heap.get? a = some oe ∧ Inv (X.suite a ((a, oe) :: (X.pn ++ pins))) [] σ H t := by
  obtain ⟨oe, vs, at_a, z, dat⟩ := c.fl.there
  have off : a ∉ frs (X.env :: X.outer) := fun m => by
    obtain ⟨_, o', g, no⟩ := c.fl.2.2.1.mem m
    cases at_a.symm.trans g
    exact no _ dat
  have l : a ≠ X.env.locals := fun e => off (List.mem_filterMap.mpr ⟨_, .head _, by rw [hf, e]⟩)
  have f : a ∉ X.fs := fun m => by
    obtain ⟨e, me, q⟩ := List.mem_filterMap.mp m
    exact off (List.mem_filterMap.mpr ⟨e, .tail _ me, q⟩)
  exact ⟨oe, z, ⟨vs, dat⟩, at_a, c.now.suite at_a dat c.na l f⟩
/-- no clause is left: it flies on -/
theorem Caught.flies (c : Caught X pins σ H B a cls d sI t) {D : Ends} {Wout : WX} (hs : X.stack = X.env :: X.outer) (hf : X.env.frame = some X.env.locals) (tk : Takes X Wout) (w : Wout cls d σ H) :
    wpAny (model X.prog X.w) X.A (handleBy (.ref a) X.env []) (SP X pins D) X.xe t := by
  obtain ⟨k1, k2, k3, oe, vs, T, oT, ts', g, z, dat, first, more⟩ := id c.fl
  refine wpAny_handleBy_nil (by
    unfold PySem.passOn
    refine wpAny_bind (wpAny_field g dat first ?_)
    rw [if_neg (by simp)]
    have up : wpAny (model X.prog X.w) X.A (setFlight (.ref a) X.env.frame) (fun _ s4 => wpAny (model X.prog X.w) X.A (throw (.ref a) : Sem Flow) (SP X pins D) X.xe s4) X.xe t := by
      rw [hf]
      refine HandSPX.setFlight_upZ c.fl fun h held u => wpAny_throw (tk _ _ ⟨a, B, sI, pins, σ, H, cls, d, rfl, c.inv, c.nb, c.up.trans u, ?_, c.na, c.os, c.ag, w⟩)
      rw [hs]
      exact .inr (.inr held)
    first
      | exact wpAny_bind (wpAny_pure (wpAny_bind up))
      | exact wpAny_bind up)
/-- the clauses, one after the other -/
theorem Caught.clauses {D : Ends} {Wout : WX} (hs : X.stack = X.env :: X.outer) (hf : X.env.frame = some X.env.locals) (hN : X.N.Nodup) (tk : Takes X Wout) {hds : List ExceptHandler} {l : List Cla} (ok : ClaOk X hds l) :
    Caught X pins σ H B a cls d sI t → claW X.K Wout D l cls d σ H → wpAny (model X.prog X.w) X.A (handleBy (.ref a) X.env hds) (SP X pins D) X.xe t := by
  induction ok with
  | nil => exact fun c w => c.flies hs hf tk w
  | @cons x n q b bs p1 p2 hs2 l2 slot loc nm run rest ih =>
    rintro c ⟨m, hm, yes, no⟩
    obtain ⟨oe, z, dat, g, S⟩ := c.inSuite hf
    have typ : PySem.W.Looks (model X.prog X.w) t.heap (typeOf (.ref a)) cls := fun _ _ _ _ k r => wpAny_typeOf_ref (k _ _ g) (by rw [z.1]; exact r)
    refine wpAny_handleBy_cons (codeAny_handlers_test ?_) nofun
    have look : ∀ {Q E : Value → Shared → Prop}, Q q.c t → wpAny (model X.prog X.w) (X.A.mark (some (.ref a))) (eval (.Name x p1) X.env) Q E t := fun r => by
      rcases nm with ⟨g1, g2, e | ⟨e, v, nn⟩⟩
      · exact ld_glob (X := X.suite a ((a, oe) :: (X.pn ++ pins))) S g1 e r g2
      · exact ld_blt (X := X.suite a ((a, oe) :: (X.pn ++ pins))) S g1 e v r nn g2
    refine look ((PySem.W.exm_one (M := model X.prog X.w) c.now.kIn typ hm).here ?_)
    match m, hm, yes, no with
    | false, _, _, no => exact ih c (no rfl)
    | true, _, yes, _ =>
      refine codeAny_handlers_suite_as (HandSPX.lands_againZ c.fl fun h f u => ?_)
      have c2 := c.later f u
      obtain ⟨o2, z2, dat2, g2, S2⟩ := c2.inSuite hf
      refine store_ok (X := X.suite a ((a, o2) :: (X.pn ++ pins))) (v := .ref a) S2 hN slot (.inl loc) rfl (fun s5 S5 => ?_) (.inr loc)
      refine wpAny_mono ((run a o2 cls d (X.pn ++ pins) z2 dat2).run [] s5 _ H _ S5 (yes rfl a c.na)) (fun fl s6 post => ?_) (fun _ _ => False.elim)
      have shut : ∀ {τ : L2.St} {G : Hp} {R : Shared → Prop}, Inv (X.suite a ((a, o2) :: (X.pn ++ pins))) [] τ G s6 → (∀ s7, Inv X pins (τ.set q.i none) G s7 → R s7) →
          wpAny (model X.prog X.w) X.A (do bindName X.env n .none; unbindBehindTheSuite X.env n p2) (fun _ s7 => R s7) X.xe s6 := fun S6 r => gone_ok (S6.unsuite c.inv.ok) hN slot loc r
      match fl, post with
      | .next, ⟨_, _, S6, r⟩ => exact shut S6 fun _ J => ⟨_, _, J, r⟩
      | .brk, ⟨_, _, S6, r⟩ => exact shut S6 fun _ J => ⟨_, _, J, r⟩
      | .cont, ⟨_, _, S6, r⟩ => exact shut S6 fun _ J => ⟨_, _, J, r⟩
      | .ret _, ⟨_, _, _, S6, rv, r⟩ => exact shut S6 fun _ J => ⟨_, _, _, J, rv, r⟩
end
theorem ps_try_named {X : Cx} {body : List Stmt} {h₀ : ExceptHandler} {hds : List ExceptHandler} {l : List Cla} {pos : Pos} {tb : WX → TS} {Wout : WX}
    (hs : X.stack = X.env :: X.outer) (hf : X.env.frame = some X.env.locals) (hN : X.N.Nodup) (tk : Takes X Wout)
    (hb : ∀ (W : WX) (pn : List (Addr × Obj)) (xe : Value → Shared → Prop), Takes (X.tr pn xe) W → PassesOwn (model X.prog X.w) X.A X.env xe → PSs (X.tr pn xe) body (tb W))
    (cl : ClaOk X (h₀ :: hds) l) : PS X (.Try body (h₀ :: hds) [] [] pos) (fun D σ H => tb (claW X.K Wout D l) D σ H) := by
  refine ⟨fun pins s σ H D I w => wpAny_Try_except ?_⟩
  let catch_ : Value → Shared → Prop := fun e s₁ => wpAny (model X.prog X.w) X.A (noteFrame e X.env) (fun _ s₂ => wpAny (model X.prog X.w) X.A (setFlight e none)
    (fun _ s₃ => wpAny (model X.prog X.w) X.A (handleBy e X.env (h₀ :: hds)) (SP X pins D) X.xe s₃) X.xe s₂) X.xe s₁
  refine wpAny_mono ((hb (claW X.K Wout D l) (X.pn ++ pins) catch_ ?_ PassesOwn.looking).run [] s σ H D (I.toTry _) w) (fun fl t post => ?_) (fun _ _ e => e)
  · rintro u t ⟨a, B, sI, _, τ, G, cls, d, rfl, J, nb, up, sky, na, os, ag, w⟩
    rw [← show X.stack = (X.tr (X.pn ++ pins) catch_).stack from rfl, hs] at sky
    refine Sky.land Zc.steady (by rw [I.ok.frames, hs]) hf sky fun h f u => ?_
    exact Caught.clauses hs hf hN tk cl (pins := pins) (t := { t with heap := h }) ⟨J.ofTry I.ok, f, up.trans u, nb, na, os, ag⟩ w
  · match fl, post with
    | .next, ⟨_, _, J, r⟩ => exact wpAny_execs_nil ⟨_, _, J.ofTry I.ok, r⟩
    | .brk, ⟨_, _, J, r⟩ => exact ⟨_, _, J.ofTry I.ok, r⟩
    | .cont, ⟨_, _, J, r⟩ => exact ⟨_, _, J.ofTry I.ok, r⟩
    | .ret _, ⟨_, _, _, J, rv, r⟩ => exact ⟨_, _, _, J.ofTry I.ok, rv, r⟩
theorem pe_ckX0 {k j : Nat} {x : Str} {sp : Sp} {X : Cx} {p pos : Pos} {kws : List Keyword} {tk : TA} {ks : List Str} {gV : List V → List V → List V} (c : Ck X.prog X.w X.K X.mg X.base (L2.CX X.prog X.w) k 0 x ks gV sp) (hr : Room j X.A) (hk : k ≤ j) (hg : Gl X x) (hkw : PK X kws tk)
    (hall : (backToKw pos (keywordEach kws X.env)).all (·.1.isSome) = true := by rfl) (hks : (backToKw pos (keywordEach kws X.env)).filterMap (·.1) = ks := by rfl)
    (hdb : (x == ("__debug__" : Str)) = false := by decide)
    (hpl : ((backTo pos (starEach [] X.env)).any (·.1) || (backToKw pos (keywordEach kws X.env)).any (·.1.isNone)) = false := by rfl) :
    PE X (.Call (.Name x p) [] kws pos) (tCallN 0 ks.length sp gV E0 tNil tk) := by
  obtain ⟨f, fd, ps, g, F, hm, kp, b⟩ := c.ex
  exact pe_callN0 F (hr.mono hk) hg hm kp b (fun pins σ H s e s' I c => passAt (W := fun _ _ _ _ => False) takes0 σ pins H s e s' I c) hkw hall hks hdb hpl

/-! ### data: what a value is, to any depth -/
theorem dp_all_len {K : PySem.W.Frag} {H : Hp} : ∀ {vs : List V} {ds : List PyData}, DpAll K H vs ds → vs.length = ds.length
  | _, _, .nil => rfl
  | _, _, .cons _ t => congrArg Nat.succ (dp_all_len t)
theorem dp_all_get {K : PySem.W.Frag} {H : Hp} : ∀ {vs : List V} {ds : List PyData} {i : Nat} {v : V}, DpAll K H vs ds → vs[i]? = some v → ∃ d, ds[i]? = some d ∧ Dp K H v d
  | _, _, _, _, .nil, h => by simp at h
  | _, _, 0, v, .cons h t, e => by
    have e' := Option.some.inj e
    subst e'
    exact ⟨_, rfl, h⟩
  | _, _, i + 1, v, .cons h t, e => dp_all_get (i := i) t e
theorem same_sqt {K : PySem.W.Frag} {H H' : Hp} {a : Addr} {xs : List V} (e : Same H H') (h : SqT K H a xs) : SqT K H' a xs := by
  rcases h with (h | ⟨o, h⟩) | h
  · exact .inl (.inl (e _ _ h))
  · exact .inl (.inr ⟨o, e _ _ h⟩)
  · exact .inr h
mutual
theorem dp_same {K : PySem.W.Frag} {H H' : Hp} (e : Same H H') : ∀ (d : PyData) {v : V}, Dp K H v d → Dp K H' v d
  | .none, _, .non => .non
  | .bool _, _, .bl b => .bl b
  | .int _, _, .int i => .int i
  | .str _, _, .str x => .str x
  | .list ds, _, .lst hs ha => .lst (e.seq hs) (dps_same e ds ha)
  | .tuple ds, _, .tup hs ha => .tup (same_sqt e hs) (dps_same e ds ha)
  | .dict _, _, h => by cases h
theorem dps_same {K : PySem.W.Frag} {H H' : Hp} (e : Same H H') : ∀ (ds : List PyData) {vs : List V}, DpAll K H vs ds → DpAll K H' vs ds
  | [], _, .nil => .nil
  | d :: ds, _, .cons h t => .cons (dp_same e d h) (dps_same e ds t)
end
def okT (x : Str) : Prop := PySem.PyData.strOk x = true ∧ x.length ≤ 5000
/-- plain data of so many levels at most, nothing large -/
def Gd : Nat → PyData → Prop
  | 0, d => match d with
    | .none => True
    | .bool _ => True
    | .int _ => True
    | .str x => okT x
    | _ => False
  | n + 1, d => match d with
    | .none => True
    | .bool _ => True
    | .int _ => True
    | .str x => okT x
    | .list xs => xs.length ≤ 5000 ∧ ∀ x ∈ xs, Gd n x
    | .tuple xs => xs.length ≤ 5000 ∧ ∀ x ∈ xs, Gd n x
    | .dict _ => False
theorem gd_str {n : Nat} {x : Str} (h : Gd n (.str x)) : okT x := by
  cases n with
  | zero => exact h
  | succ n => exact h
theorem gd_tup {n : Nat} {xs : List PyData} (h : Gd n (.tuple xs)) : xs.length ≤ 5000 ∧ ∃ m, n = m + 1 ∧ ∀ x ∈ xs, Gd m x := by
  cases n with
  | zero => exact h.elim
  | succ n => exact ⟨h.1, n, rfl, h.2⟩
theorem gd_lst {n : Nat} {xs : List PyData} (h : Gd n (.list xs)) : xs.length ≤ 5000 ∧ ∃ m, n = m + 1 ∧ ∀ x ∈ xs, Gd m x := by
  cases n with
  | zero => exact h.elim
  | succ n => exact ⟨h.1, n, rfl, h.2⟩
theorem gd_up : ∀ {n : Nat} {d : PyData}, Gd n d → Gd (n + 1) d
  | 0, .none, h => h
  | 0, .bool _, h => h
  | 0, .int _, h => h
  | 0, .str _, h => h
  | n + 1, .none, h => h
  | n + 1, .bool _, h => h
  | n + 1, .int _, h => h
  | n + 1, .str _, h => h
  | n + 1, .list xs, h => ⟨h.1, fun x hx => gd_up (h.2 x hx)⟩
  | n + 1, .tuple xs, h => ⟨h.1, fun x hx => gd_up (h.2 x hx)⟩
theorem gd_le {n m : Nat} {d : PyData} (h : Gd n d) (hm : n ≤ m) : Gd m d := by
  induction hm with
  | refl => exact h
  | step _ ih => exact gd_up ih
theorem depthAll_le {n : Nat} : ∀ {xs : List PyData}, (∀ x ∈ xs, x.depth ≤ n) → PyData.depthAll xs ≤ n
  | [], _ => by
    unfold PyData.depthAll
    exact Nat.zero_le _
  | x :: xs, h => by
    unfold PyData.depthAll
    exact Nat.max_le.mpr ⟨h x List.mem_cons_self, depthAll_le fun y hy => h y (List.mem_cons_of_mem _ hy)⟩
theorem layAll_of : ∀ {xs : List PyData}, (∀ x ∈ xs, x.canLay0 = true) → PyData.canLayAll0 xs = true
  | [], _ => by
    unfold PyData.canLayAll0
    rfl
  | x :: xs, h => by
    unfold PyData.canLayAll0
    rw [h x List.mem_cons_self, layAll_of fun y hy => h y (List.mem_cons_of_mem _ hy)]
    rfl
theorem gd_facts : ∀ {n : Nat} {d : PyData}, Gd n d → d.canLay0 = true ∧ d.depth ≤ n
  | 0, .none, h => ⟨by unfold PyData.canLay0; rfl, by unfold PyData.depth; omega⟩
  | 0, .bool _, h => ⟨by unfold PyData.canLay0; rfl, by unfold PyData.depth; omega⟩
  | 0, .int _, h => ⟨by unfold PyData.canLay0; rfl, by unfold PyData.depth; omega⟩
  | 0, .str _, h => ⟨by unfold PyData.canLay0; exact h.1, by unfold PyData.depth; omega⟩
  | n + 1, .none, h => ⟨by unfold PyData.canLay0; rfl, by unfold PyData.depth; omega⟩
  | n + 1, .bool _, h => ⟨by unfold PyData.canLay0; rfl, by unfold PyData.depth; omega⟩
  | n + 1, .int _, h => ⟨by unfold PyData.canLay0; rfl, by unfold PyData.depth; omega⟩
  | n + 1, .str _, h => ⟨by unfold PyData.canLay0; exact h.1, by unfold PyData.depth; omega⟩
  | n + 1, .list xs, h => ⟨by unfold PyData.canLay0; exact layAll_of fun x hx => (gd_facts (h.2 x hx)).1, by
      unfold PyData.depth
      have := depthAll_le fun x hx => (gd_facts (h.2 x hx)).2
      omega⟩
  | n + 1, .tuple xs, h => ⟨by unfold PyData.canLay0; exact layAll_of fun x hx => (gd_facts (h.2 x hx)).1, by
      unfold PyData.depth
      have := depthAll_le fun x hx => (gd_facts (h.2 x hx)).2
      omega⟩
theorem gd_shaped {n : Nat} {d : PyData} (h : Gd n d) (hn : n ≤ 64) : SeqAt.shaped d = true := by
  obtain ⟨h1, h2⟩ := gd_facts h
  unfold SeqAt.shaped
  rw [h1, decide_eq_true (Nat.le_trans h2 hn)]
  rfl
/-! ### types -/
def tyN : PyData → String
  | .none => "NoneType"
  | .bool _ => "bool"
  | .int _ => "int"
  | .str _ => "str"
  | .list _ => "list"
  | .tuple _ => "tuple"
  | .dict _ => "dict"
theorem dp_ty {K : PySem.W.Frag} {H : Hp} {v : V} : ∀ {d : PyData}, Dp K H v d → TyX K H v (.type (tyN d))
  | _, .non => .base .non
  | _, .bl b => .base (.bl b)
  | _, .int i => .base (.int i)
  | _, .str x => .base (.str x)
  | _, .lst hs _ => by
    rcases hs with (h | ⟨o, h⟩) | ⟨o, _, _, h, hc, _⟩
    · exact .base (.lst h)
    · exact .base (.frz h)
    · exact .kList h hc
  | _, .tup hs _ => by
    rcases hs with (h | ⟨o, h⟩) | ⟨o, _, _, h, hc, _⟩
    · exact .base (.tup h)
    · exact .fTuple h
    · exact .kTuple h hc
def isInt : PyData → Bool
  | .int _ => true
  | .bool _ => true
  | _ => false
def isBool : PyData → Bool
  | .bool _ => true
  | _ => false
def isStr : PyData → Bool
  | .str _ => true
  | _ => false
def isTup : PyData → Bool
  | .tuple _ => true
  | _ => false
theorem kit_int {K : PySem.W.Frag} (d : PyData) : PySem.W.kitOne K (.type (tyN d)) (.type "int") = some (isInt d) := by
  cases d with
  | none => exact kit_ty (show kitB "NoneType" "int" = some false by decide +kernel)
  | bool _ => exact kit_ty (show kitB "bool" "int" = some true by decide +kernel)
  | int _ => exact kit_ty (show kitB "int" "int" = some true by decide +kernel)
  | str _ => exact kit_ty (show kitB "str" "int" = some false by decide +kernel)
  | list _ => exact kit_ty (show kitB "list" "int" = some false by decide +kernel)
  | tuple _ => exact kit_ty (show kitB "tuple" "int" = some false by decide +kernel)
  | dict _ => exact kit_ty (show kitB "dict" "int" = some false by decide +kernel)
theorem kit_bool {K : PySem.W.Frag} (d : PyData) : PySem.W.kitOne K (.type (tyN d)) (.type "bool") = some (isBool d) := by
  cases d with
  | none => exact kit_ty (show kitB "NoneType" "bool" = some false by decide +kernel)
  | bool _ => exact kit_ty (show kitB "bool" "bool" = some true by decide +kernel)
  | int _ => exact kit_ty (show kitB "int" "bool" = some false by decide +kernel)
  | str _ => exact kit_ty (show kitB "str" "bool" = some false by decide +kernel)
  | list _ => exact kit_ty (show kitB "list" "bool" = some false by decide +kernel)
  | tuple _ => exact kit_ty (show kitB "tuple" "bool" = some false by decide +kernel)
  | dict _ => exact kit_ty (show kitB "dict" "bool" = some false by decide +kernel)
theorem kit_str {K : PySem.W.Frag} (d : PyData) : PySem.W.kitOne K (.type (tyN d)) (.type "str") = some (isStr d) := by
  cases d with
  | none => exact kit_ty (show kitB "NoneType" "str" = some false by decide +kernel)
  | bool _ => exact kit_ty (show kitB "bool" "str" = some false by decide +kernel)
  | int _ => exact kit_ty (show kitB "int" "str" = some false by decide +kernel)
  | str _ => exact kit_ty (show kitB "str" "str" = some true by decide +kernel)
  | list _ => exact kit_ty (show kitB "list" "str" = some false by decide +kernel)
  | tuple _ => exact kit_ty (show kitB "tuple" "str" = some false by decide +kernel)
  | dict _ => exact kit_ty (show kitB "dict" "str" = some false by decide +kernel)
theorem kit_tup {K : PySem.W.Frag} (d : PyData) : PySem.W.kitOne K (.type (tyN d)) (.type "tuple") = some (isTup d) := by
  cases d with
  | none => exact kit_ty (show kitB "NoneType" "tuple" = some false by decide +kernel)
  | bool _ => exact kit_ty (show kitB "bool" "tuple" = some false by decide +kernel)
  | int _ => exact kit_ty (show kitB "int" "tuple" = some false by decide +kernel)
  | str _ => exact kit_ty (show kitB "str" "tuple" = some false by decide +kernel)
  | list _ => exact kit_ty (show kitB "list" "tuple" = some false by decide +kernel)
  | tuple _ => exact kit_ty (show kitB "tuple" "tuple" = some true by decide +kernel)
  | dict _ => exact kit_ty (show kitB "dict" "tuple" = some false by decide +kernel)
/-! ### what a block is -/
def whole : PyData → Int → Int → Bool
  | .int i, lo, hi => decide (lo ≤ i) && decide (i ≤ hi)
  | _, _, _ => false
def strLen (m : Int) : PyData → Bool
  | .str x => decide ((x.length : Int) = m)
  | _ => false
def bitRow (m : Int) : PyData → Bool
  | .str x => decide ((x.length : Int) = m) && x.cps.toList.all (fun c => c == 48 || c == 49)
  | _ => false
def rowsOk : PyData → Int → Int → Bool
  | .tuple xs, many, m => decide ((xs.length : Int) = many) && xs.all (bitRow m)
  | _, _, _ => false
def named (x : Str) (d : PyData) : Bool := PyData.eqv d (.str x)
def genRows : PyData → PyData → PyData → Bool
  | .int n, .int m, r => rowsOk r (1 * 2 ^ n.toNat) m
  | _, _, _ => false
def genOk : PyData → Bool
  | .tuple [k, n, m, r] => named "generator" k && whole n 1 10 && whole m 1 40 && genRows n m r
  | _ => false
def sumLe : PyData → PyData → Bool
  | .int n, .int l => decide (n + l ≤ 12)
  | _, _ => false
def funTabs : PyData → PyData → PyData → PyData → Bool
  | .int n, .int l, .int m, .tuple ts => decide ((ts.length : Int) = 1 * 2 ^ n.toNat) && ts.all (fun r => rowsOk r (1 * 2 ^ l.toNat) m)
  | _, _, _, _ => false
def funOk : PyData → Bool
  | .tuple [k, n, l, m, t] => named "function" k && whole n 1 8 && whole l 1 8 && sumLe n l && whole m 1 40 && funTabs n l m t
  | _ => false
theorem gen_no {xs : List PyData} (h : ¬ xs.length = 4) : genOk (.tuple xs) = false := by
  unfold genOk
  split
  · rename_i e
    cases e
    exact absurd rfl h
  · rfl
theorem fun_no {xs : List PyData} (h : ¬ xs.length = 5) : funOk (.tuple xs) = false := by
  unfold funOk
  split
  · rename_i e
    cases e
    exact absurd rfl h
  · rfl
def blockOk (d : PyData) : Bool := genOk d || funOk d
/-! ### strip of 0 and 1 -/
theorem strip_all (x : Str) : decide (V.str (Txt.stripChars x "01") = V.str "") = x.cps.toList.all (fun c => c == 48 || c == 49) := by
  have goes : ∀ c : Nat, (("01" : Str).cps.contains c) = (c == 48 || c == 49) := fun c => by
    show (#[48, 49] : Array Nat).contains c = _
    by_cases h1 : c = 48
    · subst h1
      simp
    · by_cases h2 : c = 49
      · subst h2
        simp
      · simp [h1, h2]
  have hn : x.cps.toList.length = x.length := by simp [Str.length]
  have key : Txt.stripChars x "01" = "" ↔ ∀ k, k < x.length → (("01" : Str).cps.contains (x.cps.getD k 0)) = true := by
    unfold Txt.stripChars
    rw [stripBy_eq]
    obtain ⟨a1, a2, a3⟩ := lo_facts ("01" : Str).cps.contains x
    obtain ⟨b1, b2, b3, _⟩ := hi_facts ("01" : Str).cps.contains x _ a1
    generalize stripLo ("01" : Str).cps.contains true x = lo at a1 a2 a3 b1 b2 b3
    generalize stripHi ("01" : Str).cps.contains true x lo = hi at b1 b2 b3
    have hl : (Builtin.Str.strSub x lo hi).cps.toList = (x.cps.toList.drop lo).take (hi - lo) := PySem.StrLaws.strSub_toList x lo hi
    constructor
    · intro e k hk
      have h0 : (x.cps.toList.drop lo).take (hi - lo) = [] := by
        rw [← hl, e]
        rfl
      have h1 := congrArg List.length h0
      rw [List.length_take, List.length_drop, hn] at h1
      have h2 : min (hi - lo) (x.length - lo) = 0 := h1
      by_cases hk' : k < lo
      · exact a2 k hk'
      · exact b3 k (by omega) hk
    · intro h
      have e : lo = x.length := by
        rcases a3 with z | z
        · exact z
        · by_cases c : lo < x.length
          · rw [h lo c] at z
            cases z
          · omega
      refine TL.ext_tl ?_
      show (Builtin.Str.strSub x lo hi).cps.toList = []
      rw [hl, List.drop_eq_nil_of_le (by omega)]
      exact List.take_nil
  have e2 : (∀ k, k < x.length → (("01" : Str).cps.contains (x.cps.getD k 0)) = true) ↔ x.cps.toList.all (fun c => c == 48 || c == 49) = true := by
    rw [List.all_eq_true]
    constructor
    · intro h c hc
      obtain ⟨k, hk, e⟩ := List.getElem_of_mem hc
      have := h k (by omega)
      rw [← getD_list, List.getD_eq_getElem?_getD, List.getElem?_eq_getElem hk] at this
      rw [← goes c, ← e]
      exact this
    · intro h k hk
      rw [← getD_list, List.getD_eq_getElem?_getD, List.getElem?_eq_getElem (by omega)]
      rw [goes]
      exact h _ (List.getElem_mem _)
  by_cases c : Txt.stripChars x "01" = ""
  · rw [c, decide_eq_true rfl]
    exact (e2.mp (key.mp c)).symm
  · rw [decide_eq_false fun z => c (V.str.inj z)]
    cases hq : x.cps.toList.all (fun c => c == 48 || c == 49)
    · rfl
    · exact absurd (key.mpr (e2.mpr hq)) c
/-! ### what the law makes -/
def rowsD (rows : List (List Bool)) : PyData := .tuple (rows.map fun r => .str (sb r))
def tabD (n m : Nat) (rows : List (List Bool)) : PyData := .tuple [.str "generator", .int (n : Int), .int (m : Int), rowsD rows]
def funD (n l m : Nat) (tabs : List (List (List Bool))) : PyData := .tuple [.str "function", .int (n : Int), .int (l : Int), .int (m : Int), .tuple (tabs.map rowsD)]
theorem dp_bits {K : PySem.W.Frag} {H : Hp} : ∀ rows : List (List Bool), DpAll K H (rows.map fun r => V.str (sb r)) (rows.map fun r => PyData.str (sb r))
  | [] => .nil
  | r :: rows => .cons (.str _) (dp_bits rows)
theorem dpAll_snoc {K : PySem.W.Frag} {H : Hp} {v : V} {d : PyData} : ∀ {vs : List V} {ds : List PyData}, DpAll K H vs ds → Dp K H v d → DpAll K H (vs ++ [v]) (ds ++ [d])
  | _, _, .nil, h => .cons h .nil
  | _, _, .cons h t, h' => .cons h (dpAll_snoc t h')

/-! ### the promises -/
/-- the hand: a list of the draws' list and the number of the next draw -/
def Hnd (H : Hp) (a d : Addr) : Prop := ∃ (ds : List Int) (i : Nat), H a = some (.lst [.ref d, .int (i : Int)]) ∧ H d = some (.lst (ds.map V.int)) ∧ (∀ x ∈ ds, 0 ≤ x) ∧ d ≠ a
/-- all but the hand is as it was -/
def Keep (a : Addr) (H H' : Hp) : Prop := ∀ b o, H b = some o → b ≠ a → H' b = some o
theorem Keep.trans {a : Addr} {H H1 H2 : Hp} (h : Keep a H H1) (h' : Keep a H1 H2) : Keep a H H2 := fun b o e n => h' b o (h b o e n) n
theorem Keep.refl (a : Addr) (H : Hp) : Keep a H H := fun _ _ e _ => e
theorem Keep.new {a p : Addr} {H : Hp} {o : HO} (np : H p = none) : Keep a H (upd H p o) := fun b u e _ => by
  rw [upd_ne (ne_of_none e np)]
  exact e
theorem same_new {H : Hp} {p : Addr} {o : HO} (h : H p = none) : Same H (upd H p o) := fun b x e => by
  rw [upd_ne (ne_of_none e h)]
  exact e
theorem Hnd.same {H H' : Hp} {a d : Addr} (h : Hnd H a d) (s : Same H H') : Hnd H' a d := by
  obtain ⟨ds, i, h1, h2, h3, h4⟩ := h
  exact ⟨ds, i, s _ _ h1, s _ _ h2, h3, h4⟩
theorem Hnd.new {H : Hp} {a d p : Addr} {o : HO} (h : Hnd H a d) (np : H p = none) : Hnd (upd H p o) a d := h.same (same_new np)
theorem Hnd.some {H : Hp} {a d : Addr} (h : Hnd H a d) : ∃ o, H a = some o := by
  obtain ⟨ds, i, h1, _⟩ := h
  exact ⟨_, h1⟩
/-- what is new is neither the hand nor the draws -/
theorem Hnd.ne {H : Hp} {a d p : Addr} (h : Hnd H a d) (np : H p = none) : p ≠ a ∧ p ≠ d := by
  obtain ⟨ds, i, h1, h2, _⟩ := h
  exact ⟨(ne_of_none h1 np).symm, (ne_of_none h2 np).symm⟩
/-- an object beside the hand may change -/
theorem Hnd.set {H : Hp} {a d p : Addr} {o : HO} (h : Hnd H a d) (pa : p ≠ a) (pd : p ≠ d) : Hnd (upd H p o) a d := by
  obtain ⟨ds, i, h1, h2, h3, h4⟩ := h
  exact ⟨ds, i, by rw [upd_ne pa.symm]; exact h1, by rw [upd_ne pd.symm]; exact h2, h3, h4⟩
theorem Keep.same {a : Addr} {H H' : Hp} (s : Same H H') : Keep a H H' := fun b o e _ => s b o e
def spDraws (K : PySem.W.Frag) : Sp := fun vs H Q _ => ∃ (a : Addr) (ns : List Int) (many : Nat), vs = [.ref a, .int (many : Int)] ∧ SqL K H a (ns.map V.int) ∧ ns.length ≤ 63 ∧ many ≤ 5000 ∧
  ∀ (p : Addr) (ds : List Int) (H' : Hp), H p = none → Same H H' → H' p = some (.lst (ds.map V.int)) → (∀ x ∈ ds, (0 : Int) ≤ x) → Q (.ref p) H'
def spTake : Sp := fun vs H Q _ => ∃ (a d : Addr) (many : Int), vs = [.ref a, .int many] ∧ 0 < many ∧ Hnd H a d ∧ ∀ r H', 0 ≤ r → r < many → Hnd H' a d → Keep a H H' → Q (.int r) H'
def spString : Sp := fun vs H Q _ => ∃ (a d : Addr) (n : Nat), vs = [.ref a, .int (n : Int)] ∧ n ≤ 5000 ∧ Hnd H a d ∧ ∀ bs H', bs.length = n → Hnd H' a d → Keep a H H' → Q (.str (sb bs)) H'
def spBits : Sp := fun vs H Q _ => ∃ n k : Nat, vs = [.int (n : Int), .int (k : Int)] ∧ n ≤ 5000 ∧ k < 2 ^ n ∧ Q (.str (sb (toB n k))) H
def spNumber : Sp := fun vs H Q _ => ∃ bs : List Bool, vs = [.str (sb bs)] ∧ bs.length ≤ 640 ∧ Q (.int ((val bs : Nat) : Int)) H
def spXor : Sp := fun vs H Q _ => ∃ l m : List Bool, vs = [.str (sb l), .str (sb m)] ∧ l.length = m.length ∧ l.length ≤ 640 ∧ Q (.str (sb (List.zipWith (fun x y => x != y) l m))) H
def spParity : Sp := fun vs H Q _ => ∃ l m : List Bool, vs = [.str (sb l), .str (sb m)] ∧ l.length = m.length ∧ l.length ≤ 640 ∧ Q (.int ((((List.zipWith (fun x y => x && y) l m).count true : Nat) : Int) % 2)) H
def spIsS : Sp := fun vs H Q _ => ∃ x y : Str, vs = [.str x, .str y] ∧ Q (.bl (decide (x = y))) H
def spIsN : Sp := fun vs H Q _ => ∃ x y : Int, vs = [.int x, .int y] ∧ Q (.bl (decide (x = y))) H
def spPair : Sp := fun vs H Q _ => ∃ l m : List Bool, vs = [.str (sb l), .str (sb m)] ∧ l.length = m.length ∧ l.length ≤ 640 ∧ ∀ H', Same H H' → Q (.bl true) H'
def spLaw (K : PySem.W.Frag) : Sp := fun vs H Q _ => ∃ (a : Addr) (ns : List Int), vs = [.ref a] ∧ SqL K H a (ns.map V.int) ∧ ns.length ≤ 63 ∧ ∀ H', Q (.bl true) H'
/-- what was made anew may change: nothing that was there is it -/
theorem Keep.set {a p : Addr} {H H' : Hp} {o : HO} (h : Keep a H H') (np : H p = none) : Keep a H (upd H' p o) := fun b u e n => by
  rw [upd_ne (ne_of_none e np)]
  exact h b u e n
theorem Keep.free {a p : Addr} {H H' : Hp} (h : Keep a H H') (np : H' p = none) (pa : p ≠ a) : H p = none := by
  cases e : H p with
  | none => rfl
  | some o =>
    have := h p o e pa
    rw [np] at this
    cases this
/-- the heap without the hand: what data stand on -/
def off (a : Addr) (H : Hp) : Hp := fun b => if b = a then none else H b
theorem off_ne {a b : Addr} {H : Hp} (h : b ≠ a) : off a H b = H b := if_neg h
theorem off_same (a : Addr) (H : Hp) : Same (off a H) H := fun b o e => by
  unfold off at e
  by_cases h : b = a
  · rw [if_pos h] at e
    cases e
  · rw [if_neg h] at e
    exact e
theorem Keep.off {a : Addr} {H H' : Hp} (k : Keep a H H') : Same (off a H) (off a H') := fun b o e => by
  unfold My.off at e ⊢
  by_cases h : b = a
  · rw [if_pos h] at e
    cases e
  · rw [if_neg h] at e ⊢
    exact k b o e h

def spWhole (K : PySem.W.Frag) : Sp := fun vs H Q _ => ∃ (v : V) (d : PyData) (lo hi : Int), vs = [v, .int lo, .int hi] ∧ Dp K H v d ∧ Q (.bl (whole d lo hi)) H
def spRows (K : PySem.W.Frag) : Sp := fun vs H Q _ => ∃ (v : V) (d : PyData) (n : Nat) (many m : Int), vs = [v, .int many, .int m] ∧ Dp K H v d ∧ Gd n d ∧ many ≤ 4096 ∧ m ≤ 40 ∧ ∀ H', Same H H' → Q (.bl (rowsOk d many m)) H'
def spGen (K : PySem.W.Frag) : Sp := fun vs H Q _ => ∃ (v : V) (d : PyData) (n : Nat), vs = [v] ∧ Dp K H v d ∧ Gd n d ∧ n ≤ 64 ∧ ∀ H', Same H H' → Q (.bl (genOk d)) H'
def spFun (K : PySem.W.Frag) : Sp := fun vs H Q _ => ∃ (v : V) (d : PyData) (n : Nat), vs = [v] ∧ Dp K H v d ∧ Gd n d ∧ n ≤ 64 ∧ ∀ H', Same H H' → Q (.bl (funOk d)) H'
def spCheck (K : PySem.W.Frag) (C : Addr) : Sp := fun vs H Q E => ∃ (v : V) (d : PyData) (n : Nat), vs = [v] ∧ Dp K H v d ∧ Gd n d ∧ n ≤ 64 ∧ ∀ H', Same H H' → (blockOk d = true → Q .non H') ∧ (blockOk d = false → E (.ref C) none H')

def spTable (K : PySem.W.Frag) : Sp := fun vs H Q _ => ∃ (a d : Addr) (n m : Nat), vs = [.ref a, .int (n : Int), .int (m : Int)] ∧ n ≤ 8 ∧ m ≤ 200 ∧ Hnd H a d ∧
  ∀ v rows H', rows.length = 2 ^ n → (∀ r ∈ rows, r.length = m) → Dp K (off a H') v (tabD n m rows) → Hnd H' a d → Keep a H H' → Q v H'
def spFunction (K : PySem.W.Frag) : Sp := fun vs H Q _ => ∃ (a d : Addr) (n l m : Nat), vs = [.ref a, .int (n : Int), .int (l : Int), .int (m : Int)] ∧ n ≤ 8 ∧ l ≤ 8 ∧ m ≤ 200 ∧ Hnd H a d ∧
  ∀ v tabs H', tabs.length = 2 ^ n → (∀ rows ∈ tabs, rows.length = 2 ^ l ∧ ∀ r ∈ rows, r.length = m) → Dp K (off a H') v (funD n l m tabs) → Hnd H' a d → Keep a H H' → Q v H'

theorem for_text {x : Str} {g : TG} {tb : TS} {D : Ends} {σ : L2.St} {H : Hp} (Pv : Nat → L2.St → Hp → Prop) (h0 : Pv 0 σ H)
    (hs : ∀ i c σ H, x.cps[i]? = some c → Pv i σ H → g (.str ⟨#[c]⟩) σ H fun σ2 H2 => tb { D with nx := Pv (i + 1), ct := Pv (i + 1), bk := D.nx } σ2 H2) (hd : ∀ σ H, Pv x.cps.size σ H → D.nx σ H) :
    ∃ W : Nat → Nat → L2.St → Hp → Prop, (∃ m, W 0 m σ H) ∧ ∀ i m σ H, W i m σ H →
      ((Its x).stop i H ∧ D.nx σ H) ∨ ((Its x).go i H ∧ ∃ N : L2.St → Hp → Prop, (∀ σ' H', N σ' H' → ∃ m', m' < m ∧ W (i + 1) m' σ' H') ∧ ∀ y H', (Its x).yld i H y H' → g y σ H' fun σ2 H2 => tb { D with nx := N, ct := N, bk := D.nx } σ2 H2) := by
  refine ⟨fun i m σ H => m = x.cps.size - i ∧ i ≤ x.cps.size ∧ Pv i σ H, ⟨x.cps.size, by omega, Nat.zero_le _, h0⟩, ?_⟩
  rintro i m σ H ⟨rfl, hi, p⟩
  by_cases c : i < x.cps.size
  · refine .inr ⟨c, Pv (i + 1), fun σ' H' p' => ⟨x.cps.size - (i + 1), by omega, rfl, c, p'⟩, ?_⟩
    rintro y H' ⟨rfl, k, hk, rfl⟩
    exact hs i k σ _ hk p
  · have e : i = x.cps.size := by omega
    subst e
    exact .inl ⟨Nat.le_refl _, hd σ H p⟩

theorem ix_nat (n d i : Nat) : HT.sIx n d (some (i : Int)) = min i n := by
  unfold HT.sIx
  show (if (i : Int) < 0 then _ else min (i : Int).toNat n) = _
  rw [if_neg (by omega)]
  rfl
theorem sb_drop_take (l : List Bool) (a b : Nat) : (⟨(((sb l).cps.toList.drop a).take b).toArray⟩ : Str) = sb ((l.drop a).take b) := by
  unfold sb
  rw [List.map_take, List.map_drop]
theorem cut_pre {l : List Bool} {i : Nat} : cutS (sb l) none (some (i : Int)) = sb (l.take i) := by
  unfold cutS
  rw [sb_drop_take, ix_nat, HT.sIx_none, sb_len, List.drop_zero, Nat.sub_zero]
  congr 1
  by_cases h : i ≤ l.length
  · rw [Nat.min_eq_left h]
  · rw [List.take_of_length_le (by omega), List.take_of_length_le (by omega)]
theorem cut_suf {l : List Bool} {i : Nat} : cutS (sb l) (some (i : Int)) none = sb (l.drop i) := by
  unfold cutS
  rw [sb_drop_take, ix_nat, HT.sIx_none, sb_len, List.take_of_length_le (by rw [List.length_drop]; omega)]
  congr 1
  by_cases h : i ≤ l.length
  · rw [Nat.min_eq_left h]
  · rw [Nat.min_eq_right (by omega), List.drop_length, List.drop_of_length_le (by omega)]
theorem cut_one {l : List Bool} {i : Nat} : cutS (sb l) (some (i : Int)) (some ((i : Int) + 1)) = sb ((l.drop i).take 1) := by
  unfold cutS
  rw [show ((i : Int) + 1) = ((i + 1 : Nat) : Int) by omega, sb_drop_take, ix_nat, ix_nat, sb_len]
  congr 1
  by_cases h : i + 1 ≤ l.length
  · rw [Nat.min_eq_left h, Nat.min_eq_left (by omega)]
    congr 1
    omega
  · by_cases h' : i = l.length
    · subst h'
      rw [Nat.min_self, List.drop_length]
      simp
    · rw [Nat.min_eq_right (show l.length ≤ i by omega), List.drop_length, List.drop_eq_nil_of_le (show l.length ≤ i by omega)]
      simp
theorem rep_bits (b : Bool) (n : Nat) : SX.S (List.replicate n [cB b]).flatten = sb (List.replicate n b) := by
  unfold sb
  congr 1
  induction n with
  | zero => rfl
  | succ n ih =>
    rw [List.replicate_succ, List.flatten_cons, ih]
    rfl
theorem val_take (l : List Bool) (i : Nat) (h : i < l.length) : val (l.take (i + 1)) = 2 * val (l.take i) + bit l[i] := by
  rw [List.take_add_one, List.getElem?_eq_getElem h]
  exact val_snoc _ _
theorem val_zeros (n : Nat) : val (List.replicate n false) = 0 := by
  induction n with
  | zero => rfl
  | succ n ih =>
    rw [List.replicate_succ', val_snoc, ih]
    rfl
theorem sb_at {l : List Bool} {i c : Nat} (h : (sb l).cps[i]? = some c) : ∃ h : i < l.length, c = cB l[i] := by
  have e : (l.map cB)[i]? = some c := by
    rw [← h]
    show _ = ((l.map cB).toArray)[i]?
    simp
  rw [List.getElem?_map] at e
  obtain ⟨b, hb, rfl⟩ := Option.map_eq_some_iff.mp e
  obtain ⟨hi, rfl⟩ := List.getElem?_eq_some_iff.mp hb
  exact ⟨hi, rfl⟩

theorem name_ne {d : PyData} {x : Str} : (!PyData.eqv d (.str x)) = !named x d := rfl
theorem whole_int {d : PyData} {lo hi : Int} (h : whole d lo hi = true) : ∃ i, d = .int i ∧ lo ≤ i ∧ i ≤ hi := by
  cases d with
  | int i =>
    have h' : (decide (lo ≤ i) && decide (i ≤ hi)) = true := h
    rw [Bool.and_eq_true, decide_eq_true_eq, decide_eq_true_eq] at h'
    exact ⟨i, rfl, h'⟩
  | _ => cases h
theorem gen_eq {k n m r : PyData} : genOk (.tuple [k, n, m, r]) = (named "generator" k && whole n 1 10 && whole m 1 40 && genRows n m r) := rfl
theorem fun_eq {k n l m t : PyData} : funOk (.tuple [k, n, l, m, t]) = (named "function" k && whole n 1 8 && whole l 1 8 && sumLe n l && whole m 1 40 && funTabs n l m t) := rfl
theorem pow_le {n : Int} {b : Nat} (h0 : 1 ≤ n) (h : n ≤ (b : Int)) : (1 : Int) * 2 ^ n.toNat ≤ ((2 ^ b : Nat) : Int) := by
  have h1 : (2 : Nat) ^ n.toNat ≤ 2 ^ b := Nat.pow_le_pow_right (by decide) (by omega)
  have h2 : ((2 ^ n.toNat : Nat) : Int) ≤ ((2 ^ b : Nat) : Int) := Int.ofNat_le.mpr h1
  rw [Int.natCast_pow] at h2
  rw [Int.one_mul]
  exact h2
theorem dp4 {K : PySem.W.Frag} {H : Hp} {ws : List V} {xs : List PyData} (h : DpAll K H ws xs) (c : ws.length = 4) : ∃ v0 v1 v2 v3 d0 d1 d2 d3, ws = [v0, v1, v2, v3] ∧ xs = [d0, d1, d2, d3] ∧ Dp K H v0 d0 ∧ Dp K H v1 d1 ∧ Dp K H v2 d2 ∧ Dp K H v3 d3 := by
  match xs, ws, c, h with
  | _, [v0, v1, v2, v3], _, .cons h0 (.cons h1 (.cons h2 (.cons h3 .nil))) => exact ⟨_, _, _, _, _, _, _, _, rfl, rfl, h0, h1, h2, h3⟩
theorem dp5 {K : PySem.W.Frag} {H : Hp} {ws : List V} {xs : List PyData} (h : DpAll K H ws xs) (c : ws.length = 5) : ∃ v0 v1 v2 v3 v4 d0 d1 d2 d3 d4, ws = [v0, v1, v2, v3, v4] ∧ xs = [d0, d1, d2, d3, d4] ∧ Dp K H v0 d0 ∧ Dp K H v1 d1 ∧ Dp K H v2 d2 ∧ Dp K H v3 d3 ∧ Dp K H v4 d4 := by
  match xs, ws, c, h with
  | _, [v0, v1, v2, v3, v4], _, .cons h0 (.cons h1 (.cons h2 (.cons h3 (.cons h4 .nil)))) => exact ⟨_, _, _, _, _, _, _, _, _, _, rfl, rfl, h0, h1, h2, h3, h4⟩
theorem join_all : ∀ ys : List Str, (Txt.join "" ys).cps.toList = (ys.map (·.cps.toList)).flatten := by
  intro ys
  have j : ∀ ps : List (List Nat), TL.joinL [] ps = ps.flatten := by
    intro ps
    induction ps with
    | nil => rfl
    | cons x r ih =>
      cases r with
      | nil => exact (List.append_nil x).symm
      | cons y r =>
        show x ++ ([] ++ TL.joinL [] (y :: r)) = x ++ (y :: r).flatten
        rw [ih, List.nil_append]
  have e : ys = (ys.map (·.cps.toList)).map SX.S := by
    rw [List.map_map]
    exact (List.map_id'' (fun x => SX.S_tl x) ys).symm
  have h := SX.join_S [] (ys.map (·.cps.toList))
  rw [← e, j] at h
  exact congrArg (fun z : Str => z.cps.toList) h

/-! ### data of a size -/
def okS (s : Nat) (x : Str) : Prop := PySem.PyData.strOk x = true ∧ x.length ≤ s
def Gz (s : Nat) : Nat → PyData → Prop
  | 0, d => match d with
    | .none => True
    | .bool _ => True
    | .int i => i.natAbs < 10 ^ s
    | .str x => okS s x
    | _ => False
  | n + 1, d => match d with
    | .none => True
    | .bool _ => True
    | .int i => i.natAbs < 10 ^ s
    | .str x => okS s x
    | .list xs => xs.length ≤ s ∧ ∀ x ∈ xs, Gz s n x
    | .tuple xs => xs.length ≤ s ∧ ∀ x ∈ xs, Gz s n x
    | .dict _ => False
theorem gz_str {s n : Nat} {x : Str} : Gz s n (.str x) ↔ okS s x := by
  cases n <;> exact Iff.rfl
theorem gz_int {s n : Nat} {i : Int} : Gz s n (.int i) ↔ i.natAbs < 10 ^ s := by
  cases n <;> exact Iff.rfl
theorem gz_bool {s n : Nat} {b : Bool} : Gz s n (.bool b) := by
  cases n <;> trivial
theorem gz_none {s n : Nat} : Gz s n .none := by
  cases n <;> trivial
theorem gz_tup {s n : Nat} {xs : List PyData} (h : Gz s n (.tuple xs)) : xs.length ≤ s ∧ ∃ m, n = m + 1 ∧ ∀ x ∈ xs, Gz s m x := by
  cases n with
  | zero => exact h.elim
  | succ n => exact ⟨h.1, n, rfl, h.2⟩
theorem gz_gd {s : Nat} (hs : s ≤ 5000) : ∀ {n : Nat} {d : PyData}, Gz s n d → Gd n d
  | 0, .none, h => h
  | 0, .bool _, h => h
  | 0, .int _, h => trivial
  | 0, .str _, h => ⟨h.1, Nat.le_trans h.2 hs⟩
  | n + 1, .none, h => h
  | n + 1, .bool _, h => h
  | n + 1, .int _, h => trivial
  | n + 1, .str _, h => ⟨h.1, Nat.le_trans h.2 hs⟩
  | n + 1, .list xs, h => ⟨Nat.le_trans h.1 hs, fun x hx => gz_gd hs (h.2 x hx)⟩
  | n + 1, .tuple xs, h => ⟨Nat.le_trans h.1 hs, fun x hx => gz_gd hs (h.2 x hx)⟩
theorem gz_up {s t : Nat} (hs : s ≤ t) : ∀ {n m : Nat} {d : PyData}, n ≤ m → Gz s n d → Gz t m d
  | n, m, .none, _, h => gz_none
  | n, m, .bool _, _, h => gz_bool
  | n, m, .int _, _, h => gz_int.mpr (Nat.lt_of_lt_of_le (gz_int.mp h) (Nat.pow_le_pow_right (by decide) hs))
  | n, m, .str _, _, h => gz_str.mpr ⟨(gz_str.mp h).1, Nat.le_trans (gz_str.mp h).2 hs⟩
  | 0, m, .list _, _, h => h.elim
  | 0, m, .tuple _, _, h => h.elim
  | 0, m, .dict _, _, h => h.elim
  | n + 1, m, .dict _, _, h => h.elim
  | n + 1, m + 1, .list xs, hm, h => ⟨Nat.le_trans h.1 hs, fun x hx => gz_up hs (Nat.le_of_succ_le_succ hm) (h.2 x hx)⟩
  | n + 1, m + 1, .tuple xs, hm, h => ⟨Nat.le_trans h.1 hs, fun x hx => gz_up hs (Nat.le_of_succ_le_succ hm) (h.2 x hx)⟩
theorem sqt_off {K : PySem.W.Frag} {H : Hp} {a d p : Addr} {xs : List V} (h : Hnd H a d) (s : SqT K H p xs) : SqT K (off a H) p xs := by
  obtain ⟨ds, i, h1, _⟩ := h
  rcases s with (s | ⟨o, s⟩) | s
  · refine .inl (.inl ?_)
    rw [off_ne fun e => ?_]
    · exact s
    · rw [e, h1] at s
      cases s
  · refine .inl (.inr ⟨o, ?_⟩)
    rw [off_ne fun e => ?_]
    · exact s
    · rw [e, h1] at s
      cases s
  · exact .inr s
theorem sqt_on {K : PySem.W.Frag} {H : Hp} {a p : Addr} {xs : List V} (s : SqT K (off a H) p xs) : SqT K H p xs := same_sqt (off_same a H) s
theorem sql_on {K : PySem.W.Frag} {H : Hp} {a p : Addr} {xs : List V} (s : SqL K (off a H) p xs) : SqL K H p xs := (off_same a H).seq s
/-- a value of data of a size, beside the hand -/
def Ok (K : PySem.W.Frag) (a : Addr) (H : Hp) (s n : Nat) (v : V) : Prop := ∃ D, Dp K (off a H) v D ∧ Gz s n D
theorem Ok.same {K : PySem.W.Frag} {a : Addr} {H H' : Hp} {s n : Nat} {v : V} (h : Ok K a H s n v) (e : Same (off a H) (off a H')) : Ok K a H' s n v := by
  obtain ⟨D, h1, h2⟩ := h
  exact ⟨D, dp_same e D h1, h2⟩
theorem Ok.keep {K : PySem.W.Frag} {a : Addr} {H H' : Hp} {s n : Nat} {v : V} (h : Ok K a H s n v) (e : Keep a H H') : Ok K a H' s n v := h.same e.off
theorem Ok.up {K : PySem.W.Frag} {a : Addr} {H : Hp} {s n t m : Nat} {v : V} (h : Ok K a H s n v) (hs : s ≤ t) (hm : n ≤ m) : Ok K a H t m v := by
  obtain ⟨D, h1, h2⟩ := h
  exact ⟨D, h1, gz_up hs hm h2⟩
theorem same_off {a : Addr} {H H' : Hp} (s : Same H H') : Same (off a H) (off a H') := (Keep.same (a := a) s).off
theorem cutV_all {xs : List V} {lo hi : Option Int} (h1 : HT.sIx xs.length 0 lo = 0) (h2 : HT.sIx xs.length xs.length hi = xs.length) : cutV xs lo hi = xs := by
  unfold cutV
  rw [h1, h2]
  simp
theorem sl_any {K : PySem.W.Frag} {H : Hp} {Q : VK} {lo hi : Option Int} {a : Addr} {xs : List V} (hT : SqT K H a xs) (q : ∀ p H', Same H H' → SqT K H' p (cutV xs lo hi) → Q (.ref p) H') : rSlA K (.ref a) lo hi H Q := by
  refine ⟨a, xs, rfl, hT, fun hw => ?_, fun hw p np => ?_⟩
  · exact q a H (Same.refl H) (by rw [cutV_all hw.1 hw.2]; exact hT)
  · exact q p _ (same_new np) (.inl (.inl upd_same))
theorem sl_anyN {K : PySem.W.Frag} {σ : L2.St} {H : Hp} {Q : VK} {l : Option Int} {a : Addr} {xs : List V} (hT : SqT K H a xs) (q : ∀ p H', Same H H' → SqT K H' p (cutV xs l none) → Q (.ref p) H') : tNoPart σ H fun u H3 => rSlA K (.ref a) l u H3 Q := sl_any hT q
theorem cat_any {K : PySem.W.Frag} {H : Hp} {Q : VK} {a b : Addr} {xs ys : List V} (ha : SqT K H a xs) (hb : SqT K H b ys) (hz : xs.length + ys.length ≤ sizeLine) (q : ∀ p H', Same H H' → SqT K H' p (xs ++ ys) → Q (.ref p) H') : rCatA K (.ref a) (.ref b) H Q := by
  refine ⟨a, b, xs, ys, rfl, rfl, ha, hb, hz, fun e => ?_, fun e1 e2 => ?_, fun e1 e2 p np => ?_⟩
  · subst e
    exact q b H (Same.refl H) hb
  · subst e2
    exact q a H (Same.refl H) (by rw [List.append_nil]; exact ha)
  · exact q p _ (same_new np) (.inl (.inl upd_same))
theorem dps_drop {K : PySem.W.Frag} {H : Hp} : ∀ (i : Nat) {vs : List V} {ds : List PyData}, DpAll K H vs ds → DpAll K H (vs.drop i) (ds.drop i)
  | 0, _, _, h => h
  | i + 1, _, _, .nil => .nil
  | i + 1, _, _, .cons _ t => dps_drop i t
theorem dps_take {K : PySem.W.Frag} {H : Hp} : ∀ (i : Nat) {vs : List V} {ds : List PyData}, DpAll K H vs ds → DpAll K H (vs.take i) (ds.take i)
  | 0, _, _, h => .nil
  | i + 1, _, _, .nil => .nil
  | i + 1, _, _, .cons h t => .cons h (dps_take i t)
theorem dps_app {K : PySem.W.Frag} {H : Hp} : ∀ {vs ws : List V} {ds es : List PyData}, DpAll K H vs ds → DpAll K H ws es → DpAll K H (vs ++ ws) (ds ++ es)
  | _, _, _, _, .nil, h => h
  | _, _, _, _, .cons h t, h' => .cons h (dps_app t h')
/-- the values of a row, all of a size -/
def Oks (K : PySem.W.Frag) (a : Addr) (H : Hp) (s n : Nat) (vs : List V) : Prop := ∃ ds, DpAll K (off a H) vs ds ∧ ∀ d ∈ ds, Gz s n d
theorem Oks.keep {K : PySem.W.Frag} {a : Addr} {H H' : Hp} {s n : Nat} {vs : List V} (h : Oks K a H s n vs) (e : Keep a H H') : Oks K a H' s n vs := by
  obtain ⟨D, h1, h2⟩ := h
  exact ⟨D, dps_same e.off D h1, h2⟩
theorem Oks.up {K : PySem.W.Frag} {a : Addr} {H : Hp} {s n t m : Nat} {vs : List V} (h : Oks K a H s n vs) (hs : s ≤ t) (hm : n ≤ m) : Oks K a H t m vs := by
  obtain ⟨D, h1, h2⟩ := h
  exact ⟨D, h1, fun d hd => gz_up hs hm (h2 d hd)⟩
theorem Oks.app {K : PySem.W.Frag} {a : Addr} {H : Hp} {s n : Nat} {vs ws : List V} (h : Oks K a H s n vs) (h' : Oks K a H s n ws) : Oks K a H s n (vs ++ ws) := by
  obtain ⟨D, h1, h2⟩ := h
  obtain ⟨E, h3, h4⟩ := h'
  refine ⟨D ++ E, dps_app h1 h3, fun d hd => ?_⟩
  rcases List.mem_append.mp hd with z | z
  · exact h2 d z
  · exact h4 d z
theorem Oks.cut {K : PySem.W.Frag} {a : Addr} {H : Hp} {s n : Nat} {vs : List V} (lo hi : Option Int) (h : Oks K a H s n vs) : Oks K a H s n (cutV vs lo hi) := by
  obtain ⟨D, h1, h2⟩ := h
  exact ⟨(D.drop _).take _, dps_take _ (dps_drop _ h1), fun d hd => h2 d (List.mem_of_mem_drop (List.mem_of_mem_take hd))⟩
theorem Oks.one {K : PySem.W.Frag} {a : Addr} {H : Hp} {s n : Nat} {v : V} (h : Ok K a H s n v) : Oks K a H s n [v] := by
  obtain ⟨D, h1, h2⟩ := h
  refine ⟨[D], .cons h1 .nil, fun d hd => ?_⟩
  rw [List.mem_singleton.mp hd]
  exact h2
theorem Oks.get {K : PySem.W.Frag} {a : Addr} {H : Hp} {s n i : Nat} {v : V} {vs : List V} (h : Oks K a H s n vs) (e : vs[i]? = some v) : Ok K a H s n v := by
  obtain ⟨D, h1, h2⟩ := h
  obtain ⟨d, hd, h3⟩ := dp_all_get h1 e
  exact ⟨d, h3, h2 d (List.mem_of_getElem? hd)⟩
theorem Ok.tup {K : PySem.W.Frag} {a d p : Addr} {H : Hp} {s n : Nat} {vs : List V} (hh : Hnd H a d) (hT : SqT K H p vs) (h : Oks K a H s n vs) (hl : vs.length ≤ s) : Ok K a H s (n + 1) (.ref p) := by
  obtain ⟨D, h1, h2⟩ := h
  exact ⟨.tuple D, .tup (sqt_off hh hT) h1, by rw [← dp_all_len h1]; exact hl, h2⟩
theorem Ok.lst {K : PySem.W.Frag} {a p : Addr} {H : Hp} {s n : Nat} {vs : List V} (pa : p ≠ a) (hL : H p = some (.lst vs)) (h : Oks K a H s n vs) (hl : vs.length ≤ s) : Ok K a H s (n + 1) (.ref p) := by
  obtain ⟨D, h1, h2⟩ := h
  exact ⟨.list D, .lst (.inl (.inl (by rw [off_ne pa]; exact hL))) h1, by rw [← dp_all_len h1]; exact hl, h2⟩
theorem Ok.str {K : PySem.W.Frag} {a : Addr} {H : Hp} {s n : Nat} {x : Str} (h : okS s x) : Ok K a H s n (.str x) := ⟨.str x, .str x, gz_str.mpr h⟩
theorem Ok.int {K : PySem.W.Frag} {a : Addr} {H : Hp} {s n : Nat} {i : Int} (h : i.natAbs < 10 ^ s) : Ok K a H s n (.int i) := ⟨.int i, .int i, gz_int.mpr h⟩
theorem Ok.bl {K : PySem.W.Frag} {a : Addr} {H : Hp} {s n : Nat} {b : Bool} : Ok K a H s n (.bl b) := ⟨.bool b, .bl b, gz_bool⟩
theorem Ok.non {K : PySem.W.Frag} {a : Addr} {H : Hp} {s n : Nat} : Ok K a H s n .non := ⟨.none, .non, gz_none⟩
/-! ### signs -/
theorem strOk_iff {x : Str} : PySem.PyData.strOk x = true ↔ ∀ c ∈ x.cps.toList, c < 1114112 := by
  unfold PySem.PyData.strOk
  rw [← Array.all_toList, List.all_eq_true]
  constructor
  · intro h c hc
    exact of_decide_eq_true (h c hc)
  · intro h c hc
    exact decide_eq_true (h c hc)
theorem strOk_app {x y : Str} (hx : PySem.PyData.strOk x = true) (hy : PySem.PyData.strOk y = true) : PySem.PyData.strOk (x ++ y) = true := by
  rw [strOk_iff] at hx hy ⊢
  intro c hc
  have e : (x ++ y).cps.toList = x.cps.toList ++ y.cps.toList := by
    show (x.cps ++ y.cps).toList = _
    simp
  rw [e] at hc
  rcases List.mem_append.mp hc with z | z
  · exact hx c z
  · exact hy c z
theorem strOk_cut {x : Str} {lo hi : Option Int} (hx : PySem.PyData.strOk x = true) : PySem.PyData.strOk (cutS x lo hi) = true := by
  rw [strOk_iff] at hx ⊢
  intro c hc
  exact hx c (List.mem_of_mem_drop (List.mem_of_mem_take hc))
theorem str_app_len (x y : Str) : (x ++ y).length = x.length + y.length := by
  show (x.cps ++ y.cps).size = _
  rw [Array.size_append]
  rfl
theorem cutS_len {x : Str} {lo hi : Option Int} : (cutS x lo hi).length = min (HT.sIx x.length x.length hi - HT.sIx x.length 0 lo) (x.length - HT.sIx x.length 0 lo) := by
  show (List.toArray _).size = _
  rw [List.size_toArray, List.length_take, List.length_drop]
  rfl
theorem cutV_len {x : List V} {lo hi : Option Int} : (cutV x lo hi).length = min (HT.sIx x.length x.length hi - HT.sIx x.length 0 lo) (x.length - HT.sIx x.length 0 lo) := by
  unfold cutV
  rw [List.length_take, List.length_drop]
theorem okS_int {s : Nat} {i : Int} (h : i.natAbs < 10 ^ s) (hs : 0 < s) : okS (s + 1) (Str.ofString (toString i)) := by
  refine ⟨?_, ?_⟩
  · rw [strOk_iff, Str.ofString_eq_toList]
    intro c hc
    obtain ⟨k, _, e⟩ := List.mem_map.mp hc
    rw [← e]
    have := k.valid
    rcases this with h | ⟨_, h⟩
    · show k.val.toNat < _
      have h' : k.val.toNat < 55296 := h
      omega
    · exact h
  · rw [PySem.ofString_length]
    exact int_text_length_le10 hs h
theorem atI_mem {xs : List V} {i : Int} (h0 : 0 ≤ i) (h1 : i < (xs.length : Int)) : ∃ x, atI xs i = some x ∧ x ∈ xs := by
  obtain ⟨k, rfl⟩ : ∃ k : Nat, i = (k : Int) := ⟨i.toNat, by omega⟩
  have hk : k < xs.length := by omega
  exact ⟨xs[k], atI_nat (List.getElem?_eq_getElem hk), List.getElem_mem hk⟩
theorem okS_mono {s t : Nat} {x : Str} (h : okS s x) (e : s ≤ t) : okS t x := ⟨h.1, Nat.le_trans h.2 e⟩
theorem okS_app {s t : Nat} {x y : Str} (hx : okS s x) (hy : okS t y) : okS (s + t) (x ++ y) := ⟨strOk_app hx.1 hy.1, by
  rw [str_app_len]
  have h1 := hx.2
  have h2 := hy.2
  omega⟩
theorem sIx_n (n d k : Nat) : HT.sIx n d (some (k : Int)) = min k n := HT.sIx_nat n d k
theorem okS_pre {s k : Nat} {x : Str} (hx : okS s x) (hk : k ≤ x.length) : okS k (cutS x none (some (k : Int))) := ⟨strOk_cut hx.1, by
  rw [cutS_len, sIx_n, HT.sIx_none]
  omega⟩
theorem okS_suf {s k : Nat} {x : Str} (hx : okS s x) : okS (x.length - k) (cutS x (some (k : Int)) none) := ⟨strOk_cut hx.1, by
  rw [cutS_len, sIx_n, HT.sIx_none]
  omega⟩
theorem Oks.nil {K : PySem.W.Frag} {a : Addr} {H : Hp} {s n : Nat} : Oks K a H s n [] := ⟨[], .nil, fun d hd => nomatch hd⟩
theorem Oks.cons {K : PySem.W.Frag} {a : Addr} {H : Hp} {s n : Nat} {v : V} {vs : List V} (h : Ok K a H s n v) (h' : Oks K a H s n vs) : Oks K a H s n (v :: vs) := (Oks.one h).app h'
theorem Oks.rep {K : PySem.W.Frag} {a : Addr} {H : Hp} {s n : Nat} {v : V} (h : Ok K a H s n v) : ∀ k : Nat, Oks K a H s n (List.replicate k v)
  | 0 => .nil
  | k + 1 => by
    rw [List.replicate_succ]
    exact .cons h (Oks.rep h k)
theorem Ok.small {K : PySem.W.Frag} {a : Addr} {H : Hp} {s n : Nat} {i : Int} (h : i.natAbs < 100) (hs : 2 ≤ s) : Ok K a H s n (.int i) := .int (Nat.lt_of_lt_of_le (show i.natAbs < 10 ^ 2 from h) (Nat.pow_le_pow_right (by decide) hs))
theorem shl_one (n : Nat) : (1 : Int) * 2 ^ ((n : Nat) : Int).toNat = ((2 ^ n : Nat) : Int) := by
  rw [Int.one_mul, Int.toNat_natCast, Int.natCast_pow]
  rfl
theorem two_pow_le {n b : Nat} (h : n ≤ b) : 2 ^ n ≤ 2 ^ b := Nat.pow_le_pow_right (by decide) h
theorem at0 {v : V} {ws : List V} : atI (v :: ws) 0 = some v := atI_nat (j := 0) rfl
theorem all4 {P : PyData → Prop} {a b c d : PyData} (h1 : P a) (h2 : P b) (h3 : P c) (h4 : P d) : ∀ x ∈ [a, b, c, d], P x := by
  intro x hx
  rcases List.mem_cons.mp hx with e | hx
  · exact e ▸ h1
  rcases List.mem_cons.mp hx with e | hx
  · exact e ▸ h2
  rcases List.mem_cons.mp hx with e | hx
  · exact e ▸ h3
  rcases List.mem_cons.mp hx with e | hx
  · exact e ▸ h4
  exact nomatch hx
theorem off_upd {R : Addr} {H : Hp} {o : HO} (a : Addr) : off R (off a (upd H R o)) = off R (off a H) := by
  funext b
  unfold off
  by_cases h : b = R
  · rw [if_pos h, if_pos h]
  · rw [if_neg h, if_neg h]
    by_cases h' : b = a
    · rw [if_pos h', if_pos h']
    · rw [if_neg h', if_neg h', upd_ne h]
theorem off_mono {R : Addr} {H H' : Hp} (s : Same H H') : Same (off R H) (off R H') := fun b o e => by
  unfold off at e ⊢
  by_cases h : b = R
  · rw [if_pos h] at e
    cases e
  · rw [if_neg h] at e ⊢
    exact s b o e

theorem dp_sbs {K : PySem.W.Frag} {H : Hp} : ∀ {vs : List V} {rows : List (List Bool)}, DpAll K H vs (rows.map fun r => PyData.str (sb r)) → vs = rows.map fun r => V.str (sb r)
  | _, [], .nil => rfl
  | _, _ :: _, .cons (.str _) t => by rw [List.map_cons, dp_sbs t]
/-! ### generators, as the document tells them -/
structure Wf (n m : Nat) (rows : List (List Bool)) : Prop where
  n1 : 1 ≤ n
  n2 : n ≤ 10
  m1 : 1 ≤ m
  m2 : m ≤ 40
  len : rows.length = 2 ^ n
  row : ∀ r ∈ rows, r.length = m
theorem bitRow_sb {m : Nat} {r : List Bool} (h : r.length = m) : bitRow (m : Int) (.str (sb r)) = true := by
  show (decide (((sb r).length : Int) = (m : Int)) && (sb r).cps.toList.all _) = true
  rw [sb_len, h, decide_eq_true rfl, Bool.true_and, List.all_eq_true]
  intro c hc
  have e : (sb r).cps.toList = r.map cB := by
    show ((r.map cB).toArray).toList = _
    simp
  rw [e] at hc
  obtain ⟨b, _, rfl⟩ := List.mem_map.mp hc
  cases b <;> rfl
theorem sb_bitRow {m : Int} {d : PyData} (h : bitRow m d = true) : ∃ r : List Bool, d = .str (sb r) ∧ (r.length : Int) = m := by
  cases d with
  | str x =>
    have h' : (decide ((x.length : Int) = m) && x.cps.toList.all (fun c => c == 48 || c == 49)) = true := h
    obtain ⟨h1, h2⟩ := Bool.and_eq_true_iff.mp h'
    have key : ∀ l : List Nat, l.all (fun c => c == 48 || c == 49) = true → ∃ r : List Bool, l = r.map cB := by
      intro l
      induction l with
      | nil => exact fun _ => ⟨[], rfl⟩
      | cons c l ih =>
        intro hl
        rw [List.all_cons, Bool.and_eq_true] at hl
        obtain ⟨r, e⟩ := ih hl.2
        rcases Bool.or_eq_true_iff.mp hl.1 with z | z
        · exact ⟨false :: r, by rw [e, beq_iff_eq.mp z]; rfl⟩
        · exact ⟨true :: r, by rw [e, beq_iff_eq.mp z]; rfl⟩
    obtain ⟨r, e⟩ := key _ h2
    have ex : x = sb r := TL.ext_tl (by
      show x.cps.toList = ((r.map cB).toArray).toList
      rw [e])
    refine ⟨r, by rw [ex], ?_⟩
    have := of_decide_eq_true h1
    rw [ex, sb_len] at this
    exact this
  | _ => cases h
theorem rows_ok {many m : Nat} {rows : List (List Bool)} (h1 : rows.length = many) (h2 : ∀ r ∈ rows, r.length = m) : rowsOk (rowsD rows) (many : Int) (m : Int) = true := by
  show (decide (((rows.map fun r => PyData.str (sb r)).length : Int) = (many : Int)) && (rows.map fun r => PyData.str (sb r)).all (bitRow (m : Int))) = true
  rw [List.length_map, h1, decide_eq_true rfl, Bool.true_and, List.all_eq_true]
  intro x hx
  obtain ⟨r, hr, rfl⟩ := List.mem_map.mp hx
  exact bitRow_sb (h2 r hr)
theorem ok_rowsD {many m : Int} {d : PyData} (h : rowsOk d many m = true) : ∃ rows : List (List Bool), d = rowsD rows ∧ (rows.length : Int) = many ∧ ∀ r ∈ rows, (r.length : Int) = m := by
  cases d with
  | tuple xs =>
    have h' : (decide ((xs.length : Int) = many) && xs.all (bitRow m)) = true := h
    obtain ⟨h1, h2⟩ := Bool.and_eq_true_iff.mp h'
    have key : ∀ l : List PyData, l.all (bitRow m) = true → ∃ rows : List (List Bool), l = rows.map (fun r => .str (sb r)) ∧ ∀ r ∈ rows, (r.length : Int) = m := by
      intro l
      induction l with
      | nil => exact fun _ => ⟨[], rfl, fun r hr => nomatch hr⟩
      | cons c l ih =>
        intro hl
        rw [List.all_cons, Bool.and_eq_true] at hl
        obtain ⟨rows, e, hr⟩ := ih hl.2
        obtain ⟨r, er, hl'⟩ := sb_bitRow hl.1
        refine ⟨r :: rows, by rw [e, er]; rfl, fun x hx => ?_⟩
        rcases List.mem_cons.mp hx with z | z
        · rw [z]
          exact hl'
        · exact hr x z
    obtain ⟨rows, e, hr⟩ := key _ h2
    refine ⟨rows, by rw [e]; rfl, ?_, hr⟩
    have := of_decide_eq_true h1
    rw [e, List.length_map] at this
    exact this
  | _ => cases h
theorem wf_gen {n m : Nat} {rows : List (List Bool)} (h : Wf n m rows) : genOk (tabD n m rows) = true := by
  have e1 : whole (.int (n : Int)) 1 10 = true := by
    show (decide _ && decide _) = true
    rw [decide_eq_true (show (1 : Int) ≤ (n : Int) by have := h.n1; omega), decide_eq_true (show (n : Int) ≤ 10 by have := h.n2; omega)]
    rfl
  have e2 : whole (.int (m : Int)) 1 40 = true := by
    show (decide _ && decide _) = true
    rw [decide_eq_true (show (1 : Int) ≤ (m : Int) by have := h.m1; omega), decide_eq_true (show (m : Int) ≤ 40 by have := h.m2; omega)]
    rfl
  have e3 : genRows (.int (n : Int)) (.int (m : Int)) (rowsD rows) = true := by
    show rowsOk (rowsD rows) (1 * 2 ^ (n : Int).toNat) (m : Int) = true
    rw [shl_one]
    exact rows_ok h.len h.row
  show genOk (.tuple [.str "generator", .int (n : Int), .int (m : Int), rowsD rows]) = true
  rw [gen_eq, e1, e2, e3]
  decide +kernel
theorem named_iff {x : Str} {d : PyData} (h : named x d = true) : d = .str x := by
  cases d with
  | str y =>
    have h' : (y == x) = true := h
    rw [beq_iff_eq.mp h']
  | _ => cases h
theorem gen_wf {d : PyData} (h : genOk d = true) : ∃ (n m : Nat) (rows : List (List Bool)), d = tabD n m rows ∧ Wf n m rows := by
  unfold genOk at h
  split at h
  · rename_i k n m r
    obtain ⟨g3, h4⟩ := Bool.and_eq_true_iff.mp h
    obtain ⟨g2, h3⟩ := Bool.and_eq_true_iff.mp g3
    obtain ⟨h1, h2⟩ := Bool.and_eq_true_iff.mp g2
    obtain ⟨n, rfl, n1, n2⟩ := whole_int h2
    obtain ⟨m, rfl, m1, m2⟩ := whole_int h3
    obtain ⟨n, rfl⟩ : ∃ k : Nat, n = (k : Int) := ⟨n.toNat, by omega⟩
    obtain ⟨m, rfl⟩ : ∃ k : Nat, m = (k : Int) := ⟨m.toNat, by omega⟩
    have h4' : rowsOk r (1 * 2 ^ (n : Int).toNat) (m : Int) = true := h4
    rw [shl_one] at h4'
    obtain ⟨rows, rfl, hl, hr⟩ := ok_rowsD h4'
    refine ⟨n, m, rows, by rw [named_iff h1]; rfl, by omega, by omega, by omega, by omega, by omega, fun r hr' => by have := hr r hr'; omega⟩
  · cases h
theorem fun_no_gen {d : PyData} (h : funOk d = true) : genOk d = false ∧ ∃ ds, d = .tuple (.str "function" :: ds) := by
  unfold funOk at h
  split at h
  · rename_i k n l m t
    have h1 : named "function" k = true := by
      obtain ⟨h, _⟩ := Bool.and_eq_true_iff.mp h
      obtain ⟨h, _⟩ := Bool.and_eq_true_iff.mp h
      obtain ⟨h, _⟩ := Bool.and_eq_true_iff.mp h
      obtain ⟨h, _⟩ := Bool.and_eq_true_iff.mp h
      exact (Bool.and_eq_true_iff.mp h).1
    have e := named_iff h1
    subst e
    exact ⟨gen_no (by show ¬ 5 = 4; decide), _, rfl⟩
  · cases h
theorem wf_block {n m : Nat} {rows : List (List Bool)} (h : Wf n m rows) : blockOk (tabD n m rows) = true := by
  unfold blockOk
  rw [wf_gen h]
  rfl
/-- data of tuples, texts and numbers alone -/
def Pl : Nat → PyData → Prop
  | 0, d => match d with
    | .int _ => True
    | .str x => okT x
    | _ => False
  | n + 1, d => match d with
    | .int _ => True
    | .str x => okT x
    | .tuple xs => xs.length ≤ 5000 ∧ ∀ x ∈ xs, Pl n x
    | _ => False
theorem pl_str {n : Nat} {x : Str} : Pl n (.str x) ↔ okT x := by cases n <;> exact Iff.rfl
theorem pl_int {n : Nat} {i : Int} : Pl n (.int i) := by cases n <;> trivial
theorem pl_tup {n : Nat} {xs : List PyData} (h : Pl n (.tuple xs)) : xs.length ≤ 5000 ∧ ∃ m, n = m + 1 ∧ ∀ x ∈ xs, Pl m x := by
  cases n with
  | zero => exact h.elim
  | succ n => exact ⟨h.1, n, rfl, h.2⟩
theorem pl_gd : ∀ {n : Nat} {d : PyData}, Pl n d → Gd n d
  | 0, .int _, _ => trivial
  | 0, .str _, h => h
  | n + 1, .int _, _ => trivial
  | n + 1, .str _, h => h
  | n + 1, .tuple xs, h => ⟨h.1, fun x hx => pl_gd (h.2 x hx)⟩
theorem dp_offs {K : PySem.W.Frag} {a d : Addr} {H : Hp} (hh : Hnd H a d) : ∀ {n : Nat} {D : PyData} {v : V}, Pl n D → Dp K H v D → Dp K (off a H) v D
  | 0, .int _, _, _, .int i => .int i
  | 0, .str _, _, _, .str x => .str x
  | n + 1, .int _, _, _, .int i => .int i
  | n + 1, .str _, _, _, .str x => .str x
  | n + 1, .tuple xs, _, h, .tup hT hA => .tup (sqt_off hh hT) (go h.2 hA)
where go {n : Nat} : ∀ {xs : List PyData} {vs : List V}, (∀ x ∈ xs, Pl n x) → DpAll K H vs xs → DpAll K (off a H) vs xs
  | [], _, _, .nil => .nil
  | x :: xs, _, h, .cons hv t => .cons (dp_offs hh (h x List.mem_cons_self) hv) (go (fun y hy => h y (List.mem_cons_of_mem _ hy)) t)
theorem okT_sb {r : List Bool} (h : r.length ≤ 5000) : okT (sb r) := by
  refine ⟨?_, by rw [sb_len]; exact h⟩
  unfold PySem.PyData.strOk
  rw [← Array.all_toList, List.all_eq_true]
  intro c hc
  have e : (sb r).cps.toList = r.map cB := by
    show ((r.map cB).toArray).toList = _
    simp
  rw [e] at hc
  obtain ⟨b, _, rfl⟩ := List.mem_map.mp hc
  cases b <;> decide
theorem pl_tab {n m : Nat} {rows : List (List Bool)} (h1 : rows.length ≤ 5000) (h2 : ∀ r ∈ rows, r.length ≤ 5000) : Pl 2 (tabD n m rows) := by
  refine ⟨by show 4 ≤ 5000; decide, fun x hx => ?_⟩
  rcases List.mem_cons.mp hx with e | hx
  · rw [e]
    exact pl_str.mpr ⟨by decide +kernel, by decide +kernel⟩
  rcases List.mem_cons.mp hx with e | hx
  · rw [e]
    exact pl_int
  rcases List.mem_cons.mp hx with e | hx
  · rw [e]
    exact pl_int
  rcases List.mem_cons.mp hx with e | hx
  · rw [e]
    refine ⟨by rw [List.length_map]; exact h1, fun y hy => ?_⟩
    obtain ⟨r, hr, rfl⟩ := List.mem_map.mp hy
    exact pl_str.mpr (okT_sb (h2 r hr))
  exact nomatch hx
theorem Wf.pl {n m : Nat} {rows : List (List Bool)} (h : Wf n m rows) : Pl 2 (tabD n m rows) := by
  have h2 := two_pow_le (b := 10) h.n2
  have h1 := h.len
  exact pl_tab (by omega) fun r hr => by
    have := h.row r hr
    have := h.m2
    omega
/-- where a generator stands -/
theorem dp_tab {K : PySem.W.Frag} {H : Hp} {v : V} {n m : Nat} {rows : List (List Bool)} (h : Dp K H v (tabD n m rows)) : ∃ a r, v = .ref a ∧ SqT K H a [.str "generator", .int (n : Int), .int (m : Int), .ref r] ∧ SqT K H r (rows.map fun r => V.str (sb r)) := by
  cases h with
  | @tup a ws _ hT hA =>
    cases hA with
    | cons h0 hA =>
      cases hA with
      | cons h1 hA =>
        cases hA with
        | cons h2 hA =>
          cases hA with
          | cons h3 hA =>
            cases hA
            cases h0
            cases h1
            cases h2
            cases h3 with
            | @tup r us _ hR hU => exact ⟨a, r, rfl, hT, by rw [← dp_sbs hU]; exact hR⟩
theorem tab_dp {K : PySem.W.Frag} {H : Hp} {a r : Addr} {n m : Nat} {rows : List (List Bool)} (h1 : SqT K H a [.str "generator", .int (n : Int), .int (m : Int), .ref r]) (h2 : SqT K H r (rows.map fun r => V.str (sb r))) : Dp K H (.ref a) (tabD n m rows) :=
  .tup h1 (.cons (.str _) (.cons (.int _) (.cons (.int _) (.cons (.tup h2 (dp_bits rows)) .nil))))

/-! ### data compared with a text or an empty tuple, of any depth -/
def rEqF (K : PySem.W.Frag) : R2 := fun x y H Q => ∃ d e, Dp K H x d ∧ Dp K H y e ∧ d.canLay0 = true ∧ e.canLay0 = true ∧ e.depth ≤ 8 ∧ Q (.bl (PyData.eqv d e)) H
def rNeF (K : PySem.W.Frag) : R2 := fun x y H Q => ∃ d e, Dp K H x d ∧ Dp K H y e ∧ d.canLay0 = true ∧ e.canLay0 = true ∧ e.depth ≤ 8 ∧ Q (.bl (!PyData.eqv d e)) H
/-- a dict that the module's top has written: its keys, and what each holds -/
inductive KeysAre (R : Str → Value → Prop) : List DictEntry → List Str → Prop where
  | nil : KeysAre R [] []
  | cons {e : DictEntry} {k : Str} {t : Tok} {es : List DictEntry} {ks : List Str} (h : e.key = .str k t) (r : R k e.val) (q : KeysAre R es ks) : KeysAre R (e :: es) (k :: ks)
/-- the values of a dict: what is told of each can be said of a value of the proof's own -/
def HasV (R : Str → Value → Prop) : Prop := ∀ z u, R z u → ∃ v, RelV v u
structure DictK (K : PySem.W.Frag) (w : World) (d : Addr) (ks : List Str) (R : Str → Value → Prop) : Prop where
  ex : ∃ es n, KDict K w d es n ∧ KeysAre R es.toList ks
  has : HasV R
theorem keys_isStr {k z : Str} {t : Tok} : (Value.str k t).isStr z = decide (k = z) := by
  show (k == z) = _
  by_cases h : k = z
  · rw [decide_eq_true h, h]
    exact beq_self_eq_true z
  · rw [decide_eq_false h]
    exact beq_eq_false_iff_ne.mpr h
theorem keys_no {R : Str → Value → Prop} {z : Str} : ∀ {es : List DictEntry} {ks : List Str}, KeysAre R es ks → z ∉ ks → es.find? (·.key.isStr z) = none ∧ es.any (·.refKey) = false
  | _, _, .nil, _ => ⟨rfl, rfl⟩
  | _, _, .cons (e := e) (k := k) h r q, hz => by
    obtain ⟨h1, h2⟩ := keys_no q fun m => hz (List.mem_cons_of_mem _ m)
    have hk : e.key.isStr z = false := by
      rw [h, keys_isStr]
      exact decide_eq_false fun m => hz (m ▸ List.mem_cons_self)
    have hr : e.refKey = false := by
      unfold DictEntry.refKey
      rw [h]
    exact ⟨by rw [List.find?_cons, hk]; exact h1, by rw [List.any_cons, hr, h2]; rfl⟩
theorem keys_yes {R : Str → Value → Prop} {z : Str} : ∀ {es : List DictEntry} {ks : List Str}, KeysAre R es ks → z ∈ ks → ∃ e, es.find? (·.key.isStr z) = some e ∧ R z e.val
  | _, _, .cons (e := e) (k := k) h r q, hz => by
    by_cases hk : k = z
    · refine ⟨e, ?_, hk ▸ r⟩
      rw [List.find?_cons, h, keys_isStr, decide_eq_true hk]
    · rcases List.mem_cons.mp hz with m | m
      · exact absurd m.symm hk
      · obtain ⟨e', h1, h2⟩ := keys_yes q m
        refine ⟨e', ?_, h2⟩
        rw [List.find?_cons, h, keys_isStr, decide_eq_false hk]
        exact h1
theorem nsIn_no {K : PySem.W.Frag} {w : World} {d : Addr} {es : Array DictEntry} {n : Nat} {R : Str → Value → Prop} {ks : List Str} {z : Str} (D : KDict K w d es n) (q : KeysAre R es.toList ks) (hz : z ∉ ks) : PySem.W.nsIn K d z = some none := by
  obtain ⟨h1, h2⟩ := keys_no q hz
  unfold PySem.W.nsIn
  rw [D.at_]
  dsimp only
  rw [h1]
  dsimp only
  rw [h2]
  rfl
theorem nsIn_yes {K : PySem.W.Frag} {w : World} {d : Addr} {es : Array DictEntry} {n : Nat} {R : Str → Value → Prop} {ks : List Str} {z : Str} (D : KDict K w d es n) (q : KeysAre R es.toList ks) (hz : z ∈ ks) : ∃ u, PySem.W.nsIn K d z = some (some u) ∧ R z u := by
  obtain ⟨e, h1, h2⟩ := keys_yes q hz
  refine ⟨e.val, ?_, h2⟩
  unfold PySem.W.nsIn
  rw [D.at_]
  dsimp only
  rw [h1]
def rInDk (d : Addr) (ks : List Str) : R2 := fun x y H Q => ∃ z : Str, x = .str z ∧ y = .ref d ∧ Q (.bl (decide (z ∈ ks))) H
def rIxDk (d : Addr) (ks : List Str) (R : Str → Value → Prop) : R2 := fun x y H Q => ∃ z : Str, x = .ref d ∧ y = .str z ∧ z ∈ ks ∧ ∀ v u, RelV v u → R z u → Q v H
section
variable {X : Cx}
theorem op_eqF (K : PySem.W.Frag) (hu : X.A.units + 64 < cLine) (h : X.K = K := by rfl) : OpR X (compareOp .Eq) (rEqF K) := by
  subst h
  intro pins s σ H x y v u Q I rx ry h
  obtain ⟨d, e, hd, he, sd, se, hdep, q⟩ := h
  obtain ⟨as, r1⟩ := Dp.reads I d x v hd rx
  obtain ⟨bs, r2⟩ := Dp.reads I e y u he ry
  exact SeqAt.compareEq_reads r1 r2 sd se (by have := Nat.min_le_right d.depth e.depth; omega) ⟨.bl _, H, I, rfl, q⟩
theorem op_neF (K : PySem.W.Frag) (hu : X.A.units + 64 < cLine) (h : X.K = K := by rfl) : OpR X (compareOp .NotEq) (rNeF K) := by
  subst h
  intro pins s σ H x y v u Q I rx ry h
  obtain ⟨d, e, hd, he, sd, se, hdep, q⟩ := h
  obtain ⟨as, r1⟩ := Dp.reads I d x v hd rx
  obtain ⟨bs, r2⟩ := Dp.reads I e y u he ry
  exact SeqAt.compareNe_reads r1 r2 sd se (by have := Nat.min_le_right d.depth e.depth; omega) ⟨.bl _, H, I, rfl, q⟩
theorem in_dk {d : Addr} {ks : List Str} {R : Str → Value → Prop} (D : DictK X.K X.w d ks R) : OpR X (compareOp .In) (rInDk d ks) := by
  obtain ⟨es, n, kd, ka⟩ := D.ex
  intro pins s σ H x y v u Q I rx ry h
  obtain ⟨z, rfl, rfl, q⟩ := h
  by_cases hz : z ∈ ks
  · obtain ⟨u', e, _⟩ := nsIn_yes kd ka hz
    rw [decide_eq_true hz] at q
    exact op_in_kd kd pins s σ H _ _ v u Q I rx ry ⟨z, some u', rfl, rfl, e, q⟩
  · rw [decide_eq_false hz] at q
    exact op_in_kd kd pins s σ H _ _ v u Q I rx ry ⟨z, none, rfl, rfl, nsIn_no kd ka hz, q⟩
theorem ix_dk {d : Addr} {ks : List Str} {R : Str → Value → Prop} (D : DictK X.K X.w d ks R) : IxR X (rIxDk d ks R) := by
  have hv := D.has
  obtain ⟨es, n, kd, ka⟩ := D.ex
  intro value slice pins s σ H x y v u Q I rx ry h hs
  obtain ⟨z, rfl, rfl, hz, q⟩ := h
  obtain ⟨u', e, r⟩ := nsIn_yes kd ka hz
  obtain ⟨v', rv⟩ := hv z u' r
  exact ix_kdict value slice pins s σ H _ _ v u Q I rx ry ⟨d, z, v', rfl, rfl, ⟨es, n, u', kd.at_, kd.lit, e, rv⟩, q v' u' rv r⟩ hs
/-- a local name that holds one of several defs -/
def tCallH (i : Nat) (R : Addr → Sp → Prop) (t : TA) : TE := fun σ H Q => ∃ f sp, σ[i]? = some (some (.ref f)) ∧ R f sp ∧ t σ H fun vs H1 => sp vs H1 Q (fun _ _ _ => False)
theorem pe_callH {k j i : Nat} {R : Addr → Sp → Prop} {x : Str} {p pos : Pos} {e : Expr} {es : List Expr} {t : TA} (A : ∀ f sp, R f sp → Held X.prog X.w X.K X.mg X.base k f sp) (hr : Room j X.A) (hk : k ≤ j) (hN : X.N[i]? = some x) (hv : Vis X.env.scope x) (ha : PA X (e :: es) t)
    (hdb : (x == ("__debug__" : Str)) = false := by decide) (hcd : (x == ("__classdict__" : Str)) = false := by decide)
    (he : starEach (e :: es) X.env = (false, eval e X.env) :: starEach es X.env := by rfl) (hpl : (backTo pos (starEach es X.env)).any (·.1) = false := by rfl) : PE X (.Call (.Name x p) (e :: es) [] pos) (tCallH i R t) :=
  ⟨fun pins s σ H Q I h => by
    obtain ⟨f, sp, h1, h2, h3⟩ := h
    exact (pe_callA (S := fun f' => if f' = f then some sp else none) (fun f' sp' q => by
      by_cases z : f' = f
      · rw [if_pos z] at q
        rw [z, ← Option.some.inj q]
        exact A f sp h2
      · rw [if_neg z] at q
        cases q) (hr.mono hk) hN hv ha hdb hcd he hpl).run pins s σ H Q I ⟨f, sp, h1, if_pos rfl, h3⟩⟩
end
theorem walk_zipT {K : PySem.W.Frag} {a b : Addr} {xs ys : List V} {n : Nat} (hx : xs.length = n) (hy : ys.length = n) : Walk (RZ.ItzT K a b) n (fun H => SqT K H a xs ∧ SqT K H b ys) (YPair (fun i => xs[i]?) (fun i => ys[i]?)) where
  goes := fun i _ hi q => ⟨xs, ys, xs[i]'(by omega), ys[i]'(by omega), q.1, q.2, List.getElem?_eq_getElem _, List.getElem?_eq_getElem _⟩
  stops := fun _ q => ⟨xs, ys, q.1, q.2, .inl (by omega)⟩
  yields := fun i H v H' _ q y => by
    obtain ⟨T, x, z, h1, h2, h3, h4, h5⟩ := y
    exact ⟨T, x, z, h1, h2, h3, h4 xs q.1, h5 ys q.2⟩
/-! ### facts of data -/
theorem gd_lay {n : Nat} {d : PyData} (h : Gd n d) : d.canLay0 = true := (gd_facts h).1
theorem named_str {x z : Str} : named x (.str z) = decide (z = x) := by
  show (PyData.eqv (.str z) (.str x)) = _
  simp only [PyData.eqv]
  by_cases h : z = x
  · rw [decide_eq_true h, h]
    exact beq_self_eq_true x
  · rw [decide_eq_false h]
    exact beq_eq_false_iff_ne.mpr h
theorem eqv_nil {xs : List PyData} : PyData.eqv (.tuple xs) (.tuple []) = xs.isEmpty := by
  cases xs <;> simp [PyData.eqv, PyData.eqvAll]
theorem str_lay (x : Str) (h : PySem.PyData.strOk x = true := by decide +kernel) : PyData.canLay0 (.str x) = true := by
  unfold PyData.canLay0
  exact h
theorem str_dep (x : Str) : PyData.depth (.str x) ≤ 8 := by
  unfold PyData.depth
  omega
theorem nil_lay : PyData.canLay0 (.tuple []) = true := by decide +kernel
theorem nil_dep : PyData.depth (.tuple []) ≤ 8 := by decide +kernel

/-! ### what a breaker is -/
def numL : List (Str × List (Int × Int)) := [("marks", [(1, 40), (1, 40)]), ("secrets", [(1, 40), (1, 40)]), ("once", [(1, 40)]), ("counter", [(1, 40), (1, 256), (1, 40)]), ("cut", [(1, 40)]), ("next", [(1, 40)]), ("guess", [(1, 40)]), ("bit", []), ("hard", [(1, 10)])]
def numK : List Str := ["marks", "secrets", "once", "counter", "cut", "next", "guess", "bit", "hard"]
def fitK : List Str := ["longer", "tree", "opening", "onetime"]
def numOf (z : Str) : List (Int × Int) := ((numL.find? fun p => decide (p.1 = z)).map (·.2)).getD []
def madeZ (z : Str) : Bool := decide (z ∈ numK) || decide (z ∈ fitK)
def madeD : PyData → Bool
  | .tuple (.str z :: _) => madeZ z
  | _ => false
def numsOk : List PyData → List (Int × Int) → Bool
  | [], [] => true
  | d :: ds, b :: bs => whole d b.1 b.2 && numsOk ds bs
  | _, _ => false
def pairD (b : Int × Int) : PyData := .tuple [.int b.1, .int b.2]
def pairsD (bs : List (Int × Int)) : PyData := .tuple (bs.map pairD)
def genNext : PyData → Bool
  | .tuple [_, .int n, .int m, _] => decide (m = n + 1)
  | _ => false
def genTwice (d q : PyData) : PyData → Bool
  | .tuple [_, .int n, .int m, _] => decide (m = 2 * n) && (decide (n ≤ 8) && (whole d 1 (if 12 - n < 8 then 12 - n else 8) && whole q 1 1000))
  | _ => false
def fitLonger : List PyData → Bool
  | [g, k] => genOk g && (genNext g && whole k 1 20)
  | _ => false
def fitTree : List PyData → Bool
  | [g, d, q] => genOk g && genTwice d q g
  | _ => false
def fitOpening : List PyData → Bool
  | [.str x] => decide ((1 : Int) ≤ (x.length : Int)) && (decide ((x.length : Int) ≤ 40) && rowsOk (.tuple [.str x]) 1 (x.length : Int))
  | _ => false
def fitOnetime : List PyData → Bool
  | [f, l] => genOk f && whole l 1 4
  | _ => false
def fitZ (z : Str) (own : List PyData) : Bool :=
  if z ∈ numK then numsOk own (numOf z) else if z = "longer" then fitLonger own else if z = "tree" then fitTree own else if z = "opening" then fitOpening own else fitOnetime own
def fitsD : PyData → Bool
  | .tuple (.str z :: r) => fitZ z r.dropLast
  | _ => false
def lastD : PyData → PyData
  | .tuple xs => xs.getLastD .none
  | _ => .none
def headIs (x : Str) : PyData → Bool
  | .tuple (k :: _) => named x k
  | _ => false
def partOk : PyData → Bool
  | .str x => decide (x = "0") || decide (x = "1")
  | d => whole d 0 9999
def partsOk : PyData → Bool
  | .tuple xs => xs.all partOk
  | _ => false
def sayOk : List PyData → Bool
  | [p] => partsOk p
  | _ => false
def tossOk : List PyData → Bool
  | [.tuple xs] => decide ((1 : Int) ≤ (xs.length : Int)) && decide ((xs.length : Int) ≤ 64)
  | _ => false
def lookOk : List PyData → Bool
  | [n, _, _] => whole n 0 9999
  | _ => false
def askOk : List PyData → Bool
  | [p, _] => partsOk p
  | _ => false
def looksOk : PyData → Bool
  | .tuple (k :: r) => if named "say" k then sayOk r else if named "toss" k then tossOk r else if named "look" k then lookOk r else named "ask" k && askOk r
  | _ => false
def kidsD : PyData → List PyData
  | .tuple (k :: r) => if named "toss" k then (match r with
    | .tuple xs :: _ => xs
    | _ => []) else r.drop 1
  | _ => []
def okN : Nat → PyData → Bool
  | 0, _ => false
  | n + 1, d => looksOk d && (kidsD d).all (okN n)
def szN : Nat → PyData → Nat
  | 0, _ => 1
  | n + 1, d => 1 + ((kidsD d).map (szN n)).sum
def plainOk (d : PyData) : Bool := okN 60 d && decide (szN 60 d ≤ 2001)
def chk : Nat → PyData → Bool
  | n, d => if madeD d then (match n with
    | 0 => false
    | m + 1 => fitsD d && (!(headIs "onetime" d && madeD (lastD d)) && chk m (lastD d))) else plainOk d
def brOk (d : PyData) : Bool := chk 20 d
/-! ### promises -/
def spD (K : PySem.W.Frag) (g : PyData → Bool) : Sp := fun vs H Q _ => ∃ (v : V) (d : PyData) (n : Nat), vs = [v] ∧ Dp K H v d ∧ Gd n d ∧ ∀ H', Same H H' → Q (.bl (g d)) H'
def spOwn (K : PySem.W.Frag) (g : List PyData → Bool) : Sp := fun vs H Q _ => ∃ (v : V) (ds : List PyData) (n : Nat), vs = [v] ∧ Dp K H v (.tuple ds) ∧ Gd n (.tuple ds) ∧ ∀ H', Same H H' → Q (.bl (g ds)) H'
def spNums (K : PySem.W.Frag) : Sp := fun vs H Q _ => ∃ (v y : V) (ds : List PyData) (bs : List (Int × Int)) (n : Nat), vs = [v, y] ∧ Dp K H v (.tuple ds) ∧ Gd n (.tuple ds) ∧ Dp K H y (pairsD bs) ∧ bs.length ≤ 100 ∧ ∀ H', Same H H' → Q (.bl (numsOk ds bs)) H'
def spKids (K : PySem.W.Frag) : Sp := fun vs H Q _ => ∃ (v : V) (d : PyData) (n : Nat) (G : Hp), vs = [v] ∧ Same G H ∧ Dp K G v d ∧ Gd n d ∧ looksOk d = true ∧ ∀ a us H', Same H H' → SqT K H' a us → DpAll K G us (kidsD d) → Q (.ref a) H'
def spCheckB (K : PySem.W.Frag) (C : Addr) : Sp := fun vs H Q E => ∃ (v : V) (d : PyData) (n : Nat), vs = [v] ∧ Dp K H v d ∧ Gd n d ∧ ∀ H', Same H H' → (brOk d = true → Q .non H') ∧ (brOk d = false → E (.ref C) none H')
/-- what the dicts of the made breakers hold -/
def numR (K : PySem.W.Frag) : Str → Value → Prop := fun z u => ∃ a, u = .ref a ∧ ∀ H, Dp K H (.ref a) (pairsD (numOf z))
def fitR (mg : Str → Option Value) : Str → Value → Prop := fun z u => ∃ f, u = .ref f ∧ ((z = "longer" ∧ mg "fits_longer" = some (.ref f)) ∨ (z = "tree" ∧ mg "fits_tree" = some (.ref f)) ∨ (z = "opening" ∧ mg "fits_opening" = some (.ref f)) ∨ (z = "onetime" ∧ mg "fits_onetime" = some (.ref f)))

/-! ### larger blocks -/
def rowV (rows : List (List Bool)) : List V := rows.map fun r => V.str (sb r)
def spAll (K : PySem.W.Frag) : Sp := fun vs H Q _ => ∃ n : Nat, vs = [.int (n : Int)] ∧ n ≤ 12 ∧ ∀ p H', H p = none → Same H H' → H' p = some (.lst (rowV ((List.range (2 ^ n)).map fun i => toB n i))) → Q (.ref p) H'
def spParts (K : PySem.W.Frag) (CB CS : Addr) : Sp := fun vs H Q E => ∃ (v : V) (D : PyData) (k : Nat), vs = [v] ∧ Dp K H v D ∧ Gd k D ∧ k ≤ 64 ∧
  ((blockOk D = false ∧ ∀ H', Same H H' → E (.ref CB) none H') ∨ (funOk D = true ∧ ∀ H', Same H H' → E (.ref CS) none H') ∨
    (∃ n m rows, D = tabD n m rows ∧ Wf n m rows ∧ ∀ p r H', Same H H' → SqT K H' p [.int (n : Int), .int (m : Int), .ref r] → SqT K H' r (rowV rows) → Q (.ref p) H'))
/-- signs from a state, so many, then the state -/
def putOut (rows : List (List Bool)) : Nat → List Bool → List Bool
  | 0, s => s
  | k + 1, s => (rows.getD (val s) []).drop ((rows.getD (val s) []).length - 1) ++ putOut rows k (rows.getD (val s) []).dropLast
def longR (n : Nat) (rows : List (List Bool)) (k : Nat) : List (List Bool) := (List.range (2 ^ n)).map fun i => putOut rows k (toB n i)
def spPut (K : PySem.W.Frag) : Sp := fun vs H Q _ => ∃ (r : Addr) (n k : Nat) (rows : List (List Bool)) (s : List Bool), vs = [.ref r, .str (sb s), .int (k : Int)] ∧ SqT K H r (rowV rows) ∧ Wf n (n + 1) rows ∧ s.length = n ∧ k ≤ 20 ∧ Q (.str (sb (putOut rows k s))) H
def LongBad (D : PyData) (k : Int) : Prop := funOk D = true ∨ ∃ n m rows, D = tabD n m rows ∧ Wf n m rows ∧ (m ≠ n + 1 ∨ whole (.int k) 1 20 = false)
def spLong (K : PySem.W.Frag) (CB CS : Addr) : Sp := fun vs H Q E => ∃ (v : V) (D : PyData) (d : Nat) (k : Int), vs = [v, .int k] ∧ Dp K H v D ∧ Gd d D ∧ d ≤ 64 ∧
  ((blockOk D = false ∧ ∀ H', Same H H' → E (.ref CB) none H') ∨ (LongBad D k ∧ ∀ H', Same H H' → E (.ref CS) none H') ∨
    (∃ (n j : Nat) (rows : List (List Bool)), D = tabD n (n + 1) rows ∧ k = (j : Int) ∧ Wf n (n + 1) rows ∧ 1 ≤ j ∧ j ≤ 20 ∧ ∀ v' H', Same H H' → Dp K H' v' (tabD n (n + j) (longR n rows j)) → Q v' H'))
def CutBad (D : PyData) (b : Int) : Prop := funOk D = true ∨ ∃ n m rows, D = tabD n m rows ∧ Wf n m rows ∧ whole (.int b) 1 (m : Int) = false
def spCut (K : PySem.W.Frag) (CB CS : Addr) : Sp := fun vs H Q E => ∃ (v : V) (D : PyData) (d : Nat) (b : Int), vs = [v, .int b] ∧ Dp K H v D ∧ Gd d D ∧ d ≤ 64 ∧
  ((blockOk D = false ∧ ∀ H', Same H H' → E (.ref CB) none H') ∨ (CutBad D b ∧ ∀ H', Same H H' → E (.ref CS) none H') ∨
    (∃ (n m j : Nat) (rows : List (List Bool)), D = tabD n m rows ∧ b = (j : Int) ∧ Wf n m rows ∧ 1 ≤ j ∧ j ≤ m ∧ ∀ v' H', Same H H' → Dp K H' v' (tabD n j (rows.map fun r => r.take j)) → Q v' H'))
def spSame (K : PySem.W.Frag) (j : Nat) : Sp := fun vs H Q _ => ∃ (v w : V) (d : PyData), vs = [v, w] ∧ Dp K H v d ∧ Dp K H w d ∧ Pl j d ∧ Q (.bl true) H
def spSameB (K : PySem.W.Frag) (j : Nat) : Sp := fun vs H Q E => 1 ≤ j ∧ spSame K (j - 1) vs H Q E
def spLawLong (K : PySem.W.Frag) : Sp := fun vs H Q _ => ∃ (v : V) (n j : Nat) (rows : List (List Bool)), vs = [v, .int (j : Int)] ∧ Dp K H v (tabD n (n + 1) rows) ∧ Wf n (n + 1) rows ∧ 1 ≤ j ∧ j ≤ 20 ∧ ∀ v' H', Same H H' → Dp K H' v' (tabD n (n + j) (longR n rows j)) → Q v' H'
theorem put_len {n : Nat} {rows : List (List Bool)} (h : Wf n (n + 1) rows) : ∀ (k : Nat) (s : List Bool), s.length = n → (putOut rows k s).length = n + k
  | 0, s, hs => hs
  | k + 1, s, hs => by
    have h1 := val_lt s
    rw [hs, ← h.len] at h1
    have hr : (rows.getD (val s) []).length = n + 1 := by
      rw [List.getD_eq_getElem?_getD, List.getElem?_eq_getElem h1]
      exact h.row _ (List.getElem_mem h1)
    show ((rows.getD (val s) []).drop ((rows.getD (val s) []).length - 1) ++ putOut rows k (rows.getD (val s) []).dropLast).length = _
    rw [List.length_append, put_len h k _ (by rw [List.length_dropLast, hr]; rfl), List.length_drop, hr]
    omega
theorem Wf.long {n j : Nat} {rows : List (List Bool)} (h : Wf n (n + 1) rows) (h2 : n + j ≤ 40) : Wf n (n + j) (longR n rows j) where
  n1 := h.n1
  n2 := h.n2
  m1 := by have := h.n1; omega
  m2 := h2
  len := by
    unfold longR
    rw [List.length_map, List.length_range]
  row := fun r hr => by
    unfold longR at hr
    obtain ⟨i, _, rfl⟩ := List.mem_map.mp hr
    exact put_len h j _ (toB_len _ _)
theorem Wf.cut {n m j : Nat} {rows : List (List Bool)} (h : Wf n m rows) (h1 : 1 ≤ j) (h2 : j ≤ m) : Wf n j (rows.map fun r => r.take j) where
  n1 := h.n1
  n2 := h.n2
  m1 := h1
  m2 := Nat.le_trans h2 h.m2
  len := by
    rw [List.length_map]
    exact h.len
  row := fun r hr => by
    obtain ⟨x, hx, rfl⟩ := List.mem_map.mp hr
    rw [List.length_take, h.row x hx]
    omega
def spSpoilt (K : PySem.W.Frag) : Sp := fun vs H Q _ => ∃ (a d : Addr) (v : V) (n m : Nat) (rows : List (List Bool)), vs = [.ref a, v] ∧ Hnd H a d ∧ Dp K H v (tabD n m rows) ∧ Wf n m rows ∧
  ∀ v' D' H', Dp K H' v' D' → Pl 2 D' → blockOk D' = false → Hnd H' a d → Keep a H H' → Q v' H'
theorem dp_txts {K : PySem.W.Frag} {H : Hp} : ∀ ys : List Str, DpAll K H (ys.map V.str) (ys.map PyData.str)
  | [] => .nil
  | y :: ys => .cons (.str y) (dp_txts ys)
theorem rowV_txts (rows : List (List Bool)) : rowV rows = (rows.map sb).map V.str := by
  unfold rowV
  rw [List.map_map]
  rfl
theorem spoilt_bad {n m i : Nat} {ys : List Str} {y : Str} (hi : ys[i]? = some y) (hy : bitRow (m : Int) (.str y) = false) : blockOk (.tuple [.str "generator", .int (n : Int), .int (m : Int), .tuple (ys.map PyData.str)]) = false := by
  have e1 : (ys.map PyData.str).all (bitRow (m : Int)) = false := by
    rw [Bool.eq_false_iff]
    intro z
    rw [List.all_eq_true] at z
    have := z (.str y) (List.mem_map.mpr ⟨y, List.mem_of_getElem? hi, rfl⟩)
    rw [hy] at this
    cases this
  have e2 : genRows (.int (n : Int)) (.int (m : Int)) (.tuple (ys.map PyData.str)) = false := by
    show (decide _ && _) = false
    rw [e1, Bool.and_false]
  unfold blockOk
  rw [gen_eq, e2, Bool.and_false, Bool.false_or]
  exact fun_no (by show ¬ 4 = 5; decide)
theorem spoilt_row {r : List Bool} {m p : Nat} (hr : r.length = m) (hp : p < m) {c : Str} (hc : c = "2" ∨ c = "" ∨ c = "01") : bitRow (m : Int) (.str (sb (r.take p) ++ c ++ sb (r.drop (p + 1)))) = false := by
  show (decide (((sb (r.take p) ++ c ++ sb (r.drop (p + 1))).length : Int) = (m : Int)) && (sb (r.take p) ++ c ++ sb (r.drop (p + 1))).cps.toList.all (fun c => c == 48 || c == 49)) = false
  have l1 : (sb (r.take p) ++ c ++ sb (r.drop (p + 1))).length = p + c.length + (m - (p + 1)) := by
    rw [str_app_len, str_app_len, sb_len, sb_len, List.length_take, List.length_drop, hr]
    omega
  rcases hc with e | e | e
  · have e2 : (sb (r.take p) ++ c ++ sb (r.drop (p + 1))).cps.toList.all (fun c => c == 48 || c == 49) = false := by
      have e3 : (sb (r.take p) ++ c ++ sb (r.drop (p + 1))).cps.toList = (sb (r.take p)).cps.toList ++ c.cps.toList ++ (sb (r.drop (p + 1))).cps.toList := by
        show (((sb (r.take p)).cps ++ c.cps) ++ (sb (r.drop (p + 1))).cps).toList = _
        simp
      rw [e3, List.all_append, List.all_append, e]
      have e4 : ("2" : Str).cps.toList.all (fun c => c == 48 || c == 49) = false := by decide +kernel
      rw [e4, Bool.and_false, Bool.false_and]
    rw [e2, Bool.and_false]
  · have lc : c.length = 0 := by rw [e]; decide +kernel
    rw [l1, lc, decide_eq_false (by omega), Bool.false_and]
  · have lc : c.length = 2 := by rw [e]; decide +kernel
    rw [l1, lc, decide_eq_false (by omega), Bool.false_and]
def LongFits (D : PyData) (k : Int) : Prop := ∃ (n j : Nat) (rows : List (List Bool)), D = tabD n (n + 1) rows ∧ k = (j : Int) ∧ Wf n (n + 1) rows ∧ 1 ≤ j ∧ j ≤ 20
def CutFits (D : PyData) (b : Int) : Prop := ∃ (n m j : Nat) (rows : List (List Bool)), D = tabD n m rows ∧ b = (j : Int) ∧ Wf n m rows ∧ 1 ≤ j ∧ j ≤ m
def spTold3 (K : PySem.W.Frag) : Sp := fun vs H Q _ => ∃ (v : V) (D : PyData) (d : Nat) (which k : Int), vs = [.int which, v, .int k] ∧ (which = 0 ∨ which = 1) ∧ Dp K H v D ∧ Gd d D ∧ d ≤ 64 ∧
  ((blockOk D = false ∧ ∀ H', Same H H' → Q (.str "block") H') ∨ ((which = 0 ∧ LongBad D k ∨ which = 1 ∧ CutBad D k) ∧ ∀ H', Same H H' → Q (.str "scheme") H') ∨
    ((which = 0 ∧ LongFits D k ∨ which = 1 ∧ CutFits D k) ∧ ∀ H', Same H H' → Q (.str "fine") H'))
theorem fun_ok {n l m : Nat} {tabs : List (List (List Bool))} (hn : 1 ≤ n ∧ n ≤ 8) (hl : 1 ≤ l ∧ l ≤ 8) (hnl : n + l ≤ 12) (hm : 1 ≤ m ∧ m ≤ 40) (h1 : tabs.length = 2 ^ n) (h2 : ∀ rows ∈ tabs, rows.length = 2 ^ l ∧ ∀ r ∈ rows, r.length = m) : funOk (funD n l m tabs) = true := by
  have w : ∀ {i k : Nat}, 1 ≤ i → i ≤ k → whole (.int (i : Int)) 1 (k : Int) = true := fun {i k} h1 h2 => by
    show (decide _ && decide _) = true
    rw [decide_eq_true (show (1 : Int) ≤ (i : Int) by omega), decide_eq_true (show (i : Int) ≤ (k : Int) by omega)]
    rfl
  have e1 : whole (.int (n : Int)) 1 8 = true := w hn.1 hn.2
  have e2 : whole (.int (l : Int)) 1 8 = true := w hl.1 hl.2
  have e3 : whole (.int (m : Int)) 1 40 = true := w hm.1 hm.2
  have e4 : sumLe (.int (n : Int)) (.int (l : Int)) = true := decide_eq_true (show (n : Int) + (l : Int) ≤ 12 by omega)
  have e5 : funTabs (.int (n : Int)) (.int (l : Int)) (.int (m : Int)) (.tuple (tabs.map rowsD)) = true := by
    show (decide (((tabs.map rowsD).length : Int) = 1 * 2 ^ (n : Int).toNat) && (tabs.map rowsD).all (fun r => rowsOk r (1 * 2 ^ (l : Int).toNat) (m : Int))) = true
    rw [shl_one, shl_one, List.length_map, h1, decide_eq_true rfl, Bool.true_and, List.all_eq_true]
    intro x hx
    obtain ⟨rows, hr, rfl⟩ := List.mem_map.mp hx
    exact rows_ok (h2 rows hr).1 (h2 rows hr).2
  show funOk (.tuple [.str "function", .int (n : Int), .int (l : Int), .int (m : Int), .tuple (tabs.map rowsD)]) = true
  rw [fun_eq, e1, e2, e3, e4, e5]
  decide +kernel
theorem pl_fun {n l m : Nat} {tabs : List (List (List Bool))} (h1 : tabs.length ≤ 5000) (h2 : ∀ rows ∈ tabs, rows.length ≤ 5000 ∧ ∀ r ∈ rows, r.length ≤ 5000) : Pl 3 (funD n l m tabs) := by
  refine ⟨by show 5 ≤ 5000; decide, fun x hx => ?_⟩
  rcases List.mem_cons.mp hx with e | hx
  · rw [e]
    exact pl_str.mpr ⟨by decide +kernel, by decide +kernel⟩
  refine all4 pl_int pl_int pl_int ?_ x hx
  refine ⟨by rw [List.length_map]; exact h1, fun y hy => ?_⟩
  obtain ⟨rows, hrow, rfl⟩ := List.mem_map.mp hy
  refine ⟨by rw [List.length_map]; exact (h2 rows hrow).1, fun z hz => ?_⟩
  obtain ⟨r, hr, rfl⟩ := List.mem_map.mp hz
  exact pl_str.mpr (okT_sb ((h2 rows hrow).2 r hr))
theorem short_bad : blockOk (.tuple [.str "generator", .int 1, .int 2, .tuple [.str "00"]]) = false := by decide +kernel
theorem whole_no {x lo hi : Int} (h : x < lo ∨ hi < x) : whole (.int x) lo hi = false := by
  show (decide (lo ≤ x) && decide (x ≤ hi)) = false
  rcases h with h | h
  · rw [decide_eq_false (show ¬ lo ≤ x by omega), Bool.false_and]
  · rw [decide_eq_false (show ¬ x ≤ hi by omega), Bool.and_false]

theorem getD_row {rows : List (List Bool)} {i : Nat} (h : i < rows.length) : (rowV rows)[i]? = some (.str (sb (rows.getD i []))) := by
  unfold rowV
  rw [List.getElem?_map, List.getElem?_eq_getElem h, List.getD_eq_getElem?_getD, List.getElem?_eq_getElem h]
  rfl
theorem Wf.at {n m : Nat} {rows : List (List Bool)} (h : Wf n m rows) {s : List Bool} (hs : s.length = n) : val s < rows.length ∧ (rows.getD (val s) []).length = m := by
  have h1 := val_lt s
  rw [hs, ← h.len] at h1
  refine ⟨h1, ?_⟩
  rw [List.getD_eq_getElem?_getD, List.getElem?_eq_getElem h1]
  exact h.row _ (List.getElem_mem h1)
theorem sb_cps (l : List Bool) : (sb l).cps.toList = l.map cB := by
  show ((l.map cB).toArray).toList = _
  simp
theorem last_bit {row : List Bool} {n : Nat} (h : row.length = n + 1) : ∃ b, row.drop n = [b] ∧ atI (sb row).cps.toList (-1) = some (cB b) := by
  have hn : n < row.length := by omega
  refine ⟨row[n], ?_, ?_⟩
  · rw [List.drop_eq_getElem_cons hn, List.drop_of_length_le (by omega)]
  · rw [sb_cps]
    unfold atI ixN
    rw [List.length_map, if_neg (by decide), if_pos (by omega)]
    show (row.map cB)[((-1 : Int) + (row.length : Int)).toNat]? = _
    rw [show ((-1 : Int) + (row.length : Int)).toNat = n by omega, List.getElem?_map, List.getElem?_eq_getElem hn]
    rfl
theorem cut_last {l : List Bool} : cutS (sb l) none (some (-1)) = sb l.dropLast := by
  unfold cutS
  rw [sb_drop_take]
  have e0 : HT.sIx (sb l).length 0 none = 0 := rfl
  rw [e0, List.drop_zero, Nat.sub_zero]
  have e : HT.sIx (sb l).length (sb l).length (some (-1)) = l.length - 1 := by
    rw [sb_len]
    show (if (-1 : Int) < 0 then ((-1 : Int) + (l.length : Int)).toNat else min (-1 : Int).toNat l.length) = _
    rw [if_pos (by decide)]
    omega
  rw [show HT.sIx (sb l).length (sb l).length (some (-1)) = l.length - 1 from e, List.dropLast_eq_take]

theorem str_bit (k : Nat) : Str.ofString (toString ((k : Int) % 2)) = sb [k % 2 == 1] := by
  have h : ((k : Int) % 2) = ((k % 2 : Nat) : Int) := by omega
  rw [h]
  rcases Nat.mod_two_eq_zero_or_one k with z | z <;> rw [z] <;> decide +kernel

theorem sb_size {bs : List Bool} (h : bs.length ≤ 16777216) : (sb bs).length ≤ sizeLine := by
  rw [sb_len, sizeLine_eq]
  exact h
theorem xor_nat (a b : Nat) : Builtin.bitXor (a : Int) (b : Int) = ((a ^^^ b : Nat) : Int) := by
  rw [Bits.bitXor_pp (by omega) (by omega)]
  rfl
theorem val_lt' {l m : List Bool} (h : l.length = m.length) : val m < 2 ^ l.length := by
  rw [h]
  exact val_lt m

/-! ### (z,) * k, k from 1 on -/
def rRep1 (K : PySem.W.Frag) : R2 := fun x y H Q => ∃ (l : Addr) (k : Int) (z : V), x = .ref l ∧ y = .int k ∧ SqT K H l [z] ∧ 1 ≤ k ∧ k ≤ 5000 ∧ ∀ p H', Same H H' → SqT K H' p (List.replicate k.toNat z) → Q (.ref p) H'
theorem tuple_once (l : Addr) (z : Value) (n : Nat) (dd : Option Addr) (sl : Array (Option Value)) (u : Tok) :
    Meets (Builtin.«tuple.__mul__» ⟨[.ref l, .int 1 u], []⟩) (fun _ R s => s.heap.get? l = some { cls := .type "tuple", dict := dd, data := .seq #[z] n, slots := sl } ∧ R (.ok (.ret (.ref l))) s) :=
  .of_wp fun prog w A R s h => by
    obtain ⟨hp, g, d, tk, os⟩ := s
    obtain ⟨hl, h⟩ := h
    have idx := AutoSeq1.idx_int
    wp_walk using wpAny_loadPart' hl
    exact ⟨_, rfl, h⟩
section
variable {X : Cx}
theorem op_rep1 (K : PySem.W.Frag) (hK : X.K = K := by rfl) : OpR X (binaryOp .Mult) (rRep1 K) := by
  subst hK
  intro pins s σ H x y v u Q I rx ry h
  obtain ⟨l, k, z, rfl, rfl, hT, h1, h2, q⟩ := h
  cases rx
  obtain ⟨t, rfl⟩ := ry
  obtain ⟨its, rz, ⟨⟨cls, dd, data, sl⟩, ho, hc, n, hd⟩, hs⟩ := I.tuple hT
  dsimp only at hc hd
  subst hc hd
  match its, rz with
  | [w], .cons rw' .nil =>
    -- what the slot of the tuple must do
    have road : ∀ {Q' : Value → Shared → Prop}, wpAny (model X.prog X.w) X.A (call (.builtin "tuple.__mul__") [.ref l, .int k t]) Q' X.xe s →
        wpAny (model X.prog X.w) X.A (binaryOp .Mult (.ref l) (.int k t)) Q' X.xe s := fun {Q'} c =>
      wpAny_binaryOp_repeat_ref (U := "int") (T := "tuple") (by decide)
        ⟨_, ho, rfl⟩ (fun s' => typeIs_int s' k t)
        noFill_tuple_mul F.fills_int_mul
        F.slot_int_rmul repeat_tuple
        F.slot_int_index.lookup
        (call_meets F.slot_int_rmul (typeIs_int s k t)
          F.entry_int_rmul (F.args_int_rmul_2 _ _)
          (int_rmul_tuple k t l _ n dd sl)
          ⟨ho, rfl, ⟨_, ho, rfl⟩, c⟩)
    refine road ?_
    by_cases one : k = 1
    · subst one
      refine call_meets F.slot_tuple_mul ⟨_, ho, rfl⟩
        F.entry_tuple_mul (F.args_tuple_mul_2 _ _)
        (tuple_once l w n dd sl t) ⟨ho, ?_⟩
      exact ⟨.ref l, H, I, rfl, q l H (Same.refl H) hT⟩
    · have a0 : (decide (k < -(2 ^ 63)) || decide (k ≥ 2 ^ 63)) = false := by
        rw [decide_eq_false (show ¬ k < -(2 ^ 63) by omega), Bool.false_or]
        exact decide_eq_false (by omega)
      have a1 : ((#[w] : Array Value).isEmpty || k == 1) = false := beq_eq_false_iff_ne.mpr one
      have a2 : (decide (k ≤ 0) || (#[w] : Array Value).isEmpty) = false := by
        rw [decide_eq_false (show ¬ k ≤ 0 by omega)]
        rfl
      have sz : (((#[w] : Array Value).size : Nat) : Int) = 1 := rfl
      have a4 : Builtin.Tuple.tupleTooMany ((((#[w] : Array Value).size : Nat) : Int) * k) = false := by
        rw [sz, Int.one_mul]
        unfold Builtin.Tuple.tupleTooMany
        exact decide_eq_false (by rw [sizeLine_eq]; omega)
      have len : (List.replicate k.toNat [w]).flatten.length = k.toNat := by
        rw [PyProof.Rows.lm_len_rep_flat]
        exact Nat.mul_one _
      refine call_meets F.slot_tuple_mul ⟨_, ho, rfl⟩
        F.entry_tuple_mul (F.args_tuple_mul_2 _ _)
        (tuple_mulW l #[w] n dd sl k t a0 a1 a2 (by rw [sz]; omega) a4 (by rw [show (#[w] : Array Value) = [w].toArray from rfl, size_rep, List.size_toArray, len, sizeLine_eq]; omega)) ⟨ho, ?_⟩
      rw [show (#[w] : Array Value) = [w].toArray from rfl, size_rep]
      have np := I.hok.fresh (Nat.le_refl s.heap.objs.size)
      have e1 : (List.replicate k.toNat [z]).flatten = List.replicate k.toNat z := by
        generalize k.toNat = j
        induction j with
        | zero => rfl
        | succ j ih => rw [List.replicate_succ, List.flatten_cons, ih, List.replicate_succ]; rfl
      refine ⟨.ref s.heap.objs.size, _, I.laid (t' := s.toks) (o := .tup (List.replicate k.toNat [z]).flatten) (fun _ _ g => Heap.get?_push_of_some _ g) (Nat.le_refl _) ?_, rfl, q _ _ (same_new np) (.inl (.inl (by rw [upd_same, e1])))⟩
      refine ⟨?_, _, (show Vals [z] [w] from .cons rw' .nil).rep k.toNat, IsTup.new _ _⟩
      rw [PyProof.Rows.lm_len_rep_flat, sizeLine_eq]
      show k.toNat * 1 ≤ _
      omega
end

/-! ### functions, as the document tells them -/
structure Wff (n l m : Nat) (tabs : List (List (List Bool))) : Prop where
  n1 : 1 ≤ n
  n2 : n ≤ 8
  l1 : 1 ≤ l
  l2 : l ≤ 8
  nl : n + l ≤ 12
  m1 : 1 ≤ m
  m2 : m ≤ 40
  len : tabs.length = 2 ^ n
  row : ∀ rows ∈ tabs, rows.length = 2 ^ l ∧ ∀ r ∈ rows, r.length = m
theorem Wff.ok {n l m : Nat} {tabs : List (List (List Bool))} (h : Wff n l m tabs) : funOk (funD n l m tabs) = true := fun_ok ⟨h.n1, h.n2⟩ ⟨h.l1, h.l2⟩ h.nl ⟨h.m1, h.m2⟩ h.len h.row
theorem Wff.pl {n l m : Nat} {tabs : List (List (List Bool))} (h : Wff n l m tabs) : Pl 3 (funD n l m tabs) := by
  have a1 := two_pow_le (b := 8) h.n2
  have a2 := two_pow_le (b := 8) h.l2
  have a3 := h.len
  refine pl_fun (by omega) fun rows hr => ?_
  have a4 := (h.row rows hr).1
  refine ⟨by omega, fun r hr' => ?_⟩
  have a5 := (h.row rows hr).2 r hr'
  have a6 := h.m2
  omega
theorem fun_wf {d : PyData} (h : funOk d = true) : ∃ (n l m : Nat) (tabs : List (List (List Bool))), d = funD n l m tabs ∧ Wff n l m tabs := by
  unfold funOk at h
  split at h
  · rename_i k n l m t
    obtain ⟨g5, h6⟩ := Bool.and_eq_true_iff.mp h
    obtain ⟨g4, h5⟩ := Bool.and_eq_true_iff.mp g5
    obtain ⟨g3, h4⟩ := Bool.and_eq_true_iff.mp g4
    obtain ⟨g2, h3⟩ := Bool.and_eq_true_iff.mp g3
    obtain ⟨h1, h2⟩ := Bool.and_eq_true_iff.mp g2
    obtain ⟨n, rfl, n1, n2⟩ := whole_int h2
    obtain ⟨l, rfl, l1, l2⟩ := whole_int h3
    obtain ⟨m, rfl, m1, m2⟩ := whole_int h5
    obtain ⟨n, rfl⟩ : ∃ k : Nat, n = (k : Int) := ⟨n.toNat, by omega⟩
    obtain ⟨l, rfl⟩ : ∃ k : Nat, l = (k : Int) := ⟨l.toNat, by omega⟩
    obtain ⟨m, rfl⟩ : ∃ k : Nat, m = (k : Int) := ⟨m.toNat, by omega⟩
    have h4' : (n : Int) + (l : Int) ≤ 12 := of_decide_eq_true h4
    cases t with
    | tuple ts =>
      have h6' : (decide ((ts.length : Int) = 1 * 2 ^ (n : Int).toNat) && ts.all (fun r => rowsOk r (1 * 2 ^ (l : Int).toNat) (m : Int))) = true := h6
      rw [shl_one, shl_one] at h6'
      obtain ⟨e1, e2⟩ := Bool.and_eq_true_iff.mp h6'
      have e1' : (ts.length : Int) = ((2 ^ n : Nat) : Int) := of_decide_eq_true e1
      have key : ∀ q : List PyData, q.all (fun r => rowsOk r ((2 ^ l : Nat) : Int) (m : Int)) = true → ∃ tabs : List (List (List Bool)), q = tabs.map rowsD ∧ ∀ rows ∈ tabs, rows.length = 2 ^ l ∧ ∀ r ∈ rows, r.length = m := by
        intro q
        induction q with
        | nil => exact fun _ => ⟨[], rfl, fun r hr => nomatch hr⟩
        | cons c q ih =>
          intro hl
          rw [List.all_cons, Bool.and_eq_true] at hl
          obtain ⟨tabs, e, hr⟩ := ih hl.2
          obtain ⟨rows, er, hl', hr'⟩ := ok_rowsD hl.1
          refine ⟨rows :: tabs, by rw [e, er]; rfl, fun x hx => ?_⟩
          rcases List.mem_cons.mp hx with z | z
          · rw [z]
            exact ⟨by omega, fun r hr => by have := hr' r hr; omega⟩
          · exact hr x z
      obtain ⟨tabs, rfl, hr⟩ := key ts e2
      rw [List.length_map] at e1'
      refine ⟨n, l, m, tabs, by rw [named_iff h1]; rfl, by omega, by omega, by omega, by omega, by omega, by omega, by omega, by omega, hr⟩
    | _ => cases h6
  · cases h
theorem gen_no_fun {d : PyData} (h : genOk d = true) : funOk d = false := by
  obtain ⟨n, m, rows, rfl, _⟩ := gen_wf h
  exact fun_no (by show ¬ 4 = 5; decide)
def tabsD (tabs : List (List (List Bool))) : PyData := .tuple (tabs.map rowsD)
theorem dp_fun {K : PySem.W.Frag} {H : Hp} {v : V} {n l m : Nat} {tabs : List (List (List Bool))} (h : Dp K H v (funD n l m tabs)) : ∃ a t, v = .ref a ∧ SqT K H a [.str "function", .int (n : Int), .int (l : Int), .int (m : Int), .ref t] ∧ Dp K H (.ref t) (tabsD tabs) := by
  cases h with
  | @tup a ws _ hT hA =>
    cases hA with
    | cons h0 hA =>
      cases hA with
      | cons h1 hA =>
        cases hA with
        | cons h2 hA =>
          cases hA with
          | cons h3 hA =>
            cases hA with
            | cons h4 hA =>
              cases hA
              cases h0
              cases h1
              cases h2
              cases h3
              cases h4 with
              | tup hR hU => exact ⟨a, _, rfl, hT, .tup hR hU⟩
theorem fun_dp {K : PySem.W.Frag} {H : Hp} {a t : Addr} {n l m : Nat} {tabs : List (List (List Bool))} (h1 : SqT K H a [.str "function", .int (n : Int), .int (l : Int), .int (m : Int), .ref t]) (h2 : Dp K H (.ref t) (tabsD tabs)) : Dp K H (.ref a) (funD n l m tabs) :=
  .tup h1 (.cons (.str _) (.cons (.int _) (.cons (.int _) (.cons (.int _) (.cons h2 .nil)))))
theorem tabs_at {K : PySem.W.Frag} {H : Hp} {t : Addr} {tabs : List (List (List Bool))} (h : Dp K H (.ref t) (tabsD tabs)) : ∃ us, SqT K H t us ∧ us.length = tabs.length ∧ ∀ i (hi : i < tabs.length), ∃ r, us[i]? = some (.ref r) ∧ SqT K H r (rowV tabs[i]) := by
  cases h with
  | @tup _ us _ hT hA =>
    have hl := dp_all_len hA
    rw [List.length_map] at hl
    refine ⟨us, hT, hl, fun i hi => ?_⟩
    have hiu : i < us.length := by omega
    obtain ⟨d, hd, hx⟩ := dp_all_get hA (List.getElem?_eq_getElem hiu)
    rw [List.getElem?_map, List.getElem?_eq_getElem hi] at hd
    have e := Option.some.inj hd
    subst e
    obtain ⟨r, e2, hr⟩ : ∃ r, us[i] = .ref r ∧ SqT K H r (rowV tabs[i]) := by
      generalize us[i] = u at hx
      cases hx with
      | @tup r ws _ hR hU => exact ⟨r, rfl, by unfold rowV; rw [← dp_sbs hU]; exact hR⟩
    exact ⟨r, by rw [List.getElem?_eq_getElem hiu, e2], hr⟩
def spFParts (K : PySem.W.Frag) (CB CS : Addr) : Sp := fun vs H Q E => ∃ (v : V) (D : PyData) (k : Nat), vs = [v] ∧ Dp K H v D ∧ Gd k D ∧ k ≤ 64 ∧
  ((blockOk D = false ∧ ∀ H', Same H H' → E (.ref CB) none H') ∨ (genOk D = true ∧ ∀ H', Same H H' → E (.ref CS) none H') ∨
    (∃ n l m tabs, D = funD n l m tabs ∧ Wff n l m tabs ∧ ∀ p t H', Same H H' → SqT K H' p [.int (n : Int), .int (l : Int), .int (m : Int), .ref t] → Dp K H' (.ref t) (tabsD tabs) → Q (.ref p) H'))
def spRow (K : PySem.W.Frag) (CB : Addr) : Sp := fun vs H Q E => ∃ (v : V) (D : PyData) (k : Nat) (x : Str), vs = [v, .str x] ∧ Dp K H v D ∧ Gd k D ∧ k ≤ 64 ∧
  ((blockOk D = false ∧ ∀ H', Same H H' → E (.ref CB) none H') ∨
    (∃ n m rows s, D = tabD n m rows ∧ x = sb s ∧ s.length = n ∧ Wf n m rows ∧ ∀ H', Same H H' → Q (.str (sb (rows.getD (val s) []))) H'))
def spVal (K : PySem.W.Frag) (CB : Addr) : Sp := fun vs H Q E => ∃ (v : V) (D : PyData) (k : Nat) (x y : Str), vs = [v, .str x, .str y] ∧ Dp K H v D ∧ Gd k D ∧ k ≤ 64 ∧
  ((blockOk D = false ∧ ∀ H', Same H H' → E (.ref CB) none H') ∨
    (∃ n l m tabs s t, D = funD n l m tabs ∧ x = sb s ∧ y = sb t ∧ s.length = n ∧ t.length = l ∧ Wff n l m tabs ∧ ∀ H', Same H H' → Q (.str (sb ((tabs.getD (val s) []).getD (val t) []))) H'))
/-- down from a label, along a path -/
def goDown (rows : List (List Bool)) (n : Nat) : List Bool → List Bool → List Bool
  | lab, [] => lab
  | lab, b :: bs => goDown rows n (if b then (rows.getD (val lab) []).drop n else (rows.getD (val lab) []).take n) bs
def treeT (n d : Nat) (rows : List (List Bool)) : List (List (List Bool)) := (List.range (2 ^ n)).map fun i => (List.range (2 ^ d)).map fun j => goDown rows n (toB n i) (toB d j)
def spGo (K : PySem.W.Frag) : Sp := fun vs H Q _ => ∃ (r : Addr) (n : Nat) (rows : List (List Bool)) (lab path : List Bool), vs = [.ref r, .str (sb lab), .str (sb path)] ∧ SqT K H r (rowV rows) ∧ Wf n (2 * n) rows ∧ lab.length = n ∧ Q (.str (sb (goDown rows n lab path))) H
def TreeBad (D : PyData) (d : Int) : Prop := funOk D = true ∨ ∃ n m rows, D = tabD n m rows ∧ Wf n m rows ∧ (m ≠ 2 * n ∨ 8 < n ∨ whole (.int d) 1 8 = false ∨ 12 < (n : Int) + d)
def TreeFits (D : PyData) (d : Int) : Prop := ∃ (n j : Nat) (rows : List (List Bool)), D = tabD n (2 * n) rows ∧ d = (j : Int) ∧ Wf n (2 * n) rows ∧ n ≤ 8 ∧ 1 ≤ j ∧ j ≤ 8 ∧ n + j ≤ 12
def spTree (K : PySem.W.Frag) (CB CS : Addr) : Sp := fun vs H Q E => ∃ (v : V) (D : PyData) (k : Nat) (d : Int), vs = [v, .int d] ∧ Dp K H v D ∧ Gd k D ∧ k ≤ 64 ∧
  ((blockOk D = false ∧ ∀ H', Same H H' → E (.ref CB) none H') ∨ (TreeBad D d ∧ ∀ H', Same H H' → E (.ref CS) none H') ∨
    (∃ (n j : Nat) (rows : List (List Bool)), D = tabD n (2 * n) rows ∧ d = (j : Int) ∧ Wf n (2 * n) rows ∧ n ≤ 8 ∧ 1 ≤ j ∧ j ≤ 8 ∧ n + j ≤ 12 ∧ ∀ v' H', Same H H' → Dp K H' v' (funD n j n (treeT n j rows)) → Q v' H'))
def cntR (c : Nat) (tabs : List (List (List Bool))) : List (List Bool) := tabs.map fun vals => (vals.take c).flatten
def CntBad (D : PyData) (c : Int) : Prop := genOk D = true ∨ ∃ n l m tabs, D = funD n l m tabs ∧ Wff n l m tabs ∧ (whole (.int c) 1 ((2 ^ l : Nat) : Int) = false ∨ 40 < c * (m : Int))
def CntFits (D : PyData) (c : Int) : Prop := ∃ (n l m j : Nat) (tabs : List (List (List Bool))), D = funD n l m tabs ∧ c = (j : Int) ∧ Wff n l m tabs ∧ 1 ≤ j ∧ j ≤ 2 ^ l ∧ j * m ≤ 40
def spCnt (K : PySem.W.Frag) (CB CS : Addr) : Sp := fun vs H Q E => ∃ (v : V) (D : PyData) (k : Nat) (c : Int), vs = [v, .int c] ∧ Dp K H v D ∧ Gd k D ∧ k ≤ 64 ∧
  ((blockOk D = false ∧ ∀ H', Same H H' → E (.ref CB) none H') ∨ (CntBad D c ∧ ∀ H', Same H H' → E (.ref CS) none H') ∨
    (∃ (n l m j : Nat) (tabs : List (List (List Bool))), D = funD n l m tabs ∧ c = (j : Int) ∧ Wff n l m tabs ∧ 1 ≤ j ∧ j ≤ 2 ^ l ∧ j * m ≤ 40 ∧ ∀ v' H', Same H H' → Dp K H' v' (tabD n (j * m) (cntR j tabs)) → Q v' H'))
def par (l m : List Bool) : Bool := ((List.zipWith (fun x y => x && y) l m).count true) % 2 == 1
def hardRow (n : Nat) (rows : List (List Bool)) (i j : Nat) : List Bool := rows.getD i [] ++ toB n j ++ [par (toB n i) (toB n j)]
def hardR (n : Nat) (rows : List (List Bool)) : List (List Bool) := ((List.range (2 ^ n)).map fun i => (List.range (2 ^ n)).map fun j => hardRow n rows i j).flatten
def HardBad (D : PyData) : Prop := funOk D = true ∨ ∃ n m rows, D = tabD n m rows ∧ Wf n m rows ∧ (5 < n ∨ 40 < m + n + 1)
def HardFits (D : PyData) : Prop := ∃ (n m : Nat) (rows : List (List Bool)), D = tabD n m rows ∧ Wf n m rows ∧ n ≤ 5 ∧ m + n + 1 ≤ 40
def spHard (K : PySem.W.Frag) (CB CS : Addr) : Sp := fun vs H Q E => ∃ (v : V) (D : PyData) (k : Nat), vs = [v] ∧ Dp K H v D ∧ Gd k D ∧ k ≤ 64 ∧
  ((blockOk D = false ∧ ∀ H', Same H H' → E (.ref CB) none H') ∨ (HardBad D ∧ ∀ H', Same H H' → E (.ref CS) none H') ∨
    (∃ (n m : Nat) (rows : List (List Bool)), D = tabD n m rows ∧ Wf n m rows ∧ n ≤ 5 ∧ m + n + 1 ≤ 40 ∧ ∀ v' H', Same H H' → Dp K H' v' (tabD (2 * n) (m + n + 1) (hardR n rows)) → Q v' H'))
def spLawTree (K : PySem.W.Frag) : Sp := fun vs H Q _ => ∃ (v : V) (n j : Nat) (rows : List (List Bool)), vs = [v, .int (j : Int)] ∧ Dp K H v (tabD n (2 * n) rows) ∧ Wf n (2 * n) rows ∧ n ≤ 8 ∧ 1 ≤ j ∧ j ≤ 8 ∧ ∀ v' H', Same H H' → Dp K H' v' (funD n j n (treeT n j rows)) → Q v' H'
def spLawHard (K : PySem.W.Frag) : Sp := fun vs H Q _ => ∃ (v : V) (n m : Nat) (rows : List (List Bool)), vs = [v] ∧ Dp K H v (tabD n m rows) ∧ Wf n m rows ∧ n ≤ 5 ∧ m + n + 1 ≤ 40 ∧ ∀ v' H', Same H H' → Dp K H' v' (tabD (2 * n) (m + n + 1) (hardR n rows)) → Q v' H'
section
variable {X : Cx} {tg e : Expr} {te : TE}
theorem piL (K : PySem.W.Frag) (he : PE X e te) (h : X.K = K := by rfl) : PI X tg e (iList K te) := by
  subst h
  exact pi_list he
theorem piT (K : PySem.W.Frag) (he : PE X e te) (h : X.K = K := by rfl) : PI X tg e (iTup K te) := by
  subst h
  exact pi_tup he
end
theorem off_upd1 {R : Addr} {H : Hp} {o : HO} : off R (upd H R o) = off R H := by
  funext b
  unfold off
  by_cases h : b = R
  · rw [if_pos h, if_pos h]
  · rw [if_neg h, if_neg h, upd_ne h]
theorem rowV_at {rows : List (List Bool)} {i : Nat} {x : V} (h : (rowV rows)[i]? = some x) : ∃ hi : i < rows.length, x = .str (sb rows[i]) := by
  unfold rowV at h
  rw [List.getElem?_map] at h
  obtain ⟨r, hr, e⟩ := Option.map_eq_some_iff.mp h
  obtain ⟨hi, rfl⟩ := List.getElem?_eq_some_iff.mp hr
  exact ⟨hi, e.symm⟩
theorem range_at {n k i : Nat} {x : V} (h : (rowV ((List.range k).map fun i => toB n i))[i]? = some x) : i < k ∧ x = .str (sb (toB n i)) := by
  obtain ⟨hi, e⟩ := rowV_at h
  rw [List.length_map, List.length_range] at hi
  refine ⟨hi, ?_⟩
  rw [e, List.getElem_map, List.getElem_range]
theorem rowV_len (rows : List (List Bool)) : (rowV rows).length = rows.length := List.length_map ..
theorem rowV_snoc {k : Nat} (f : Nat → List Bool) : rowV ((List.range (k + 1)).map f) = rowV ((List.range k).map f) ++ [.str (sb (f k))] := by
  unfold rowV
  rw [List.range_succ, List.map_append, List.map_append]
  rfl
theorem walkL {K : PySem.W.Frag} {a : Addr} {xs : List V} {B : (Hp → Prop) → V → Hp → Prop} {H0 : Hp} {Qd : Hp → Prop} (Pv : Nat → Hp → Prop) (h0 : Pv 0 H0) (hl : ∀ i H, i ≤ xs.length → Pv i H → SqL K H a xs)
    (hs : ∀ i x H, xs[i]? = some x → Pv i H → B (Pv (i + 1)) x H) (hd : ∀ H, Pv xs.length H → Qd H) :
    ∃ W : Nat → Nat → Hp → Prop, (∃ m, W 0 m H0) ∧ ∀ i m H, W i m H → ((Itl K a).stop i H ∧ Qd H) ∨ ((Itl K a).go i H ∧ ∃ Nx : Hp → Prop, (∀ H', Nx H' → ∃ m', m' < m ∧ W (i + 1) m' H') ∧ ∀ x H', (Itl K a).yld i H x H' → B Nx x H') := by
  refine ⟨fun i m H => m = xs.length - i ∧ i ≤ xs.length ∧ Pv i H, ⟨xs.length, by omega, Nat.zero_le _, h0⟩, ?_⟩
  rintro i m H ⟨rfl, hi, p⟩
  have hS := hl i H hi p
  by_cases c : i < xs.length
  · refine .inr ⟨⟨xs, xs[i], hS, List.getElem?_eq_getElem c⟩, Pv (i + 1), fun H' p' => ⟨xs.length - (i + 1), by omega, rfl, c, p'⟩, ?_⟩
    rintro y H' ⟨rfl, hy⟩
    exact hs i y _ (hy xs hS) p
  · have e : i = xs.length := by omega
    subst e
    exact .inl ⟨⟨xs, hS, Nat.le_refl _⟩, hd H p⟩
def hardMade (n : Nat) (rows : List (List Bool)) (i : Nat) : List (List Bool) := ((List.range i).map fun i => (List.range (2 ^ n)).map fun j => hardRow n rows i j).flatten
theorem hardMade_succ (n : Nat) (rows : List (List Bool)) (i : Nat) : hardMade n rows (i + 1) = hardMade n rows i ++ (List.range (2 ^ n)).map fun j => hardRow n rows i j := by
  unfold hardMade
  rw [List.range_succ, List.map_append, List.flatten_append]
  show _ ++ ((_ : List (List Bool)) ++ []) = _
  rw [List.append_nil]
theorem hardMade_len (n : Nat) (rows : List (List Bool)) (i : Nat) : (hardMade n rows i).length = i * 2 ^ n := by
  induction i with
  | zero => rw [Nat.zero_mul]; rfl
  | succ i ih => rw [hardMade_succ, List.length_append, ih, List.length_map, List.length_range, Nat.succ_mul]
theorem rowV_app (a b : List (List Bool)) : rowV (a ++ b) = rowV a ++ rowV b := List.map_append ..
def spTold4 (K : PySem.W.Frag) : Sp := fun vs H Q _ => ∃ (v : V) (D : PyData) (d : Nat) (which k : Int), vs = [.int which, v, .int k] ∧ (0 ≤ which ∧ which ≤ 4) ∧ Dp K H v D ∧ Gd d D ∧ d ≤ 64 ∧
  ((blockOk D = false ∧ ∀ H', Same H H' → Q (.str "block") H') ∨ ((which = 0 ∧ TreeBad D k ∨ which = 1 ∧ CntBad D k ∨ which = 2 ∧ HardBad D) ∧ ∀ H', Same H H' → Q (.str "scheme") H') ∨
    ((which = 0 ∧ TreeFits D k ∨ which = 1 ∧ CntFits D k ∨ which = 2 ∧ HardFits D) ∧ ∀ H', Same H H' → Q (.str "fine") H'))
theorem ne_int {x y : Int} (h : x ≠ y) : decide (V.int x = V.int y) = false := decide_eq_false fun z => h (V.int.inj z)
def spLooks (K : PySem.W.Frag) : Sp := fun vs H Q _ => ∃ (v w : V) (n m n' l' m' : Nat) (rows : List (List Bool)) (tabs : List (List (List Bool))), vs = [v, w] ∧ Dp K H v (tabD n m rows) ∧ Wf n m rows ∧ Dp K H w (funD n' l' m' tabs) ∧ Wff n' l' m' tabs ∧ ∀ H', Same H H' → Q (.bl true) H'
def spEdges : Sp := fun vs H Q _ => ∃ (a d : Addr), vs = [.ref a] ∧ Hnd H a d ∧ ∀ H', Q (.bl true) H'

theorem join_sbs (rows : List (List Bool)) : Txt.join "" (rows.map sb) = sb rows.flatten := by
  have e := join_all (rows.map sb)
  have e2 : ((rows.map sb).map (·.cps.toList)).flatten = rows.flatten.map cB := by
    rw [List.map_map, List.map_flatten]
    refine congrArg List.flatten (List.map_congr_left fun r _ => ?_)
    exact sb_cps r
  refine TL.ext_tl ?_
  show (Txt.join "" (rows.map sb)).cps.toList = (sb rows.flatten).cps.toList
  rw [e, e2, sb_cps]
theorem cut_rows {rows : List (List Bool)} {c : Nat} : cutV (rowV rows) none (some (c : Int)) = ((rows.take c).map sb).map V.str := by
  unfold cutV
  rw [HT.sIx_none, sIx_n, List.drop_zero, Nat.sub_zero, rowV_txts, ← List.map_take, ← List.map_take, List.length_map, List.length_map]
  by_cases h : c ≤ rows.length
  · rw [Nat.min_eq_left h]
  · rw [Nat.min_eq_right (by omega), List.take_of_length_le (Nat.le_refl _), List.take_of_length_le (by omega)]
theorem sum_rows {rows : List (List Bool)} {m : Nat} (h : ∀ r ∈ rows, r.length = m) : ((rows.map sb).map (·.length)).sum = rows.length * m := by
  induction rows with
  | nil => rw [List.length_nil, Nat.zero_mul]; rfl
  | cons r rows ih =>
    rw [List.map_cons, List.map_cons, List.sum_cons, ih fun x hx => h x (List.mem_cons_of_mem _ hx), List.length_cons, Nat.succ_mul, sb_len, h r List.mem_cons_self]
    omega

theorem pss_when {X : Cx} {b : List Stmt} {cls : Value} {d : Option Addr} {C : Addr} {oe : Obj} {t : TS} (hz : Zc cls d oe) (h : Zc (.ref C) none oe → PSs X b t) : PSs X b (fun D σ H => (cls = .ref C ∧ d = none) ∧ t D σ H) := by
  refine ⟨fun pins s σ H D I q => ?_⟩
  obtain ⟨⟨e1, e2⟩, q⟩ := q
  subst e1
  subst e2
  exact (h hz).run pins s σ H D I q

/-! ### a written dict of texts -/
def txtR (ps : List (Str × Str)) : Str → Value → Prop := fun z u => ∃ x t, (z, x) ∈ ps ∧ u = .str x t
theorem txt_has {ps : List (Str × Str)} : HasV (txtR ps) := fun z u h => by
  obtain ⟨x, t, _, rfl⟩ := h
  exact ⟨.str x, _, rfl⟩
def rNotDk (d : Addr) (ks : List Str) : R2 := fun x y H Q => ∃ z : Str, x = .str z ∧ y = .ref d ∧ Q (.bl (!decide (z ∈ ks))) H
theorem notin_dk {X : Cx} {d : Addr} {ks : List Str} {R : Str → Value → Prop} (D : DictK X.K X.w d ks R) : OpR X (compareOp .NotIn) (rNotDk d ks) := by
  obtain ⟨es, n, kd, ka⟩ := D.ex
  intro pins s σ H x y v u Q I rx ry h
  obtain ⟨z, e1, e2, q⟩ := h
  subst e1 e2
  cases hz : decide (z ∈ ks) with
  | true =>
    rw [hz] at q
    obtain ⟨u', e, _⟩ := nsIn_yes kd ka (of_decide_eq_true hz)
    exact op_notIn_kd kd pins s σ H _ _ v u Q I rx ry ⟨z, some u', rfl, rfl, e, q⟩
  | false =>
    rw [hz] at q
    exact op_notIn_kd kd pins s σ H _ _ v u Q I rx ry ⟨z, none, rfl, rfl, nsIn_no kd ka (of_decide_eq_false hz), q⟩

def topS (i : Nat) : Stmt := PySem.Challenge.pw_breakback_k32_carried_shape.main.body.getD i (.Pass ⟨0, 0, 0, 0⟩)
abbrev s_bits : Stmt := topS 1
abbrev s_all_bits : Stmt := topS 2
abbrev s_number_of : Stmt := topS 3
abbrev s_is_whole : Stmt := topS 11
abbrev s_are_rows : Stmt := topS 12
abbrev s_is_generator : Stmt := topS 13
abbrev s_is_function : Stmt := topS 14
abbrev s_check_block : Stmt := topS 15
abbrev s_generator_parts : Stmt := topS 16
abbrev s_function_parts : Stmt := topS 17
abbrev s_put_out : Stmt := topS 18
abbrev s_longer : Stmt := topS 19
abbrev s_go_down : Stmt := topS 20
abbrev s_tree : Stmt := topS 21
abbrev s_counter : Stmt := topS 22
abbrev s_cut : Stmt := topS 23
abbrev s_are_numbers : Stmt := topS 31
abbrev s_fits_longer : Stmt := topS 32
abbrev s_fits_tree : Stmt := topS 33
abbrev s_fits_opening : Stmt := topS 34
abbrev s_fits_onetime : Stmt := topS 35
abbrev s_is_made : Stmt := topS 37
abbrev s_fits_kind : Stmt := topS 38
abbrev s_is_part : Stmt := topS 39
abbrev s_are_parts : Stmt := topS 40
abbrev s_looks_plain : Stmt := topS 41
abbrev s_directly_within : Stmt := topS 42
abbrev s_is_plain_breaker : Stmt := topS 43
abbrev s_check_breaker : Stmt := topS 44
abbrev s_is_plain : Stmt := topS 45
abbrev s_plain_asks : Stmt := topS 46
abbrev s_most_asks : Stmt := topS 47
abbrev s_layers_of : Stmt := topS 51
abbrev s_with_layer : Stmt := topS 52
abbrev s_tables_of : Stmt := topS 53
abbrev s_built : Stmt := topS 54
abbrev s_check_goal : Stmt := topS 55
abbrev s_check_attack : Stmt := topS 56
abbrev s_led_to_whole : Stmt := topS 57
abbrev s_led_down : Stmt := topS 58
abbrev s_carried : Stmt := topS 59
abbrev s_law_draws : Stmt := topS 61
abbrev s_law_take : Stmt := topS 62
abbrev s_law_string : Stmt := topS 63
abbrev s_law_table : Stmt := topS 64
abbrev s_law_function : Stmt := topS 65
abbrev s_law_bits : Stmt := topS 66
abbrev s_law_number : Stmt := topS 67
abbrev s_law_longer : Stmt := topS 68
abbrev s_law_tree : Stmt := topS 69
abbrev s_law_layer : Stmt := topS 70
abbrev s_law_block : Stmt := topS 71
abbrev s_law_step : Stmt := topS 72
abbrev s_law_scheme : Stmt := topS 73
abbrev s_law_goal : Stmt := topS 74
abbrev s_law_parts : Stmt := topS 75
abbrev s_law_breaker : Stmt := topS 76
abbrev s_law_asks : Stmt := topS 77
abbrev s_law_due : Stmt := topS 78
abbrev s_law_refused : Stmt := topS 79
abbrev s_law_whole : Stmt := topS 80
abbrev s_law : Stmt := topS 81
theorem sc_bits : FnScope ["length", "number"] ["length", "number"] (defScope s_bits) := ⟨rfl, rfl, rfl, by decide +kernel, rfl, by decide +kernel, by decide +kernel⟩
theorem sc_all_bits : FnScope ["length", "number"] ["length"] (defScope s_all_bits) := ⟨rfl, rfl, rfl, by decide +kernel, rfl, by decide +kernel, by decide +kernel⟩
theorem sc_number_of : FnScope ["string"] ["string"] (defScope s_number_of) := ⟨rfl, rfl, rfl, by decide +kernel, rfl, by decide +kernel, by decide +kernel⟩
theorem sc_is_whole : FnScope ["value", "low", "high"] ["value", "low", "high"] (defScope s_is_whole) := ⟨rfl, rfl, rfl, by decide +kernel, rfl, by decide +kernel, by decide +kernel⟩
theorem sc_are_rows : FnScope ["value", "many", "m", "row"] ["value", "many", "m"] (defScope s_are_rows) := ⟨rfl, rfl, rfl, by decide +kernel, rfl, by decide +kernel, by decide +kernel⟩
theorem sc_is_generator : FnScope ["value", "kind", "n", "m", "rows"] ["value"] (defScope s_is_generator) := ⟨rfl, rfl, rfl, by decide +kernel, rfl, by decide +kernel, by decide +kernel⟩
theorem sc_is_function : FnScope ["value", "kind", "n", "l", "m", "tables", "rows"] ["value"] (defScope s_is_function) := ⟨rfl, rfl, rfl, by decide +kernel, rfl, by decide +kernel, by decide +kernel⟩
theorem sc_check_block : FnScope ["block"] ["block"] (defScope s_check_block) := ⟨rfl, rfl, rfl, by decide +kernel, rfl, by decide +kernel, by decide +kernel⟩
theorem sc_generator_parts : FnScope ["block"] ["block"] (defScope s_generator_parts) := ⟨rfl, rfl, rfl, by decide +kernel, rfl, by decide +kernel, by decide +kernel⟩
theorem sc_function_parts : FnScope ["block"] ["block"] (defScope s_function_parts) := ⟨rfl, rfl, rfl, by decide +kernel, rfl, by decide +kernel, by decide +kernel⟩
theorem sc_put_out : FnScope ["rows", "state", "k", "out", "_", "row"] ["rows", "state", "k"] (defScope s_put_out) := ⟨rfl, rfl, rfl, by decide +kernel, rfl, by decide +kernel, by decide +kernel⟩
theorem sc_longer : FnScope ["block", "k", "n", "m", "rows", "seed"] ["block", "k"] (defScope s_longer) := ⟨rfl, rfl, rfl, by decide +kernel, rfl, by decide +kernel, by decide +kernel⟩
theorem sc_go_down : FnScope ["rows", "label", "path", "n", "bit", "row"] ["rows", "label", "path"] (defScope s_go_down) := ⟨rfl, rfl, rfl, by decide +kernel, rfl, by decide +kernel, by decide +kernel⟩
theorem sc_tree : FnScope ["block", "d", "n", "m", "rows", "paths", "tables", "key", "path"] ["block", "d"] (defScope s_tree) := ⟨rfl, rfl, rfl, by decide +kernel, rfl, by decide +kernel, by decide +kernel⟩
theorem sc_counter : FnScope ["block", "c", "n", "l", "m", "tables", "values"] ["block", "c"] (defScope s_counter) := ⟨rfl, rfl, rfl, by decide +kernel, rfl, by decide +kernel, by decide +kernel⟩
theorem sc_cut : FnScope ["block", "b", "n", "m", "rows", "row"] ["block", "b"] (defScope s_cut) := ⟨rfl, rfl, rfl, by decide +kernel, rfl, by decide +kernel, by decide +kernel⟩
theorem sc_are_numbers : FnScope ["own", "bounds", "value", "low", "high"] ["own", "bounds"] (defScope s_are_numbers) := ⟨rfl, rfl, rfl, by decide +kernel, rfl, by decide +kernel, by decide +kernel⟩
theorem sc_fits_longer : FnScope ["own", "n", "m"] ["own"] (defScope s_fits_longer) := ⟨rfl, rfl, rfl, by decide +kernel, rfl, by decide +kernel, by decide +kernel⟩
theorem sc_fits_tree : FnScope ["own", "n", "m"] ["own"] (defScope s_fits_tree) := ⟨rfl, rfl, rfl, by decide +kernel, rfl, by decide +kernel, by decide +kernel⟩
theorem sc_fits_opening : FnScope ["own"] ["own"] (defScope s_fits_opening) := ⟨rfl, rfl, rfl, by decide +kernel, rfl, by decide +kernel, by decide +kernel⟩
theorem sc_fits_onetime : FnScope ["own"] ["own"] (defScope s_fits_onetime) := ⟨rfl, rfl, rfl, by decide +kernel, rfl, by decide +kernel, by decide +kernel⟩
theorem sc_is_made : FnScope ["value"] ["value"] (defScope s_is_made) := ⟨rfl, rfl, rfl, by decide +kernel, rfl, by decide +kernel, by decide +kernel⟩
theorem sc_fits_kind : FnScope ["made", "kind", "own", "fits"] ["made"] (defScope s_fits_kind) := ⟨rfl, rfl, rfl, by decide +kernel, rfl, by decide +kernel, by decide +kernel⟩
theorem sc_is_part : FnScope ["value"] ["value"] (defScope s_is_part) := ⟨rfl, rfl, rfl, by decide +kernel, rfl, by decide +kernel, by decide +kernel⟩
theorem sc_are_parts : FnScope ["value", "part"] ["value"] (defScope s_are_parts) := ⟨rfl, rfl, rfl, by decide +kernel, rfl, by decide +kernel, by decide +kernel⟩
theorem sc_looks_plain : FnScope ["value", "kind", "many"] ["value"] (defScope s_looks_plain) := ⟨rfl, rfl, rfl, by decide +kernel, rfl, by decide +kernel, by decide +kernel⟩
theorem sc_directly_within : FnScope ["plain"] ["plain"] (defScope s_directly_within) := ⟨rfl, rfl, rfl, by decide +kernel, rfl, by decide +kernel, by decide +kernel⟩
theorem sc_is_plain_breaker : FnScope ["value", "waiting", "many", "part", "depth", "inner"] ["value"] (defScope s_is_plain_breaker) := ⟨rfl, rfl, rfl, by decide +kernel, rfl, by decide +kernel, by decide +kernel⟩
theorem sc_check_breaker : FnScope ["breaker", "inner", "depth"] ["breaker"] (defScope s_check_breaker) := ⟨rfl, rfl, rfl, by decide +kernel, rfl, by decide +kernel, by decide +kernel⟩
theorem sc_is_plain : FnScope ["breaker"] ["breaker"] (defScope s_is_plain) := ⟨rfl, rfl, rfl, by decide +kernel, rfl, by decide +kernel, by decide +kernel⟩
theorem sc_plain_asks : FnScope ["breaker", "most", "waiting", "part", "asks", "inner"] ["breaker"] (defScope s_plain_asks) := ⟨rfl, rfl, rfl, by decide +kernel, rfl, by decide +kernel, by decide +kernel⟩
theorem sc_most_asks : FnScope ["breaker", "own", "inner"] ["breaker"] (defScope s_most_asks) := ⟨rfl, rfl, rfl, by decide +kernel, rfl, by decide +kernel, by decide +kernel⟩
theorem sc_layers_of : FnScope ["scheme", "layers", "inner"] ["scheme"] (defScope s_layers_of) := ⟨rfl, rfl, rfl, by decide +kernel, rfl, by decide +kernel, by decide +kernel⟩
theorem sc_with_layer : FnScope ["name", "number", "block"] ["name", "number", "block"] (defScope s_with_layer) := ⟨rfl, rfl, rfl, by decide +kernel, rfl, by decide +kernel, by decide +kernel⟩
theorem sc_tables_of : FnScope ["layers", "block", "tables", "name", "number"] ["layers", "block"] (defScope s_tables_of) := ⟨rfl, rfl, rfl, by decide +kernel, rfl, by decide +kernel, by decide +kernel⟩
theorem sc_built : FnScope ["scheme", "block"] ["scheme", "block"] (defScope s_built) := ⟨rfl, rfl, rfl, by decide +kernel, rfl, by decide +kernel, by decide +kernel⟩
theorem sc_check_goal : FnScope ["goal", "block", "name", "whole"] ["goal", "block"] (defScope s_check_goal) := ⟨rfl, rfl, rfl, by decide +kernel, rfl, by decide +kernel, by decide +kernel⟩
theorem sc_check_attack : FnScope ["goal", "block", "breaker"] ["goal", "block", "breaker"] (defScope s_check_attack) := ⟨rfl, rfl, rfl, by decide +kernel, rfl, by decide +kernel, by decide +kernel⟩
theorem sc_led_to_whole : FnScope ["goal", "whole", "breaker", "name", "l", "m", "cost"] ["goal", "whole", "breaker"] (defScope s_led_to_whole) := ⟨rfl, rfl, rfl, by decide +kernel, rfl, by decide +kernel, by decide +kernel⟩
theorem sc_led_down : FnScope ["name", "number", "table", "breaker", "q", "l", "m", "j"] ["name", "number", "table", "breaker"] (defScope s_led_down) := ⟨rfl, rfl, rfl, by decide +kernel, rfl, by decide +kernel, by decide +kernel⟩
theorem sc_carried : FnScope ["goal", "block", "breaker", "layers", "tables", "made", "number", "at", "name", "size", "cost"] ["goal", "block", "breaker"] (defScope s_carried) := ⟨rfl, rfl, rfl, by decide +kernel, rfl, by decide +kernel, by decide +kernel⟩
theorem sc_law_draws : FnScope ["script", "many", "rests", "draws", "k", "cell", "at", "mixed"] ["script", "many"] (defScope s_law_draws) := ⟨rfl, rfl, rfl, by decide +kernel, rfl, by decide +kernel, by decide +kernel⟩
theorem sc_law_take : FnScope ["hand", "many", "at", "draws"] ["hand", "many"] (defScope s_law_take) := ⟨rfl, rfl, rfl, by decide +kernel, rfl, by decide +kernel, by decide +kernel⟩
theorem sc_law_string : FnScope ["hand", "length", "k"] ["hand", "length"] (defScope s_law_string) := ⟨rfl, rfl, rfl, by decide +kernel, rfl, by decide +kernel, by decide +kernel⟩
theorem sc_law_table : FnScope ["hand", "n", "m", "rows", "k"] ["hand", "n", "m"] (defScope s_law_table) := ⟨rfl, rfl, rfl, by decide +kernel, rfl, by decide +kernel, by decide +kernel⟩
theorem sc_law_function : FnScope ["hand", "n", "l", "m", "rows", "key", "k"] ["hand", "n", "l", "m"] (defScope s_law_function) := ⟨rfl, rfl, rfl, by decide +kernel, rfl, by decide +kernel, by decide +kernel⟩
theorem sc_law_bits : FnScope ["length", "number", "found", "k"] ["length", "number"] (defScope s_law_bits) := ⟨rfl, rfl, rfl, by decide +kernel, rfl, by decide +kernel, by decide +kernel⟩
theorem sc_law_number : FnScope ["string", "found", "sign"] ["string"] (defScope s_law_number) := ⟨rfl, rfl, rfl, by decide +kernel, rfl, by decide +kernel, by decide +kernel⟩
theorem sc_law_longer : FnScope ["table", "k", "n", "rows", "seed", "state", "out", "turn", "row"] ["table", "k"] (defScope s_law_longer) := ⟨rfl, rfl, rfl, by decide +kernel, rfl, by decide +kernel, by decide +kernel⟩
theorem sc_law_tree : FnScope ["table", "d", "n", "rows", "key", "values", "x", "label", "bit", "row"] ["table", "d"] (defScope s_law_tree) := ⟨rfl, rfl, rfl, by decide +kernel, rfl, by decide +kernel, by decide +kernel⟩
theorem sc_law_layer : FnScope ["name", "number", "table", "rows", "row"] ["name", "number", "table"] (defScope s_law_layer) := ⟨rfl, rfl, rfl, by decide +kernel, rfl, by decide +kernel, by decide +kernel⟩
theorem sc_law_block : FnScope ["hand", "kind", "n"] ["hand"] (defScope s_law_block) := ⟨rfl, rfl, rfl, by decide +kernel, rfl, by decide +kernel, by decide +kernel⟩
theorem sc_law_step : FnScope ["hand", "table", "most", "kind"] ["hand", "table"] (defScope s_law_step) := ⟨rfl, rfl, rfl, by decide +kernel, rfl, by decide +kernel, by decide +kernel⟩
theorem sc_law_scheme : FnScope ["hand", "block", "many", "scheme", "table", "layers", "turn", "name", "number"] ["hand", "block", "many"] (defScope s_law_scheme) := ⟨rfl, rfl, rfl, by decide +kernel, rfl, by decide +kernel, by decide +kernel⟩
theorem sc_law_goal : FnScope ["hand", "scheme", "table", "names", "name"] ["hand", "scheme", "table"] (defScope s_law_goal) := ⟨rfl, rfl, rfl, by decide +kernel, rfl, by decide +kernel, by decide +kernel⟩
theorem sc_law_parts : FnScope ["hand", "length", "found", "k", "kind"] ["hand", "length"] (defScope s_law_parts) := ⟨rfl, rfl, rfl, by decide +kernel, rfl, by decide +kernel, by decide +kernel⟩
theorem sc_law_breaker : FnScope ["hand", "depth", "asks", "length", "said", "kind", "size", "first", "many", "k"] ["hand", "depth", "asks", "length", "said"] (defScope s_law_breaker) := ⟨rfl, rfl, rfl, by decide +kernel, rfl, by decide +kernel, by decide +kernel⟩
theorem sc_law_asks : FnScope ["breaker", "one"] ["breaker"] (defScope s_law_asks) := ⟨rfl, rfl, rfl, by decide +kernel, rfl, by decide +kernel, by decide +kernel⟩
theorem sc_law_due : FnScope ["goal", "table", "layers", "breaker", "name", "asks", "made", "number", "layer", "many", "inner", "j"] ["goal", "table", "layers", "breaker"] (defScope s_law_due) := ⟨rfl, rfl, rfl, by decide +kernel, rfl, by decide +kernel, by decide +kernel⟩
theorem sc_law_refused : FnScope ["goal", "block", "breaker", "error"] ["goal", "block", "breaker"] (defScope s_law_refused) := ⟨rfl, rfl, rfl, by decide +kernel, rfl, by decide +kernel, by decide +kernel⟩
theorem sc_law_whole : FnScope ["script", "hand", "block", "scheme", "table", "layers", "turn", "goal", "breaker", "due", "answer", "odd", "wrong", "bad", "no"] ["script"] (defScope s_law_whole) := ⟨rfl, rfl, rfl, by decide +kernel, rfl, by decide +kernel, by decide +kernel⟩
theorem sc_law : FnScope ["script"] ["script"] (defScope s_law) := ⟨rfl, rfl, rfl, by decide +kernel, rfl, by decide +kernel, by decide +kernel⟩
structure Cs where
  BadBlock : Addr
  BadBreaker : Addr
  BadScheme : Addr
  BreakError : Addr
  NUMBERS : Addr
  FITTING : Addr
  ABOUT : Addr
structure Txt (K : PySem.W.Frag) (w : World) (mg : Str → Option Value) (cs : Cs) : Prop where
  gl_BadBlock : mg "BadBlock" = some (.ref cs.BadBlock)
  gl_BadBreaker : mg "BadBreaker" = some (.ref cs.BadBreaker)
  gl_BadScheme : mg "BadScheme" = some (.ref cs.BadScheme)
  gl_BreakError : mg "BreakError" = some (.ref cs.BreakError)
  gl_NUMBERS : mg "NUMBERS" = some (.ref cs.NUMBERS)
  gl_FITTING : mg "FITTING" = some (.ref cs.FITTING)
  gl_ABOUT : mg "ABOUT" = some (.ref cs.ABOUT)
  dk_NUMBERS : DictK K w cs.NUMBERS numK (numR K)
  dk_FITTING : DictK K w cs.FITTING fitK (fitR mg)
  dk_ABOUT : DictK K w cs.ABOUT ["tell", "marks", "secrets", "once", "opening", "next"] (txtR [("tell", "any"), ("marks", "function"), ("secrets", "function"), ("once", "generator"), ("opening", "generator"), ("next", "generator")])
  x_BadBlock : Exn K mg "BadBlock" cs.BadBlock
  e_BadBlock : ExcC K cs.BadBlock
  exm_BadBlock_BadBlock : PySem.W.exmOne K (.ref cs.BadBlock) (.ref cs.BadBlock) = some true
  kit_BadBlock_BreakError : PySem.W.kitOne K (.ref cs.BadBlock) (.ref cs.BreakError) = some true
  x_BadBreaker : Exn K mg "BadBreaker" cs.BadBreaker
  e_BadBreaker : ExcC K cs.BadBreaker
  exm_BadBreaker_BadBlock : PySem.W.exmOne K (.ref cs.BadBreaker) (.ref cs.BadBlock) = some false
  exm_BadBreaker_BadScheme : PySem.W.exmOne K (.ref cs.BadBreaker) (.ref cs.BadScheme) = some false
  exm_BadBreaker_BadBreaker : PySem.W.exmOne K (.ref cs.BadBreaker) (.ref cs.BadBreaker) = some true
  kit_BadBreaker_BreakError : PySem.W.kitOne K (.ref cs.BadBreaker) (.ref cs.BreakError) = some true
  x_BadScheme : Exn K mg "BadScheme" cs.BadScheme
  e_BadScheme : ExcC K cs.BadScheme
  exm_BadScheme_BadBlock : PySem.W.exmOne K (.ref cs.BadScheme) (.ref cs.BadBlock) = some false
  exm_BadScheme_BadScheme : PySem.W.exmOne K (.ref cs.BadScheme) (.ref cs.BadScheme) = some true
  kit_BadScheme_BreakError : PySem.W.kitOne K (.ref cs.BadScheme) (.ref cs.BreakError) = some true
  n_abs : mg "abs" = none
  n_all : mg "all" = none
  n_bool : mg "bool" = none
  n_int : mg "int" = none
  n_isinstance : mg "isinstance" = none
  n_len : mg "len" = none
  n_list : mg "list" = none
  n_max : mg "max" = none
  n_min : mg "min" = none
  n_range : mg "range" = none
  n_str : mg "str" = none
  n_sum : mg "sum" = none
  n_tuple : mg "tuple" = none
  n_zip : mg "zip" = none
  g_DEEPEST : ∃ u, mg "DEEPEST" = some u ∧ RelV (.int 8) u
  g_DEEPEST_MADE : ∃ u, mg "DEEPEST_MADE" = some u ∧ RelV (.int 20) u
  g_DEEPEST_PLAIN : ∃ u, mg "DEEPEST_PLAIN" = some u ∧ RelV (.int 60) u
  g_LAST_BIT : ∃ u, mg "LAST_BIT" = some u ∧ RelV (.int 9999) u
  g_MOST_BITS : ∃ u, mg "MOST_BITS" = some u ∧ RelV (.int 40) u
  g_MOST_TOSSED : ∃ u, mg "MOST_TOSSED" = some u ∧ RelV (.int 64) u
  g_MOST_WITHIN : ∃ u, mg "MOST_WITHIN" = some u ∧ RelV (.int 2000) u
def top_level : Nat := 14
/-! ### the dicts of the made breakers, read off the written part -/
def intB (u : Value) (i : Int) : Bool := match u with
  | .int j _ => decide (j = i)
  | _ => false
def tupB2 (K : PySem.W.Frag) (u : Value) (b : Int × Int) : Bool := match u with
  | .ref a => (match K.lookup a with
    | some ⟨.type c, _, .seq its _, _⟩ => decide (c = "tuple") && (match its.toList with
      | [x, y] => intB x b.1 && intB y b.2
      | _ => false)
    | _ => false)
  | _ => false
def allB (K : PySem.W.Frag) : List Value → List (Int × Int) → Bool
  | [], [] => true
  | u :: us, b :: bs => tupB2 K u b && allB K us bs
  | _, _ => false
def tupPB (K : PySem.W.Frag) (u : Value) (bs : List (Int × Int)) : Bool := match u with
  | .ref a => (match K.lookup a with
    | some ⟨.type c, _, .seq its _, _⟩ => decide (c = "tuple") && (decide (its.toList.length ≤ 100) && allB K its.toList bs)
    | _ => false)
  | _ => false
def numB (K : PySem.W.Frag) : List DictEntry → List Str → Bool
  | [], [] => true
  | e :: es, k :: ks => (match e.key with
    | .str x _ => decide (x = k)
    | _ => false) && (tupPB K e.val (numOf k) && numB K es ks)
  | _, _ => false
theorem intB_ok {u : Value} {i : Int} (h : intB u i = true) : RelV (.int i) u := by
  unfold intB at h
  split at h
  · rename_i j t
    rw [of_decide_eq_true h]
    exact ⟨_, rfl⟩
  · cases h
theorem tupB2_ok {K : PySem.W.Frag} {u : Value} {b : Int × Int} (h : tupB2 K u b = true) : ∃ a, u = .ref a ∧ ∀ H, Dp K H (.ref a) (pairD b) := by
  unfold tupB2 at h
  split at h
  · rename_i a
    refine ⟨a, rfl, ?_⟩
    split at h
    · rename_i c dd its n sl e
      rw [Bool.and_eq_true, decide_eq_true_eq] at h
      obtain ⟨rfl, h⟩ := h
      split at h
      · rename_i x y e2
        rw [Bool.and_eq_true] at h
        have hs : its.size ≤ sizeLine := by
          rw [← Array.length_toList, e2]
          show 2 ≤ sizeLine
          decide
        exact fun H => .tup (.inr ⟨_, its, n, e, rfl, rfl, hs, by rw [e2]; exact .cons (intB_ok h.1) (.cons (intB_ok h.2) .nil)⟩) (.cons (.int _) (.cons (.int _) .nil))
      · cases h
    · cases h
  · cases h
theorem allB_ok {K : PySem.W.Frag} : ∀ {us : List Value} {bs : List (Int × Int)}, allB K us bs = true → ∃ vs : List V, Vals vs us ∧ ∀ H, DpAll K H vs (bs.map pairD)
  | [], [], _ => ⟨[], .nil, fun _ => .nil⟩
  | [], _ :: _, h => by cases h
  | _ :: _, [], h => by cases h
  | u :: us, b :: bs, h => by
    have h' : (tupB2 K u b && allB K us bs) = true := h
    rw [Bool.and_eq_true] at h'
    obtain ⟨a, rfl, h1⟩ := tupB2_ok h'.1
    obtain ⟨vs, h2, h3⟩ := allB_ok h'.2
    exact ⟨.ref a :: vs, .cons rfl h2, fun H => .cons (h1 H) (h3 H)⟩
theorem tupPB_ok {K : PySem.W.Frag} {u : Value} {bs : List (Int × Int)} (h : tupPB K u bs = true) : ∃ a, u = .ref a ∧ ∀ H, Dp K H (.ref a) (pairsD bs) := by
  unfold tupPB at h
  split at h
  · rename_i a
    refine ⟨a, rfl, ?_⟩
    split at h
    · rename_i c dd its n sl e
      rw [Bool.and_eq_true, Bool.and_eq_true, decide_eq_true_eq, decide_eq_true_eq] at h
      obtain ⟨rfl, hl, h⟩ := h
      obtain ⟨vs, h2, h3⟩ := allB_ok h
      have hs : its.size ≤ sizeLine := by
        rw [← Array.length_toList, sizeLine_eq]
        omega
      exact fun H => .tup (.inr ⟨_, its, n, e, rfl, rfl, hs, h2⟩) (h3 H)
    · cases h
  · cases h
theorem numB_ok {K : PySem.W.Frag} : ∀ {es : List DictEntry} {ks : List Str}, numB K es ks = true → KeysAre (numR K) es ks
  | [], [], _ => .nil
  | [], _ :: _, h => by cases h
  | _ :: _, [], h => by cases h
  | e :: es, k :: ks, h => by
    have h' : ((match e.key with
      | .str x _ => decide (x = k)
      | _ => false) && (tupPB K e.val (numOf k) && numB K es ks)) = true := h
    rw [Bool.and_eq_true, Bool.and_eq_true] at h'
    obtain ⟨h1, h2, h3⟩ := h'
    obtain ⟨a, ea, ha⟩ := tupPB_ok h2
    split at h1
    · rename_i x t ek
      rw [of_decide_eq_true h1] at ek
      exact .cons ek ⟨a, ea, ha⟩ (numB_ok h3)
    · cases h1
theorem fitB_ok {mg : Str → Option Value} {h1 h2 h3 h4 : Int} {t1 t2 t3 t4 : Tok} {f1 f2 f3 f4 : Addr} {es : Array DictEntry} (e : es.toList = [⟨h1, .str "longer" t1, .ref f1⟩, ⟨h2, .str "tree" t2, .ref f2⟩, ⟨h3, .str "opening" t3, .ref f3⟩, ⟨h4, .str "onetime" t4, .ref f4⟩])
    (m1 : mg "fits_longer" = some (.ref f1)) (m2 : mg "fits_tree" = some (.ref f2)) (m3 : mg "fits_opening" = some (.ref f3)) (m4 : mg "fits_onetime" = some (.ref f4)) : KeysAre (fitR mg) es.toList fitK := by
  rw [e]
  exact .cons rfl ⟨f1, rfl, .inl ⟨rfl, m1⟩⟩ (.cons rfl ⟨f2, rfl, .inr (.inl ⟨rfl, m2⟩)⟩ (.cons rfl ⟨f3, rfl, .inr (.inr (.inl ⟨rfl, m3⟩))⟩ (.cons rfl ⟨f4, rfl, .inr (.inr (.inr ⟨rfl, m4⟩))⟩ .nil)))

theorem nums_len : ∀ {ds : List PyData} {bs : List (Int × Int)}, ds.length ≠ bs.length → numsOk ds bs = false
  | [], [], h => absurd rfl h
  | [], _ :: _, _ => rfl
  | _ :: _, [], _ => rfl
  | d :: ds, b :: bs, h => by
    show (whole d b.1 b.2 && numsOk ds bs) = false
    rw [nums_len fun e => h (congrArg Nat.succ e), Bool.and_false]
theorem dp2 {K : PySem.W.Frag} {H : Hp} {ws : List V} {xs : List PyData} (h : DpAll K H ws xs) (c : ws.length = 2) : ∃ v0 v1 d0 d1, ws = [v0, v1] ∧ xs = [d0, d1] ∧ Dp K H v0 d0 ∧ Dp K H v1 d1 := by
  match xs, ws, c, h with
  | _, [v0, v1], _, .cons h0 (.cons h1 .nil) => exact ⟨_, _, _, _, rfl, rfl, h0, h1⟩
theorem dp1 {K : PySem.W.Frag} {H : Hp} {ws : List V} {xs : List PyData} (h : DpAll K H ws xs) (c : ws.length = 1) : ∃ v0 d0, ws = [v0] ∧ xs = [d0] ∧ Dp K H v0 d0 := by
  match xs, ws, c, h with
  | _, [v0], _, .cons h0 .nil => exact ⟨_, _, rfl, rfl, h0⟩
theorem dp3 {K : PySem.W.Frag} {H : Hp} {ws : List V} {xs : List PyData} (h : DpAll K H ws xs) (c : ws.length = 3) : ∃ v0 v1 v2 d0 d1 d2, ws = [v0, v1, v2] ∧ xs = [d0, d1, d2] ∧ Dp K H v0 d0 ∧ Dp K H v1 d1 ∧ Dp K H v2 d2 := by
  match xs, ws, c, h with
  | _, [v0, v1, v2], _, .cons h0 (.cons h1 (.cons h2 .nil)) => exact ⟨_, _, _, _, _, _, rfl, rfl, h0, h1, h2⟩
theorem dp_cons {K : PySem.W.Frag} {H : Hp} {ws : List V} {x : PyData} {xs : List PyData} (h : DpAll K H ws (x :: xs)) : ∃ v vs, ws = v :: vs ∧ Dp K H v x ∧ DpAll K H vs xs := by
  match ws, h with
  | _, .cons h0 t => exact ⟨_, _, rfl, h0, t⟩
theorem dps_last {K : PySem.W.Frag} {H : Hp} {vs : List V} {ds : List PyData} (h : DpAll K H vs ds) : DpAll K H vs.dropLast ds.dropLast := by
  rw [List.dropLast_eq_take, List.dropLast_eq_take, dp_all_len h]
  exact dps_take _ h
theorem gds_drop {n : Nat} {xs : List PyData} (h : ∀ x ∈ xs, Gd n x) (k : Nat) : ∀ x ∈ xs.drop k, Gd n x := fun x hx => h x (List.mem_of_mem_drop hx)
theorem gds_last {n : Nat} {xs : List PyData} (h : ∀ x ∈ xs, Gd n x) : ∀ x ∈ xs.dropLast, Gd n x := fun x hx => h x (List.mem_of_mem_take (List.dropLast_eq_take ▸ hx))
theorem slA_any {K : PySem.W.Frag} {H : Hp} {a : Addr} {xs : List V} {lo hi : Option Int} {Q : VK} (hT : SqT K H a xs) (k : ∀ p H', Same H H' → SqT K H' p (cutV xs lo hi) → Q (.ref p) H') : rSlA K (.ref a) lo hi H Q := by
  refine ⟨a, xs, rfl, hT, fun h => k a H (Same.refl H) ?_, fun _ p np => k p _ (same_new np) (.inl (.inl upd_same))⟩
  unfold cutV
  rw [h.1, h.2, List.drop_zero, Nat.sub_zero, List.take_length]
  exact hT
theorem cut_mid {v : V} {vs : List V} : cutV (v :: vs) (some 1) (some (-1)) = vs.dropLast := by
  unfold cutV
  have e1 : HT.sIx (v :: vs).length 0 (some 1) = 1 := by
    rw [show (some (1 : Int)) = some ((1 : Nat) : Int) from rfl, HT.sIx_nat, List.length_cons]
    omega
  have e2 : HT.sIx (v :: vs).length (v :: vs).length (some (-1)) = vs.length := by
    show (if (-1 : Int) < 0 then ((-1 : Int) + ((v :: vs).length : Int)).toNat else min (-1 : Int).toNat (v :: vs).length) = _
    rw [if_pos (by decide), List.length_cons]
    omega
  rw [e1, e2, List.dropLast_eq_take]
  rfl
theorem cut_two {v : V} {vs : List V} : cutV (v :: vs) (some 2) none = vs.drop 1 := by
  unfold cutV
  rw [show (some (2 : Int)) = some ((2 : Nat) : Int) from rfl, HT.sIx_nat, HT.sIx_none]
  cases vs with
  | nil => rfl
  | cons x r =>
    rw [List.length_cons, List.length_cons, show min 2 (r.length + 1 + 1) = 2 by omega, show r.length + 1 + 1 - 2 = r.length by omega]
    show r.take r.length = _
    rw [List.take_length]
    rfl
theorem gen_parts {g : PyData} (h : genOk g = true) : ∃ (k r : PyData) (n m : Int), g = .tuple [k, .int n, .int m, r] ∧ 1 ≤ n ∧ n ≤ 10 ∧ 1 ≤ m ∧ m ≤ 40 := by
  unfold genOk at h
  split at h
  · rename_i k n m r
    simp only [Bool.and_eq_true] at h
    obtain ⟨n', rfl, a1, a2⟩ := whole_int h.1.1.2
    obtain ⟨m', rfl, b1, b2⟩ := whole_int h.1.2
    exact ⟨k, r, n', m', rfl, a1, a2, b1, b2⟩
  · cases h
theorem fitLonger_no {ds : List PyData} (h : ds.length ≠ 2) : fitLonger ds = false := by
  unfold fitLonger
  split
  · exact absurd rfl h
  · rfl
theorem fitTree_no {ds : List PyData} (h : ds.length ≠ 3) : fitTree ds = false := by
  unfold fitTree
  split
  · exact absurd rfl h
  · rfl
theorem fitOnetime_no {ds : List PyData} (h : ds.length ≠ 2) : fitOnetime ds = false := by
  unfold fitOnetime
  split
  · exact absurd rfl h
  · rfl
theorem fitOpening_no {ds : List PyData} (h : ds.length ≠ 1) : fitOpening ds = false := by
  unfold fitOpening
  split
  · exact absurd rfl h
  · rfl
theorem at_last {v : V} : ∀ {vs : List V}, vs ≠ [] → vs.getLastD v = v' → atI vs (-1) = some v'
  | vs, h, e => by
    have e2 := List.dropLast_concat_getLast h
    rw [← e2, atI_last]
    rw [← e, List.getLastD_eq_getLast?, List.getLast?_eq_some_getLast h]
    rfl

section
variable {P : Program} {w : World} {K : PySem.W.Frag} {mg : Str → Option Value} {base : Heap} {cs : Cs}
theorem dig_len {n k : Nat} (h : k < 2 ^ (n + 1)) : (dig k).length ≤ n + 1 := by
  obtain ⟨p, e⟩ := dig_toB n k h
  have := congrArg List.length e
  rw [List.length_map, toB_len, List.length_append, List.length_replicate] at this
  omega
theorem ok_bits {f : Addr} {fd : FuncData} (D : Df K mg "bits" s_bits ["length", "number"] f fd) (T : Txt K w mg cs) : FnOk P w K mg base CX0 1 f fd ["length", "number"] spBits := by
  refine D.fn.ok sc_bits (fun vs H Q E h => ?_) (fun cdv A outer s H vs Q E hr h => ?_)
  · obtain ⟨n, k, rfl, _⟩ := h
    rfl
  · obtain ⟨n, k, rfl, hn, hk, q⟩ := h
    refine ⟨_, (pss_cons (ps_if (pt_cmpR op_eq (pv 0) pe_int (nomark _)) (pss_one (ps_ret pe_str)) pss_nil) (pss_one (ps_ret (pe_m1 PySem.F.slot_str_zfill PySem.F.type_str_zfill mt_zfill (pe_fmtB (pv 1)) (pv 0))))), ?_⟩
    refine ⟨_, rfl, rfl, _, rfl, ite2 (fun c => ?_) (fun c => ?_)⟩
    · have e : (n : Int) = 0 := V.int.inj (of_decide_eq_true c)
      have e : n = 0 := by omega
      subst e
      exact q
    · obtain ⟨m, rfl⟩ : ∃ m, n = m + 1 := by
        cases n with
        | zero => exact absurd (decide_eq_true rfl) c
        | succ m => exact ⟨m, rfl⟩
      refine ⟨_, rfl, k, rfl, ?_, ⟨_, rfl⟩, _, rfl, _, _, rfl, rfl, padOk_of (by omega) (by omega), ?_⟩
      · have := dig_len hk
        omega
      · rw [zfill_dig m k hk]
        exact q

theorem num_val (bs : List Bool) : Two.num (bs.map cB) = val bs := by
  unfold Two.num val
  rw [List.foldl_map]
  congr 1
  funext a b
  cases b
  · show a * 2 + 0 = 2 * a + 0
    omega
  · show a * 2 + 1 = 2 * a + 1
    omega
theorem ok_number {f : Addr} {fd : FuncData} (D : Df K mg "number_of" s_number_of ["string"] f fd) (T : Txt K w mg cs) : FnOk P w K mg base CX0 1 f fd ["string"] spNumber := by
  refine D.fn.ok sc_number_of (fun vs H Q E h => ?_) (fun cdv A outer s H vs Q E hr h => ?_)
  · obtain ⟨bs, rfl, _⟩ := h
    rfl
  · obtain ⟨bs, rfl, hl, q⟩ := h
    refine ⟨_, (pss_cons (ps_if (pt_cmpR op_eq (pv 0) pe_str (nomark _)) (pss_one (ps_ret pe_int)) pss_nil) (pss_one (ps_ret (pe_callTy call_int_bin (by rfl) T.n_int (by decide +kernel) (pa_cons (pv 0) (pa_cons pe_int pa_nil)))))), ?_⟩
    refine ⟨_, rfl, rfl, _, rfl, ite2 (fun c => ?_) (fun c => ?_)⟩
    · have e : sb bs = sb [] := V.str.inj (of_decide_eq_true c)
      have e := sb_inj e
      subst e
      exact q
    · refine ⟨_, rfl, bs.map cB, rfl, ⟨?_, ?_, ?_⟩, ?_⟩
      · intro z
        have e : bs = [] := List.map_eq_nil_iff.mp z
        subst e
        exact c (decide_eq_true rfl)
      · rw [List.length_map]
        exact hl
      · intro x hx
        obtain ⟨b, _, rfl⟩ := List.mem_map.mp hx
        cases b
        · exact .inl rfl
        · exact .inr rfl
      · rw [num_val]
        exact q

theorem ok_whole {f : Addr} {fd : FuncData} (D : Df K mg "is_whole" s_is_whole ["value", "low", "high"] f fd) (T : Txt K w mg cs) : FnOk P w K mg base CX0 1 f fd ["value", "low", "high"] (spWhole K) := by
  refine D.fn.ok sc_is_whole (fun vs H Q E h => ?_) (fun cdv A outer s H vs Q E hr h => ?_)
  · obtain ⟨v, d, lo, hi, rfl, _⟩ := h
    rfl
  · obtain ⟨v, d, lo, hi, rfl, hd, q⟩ := h
    refine ⟨_, (pss_one (ps_ret (pe_and (pe_callB (isiK K) (by rfl) T.n_isinstance (by decide +kernel) (pa_cons (pv 0) (pa_cons (pe_ty "int" (by rfl) T.n_int (by decide +kernel)) pa_nil))) (pe_and (pe_not (pe_callB (isiK K) (by rfl) T.n_isinstance (by decide +kernel) (pa_cons (pv 0) (pa_cons (pe_ty "bool" (by rfl) T.n_bool (by decide +kernel)) pa_nil)))) (pe_one (pe_chain op_le op_le (pv 1) (pv 0) (pv 2))))))), ?_⟩
    refine ⟨_, rfl, _, _, _, _, _, rfl, .ty "int", dp_ty hd, kit_int d, _, rfl, ?_⟩
    cases d with
    | int i =>
      cases hd
      refine ⟨_, rfl, _, _, _, _, false, rfl, .ty "bool", .base (.int i), kit_ty (by decide +kernel), _, rfl, _, rfl, ?_⟩
      refine ⟨_, rfl, _, rfl, _, _, rfl, rfl, _, rfl, ?_⟩
      by_cases c : lo ≤ i
      · rw [decide_eq_true c]
        refine ⟨_, rfl, _, _, rfl, rfl, ?_⟩
        have e : whole (.int i) lo hi = decide (i ≤ hi) := by
          show (decide (lo ≤ i) && decide (i ≤ hi)) = _
          rw [decide_eq_true c, Bool.true_and]
        rw [e] at q
        exact q
      · rw [decide_eq_false c]
        have e : whole (.int i) lo hi = false := by
          show (decide (lo ≤ i) && decide (i ≤ hi)) = _
          rw [decide_eq_false c, Bool.false_and]
        rw [e] at q
        exact q
    | bool b =>
      cases hd
      exact ⟨_, rfl, _, _, _, _, true, rfl, .ty "bool", .base (.bl b), kit_ty (by decide +kernel), _, rfl, _, rfl, q⟩
    | none => exact q
    | str x => exact q
    | list xs => exact q
    | tuple xs => exact q
    | dict xs => exact q
theorem all_rows {m : Int} {xs : List PyData} (h : xs.all (strLen m) = true) : ∃ ys : List Str, xs = ys.map PyData.str ∧ ∀ y ∈ ys, (y.length : Int) = m := by
  induction xs with
  | nil => exact ⟨[], rfl, fun y hy => (nomatch hy)⟩
  | cons x xs ih =>
    rw [List.all_cons, Bool.and_eq_true] at h
    obtain ⟨ys, e, hy⟩ := ih h.2
    cases x with
    | str z =>
      refine ⟨z :: ys, by rw [e]; rfl, fun y hy' => ?_⟩
      rcases List.mem_cons.mp hy' with r | r
      · subst r
        exact of_decide_eq_true h.1
      · exact hy y r
    | _ => cases h.1
theorem dp_strs {K : PySem.W.Frag} {H : Hp} : ∀ {vs : List V} {ys : List Str}, DpAll K H vs (ys.map PyData.str) → vs = ys.map V.str
  | _, [], .nil => rfl
  | _, y :: ys, .cons (.str _) t => by rw [List.map_cons, dp_strs t]
theorem sum_len {m : Nat} : ∀ {ys : List Str}, (∀ y ∈ ys, (y.length : Int) = (m : Int)) → (ys.map (·.length)).sum = ys.length * m
  | [], _ => by simp
  | y :: ys, h => by
    have h1 := h y List.mem_cons_self
    rw [List.map_cons, List.sum_cons, sum_len fun z hz => h z (List.mem_cons_of_mem _ hz), List.length_cons, Nat.succ_mul]
    omega
theorem all_bits {m : Int} {ys : List Str} (h : ∀ y ∈ ys, (y.length : Int) = m) : (ys.map PyData.str).all (bitRow m) = (Txt.join "" ys).cps.toList.all (fun c => c == 48 || c == 49) := by
  rw [join_all]
  induction ys with
  | nil => rfl
  | cons y ys ih =>
    rw [List.map_cons, List.all_cons, ih fun z hz => h z (List.mem_cons_of_mem _ hz), List.map_cons, List.flatten_cons, List.all_append]
    congr 1
    show (decide ((y.length : Int) = m) && _) = _
    rw [decide_eq_true (h y List.mem_cons_self), Bool.true_and]
theorem not_all {m : Int} {xs : List PyData} (h : xs.all (strLen m) = false) : xs.all (bitRow m) = false := by
  rw [Bool.eq_false_iff] at h ⊢
  intro z
  refine h ?_
  rw [List.all_eq_true] at z ⊢
  intro x hx
  have := z x hx
  cases x with
  | str y =>
    have h2 : (decide ((y.length : Int) = m) && y.cps.toList.all (fun c => c == 48 || c == 49)) = true := this
    exact (Bool.and_eq_true_iff.mp h2).1
  | _ => cases this
theorem ok_rows {f : Addr} {fd : FuncData} (D : Df K mg "are_rows" s_are_rows ["value", "many", "m"] f fd) (T : Txt K w mg cs) : FnOk P w K mg base CX0 1 f fd ["value", "many", "m"] (spRows K) := by
  refine D.fn.ok sc_are_rows (fun vs H Q E h => ?_) (fun cdv A outer s H vs Q E hr h => ?_)
  · obtain ⟨v, d, n, many, m, rfl, _⟩ := h
    rfl
  · obtain ⟨v, d, n, many, m, rfl, hd, hg, hmany, hm, q⟩ := h
    refine ⟨_, (pss_cons (ps_if (PW.pt (pw_or (pt_not (pt_val (pe_callB (isiK K) (by rfl) T.n_isinstance (by decide +kernel) (pa_cons (pv 0) (pa_cons (pe_ty "tuple" (by rfl) T.n_tuple (by decide +kernel)) pa_nil))))) (pw_or1 (pt_cmpR op_ne (pe_callB (lenS K) (by rfl) T.n_len (by decide +kernel) (pa_cons (pv 0) pa_nil)) (pv 1) (nomark _))))) (pss_one (ps_ret pe_bl)) pss_nil) (pss_cons (ps_if (pt_not (pt_val (pe_callB (crAll K rfl) (by rfl) T.n_all (by decide +kernel) (pa_cons (pe_lc (own := [("row", 3)]) (g := gName 3) (tt := tYes) rfl sc_are_rows.nd (pi_tup (pv 0)) (blkOk_by (own := [("row", 3)]) (N := ["value", "many", "m", "row"]) (sc := defScope s_are_rows) (by decide +kernel)) (fun _ _ _ _ _ => (pg_name (i := 3) sc_are_rows.nd rfl (.inl rfl))) (fun _ _ _ _ _ => pts_nil) (fun _ _ _ _ _ => (pe_and (pe_callB (isiK K) (by rfl) T.n_isinstance (by decide +kernel) (pa_cons (pv 3) (pa_cons (pe_ty "str" (by rfl) T.n_str (by decide +kernel)) pa_nil))) (pe_one (pe_cmpR op_eq (pe_callB call_len_str (by rfl) T.n_len (by decide +kernel) (pa_cons (pv 3) pa_nil)) (pv 2) (nomark _)))))) pa_nil)))) (pss_one (ps_ret pe_bl)) pss_nil) (pss_one (ps_ret (pe_cmpR op_eq (pe_m1 PySem.F.slot_str_strip PySem.F.type_str_strip mt_stripChars (pe_m1 PySem.F.slot_str_join PySem.F.type_str_join (mtJoin K) pe_str (pv 0)) pe_str) pe_str (nomark _)))))), ?_⟩
    refine ⟨_, rfl, _, _, _, _, _, rfl, .ty "tuple", dp_ty hd, kit_tup d, _, rfl, ?_⟩
    cases d with
    | tuple xs =>
      cases hd with
      | @tup a ws _ hT hA =>
        obtain ⟨hl, n', rfl, hx⟩ := gd_tup hg
        have hwl := dp_all_len hA
        refine ⟨_, rfl, a, ws, rfl, .inr hT, _, rfl, rfl, _, rfl, ?_⟩
        by_cases c : (ws.length : Int) = many
        · rw [decide_eq_true (show V.int (ws.length : Int) = V.int many by rw [c])]
          -- all([isinstance(row, str) and len(row) == m for row in value])
          refine ⟨_, rfl, a, rfl, ⟨_, hT⟩, fun Dl hD => ?_⟩
          refine lc_tup (xs := ws) (fun i H' => Same H H' ∧ H' Dl = some (.lst ((xs.take i).map fun x => V.bl (strLen m x)))) ?_ ?_ ?_ ?_
          · exact ⟨same_new hD, upd_same⟩
          · rintro i H' _ ⟨s1, _⟩
            exact same_sqt s1 hT
          · rintro i x H' hxi ⟨s1, e1⟩
            obtain ⟨d, hdi, hdx⟩ := dp_all_get hA hxi
            have hdx' := dp_same s1 d hdx
            have hgd := hx d (List.mem_of_getElem? hdi)
            have hi : i < xs.length := (List.getElem?_eq_some_iff.mp hdi).1
            have fin : ∀ b : Bool, strLen m d = b → ∃ acc, H' Dl = some (.lst acc) ∧ acc.length < sizeLine ∧ (Same H (upd H' Dl (.lst (acc ++ [.bl b]))) ∧ upd H' Dl (.lst (acc ++ [.bl b])) Dl = some (.lst ((xs.take (i + 1)).map fun x => V.bl (strLen m x)))) := by
              intro b hb
              refine ⟨_, e1, ?_, fun p o e => ?_, ?_⟩
              · rw [List.length_map, List.length_take]
                exact Nat.lt_of_lt_of_le (show min i xs.length < 10000 by omega) (by decide)
              · rw [upd_ne (ne_of_none e hD)]
                exact s1 p o e
              · rw [upd_same, List.take_add_one, hdi, List.map_append]
                show _ = some (HO.lst (_ ++ [V.bl (strLen m d)]))
                rw [hb]
            refine ⟨rfl, ?_⟩
            refine ⟨_, rfl, _, _, _, _, _, rfl, .ty "str", dp_ty hdx', kit_str d, _, rfl, ?_⟩
            cases d with
            | str z =>
              cases hdx'
              have hz := (gd_str hgd).2
              refine ⟨_, rfl, z, rfl, ?_, _, rfl, rfl, ?_⟩
              · rw [sizeLine_eq]
                omega
              · refine fin _ ?_
                show decide ((z.length : Int) = m) = decide (V.int (z.length : Int) = V.int m)
                by_cases c : (z.length : Int) = m
                · rw [decide_eq_true c, decide_eq_true (congrArg V.int c)]
                · rw [decide_eq_false c, decide_eq_false fun z => c (V.int.inj z)]
            | none => exact fin false rfl
            | bool b => exact fin false rfl
            | int b => exact fin false rfl
            | list b => exact fin false rfl
            | tuple b => exact fin false rfl
            | dict b => exact fin false rfl
          · rintro H' ⟨s1, e1⟩
            have et : (xs.take ws.length).map (fun x => V.bl (strLen m x)) = ((xs.map (strLen m)).map V.bl) := by
              rw [List.take_of_length_le (by omega), List.map_map]
              rfl
            rw [et] at e1
            refine ⟨Dl, _, rfl, .inl (.inl e1), _, rfl, ?_⟩
            have ea : (xs.map (strLen m)).all id = xs.all (strLen m) := by
              rw [List.all_map]
              rfl
            rw [ea]
            cases hc : xs.all (strLen m) with
            | false =>
              have e : rowsOk (.tuple xs) many m = false := by
                show (decide _ && xs.all (bitRow m)) = false
                rw [not_all hc, Bool.and_false]
              have q' := q H' s1
              rw [e] at q'
              exact q'
            | true =>
              obtain ⟨ys, rfl, hy⟩ := all_rows hc
              have ew := dp_strs hA
              subst ew
              have hm0 : ∃ k : Nat, ys = [] ∨ m = (k : Int) := by
                cases ys with
                | nil => exact ⟨0, .inl rfl⟩
                | cons y ys => exact ⟨y.length, .inr (hy y List.mem_cons_self).symm⟩
              have hsum : (ys.map (·.length)).sum ≤ 4096 * 40 := by
                obtain ⟨k, rfl | rfl⟩ := hm0
                · simp
                · rw [sum_len hy]
                  have h1 : ys.length ≤ 4096 := by
                    rw [List.length_map] at c
                    omega
                  have h2 : k ≤ 40 := by omega
                  exact Nat.mul_le_mul h1 h2
              refine ⟨⟨_, rfl⟩, _, rfl, "", a, ys, rfl, rfl, .inr (same_sqt s1 hT), ?_, ⟨_, rfl⟩, _, _, rfl, rfl, ?_, rfl, ?_⟩
              · show _ + _ * 0 ≤ _
                omega
              · have hj : (Txt.join "" ys).length = (ys.map (·.length)).sum := by
                  show (Txt.join "" ys).cps.size = _
                  rw [← Array.length_toList, join_all, List.length_flatten, List.map_map]
                  congr 1
                rw [hj, sizeLine_eq]
                omega
              · rw [strip_all, ← all_bits hy]
                have e : rowsOk (.tuple (ys.map PyData.str)) many m = (ys.map PyData.str).all (bitRow m) := by
                  show (decide (((ys.map PyData.str).length : Int) = many) && _) = _
                  rw [decide_eq_true (by rw [List.length_map] at c ⊢; exact c), Bool.true_and]
                have q' := q H' s1
                rw [e] at q'
                exact q'
        · rw [decide_eq_false (show ¬ V.int (ws.length : Int) = V.int many from fun z => c (V.int.inj z))]
          have e : rowsOk (.tuple xs) many m = false := by
            show (decide ((xs.length : Int) = many) && _) = false
            rw [decide_eq_false (by rw [← hwl]; exact c), Bool.false_and]
          have q' := q H (Same.refl H)
          rw [e] at q'
          exact q'
    | bool b => exact q H (Same.refl H)
    | none => exact q H (Same.refl H)
    | int x => exact q H (Same.refl H)
    | str x => exact q H (Same.refl H)
    | list xs => exact q H (Same.refl H)
    | dict xs => exact q H (Same.refl H)

theorem ok_gen {f : Addr} {fd : FuncData} (D : Df K mg "is_generator" s_is_generator ["value"] f fd) (T : Txt K w mg cs) (c_is_whole : Cl P w K mg base CX0 1 "is_whole" (spWhole K)) (c_are_rows : Cl P w K mg base CX0 1 "are_rows" (spRows K)) : FnOk P w K mg base CX0 2 f fd ["value"] (spD K genOk) := by
  refine D.fn.ok sc_is_generator (fun vs H Q E h => ?_) (fun cdv A outer s H vs Q E hr h => ?_)
  · obtain ⟨v, d, n, rfl, _⟩ := h
    rfl
  · obtain ⟨v, d, n, rfl, hd, hg, q⟩ := h
    refine ⟨_, (pss_cons (ps_if (PW.pt (pw_or (pt_not (pt_val (pe_callB (isiK K) (by rfl) T.n_isinstance (by decide +kernel) (pa_cons (pv 0) (pa_cons (pe_ty "tuple" (by rfl) T.n_tuple (by decide +kernel)) pa_nil))))) (pw_or1 (pt_cmpR op_ne (pe_callB (lenS K) (by rfl) T.n_len (by decide +kernel) (pa_cons (pv 0) pa_nil)) pe_int (nomark _))))) (pss_one (ps_ret pe_bl)) pss_nil) (pss_cons (ps_asg (pv 0) (pg_tup (by rfl) (pgs_cons (pg_name (i := 1) sc_is_generator.nd rfl (.inl rfl)) (pgs_cons (pg_name (i := 2) sc_is_generator.nd rfl (.inl rfl)) (pgs_cons (pg_name (i := 3) sc_is_generator.nd rfl (.inl rfl)) (pgs_cons (pg_name (i := 4) sc_is_generator.nd rfl (.inl rfl)) pgs_nil)))))) (pss_cons (ps_if (PW.pt (pw_or (pt_cmpR (op_neF K hr.units) (pv 1) pe_str (nomark _)) (pw_or (pt_not (pt_val (pe_cl c_is_whole hr (by first | decide | omega) (by rfl) (pa_cons (pv 2) (pa_cons pe_int (pa_cons pe_int pa_nil)))))) (pw_or1 (pt_not (pt_val (pe_cl c_is_whole hr (by first | decide | omega) (by rfl) (pa_cons (pv 3) (pa_cons pe_int (pa_cons (C8.pe_gc (by rfl) T.g_MOST_BITS) pa_nil)))))))))) (pss_one (ps_ret pe_bl)) pss_nil) (pss_one (ps_ret (pe_cl c_are_rows hr (by first | decide | omega) (by rfl) (pa_cons (pv 4) (pa_cons (pe_op op_shl pe_int (pv 2)) (pa_cons (pv 3) pa_nil))))))))), ?_⟩
    refine ⟨_, rfl, _, _, _, _, _, rfl, .ty "tuple", dp_ty hd, kit_tup d, _, rfl, ?_⟩
    cases d with
    | tuple xs =>
      cases hd with
      | @tup a ws _ hT hA =>
        obtain ⟨hl, n', rfl, hx⟩ := gd_tup hg
        have hwl := dp_all_len hA
        refine ⟨_, rfl, a, ws, rfl, .inr hT, rfl, _, rfl, ?_⟩
        by_cases c : ws.length = 4
        · obtain ⟨v0, v1, v2, v3, k, n, m, r, rfl, rfl, h0, h1, h2, h3⟩ := dp4 hA c
          rw [decide_eq_true (show V.int (([v0, v1, v2, v3].length : Nat) : Int) = V.int 4 from rfl)]
          refine ⟨_, rfl, a, _, rfl, hT, rfl, _, _, rfl, _, _, rfl, _, _, rfl, _, _, rfl, rfl, ?_⟩
          have g0 := hx k List.mem_cons_self
          have g3 := hx r (List.mem_cons_of_mem _ (List.mem_cons_of_mem _ (List.mem_cons_of_mem _ List.mem_cons_self)))
          rw [gen_eq] at q
          -- kind != 'generator'
          refine ⟨_, rfl, k, .str "generator", h0, .str _, gd_lay g0, str_lay _, str_dep _, _, rfl, ?_⟩
          rw [name_ne]
          cases ck : named "generator" k with
          | false =>
            rw [ck] at q
            exact q H (Same.refl H)
          | true =>
            rw [ck] at q
            refine ⟨_, rfl, v1, n, 1, 10, rfl, h1, _, rfl, ?_⟩
            cases cn : whole n 1 10 with
            | false =>
              rw [cn] at q
              exact q H (Same.refl H)
            | true =>
              rw [cn] at q
              refine ⟨_, rfl, v2, m, 1, 40, rfl, h2, _, rfl, ?_⟩
              cases cm : whole m 1 40 with
              | false =>
                rw [cm] at q
                exact q H (Same.refl H)
              | true =>
                rw [cm] at q
                obtain ⟨n, rfl, n1, n2⟩ := whole_int cn
                obtain ⟨m, rfl, m1, m2⟩ := whole_int cm
                cases h1
                cases h2
                refine ⟨_, rfl, _, rfl, _, _, rfl, rfl, ⟨by omega, by omega, by decide⟩, _, rfl, v3, r, _, _, _, rfl, h3, g3, ?_, m2, fun H' s' => q H' s'⟩
                exact Int.le_trans (pow_le (b := 10) n1 n2) (by decide)
        · have hne : ((ws.length : Nat) : Int) ≠ 4 := by omega
          rw [decide_eq_false (show ¬ V.int (ws.length : Int) = V.int 4 from fun z => hne (V.int.inj z))]
          have e := gen_no (xs := xs) (by omega)
          have q' := q H (Same.refl H)
          rw [e] at q'
          exact q'
    | bool b => exact q H (Same.refl H)
    | none => exact q H (Same.refl H)
    | int x => exact q H (Same.refl H)
    | str x => exact q H (Same.refl H)
    | list xs => exact q H (Same.refl H)
    | dict xs => exact q H (Same.refl H)

theorem ok_fun {f : Addr} {fd : FuncData} (D : Df K mg "is_function" s_is_function ["value"] f fd) (T : Txt K w mg cs) (c_is_whole : Cl P w K mg base CX0 1 "is_whole" (spWhole K)) (c_are_rows : Cl P w K mg base CX0 1 "are_rows" (spRows K)) : FnOk P w K mg base CX0 2 f fd ["value"] (spFun K) := by
  refine D.fn.ok sc_is_function (fun vs H Q E h => ?_) (fun cdv A outer s H vs Q E hr h => ?_)
  · obtain ⟨v, d, n, rfl, _⟩ := h
    rfl
  · obtain ⟨v, d, n, rfl, hd, hg, hn64, q⟩ := h
    refine ⟨_, (pss_cons (ps_if (PW.pt (pw_or (pt_not (pt_val (pe_callB (isiK K) (by rfl) T.n_isinstance (by decide +kernel) (pa_cons (pv 0) (pa_cons (pe_ty "tuple" (by rfl) T.n_tuple (by decide +kernel)) pa_nil))))) (pw_or1 (pt_cmpR op_ne (pe_callB (lenS K) (by rfl) T.n_len (by decide +kernel) (pa_cons (pv 0) pa_nil)) pe_int (nomark _))))) (pss_one (ps_ret pe_bl)) pss_nil) (pss_cons (ps_asg (pv 0) (pg_tup (by rfl) (pgs_cons (pg_name (i := 1) sc_is_function.nd rfl (.inl rfl)) (pgs_cons (pg_name (i := 2) sc_is_function.nd rfl (.inl rfl)) (pgs_cons (pg_name (i := 3) sc_is_function.nd rfl (.inr rfl)) (pgs_cons (pg_name (i := 4) sc_is_function.nd rfl (.inr rfl)) (pgs_cons (pg_name (i := 5) sc_is_function.nd rfl (.inl rfl)) pgs_nil))))))) (pss_cons (ps_if (PW.pt (pw_or (pt_cmpR (op_neD hr.units) (pv 1) pe_str (nomark _)) (pw_or (pt_not (pt_val (pe_cl c_is_whole hr (by first | decide | omega) (by rfl) (pa_cons (pv 2) (pa_cons pe_int (pa_cons pe_int pa_nil)))))) (pw_or (pt_not (pt_val (pe_cl c_is_whole hr (by first | decide | omega) (by rfl) (pa_cons (pv 3) (pa_cons pe_int (pa_cons pe_int pa_nil)))))) (pw_or1 (pt_cmpR op_gt (pe_op op_add (pv 2) (pv 3)) pe_int (nomark _))))))) (pss_one (ps_ret pe_bl)) pss_nil) (pss_cons (ps_if (PW.pt (pw_or (pt_not (pt_val (pe_cl c_is_whole hr (by first | decide | omega) (by rfl) (pa_cons (pv 4) (pa_cons pe_int (pa_cons (C8.pe_gc (by rfl) T.g_MOST_BITS) pa_nil)))))) (pw_or (pt_not (pt_val (pe_callB (isiK K) (by rfl) T.n_isinstance (by decide +kernel) (pa_cons (pv 5) (pa_cons (pe_ty "tuple" (by rfl) T.n_tuple (by decide +kernel)) pa_nil))))) (pw_or1 (pt_cmpR op_ne (pe_callB (lenS K) (by rfl) T.n_len (by decide +kernel) (pa_cons (pv 5) pa_nil)) (pe_op op_shl pe_int (pv 2)) (nomark _)))))) (pss_one (ps_ret pe_bl)) pss_nil) (pss_one (ps_ret (pe_callB (crAll K rfl) (by rfl) T.n_all (by decide +kernel) (pa_cons (pe_lc (own := [("rows", 6)]) (g := gName 6) (tt := tYes) rfl sc_is_function.nd (pi_tup (pv 5)) (blkOk_by (own := [("rows", 6)]) (N := ["value", "kind", "n", "l", "m", "tables", "rows"]) (sc := defScope s_is_function) (by decide +kernel)) (fun _ _ _ _ _ => (pg_name (i := 6) sc_is_function.nd rfl (.inl rfl))) (fun _ _ _ _ _ => pts_nil) (fun _ _ _ _ _ => (pe_cl c_are_rows hr (by first | decide | omega) (by rfl) (pa_cons (pv 6) (pa_cons (pe_op op_shl pe_int (pv 3)) (pa_cons (pv 4) pa_nil)))))) pa_nil)))))))), ?_⟩
    refine ⟨_, rfl, _, _, _, _, _, rfl, .ty "tuple", dp_ty hd, kit_tup d, _, rfl, ?_⟩
    cases d with
    | tuple xs =>
      cases hd with
      | @tup a ws _ hT hA =>
        obtain ⟨hl, n', rfl, hx⟩ := gd_tup hg
        have hwl := dp_all_len hA
        refine ⟨_, rfl, a, ws, rfl, .inr hT, rfl, _, rfl, ?_⟩
        by_cases c : ws.length = 5
        · obtain ⟨v0, v1, v2, v3, v4, k, n, l, m, t, rfl, rfl, h0, h1, h2, h3, h4⟩ := dp5 hA c
          rw [decide_eq_true (show V.int (([v0, v1, v2, v3, v4].length : Nat) : Int) = V.int 5 from rfl)]
          refine ⟨_, rfl, a, _, rfl, hT, rfl, _, _, rfl, _, _, rfl, _, _, rfl, _, _, rfl, _, _, rfl, rfl, ?_⟩
          have g0 := hx k List.mem_cons_self
          have g4 := hx t (List.mem_cons_of_mem _ (List.mem_cons_of_mem _ (List.mem_cons_of_mem _ (List.mem_cons_of_mem _ List.mem_cons_self))))
          clear hx hA hT hwl hl c
          rw [fun_eq] at q
          -- kind != 'function'
          refine ⟨_, rfl, k, .str "function", h0, .str _, gd_shaped g0 (by omega), by decide +kernel, _, rfl, ?_⟩
          rw [name_ne]
          cases ck : named "function" k with
          | false =>
            rw [ck] at q
            exact q H (Same.refl H)
          | true =>
            rw [ck] at q
            refine ⟨_, rfl, v1, n, 1, 8, rfl, h1, _, rfl, ?_⟩
            cases cn : whole n 1 8 with
            | false =>
              rw [cn] at q
              exact q H (Same.refl H)
            | true =>
              rw [cn] at q
              refine ⟨_, rfl, v2, l, 1, 8, rfl, h2, _, rfl, ?_⟩
              cases cl : whole l 1 8 with
              | false =>
                rw [cl] at q
                exact q H (Same.refl H)
              | true =>
                rw [cl] at q
                obtain ⟨n, rfl, n1, n2⟩ := whole_int cn
                obtain ⟨l, rfl, l1, l2⟩ := whole_int cl
                cases h1
                cases h2
                refine ⟨_, rfl, _, rfl, _, _, rfl, rfl, _, _, rfl, rfl, _, rfl, ?_⟩
                by_cases cs : n + l ≤ 12
                · rw [decide_eq_false (show ¬ (12 : Int) < n + l by omega)]
                  have e : sumLe (.int n) (.int l) = true := decide_eq_true cs
                  rw [e] at q
                  refine ⟨_, rfl, v3, m, 1, 40, rfl, h3, _, rfl, ?_⟩
                  cases cm : whole m 1 40 with
                  | false =>
                    rw [cm] at q
                    exact q H (Same.refl H)
                  | true =>
                    rw [cm] at q
                    obtain ⟨m, rfl, m1, m2⟩ := whole_int cm
                    cases h3
                    -- isinstance(tables, tuple), len(tables)
                    refine ⟨_, rfl, _, _, _, _, _, rfl, .ty "tuple", dp_ty h4, kit_tup t, _, rfl, ?_⟩
                    cases t with
                    | tuple ts =>
                      cases h4 with
                      | @tup b us _ hT hA =>
                        obtain ⟨hl, n'', rfl, hx⟩ := gd_tup g4
                        have hwl := dp_all_len hA
                        have q2 : ∀ H' : Hp, Same H H' → Q (.bl (decide ((ts.length : Int) = 1 * 2 ^ n.toNat) && ts.all (fun r => rowsOk r (1 * 2 ^ l.toNat) m))) H' := fun H' s' => q H' s'
                        clear q
                        refine ⟨_, rfl, b, us, rfl, .inr hT, _, rfl, _, _, rfl, rfl, ⟨by omega, by omega, by decide⟩, rfl, _, rfl, ?_⟩
                        by_cases c : ((us.length : Nat) : Int) = 1 * 2 ^ n.toNat
                        · rw [decide_eq_true (show V.int ((us.length : Nat) : Int) = V.int (1 * 2 ^ n.toNat) from congrArg V.int c)]
                          refine ⟨_, rfl, b, rfl, ⟨_, hT⟩, fun Dl hD => ?_⟩
                          refine lc_tup (xs := us) (fun i H' => Same H H' ∧ H' Dl = some (.lst ((ts.take i).map fun r => V.bl (rowsOk r (1 * 2 ^ l.toNat) m)))) ?_ ?_ ?_ ?_
                          · exact ⟨same_new hD, upd_same⟩
                          · rintro i H' _ ⟨s1, _⟩
                            exact same_sqt s1 hT
                          · rintro i x H' hxi ⟨s1, e1⟩
                            obtain ⟨d, hdi, hdx⟩ := dp_all_get hA hxi
                            have hi : i < ts.length := (List.getElem?_eq_some_iff.mp hdi).1
                            refine ⟨rfl, ?_⟩
                            refine ⟨_, rfl, _, rfl, _, _, rfl, rfl, ⟨by omega, by omega, by decide⟩, _, rfl, x, d, _, _, _, rfl, dp_same s1 d hdx, hx d (List.mem_of_getElem? hdi), ?_, m2, fun H2 s2 => ?_⟩
                            · exact Int.le_trans (pow_le (b := 8) l1 l2) (by decide)
                            · refine ⟨_, s2 _ _ e1, ?_, fun p o e => ?_, ?_⟩
                              · rw [List.length_map, List.length_take]
                                exact Nat.lt_of_lt_of_le (show min i ts.length < 10000 by omega) (by decide)
                              · rw [upd_ne (ne_of_none e hD)]
                                exact s2 _ _ (s1 p o e)
                              · rw [upd_same, List.take_add_one, hdi, List.map_append]
                                rfl
                          · rintro H' ⟨s1, e1⟩
                            have et : (ts.take us.length).map (fun r => V.bl (rowsOk r (1 * 2 ^ l.toNat) m)) = ((ts.map (fun r => rowsOk r (1 * 2 ^ l.toNat) m)).map V.bl) := by
                              rw [List.take_of_length_le (by omega), List.map_map]
                              rfl
                            rw [et] at e1
                            refine ⟨Dl, _, rfl, .inl (.inl e1), ?_⟩
                            have ea : (ts.map (fun r => rowsOk r (1 * 2 ^ l.toNat) m)).all id = ts.all (fun r => rowsOk r (1 * 2 ^ l.toNat) m) := by
                              rw [List.all_map]
                              rfl
                            rw [ea]
                            have q3 := q2 H' s1
                            rw [decide_eq_true (by rw [← hwl]; exact c), Bool.true_and] at q3
                            exact q3
                        · rw [decide_eq_false (show ¬ V.int ((us.length : Nat) : Int) = V.int (1 * 2 ^ n.toNat) from fun z => c (V.int.inj z))]
                          have q3 := q2 H (Same.refl H)
                          rw [decide_eq_false (by rw [← hwl]; exact c), Bool.false_and] at q3
                          exact q3
                    | bool b => exact q H (Same.refl H)
                    | none => exact q H (Same.refl H)
                    | int x => exact q H (Same.refl H)
                    | str x => exact q H (Same.refl H)
                    | list xs => exact q H (Same.refl H)
                    | dict xs => exact q H (Same.refl H)
                · rw [decide_eq_true (show (12 : Int) < n + l by omega)]
                  have e : sumLe (.int n) (.int l) = false := decide_eq_false cs
                  rw [e] at q
                  exact q H (Same.refl H)
        · have hne : ((ws.length : Nat) : Int) ≠ 5 := by omega
          rw [decide_eq_false (show ¬ V.int (ws.length : Int) = V.int 5 from fun z => hne (V.int.inj z))]
          have e := fun_no (xs := xs) (by omega)
          have q' := q H (Same.refl H)
          rw [e] at q'
          exact q'
    | bool b => exact q H (Same.refl H)
    | none => exact q H (Same.refl H)
    | int x => exact q H (Same.refl H)
    | str x => exact q H (Same.refl H)
    | list xs => exact q H (Same.refl H)
    | dict xs => exact q H (Same.refl H)
theorem ok_check {f : Addr} {fd : FuncData} (D : Df K mg "check_block" s_check_block ["block"] f fd) (T : Txt K w mg cs) (c_is_generator : Cl P w K mg base CX0 2 "is_generator" (spGen K)) (c_is_function : Cl P w K mg base CX0 2 "is_function" (spFun K)) : FnOk P w K mg base (L2.CX P w) 3 f fd ["block"] (spCheck K cs.BadBlock) := by
  refine D.fn.okX sc_check_block (fun vs H Q E h => ?_) (fun cdv A outer s H vs Q E hr h => ?_)
  · obtain ⟨v, d, n, rfl, _⟩ := h
    rfl
  · obtain ⟨v, d, n, rfl, hd, hg, hn, q⟩ := h
    have tk := takes_of (X := cxOf (L2.CX P w) P w K mg base ["block"] "check_block" (defScope s_check_block) f cdv A outer s H E) (E := E) rfl rfl rfl rfl
    refine ⟨_, (pss_one (ps_if (PW.pt (pw_and (pt_not (pt_val (pe_cl c_is_generator hr (by first | decide | omega) (by rfl) (pa_cons (pv 0) pa_nil)))) (pw_and1 (pt_not (pt_val (pe_cl c_is_function hr (by first | decide | omega) (by rfl) (pa_cons (pv 0) pa_nil))))))) (pss_one (ps_raiseE T.x_BadBlock rfl tk (by rfl))) pss_nil)), ?_⟩
    refine ⟨_, rfl, v, d, n, rfl, hd, hg, hn, fun H1 s1 => ⟨_, rfl, ?_⟩⟩
    unfold blockOk at q
    cases cg : genOk d with
    | true =>
      rw [cg] at q
      exact (q H1 s1).1 rfl
    | false =>
      rw [cg] at q
      refine ⟨_, rfl, v, d, n, rfl, dp_same s1 d hd, hg, hn, fun H2 s2 => ⟨_, rfl, ?_⟩⟩
      cases cf : funOk d with
      | true =>
        rw [cf] at q
        exact (q H2 (s1.trans s2)).1 rfl
      | false =>
        rw [cf] at q
        exact (q H2 (s1.trans s2)).2 rfl

theorem ok_all {f : Addr} {fd : FuncData} (D : Df K mg "all_bits" s_all_bits ["length"] f fd) (T : Txt K w mg cs) (c_bits : Cl P w K mg base CX0 1 "bits" spBits) : FnOk P w K mg base CX0 2 f fd ["length"] (spAll K) := by
  refine D.fn.ok sc_all_bits (fun vs H Q E h => ?_) (fun cdv A outer s H vs Q E hr h => ?_)
  · obtain ⟨n, rfl, _⟩ := h
    rfl
  · obtain ⟨n, rfl, hn, q⟩ := h
    refine ⟨_, (pss_one (ps_ret (pe_lc (own := [("number", 1)]) (g := gName 1) (tt := tYes) rfl sc_all_bits.nd (pi_range1 (by rfl) T.n_range (pa_cons (pe_op op_shl pe_int (pv 0)) pa_nil)) (blkOk_by (own := [("number", 1)]) (N := ["length", "number"]) (sc := defScope s_all_bits) (by decide +kernel)) (fun _ _ _ _ _ => (pg_name (i := 1) sc_all_bits.nd rfl (.inl rfl))) (fun _ _ _ _ _ => pts_nil) (fun _ _ _ _ _ => (pe_cl c_bits hr (by first | decide | omega) (by rfl) (pa_cons (pv 0) (pa_cons (pv 1) pa_nil))))))), ?_⟩
    have hp := two_pow_le (b := 12) hn
    refine ⟨_, rfl, _, _, rfl, rfl, ⟨by omega, by omega, by decide⟩, _, rfl, ?_⟩
    rw [shl_one]
    generalize hN : 2 ^ n = N at hp ⊢
    refine ⟨by omega, by omega, fun Dl hD => ?_⟩
    refine lc_range (lo := 0) (n := _) (fun i H' => Same H H' ∧ H' Dl = some (.lst (rowV ((List.range i).map fun i => toB n i)))) ?_ ?_ ?_
    · exact ⟨same_new hD, upd_same⟩
    · rintro i H' hi ⟨s1, e1⟩
      refine ⟨rfl, ?_⟩
      refine ⟨_, rfl, _, rfl, n, i, ?_, by omega, by rw [hN]; omega, _, e1, ?_, fun b o e => ?_, ?_⟩
      · show [V.int (n : Int), V.int (0 + (i : Int))] = _
        rw [Int.zero_add]
      · unfold rowV
        rw [List.length_map, List.length_map, List.length_range]
        exact Nat.lt_of_lt_of_le (show i < 10000 by omega) (by decide)
      · rw [upd_ne (ne_of_none e hD)]
        exact s1 b o e
      · rw [upd_same, List.range_succ]
        unfold rowV
        rw [List.map_append, List.map_append]
        rfl
    · rintro H' ⟨s1, e1⟩
      rw [Int.toNat_natCast, ← hN] at e1
      exact q Dl H' hD s1 e1
theorem ok_gparts {f : Addr} {fd : FuncData} (D : Df K mg "generator_parts" s_generator_parts ["block"] f fd) (T : Txt K w mg cs) (c_check_block : Cl P w K mg base (L2.CX P w) 3 "check_block" (spCheck K cs.BadBlock)) : FnOk P w K mg base (L2.CX P w) 4 f fd ["block"] (spParts K cs.BadBlock cs.BadScheme) := by
  refine D.fn.okX sc_generator_parts (fun vs H Q E h => ?_) (fun cdv A outer s H vs Q E hr h => ?_)
  · obtain ⟨v, d, n, rfl, _⟩ := h
    rfl
  · obtain ⟨v, d, n, rfl, hd, hg, hn, q⟩ := h
    have tk := takes_of (X := cxOf (L2.CX P w) P w K mg base ["block"] "generator_parts" (defScope s_generator_parts) f cdv A outer s H E) (E := E) rfl rfl rfl rfl
    refine ⟨_, (pss_cons (ps_expr (pe_clX c_check_block hr (by first | decide | omega) (by rfl) tk (pa_cons (pv 0) pa_nil))) (pss_cons (ps_if (pt_cmpR op_ne (pe_ix (ixT K) (pv 0) pe_int (fun _ _ => rfl)) pe_str (nomark _)) (pss_one (ps_raiseE T.x_BadScheme rfl tk (by rfl))) pss_nil) (pss_one (ps_ret (pe_slice (slTA K) (pv 0) (po_some pe_int) po_none))))), ?_⟩
    refine ⟨_, rfl, v, d, n, rfl, hd, hg, hn, fun H1 s1 => ⟨fun ok => ?_, fun no => ?_⟩⟩
    · rcases q with ⟨q0, _⟩ | ⟨q0, q⟩ | ⟨n', m, rows, rfl, wf, q⟩
      · rw [q0] at ok
        cases ok
      · obtain ⟨_, ds, rfl⟩ := fun_no_gen q0
        cases hd with
        | @tup a ws _ hT hA =>
          cases hA with
          | cons h0 hA =>
            cases h0
            refine ⟨_, rfl, a, _, 0, _, rfl, rfl, same_sqt s1 hT, at0, rfl, _, rfl, ?_⟩
            exact q H1 s1
      · obtain ⟨a, r, rfl, hT, hR⟩ := dp_tab hd
        have hT1 := same_sqt s1 hT
        refine ⟨_, rfl, a, _, 0, _, rfl, rfl, hT1, at0, rfl, _, rfl, ?_⟩
        refine ⟨_, rfl, _, rfl, sl_anyN hT1 fun p H2 s2 t2 => ?_⟩
        exact q p r H2 (s1.trans s2) t2 (same_sqt (s1.trans s2) hR)
    · rcases q with ⟨_, q⟩ | ⟨q0, _⟩ | ⟨n', m, rows, rfl, wf, _⟩
      · exact q H1 s1
      · unfold blockOk at no
        rw [q0, Bool.or_true] at no
        cases no
      · rw [wf_block wf] at no
        cases no

theorem ok_put {f : Addr} {fd : FuncData} (D : Df K mg "put_out" s_put_out ["rows", "state", "k"] f fd) (T : Txt K w mg cs) (c_number_of : Cl P w K mg base CX0 1 "number_of" spNumber) : FnOk P w K mg base CX0 2 f fd ["rows", "state", "k"] (spPut K) := by
  refine D.fn.ok sc_put_out (fun vs H Q E h => ?_) (fun cdv A outer s H vs Q E hr h => ?_)
  · obtain ⟨r, n, k, rows, s, rfl, _⟩ := h
    rfl
  · obtain ⟨r, n, k, rows, s, rfl, hT, wf, hs, hk, q⟩ := h
    refine ⟨_, (pss_cons (ps_set (i := 3) sc_put_out.nd rfl (.inl rfl) pe_str) (pss_cons (ps_for PassesOwn.never rfl (pi_range1 (by rfl) T.n_range (pa_cons (pv 2) pa_nil)) (pg_name (i := 4) sc_put_out.nd rfl (.inl rfl)) (pss_cons (ps_set (i := 5) sc_put_out.nd rfl (.inl rfl) (pe_ix (ixT K) (pv 0) (pe_cl c_number_of hr (by first | decide | omega) (by rfl) (pa_cons (pv 1) pa_nil)) (fun _ _ => rfl))) (pss_cons (ps_set (i := 1) sc_put_out.nd rfl (.inl rfl) (pe_slice sl_str (pv 5) po_none (po_some (pe_un un_neg pe_int)))) (pss_one (ps_set (i := 3) sc_put_out.nd rfl (.inl rfl) (pe_op op_add_str (pv 3) (pe_ix ix_str (pv 5) (pe_un un_neg pe_int) (fun _ _ => rfl)))))))) (pss_one (ps_ret (pe_op op_add_str (pv 3) (pv 1)))))), ?_⟩
    have hn10 := wf.n2
    refine ⟨_, rfl, _, rfl, by omega, by omega, for_range (lo := 0) (n := k) (fun i σ H' => ∃ (t o : List Bool) (y4 y5 : Option V), σ = [some (.ref r), some (.str (sb t)), some (.int (k : Int)), some (.str (sb o)), y4, y5] ∧ t.length = n ∧ o.length = i ∧ i ≤ k ∧ putOut rows k s = o ++ putOut rows (k - i) t ∧ H' = H) ?_ ?_ ?_⟩
    · exact ⟨s, [], none, none, rfl, hs, rfl, Nat.zero_le _, rfl, rfl⟩
    · rintro i σ H' hi ⟨t, o, y4, y5, rfl, ht, ho, hik, he, rfl⟩
      obtain ⟨hv, hrow⟩ := wf.at ht
      generalize hR : rows.getD (val t) [] = row at hrow
      obtain ⟨b, hb, hbl⟩ := last_bit hrow
      have sz : ∀ l : List Bool, l.length ≤ 1000 → (sb l).length ≤ sizeLine := fun l h => by
        rw [sb_len, sizeLine_eq]
        omega
      refine ⟨_, rfl, _, rfl, t, rfl, by omega, r, _, _, _, rfl, rfl, hT, atI_nat (getD_row hv), ?_⟩
      rw [hR]
      refine ⟨_, rfl, _, rfl, _, rfl, _, rfl, sz _ (by omega), ?_⟩
      rw [show cutS (sb row) none (some (-1)) = sb row.dropLast from cut_last]
      refine ⟨_, rfl, _, rfl, _, rfl, _, -1, cB b, rfl, rfl, sz _ (by omega), hbl, _, _, rfl, rfl, ?_, row.dropLast, o ++ [b], some (.int (0 + (i : Int))), some (.str (sb row)), ?_, ?_, ?_, by omega, ?_, rfl⟩
      · rw [show (⟨#[cB b]⟩ : Str) = sb [b] from rfl, ← str_app_len, sb_cat]
        exact sz _ (by rw [List.length_append, ho]; show i + 1 ≤ _; omega)
      · rw [← sb_cat]
        rfl
      · rw [List.length_dropLast, hrow]
        rfl
      · rw [List.length_append, ho]
        rfl
      · rw [he, show k - i = (k - (i + 1)) + 1 by omega]
        show o ++ ((rows.getD (val t) []).drop ((rows.getD (val t) []).length - 1) ++ putOut rows (k - (i + 1)) (rows.getD (val t) []).dropLast) = _
        rw [hR, hrow, show n + 1 - 1 = n from rfl, hb, List.append_assoc]
    · rintro σ H' ⟨t, o, y4, y5, rfl, ht, ho, hik, he, rfl⟩
      rw [Nat.sub_self] at he
      have he' : putOut rows k s = o ++ t := he
      rw [he'] at q
      refine ⟨_, rfl, _, rfl, _, _, rfl, rfl, ?_, ?_⟩
      · rw [← str_app_len, sb_cat, sb_len, List.length_append, sizeLine_eq]
        omega
      · rw [sb_cat]
        exact q

theorem ok_fparts {f : Addr} {fd : FuncData} (D : Df K mg "function_parts" s_function_parts ["block"] f fd) (T : Txt K w mg cs) (c_check_block : Cl P w K mg base (L2.CX P w) 3 "check_block" (spCheck K cs.BadBlock)) : FnOk P w K mg base (L2.CX P w) 4 f fd ["block"] (spFParts K cs.BadBlock cs.BadScheme) := by
  refine D.fn.okX sc_function_parts (fun vs H Q E h => ?_) (fun cdv A outer s H vs Q E hr h => ?_)
  · obtain ⟨v, d, n, rfl, _⟩ := h
    rfl
  · obtain ⟨v, d, n, rfl, hd, hg, hn, q⟩ := h
    have tk := takes_of (X := cxOf (L2.CX P w) P w K mg base ["block"] "function_parts" (defScope s_function_parts) f cdv A outer s H E) (E := E) rfl rfl rfl rfl
    refine ⟨_, (pss_cons (ps_expr (pe_clX c_check_block hr (by first | decide | omega) (by rfl) tk (pa_cons (pv 0) pa_nil))) (pss_cons (ps_if (pt_cmpR op_ne (pe_ix (ixT K) (pv 0) pe_int (fun _ _ => rfl)) pe_str (nomark _)) (pss_one (ps_raiseE T.x_BadScheme rfl tk (by rfl))) pss_nil) (pss_one (ps_ret (pe_slice (slTA K) (pv 0) (po_some pe_int) po_none))))), ?_⟩
    refine ⟨_, rfl, v, d, n, rfl, hd, hg, hn, fun H1 s1 => ⟨fun ok => ?_, fun no => ?_⟩⟩
    · rcases q with ⟨q0, _⟩ | ⟨q0, q⟩ | ⟨n', l, m, tabs, rfl, wf, q⟩
      · rw [q0] at ok
        cases ok
      · obtain ⟨n', m, rows, rfl, wf⟩ := gen_wf q0
        obtain ⟨a, r, rfl, hT, hR⟩ := dp_tab hd
        refine ⟨_, rfl, a, _, 0, _, rfl, rfl, same_sqt s1 hT, at0, rfl, _, rfl, ?_⟩
        exact q H1 s1
      · obtain ⟨a, t, rfl, hT, hR⟩ := dp_fun hd
        have hT1 := same_sqt s1 hT
        refine ⟨_, rfl, a, _, 0, _, rfl, rfl, hT1, at0, rfl, _, rfl, ?_⟩
        refine ⟨_, rfl, _, rfl, sl_anyN hT1 fun p H2 s2 t2 => ?_⟩
        exact q p t H2 (s1.trans s2) t2 (dp_same (s1.trans s2) _ hR)
    · rcases q with ⟨_, q⟩ | ⟨q0, _⟩ | ⟨n', l, m, tabs, rfl, wf, _⟩
      · exact q H1 s1
      · unfold blockOk at no
        rw [q0, Bool.true_or] at no
        cases no
      · unfold blockOk at no
        rw [wf.ok, Bool.or_true] at no
        cases no

theorem ok_go {f : Addr} {fd : FuncData} (D : Df K mg "go_down" s_go_down ["rows", "label", "path"] f fd) (T : Txt K w mg cs) (c_number_of : Cl P w K mg base CX0 1 "number_of" spNumber) : FnOk P w K mg base CX0 2 f fd ["rows", "label", "path"] (spGo K) := by
  refine D.fn.ok sc_go_down (fun vs H Q E h => ?_) (fun cdv A outer s H vs Q E hr h => ?_)
  · obtain ⟨r, n, rows, lab, path, rfl, _⟩ := h
    rfl
  · obtain ⟨r, n, rows, lab, path, rfl, hT, wf, hs, q⟩ := h
    refine ⟨_, (pss_cons (ps_set (i := 3) sc_go_down.nd rfl (.inl rfl) (pe_callB call_len_str (by rfl) T.n_len (by decide +kernel) (pa_cons (pv 1) pa_nil))) (pss_cons (ps_for PassesOwn.never rfl (pi_str (pv 2)) (pg_name (i := 4) sc_go_down.nd rfl (.inl rfl)) (pss_cons (ps_set (i := 5) sc_go_down.nd rfl (.inl rfl) (pe_ix (ixT K) (pv 0) (pe_cl c_number_of hr (by first | decide | omega) (by rfl) (pa_cons (pv 1) pa_nil)) (fun _ _ => rfl))) (pss_one (ps_set (i := 1) sc_go_down.nd rfl (.inl rfl) (pe_ifExp (pt_cmpR op_eq (pv 4) pe_str (nomark _)) (pe_slice sl_str (pv 5) po_none (po_some (pv 3))) (pe_slice sl_str (pv 5) (po_some (pv 3)) po_none)))))) (pss_one (ps_ret (pv 1))))), ?_⟩
    have hn10 := wf.n2
    have sz : ∀ l : List Bool, l.length ≤ 1000 → (sb l).length ≤ sizeLine := fun l h => by
      rw [sb_len, sizeLine_eq]
      omega
    refine ⟨_, rfl, _, rfl, sz _ (by omega), ?_⟩
    rw [sb_len, hs]
    refine ⟨_, rfl, _, rfl, for_text (fun i σ H' => ∃ (t : List Bool) (y4 y5 : Option V), σ = [some (.ref r), some (.str (sb t)), some (.str (sb path)), some (.int (n : Int)), y4, y5] ∧ t.length = n ∧ goDown rows n lab path = goDown rows n t (path.drop i) ∧ H' = H) ?_ ?_ ?_⟩
    · exact ⟨lab, none, none, rfl, hs, rfl, rfl⟩
    · rintro i c σ H' hc ⟨t, y4, y5, rfl, ht, he, rfl⟩
      obtain ⟨hi, rfl⟩ := sb_at hc
      obtain ⟨hv, hrow⟩ := wf.at ht
      rw [List.drop_eq_getElem_cons hi] at he
      have he' : goDown rows n lab path = goDown rows n (if path[i] then (rows.getD (val t) []).drop n else (rows.getD (val t) []).take n) (path.drop (i + 1)) := he
      generalize hR : rows.getD (val t) [] = row at hrow he'
      refine ⟨_, rfl, _, rfl, t, rfl, by omega, r, _, _, _, rfl, rfl, hT, atI_nat (getD_row hv), ?_⟩
      rw [hR]
      refine ⟨_, rfl, rfl, _, rfl, ?_⟩
      cases hb : path[i] with
      | false =>
        rw [hb] at he'
        refine ⟨_, rfl, _, rfl, _, rfl, _, rfl, sz _ (by omega), ?_⟩
        rw [cut_pre]
        refine ⟨row.take n, some (.str ⟨#[cB false]⟩), some (.str (sb row)), rfl, ?_, he', rfl⟩
        rw [List.length_take, hrow]
        omega
      | true =>
        rw [hb] at he'
        refine ⟨_, rfl, _, rfl, _, rfl, _, rfl, sz _ (by omega), ?_⟩
        rw [cut_suf]
        refine ⟨row.drop n, some (.str ⟨#[cB true]⟩), some (.str (sb row)), rfl, ?_, he', rfl⟩
        rw [List.length_drop, hrow]
        omega
    · rintro σ H' ⟨t, y4, y5, rfl, ht, he, rfl⟩
      have es : (sb path).cps.size = path.length := sb_len path
      rw [es, List.drop_length] at he
      have he' : goDown rows n lab path = t := he
      rw [he'] at q
      exact ⟨_, rfl, q⟩

theorem map_int_set (rs : List Int) (j : Nat) (x : Int) : (rs.map V.int).set j (.int x) = (rs.set j x).map V.int := by
  rw [List.map_set]
theorem at_int {rs : List Int} {j : Nat} {z : Int} (h : rs[j]? = some z) : atI (rs.map V.int) ((j : Nat) : Int) = some (.int z) := atI_nat (by
  rw [List.getElem?_map, h]
  rfl)
theorem ok_draws {f : Addr} {fd : FuncData} (D : Df K mg "_law_draws" s_law_draws ["script", "many"] f fd) (T : Txt K w mg cs) : FnOk P w K mg base CX0 1 f fd ["script", "many"] (spDraws K) := by
  refine D.fn.ok sc_law_draws (fun vs H Q E h => ?_) (fun cdv A outer s H vs Q E hr h => ?_)
  · obtain ⟨a, ns, many, rfl, _⟩ := h
    rfl
  · obtain ⟨a, ns, many, rfl, hS, hl, hm, q⟩ := h
    refine ⟨_, (pss_cons (ps_setLc (i := 2) (own := [("cell", 5)]) (g := gName 5) (tt := tYes) rfl sc_law_draws.nd rfl rfl (sw_true rfl rfl rfl (by decide +kernel)) (pi_list (pv 0)) (blkOk_by (own := [("cell", 5)]) (N := ["script", "many", "rests", "draws", "k", "cell", "at", "mixed"]) (sc := defScope s_law_draws) (by decide +kernel)) (fun _ _ _ _ _ => (pg_name (i := 5) sc_law_draws.nd rfl (.inl rfl))) (fun _ _ _ _ _ => pts_nil) (fun _ _ _ _ _ => (pe_callB call_abs (by rfl) T.n_abs (by decide +kernel) (pa_cons (pe_callTy call_int1 (by rfl) T.n_int (by decide +kernel) (pa_cons (pv 5) pa_nil)) pa_nil)))) (pss_cons (ps_set (i := 3) sc_law_draws.nd rfl (.inl rfl) (pe_lst pa_nil)) (pss_cons (ps_for PassesOwn.never rfl (pi_range1 (by rfl) T.n_range (pa_cons (pv 1) pa_nil)) (pg_name (i := 4) sc_law_draws.nd rfl (.inl rfl)) (pss_cons (ps_set (i := 5) sc_law_draws.nd rfl (.inl rfl) (pv 4)) (C8.pss_cut (ps_if (pt_cmpR op_gt (pe_callB (lenS K) (by rfl) T.n_len (by decide +kernel) (pa_cons (pv 0) pa_nil)) pe_int (nomark _)) (pss_cons (ps_set (i := 6) sc_law_draws.nd rfl (.inl rfl) (pe_op op_mod (pv 4) (pe_callB (lenS K) (by rfl) T.n_len (by decide +kernel) (pa_cons (pv 0) pa_nil)))) (pss_cons (ps_set (i := 5) sc_law_draws.nd rfl (.inl rfl) (pe_callTy call_int1 (by rfl) T.n_int (by decide +kernel) (pa_cons (pe_ix (ixL K) (pv 0) (pv 6) (fun _ _ => rfl)) pa_nil))) (pss_one (ps_if (PW.pt (pw_and (pt_cmpR op_ge (pv 5) (pe_op op_pow pe_int pe_int) (nomark _)) (pw_and1 (pt_cmpR op_gt (pe_ix (ixL K) (pv 2) (pv 6) (fun _ _ => rfl)) pe_int (nomark _))))) (pss_cons (ps_expr (pe_bm PySem.F.plainAttrs_list PySem.F.slot_list_append PySem.F.type_list_append mt_append (pv 3) (pa_cons (pe_op op_mod (pe_callTy call_int1 (by rfl) T.n_int (by decide +kernel) (pa_cons (pe_ix (ixL K) (pv 2) (pv 6) (fun _ _ => rfl)) pa_nil)) pe_int) pa_nil))) (pss_cons (ps_asg (pe_op op_fdiv (pe_callTy call_int1 (by rfl) T.n_int (by decide +kernel) (pa_cons (pe_ix (ixL K) (pv 2) (pv 6) (fun _ _ => rfl)) pa_nil)) pe_int) (pg_sub (pv 2) (pv 6) set_list)) (pss_one ps_continue))) pss_nil)))) pss_nil) (pss_cons (ps_set (i := 7) sc_law_draws.nd rfl (.inl rfl) (pe_op op_mod (pe_callTy call_int1 (by rfl) T.n_int (by decide +kernel) (pa_cons (pe_op op_add (pe_op op_add (pe_op op_mul (pv 5) pe_int) (pe_op op_mul (pv 4) pe_int)) pe_int) pa_nil)) pe_int)) (pss_cons (ps_set (i := 7) sc_law_draws.nd rfl (.inl rfl) (pe_op op_mod (pe_callTy call_int1 (by rfl) T.n_int (by decide +kernel) (pa_cons (pe_op op_add (pe_op op_fdiv (pe_op op_mul (pv 7) (pv 7)) pe_int) (pv 7)) pa_nil)) pe_int)) (pss_one (ps_expr (pe_bm PySem.F.plainAttrs_list PySem.F.slot_list_append PySem.F.type_list_append mt_append (pv 3) (pa_cons (pe_op op_mod (pe_callTy call_int1 (by rfl) T.n_int (by decide +kernel) (pa_cons (pe_op op_add (pe_op op_fdiv (pe_op op_mul (pv 7) (pv 7)) pe_int) (pe_op op_mul (pv 4) pe_int)) pa_nil)) pe_int) pa_nil))))))))) (pss_one (ps_ret (pv 3)))))), ?_⟩
    -- rests
    refine ⟨_, rfl, a, rfl, ⟨_, hS⟩, fun R hR => ?_⟩
    refine lc_list (xs := ns.map V.int) (fun i H' => ∃ rs : List Int, rs.length = i ∧ (∀ x ∈ rs, 0 ≤ x) ∧ Same H H' ∧ H' R = some (.lst (rs.map V.int))) ?_ ?_ ?_ ?_
    · exact ⟨[], rfl, fun x hx => (nomatch hx), same_new hR, upd_same⟩
    · rintro i H' _ ⟨rs, _, _, hs, _⟩
      exact hs.seq hS
    · rintro i x H' hx ⟨rs, hn, h0, hs, hr'⟩
      obtain ⟨z, hz⟩ : ∃ z, x = V.int z := by
        rw [List.getElem?_map] at hx
        cases e : ns[i]? with
        | none =>
          rw [e] at hx
          cases hx
        | some z =>
          rw [e] at hx
          exact ⟨z, (Option.some.inj hx).symm⟩
      subst hz
      have hi : i < ns.length := by
        have := (List.getElem?_eq_some_iff.mp hx).1
        rw [List.length_map] at this
        exact this
      refine ⟨rfl, ?_⟩
      refine ⟨_, rfl, .inl ⟨_, rfl, _, rfl, _, hr', ?_, ?_⟩⟩
      · rw [List.length_map]
        exact small1000 (by omega)
      · refine ⟨rs ++ [if z < 0 then -z else z], by rw [List.length_append, hn]; rfl, ?_, ?_, ?_⟩
        · intro y hy
          rcases List.mem_append.mp hy with hy | hy
          · exact h0 y hy
          · rw [List.mem_singleton.mp hy]
            split <;> omega
        · intro b o e
          rw [upd_ne (ne_of_none e hR)]
          exact hs b o e
        · rw [upd_same, List.map_append]
          rfl
    · rintro H1 ⟨rs, hn, h0, s1, e1⟩
      rw [List.length_map] at hn
      -- draws = []
      refine ⟨Nat.zero_le _, fun L hL => ?_⟩
      have nRL : R ≠ L := ne_of_none e1 hL
      have hL0 : H L = none := s1.free hL
      -- the loop
      refine ⟨_, rfl, _, rfl, by omega, by omega, for_range (lo := 0) (n := many) (fun i σ H' => ∃ (rs ds : List Int) (y4 y5 y6 y7 : Option V), σ = [some (.ref a), some (.int (many : Int)), some (.ref R), some (.ref L), y4, y5, y6, y7] ∧
        rs.length = ns.length ∧ (∀ x ∈ rs, 0 ≤ x) ∧ ds.length = i ∧ (∀ x ∈ ds, 0 ≤ x) ∧ Same H H' ∧ H' R = some (.lst (rs.map V.int)) ∧ H' L = some (.lst (ds.map V.int))) ?_ ?_ ?_⟩
      · refine ⟨rs, [], none, none, none, none, rfl, hn, h0, rfl, fun x hx => (nomatch hx), s1.trans (same_new hL), ?_, upd_same⟩
        rw [upd_ne nRL]
        exact e1
      · clear e1 hn h0 rs s1 hL
        rintro i σ H' hi ⟨rs, ds, y4, y5, y6, y7, rfl, hn, h0, hd, hd0, s1, e1, e2⟩
        have hSL : SqL K H' a (ns.map V.int) := s1.seq hS
        -- what the rest of the turn asks: a number is put behind the draws
        have put : ∀ (x : Int) (σ' : L2.St) (H2 : Hp) (rs' : List Int), 0 ≤ x → rs'.length = ns.length → (∀ x ∈ rs', 0 ≤ x) → Same H H2 → H2 R = some (.lst (rs'.map V.int)) → H2 L = some (.lst ((ds ++ [x]).map V.int)) →
            (∃ y4 y5 y6 y7 : Option V, σ' = [some (.ref a), some (.int (many : Int)), some (.ref R), some (.ref L), y4, y5, y6, y7]) →
            (fun (i : Nat) (σ : L2.St) (H' : Hp) => ∃ (rs ds : List Int) (y4 y5 y6 y7 : Option V), σ = [some (.ref a), some (.int (many : Int)), some (.ref R), some (.ref L), y4, y5, y6, y7] ∧
              rs.length = ns.length ∧ (∀ x ∈ rs, 0 ≤ x) ∧ ds.length = i ∧ (∀ x ∈ ds, 0 ≤ x) ∧ Same H H' ∧ H' R = some (.lst (rs.map V.int)) ∧ H' L = some (.lst (ds.map V.int))) (i + 1) σ' H2 := by
          rintro x σ' H2 rs' hx g1 g2 g3 g4 g5 ⟨z4, z5, z6, z7, rfl⟩
          refine ⟨rs', ds ++ [x], z4, z5, z6, z7, rfl, g1, g2, by rw [List.length_append, hd]; rfl, ?_, g3, g4, g5⟩
          intro y hy
          rcases List.mem_append.mp hy with hy | hy
          · exact hd0 y hy
          · rw [List.mem_singleton.mp hy]
            exact hx
        have app : ∀ (x : Int), upd H' L (.lst (ds.map V.int ++ [.int x])) R = some (.lst (rs.map V.int)) ∧ Same H (upd H' L (.lst (ds.map V.int ++ [.int x]))) ∧ upd H' L (.lst (ds.map V.int ++ [.int x])) L = some (.lst ((ds ++ [x]).map V.int)) := by
          intro x
          refine ⟨by rw [upd_ne nRL]; exact e1, fun b u e => ?_, ?_⟩
          · rw [upd_ne (ne_of_none e hL0)]
            exact s1 b u e
          · rw [upd_same, List.map_append]
            rfl
        have hsz : (ds.map V.int).length < sizeLine := by
          rw [List.length_map]
          exact Nat.lt_of_lt_of_le (show ds.length < 10000 by omega) (by decide)
        -- cell = k
        refine ⟨_, rfl, ?_⟩
        refine ⟨fun σ2 H2 => H2 = H' ∧ ∃ (c : Int) (y6 : Option V), σ2 = [some (.ref a), some (.int (many : Int)), some (.ref R), some (.ref L), some (.int (0 + (i : Int))), some (.int c), y6, y7], ?_, ?_⟩
        · -- if len(script) > 0
          refine ⟨_, rfl, a, _, rfl, .inl hSL, _, _, rfl, rfl, _, rfl, ite2 (fun c => ?_) (fun c => ?_)⟩
          · have hp : 0 < ns.length := by
              have c' : (0 : Int) < (((ns.map V.int).length : Nat) : Int) := of_decide_eq_true c
              rw [List.length_map] at c'
              omega
            -- at = k % len(script)
            refine ⟨_, rfl, _, rfl, a, _, rfl, .inl hSL, _, _, rfl, rfl, ?_, ?_⟩
            · rw [List.length_map]
              omega
            · obtain ⟨j, hj, hjl⟩ : ∃ j : Nat, (0 + (i : Int)) % (((ns.map V.int).length : Nat) : Int) = (j : Int) ∧ j < ns.length := by
                rw [List.length_map]
                have h1 := Int.emod_nonneg (0 + (i : Int)) (b := (ns.length : Int)) (by omega)
                have h2 := Int.emod_lt_of_pos (0 + (i : Int)) (b := (ns.length : Int)) (by omega)
                exact ⟨((0 + (i : Int)) % (ns.length : Int)).toNat, by omega, by omega⟩
              show gName 6 (V.int ((0 + (i : Int)) % (((ns.map V.int).length : Nat) : Int))) _ _ _
              rw [hj]
              have hx : (ns.map V.int)[j]? = some (.int ns[j]) := by
                rw [List.getElem?_map, List.getElem?_eq_getElem hjl]
                rfl
              have hjr : j < rs.length := by omega
              have hy : (rs.map V.int)[j]? = some (.int rs[j]) := by
                rw [List.getElem?_map, List.getElem?_eq_getElem hjr]
                rfl
              -- cell = int(script[at])
              refine ⟨_, rfl, _, rfl, a, _, (j : Int), _, rfl, rfl, hSL, atI_nat hx, .inl ⟨_, rfl, ?_⟩⟩
              -- if cell >= 10 ** 18 and rests[at] > 0
              refine ⟨_, rfl, _, _, rfl, rfl, ⟨by decide, by decide, by decide⟩, _, _, rfl, rfl, _, rfl, ite2 (fun c => ?_) (fun c => ?_)⟩
              · refine ⟨_, rfl, _, rfl, R, _, (j : Int), _, rfl, rfl, .inl (.inl e1), atI_nat hy, _, _, rfl, rfl, _, rfl, ite2 (fun c => ?_) (fun c => ?_)⟩
                · have hr0 : 0 ≤ rs[j] := h0 _ (List.getElem_mem hjr)
                  -- draws.append(int(rests[at]) % 1000003)
                  refine ⟨_, rfl, .inl ⟨rfl, _, .inl (.inl e2)⟩, _, rfl, _, rfl, R, _, (j : Int), _, rfl, rfl, .inl (.inl e1), atI_nat hy, .inl ⟨_, rfl, _, _, rfl, rfl, (by show (0 : Int) < 1000003; decide), L, _, _, rfl, rfl, e2, hsz, ?_⟩⟩
                  obtain ⟨p1, p2, p3⟩ := app (rs[j] % 1000003)
                  -- rests[at] = int(rests[at]) // 1000003
                  refine ⟨_, rfl, _, rfl, R, _, (j : Int), _, rfl, rfl, .inl (.inl p1), atI_nat hy, .inl ⟨_, rfl, _, _, rfl, rfl, ⟨by decide, by decide⟩, _, rfl, _, rfl, R, _, (j : Int), j, rfl, rfl, p1, ?_, ?_⟩⟩
                  · unfold ixN
                    rw [if_pos (by omega), if_pos (by rw [List.length_map]; omega)]
                    rfl
                  · refine put (rs[j] % 1000003) _ _ (rs.set j (rs[j] / 1000003)) (by omega) (by rw [List.length_set]; exact hn) ?_ ?_ ?_ ?_ ⟨_, _, _, _, rfl⟩
                    · intro y hy'
                      rcases List.mem_or_eq_of_mem_set hy' with z | z
                      · exact h0 y z
                      · rw [z]
                        omega
                    · intro b u e
                      rw [upd_ne (ne_of_none e hR)]
                      exact p2 b u e
                    · rw [upd_same, List.map_set]
                    · rw [upd_ne nRL.symm]
                      exact p3
                · exact ⟨rfl, _, _, rfl⟩
              · exact ⟨rfl, _, _, rfl⟩
          · exact ⟨rfl, _, _, rfl⟩
        · rintro σ2 H2 ⟨rfl, c, z6, rfl⟩
          -- mixed, twice
          refine ⟨_, rfl, _, _, rfl, rfl, .inr ⟨by decide, by decide⟩, _, rfl, _, _, rfl, rfl, .inr ⟨by decide, by decide⟩, _, _, rfl, rfl, _, _, rfl, rfl, .inl ⟨_, rfl, _, _, rfl, rfl, (by show (0 : Int) < 2147483647; decide), ?_⟩⟩
          refine ⟨_, rfl, _, rfl, _, _, rfl, rfl, .inl ⟨?_, ?_⟩, _, _, rfl, rfl, ⟨by decide, by decide⟩, _, rfl, _, _, rfl, rfl, .inl ⟨_, rfl, _, _, rfl, rfl, (by show (0 : Int) < 2147483629; decide), ?_⟩⟩
          · omega
          · omega
          -- draws.append
          refine ⟨_, rfl, .inl ⟨rfl, _, .inl (.inl e2)⟩, _, rfl, _, rfl, _, _, rfl, rfl, .inl ⟨?_, ?_⟩, _, _, rfl, rfl, ⟨by decide, by decide⟩, _, rfl, _, _, rfl, rfl, .inr ⟨by decide, by decide⟩, _, _, rfl, rfl, .inl ⟨_, rfl, _, _, rfl, rfl, (by show (0 : Int) < 2147483629; decide), L, _, _, rfl, rfl, e2, hsz, ?_⟩⟩
          · omega
          · omega
          refine put _ _ _ rs ?_ hn h0 (app _).2.1 (app _).1 (app _).2.2 ⟨_, _, _, _, rfl⟩
          exact Int.emod_nonneg _ (by decide)
      · rintro σ H2 ⟨rs, ds, y4, y5, y6, y7, rfl, hn, h0, hd, hd0, s2, e1, e2⟩
        exact ⟨_, rfl, q L ds H2 hL0 s2 e2 hd0⟩

theorem ok_take {f : Addr} {fd : FuncData} (D : Df K mg "_law_take" s_law_take ["hand", "many"] f fd) (T : Txt K w mg cs) : FnOk P w K mg base CX0 1 f fd ["hand", "many"] spTake := by
  refine D.fn.ok sc_law_take (fun vs H Q E h => ?_) (fun cdv A outer s H vs Q E hr h => ?_)
  · obtain ⟨a, d, many, rfl, _⟩ := h
    rfl
  · obtain ⟨a, d, many, rfl, hm, ⟨ds, i, h1, h2, h3, h4⟩, q⟩ := h
    refine ⟨_, (pss_cons (ps_set (i := 2) sc_law_take.nd rfl (.inl rfl) (pe_ix (ixL K) (pv 0) pe_int (fun _ _ => rfl))) (pss_cons (ps_asg (pe_op op_add (pv 2) pe_int) (pg_sub (pv 0) pe_int set_list)) (pss_cons (ps_set (i := 3) sc_law_take.nd rfl (.inl rfl) (pe_ix (ixL K) (pv 0) pe_int (fun _ _ => rfl))) (pss_cons (ps_if (pt_cmpR op_ge (pv 2) (pe_callB (lenS K) (by rfl) T.n_len (by decide +kernel) (pa_cons (pv 3) pa_nil)) (nomark _)) (pss_one (ps_ret pe_int)) pss_nil) (pss_one (ps_ret (pe_op op_mod (pe_op op_fdiv (pe_callTy call_int1 (by rfl) T.n_int (by decide +kernel) (pa_cons (pe_ix (ixL K) (pv 3) (pv 2) (fun _ _ => rfl)) pa_nil)) pe_int) (pv 1)))))))), ?_⟩
    have s1 : Same H H := Same.refl H
    -- at = hand[1]
    refine ⟨_, rfl, a, _, 1, .int (i : Int), rfl, rfl, .inl (.inl h1), rfl, ?_⟩
    -- hand[1] = at + 1
    refine ⟨_, rfl, _, _, rfl, rfl, _, rfl, a, _, 1, 1, rfl, rfl, h1, rfl, ?_⟩
    -- draws = hand[0]
    refine ⟨_, rfl, a, _, 0, .ref d, rfl, rfl, .inl (.inl upd_same), rfl, ?_⟩
    have hd : (upd H a (.lst [.ref d, .int ((i : Int) + 1)])) d = some (.lst (ds.map V.int)) := by
      rw [upd_ne h4]
      exact h2
    have hn : Hnd (upd H a (.lst [.ref d, .int ((i : Int) + 1)])) a d := ⟨ds, i + 1, upd_same, hd, h3, h4⟩
    have hk : Keep a H (upd H a (.lst [.ref d, .int ((i : Int) + 1)])) := fun b o e n => by
      rw [upd_ne n]
      exact e
    -- at >= len(draws)
    refine ⟨_, rfl, _, rfl, d, _, rfl, .inl (.inl (.inl hd)), _, _, rfl, rfl, _, rfl, ite2 (fun c => ?_) (fun c => ?_)⟩
    · exact q 0 _ (Int.le_refl 0) hm hn hk
    · have hi : i < ds.length := by
        have c' : ¬ (((ds.map V.int).length : Int) ≤ (i : Int)) := fun z => c (decide_eq_true z)
        rw [List.length_map] at c'
        omega
      have hx : (ds.map V.int)[i]? = some (.int ds[i]) := by
        rw [List.getElem?_map, List.getElem?_eq_getElem hi]
        rfl
      have h0 := h3 ds[i] (List.getElem_mem hi)
      refine ⟨_, rfl, _, rfl, d, _, (i : Int), .int ds[i], rfl, rfl, .inl (.inl hd), atI_nat hx, .inl ⟨_, rfl, ?_⟩⟩
      refine ⟨_, _, rfl, rfl, ⟨by decide, by decide⟩, _, rfl, _, _, rfl, rfl, hm, ?_⟩
      exact q _ _ (Int.emod_nonneg _ (by omega)) (Int.emod_lt_of_pos _ hm) hn hk

theorem join_bits (bs : List Bool) : Txt.join "" (bs.map fun b => sb [b]) = sb bs := by
  have e : bs.map (fun b => sb [b]) = (bs.map fun b => [cB b]).map SX.S := by
    rw [List.map_map]
    rfl
  have j : ∀ ps : List (List Nat), TL.joinL [] ps = ps.flatten := by
    intro ps
    induction ps with
    | nil => rfl
    | cons x r ih =>
      cases r with
      | nil => exact (List.append_nil x).symm
      | cons y r =>
        show x ++ ([] ++ TL.joinL [] (y :: r)) = x ++ (y :: r).flatten
        rw [ih, List.nil_append]
  rw [e]
  refine (SX.join_S [] _).trans ?_
  rw [j]
  unfold sb
  congr 1
  clear e j
  induction bs with
  | nil => rfl
  | cons b bs ih =>
    rw [List.map_cons, List.flatten_cons, ih]
    rfl
theorem ok_string {f : Addr} {fd : FuncData} (D : Df K mg "_law_string" s_law_string ["hand", "length"] f fd) (T : Txt K w mg cs) (c_law_take : Cl P w K mg base CX0 1 "_law_take" spTake) : FnOk P w K mg base CX0 2 f fd ["hand", "length"] spString := by
  refine D.fn.ok sc_law_string (fun vs H Q E h => ?_) (fun cdv A outer s H vs Q E hr h => ?_)
  · obtain ⟨a, d, n, rfl, _⟩ := h
    rfl
  · obtain ⟨a, d, n, rfl, hn, hh, q⟩ := h
    refine ⟨_, (pss_one (ps_ret (pe_m1 PySem.F.slot_str_join PySem.F.type_str_join (mtJoin K) pe_str (pe_lc (own := [("k", 2)]) (g := gName 2) (tt := tYes) rfl sc_law_string.nd (pi_range1 (by rfl) T.n_range (pa_cons (pv 1) pa_nil)) (blkOk_by (own := [("k", 2)]) (N := ["hand", "length", "k"]) (sc := defScope s_law_string) (by decide +kernel)) (fun _ _ _ _ _ => (pg_name (i := 2) sc_law_string.nd rfl (.inl rfl))) (fun _ _ _ _ _ => pts_nil) (fun _ _ _ _ _ => (pe_ix (ixL K) (pe_lst (pa_cons pe_str (pa_cons pe_str pa_nil))) (pe_cl c_law_take hr (by first | decide | omega) (by rfl) (pa_cons (pv 0) (pa_cons pe_int pa_nil))) (fun _ _ => rfl))))))), ?_⟩
    refine ⟨⟨_, rfl⟩, _, rfl, _, rfl, by omega, by omega, fun Dl hD => ?_⟩
    obtain ⟨nDa, nDd⟩ := hh.ne hD
    refine lc_range (lo := 0) (n := n) (fun i H' => ∃ bs : List Bool, bs.length = i ∧ Hnd H' a d ∧ Keep a H H' ∧ H' Dl = some (.lst (bs.map fun b => V.str (sb [b])))) ?_ ?_ ?_
    · exact ⟨[], rfl, hh.new hD, Keep.new hD, upd_same⟩
    · rintro i H' hi ⟨bs, hl, h1, h2, h3⟩
      refine ⟨rfl, ?_⟩
      -- the list ['0', '1'], then the draw
      refine ⟨by decide, fun p np => ?_⟩
      obtain ⟨npa, npd⟩ := h1.ne np
      refine ⟨_, rfl, a, d, 2, rfl, by decide, h1.new np, fun r H2 hr0 hr2 hh2 hk2 => ?_⟩
      have e2 : H2 Dl = some (.lst (bs.map fun b => V.str (sb [b]))) := hk2 _ _ (by rw [upd_ne (ne_of_none h3 np)]; exact h3) nDa
      have hb : ∃ b : Bool, atI [V.str "0", V.str "1"] r = some (V.str (sb [b])) := by
        have er : r = 0 ∨ r = 1 := by omega
        rcases er with e | e <;> subst e
        · exact ⟨false, rfl⟩
        · exact ⟨true, rfl⟩
      obtain ⟨b, hb⟩ := hb
      refine ⟨p, _, r, _, rfl, rfl, .inl (.inl (hk2 _ _ upd_same npa)), hb, _, e2, ?_, ?_⟩
      · rw [List.length_map]
        exact Nat.lt_of_lt_of_le (show bs.length < 10000 by omega) (by decide)
      · refine ⟨bs ++ [b], by rw [List.length_append, hl]; rfl, hh2.set nDa nDd, ((h2.trans (Keep.new np)).trans hk2).set hD, ?_⟩
        rw [upd_same, List.map_append]
        rfl
    · rintro H' ⟨bs, hl, h1, h2, h3⟩
      refine ⟨_, Dl, bs.map (fun b => sb [b]), rfl, rfl, .inl (.inl (.inl (by rw [List.map_map]; exact h3))), ?_, ?_⟩
      · have e : ((bs.map fun b => sb [b]).map (·.length)).sum = bs.length := by
          rw [List.map_map]
          clear h3 hl
          induction bs with
          | nil => rfl
          | cons b bs ih =>
            rw [List.map_cons, List.sum_cons, ih, List.length_cons]
            show 1 + _ = _
            omega
        rw [e]
        show _ + _ * 0 ≤ _
        omega
      · rw [join_bits]
        exact q bs H' hl h1 h2

theorem ok_table {f : Addr} {fd : FuncData} (D : Df K mg "_law_table" s_law_table ["hand", "n", "m"] f fd) (T : Txt K w mg cs) (c_law_string : Cl P w K mg base CX0 2 "_law_string" spString) : FnOk P w K mg base CX0 3 f fd ["hand", "n", "m"] (spTable K) := by
  refine D.fn.ok sc_law_table (fun vs H Q E h => ?_) (fun cdv A outer s H vs Q E hr h => ?_)
  · obtain ⟨a, d, n, m, rfl, _⟩ := h
    rfl
  · obtain ⟨a, d, n, m, rfl, hn, hm, hh, q⟩ := h
    refine ⟨_, (pss_cons (ps_setLc (i := 3) (own := [("k", 4)]) (g := gName 4) (tt := tYes) rfl sc_law_table.nd rfl rfl (sw_true rfl rfl rfl (by decide +kernel)) (pi_range1 (by rfl) T.n_range (pa_cons (pe_op op_shl pe_int (pv 1)) pa_nil)) (blkOk_by (own := [("k", 4)]) (N := ["hand", "n", "m", "rows", "k"]) (sc := defScope s_law_table) (by decide +kernel)) (fun _ _ _ _ _ => (pg_name (i := 4) sc_law_table.nd rfl (.inl rfl))) (fun _ _ _ _ _ => pts_nil) (fun _ _ _ _ _ => (pe_cl c_law_string hr (by first | decide | omega) (by rfl) (pa_cons (pv 0) (pa_cons (pv 2) pa_nil))))) (pss_one (ps_ret (pe_tup (pa_cons pe_str (pa_cons (pv 1) (pa_cons (pv 2) (pa_cons (pe_callTy (tupOf K) (by rfl) T.n_tuple (by decide +kernel) (pa_cons (pv 3) pa_nil)) pa_nil)))))))), ?_⟩
    have hp : 2 ^ n ≤ 256 := two_pow_le (b := 8) hn
    refine ⟨_, rfl, _, _, rfl, rfl, ⟨by omega, by omega, by decide⟩, _, rfl, ?_⟩
    rw [shl_one]
    generalize hN : 2 ^ n = N at hp ⊢
    refine ⟨by omega, by omega, fun Dl hD => ?_⟩
    obtain ⟨nDa, nDd⟩ := hh.ne hD
    refine lc_range (lo := 0) (n := _) (fun i H' => ∃ rows : List (List Bool), rows.length = i ∧ (∀ r ∈ rows, r.length = m) ∧ Hnd H' a d ∧ Keep a H H' ∧ H' Dl = some (.lst (rows.map fun r => V.str (sb r)))) ?_ ?_ ?_
    · exact ⟨[], rfl, fun r hr => (nomatch hr), hh.new hD, Keep.new hD, upd_same⟩
    · rintro i H' hi ⟨rows, hl, hr, h1, h2, h3⟩
      refine ⟨rfl, ?_⟩
      refine ⟨_, rfl, _, rfl, a, d, m, rfl, by omega, h1, fun bs H2 hb hh2 hk2 => ⟨_, hk2 _ _ h3 nDa, ?_, ?_⟩⟩
      · rw [List.length_map]
        exact Nat.lt_of_lt_of_le (show rows.length < 10000 by omega) (by decide)
      · refine ⟨rows ++ [bs], by rw [List.length_append, hl]; rfl, ?_, hh2.set nDa nDd, (h2.trans hk2).set hD, ?_⟩
        · intro r hr'
          rcases List.mem_append.mp hr' with z | z
          · exact hr r z
          · rw [List.mem_singleton.mp z]
            exact hb
        · rw [upd_same, List.map_append]
          rfl
    · rintro H' ⟨rows, hl, hr, h1, h2, h3⟩
      have hl2 : rows.length = 2 ^ n := by
        rw [hl, hN]
        omega
      refine ⟨_, rfl, _, rfl, _, rfl, Dl, _, rfl, .inl ⟨.inl (.inl h3), fun l hl' => ⟨(by show 4 ≤ sizeLine; decide), fun p np => ?_⟩⟩⟩
      have hl1 := h1.ne hl'
      have h1' := h1.new (o := .tup (rows.map fun r => V.str (sb r))) hl'
      have hp1 := h1'.ne np
      refine q _ rows _ hl2 hr ?_ (h1'.new np) ((h2.trans (Keep.new hl')).trans (Keep.new np))
      have e1 : off a (upd (upd H' l (.tup (rows.map fun r => V.str (sb r)))) p (.tup [.str "generator", .int (n : Int), .int (m : Int), .ref l])) p = some (.tup [.str "generator", .int (n : Int), .int (m : Int), .ref l]) := by
        rw [off_ne hp1.1, upd_same]
      have e2 : off a (upd (upd H' l (.tup (rows.map fun r => V.str (sb r)))) p (.tup [.str "generator", .int (n : Int), .int (m : Int), .ref l])) l = some (.tup (rows.map fun r => V.str (sb r))) := by
        rw [off_ne hl1.1, upd_ne (ne_of_none upd_same np), upd_same]
      exact .tup (.inl (.inl e1)) (.cons (.str _) (.cons (.int _) (.cons (.int _) (.cons (.tup (.inl (.inl e2)) (dp_bits rows)) .nil))))
theorem ok_function {f : Addr} {fd : FuncData} (D : Df K mg "_law_function" s_law_function ["hand", "n", "l", "m"] f fd) (T : Txt K w mg cs) (c_law_string : Cl P w K mg base CX0 2 "_law_string" spString) : FnOk P w K mg base CX0 3 f fd ["hand", "n", "l", "m"] (spFunction K) := by
  refine D.fn.ok sc_law_function (fun vs H Q E h => ?_) (fun cdv A outer s H vs Q E hr h => ?_)
  · obtain ⟨a, d, n, l, m, rfl, _⟩ := h
    rfl
  · obtain ⟨a, d, n, l, m, rfl, hn, hl, hm, hh, q⟩ := h
    refine ⟨_, (pss_cons (ps_set (i := 4) sc_law_function.nd rfl (.inl rfl) (pe_lst pa_nil)) (pss_cons (ps_for PassesOwn.never rfl (pi_range1 (by rfl) T.n_range (pa_cons (pe_op op_shl pe_int (pv 1)) pa_nil)) (pg_name (i := 5) sc_law_function.nd rfl (.inl rfl)) (pss_one (ps_expr (pe_bm PySem.F.plainAttrs_list PySem.F.slot_list_append PySem.F.type_list_append mt_append (pv 4) (pa_cons (pe_callTy (tupOf K) (by rfl) T.n_tuple (by decide +kernel) (pa_cons (pe_lc (own := [("k", 6)]) (g := gName 6) (tt := tYes) rfl sc_law_function.nd (pi_range1 (by rfl) T.n_range (pa_cons (pe_op op_shl pe_int (pv 2)) pa_nil)) (blkOk_by (own := [("k", 6)]) (N := ["hand", "n", "l", "m", "rows", "key", "k"]) (sc := defScope s_law_function) (by decide +kernel)) (fun _ _ _ _ _ => (pg_name (i := 6) sc_law_function.nd rfl (.inl rfl))) (fun _ _ _ _ _ => pts_nil) (fun _ _ _ _ _ => (pe_cl c_law_string hr (by first | decide | omega) (by rfl) (pa_cons (pv 0) (pa_cons (pv 3) pa_nil))))) pa_nil)) pa_nil))))) (pss_one (ps_ret (pe_tup (pa_cons pe_str (pa_cons (pv 1) (pa_cons (pv 2) (pa_cons (pv 3) (pa_cons (pe_callTy (tupOf K) (by rfl) T.n_tuple (by decide +kernel) (pa_cons (pv 4) pa_nil)) pa_nil)))))))))), ?_⟩
    have hp : 2 ^ n ≤ 256 := two_pow_le (b := 8) hn
    have hpl : 2 ^ l ≤ 256 := two_pow_le (b := 8) hl
    refine ⟨Nat.zero_le _, fun R hR => ?_⟩
    obtain ⟨nRa, nRd⟩ := hh.ne hR
    refine ⟨_, rfl, _, _, rfl, rfl, ⟨by omega, by omega, by decide⟩, _, rfl, ?_⟩
    rw [shl_one]
    generalize hN : 2 ^ n = N at hp ⊢
    refine ⟨by omega, by omega, for_range (lo := 0) (n := _) (fun i σ H' => ∃ (y5 y6 : Option V) (ws : List V) (tabs : List (List (List Bool))), σ = [some (.ref a), some (.int (n : Int)), some (.int (l : Int)), some (.int (m : Int)), some (.ref R), y5, y6] ∧ tabs.length = i ∧
      (∀ rows ∈ tabs, rows.length = 2 ^ l ∧ ∀ r ∈ rows, r.length = m) ∧ ws.length = i ∧ DpAll K (off R (off a H')) ws (tabs.map rowsD) ∧ Hnd H' a d ∧ Keep a H H' ∧ H' R = some (.lst ws)) ?_ ?_ ?_⟩
    · exact ⟨none, none, [], [], rfl, rfl, fun r hr => (nomatch hr), rfl, DpAll.nil, hh.new hR, Keep.new hR, upd_same⟩
    · rintro i σ H' hi ⟨y5, y6, ws, tabs, rfl, ht, hts, hws, hdp, h1, h2, h3⟩
      refine ⟨_, rfl, .inl ⟨rfl, _, .inl (.inl h3)⟩, ?_⟩
      refine ⟨_, rfl, _, _, rfl, rfl, ⟨by omega, by omega, by decide⟩, _, rfl, ?_⟩
      rw [shl_one]
      generalize hL : 2 ^ l = L at hpl ⊢
      refine ⟨by omega, by omega, fun Dl hD => ?_⟩
      obtain ⟨nDa, nDd⟩ := h1.ne hD
      have nDR : Dl ≠ R := (ne_of_none h3 hD).symm
      refine lc_range (lo := 0) (n := _) (fun j H2 => ∃ rows : List (List Bool), rows.length = j ∧ (∀ r ∈ rows, r.length = m) ∧ Hnd H2 a d ∧ Keep a H' H2 ∧ H2 R = some (.lst ws) ∧ H2 Dl = some (.lst (rows.map fun r => V.str (sb r)))) ?_ ?_ ?_
      · exact ⟨[], rfl, fun r hr => (nomatch hr), h1.new hD, Keep.new hD, by rw [upd_ne nDR.symm]; exact h3, upd_same⟩
      · rintro j H2 hj ⟨rows, hl', hr, g1, g2, g3, g4⟩
        refine ⟨rfl, ?_⟩
        refine ⟨_, rfl, _, rfl, a, d, m, rfl, by omega, g1, fun bs H3 hb hh3 hk3 => ⟨_, hk3 _ _ g4 nDa, ?_, ?_⟩⟩
        · rw [List.length_map]
          exact Nat.lt_of_lt_of_le (show rows.length < 10000 by omega) (by decide)
        · refine ⟨rows ++ [bs], by rw [List.length_append, hl']; rfl, ?_, hh3.set nDa nDd, (g2.trans hk3).set hD, ?_, ?_⟩
          · intro r hr'
            rcases List.mem_append.mp hr' with z | z
            · exact hr r z
            · rw [List.mem_singleton.mp z]
              exact hb
          · rw [upd_ne nDR.symm]
            exact hk3 _ _ g3 nRa
          · rw [upd_same, List.map_append]
            rfl
      · rintro H2 ⟨rows, hl', hr, g1, g2, g3, g4⟩
        have hl2 : rows.length = 2 ^ l := by
          rw [hl', hL]
          omega
        refine ⟨Dl, _, rfl, .inl ⟨.inl (.inl g4), fun t nt => ⟨R, ws, _, rfl, rfl, ?_, ?_, ?_⟩⟩⟩
        · rw [upd_ne (ne_of_none g3 nt)]
          exact g3
        · exact Nat.lt_of_lt_of_le (show ws.length < 10000 by omega) (by decide)
        · obtain ⟨nta, ntd⟩ := g1.ne nt
          have ntR : t ≠ R := (ne_of_none g3 nt).symm
          have kk : Keep a H' (upd H2 t (.tup (rows.map fun r => V.str (sb r)))) := g2.trans (Keep.new nt)
          refine ⟨_, _, ws ++ [.ref t], tabs ++ [rows], rfl, by rw [List.length_append, ht]; rfl, ?_, by rw [List.length_append, hws]; rfl, ?_, (g1.new nt).set nRa nRd, (h2.trans kk).set hR, upd_same⟩
          · intro rows' hr'
            rw [← hL]
            rcases List.mem_append.mp hr' with z | z
            · exact hts _ z
            · rw [List.mem_singleton.mp z]
              exact ⟨hl2, hr⟩
          · rw [off_upd, List.map_append]
            refine dpAll_snoc (dps_same (off_mono kk.off) _ hdp) ?_
            refine .tup (.inl (.inl ?_)) (dp_bits rows)
            rw [off_ne ntR, off_ne nta, upd_same]
    · rintro σ H' ⟨y5, y6, ws, tabs, rfl, ht, hts, hws, hdp, h1, h2, h3⟩
      have hl2 : tabs.length = 2 ^ n := by
        rw [ht, hN]
        omega
      refine ⟨_, rfl, _, rfl, _, rfl, _, rfl, R, _, rfl, .inl ⟨.inl (.inl h3), fun t nt => ⟨(by show 5 ≤ sizeLine; decide), fun p np => ?_⟩⟩⟩
      have ht1 := h1.ne nt
      have h1' := h1.new (o := .tup ws) nt
      have hp1 := h1'.ne np
      refine q _ tabs _ hl2 hts ?_ (h1'.new np) ((h2.trans (Keep.new nt)).trans (Keep.new np))
      have e1 : off a (upd (upd H' t (.tup ws)) p (.tup [.str "function", .int (n : Int), .int (l : Int), .int (m : Int), .ref t])) p = some (.tup [.str "function", .int (n : Int), .int (l : Int), .int (m : Int), .ref t]) := by
        rw [off_ne hp1.1, upd_same]
      have e2 : off a (upd (upd H' t (.tup ws)) p (.tup [.str "function", .int (n : Int), .int (l : Int), .int (m : Int), .ref t])) t = some (.tup ws) := by
        rw [off_ne ht1.1, upd_ne (ne_of_none upd_same np), upd_same]
      have e3 : Same (off R (off a H')) (off a (upd (upd H' t (.tup ws)) p (.tup [.str "function", .int (n : Int), .int (l : Int), .int (m : Int), .ref t]))) := fun b o e => (((Keep.new nt).trans (Keep.new np)).off) b o (off_same R _ b o e)
      exact .tup (.inl (.inl e1)) (.cons (.str _) (.cons (.int _) (.cons (.int _) (.cons (.int _) (.cons (.tup (.inl (.inl e2)) (dps_same e3 _ hdp)) .nil)))))

def numsZip (ds : List PyData) (bs : List (Int × Int)) : List Bool := List.zipWith (fun d b => whole d b.1 b.2) ds bs
theorem nums_zip : ∀ {ds : List PyData} {bs : List (Int × Int)}, ds.length = bs.length → numsOk ds bs = (numsZip ds bs).all id
  | [], [], _ => rfl
  | [], _ :: _, h => by cases h
  | _ :: _, [], h => by cases h
  | d :: ds, b :: bs, h => by
    show (whole d b.1 b.2 && numsOk ds bs) = (whole d b.1 b.2 && (numsZip ds bs).all id)
    rw [nums_zip (Nat.succ.inj h)]
theorem pairs_at {K : PySem.W.Frag} {H : Hp} {vs : List V} {bs : List (Int × Int)} {i : Nat} {v : V} (h : DpAll K H vs (bs.map pairD)) (e : vs[i]? = some v) : ∃ b a, bs[i]? = some b ∧ v = .ref a ∧ SqT K H a [.int b.1, .int b.2] := by
  obtain ⟨d, h1, h2⟩ := dp_all_get h e
  rw [List.getElem?_map] at h1
  cases hb : bs[i]? with
  | none =>
    rw [hb] at h1
    cases h1
  | some b =>
    rw [hb] at h1
    have h3 := Option.some.inj h1
    subst h3
    cases h2 with
    | tup hs ha =>
      cases ha with
      | cons h4 h5 =>
        cases h5 with
        | cons h6 h7 =>
          cases h7
          cases h4
          cases h6
          exact ⟨b, _, rfl, rfl, hs⟩
theorem ok_numbers {f : Addr} {fd : FuncData} (D : Df K mg "are_numbers" s_are_numbers ["own", "bounds"] f fd) (T : Txt K w mg cs) (c_is_whole : Cl P w K mg base CX0 1 "is_whole" (spWhole K)) : FnOk P w K mg base CX0 2 f fd ["own", "bounds"] (spNums K) := by
  refine D.fn.ok sc_are_numbers (fun vs H Q E h => ?_) (fun cdv A outer s H vs Q E hr h => ?_)
  · obtain ⟨v, y, ds, bs, n, rfl, _⟩ := h
    rfl
  · obtain ⟨v, y, ds, bs, n, rfl, hv, hg, hy, hbl, q⟩ := h
    refine ⟨_, (pss_cons (ps_if (pt_cmpR op_ne (pe_callB (lenS K) (by rfl) T.n_len (by decide +kernel) (pa_cons (pv 0) pa_nil)) (pe_callB (lenS K) (by rfl) T.n_len (by decide +kernel) (pa_cons (pv 1) pa_nil)) (nomark _)) (pss_one (ps_ret pe_bl)) pss_nil) (pss_one (ps_ret (pe_callB (crAll K rfl) (by rfl) T.n_all (by decide +kernel) (pa_cons (pe_lc (own := [("value", 2), ("low", 3), ("high", 4)]) (g := (gTup K 2 (gCons (gName 2) (gCons (gTup K 2 (gCons (gName 3) (gCons (gName 4) gNil))) gNil)))) (tt := tYes) rfl sc_are_numbers.nd (RZ.pi_zipA (by rfl) T.n_zip (pa_cons (pv 0) (pa_cons (pv 1) pa_nil))) (blkOk_by (own := [("value", 2), ("low", 3), ("high", 4)]) (N := ["own", "bounds", "value", "low", "high"]) (sc := defScope s_are_numbers) (by decide +kernel)) (fun _ _ _ _ _ => (pg_tup (by rfl) (pgs_cons (pg_name (i := 2) sc_are_numbers.nd rfl (.inl rfl)) (pgs_cons (pg_tup (by rfl) (pgs_cons (pg_name (i := 3) sc_are_numbers.nd rfl (.inl rfl)) (pgs_cons (pg_name (i := 4) sc_are_numbers.nd rfl (.inl rfl)) pgs_nil))) pgs_nil)))) (fun _ _ _ _ _ => pts_nil) (fun _ _ _ _ _ => (pe_cl c_is_whole hr (by first | decide | omega) (by rfl) (pa_cons (pv 2) (pa_cons (pv 3) (pa_cons (pv 4) pa_nil)))))) pa_nil))))), ?_⟩
    cases hv with
    | @tup a ws _ hT hA =>
    cases hy with
    | @tup b zs _ hS hB =>
    obtain ⟨hl, n', rfl, hx⟩ := gd_tup hg
    have hwl := dp_all_len hA
    have hzl := dp_all_len hB
    rw [List.length_map] at hzl
    refine ⟨_, rfl, a, ws, rfl, .inr hT, _, rfl, b, zs, rfl, .inr hS, rfl, _, rfl, ?_⟩
    by_cases c : ws.length = zs.length
    · rw [decide_eq_true (show V.int ((ws.length : Nat) : Int) = V.int ((zs.length : Nat) : Int) from congrArg V.int (by omega))]
      refine ⟨_, rfl, _, rfl, a, b, ws, zs, rfl, .inr ⟨hT, hS, fun Dl hD => ?_⟩⟩
      refine lc_it (walk_zipT (n := ws.length) rfl c.symm) (fun i H' => Same H H' ∧ H' Dl = some (.lst (((numsZip ds bs).take i).map V.bl))) ?_ ?_ ?_ ?_
      · exact ⟨same_new hD, upd_same⟩
      · rintro i H' _ ⟨s1, _⟩
        exact ⟨same_sqt s1 hT, same_sqt s1 hS⟩
      · rintro i x H' H2 hi ⟨s1, e1⟩ ⟨t, x1, x2, rfl, nt, rfl, hx1, hx2⟩
        have s2 := s1.trans (same_new (o := .tup [x1, x2]) nt)
        obtain ⟨d, hdi, hdx⟩ := dp_all_get hA hx1
        obtain ⟨bb, pa, hbi, rfl, hpa⟩ := pairs_at hB hx2
        refine ⟨t, [x1, .ref pa], rfl, .inl (.inl upd_same), rfl, x1, _, rfl, .ref pa, _, rfl, ?_⟩
        refine ⟨pa, _, rfl, same_sqt s2 hpa, rfl, _, _, rfl, _, _, rfl, rfl, rfl, rfl, ?_⟩
        refine ⟨_, rfl, _, rfl, _, rfl, x1, d, bb.1, bb.2, rfl, dp_same s2 d hdx, ?_⟩
        have e2 : upd H' t (.tup [x1, .ref pa]) Dl = some (.lst (((numsZip ds bs).take i).map V.bl)) := by
          rw [upd_ne (ne_of_none e1 nt)]
          exact e1
        refine ⟨_, e2, ?_, fun p o e => ?_, ?_⟩
        · rw [List.length_map, List.length_take]
          exact Nat.lt_of_lt_of_le (show min i (numsZip ds bs).length < 10000 by omega) (by decide)
        · rw [upd_ne (ne_of_none e hD)]
          exact s2 p o e
        · rw [upd_same, List.take_add_one]
          have ez : (numsZip ds bs)[i]? = some (whole d bb.1 bb.2) := by
            unfold numsZip
            rw [List.getElem?_zipWith, hdi, hbi]
          rw [ez, List.map_append]
          rfl
      · rintro H' ⟨s1, e1⟩
        have hzn : (numsZip ds bs).length = ws.length := by
          unfold numsZip
          rw [List.length_zipWith]
          omega
        rw [List.take_of_length_le (by omega)] at e1
        refine ⟨Dl, _, rfl, .inl (.inl e1), ?_⟩
        rw [← nums_zip (by omega)]
        exact q H' s1
    · rw [decide_eq_false (show ¬ V.int ((ws.length : Nat) : Int) = V.int ((zs.length : Nat) : Int) from fun z => c (by have := V.int.inj z; omega))]
      have q' := q H (Same.refl H)
      rw [nums_len (by omega)] at q'
      exact q'

theorem ok_longerF {f : Addr} {fd : FuncData} (D : Df K mg "fits_longer" s_fits_longer ["own"] f fd) (T : Txt K w mg cs) (c_is_whole : Cl P w K mg base CX0 1 "is_whole" (spWhole K)) (c_is_generator : Cl P w K mg base CX0 2 "is_generator" (spD K genOk)) : FnOk P w K mg base CX0 3 f fd ["own"] (spOwn K fitLonger) := by
  refine D.fn.ok sc_fits_longer (fun vs H Q E h => ?_) (fun cdv A outer s H vs Q E hr h => ?_)
  · obtain ⟨v, ds, n, rfl, _⟩ := h
    rfl
  · obtain ⟨v, ds, n, rfl, hv, hg, q⟩ := h
    refine ⟨_, (pss_cons (ps_if (PW.pt (pw_or (pt_cmpR op_ne (pe_callB (lenS K) (by rfl) T.n_len (by decide +kernel) (pa_cons (pv 0) pa_nil)) pe_int (nomark _)) (pw_or1 (pt_not (pt_val (pe_cl c_is_generator hr (by first | decide | omega) (by rfl) (pa_cons (pe_ix (ixT K) (pv 0) pe_int (fun _ _ => rfl)) pa_nil))))))) (pss_one (ps_ret pe_bl)) pss_nil) (pss_cons (ps_asg (pe_slice (slTA K) (pe_ix (ixT K) (pv 0) pe_int (fun _ _ => rfl)) (po_some pe_int) (po_some pe_int)) (pg_tup (by rfl) (pgs_cons (pg_name (i := 1) sc_fits_longer.nd rfl (.inl rfl)) (pgs_cons (pg_name (i := 2) sc_fits_longer.nd rfl (.inl rfl)) pgs_nil)))) (pss_one (ps_ret (pe_and (pe_cmpR op_eq (pv 2) (pe_op op_add (pv 1) pe_int) (nomark _)) (pe_one (pe_cl c_is_whole hr (by first | decide | omega) (by rfl) (pa_cons (pe_ix (ixT K) (pv 0) pe_int (fun _ _ => rfl)) (pa_cons pe_int (pa_cons pe_int pa_nil)))))))))), ?_⟩
    cases hv with
    | @tup a ws _ hT hA =>
    obtain ⟨hl, n', rfl, hx⟩ := gd_tup hg
    have hwl := dp_all_len hA
    refine ⟨_, rfl, a, ws, rfl, .inr hT, rfl, _, rfl, ?_⟩
    by_cases c : ws.length = 2
    · obtain ⟨vg, vk, g, k, rfl, rfl, h0, h1⟩ := dp2 hA c
      have g0 := hx g List.mem_cons_self
      rw [decide_eq_true (show V.int (([vg, vk].length : Nat) : Int) = V.int 2 from rfl)]
      refine ⟨_, rfl, a, _, 0, vg, rfl, rfl, hT, rfl, vg, g, n', rfl, h0, g0, fun H1 s1 => ⟨_, rfl, ?_⟩⟩
      have ef : fitLonger [g, k] = (genOk g && (genNext g && whole k 1 20)) := rfl
      cases eg : genOk g with
      | false =>
        rw [ef, eg] at q
        exact q H1 s1
      | true =>
        obtain ⟨kk, r, n, m, rfl, b1, b2, b3, b4⟩ := gen_parts eg
        rw [ef, eg] at q
        cases h0 with
        | @tup ga gs _ gT gA =>
        obtain ⟨v0, v1, v2, v3, d0, d1, d2, d3, rfl, e4, p0, p1, p2, p3⟩ := dp4 gA (dp_all_len gA)
        cases e4
        cases p1
        cases p2
        refine ⟨_, rfl, a, _, 0, .ref ga, rfl, rfl, same_sqt s1 hT, rfl, 1, rfl, 3, rfl, slA_any (same_sqt s1 gT) fun p H2 s2 hc => ?_⟩
        have s12 := s1.trans s2
        refine ⟨p, [.int n, .int m], rfl, hc, rfl, _, _, rfl, _, _, rfl, rfl, ?_⟩
        refine ⟨_, rfl, _, rfl, _, _, rfl, rfl, rfl, _, rfl, ?_⟩
        have q' := fun H' (s' : Same H2 H') => q H' (s12.trans s')
        by_cases cm : m = n + 1
        · rw [decide_eq_true (congrArg V.int cm)]
          refine ⟨_, rfl, a, _, 1, vk, rfl, rfl, same_sqt s12 hT, rfl, vk, k, 1, 20, rfl, dp_same s12 k h1, ?_⟩
          have := q' H2 (Same.refl H2)
          rw [show genNext (.tuple [kk, .int n, .int m, r]) = decide (m = n + 1) from rfl, decide_eq_true cm] at this
          exact this
        · rw [decide_eq_false (fun z => cm (V.int.inj z))]
          have := q' H2 (Same.refl H2)
          rw [show genNext (.tuple [kk, .int n, .int m, r]) = decide (m = n + 1) from rfl, decide_eq_false cm] at this
          exact this
    · have hne : ((ws.length : Nat) : Int) ≠ 2 := by omega
      rw [decide_eq_false (show ¬ V.int (ws.length : Int) = V.int 2 from fun z => hne (V.int.inj z))]
      have q' := q H (Same.refl H)
      rw [fitLonger_no (by omega)] at q'
      exact q'
theorem ok_treeF {f : Addr} {fd : FuncData} (D : Df K mg "fits_tree" s_fits_tree ["own"] f fd) (T : Txt K w mg cs) (c_is_whole : Cl P w K mg base CX0 1 "is_whole" (spWhole K)) (c_is_generator : Cl P w K mg base CX0 2 "is_generator" (spD K genOk)) : FnOk P w K mg base CX0 3 f fd ["own"] (spOwn K fitTree) := by
  refine D.fn.ok sc_fits_tree (fun vs H Q E h => ?_) (fun cdv A outer s H vs Q E hr h => ?_)
  · obtain ⟨v, ds, n, rfl, _⟩ := h
    rfl
  · obtain ⟨v, ds, n, rfl, hv, hg, q⟩ := h
    refine ⟨_, (pss_cons (ps_if (PW.pt (pw_or (pt_cmpR op_ne (pe_callB (lenS K) (by rfl) T.n_len (by decide +kernel) (pa_cons (pv 0) pa_nil)) pe_int (nomark _)) (pw_or1 (pt_not (pt_val (pe_cl c_is_generator hr (by first | decide | omega) (by rfl) (pa_cons (pe_ix (ixT K) (pv 0) pe_int (fun _ _ => rfl)) pa_nil))))))) (pss_one (ps_ret pe_bl)) pss_nil) (pss_cons (ps_asg (pe_slice (slTA K) (pe_ix (ixT K) (pv 0) pe_int (fun _ _ => rfl)) (po_some pe_int) (po_some pe_int)) (pg_tup (by rfl) (pgs_cons (pg_name (i := 1) sc_fits_tree.nd rfl (.inl rfl)) (pgs_cons (pg_name (i := 2) sc_fits_tree.nd rfl (.inl rfl)) pgs_nil)))) (pss_one (ps_ret (pe_and (pe_cmpR op_eq (pv 2) (pe_op op_mul pe_int (pv 1)) (nomark _)) (pe_and (pe_cmpR op_le (pv 1) pe_int (nomark _)) (pe_and (pe_cl c_is_whole hr (by first | decide | omega) (by rfl) (pa_cons (pe_ix (ixT K) (pv 0) pe_int (fun _ _ => rfl)) (pa_cons pe_int (pa_cons (pe_callB (call_min2 rfl) (by rfl) T.n_min (by decide +kernel) (pa_cons pe_int (pa_cons (pe_op op_sub pe_int (pv 1)) pa_nil))) pa_nil)))) (pe_one (pe_cl c_is_whole hr (by first | decide | omega) (by rfl) (pa_cons (pe_ix (ixT K) (pv 0) pe_int (fun _ _ => rfl)) (pa_cons pe_int (pa_cons pe_int pa_nil)))))))))))), ?_⟩
    cases hv with
    | @tup a ws _ hT hA =>
    obtain ⟨hl, n', rfl, hx⟩ := gd_tup hg
    have hwl := dp_all_len hA
    refine ⟨_, rfl, a, ws, rfl, .inr hT, rfl, _, rfl, ?_⟩
    by_cases c : ws.length = 3
    · obtain ⟨vg, vd, vq, g, dd, dq, rfl, rfl, h0, h1, h2⟩ := dp3 hA c
      have g0 := hx g List.mem_cons_self
      rw [decide_eq_true (show V.int (([vg, vd, vq].length : Nat) : Int) = V.int 3 from rfl)]
      refine ⟨_, rfl, a, _, 0, vg, rfl, rfl, hT, rfl, vg, g, n', rfl, h0, g0, fun H1 s1 => ⟨_, rfl, ?_⟩⟩
      have ef : fitTree [g, dd, dq] = (genOk g && genTwice dd dq g) := rfl
      cases eg : genOk g with
      | false =>
        rw [ef, eg] at q
        exact q H1 s1
      | true =>
        obtain ⟨kk, r, n, m, rfl, b1, b2, b3, b4⟩ := gen_parts eg
        rw [ef, eg] at q
        cases h0 with
        | @tup ga gs _ gT gA =>
        obtain ⟨v0, v1, v2, v3, d0, d1, d2, d3, rfl, e4, p0, p1, p2, p3⟩ := dp4 gA (dp_all_len gA)
        cases e4
        cases p1
        cases p2
        refine ⟨_, rfl, a, _, 0, .ref ga, rfl, rfl, same_sqt s1 hT, rfl, 1, rfl, 3, rfl, slA_any (same_sqt s1 gT) fun p H2 s2 hc => ?_⟩
        have s12 := s1.trans s2
        refine ⟨p, [.int n, .int m], rfl, hc, rfl, _, _, rfl, _, _, rfl, rfl, ?_⟩
        have q' := q H2 s12
        rw [show genTwice dd dq (.tuple [kk, .int n, .int m, r]) = (decide (m = 2 * n) && (decide (n ≤ 8) && (whole dd 1 (if 12 - n < 8 then 12 - n else 8) && whole dq 1 1000))) from rfl] at q'
        refine ⟨_, rfl, _, rfl, _, _, rfl, rfl, .inl ⟨by decide, by decide⟩, rfl, _, rfl, ?_⟩
        by_cases cm : m = 2 * n
        · rw [decide_eq_true (congrArg V.int cm)]
          rw [decide_eq_true cm] at q'
          refine ⟨_, rfl, _, _, rfl, rfl, _, rfl, ?_⟩
          by_cases cn : n ≤ 8
          · rw [decide_eq_true cn] at q' ⊢
            refine ⟨_, rfl, a, _, 1, vd, rfl, rfl, same_sqt s12 hT, rfl, _, rfl, _, _, rfl, rfl, _, _, rfl, vd, dd, 1, _, rfl, dp_same s12 dd h1, _, rfl, ?_⟩
            cases cw : whole dd 1 (if 12 - n < 8 then 12 - n else 8) with
            | false =>
              rw [cw] at q'
              exact q'
            | true =>
              rw [cw] at q'
              exact ⟨_, rfl, a, _, 2, vq, rfl, rfl, same_sqt s12 hT, rfl, vq, dq, 1, 1000, rfl, dp_same s12 dq h2, q'⟩
          · rw [decide_eq_false cn] at q' ⊢
            exact q'
        · rw [decide_eq_false (fun z => cm (V.int.inj z))]
          rw [decide_eq_false cm] at q'
          exact q'
    · have hne : ((ws.length : Nat) : Int) ≠ 3 := by omega
      rw [decide_eq_false (show ¬ V.int (ws.length : Int) = V.int 3 from fun z => hne (V.int.inj z))]
      have q' := q H (Same.refl H)
      rw [fitTree_no (by omega)] at q'
      exact q'
theorem ok_onetimeF {f : Addr} {fd : FuncData} (D : Df K mg "fits_onetime" s_fits_onetime ["own"] f fd) (T : Txt K w mg cs) (c_is_whole : Cl P w K mg base CX0 1 "is_whole" (spWhole K)) (c_is_generator : Cl P w K mg base CX0 2 "is_generator" (spD K genOk)) : FnOk P w K mg base CX0 3 f fd ["own"] (spOwn K fitOnetime) := by
  refine D.fn.ok sc_fits_onetime (fun vs H Q E h => ?_) (fun cdv A outer s H vs Q E hr h => ?_)
  · obtain ⟨v, ds, n, rfl, _⟩ := h
    rfl
  · obtain ⟨v, ds, n, rfl, hv, hg, q⟩ := h
    refine ⟨_, (pss_one (ps_ret (pe_and (pe_cmpR op_eq (pe_callB (lenS K) (by rfl) T.n_len (by decide +kernel) (pa_cons (pv 0) pa_nil)) pe_int (nomark _)) (pe_and (pe_cl c_is_generator hr (by first | decide | omega) (by rfl) (pa_cons (pe_ix (ixT K) (pv 0) pe_int (fun _ _ => rfl)) pa_nil)) (pe_one (pe_cl c_is_whole hr (by first | decide | omega) (by rfl) (pa_cons (pe_ix (ixT K) (pv 0) pe_int (fun _ _ => rfl)) (pa_cons pe_int (pa_cons pe_int pa_nil))))))))), ?_⟩
    cases hv with
    | @tup a ws _ hT hA =>
    obtain ⟨hl, n', rfl, hx⟩ := gd_tup hg
    have hwl := dp_all_len hA
    refine ⟨_, rfl, a, ws, rfl, .inr hT, rfl, _, rfl, ?_⟩
    by_cases c : ws.length = 2
    · obtain ⟨vg, vk, g, k, rfl, rfl, h0, h1⟩ := dp2 hA c
      have g0 := hx g List.mem_cons_self
      rw [decide_eq_true (show V.int (([vg, vk].length : Nat) : Int) = V.int 2 from rfl)]
      refine ⟨_, rfl, a, _, 0, vg, rfl, rfl, hT, rfl, vg, g, n', rfl, h0, g0, fun H1 s1 => ⟨_, rfl, ?_⟩⟩
      have ef : fitOnetime [g, k] = (genOk g && whole k 1 4) := rfl
      cases eg : genOk g with
      | false =>
        rw [ef, eg] at q
        exact q H1 s1
      | true =>
        rw [ef, eg] at q
        exact ⟨_, rfl, a, _, 1, vk, rfl, rfl, same_sqt s1 hT, rfl, vk, k, 1, 4, rfl, dp_same s1 k h1, q H1 s1⟩
    · have hne : ((ws.length : Nat) : Int) ≠ 2 := by omega
      rw [decide_eq_false (show ¬ V.int (ws.length : Int) = V.int 2 from fun z => hne (V.int.inj z))]
      have q' := q H (Same.refl H)
      rw [fitOnetime_no (by omega)] at q'
      exact q'
theorem ok_openingF {f : Addr} {fd : FuncData} (D : Df K mg "fits_opening" s_fits_opening ["own"] f fd) (T : Txt K w mg cs) (c_are_rows : Cl P w K mg base CX0 1 "are_rows" (spRows K)) : FnOk P w K mg base CX0 3 f fd ["own"] (spOwn K fitOpening) := by
  refine D.fn.ok sc_fits_opening (fun vs H Q E h => ?_) (fun cdv A outer s H vs Q E hr h => ?_)
  · obtain ⟨v, ds, n, rfl, _⟩ := h
    rfl
  · obtain ⟨v, ds, n, rfl, hv, hg, q⟩ := h
    refine ⟨_, (pss_cons (ps_if (PW.pt (pw_or (pt_cmpR op_ne (pe_callB (lenS K) (by rfl) T.n_len (by decide +kernel) (pa_cons (pv 0) pa_nil)) pe_int (nomark _)) (pw_or1 (pt_not (pt_val (pe_callB (isiK K) (by rfl) T.n_isinstance (by decide +kernel) (pa_cons (pe_ix (ixT K) (pv 0) pe_int (fun _ _ => rfl)) (pa_cons (pe_ty "str" (by rfl) T.n_str (by decide +kernel)) pa_nil)))))))) (pss_one (ps_ret pe_bl)) pss_nil) (pss_one (ps_ret (pe_and (pe_chain op_le op_le pe_int (pe_callB call_len_str (by rfl) T.n_len (by decide +kernel) (pa_cons (pe_ix (ixT K) (pv 0) pe_int (fun _ _ => rfl)) pa_nil)) (C8.pe_gc (by rfl) T.g_MOST_BITS)) (pe_one (pe_cl c_are_rows hr (by first | decide | omega) (by rfl) (pa_cons (pv 0) (pa_cons pe_int (pa_cons (pe_callB call_len_str (by rfl) T.n_len (by decide +kernel) (pa_cons (pe_ix (ixT K) (pv 0) pe_int (fun _ _ => rfl)) pa_nil)) pa_nil))))))))), ?_⟩
    have hv0 := hv
    cases hv with
    | @tup a ws _ hT hA =>
    obtain ⟨hl, n', rfl, hx⟩ := gd_tup hg
    have hwl := dp_all_len hA
    refine ⟨_, rfl, a, ws, rfl, .inr hT, rfl, _, rfl, ?_⟩
    by_cases c : ws.length = 1
    · obtain ⟨vx, x, rfl, rfl, h0⟩ := dp1 hA c
      have g0 := hx x List.mem_cons_self
      rw [decide_eq_true (show V.int (([vx].length : Nat) : Int) = V.int 1 from rfl)]
      refine ⟨_, rfl, a, _, 0, vx, rfl, rfl, hT, rfl, _, _, _, _, _, rfl, .ty "str", dp_ty h0, kit_str x, _, rfl, ?_⟩
      have q0 := q H (Same.refl H)
      cases x with
      | str z =>
        cases h0
        have hz := (gd_str g0).2
        refine ⟨_, rfl, a, _, 0, .str z, rfl, rfl, hT, rfl, z, rfl, by rw [sizeLine_eq]; omega, _, _, rfl, rfl, _, rfl, ?_⟩
        have ef : fitOpening [.str z] = (decide ((1 : Int) ≤ (z.length : Int)) && (decide ((z.length : Int) ≤ 40) && rowsOk (.tuple [.str z]) 1 (z.length : Int))) := rfl
        rw [ef] at q0 q
        by_cases c1 : (1 : Int) ≤ (z.length : Int)
        · rw [decide_eq_true c1] at q0 q ⊢
          refine ⟨_, _, rfl, rfl, _, rfl, ?_⟩
          by_cases c2 : (z.length : Int) ≤ 40
          · rw [decide_eq_true c2] at q0 q ⊢
            exact ⟨_, rfl, _, rfl, a, _, 0, .str z, rfl, rfl, hT, rfl, z, rfl, by rw [sizeLine_eq]; omega, _, _, _, _, _, rfl, hv0, hg, by decide, c2, q⟩
          · rw [decide_eq_false c2] at q0 ⊢
            exact q0
        · rw [decide_eq_false c1] at q0 ⊢
          exact ⟨_, rfl, q0⟩
      | none => exact q0
      | bool b => exact q0
      | int b => exact q0
      | tuple b => exact q0
      | list b => exact q0
      | dict b => exact q0
    · have hne : ((ws.length : Nat) : Int) ≠ 1 := by omega
      rw [decide_eq_false (show ¬ V.int (ws.length : Int) = V.int 1 from fun z => hne (V.int.inj z))]
      have q' := q H (Same.refl H)
      rw [fitOpening_no (by omega)] at q'
      exact q'

theorem at_zero {v : V} {vs : List V} : atI (v :: vs) 0 = some v := atI_nat (j := 0) rfl
theorem dp_nil {K : PySem.W.Frag} {H : Hp} {p : Addr} (e : H p = some (.tup [])) : Dp K H (.ref p) (.tuple []) := .tup (.inl (.inl e)) .nil
theorem ok_made {f : Addr} {fd : FuncData} (D : Df K mg "is_made" s_is_made ["value"] f fd) (T : Txt K w mg cs) : FnOk P w K mg base CX0 1 f fd ["value"] (spD K madeD) := by
  refine D.fn.ok sc_is_made (fun vs H Q E h => ?_) (fun cdv A outer s H vs Q E hr h => ?_)
  · obtain ⟨v, d, n, rfl, _⟩ := h
    rfl
  · obtain ⟨v, d, n, rfl, hd, hg, q⟩ := h
    refine ⟨_, (pss_cons (ps_if (PW.pt (pw_or (pt_not (pt_val (pe_callB (isiK K) (by rfl) T.n_isinstance (by decide +kernel) (pa_cons (pv 0) (pa_cons (pe_ty "tuple" (by rfl) T.n_tuple (by decide +kernel)) pa_nil))))) (pw_or (pt_cmpR (op_eqF K hr.units) (pv 0) (pe_tup pa_nil) (nomark _)) (pw_or1 (pt_not (pt_val (pe_callB (isiK K) (by rfl) T.n_isinstance (by decide +kernel) (pa_cons (pe_ix (ixT K) (pv 0) pe_int (fun _ _ => rfl)) (pa_cons (pe_ty "str" (by rfl) T.n_str (by decide +kernel)) pa_nil))))))))) (pss_one (ps_ret pe_bl)) pss_nil) (pss_one (ps_ret (pe_or (pe_cmpR (in_dk T.dk_NUMBERS) (pe_ix (ixT K) (pv 0) pe_int (fun _ _ => rfl)) (pe_glob (v := .ref cs.NUMBERS) (by rfl) T.gl_NUMBERS rfl) (by rfl)) (pe_one (pe_cmpR (in_dk T.dk_FITTING) (pe_ix (ixT K) (pv 0) pe_int (fun _ _ => rfl)) (pe_glob (v := .ref cs.FITTING) (by rfl) T.gl_FITTING rfl) (by rfl))))))), ?_⟩
    refine ⟨_, rfl, _, _, _, _, _, rfl, .ty "tuple", dp_ty hd, kit_tup d, _, rfl, ?_⟩
    have q0 := q H (Same.refl H)
    cases d with
    | tuple xs =>
      refine ⟨_, rfl, (by show 0 ≤ sizeLine; exact Nat.zero_le _), fun p np => ?_⟩
      have s1 := same_new (o := .tup []) np
      refine ⟨_, _, dp_same s1 _ hd, dp_nil upd_same, gd_lay hg, nil_lay, nil_dep, _, rfl, ?_⟩
      generalize upd H p (.tup []) = H1 at s1
      have q1 := q H1 s1
      rw [eqv_nil]
      cases hd with
      | @tup a ws _ hT hA =>
      replace hT := same_sqt s1 hT
      cases xs with
      | nil => exact q1
      | cons x xs =>
        obtain ⟨v0, vs, rfl, h0, _⟩ := dp_cons hA
        replace h0 := dp_same s1 x h0
        refine ⟨_, rfl, a, _, 0, v0, rfl, rfl, hT, at_zero, _, _, _, _, _, rfl, .ty "str", dp_ty h0, kit_str x, _, rfl, ?_⟩
        cases x with
        | str z =>
          cases h0
          refine ⟨_, rfl, a, _, 0, .str z, rfl, rfl, hT, at_zero, z, rfl, rfl, _, rfl, ?_⟩
          replace q1 : Q (.bl (decide (z ∈ numK) || decide (z ∈ fitK))) H1 := q1
          cases c : decide (z ∈ numK) with
          | true =>
            rw [c] at q1
            exact q1
          | false =>
            rw [c] at q1
            exact ⟨_, rfl, a, _, 0, .str z, rfl, rfl, hT, at_zero, z, rfl, rfl, q1⟩
        | none => exact q1
        | bool b => exact q1
        | int b => exact q1
        | tuple b => exact q1
        | list b => exact q1
        | dict b => exact q1
    | none => exact q0
    | bool b => exact q0
    | int b => exact q0
    | str b => exact q0
    | list b => exact q0
    | dict b => exact q0
theorem num_has {K : PySem.W.Frag} : HasV (numR K) := fun z u ⟨a, e, _⟩ => ⟨.ref a, e⟩
theorem fit_has {mg : Str → Option Value} : HasV (fitR mg) := fun z u ⟨f, e, _⟩ => ⟨.ref f, e⟩
/-- which of the four fits is meant by a name -/
def fitF (mg : Str → Option Value) (K : PySem.W.Frag) (f : Addr) (sp : Sp) : Prop := (mg "fits_longer" = some (.ref f) ∧ sp = spOwn K fitLonger) ∨ (mg "fits_tree" = some (.ref f) ∧ sp = spOwn K fitTree) ∨ (mg "fits_opening" = some (.ref f) ∧ sp = spOwn K fitOpening) ∨ (mg "fits_onetime" = some (.ref f) ∧ sp = spOwn K fitOnetime)
theorem held_of {k : Nat} {x : Str} {sp : Sp} {f : Addr} (c : Cl P w K mg base CX0 k x sp) (e : mg x = some (.ref f)) : Held P w K mg base k f sp := by
  obtain ⟨g, fd, ps, F, hm, kp, b⟩ := c.ex
  have := Option.some.inj (hm.symm.trans e)
  cases this
  exact ⟨fd, ps, F, kp, b⟩
theorem num_len (z : Str) : (numOf z).length ≤ 100 := by
  have h : ∀ p ∈ numL, p.2.length ≤ 100 := by decide
  unfold numOf
  cases e : numL.find? (fun p => decide (p.1 = z)) with
  | none => exact Nat.zero_le _
  | some p => exact h p (List.mem_of_find?_eq_some e)
def spKind (K : PySem.W.Frag) : Sp := fun vs H Q _ => ∃ (v : V) (z : Str) (r : List PyData) (n : Nat), vs = [v] ∧ Dp K H v (.tuple (.str z :: r)) ∧ Gd n (.tuple (.str z :: r)) ∧ madeZ z = true ∧ ∀ H', Same H H' → Q (.bl (fitZ z r.dropLast)) H'
theorem ok_kind {f : Addr} {fd : FuncData} (D : Df K mg "fits_kind" s_fits_kind ["made"] f fd) (T : Txt K w mg cs) (c_are_numbers : Cl P w K mg base CX0 2 "are_numbers" (spNums K))
    (A_fits : ∀ f sp, fitF mg K f sp → Held P w K mg base 3 f sp) : FnOk P w K mg base CX0 4 f fd ["made"] (spKind K) := by
  refine D.fn.ok sc_fits_kind (fun vs H Q E h => ?_) (fun cdv A outer s H vs Q E hr h => ?_)
  · obtain ⟨v, z, r, n, rfl, _⟩ := h
    rfl
  · obtain ⟨v, z, r, n, rfl, hd, hg, hz, q⟩ := h
    refine ⟨_, (pss_cons (ps_par (i := 1) (j := 2) (by rfl) sc_fits_kind.nd rfl rfl (by decide) rfl rfl (pa_cons (pe_ix (ixT K) (pv 0) pe_int (fun _ _ => rfl)) (pa_cons (pe_slice (slTA K) (pv 0) (po_some pe_int) (po_some (pe_un un_neg pe_int))) pa_nil)) (by rfl)) (pss_cons (ps_if (pt_cmpR (in_dk T.dk_NUMBERS) (pv 1) (pe_glob (v := .ref cs.NUMBERS) (by rfl) T.gl_NUMBERS rfl) (by rfl)) (pss_one (ps_ret (pe_cl c_are_numbers hr (by first | decide | omega) (by rfl) (pa_cons (pv 2) (pa_cons (pe_ix (ix_dk T.dk_NUMBERS) (pe_glob (v := .ref cs.NUMBERS) (by rfl) T.gl_NUMBERS rfl) (pv 1) (fun _ _ => rfl)) pa_nil))))) pss_nil) (pss_cons (ps_set (i := 3) sc_fits_kind.nd rfl (.inl rfl) (pe_ix (ix_dk T.dk_FITTING) (pe_glob (v := .ref cs.FITTING) (by rfl) T.gl_FITTING rfl) (pv 1) (fun _ _ => rfl))) (pss_one (ps_ret (pe_callH (i := 3) A_fits hr (by first | decide | omega) (by rfl) (.inl rfl) (pa_cons (pv 2) pa_nil))))))), ?_⟩
    cases hd with
    | @tup a ws _ hT hA =>
    obtain ⟨v0, vs, rfl, h0, hA'⟩ := dp_cons hA
    cases h0
    obtain ⟨hl, n', rfl, hx⟩ := gd_tup hg
    have gl := gds_last fun x h => hx x (List.mem_cons_of_mem _ h)
    refine ⟨_, rfl, a, _, 0, .str z, rfl, rfl, hT, at_zero, _, rfl, 1, rfl, 1, rfl, -1, rfl, slA_any hT fun p H1 s1 hp => ⟨_, _, rfl, ?_⟩⟩
    rw [cut_mid] at hp
    have hown : Dp K H1 (.ref p) (.tuple r.dropLast) := .tup hp (dps_same s1 _ (dps_last hA'))
    have gown : Gd (n' + 1) (.tuple r.dropLast) := ⟨by
      rw [List.length_dropLast]
      rw [List.length_cons] at hl
      omega, gl⟩
    refine ⟨_, rfl, z, rfl, rfl, _, rfl, ?_⟩
    by_cases cn : z ∈ numK
    · rw [decide_eq_true cn]
      refine ⟨_, rfl, _, rfl, z, rfl, rfl, cn, fun u uu ru hu => ?_⟩
      obtain ⟨b, rfl, hb⟩ := hu
      have eu : u = .ref b := by
        cases u <;> first | (cases ru; rfl) | (obtain ⟨_, k⟩ := ru; cases k) | (cases ru)
      subst eu
      refine ⟨_, _, _, numOf z, _, rfl, hown, gown, hb H1, num_len z, fun H2 s2 => ?_⟩
      have q' := q H2 (s1.trans s2)
      unfold fitZ at q'
      rw [if_pos cn] at q'
      exact q'
    · rw [decide_eq_false cn]
      have hf : z ∈ fitK := by
        unfold madeZ at hz
        rw [decide_eq_false cn, Bool.false_or] at hz
        exact of_decide_eq_true hz
      refine ⟨_, rfl, z, rfl, rfl, hf, fun u uu ru hu => ?_⟩
      obtain ⟨g, rfl, hgz⟩ := hu
      have eu : u = .ref g := by
        cases u <;> first | (cases ru; rfl) | (obtain ⟨_, k⟩ := ru; cases k) | (cases ru)
      subst eu
      have q' := fun H2 (s2 : Same H1 H2) => q H2 (s1.trans s2)
      unfold fitZ at q'
      rcases hgz with ⟨rfl, e⟩ | ⟨rfl, e⟩ | ⟨rfl, e⟩ | ⟨rfl, e⟩
      · exact ⟨g, _, rfl, .inl ⟨e, rfl⟩, _, rfl, _, _, _, rfl, hown, gown, q'⟩
      · exact ⟨g, _, rfl, .inr (.inl ⟨e, rfl⟩), _, rfl, _, _, _, rfl, hown, gown, q'⟩
      · exact ⟨g, _, rfl, .inr (.inr (.inl ⟨e, rfl⟩)), _, rfl, _, _, _, rfl, hown, gown, q'⟩
      · exact ⟨g, _, rfl, .inr (.inr (.inr ⟨e, rfl⟩)), _, rfl, _, _, _, rfl, hown, gown, q'⟩
theorem ok_part {f : Addr} {fd : FuncData} (D : Df K mg "is_part" s_is_part ["value"] f fd) (T : Txt K w mg cs) (c_is_whole : Cl P w K mg base CX0 1 "is_whole" (spWhole K)) : FnOk P w K mg base CX0 2 f fd ["value"] (spD K partOk) := by
  refine D.fn.ok sc_is_part (fun vs H Q E h => ?_) (fun cdv A outer s H vs Q E hr h => ?_)
  · obtain ⟨v, d, n, rfl, _⟩ := h
    rfl
  · obtain ⟨v, d, n, rfl, hd, hg, q⟩ := h
    refine ⟨_, (pss_cons (ps_if (pt_val (pe_callB (isiK K) (by rfl) T.n_isinstance (by decide +kernel) (pa_cons (pv 0) (pa_cons (pe_ty "str" (by rfl) T.n_str (by decide +kernel)) pa_nil)))) (pss_one (ps_ret (pe_cmpR op_in_seq (pv 0) (pe_tup (pa_cons pe_str (pa_cons pe_str pa_nil))) (by rfl)))) pss_nil) (pss_one (ps_ret (pe_cl c_is_whole hr (by first | decide | omega) (by rfl) (pa_cons (pv 0) (pa_cons pe_int (pa_cons (C8.pe_gc (by rfl) T.g_LAST_BIT) pa_nil))))))), ?_⟩
    refine ⟨_, rfl, _, _, _, _, _, rfl, .ty "str", dp_ty hd, kit_str d, _, rfl, ?_⟩
    have q0 := q H (Same.refl H)
    have other : partOk d = whole d 0 9999 → isStr d = false → Q (.bl (whole d 0 9999)) H := fun e _ => e ▸ q0
    cases d with
    | str z =>
      cases hd
      refine ⟨_, rfl, (by show 2 ≤ sizeLine; decide), fun p np => ⟨p, _, rfl, .inr (.inl (.inl upd_same)), rfl, rfl, ?_⟩⟩
      have e : inV (.str z) [.str "0", .str "1"] = partOk (.str z) := by
        show ((eqV (.str "0") (.str z) || (eqV (.str "1") (.str z) || false)) : Bool) = (decide (z = "0") || decide (z = "1"))
        rw [Bool.or_false]
        have ee : ∀ y : Str, eqV (.str y) (.str z) = decide (z = y) := fun y => by
          show (y == z) = _
          by_cases h : z = y
          · rw [decide_eq_true h, h]
            exact beq_self_eq_true y
          · rw [decide_eq_false h]
            exact beq_eq_false_iff_ne.mpr fun k => h k.symm
        rw [ee, ee]
      have q' := q _ (same_new (o := .tup [.str "0", .str "1"]) np)
      rw [← e] at q'
      exact q'
    | none => exact ⟨_, rfl, _, _, 0, 9999, rfl, hd, other rfl rfl⟩
    | bool b => exact ⟨_, rfl, _, _, 0, 9999, rfl, hd, other rfl rfl⟩
    | int b => exact ⟨_, rfl, _, _, 0, 9999, rfl, hd, other rfl rfl⟩
    | tuple b => exact ⟨_, rfl, _, _, 0, 9999, rfl, hd, other rfl rfl⟩
    | list b => exact ⟨_, rfl, _, _, 0, 9999, rfl, hd, other rfl rfl⟩
    | dict b => exact ⟨_, rfl, _, _, 0, 9999, rfl, hd, other rfl rfl⟩
theorem ok_parts {f : Addr} {fd : FuncData} (D : Df K mg "are_parts" s_are_parts ["value"] f fd) (T : Txt K w mg cs) (c_is_part : Cl P w K mg base CX0 2 "is_part" (spD K partOk)) : FnOk P w K mg base CX0 3 f fd ["value"] (spD K partsOk) := by
  refine D.fn.ok sc_are_parts (fun vs H Q E h => ?_) (fun cdv A outer s H vs Q E hr h => ?_)
  · obtain ⟨v, d, n, rfl, _⟩ := h
    rfl
  · obtain ⟨v, d, n, rfl, hd, hg, q⟩ := h
    refine ⟨_, (pss_one (ps_ret (pe_and (pe_callB (isiK K) (by rfl) T.n_isinstance (by decide +kernel) (pa_cons (pv 0) (pa_cons (pe_ty "tuple" (by rfl) T.n_tuple (by decide +kernel)) pa_nil))) (pe_one (pe_callB (crAll K rfl) (by rfl) T.n_all (by decide +kernel) (pa_cons (pe_lc (own := [("part", 1)]) (g := gName 1) (tt := tYes) rfl sc_are_parts.nd (pi_tup (pv 0)) (blkOk_by (own := [("part", 1)]) (N := ["value", "part"]) (sc := defScope s_are_parts) (by decide +kernel)) (fun _ _ _ _ _ => (pg_name (i := 1) sc_are_parts.nd rfl (.inl rfl))) (fun _ _ _ _ _ => pts_nil) (fun _ _ _ _ _ => (pe_cl c_is_part hr (by first | decide | omega) (by rfl) (pa_cons (pv 1) pa_nil)))) pa_nil)))))), ?_⟩
    refine ⟨_, rfl, _, _, _, _, _, rfl, .ty "tuple", dp_ty hd, kit_tup d, _, rfl, ?_⟩
    have q0 := q H (Same.refl H)
    cases d with
    | tuple xs =>
      cases hd with
      | @tup a ws _ hT hA =>
      obtain ⟨hl, n', rfl, hx⟩ := gd_tup hg
      have hwl := dp_all_len hA
      refine ⟨_, rfl, a, rfl, ⟨_, hT⟩, fun Dl hD => ?_⟩
      refine lc_tup (xs := ws) (fun i H' => Same H H' ∧ H' Dl = some (.lst ((xs.take i).map fun x => V.bl (partOk x)))) ?_ ?_ ?_ ?_
      · exact ⟨same_new hD, upd_same⟩
      · rintro i H' _ ⟨s1, _⟩
        exact same_sqt s1 hT
      · rintro i x H' hxi ⟨s1, e1⟩
        obtain ⟨d, hdi, hdx⟩ := dp_all_get hA hxi
        have hi : i < xs.length := (List.getElem?_eq_some_iff.mp hdi).1
        refine ⟨rfl, ?_⟩
        refine ⟨_, rfl, x, d, _, rfl, dp_same s1 d hdx, hx d (List.mem_of_getElem? hdi), fun H2 s2 => ?_⟩
        refine ⟨_, s2 _ _ e1, ?_, fun p o e => ?_, ?_⟩
        · rw [List.length_map, List.length_take]
          exact Nat.lt_of_lt_of_le (show min i xs.length < 10000 by omega) (by decide)
        · rw [upd_ne (ne_of_none e hD)]
          exact s2 _ _ (s1 p o e)
        · rw [upd_same, List.take_add_one, hdi, List.map_append]
          rfl
      · rintro H' ⟨s1, e1⟩
        rw [List.take_of_length_le (by omega)] at e1
        have em : (xs.map fun x => V.bl (partOk x)) = (xs.map partOk).map V.bl := by
          rw [List.map_map]
          rfl
        rw [em] at e1
        refine ⟨Dl, _, rfl, .inl (.inl e1), ?_⟩
        have ea : (xs.map partOk).all id = partsOk (.tuple xs) := by
          rw [List.all_map]
          rfl
        rw [ea]
        exact q H' s1
    | none => exact q0
    | bool b => exact q0
    | int b => exact q0
    | str b => exact q0
    | list b => exact q0
    | dict b => exact q0

end
theorem named_eq {x : Str} {d : PyData} (h : named x d = true) : d = .str x := by
  cases d with
  | str z =>
    rw [named_str] at h
    rw [of_decide_eq_true h]
  | none => exact absurd h (by unfold named; simp [PyData.eqv])
  | bool b => exact absurd h (by unfold named; simp [PyData.eqv])
  | int b => exact absurd h (by unfold named; simp [PyData.eqv])
  | list b => exact absurd h (by unfold named; simp [PyData.eqv])
  | tuple b => exact absurd h (by unfold named; simp [PyData.eqv])
  | dict b => exact absurd h (by unfold named; simp [PyData.eqv])
theorem looks_eq {k : PyData} {r : List PyData} : looksOk (.tuple (k :: r)) = if named "say" k then sayOk r else if named "toss" k then tossOk r else if named "look" k then lookOk r else named "ask" k && askOk r := rfl
theorem sayOk_no {r : List PyData} (h : r.length ≠ 1) : sayOk r = false := by
  unfold sayOk
  split
  · exact absurd rfl h
  · rfl
theorem tossOk_no {r : List PyData} (h : r.length ≠ 1) : tossOk r = false := by
  unfold tossOk
  split
  · exact absurd rfl h
  · rfl
theorem lookOk_no {r : List PyData} (h : r.length ≠ 3) : lookOk r = false := by
  unfold lookOk
  split
  · exact absurd rfl h
  · rfl
theorem askOk_no {r : List PyData} (h : r.length ≠ 2) : askOk r = false := by
  unfold askOk
  split
  · exact absurd rfl h
  · rfl
theorem toss_kids {r : List PyData} (h : tossOk r = true) : ∃ xs, r = [.tuple xs] ∧ 1 ≤ xs.length ∧ xs.length ≤ 64 := by
  unfold tossOk at h
  split at h
  · rename_i xs
    rw [Bool.and_eq_true, decide_eq_true_eq, decide_eq_true_eq] at h
    exact ⟨xs, rfl, by omega, by omega⟩
  · cases h
theorem kids_toss {k : PyData} {xs : List PyData} (h : named "toss" k = true) : kidsD (.tuple [k, .tuple xs]) = xs := by
  show (if named "toss" k then xs else _) = xs
  rw [if_pos h]
theorem kids_other {k : PyData} {r : List PyData} (h : named "toss" k = false) : kidsD (.tuple (k :: r)) = r.drop 1 := by
  show (if named "toss" k then _ else r.drop 1) = r.drop 1
  rw [if_neg (by rw [h]; decide)]
theorem kids_gd {n : Nat} {d x : PyData} (h : Gd n d) (hx : x ∈ kidsD d) : Gd n x := by
  unfold kidsD at hx
  split at hx
  · rename_i k r
    obtain ⟨hl, n', rfl, hg⟩ := gd_tup h
    split at hx
    · split at hx
      · rename_i xs _
        have h1 := hg (.tuple xs) (List.mem_cons_of_mem _ List.mem_cons_self)
        obtain ⟨_, m, rfl, h2⟩ := gd_tup h1
        exact gd_le (h2 x hx) (by omega)
      · cases hx
    · exact gd_up (hg x (List.mem_cons_of_mem _ (List.mem_of_mem_drop hx)))
  · cases hx
theorem kids_len {n : Nat} {d : PyData} (h : Gd n d) : (kidsD d).length ≤ 5000 := by
  unfold kidsD
  split
  · rename_i k r
    obtain ⟨hl, n', rfl, hg⟩ := gd_tup h
    split
    · split
      · rename_i xs _
        have h1 := hg (.tuple xs) (List.mem_cons_of_mem _ List.mem_cons_self)
        exact (gd_tup h1).1
      · exact Nat.zero_le _
    · rw [List.length_drop]
      rw [List.length_cons] at hl
      omega
  · exact Nat.zero_le _
theorem sz_pos (n : Nat) (d : PyData) : 1 ≤ szN n d := by
  cases n with
  | zero => exact Nat.le_refl 1
  | succ n =>
    show 1 ≤ 1 + _
    omega
/-! ### the pile of a walk through a breaker: address, value, data, how deep -/
abbrev Ent : Type := Addr × V × PyData × Nat
def good (xs : List Ent) (many : Nat) : Bool := xs.all (fun x => okN (61 - x.2.2.2) x.2.2.1) && decide (many + (xs.map fun x => szN (61 - x.2.2.2) x.2.2.1).sum ≤ 2001)
theorem good_nil {many : Nat} (h : many ≤ 2001) : good [] many = true := by
  show (true && decide (many + 0 ≤ 2001)) = true
  rw [Bool.true_and, decide_eq_true (by omega)]
theorem good_many {xs : List Ent} {x : Ent} {many : Nat} (h : 2001 < many + 1) : good (xs ++ [x]) many = false := by
  unfold good
  rw [List.map_append, List.sum_append]
  have := sz_pos (61 - x.2.2.2) x.2.2.1
  rw [decide_eq_false (show ¬ many + ((xs.map fun x => szN (61 - x.2.2.2) x.2.2.1).sum + ([x].map fun x => szN (61 - x.2.2.2) x.2.2.1).sum) ≤ 2001 by
    rw [List.map_cons, List.sum_cons]
    omega), Bool.and_false]
theorem good_bad {xs : List Ent} {x : Ent} {many : Nat} (h : okN (61 - x.2.2.2) x.2.2.1 = false) : good (xs ++ [x]) many = false := by
  unfold good
  rw [List.all_append, List.all_cons, h, Bool.false_and, Bool.and_false, Bool.false_and]
theorem okN_deep {k : Nat} {d : PyData} (h : 60 < k) : okN (61 - k) d = false := by
  rw [show 61 - k = 0 by omega]
  rfl
theorem okN_looks {k : Nat} {d : PyData} (h : looksOk d = false) : okN k d = false := by
  cases k with
  | zero => rfl
  | succ k =>
    show (looksOk d && _) = false
    rw [h, Bool.false_and]
theorem good_step {xs es : List Ent} {x : Ent} {many : Nat} (hk : x.2.2.2 ≤ 60) (hl : looksOk x.2.2.1 = true) (he : es.map (fun e => e.2.2) = (kidsD x.2.2.1).map fun d => (d, x.2.2.2 + 1)) :
    good (xs ++ [x]) many = good (xs ++ es) (many + 1) := by
  unfold good
  obtain ⟨p, v, d, k⟩ := x
  dsimp only at hk hl he
  have hn : 61 - k = (60 - k) + 1 := by omega
  have e1 : es.all (fun e => okN (61 - e.2.2.2) e.2.2.1) = (kidsD d).all (okN (60 - k)) := by
    have h1 : es.all (fun e => okN (61 - e.2.2.2) e.2.2.1) = (es.map (fun e => e.2.2)).all (fun e => okN (61 - e.2) e.1) := by
      rw [List.all_map]
      rfl
    rw [h1, he, List.all_map]
    have h2 : 61 - (k + 1) = 60 - k := by omega
    show (kidsD d).all (fun d => okN (61 - (k + 1)) d) = _
    rw [h2]
  have e2 : (es.map (fun e => szN (61 - e.2.2.2) e.2.2.1)).sum = ((kidsD d).map (szN (60 - k))).sum := by
    have h1 : es.map (fun e => szN (61 - e.2.2.2) e.2.2.1) = (es.map (fun e => e.2.2)).map (fun e => szN (61 - e.2) e.1) := by
      rw [List.map_map]
      rfl
    rw [h1, he, List.map_map]
    have h2 : 61 - (k + 1) = 60 - k := by omega
    show ((kidsD d).map (fun d => szN (61 - (k + 1)) d)).sum = _
    rw [h2]
  rw [List.all_append, List.all_append, List.map_append, List.map_append, List.sum_append, List.sum_append, e1, e2]
  have e3 : [(p, v, d, k)].all (fun x => okN (61 - x.2.2.2) x.2.2.1) = (kidsD d).all (okN (60 - k)) := by
    show (okN (61 - k) d && true) = _
    rw [Bool.and_true, hn]
    show (looksOk d && _) = _
    rw [hl, Bool.true_and]
  have e4 : ([(p, v, d, k)].map (fun x => szN (61 - x.2.2.2) x.2.2.1)).sum = 1 + ((kidsD d).map (szN (60 - k))).sum := by
    show szN (61 - k) d + 0 = _
    rw [hn]
    rfl
  rw [e3, e4]
  congr 1
  apply decide_eq_decide.mpr
  omega

section
variable {P : Program} {w : World} {K : PySem.W.Frag} {mg : Str → Option Value} {base : Heap} {cs : Cs}
theorem ok_looks {f : Addr} {fd : FuncData} (D : Df K mg "looks_plain" s_looks_plain ["value"] f fd) (T : Txt K w mg cs) (c_is_whole : Cl P w K mg base CX0 1 "is_whole" (spWhole K)) (c_are_parts : Cl P w K mg base CX0 3 "are_parts" (spD K partsOk)) : FnOk P w K mg base CX0 4 f fd ["value"] (spD K looksOk) := by
  refine D.fn.ok sc_looks_plain (fun vs H Q E h => ?_) (fun cdv A outer s H vs Q E hr h => ?_)
  · obtain ⟨v, d, n, rfl, _⟩ := h
    rfl
  · obtain ⟨v, d, n, rfl, hd, hg, q⟩ := h
    refine ⟨_, (pss_cons (ps_if (PW.pt (pw_or (pt_not (pt_val (pe_callB (isiK K) (by rfl) T.n_isinstance (by decide +kernel) (pa_cons (pv 0) (pa_cons (pe_ty "tuple" (by rfl) T.n_tuple (by decide +kernel)) pa_nil))))) (pw_or1 (pt_cmpR (op_eqF K hr.units) (pv 0) (pe_tup pa_nil) (nomark _))))) (pss_one (ps_ret pe_bl)) pss_nil) (pss_cons (ps_par (i := 1) (j := 2) (by rfl) sc_looks_plain.nd rfl rfl (by decide) rfl rfl (pa_cons (pe_ix (ixT K) (pv 0) pe_int (fun _ _ => rfl)) (pa_cons (pe_callB (lenS K) (by rfl) T.n_len (by decide +kernel) (pa_cons (pv 0) pa_nil)) pa_nil)) (by rfl)) (pss_cons (ps_if (pt_cmpR (op_eqF K hr.units) (pv 1) pe_str (nomark _)) (pss_one (ps_ret (pe_and (pe_cmpR op_eq (pv 2) pe_int (nomark _)) (pe_one (pe_cl c_are_parts hr (by first | decide | omega) (by rfl) (pa_cons (pe_ix (ixT K) (pv 0) pe_int (fun _ _ => rfl)) pa_nil)))))) pss_nil) (pss_cons (ps_if (pt_cmpR (op_eqF K hr.units) (pv 1) pe_str (nomark _)) (pss_one (ps_ret (pe_and (pe_cmpR op_eq (pv 2) pe_int (nomark _)) (pe_and (pe_callB (isiK K) (by rfl) T.n_isinstance (by decide +kernel) (pa_cons (pe_ix (ixT K) (pv 0) pe_int (fun _ _ => rfl)) (pa_cons (pe_ty "tuple" (by rfl) T.n_tuple (by decide +kernel)) pa_nil))) (pe_one (pe_chain op_le op_le pe_int (pe_callB (lenS K) (by rfl) T.n_len (by decide +kernel) (pa_cons (pe_ix (ixT K) (pv 0) pe_int (fun _ _ => rfl)) pa_nil)) (C8.pe_gc (by rfl) T.g_MOST_TOSSED))))))) pss_nil) (pss_cons (ps_if (pt_cmpR (op_eqF K hr.units) (pv 1) pe_str (nomark _)) (pss_one (ps_ret (pe_and (pe_cmpR op_eq (pv 2) pe_int (nomark _)) (pe_one (pe_cl c_is_whole hr (by first | decide | omega) (by rfl) (pa_cons (pe_ix (ixT K) (pv 0) pe_int (fun _ _ => rfl)) (pa_cons pe_int (pa_cons (C8.pe_gc (by rfl) T.g_LAST_BIT) pa_nil)))))))) pss_nil) (pss_one (ps_ret (pe_and (pe_cmpR (op_eqF K hr.units) (pv 1) pe_str (nomark _)) (pe_and (pe_cmpR op_eq (pv 2) pe_int (nomark _)) (pe_one (pe_cl c_are_parts hr (by first | decide | omega) (by rfl) (pa_cons (pe_ix (ixT K) (pv 0) pe_int (fun _ _ => rfl)) pa_nil)))))))))))), ?_⟩
    refine ⟨_, rfl, _, _, _, _, _, rfl, .ty "tuple", dp_ty hd, kit_tup d, _, rfl, ?_⟩
    have q0 := q H (Same.refl H)
    cases d with
    | tuple xs =>
      refine ⟨_, rfl, (by show 0 ≤ sizeLine; exact Nat.zero_le _), fun p np => ?_⟩
      have s1 := same_new (o := .tup []) np
      refine ⟨_, _, dp_same s1 _ hd, dp_nil upd_same, gd_lay hg, nil_lay, nil_dep, _, rfl, ?_⟩
      generalize upd H p (.tup []) = H1 at s1
      replace q := fun H' (s' : Same H1 H') => q H' (s1.trans s')
      have q1 := q H1 (Same.refl H1)
      rw [eqv_nil]
      cases hd with
      | @tup a ws _ hT hA =>
      replace hT := same_sqt s1 hT
      replace hA := dps_same s1 _ hA
      obtain ⟨hl, n', rfl, hx⟩ := gd_tup hg
      cases xs with
      | nil => exact q1
      | cons k r =>
        obtain ⟨v0, vr, rfl, h0, hr'⟩ := dp_cons hA
        have g0 := hx k List.mem_cons_self
        have hwl := dp_all_len hr'
        refine ⟨_, rfl, a, _, 0, v0, rfl, rfl, hT, at_zero, _, rfl, a, _, rfl, .inr hT, _, _, rfl, ?_⟩
        rw [looks_eq] at q1
        simp only [looks_eq] at q
        have lay := gd_lay g0
        refine ⟨_, rfl, k, .str "say", h0, .str _, lay, str_lay _, str_dep _, _, rfl, ?_⟩
        show if named "say" k = true then _ else _
        cases c1 : named "say" k with
        | true =>
          rw [c1] at q1
          simp only [c1] at q
          refine ⟨_, rfl, rfl, _, rfl, ?_⟩
          by_cases c : vr.length = 1
          · obtain ⟨vp, p1, rfl, rfl, hp⟩ := dp1 hr' c
            rw [decide_eq_true (show V.int (([v0, vp].length : Nat) : Int) = V.int 2 from rfl)]
            exact ⟨_, rfl, a, _, 1, vp, rfl, rfl, hT, rfl, vp, p1, _, rfl, hp, hx p1 (List.mem_cons_of_mem _ List.mem_cons_self), q⟩
          · have hne : (((v0 :: vr).length : Nat) : Int) ≠ 2 := by
              rw [List.length_cons]
              omega
            rw [decide_eq_false (show ¬ V.int (((v0 :: vr).length : Nat) : Int) = V.int 2 from fun z => hne (V.int.inj z))]
            rw [if_pos rfl, sayOk_no (by omega)] at q1
            exact q1
        | false =>
          rw [c1] at q1
          simp only [c1] at q
          rw [if_neg (by decide)] at q1
          refine ⟨_, rfl, k, .str "toss", h0, .str _, lay, str_lay _, str_dep _, _, rfl, ?_⟩
          show if named "toss" k = true then _ else _
          cases c2 : named "toss" k with
          | true =>
            rw [c2, if_pos rfl] at q1
            refine ⟨_, rfl, rfl, _, rfl, ?_⟩
            by_cases c : vr.length = 1
            · obtain ⟨vp, p1, rfl, rfl, hp⟩ := dp1 hr' c
              rw [decide_eq_true (show V.int (([v0, vp].length : Nat) : Int) = V.int 2 from rfl)]
              refine ⟨_, rfl, a, _, 1, vp, rfl, rfl, hT, rfl, _, _, _, _, _, rfl, .ty "tuple", dp_ty hp, kit_tup p1, _, rfl, ?_⟩
              cases p1 with
              | tuple ys =>
                cases hp with
                | @tup b ks _ bT bA =>
                have hyl := dp_all_len bA
                refine ⟨_, rfl, a, _, 1, .ref b, rfl, rfl, hT, rfl, b, ks, rfl, .inr bT, _, _, rfl, rfl, _, rfl, ?_⟩
                have e2 : tossOk [.tuple ys] = (decide ((1 : Int) ≤ ((ks.length : Nat) : Int)) && decide (((ks.length : Nat) : Int) ≤ 64)) := by
                  rw [hyl]
                  rfl
                rw [e2] at q1
                by_cases d1 : (1 : Int) ≤ ((ks.length : Nat) : Int)
                · rw [decide_eq_true d1] at q1 ⊢
                  refine ⟨_, _, rfl, rfl, ?_⟩
                  exact q1
                · rw [decide_eq_false d1] at q1 ⊢
                  exact q1
              | none => exact q1
              | bool b => exact q1
              | int b => exact q1
              | str b => exact q1
              | list b => exact q1
              | dict b => exact q1
            · have hne : (((v0 :: vr).length : Nat) : Int) ≠ 2 := by
                rw [List.length_cons]
                omega
              rw [decide_eq_false (show ¬ V.int (((v0 :: vr).length : Nat) : Int) = V.int 2 from fun z => hne (V.int.inj z))]
              rw [tossOk_no (by omega)] at q1
              exact q1
          | false =>
            rw [c2, if_neg (by decide)] at q1
            simp only [c2] at q
            refine ⟨_, rfl, k, .str "look", h0, .str _, lay, str_lay _, str_dep _, _, rfl, ?_⟩
            show if named "look" k = true then _ else _
            cases c3 : named "look" k with
            | true =>
              rw [c3, if_pos rfl] at q1
              refine ⟨_, rfl, rfl, _, rfl, ?_⟩
              by_cases c : vr.length = 3
              · obtain ⟨vn, vx, vy, dn, dx, dy, rfl, rfl, hn, _, _⟩ := dp3 hr' c
                rw [decide_eq_true (show V.int (([v0, vn, vx, vy].length : Nat) : Int) = V.int 4 from rfl)]
                exact ⟨_, rfl, a, _, 1, vn, rfl, rfl, hT, rfl, vn, dn, 0, 9999, rfl, hn, q1⟩
              · have hne : (((v0 :: vr).length : Nat) : Int) ≠ 4 := by
                  rw [List.length_cons]
                  omega
                rw [decide_eq_false (show ¬ V.int (((v0 :: vr).length : Nat) : Int) = V.int 4 from fun z => hne (V.int.inj z))]
                rw [lookOk_no (by omega)] at q1
                exact q1
            | false =>
              rw [c3, if_neg (by decide)] at q1
              simp only [c3] at q
              refine ⟨_, rfl, k, .str "ask", h0, .str _, lay, str_lay _, str_dep _, ?_⟩
              show ∃ c, V.bl (named "ask" k) = _ ∧ _
              cases c4 : named "ask" k with
              | false =>
                rw [c4] at q1
                exact ⟨_, rfl, q1⟩
              | true =>
                rw [c4, Bool.true_and] at q1
                simp only [c4, Bool.true_and] at q
                refine ⟨_, rfl, _, rfl, rfl, _, rfl, ?_⟩
                by_cases c : vr.length = 2
                · obtain ⟨vp, vx, p1, dx, rfl, rfl, hp, _⟩ := dp2 hr' c
                  rw [decide_eq_true (show V.int (([v0, vp, vx].length : Nat) : Int) = V.int 3 from rfl)]
                  exact ⟨_, rfl, a, _, 1, vp, rfl, rfl, hT, rfl, vp, p1, _, rfl, hp, hx p1 (List.mem_cons_of_mem _ List.mem_cons_self), q⟩
                · have hne : (((v0 :: vr).length : Nat) : Int) ≠ 3 := by
                    rw [List.length_cons]
                    omega
                  rw [decide_eq_false (show ¬ V.int (((v0 :: vr).length : Nat) : Int) = V.int 3 from fun z => hne (V.int.inj z))]
                  rw [askOk_no (by omega)] at q1
                  exact q1
    | none => exact q0
    | bool b => exact q0
    | int b => exact q0
    | str b => exact q0
    | list b => exact q0
    | dict b => exact q0
theorem ok_kids {f : Addr} {fd : FuncData} (D : Df K mg "directly_within" s_directly_within ["plain"] f fd) (T : Txt K w mg cs) : FnOk P w K mg base CX0 1 f fd ["plain"] (spKids K) := by
  refine D.fn.ok sc_directly_within (fun vs H Q E h => ?_) (fun cdv A outer s H vs Q E hr h => ?_)
  · obtain ⟨v, d, n, G, rfl, _⟩ := h
    rfl
  · obtain ⟨v, d, n, G, rfl, sG, hd, hg, hk, q⟩ := h
    refine ⟨_, (pss_one (ps_ret (pe_ifExp (pt_cmpR (op_eqF K hr.units) (pe_ix (ixT K) (pv 0) pe_int (fun _ _ => rfl)) pe_str (nomark _)) (pe_ix (ixT K) (pv 0) pe_int (fun _ _ => rfl)) (pe_slice (slTA K) (pv 0) (po_some pe_int) po_none)))), ?_⟩
    cases d with
    | tuple xs =>
      cases xs with
      | nil => cases hk
      | cons k r =>
        cases hd with
        | @tup a ws _ hT hA =>
        obtain ⟨hl, n', rfl, hx⟩ := gd_tup hg
        obtain ⟨v0, vr, rfl, h0, hr'⟩ := dp_cons hA
        replace hT := same_sqt sG hT
        refine ⟨_, rfl, a, _, 0, v0, rfl, rfl, hT, at_zero, k, .str "toss", dp_same sG k h0, .str _, gd_lay (hx k List.mem_cons_self), str_lay _, str_dep _, _, rfl, ?_⟩
        show if named "toss" k = true then _ else _
        cases c : named "toss" k with
        | true =>
          have ek := named_eq c
          rw [looks_eq, c, ek, named_str, decide_eq_false (by decide), if_neg (by decide), if_pos rfl] at hk
          obtain ⟨ys, rfl, _, _⟩ := toss_kids hk
          rw [kids_toss c] at q
          obtain ⟨v1, vs1, rfl, h1, h2⟩ := dp_cons hr'
          cases h2
          cases h1 with
          | @tup b us _ bT bA =>
          exact ⟨_, rfl, a, _, 1, .ref b, rfl, rfl, hT, rfl, q b us H (Same.refl H) (same_sqt sG bT) bA⟩
        | false =>
          rw [kids_other c] at q
          refine ⟨_, rfl, 2, rfl, slA_any hT fun p H1 s1 hp => ?_⟩
          rw [cut_two] at hp
          exact q p _ H1 s1 hp (dps_drop 1 hr')
    | none => cases hk
    | bool b => cases hk
    | int b => cases hk
    | str b => cases hk
    | list b => cases hk
    | dict b => cases hk

theorem last_get {α : Type} (xs : List α) (v : α) : (xs ++ [v])[(xs ++ [v]).length - 1]? = some v := by
  rw [List.length_append, List.length_singleton, Nat.add_sub_cancel, List.getElem?_append_right (Nat.le_refl _), Nat.sub_self]
  rfl
theorem snoc_cases {α : Type} (l : List α) : l = [] ∨ ∃ ys x, l = ys ++ [x] := by
  by_cases h : l = []
  · exact .inl h
  · exact .inr ⟨l.dropLast, l.getLast h, (List.dropLast_concat_getLast h).symm⟩
/-- the pile in the heap -/
structure Pile (K : PySem.W.Frag) (H H' : Hp) (W : Addr) (n : Nat) (xs : List Ent) : Prop where
  lst : H' W = some (.lst (xs.map fun x => V.ref x.1))
  ent : ∀ x ∈ xs, H' x.1 = some (.tup [x.2.1, .int (x.2.2.2 : Int)]) ∧ Dp K H x.2.1 x.2.2.1 ∧ Gd n x.2.2.1
theorem ok_plainB {f : Addr} {fd : FuncData} (D : Df K mg "is_plain_breaker" s_is_plain_breaker ["value"] f fd) (T : Txt K w mg cs) (c_looks_plain : Cl P w K mg base CX0 4 "looks_plain" (spD K looksOk)) (c_directly_within : Cl P w K mg base CX0 1 "directly_within" (spKids K)) : FnOk P w K mg base CX0 5 f fd ["value"] (spD K plainOk) := by
  refine D.fn.ok sc_is_plain_breaker (fun vs H Q E h => ?_) (fun cdv A outer s H vs Q E hr h => ?_)
  · obtain ⟨v, d, n, rfl, _⟩ := h
    rfl
  · obtain ⟨v, d, n, rfl, hd, hg, q⟩ := h
    refine ⟨_, (pss_cons (ps_set (i := 1) sc_is_plain_breaker.nd rfl (.inl rfl) (pe_lst (pa_cons (pe_tup (pa_cons (pv 0) (pa_cons pe_int pa_nil))) pa_nil))) (pss_cons (ps_set (i := 2) sc_is_plain_breaker.nd rfl (.inl rfl) pe_int) (pss_cons (ps_while PassesOwn.never (pt_truth (pv 1) (by intro _; rfl)) (pss_cons (ps_asg (pe_bm0 PySem.F.plainAttrs_list PySem.F.slot_list_pop PySem.F.type_list_pop mt_pop (pv 1)) (pg_tup (by rfl) (pgs_cons (pg_name (i := 3) sc_is_plain_breaker.nd rfl (.inl rfl)) (pgs_cons (pg_name (i := 4) sc_is_plain_breaker.nd rfl (.inr rfl)) pgs_nil)))) (pss_cons (ps_aug (i := 2) sc_is_plain_breaker.nd rfl (.inl rfl) pe_int ip_add) (pss_cons (ps_if (PW.pt (pw_or (pt_cmpR op_gt (pv 2) (pe_op op_add (C8.pe_gc (by rfl) T.g_MOST_WITHIN) pe_int) (nomark _)) (pw_or (pt_cmpR op_gt (pv 4) (C8.pe_gc (by rfl) T.g_DEEPEST_PLAIN) (nomark _)) (pw_or1 (pt_not (pt_val (pe_cl c_looks_plain hr (by first | decide | omega) (by rfl) (pa_cons (pv 3) pa_nil)))))))) (pss_one (ps_ret pe_bl)) pss_nil) (pss_one (ps_expr (pe_bm PySem.F.plainAttrs_list PySem.F.slot_list_extend PySem.F.type_list_extend mt_extend (pv 1) (pa_cons (pe_lc (own := [("inner", 5)]) (g := gName 5) (tt := tYes) rfl sc_is_plain_breaker.nd (pi_tup (pe_cl c_directly_within hr (by first | decide | omega) (by rfl) (pa_cons (pv 3) pa_nil))) (blkOk_by (own := [("inner", 5)]) (N := ["value", "waiting", "many", "part", "depth", "inner"]) (sc := defScope s_is_plain_breaker) (by decide +kernel)) (fun _ _ _ _ _ => (pg_name (i := 5) sc_is_plain_breaker.nd rfl (.inl rfl))) (fun _ _ _ _ _ => pts_nil) (fun _ _ _ _ _ => (pe_tup (pa_cons (pv 5) (pa_cons (pe_op op_add (pv 4) pe_int) pa_nil))))) pa_nil)))))))) (pss_one (ps_ret pe_bl))))), ?_⟩
    -- waiting = [(value, 1)]
    refine ⟨_, rfl, (by show 2 ≤ sizeLine; decide), fun p0 np => ⟨(by show 1 ≤ sizeLine; decide), fun W nW => ?_⟩⟩
    have hW : H W = none := (same_new np).free nW
    have s0 : Same H (upd (upd H p0 (.tup [v, .int 1])) W (.lst [.ref p0])) := (same_new np).trans (same_new nW)
    have pl0 : Pile K H (upd (upd H p0 (.tup [v, .int 1])) W (.lst [.ref p0])) W n [(p0, v, d, 1)] := ⟨upd_same, fun x hx => by
      rw [List.mem_singleton.mp hx]
      refine ⟨?_, hd, hg⟩
      rw [upd_ne (ne_of_none upd_same nW)]
      exact upd_same⟩
    have hgood : plainOk d = good [(p0, v, d, 1)] 0 := by
      unfold plainOk good
      show (okN 60 d && decide (szN 60 d ≤ 2001)) = ((okN 60 d && true) && decide (0 + (szN 60 d + 0) ≤ 2001))
      rw [Bool.and_true, Nat.add_zero, Nat.zero_add]
    generalize upd (upd H p0 (.tup [v, .int 1])) W (.lst [.ref p0]) = H0 at s0 pl0
    clear np nW
    refine ⟨fun m σ H' => ∃ (xs : List Ent) (many : Nat) (y3 y4 y5 : Option V), σ = [some v, some (.ref W), some (.int (many : Int)), y3, y4, y5] ∧ m = 2002 - many ∧ many ≤ 2001 ∧ xs.length ≤ 5000 * many + 1 ∧ Same H H' ∧ Pile K H H' W n xs ∧ plainOk d = good xs many,
      ⟨_, [(p0, v, d, 1)], 0, none, none, none, rfl, rfl, by omega, Nat.le_refl 1, s0, pl0, hgood⟩, ?_⟩
    clear s0 pl0 hgood H0
    rintro m σ H' ⟨xs, many, y3, y4, y5, rfl, hm, hmany, hlen, s1, pl, hgood⟩
    refine ⟨_, rfl, _, .inl ⟨_, .inl (.inl pl.lst), rfl⟩, ?_⟩
    rcases snoc_cases xs with rfl | ⟨ys, ⟨p, vx, dx, k⟩, rfl⟩
    · rw [good_nil hmany] at hgood
      have q' := q H' s1
      rw [hgood] at q'
      exact q'
    · have hne : (!((ys ++ [(p, vx, dx, k)]).map fun x : Ent => V.ref x.1).isEmpty) = true := by
        rw [List.map_append]
        cases (ys.map fun x : Ent => V.ref x.1) <;> rfl
      rw [hne, if_pos rfl]
      obtain ⟨ep, hdx, hgx⟩ := pl.ent (p, vx, dx, k) (List.mem_append_right _ List.mem_cons_self)
      dsimp only at ep hdx hgx
      refine ⟨fun σ H2 => ∃ (xs : List Ent) (y3 y4 y5 : Option V), σ = [some v, some (.ref W), some (.int ((many + 1 : Nat) : Int)), y3, y4, y5] ∧ many + 1 ≤ 2001 ∧ xs.length ≤ 5000 * (many + 1) + 1 ∧ Same H H2 ∧ Pile K H H2 W n xs ∧ plainOk d = good xs (many + 1), ?_, ?_⟩
      · rintro σ H2 ⟨xs, z3, z4, z5, rfl, h1, h2, h3, h4, h5⟩
        exact ⟨2002 - (many + 1), by omega, xs, many + 1, z3, z4, z5, rfl, rfl, h1, h2, h3, h4, h5⟩
      · -- part, depth = waiting.pop()
        have eW := pl.lst
        rw [List.map_append] at eW
        refine ⟨_, rfl, .inl ⟨rfl, _, .inl (.inl eW)⟩, W, _, .ref p, rfl, rfl, eW, ?_, ?_⟩
        · exact last_get _ _
        have edl : (ys.map (fun x : Ent => V.ref x.1) ++ [(p, vx, dx, k)].map fun x : Ent => V.ref x.1).dropLast = ys.map fun x : Ent => V.ref x.1 := List.dropLast_concat
        rw [edl]
        have hpW : p ≠ W := fun z => by
          rw [z, pl.lst] at ep
          cases ep
        have pl2 : Pile K H (upd H' W (.lst (ys.map fun x : Ent => V.ref x.1))) W n ys := ⟨upd_same, fun x hx => by
          obtain ⟨g1, g2, g3⟩ := pl.ent x (List.mem_append_left _ hx)
          refine ⟨?_, g2, g3⟩
          rw [upd_ne (fun z => by rw [z, pl.lst] at g1; cases g1)]
          exact g1⟩
        have s2 : Same H (upd H' W (.lst (ys.map fun x : Ent => V.ref x.1))) := fun b o e => by
          rw [upd_ne (ne_of_none e hW)]
          exact s1 b o e
        have ep2 : upd H' W (.lst (ys.map fun x : Ent => V.ref x.1)) p = some (.tup [vx, .int (k : Int)]) := by
          rw [upd_ne hpW]
          exact ep
        generalize upd H' W (.lst (ys.map fun x : Ent => V.ref x.1)) = H2 at pl2 s2 ep2
        refine ⟨p, [vx, .int (k : Int)], rfl, .inl (.inl ep2), rfl, _, _, rfl, _, _, rfl, rfl, ?_⟩
        -- many += 1
        refine ⟨_, rfl, _, _, rfl, rfl, ?_⟩
        -- the bounds
        refine ⟨_, rfl, _, _, rfl, rfl, _, _, rfl, rfl, _, rfl, ?_⟩
        by_cases c1 : 2001 < many + 1
        · rw [decide_eq_true (show ((many : Int) + 1) > 2000 + 1 by omega)]
          rw [good_many c1] at hgood
          have q' := q H2 s2
          rw [hgood] at q'
          exact q'
        · rw [decide_eq_false (show ¬ ((many : Int) + 1) > 2000 + 1 by omega)]
          refine ⟨_, rfl, _, _, rfl, rfl, _, rfl, ?_⟩
          by_cases c2 : 60 < k
          · rw [decide_eq_true (show (k : Int) > 60 by omega)]
            rw [good_bad (x := (p, vx, dx, k)) (okN_deep c2)] at hgood
            have q' := q H2 s2
            rw [hgood] at q'
            exact q'
          · rw [decide_eq_false (show ¬ (k : Int) > 60 by omega)]
            refine ⟨_, rfl, vx, dx, n, rfl, dp_same s2 dx hdx, hgx, fun H3 s3 => ⟨_, rfl, ?_⟩⟩
            have s23 := s2.trans s3
            cases cl : looksOk dx with
            | false =>
              rw [good_bad (x := (p, vx, dx, k)) (okN_looks cl)] at hgood
              have q' := q H3 s23
              rw [hgood] at q'
              exact q'
            | true =>
              have pl3 : Pile K H H3 W n ys := ⟨s3 _ _ pl2.lst, fun x hx => ⟨s3 _ _ (pl2.ent x hx).1, (pl2.ent x hx).2⟩⟩
              -- waiting.extend
              refine ⟨_, rfl, .inl ⟨rfl, _, .inl (.inl pl3.lst)⟩, ?_⟩
              refine ⟨_, rfl, vx, dx, n, H, rfl, s23, hdx, hgx, cl, fun a us H4 s4 aT aA => ?_⟩
              refine ⟨a, rfl, ⟨_, aT⟩, fun Dl hD => ?_⟩
              have hWl : Dl ≠ W := fun z => by
                have := s4 _ _ pl3.lst
                rw [← z, hD] at this
                cases this
              have hul := dp_all_len aA
              refine lc_tup (xs := us) (fun i H5 => ∃ es : List Ent, es.map (fun e => e.2.2) = ((kidsD dx).take i).map (fun d => (d, k + 1)) ∧ H5 Dl = some (.lst (es.map fun e => V.ref e.1)) ∧ (∀ e ∈ es, H5 e.1 = some (.tup [e.2.1, .int (e.2.2.2 : Int)]) ∧ Dp K H e.2.1 e.2.2.1 ∧ Gd n e.2.2.1) ∧ Same H4 H5) ?_ ?_ ?_ ?_
              · exact ⟨[], rfl, upd_same, fun e he => (nomatch he), same_new hD⟩
              · rintro i H5 _ ⟨_, _, _, _, s5⟩
                exact same_sqt s5 aT
              · rintro i u H5 hu ⟨es, he, eD, hes, s5⟩
                obtain ⟨e, hei, heu⟩ := dp_all_get aA hu
                refine ⟨rfl, ?_⟩
                refine ⟨_, rfl, _, rfl, _, _, rfl, rfl, (by show 2 ≤ sizeLine; decide), fun t nt => ?_⟩
                have eD2 : upd H5 t (.tup [u, .int ((k : Int) + 1)]) Dl = some (.lst (es.map fun e => V.ref e.1)) := by
                  rw [upd_ne (ne_of_none eD nt)]
                  exact eD
                have htD : t ≠ Dl := fun z => by
                  rw [z, eD] at nt
                  cases nt
                refine ⟨_, eD2, ?_, es ++ [(t, u, e, k + 1)], ?_, ?_, ?_, ?_⟩
                · have hle := congrArg List.length he
                  rw [List.length_map, List.length_map, List.length_take] at hle
                  have hkl := kids_len hgx
                  rw [List.length_map]
                  exact Nat.lt_of_lt_of_le (show es.length < 10000 by omega) (by decide)
                · rw [List.map_append, he, List.take_add_one, hei, List.map_append]
                  rfl
                · rw [upd_same, List.map_append]
                  rfl
                · intro x hx
                  rcases List.mem_append.mp hx with h | h
                  · obtain ⟨g1, g2, g3⟩ := hes x h
                    refine ⟨?_, g2, g3⟩
                    have g4 : upd H5 t (.tup [u, .int ((k : Int) + 1)]) x.1 = some (.tup [x.2.1, .int (x.2.2.2 : Int)]) := by
                      rw [upd_ne (ne_of_none g1 nt)]
                      exact g1
                    rw [upd_ne (fun z => by rw [z, eD2] at g4; cases g4)]
                    exact g4
                  · rw [List.mem_singleton.mp h]
                    refine ⟨?_, heu, kids_gd hgx (List.mem_of_getElem? hei)⟩
                    rw [upd_ne htD]
                    exact upd_same
                · intro b o e
                  rw [upd_ne (ne_of_none e hD), upd_ne (ne_of_none (s5 b o e) nt)]
                  exact s5 b o e
              · rintro H5 ⟨es, he, eD, hes, s5⟩
                rw [List.take_of_length_le (by omega)] at he
                have eW5 := s5 _ _ (s4 _ _ pl3.lst)
                have hle := congrArg List.length he
                rw [List.length_map, List.length_map] at hle
                have hkl := kids_len hgx
                have hyl : ys.length ≤ 5000 * many + 1 := by
                  rw [List.length_append] at hlen
                  omega
                refine ⟨W, Dl, _, _, rfl, rfl, eW5, eD, ?_, ?_⟩
                · rw [List.length_map, List.length_map, sizeLine_eq]
                  omega
                · refine ⟨ys ++ es, _, _, _, rfl, by omega, ?_, ?_, ⟨?_, ?_⟩, ?_⟩
                  · rw [List.length_append]
                    omega
                  · intro b o e
                    rw [upd_ne (ne_of_none e hW)]
                    exact s5 b o (s4 b o (s23 b o e))
                  · rw [upd_same, List.map_append]
                  · intro x hx
                    rcases List.mem_append.mp hx with h | h
                    · obtain ⟨g1, g2, g3⟩ := pl3.ent x h
                      refine ⟨?_, g2, g3⟩
                      have g4 := s5 _ _ (s4 _ _ g1)
                      rw [upd_ne (fun z => by rw [z, eW5] at g4; cases g4)]
                      exact g4
                    · obtain ⟨g1, g2, g3⟩ := hes x h
                      refine ⟨?_, g2, g3⟩
                      rw [upd_ne (fun z => by rw [z, eW5] at g1; cases g1)]
                      exact g1
                  · rw [hgood]
                    exact good_step (x := (p, vx, dx, k)) (by show k ≤ 60; omega) cl he

end
theorem made_parts {d : PyData} (h : madeD d = true) : ∃ z r, d = .tuple (.str z :: r) ∧ madeZ z = true := by
  unfold madeD at h
  split at h
  · rename_i z r
    exact ⟨z, r, rfl, h⟩
  · cases h
theorem chk_plain {n : Nat} {d : PyData} (h : madeD d = false) : chk n d = plainOk d := by
  unfold chk
  rw [if_neg (by rw [h]; decide)]
theorem chk_zero {d : PyData} (h : madeD d = true) : chk 0 d = false := by
  unfold chk
  rw [if_pos h]
theorem chk_succ {n : Nat} {d : PyData} (h : madeD d = true) : chk (n + 1) d = (fitsD d && (!(headIs "onetime" d && madeD (lastD d)) && chk n (lastD d))) := by
  rw [chk]
  rw [if_pos h]
theorem dps_at_last {K : PySem.W.Frag} {H : Hp} {ws : List V} {xs : List PyData} (h : DpAll K H ws xs) (hne : ws ≠ []) : ∃ vl, atI ws (-1) = some vl ∧ Dp K H vl (lastD (.tuple xs)) ∧ lastD (.tuple xs) ∈ xs := by
  have hl : 0 < ws.length := List.length_pos_iff.mpr hne
  have e1 : ws[ws.length - 1]? = some (ws[ws.length - 1]'(by omega)) := List.getElem?_eq_getElem _
  obtain ⟨d, h1, h2⟩ := dp_all_get h e1
  have e2 : lastD (.tuple xs) = d := by
    show xs.getLastD .none = d
    rw [List.getLastD_eq_getLast?, List.getLast?_eq_getElem?, ← dp_all_len h, h1]
    rfl
  refine ⟨_, ?_, e2 ▸ h2, e2 ▸ List.mem_of_getElem? h1⟩
  unfold atI ixN
  rw [if_neg (by decide), if_pos (by omega)]
  show ws[((-1 : Int) + (ws.length : Int)).toNat]? = _
  rw [show ((-1 : Int) + (ws.length : Int)).toNat = ws.length - 1 by omega]
  exact e1

section
variable {P : Program} {w : World} {K : PySem.W.Frag} {mg : Str → Option Value} {base : Heap} {cs : Cs}
theorem ok_checkB {f : Addr} {fd : FuncData} (D : Df K mg "check_breaker" s_check_breaker ["breaker"] f fd) (T : Txt K w mg cs) (c_is_made : Cl P w K mg base CX0 1 "is_made" (spD K madeD)) (c_fits_kind : Cl P w K mg base CX0 4 "fits_kind" (spKind K))
    (c_is_plain_breaker : Cl P w K mg base CX0 5 "is_plain_breaker" (spD K plainOk)) : FnOk P w K mg base (L2.CX P w) 6 f fd ["breaker"] (spCheckB K cs.BadBreaker) := by
  refine D.fn.okX sc_check_breaker (fun vs H Q E h => ?_) (fun cdv A outer s H vs Q E hr h => ?_)
  · obtain ⟨v, d, n, rfl, _⟩ := h
    rfl
  · obtain ⟨v, d, n, rfl, hd, hg, q⟩ := h
    have tk := takes_of (X := cxOf (L2.CX P w) P w K mg base ["breaker", "inner", "depth"] "check_breaker" (defScope s_check_breaker) f cdv A outer s H E) (E := E) rfl rfl rfl rfl
    refine ⟨_, (pss_cons (ps_set (i := 1) sc_check_breaker.nd rfl (.inl rfl) (pv 0)) (pss_cons (ps_set (i := 2) sc_check_breaker.nd rfl (.inl rfl) pe_int) (pss_cons (ps_while (passes_of rfl) (pt_val (pe_cl c_is_made hr (by first | decide | omega) (by rfl) (pa_cons (pv 1) pa_nil))) (pss_cons (ps_aug (i := 2) sc_check_breaker.nd rfl (.inl rfl) pe_int ip_add) (pss_cons (ps_if (pt_cmpR op_gt (pv 2) (C8.pe_gc (by rfl) T.g_DEEPEST_MADE) (nomark _)) (pss_one (ps_raiseE T.x_BadBreaker rfl tk (by rfl))) pss_nil) (pss_cons (ps_if (pt_not (pt_val (pe_cl c_fits_kind hr (by first | decide | omega) (by rfl) (pa_cons (pv 1) pa_nil)))) (pss_one (ps_raiseE T.x_BadBreaker rfl tk (by rfl))) pss_nil) (pss_cons (ps_if (PW.pt (pw_and (pt_cmpR (op_eqF K hr.units) (pe_ix (ixT K) (pv 1) pe_int (fun _ _ => rfl)) pe_str (nomark _)) (pw_and1 (pt_val (pe_cl c_is_made hr (by first | decide | omega) (by rfl) (pa_cons (pe_ix (ixT K) (pv 1) (pe_un un_neg pe_int) (fun _ _ => rfl)) pa_nil)))))) (pss_one (ps_raiseE T.x_BadBreaker rfl tk (by rfl))) pss_nil) (pss_one (ps_set (i := 1) sc_check_breaker.nd rfl (.inl rfl) (pe_ix (ixT K) (pv 1) (pe_un un_neg pe_int) (fun _ _ => rfl))))))))) (pss_one (ps_if (pt_not (pt_val (pe_cl c_is_plain_breaker hr (by first | decide | omega) (by rfl) (pa_cons (pv 1) pa_nil)))) (pss_one (ps_raiseE T.x_BadBreaker rfl tk (by rfl))) pss_nil))))), ?_⟩
    refine ⟨_, rfl, ?_⟩
    refine ⟨fun m σ H' => ∃ (vi : V) (di : PyData) (depth : Nat), σ = [some v, some vi, some (.int (depth : Int))] ∧ m = 21 - depth ∧ depth ≤ 20 ∧ Same H H' ∧ Dp K H vi di ∧ Gd n di ∧ brOk d = chk (20 - depth) di,
      ⟨_, v, d, 0, rfl, rfl, by omega, Same.refl H, hd, hg, rfl⟩, ?_⟩
    rintro m σ H' ⟨vi, di, depth, rfl, hm, hdep, s1, hdi, hgi, hb⟩
    refine ⟨_, rfl, vi, di, n, rfl, dp_same s1 di hdi, hgi, fun H1 s' => ⟨_, rfl, ?_⟩⟩
    have s2 := s1.trans s'
    clear s1 s'
    cases cm : madeD di with
    | false =>
      rw [chk_plain cm] at hb
      refine ⟨_, rfl, vi, di, n, rfl, dp_same s2 di hdi, hgi, fun H2 s3 => ⟨_, rfl, ?_⟩⟩
      obtain ⟨q1, q2⟩ := q H2 (s2.trans s3)
      cases cp : plainOk di with
      | true =>
        rw [cp] at hb
        exact q1 hb
      | false =>
        rw [cp] at hb
        exact q2 hb
    | true =>
      obtain ⟨z, r, rfl, hz⟩ := made_parts cm
      refine ⟨fun σ H2 => ∃ (vi : V) (di : PyData), σ = [some v, some vi, some (.int ((depth + 1 : Nat) : Int))] ∧ depth + 1 ≤ 20 ∧ Same H H2 ∧ Dp K H vi di ∧ Gd n di ∧ brOk d = chk (20 - (depth + 1)) di, ?_, ?_⟩
      · rintro σ H2 ⟨vi, di, rfl, h1, h2, h3, h4, h5⟩
        exact ⟨21 - (depth + 1), by omega, vi, di, depth + 1, rfl, rfl, h1, h2, h3, h4, h5⟩
      · refine ⟨_, rfl, _, _, rfl, rfl, ?_⟩
        refine ⟨_, rfl, _, _, rfl, rfl, _, rfl, ?_⟩
        by_cases c1 : depth = 20
        · subst c1
          rw [decide_eq_true (show (((20 : Nat) : Int) + 1) > 20 by decide)]
          rw [Nat.sub_self, chk_zero cm] at hb
          exact (q H1 s2).2 hb
        · rw [decide_eq_false (show ¬ ((depth : Int) + 1) > 20 by omega)]
          rw [show 20 - depth = (20 - (depth + 1)) + 1 by omega, chk_succ cm] at hb
          have hfe : fitsD (.tuple (.str z :: r)) = fitZ z r.dropLast := rfl
          rw [hfe] at hb
          refine ⟨_, rfl, vi, z, r, n, rfl, dp_same s2 _ hdi, hgi, hz, fun H2 s' => ⟨_, rfl, ?_⟩⟩
          have s3 := s2.trans s'
          clear s2 s'
          cases cf : fitZ z r.dropLast with
          | false =>
            rw [cf, Bool.false_and] at hb
            exact (q H2 s3).2 hb
          | true =>
            rw [cf, Bool.true_and] at hb
            cases hdi with
            | @tup a ws _ hT hA =>
            obtain ⟨v0, vr, rfl, h0, hr'⟩ := dp_cons hA
            obtain ⟨vl, el, hvl, hmem⟩ := dps_at_last hA (fun z => by cases z)
            have ggl : Gd n (lastD (.tuple (.str z :: r))) := by
              obtain ⟨_, n', rfl, hx⟩ := gd_tup hgi
              exact gd_up (hx _ hmem)
            cases h0
            have hT3 := same_sqt s3 hT
            have hho : headIs "onetime" (.tuple (.str z :: r)) = named "onetime" (.str z) := rfl
            rw [hho] at hb
            refine ⟨_, rfl, a, _, 0, .str z, rfl, rfl, hT3, at_zero, .str z, .str "onetime", .str _, .str _, ?_, str_lay _, str_dep _, _, rfl, ?_⟩
            · obtain ⟨_, n', rfl, hx⟩ := gd_tup hgi
              exact gd_lay (hx _ List.mem_cons_self)
            · show if named "onetime" (.str z) = true then _ else _
              have last : ∀ H3, Same H2 H3 → brOk d = chk (20 - (depth + 1)) (lastD (.tuple (.str z :: r))) → SqT K H3 a (.str z :: vr) → ∃ (vi : V) (di : PyData), [some v, some vl, some (.int ((depth + 1 : Nat) : Int))] = [some v, some vi, some (.int ((depth + 1 : Nat) : Int))] ∧ depth + 1 ≤ 20 ∧ Same H H3 ∧ Dp K H vi di ∧ Gd n di ∧ brOk d = chk (20 - (depth + 1)) di :=
                fun H3 s' hb' _ => ⟨vl, _, rfl, by omega, s3.trans s', hvl, ggl, hb'⟩
              cases co : named "onetime" (.str z) with
              | false =>
                rw [co, Bool.false_and, Bool.not_false, Bool.true_and] at hb
                refine ⟨_, rfl, 1, rfl, a, _, -1, vl, rfl, rfl, hT3, el, ?_⟩
                exact last H2 (Same.refl H2) hb hT3
              | true =>
                rw [co, Bool.true_and] at hb
                refine ⟨_, rfl, 1, rfl, a, _, -1, vl, rfl, rfl, hT3, el, vl, _, n, rfl, dp_same s3 _ hvl, ggl, fun H3 s' => ⟨_, rfl, ?_⟩⟩
                cases cl : madeD (lastD (.tuple (.str z :: r))) with
                | true =>
                  rw [cl] at hb
                  exact (q H3 (s3.trans s')).2 hb
                | false =>
                  rw [cl, Bool.not_false, Bool.true_and] at hb
                  refine ⟨_, rfl, 1, rfl, a, _, -1, vl, rfl, rfl, same_sqt s' hT3, el, ?_⟩
                  exact last H3 s' hb (same_sqt s' hT3)

end
/-! ### the most asks -/
def askB (d : PyData) : Nat := if headIs "ask" d then 1 else 0
def paN : Nat → PyData → Nat
  | 0, _ => 0
  | n + 1, d => askB d + ((kidsD d).map (paN n)).foldl max 0
def item (i : Nat) : PyData → PyData
  | .tuple xs => xs.getD i .none
  | _ => .none
def intOf : PyData → Int
  | .int i => i
  | _ => 0
/-- how the program counts, so many made ones allowed -/
def progM : Nat → PyData → Int
  | 0, d => if headIs "counter" d then intOf (item 2 d) else if madeD d then 0 else (paN 60 d : Int)
  | n + 1, d => if headIs "marks" d then 1 + progM n (lastD d) else if headIs "secrets" d then progM n (lastD d) else if headIs "counter" d then intOf (item 2 d) else if madeD d then 0 else (paN 60 d : Int)
theorem fold_max (l : List Nat) : ∀ m a : Nat, l.foldl max (max m a) = max (l.foldl max m) a := by
  induction l with
  | nil => intro m a; rfl
  | cons x l ih =>
    intro m a
    rw [List.foldl_cons, List.foldl_cons, show max (max m a) x = max (max m x) a by omega, ih]
theorem fold_add (a : Nat) (l : List Nat) : ∀ b : Nat, a + l.foldl max b = (l.map (a + ·)).foldl max (a + b) := by
  induction l with
  | nil => intro b; rfl
  | cons x l ih =>
    intro b
    rw [List.foldl_cons, List.map_cons, List.foldl_cons, ih, show a + max b x = max (a + b) (a + x) by omega]
theorem fold_pop (most a : Nat) (ys ks : List Nat) : (ys ++ [a + ks.foldl max 0]).foldl max most = (ys ++ ks.map (a + ·)).foldl max (max most a) := by
  rw [List.foldl_append, List.foldl_append, fold_max, List.foldl_cons, List.foldl_nil, fold_add, Nat.add_zero]
  rw [show max (ys.foldl max most) a = max a (ys.foldl max most) by omega, fold_max]
  omega
abbrev Ent2 : Type := Addr × V × PyData × Nat × Nat
def valE (x : Ent2) : Nat := x.2.2.2.1 + paN (61 - x.2.2.2.2) x.2.2.1
def szE (xs : List Ent2) : Nat := (xs.map fun x => szN (61 - x.2.2.2.2) x.2.2.1).sum
theorem szE_app (xs ys : List Ent2) : szE (xs ++ ys) = szE xs + szE ys := by
  unfold szE
  rw [List.map_append, List.sum_append]
theorem szE_len : ∀ xs : List Ent2, xs.length ≤ szE xs
  | [] => Nat.le_refl 0
  | x :: xs => by
    have h1 := szE_len xs
    have h2 := sz_pos (61 - x.2.2.2.2) x.2.2.1
    show xs.length + 1 ≤ szN (61 - x.2.2.2.2) x.2.2.1 + szE xs
    omega
theorem ents_vals {es : List Ent2} {ds : List PyData} {a k : Nat} (h : es.map (fun e => e.2.2) = ds.map fun d => (d, a, k + 1)) : es.map valE = (ds.map (paN (60 - k))).map (a + ·) ∧ szE es = (ds.map (szN (60 - k))).sum := by
  constructor
  · have h1 : es.map valE = (es.map (fun e => e.2.2)).map (fun e => e.2.1 + paN (61 - e.2.2) e.1) := by
      rw [List.map_map]
      rfl
    rw [h1, h, List.map_map, List.map_map]
    have h2 : 61 - (k + 1) = 60 - k := by omega
    show ds.map (fun d => a + paN (61 - (k + 1)) d) = _
    rw [h2]
    rfl
  · unfold szE
    have h1 : es.map (fun x => szN (61 - x.2.2.2.2) x.2.2.1) = (es.map (fun e => e.2.2)).map (fun e => szN (61 - e.2.2) e.1) := by
      rw [List.map_map]
      rfl
    rw [h1, h, List.map_map]
    have h2 : 61 - (k + 1) = 60 - k := by omega
    show (ds.map (fun d => szN (61 - (k + 1)) d)).sum = _
    rw [h2]
theorem okN_kids {k : Nat} {d : PyData} (hk : k ≤ 60) (h : okN (61 - k) d = true) : looksOk d = true ∧ ∀ e ∈ kidsD d, okN (60 - k) e = true := by
  rw [show 61 - k = (60 - k) + 1 by omega] at h
  have h' : (looksOk d && (kidsD d).all (okN (60 - k))) = true := h
  rw [Bool.and_eq_true, List.all_eq_true] at h'
  exact h'
theorem okN_pos {n : Nat} {d : PyData} (h : okN n d = true) : 1 ≤ n := by
  cases n with
  | zero => cases h
  | succ n => omega
theorem looks_head {d : PyData} (h : looksOk d = true) : ∃ k r, d = .tuple (k :: r) := by
  unfold looksOk at h
  split at h
  · exact ⟨_, _, rfl⟩
  · cases h

theorem chk_head {n : Nat} {d : PyData} (h : chk n d = true) : ∃ z r, d = .tuple (.str z :: r) := by
  cases c : madeD d with
  | true =>
    obtain ⟨z, r, rfl, _⟩ := made_parts c
    exact ⟨z, r, rfl⟩
  | false =>
    rw [chk_plain c] at h
    unfold plainOk at h
    rw [Bool.and_eq_true] at h
    have h1 : (looksOk d && _) = true := h.1
    rw [Bool.and_eq_true] at h1
    obtain ⟨k, r, rfl⟩ := looks_head h1.1
    have h2 := h1.1
    rw [looks_eq] at h2
    cases c1 : named "say" k with
    | true => exact ⟨_, r, by rw [named_eq c1]⟩
    | false =>
      rw [c1, if_neg (by decide)] at h2
      cases c2 : named "toss" k with
      | true => exact ⟨_, r, by rw [named_eq c2]⟩
      | false =>
        rw [c2, if_neg (by decide)] at h2
        cases c3 : named "look" k with
        | true => exact ⟨_, r, by rw [named_eq c3]⟩
        | false =>
          rw [c3, if_neg (by decide), Bool.and_eq_true] at h2
          exact ⟨_, r, by rw [named_eq h2.1]⟩
theorem head_str {x z : Str} {r : List PyData} : headIs x (.tuple (.str z :: r)) = decide (z = x) := named_str
/-- one step of the count, at a name -/
theorem progM_marks {n : Nat} {r : List PyData} : progM (n + 1) (.tuple (.str "marks" :: r)) = 1 + progM n (lastD (.tuple (.str "marks" :: r))) := by
  rw [progM, head_str, decide_eq_true rfl, if_pos rfl]
theorem progM_secrets {n : Nat} {r : List PyData} : progM (n + 1) (.tuple (.str "secrets" :: r)) = progM n (lastD (.tuple (.str "secrets" :: r))) := by
  rw [progM, head_str, head_str, decide_eq_false (by decide), decide_eq_true rfl, if_neg (by decide), if_pos rfl]
theorem progM_other {n : Nat} {z : Str} {r : List PyData} (h1 : z ≠ "marks") (h2 : z ≠ "secrets") : progM n (.tuple (.str z :: r)) = if z = "counter" then intOf (item 2 (.tuple (.str z :: r))) else if madeD (.tuple (.str z :: r)) then 0 else (paN 60 (.tuple (.str z :: r)) : Int) := by
  cases n with
  | zero =>
    rw [progM, head_str]
    by_cases c : z = "counter"
    · rw [decide_eq_true c, if_pos c, if_pos rfl]
    · rw [decide_eq_false c, if_neg c, if_neg (by decide)]
  | succ n =>
    rw [progM, head_str, head_str, head_str, decide_eq_false h1, decide_eq_false h2, if_neg (by decide), if_neg (by decide)]
    by_cases c : z = "counter"
    · rw [decide_eq_true c, if_pos c, if_pos rfl]
    · rw [decide_eq_false c, if_neg c, if_neg (by decide)]
theorem made_num {z : Str} {r : List PyData} (h : z ∈ numK) : madeD (.tuple (.str z :: r)) = true := by
  show (decide (z ∈ numK) || decide (z ∈ fitK)) = true
  rw [decide_eq_true h, Bool.true_or]
theorem chk_made {n : Nat} {z : Str} {r : List PyData} (hz : madeD (.tuple (.str z :: r)) = true) (h : chk n (.tuple (.str z :: r)) = true) : ∃ m, n = m + 1 ∧ fitZ z r.dropLast = true ∧ chk m (lastD (.tuple (.str z :: r))) = true := by
  cases n with
  | zero =>
    rw [chk_zero hz] at h
    cases h
  | succ m =>
    rw [chk_succ hz, Bool.and_eq_true, Bool.and_eq_true] at h
    exact ⟨m, rfl, h.1, h.2.2⟩
theorem counter_parts {r : List PyData} (h : fitZ "counter" r.dropLast = true) : ∃ l c m x, r = [.int l, .int c, .int m, x] ∧ 1 ≤ c ∧ c ≤ 256 := by
  have h' : numsOk r.dropLast [(1, 40), (1, 256), (1, 40)] = true := h
  have hl : r.dropLast.length = 3 := by
    by_cases c : r.dropLast.length = [((1 : Int), (40 : Int)), (1, 256), (1, 40)].length
    · exact c
    · rw [nums_len c] at h'
      cases h'
  rw [List.length_dropLast] at hl
  match r, hl with
  | [a, b, c, x], _ =>
    have h2 : (whole a 1 40 && (whole b 1 256 && (whole c 1 40 && true))) = true := h'
    simp only [Bool.and_eq_true] at h2
    obtain ⟨l, rfl, _⟩ := whole_int h2.1
    obtain ⟨c', rfl, c1, c2⟩ := whole_int h2.2.1
    obtain ⟨m, rfl, _⟩ := whole_int h2.2.2.1
    exact ⟨l, c', m, x, rfl, c1, c2⟩

section
variable {P : Program} {w : World} {K : PySem.W.Frag} {mg : Str → Option Value} {base : Heap} {cs : Cs}
structure Pile2 (K : PySem.W.Frag) (H H' : Hp) (W : Addr) (n : Nat) (xs : List Ent2) : Prop where
  lst : H' W = some (.lst (xs.map fun x => V.ref x.1))
  ent : ∀ x ∈ xs, H' x.1 = some (.tup [x.2.1, .int (x.2.2.2.1 : Int)]) ∧ Dp K H x.2.1 x.2.2.1 ∧ Gd n x.2.2.1 ∧ okN (61 - x.2.2.2.2) x.2.2.1 = true ∧ x.2.2.2.2 ≤ 60
def spAsks (K : PySem.W.Frag) : Sp := fun vs H Q _ => ∃ (v : V) (d : PyData) (n : Nat), vs = [v] ∧ Dp K H v d ∧ Gd n d ∧ plainOk d = true ∧ ∀ H', Same H H' → Q (.int (paN 60 d : Int)) H'
theorem ok_asks {f : Addr} {fd : FuncData} (D : Df K mg "plain_asks" s_plain_asks ["breaker"] f fd) (T : Txt K w mg cs) (c_directly_within : Cl P w K mg base CX0 1 "directly_within" (spKids K)) : FnOk P w K mg base CX0 2 f fd ["breaker"] (spAsks K) := by
  refine D.fn.ok sc_plain_asks (fun vs H Q E h => ?_) (fun cdv A outer s H vs Q E hr h => ?_)
  · obtain ⟨v, d, n, rfl, _⟩ := h
    rfl
  · obtain ⟨v, d, n, rfl, hd, hg, hp, q⟩ := h
    refine ⟨_, (pss_cons (ps_set (i := 1) sc_plain_asks.nd rfl (.inl rfl) pe_int) (pss_cons (ps_set (i := 2) sc_plain_asks.nd rfl (.inl rfl) (pe_lst (pa_cons (pe_tup (pa_cons (pv 0) (pa_cons pe_int pa_nil))) pa_nil))) (pss_cons (ps_while PassesOwn.never (pt_truth (pv 2) (by intro _; rfl)) (pss_cons (ps_asg (pe_bm0 PySem.F.plainAttrs_list PySem.F.slot_list_pop PySem.F.type_list_pop mt_pop (pv 2)) (pg_tup (by rfl) (pgs_cons (pg_name (i := 3) sc_plain_asks.nd rfl (.inl rfl)) (pgs_cons (pg_name (i := 4) sc_plain_asks.nd rfl (.inr rfl)) pgs_nil)))) (pss_cons (ps_if (pt_cmpR (op_eqF K hr.units) (pe_ix (ixT K) (pv 3) pe_int (fun _ _ => rfl)) pe_str (nomark _)) (pss_one (ps_aug (i := 4) sc_plain_asks.nd rfl (.inr rfl) pe_int ip_add)) pss_nil) (pss_cons (ps_set (i := 1) sc_plain_asks.nd rfl (.inl rfl) (pe_callB (call_max2 rfl) (by rfl) T.n_max (by decide +kernel) (pa_cons (pv 1) (pa_cons (pv 4) pa_nil)))) (pss_one (ps_expr (pe_bm PySem.F.plainAttrs_list PySem.F.slot_list_extend PySem.F.type_list_extend mt_extend (pv 2) (pa_cons (pe_lc (own := [("inner", 5)]) (g := gName 5) (tt := tYes) rfl sc_plain_asks.nd (pi_tup (pe_cl c_directly_within hr (by first | decide | omega) (by rfl) (pa_cons (pv 3) pa_nil))) (blkOk_by (own := [("inner", 5)]) (N := ["breaker", "most", "waiting", "part", "asks", "inner"]) (sc := defScope s_plain_asks) (by decide +kernel)) (fun _ _ _ _ _ => (pg_name (i := 5) sc_plain_asks.nd rfl (.inl rfl))) (fun _ _ _ _ _ => pts_nil) (fun _ _ _ _ _ => (pe_tup (pa_cons (pv 5) (pa_cons (pv 4) pa_nil))))) pa_nil)))))))) (pss_one (ps_ret (pv 1)))))), ?_⟩
    have hp' : (okN 60 d && decide (szN 60 d ≤ 2001)) = true := hp
    rw [Bool.and_eq_true, decide_eq_true_eq] at hp'
    obtain ⟨hok, hsz⟩ := hp'
    refine ⟨_, rfl, (by show 2 ≤ sizeLine; decide), fun p0 np => ⟨(by show 1 ≤ sizeLine; decide), fun W nW => ?_⟩⟩
    have hW : H W = none := (same_new np).free nW
    have s0 : Same H (upd (upd H p0 (.tup [v, .int 0])) W (.lst [.ref p0])) := (same_new np).trans (same_new nW)
    have pl0 : Pile2 K H (upd (upd H p0 (.tup [v, .int 0])) W (.lst [.ref p0])) W n [(p0, v, d, 0, 1)] := ⟨upd_same, fun x hx => by
      rw [List.mem_singleton.mp hx]
      refine ⟨?_, hd, hg, hok, (by show 1 ≤ 60; decide)⟩
      rw [upd_ne (ne_of_none upd_same nW)]
      exact upd_same⟩
    have hval : paN 60 d = (([(p0, v, d, 0, 1)] : List Ent2).map valE).foldl max 0 := by
      show paN 60 d = max 0 (0 + paN 60 d)
      omega
    have hs0 : szE [(p0, v, d, 0, 1)] ≤ 2001 := by
      show szN 60 d + 0 ≤ 2001
      omega
    generalize upd (upd H p0 (.tup [v, .int 0])) W (.lst [.ref p0]) = H0 at s0 pl0
    clear np nW
    refine ⟨fun m σ H' => ∃ (xs : List Ent2) (most : Nat) (y3 y4 y5 : Option V), σ = [some v, some (.int (most : Int)), some (.ref W), y3, y4, y5] ∧ m = szE xs ∧ szE xs ≤ 2001 ∧ Same H H' ∧ Pile2 K H H' W n xs ∧ paN 60 d = (xs.map valE).foldl max most,
      ⟨_, [(p0, v, d, 0, 1)], 0, none, none, none, rfl, rfl, hs0, s0, pl0, hval⟩, ?_⟩
    clear s0 pl0 hval hs0 H0
    rintro m σ H' ⟨xs, most, y3, y4, y5, rfl, hm, hlen, s1, pl, hval⟩
    refine ⟨_, rfl, _, .inl ⟨_, .inl (.inl pl.lst), rfl⟩, ?_⟩
    rcases snoc_cases xs with rfl | ⟨ys, ⟨p, vx, dx, as, k⟩, rfl⟩
    · have e : (paN 60 d : Int) = (most : Int) := by
        rw [hval]
        rfl
      have q' := q H' s1
      rw [e] at q'
      exact ⟨_, rfl, q'⟩
    · have hne : (!((ys ++ [(p, vx, dx, as, k)]).map fun x : Ent2 => V.ref x.1).isEmpty) = true := by
        rw [List.map_append]
        cases (ys.map fun x : Ent2 => V.ref x.1) <;> rfl
      rw [hne, if_pos rfl]
      obtain ⟨ep, hdx, hgx, hokx, hkx⟩ := pl.ent (p, vx, dx, as, k) (List.mem_append_right _ List.mem_cons_self)
      dsimp only at ep hdx hgx hokx hkx
      obtain ⟨hlk, hkids⟩ := okN_kids hkx hokx
      have hszx : szN (61 - k) dx = 1 + ((kidsD dx).map (szN (60 - k))).sum := by
        rw [show 61 - k = (60 - k) + 1 by omega]
        rfl
      have hval1 : valE (p, vx, dx, as, k) = (as + askB dx) + ((kidsD dx).map (paN (60 - k))).foldl max 0 := by
        show as + paN (61 - k) dx = _
        rw [show 61 - k = (60 - k) + 1 by omega]
        show as + (askB dx + _) = _
        omega
      refine ⟨fun σ H2 => ∃ (xs : List Ent2) (most : Nat) (y3 y4 y5 : Option V), σ = [some v, some (.int (most : Int)), some (.ref W), y3, y4, y5] ∧ szE xs < m ∧ Same H H2 ∧ Pile2 K H H2 W n xs ∧ paN 60 d = (xs.map valE).foldl max most, ?_, ?_⟩
      · rintro σ H2 ⟨xs, most, z3, z4, z5, rfl, h1, h3, h4, h5⟩
        exact ⟨szE xs, h1, xs, most, z3, z4, z5, rfl, rfl, by omega, h3, h4, h5⟩
      · have eW := pl.lst
        rw [List.map_append] at eW
        refine ⟨_, rfl, .inl ⟨rfl, _, .inl (.inl eW)⟩, W, _, .ref p, rfl, rfl, eW, ?_, ?_⟩
        · exact last_get _ _
        have edl : (ys.map (fun x : Ent2 => V.ref x.1) ++ [(p, vx, dx, as, k)].map fun x : Ent2 => V.ref x.1).dropLast = ys.map fun x : Ent2 => V.ref x.1 := List.dropLast_concat
        rw [edl]
        have hpW : p ≠ W := fun z => by
          rw [z, pl.lst] at ep
          cases ep
        have pl2 : Pile2 K H (upd H' W (.lst (ys.map fun x : Ent2 => V.ref x.1))) W n ys := ⟨upd_same, fun x hx => by
          obtain ⟨g1, g2⟩ := pl.ent x (List.mem_append_left _ hx)
          refine ⟨?_, g2⟩
          rw [upd_ne (fun z => by rw [z, pl.lst] at g1; cases g1)]
          exact g1⟩
        have s2 : Same H (upd H' W (.lst (ys.map fun x : Ent2 => V.ref x.1))) := fun b o e => by
          rw [upd_ne (ne_of_none e hW)]
          exact s1 b o e
        have ep2 : upd H' W (.lst (ys.map fun x : Ent2 => V.ref x.1)) p = some (.tup [vx, .int (as : Int)]) := by
          rw [upd_ne hpW]
          exact ep
        generalize upd H' W (.lst (ys.map fun x : Ent2 => V.ref x.1)) = H2 at pl2 s2 ep2
        refine ⟨p, [vx, .int (as : Int)], rfl, .inl (.inl ep2), rfl, _, _, rfl, _, _, rfl, rfl, ?_⟩
        -- if part[0] == "ask"
        obtain ⟨k0, r0, rfl⟩ := looks_head hlk
        have hdx0 := hdx
        cases hdx with
        | @tup b ws _ bT bA =>
        obtain ⟨v0, vr, rfl, h0, hr'⟩ := dp_cons bA
        refine ⟨_, rfl, b, _, 0, v0, rfl, rfl, same_sqt s2 bT, at_zero, k0, .str "ask", dp_same s2 k0 h0, .str _, ?_, str_lay _, str_dep _, _, rfl, ?_⟩
        · obtain ⟨_, n', rfl, hx⟩ := gd_tup hgx
          exact gd_lay (hx _ List.mem_cons_self)
        show if named "ask" k0 = true then _ else _
        have hask : askB (.tuple (k0 :: r0)) = if named "ask" k0 then 1 else 0 := rfl
        obtain ⟨as', has⟩ : ∃ as' : Nat, as' = as + askB (.tuple (k0 :: r0)) := ⟨_, rfl⟩
        rw [← has] at hval1
        by_cases c : named "ask" k0 = true
        case' pos =>
          rw [if_pos c] at hask ⊢
          have hi : (as' : Int) = (as : Int) + 1 := by omega
          refine ⟨_, rfl, _, _, rfl, rfl, ?_⟩
        case' neg =>
          rw [if_neg c] at hask ⊢
          have hi : (as' : Int) = (as : Int) := by omega
        all_goals
          refine ⟨_, rfl, _, rfl, _, _, rfl, ?_⟩
          refine ⟨_, rfl, .inl ⟨rfl, _, .inl (.inl pl2.lst)⟩, ?_⟩
          refine ⟨_, rfl, _, _, n, H, rfl, s2, hdx0, hgx, hlk, fun a us H4 s4 aT aA => ?_⟩
          refine ⟨a, rfl, ⟨_, aT⟩, fun Dl hD => ?_⟩
          have hul := dp_all_len aA
          refine lc_tup (xs := us) (fun i H5 => ∃ es : List Ent2, es.map (fun e => e.2.2) = ((kidsD (.tuple (k0 :: r0))).take i).map (fun d => (d, as', k + 1)) ∧ H5 Dl = some (.lst (es.map fun e => V.ref e.1)) ∧ (∀ e ∈ es, H5 e.1 = some (.tup [e.2.1, .int (e.2.2.2.1 : Int)]) ∧ Dp K H e.2.1 e.2.2.1 ∧ Gd n e.2.2.1) ∧ Same H4 H5) ?_ ?_ ?_ ?_
          · exact ⟨[], rfl, upd_same, fun e he => (nomatch he), same_new hD⟩
          · rintro i H5 _ ⟨_, _, _, _, s5⟩
            exact same_sqt s5 aT
          · rintro i u H5 hu ⟨es, he, eD, hes, s5⟩
            obtain ⟨e, hei, heu⟩ := dp_all_get aA hu
            refine ⟨rfl, ?_⟩
            refine ⟨_, rfl, _, rfl, (by show 2 ≤ sizeLine; decide), fun t nt => ?_⟩
            have et : ∀ o : HO, o = .tup [u, .int (as' : Int)] → upd H5 t o Dl = some (.lst (es.map fun e => V.ref e.1)) ∧ upd H5 t o t = some (.tup [u, .int (as' : Int)]) ∧ ∀ b x, H5 b = some x → upd H5 t o b = some x := by
              rintro o rfl
              exact ⟨by rw [upd_ne (ne_of_none eD nt)]; exact eD, upd_same, fun b x hb => by rw [upd_ne (ne_of_none hb nt)]; exact hb⟩
            obtain ⟨eD2, et2, esame⟩ := et _ (by rw [hi])
            have htD : t ≠ Dl := fun z => by
              rw [z, eD] at nt
              cases nt
            refine ⟨_, eD2, ?_, es ++ [(t, u, e, as', k + 1)], ?_, ?_, ?_, ?_⟩
            · have hle := congrArg List.length he
              rw [List.length_map, List.length_map, List.length_take] at hle
              have hkl := kids_len hgx
              rw [List.length_map]
              exact Nat.lt_of_lt_of_le (show es.length < 10000 by omega) (by decide)
            · rw [List.map_append, he, List.take_add_one, hei, List.map_append]
              rfl
            · rw [upd_same, List.map_append]
              rfl
            · intro x hx
              rcases List.mem_append.mp hx with h | h
              · obtain ⟨g1, g2, g3⟩ := hes x h
                refine ⟨?_, g2, g3⟩
                have g4 := esame _ _ g1
                rw [upd_ne (fun z => by rw [z, eD2] at g4; cases g4)]
                exact g4
              · rw [List.mem_singleton.mp h]
                refine ⟨?_, heu, kids_gd hgx (List.mem_of_getElem? hei)⟩
                rw [upd_ne htD]
                exact et2
            · intro b o e
              rw [upd_ne (ne_of_none e hD)]
              exact esame b o (s5 b o e)
          · rintro H5 ⟨es, he, eD, hes, s5⟩
            rw [List.take_of_length_le (by omega)] at he
            obtain ⟨v1, v2⟩ := ents_vals he
            have eW5 := s5 _ _ (s4 _ _ pl2.lst)
            have hle := congrArg List.length he
            rw [List.length_map, List.length_map] at hle
            have hkl := kids_len hgx
            have hyl := szE_len ys
            have hmz : m = szE ys + szE [((p, V.ref b, PyData.tuple (k0 :: r0), as, k) : Ent2)] := hm.trans (szE_app _ _)
            have hlz : szE ys + szE [((p, V.ref b, PyData.tuple (k0 :: r0), as, k) : Ent2)] ≤ 2001 := by
              rw [← hmz, hm]
              exact hlen
            have hsx : szE [((p, V.ref b, PyData.tuple (k0 :: r0), as, k) : Ent2)] = 1 + ((kidsD (.tuple (k0 :: r0))).map (szN (60 - k))).sum := by
              show szN (61 - k) _ + 0 = _
              rw [hszx]
              rfl
            refine ⟨W, Dl, _, _, rfl, rfl, eW5, eD, ?_, ?_⟩
            · rw [List.length_map, List.length_map, sizeLine_eq]
              omega
            · refine ⟨ys ++ es, max most as', some (.ref b), some (.int (as' : Int)), y5, ?_, ?_, ?_, ⟨?_, ?_⟩, ?_⟩
              · show [_, some (V.int _), _, _, some (V.int _), _] = [_, some (V.int _), _, _, some (V.int _), _]
                have emx : (if ((as' : Int)) > (most : Int) then ((as' : Int)) else (most : Int)) = ((max most as' : Nat) : Int) := by
                  split <;> omega
                rw [← emx, hi]
              · rw [szE_app, v2]
                omega
              · intro b o e
                rw [upd_ne (ne_of_none e hW)]
                exact s5 b o (s4 b o (s2 b o e))
              · rw [upd_same, List.map_append]
              · intro x hx
                rcases List.mem_append.mp hx with h | h
                · obtain ⟨g1, g2⟩ := pl2.ent x h
                  refine ⟨?_, g2⟩
                  have g4 := s5 _ _ (s4 _ _ g1)
                  rw [upd_ne (fun z => by rw [z, eW5] at g4; cases g4)]
                  exact g4
                · obtain ⟨g1, g2, g3⟩ := hes x h
                  obtain ⟨e', he1, he2⟩ : ∃ e' ∈ kidsD (.tuple (k0 :: r0)), x.2.2 = (e', as', k + 1) := by
                    have : x.2.2 ∈ es.map (fun e => e.2.2) := List.mem_map.mpr ⟨x, h, rfl⟩
                    rw [he] at this
                    obtain ⟨e', h1, h2⟩ := List.mem_map.mp this
                    exact ⟨e', h1, h2.symm⟩
                  have hk2 := hkids e' he1
                  have hpos := okN_pos hk2
                  refine ⟨?_, g2, g3, ?_, ?_⟩
                  · rw [upd_ne (fun z => by rw [z, eW5] at g1; cases g1)]
                    exact g1
                  · rw [he2]
                    show okN (61 - (k + 1)) e' = true
                    rw [show 61 - (k + 1) = 60 - k by omega]
                    exact hk2
                  · rw [he2]
                    show k + 1 ≤ 60
                    omega
              · rw [hval, List.map_append, List.map_append, v1]
                have := fold_pop most as' (ys.map valE) ((kidsD (.tuple (k0 :: r0))).map (paN (60 - k)))
                rw [← this]
                show (ys.map valE ++ [valE (p, V.ref b, .tuple (k0 :: r0), as, k)]).foldl max most = _
                rw [hval1]

def spMA (K : PySem.W.Frag) (C : Addr) : Sp := fun vs H Q E => ∃ (v : V) (d : PyData) (n : Nat), vs = [v] ∧ Dp K H v d ∧ Gd n d ∧ ∀ H', Same H H' → (brOk d = true → Q (.int (progM 20 d)) H') ∧ (brOk d = false → E (.ref C) none H')
theorem ok_most {f : Addr} {fd : FuncData} (D : Df K mg "most_asks" s_most_asks ["breaker"] f fd) (T : Txt K w mg cs) (c_check_breaker : Cl P w K mg base (L2.CX P w) 6 "check_breaker" (spCheckB K cs.BadBreaker)) (c_is_made : Cl P w K mg base CX0 1 "is_made" (spD K madeD)) (c_plain_asks : Cl P w K mg base CX0 2 "plain_asks" (spAsks K)) :
    FnOk P w K mg base (L2.CX P w) 7 f fd ["breaker"] (spMA K cs.BadBreaker) := by
  refine D.fn.okX sc_most_asks (fun vs H Q E h => ?_) (fun cdv A outer s H vs Q E hr h => ?_)
  · obtain ⟨v, d, n, rfl, _⟩ := h
    rfl
  · obtain ⟨v, d, n, rfl, hd, hg, q⟩ := h
    have tk := takes_of (X := cxOf (L2.CX P w) P w K mg base ["breaker", "own", "inner"] "most_asks" (defScope s_most_asks) f cdv A outer s H E) (E := E) rfl rfl rfl rfl
    refine ⟨_, (pss_cons (ps_expr (pe_clX c_check_breaker hr (by first | decide | omega) (by rfl) tk (pa_cons (pv 0) pa_nil))) (pss_cons (ps_set (i := 1) sc_most_asks.nd rfl (.inl rfl) pe_int) (pss_cons (ps_set (i := 2) sc_most_asks.nd rfl (.inl rfl) (pv 0)) (pss_cons (ps_while (passes_of rfl) (pt_cmpR op_in_seq (pe_ix (ixT K) (pv 2) pe_int (fun _ _ => rfl)) (pe_tup (pa_cons pe_str (pa_cons pe_str pa_nil))) (by rfl)) (pss_cons (ps_if (pt_cmpR (op_eqF K hr.units) (pe_ix (ixT K) (pv 2) pe_int (fun _ _ => rfl)) pe_str (nomark _)) (pss_one (ps_aug (i := 1) sc_most_asks.nd rfl (.inl rfl) pe_int ip_add)) pss_nil) (pss_one (ps_set (i := 2) sc_most_asks.nd rfl (.inl rfl) (pe_ix (ixT K) (pv 2) (pe_un un_neg pe_int) (fun _ _ => rfl)))))) (pss_cons (ps_if (pt_cmpR (op_eqF K hr.units) (pe_ix (ixT K) (pv 2) pe_int (fun _ _ => rfl)) pe_str (nomark _)) (pss_one (ps_ret (pe_op op_add (pv 1) (pe_ix (ixT K) (pv 2) pe_int (fun _ _ => rfl))))) pss_nil) (pss_one (ps_ret (pe_ifExp (pt_val (pe_cl c_is_made hr (by first | decide | omega) (by rfl) (pa_cons (pv 2) pa_nil))) (pv 1) (pe_op op_add (pv 1) (pe_cl c_plain_asks hr (by first | decide | omega) (by rfl) (pa_cons (pv 2) pa_nil))))))))))), ?_⟩
    refine ⟨_, rfl, v, d, n, rfl, hd, hg, fun H1 s1 => ⟨fun hb => ?_, fun hb => (q H1 s1).2 hb⟩⟩
    have q' := fun H' (s' : Same H H') => (q H' s').1 hb
    clear q
    refine ⟨_, rfl, ?_⟩
    refine ⟨fun m σ H' => ∃ (vi : V) (di : PyData) (own : Int), σ = [some v, some (.int own), some vi] ∧ Same H H' ∧ Dp K H vi di ∧ Gd n di ∧ chk m di = true ∧ progM 20 d = own + progM m di,
      ⟨20, v, d, 0, rfl, s1, hd, hg, hb, (Int.zero_add _).symm⟩, ?_⟩
    clear hb s1
    rintro m σ H' ⟨vi, di, own, rfl, s1, hdi, hgi, hc, hp⟩
    obtain ⟨z, r, rfl⟩ := chk_head hc
    have hdi0 := hdi
    cases hdi with
    | @tup a ws _ hT hA =>
    have hA0 := hA
    obtain ⟨v0, vr, rfl, h0, hr'⟩ := dp_cons hA
    cases h0
    have lay : PyData.canLay0 (.str z) = true := by
      obtain ⟨_, n', rfl, hx⟩ := gd_tup hgi
      exact gd_lay (hx _ List.mem_cons_self)
    refine ⟨_, rfl, a, _, 0, .str z, rfl, rfl, same_sqt s1 hT, at_zero, (by show 2 ≤ sizeLine; decide), fun p np => ?_⟩
    have s2 := s1.trans (same_new (o := .tup [.str "marks", .str "secrets"]) np)
    refine ⟨p, _, rfl, .inr (.inl (.inl upd_same)), rfl, rfl, ?_⟩
    generalize upd H' p (.tup [.str "marks", .str "secrets"]) = H2 at s2
    have hT2 := same_sqt s2 hT
    have e : inV (.str z) [.str "marks", .str "secrets"] = (decide (z = "marks") || decide (z = "secrets")) := by
      show ((eqV (.str "marks") (.str z) || (eqV (.str "secrets") (.str z) || false)) : Bool) = _
      rw [Bool.or_false]
      have ee : ∀ y : Str, eqV (.str y) (.str z) = decide (z = y) := fun y => by
        show (y == z) = _
        by_cases h : z = y
        · rw [decide_eq_true h, h]
          exact beq_self_eq_true y
        · rw [decide_eq_false h]
          exact beq_eq_false_iff_ne.mpr fun k => h k.symm
      rw [ee, ee]
    refine ⟨_, rfl, ?_⟩
    show if inV (.str z) [.str "marks", .str "secrets"] = true then _ else _
    rw [e]
    by_cases c1 : z = "marks"
    · subst c1
      rw [if_pos (by rw [decide_eq_true rfl]; rfl)]
      obtain ⟨m', rfl, hf, hc'⟩ := chk_made (made_num (by decide)) hc
      rw [progM_marks] at hp
      obtain ⟨vl, el, hvl, hmem⟩ := dps_at_last hA0 (fun z => by cases z)
      refine ⟨fun σ H3 => ∃ (vi : V) (di : PyData) (own : Int), σ = [some v, some (.int own), some vi] ∧ Same H H3 ∧ Dp K H vi di ∧ Gd n di ∧ chk m' di = true ∧ progM 20 d = own + progM m' di, fun σ H3 h => ⟨m', Nat.lt_succ_self _, h⟩, ?_⟩
      refine ⟨_, rfl, a, _, 0, .str "marks", rfl, rfl, hT2, at_zero, .str "marks", .str "marks", .str _, .str _, lay, str_lay _, str_dep _, _, rfl, ?_⟩
      refine ⟨_, rfl, _, _, rfl, rfl, ?_⟩
      refine ⟨_, rfl, 1, rfl, a, _, -1, vl, rfl, rfl, hT2, el, ?_⟩
      refine ⟨vl, _, own + 1, rfl, s2, hvl, ?_, hc', by omega⟩
      obtain ⟨_, n', rfl, hx⟩ := gd_tup hgi
      exact gd_up (hx _ hmem)
    · by_cases c2 : z = "secrets"
      · subst c2
        rw [if_pos (by rw [decide_eq_true (rfl : ("secrets" : Str) = "secrets"), Bool.or_true])]
        obtain ⟨m', rfl, hf, hc'⟩ := chk_made (made_num (by decide)) hc
        rw [progM_secrets] at hp
        obtain ⟨vl, el, hvl, hmem⟩ := dps_at_last hA0 (fun z => by cases z)
        refine ⟨fun σ H3 => ∃ (vi : V) (di : PyData) (own : Int), σ = [some v, some (.int own), some vi] ∧ Same H H3 ∧ Dp K H vi di ∧ Gd n di ∧ chk m' di = true ∧ progM 20 d = own + progM m' di, fun σ H3 h => ⟨m', Nat.lt_succ_self _, h⟩, ?_⟩
        refine ⟨_, rfl, a, _, 0, .str "secrets", rfl, rfl, hT2, at_zero, .str "secrets", .str "marks", .str _, .str _, lay, str_lay _, str_dep _, _, rfl, ?_⟩
        refine ⟨_, rfl, 1, rfl, a, _, -1, vl, rfl, rfl, hT2, el, ?_⟩
        refine ⟨vl, _, own, rfl, s2, hvl, ?_, hc', hp⟩
        obtain ⟨_, n', rfl, hx⟩ := gd_tup hgi
        exact gd_up (hx _ hmem)
      · rw [if_neg (by rw [decide_eq_false c1, decide_eq_false c2]; decide)]
        rw [progM_other c1 c2] at hp
        refine ⟨_, rfl, a, _, 0, .str z, rfl, rfl, hT2, at_zero, .str z, .str "counter", .str _, .str _, lay, str_lay _, str_dep _, _, rfl, ?_⟩
        show if named "counter" (.str z) = true then _ else _
        rw [named_str]
        by_cases c3 : z = "counter"
        · subst c3
          rw [if_pos (decide_eq_true rfl)]
          rw [if_pos rfl] at hp
          obtain ⟨m', rfl, hf, hc'⟩ := chk_made (made_num (by decide)) hc
          obtain ⟨l, c, m2, x, rfl, _, _⟩ := counter_parts hf
          obtain ⟨u0, u1, u2, u3, d0, d1, d2, d3, rfl, e4, p0, p1, p2, p3⟩ := dp4 hr' (dp_all_len hr')
          cases e4
          cases p1
          refine ⟨_, rfl, _, rfl, a, _, 2, .int c, rfl, rfl, hT2, rfl, _, _, rfl, rfl, ?_⟩
          have q2 := q' H2 s2
          rw [hp] at q2
          exact q2
        · rw [if_neg (by rw [decide_eq_false c3]; decide)]
          rw [if_neg c3] at hp
          refine ⟨_, rfl, _, _, n, rfl, dp_same s2 _ hdi0, hgi, fun H3 s3 => ⟨_, rfl, ?_⟩⟩
          cases cm : madeD (.tuple (.str z :: r)) with
          | true =>
            rw [cm, if_pos rfl, Int.add_zero] at hp
            have q2 := q' H3 (s2.trans s3)
            rw [hp] at q2
            exact ⟨_, rfl, q2⟩
          | false =>
            rw [cm, if_neg (by decide)] at hp
            rw [chk_plain cm] at hc
            refine ⟨_, rfl, _, rfl, _, _, n, rfl, dp_same (s2.trans s3) _ hdi0, hgi, hc, fun H4 s4 => ⟨_, _, rfl, rfl, ?_⟩⟩
            have q2 := q' H4 ((s2.trans s3).trans s4)
            rw [hp] at q2
            exact q2

end
/-! ### layers with numbers of any kind -/
def LongNo (D Y : PyData) : Prop := funOk D = true ∨ ∃ n m rows, D = tabD n m rows ∧ Wf n m rows ∧ (m ≠ n + 1 ∨ whole Y 1 20 = false)
def spLongA (K : PySem.W.Frag) (CB CS : Addr) : Sp := fun vs H Q E => ∃ (v kv : V) (D Y : PyData) (d : Nat), vs = [v, kv] ∧ Dp K H v D ∧ Gd d D ∧ d ≤ 64 ∧ Dp K H kv Y ∧
  ((LongNo D Y ∧ ∀ H', Same H H' → E (.ref CS) none H') ∨
    (∃ (n j : Nat) (rows : List (List Bool)), D = tabD n (n + 1) rows ∧ Y = .int (j : Int) ∧ Wf n (n + 1) rows ∧ 1 ≤ j ∧ j ≤ 20 ∧ ∀ v' H', Same H H' → Dp K H' v' (tabD n (n + j) (longR n rows j)) → Q v' H'))
def CutNo (D Y : PyData) : Prop := funOk D = true ∨ ∃ n m rows, D = tabD n m rows ∧ Wf n m rows ∧ whole Y 1 (m : Int) = false
def spCutA (K : PySem.W.Frag) (CB CS : Addr) : Sp := fun vs H Q E => ∃ (v kv : V) (D Y : PyData) (d : Nat), vs = [v, kv] ∧ Dp K H v D ∧ Gd d D ∧ d ≤ 64 ∧ Dp K H kv Y ∧
  ((CutNo D Y ∧ ∀ H', Same H H' → E (.ref CS) none H') ∨
    (∃ (n m j : Nat) (rows : List (List Bool)), D = tabD n m rows ∧ Y = .int (j : Int) ∧ Wf n m rows ∧ 1 ≤ j ∧ j ≤ m ∧ ∀ v' H', Same H H' → Dp K H' v' (tabD n j (rows.map fun r => r.take j)) → Q v' H'))
def TreeNo (D Y : PyData) : Prop := funOk D = true ∨ ∃ n m rows, D = tabD n m rows ∧ Wf n m rows ∧ (m ≠ 2 * n ∨ 8 < n ∨ whole Y 1 8 = false ∨ ∃ k : Int, Y = .int k ∧ 12 < (n : Int) + k)
def spTreeA (K : PySem.W.Frag) (CB CS : Addr) : Sp := fun vs H Q E => ∃ (v kv : V) (D Y : PyData) (d : Nat), vs = [v, kv] ∧ Dp K H v D ∧ Gd d D ∧ d ≤ 64 ∧ Dp K H kv Y ∧
  ((TreeNo D Y ∧ ∀ H', Same H H' → E (.ref CS) none H') ∨
    (∃ (n j : Nat) (rows : List (List Bool)), D = tabD n (2 * n) rows ∧ Y = .int (j : Int) ∧ Wf n (2 * n) rows ∧ n ≤ 8 ∧ 1 ≤ j ∧ j ≤ 8 ∧ n + j ≤ 12 ∧ ∀ v' H', Same H H' → Dp K H' v' (funD n j n (treeT n j rows)) → Q v' H'))
def CntNo (D Y : PyData) : Prop := genOk D = true ∨ ∃ n l m tabs, D = funD n l m tabs ∧ Wff n l m tabs ∧ (whole Y 1 ((2 ^ l : Nat) : Int) = false ∨ ∃ k : Int, Y = .int k ∧ 40 < k * (m : Int))
def spCntA (K : PySem.W.Frag) (CB CS : Addr) : Sp := fun vs H Q E => ∃ (v kv : V) (D Y : PyData) (d : Nat), vs = [v, kv] ∧ Dp K H v D ∧ Gd d D ∧ d ≤ 64 ∧ Dp K H kv Y ∧
  ((CntNo D Y ∧ ∀ H', Same H H' → E (.ref CS) none H') ∨
    (∃ (n l m j : Nat) (tabs : List (List (List Bool))), D = funD n l m tabs ∧ Y = .int (j : Int) ∧ Wff n l m tabs ∧ 1 ≤ j ∧ j ≤ 2 ^ l ∧ j * m ≤ 40 ∧ ∀ v' H', Same H H' → Dp K H' v' (tabD n (j * m) (cntR j tabs)) → Q v' H'))

section
variable {P : Program} {w : World} {K : PySem.W.Frag} {mg : Str → Option Value} {base : Heap} {cs : Cs}
theorem ok_longerA {f : Addr} {fd : FuncData} (D : Df K mg "longer" s_longer ["block", "k"] f fd) (T : Txt K w mg cs) (c_generator_parts : Cl P w K mg base (L2.CX P w) 4 "generator_parts" (spParts K cs.BadBlock cs.BadScheme))
    (c_is_whole : Cl P w K mg base CX0 1 "is_whole" (spWhole K)) (c_all_bits : Cl P w K mg base CX0 2 "all_bits" (spAll K)) (c_put_out : Cl P w K mg base CX0 2 "put_out" (spPut K)) : FnOk P w K mg base (L2.CX P w) 5 f fd ["block", "k"] (spLongA K cs.BadBlock cs.BadScheme) := by
  refine D.fn.okX sc_longer (fun vs H Q E h => ?_) (fun cdv A outer s H vs Q E hr h => ?_)
  · obtain ⟨v, kv, d, Y, n, rfl, _⟩ := h
    rfl
  · obtain ⟨v, kv, d, Y, n, rfl, hd, hg, hn, hY, q⟩ := h
    have tk := takes_of (X := cxOf (L2.CX P w) P w K mg base ["block", "k", "n", "m", "rows", "seed"] "longer" (defScope s_longer) f cdv A outer s H E) (E := E) rfl rfl rfl rfl
    refine ⟨_, (pss_cons (ps_asg (pe_clX c_generator_parts hr (by first | decide | omega) (by rfl) tk (pa_cons (pv 0) pa_nil)) (pg_tup (by rfl) (pgs_cons (pg_name (i := 2) sc_longer.nd rfl (.inl rfl)) (pgs_cons (pg_name (i := 3) sc_longer.nd rfl (.inl rfl)) (pgs_cons (pg_name (i := 4) sc_longer.nd rfl (.inr rfl)) pgs_nil))))) (pss_cons (ps_if (pt_cmpR op_ne (pv 3) (pe_op op_add (pv 2) pe_int) (nomark _)) (pss_one (ps_raiseE T.x_BadScheme rfl tk (by rfl))) pss_nil) (pss_cons (ps_if (pt_not (pt_val (pe_cl c_is_whole hr (by first | decide | omega) (by rfl) (pa_cons (pv 1) (pa_cons pe_int (pa_cons pe_int pa_nil)))))) (pss_one (ps_raiseE T.x_BadScheme rfl tk (by rfl))) pss_nil) (pss_one (ps_ret (pe_tup (pa_cons pe_str (pa_cons (pv 2) (pa_cons (pe_op op_add (pv 2) (pv 1)) (pa_cons (pe_callTy (tupOf K) (by rfl) T.n_tuple (by decide +kernel) (pa_cons (pe_lc (own := [("seed", 5)]) (g := gName 5) (tt := tYes) rfl sc_longer.nd (pi_list (pe_cl c_all_bits hr (by first | decide | omega) (by rfl) (pa_cons (pv 2) pa_nil))) (blkOk_by (own := [("seed", 5)]) (N := ["block", "k", "n", "m", "rows", "seed"]) (sc := defScope s_longer) (by decide +kernel)) (fun _ _ _ _ _ => (pg_name (i := 5) sc_longer.nd rfl (.inl rfl))) (fun _ _ _ _ _ => pts_nil) (fun _ _ _ _ _ => (pe_cl c_put_out hr (by first | decide | omega) (by rfl) (pa_cons (pv 4) (pa_cons (pv 5) (pa_cons (pv 1) pa_nil)))))) pa_nil)) pa_nil)))))))))), ?_⟩
    rcases q with ⟨q0, q⟩ | ⟨n', j, rows, rfl, rfl, wf, j1, j2, q⟩
    · rcases q0 with q0 | ⟨n', m, rows, rfl, wf, bad⟩
      · exact ⟨_, rfl, v, d, n, rfl, hd, hg, hn, .inr (.inl ⟨q0, q⟩)⟩
      · refine ⟨_, rfl, v, _, n, rfl, hd, hg, hn, .inr (.inr ⟨n', m, rows, rfl, wf, fun p r H1 s1 t1 t2 => ?_⟩)⟩
        refine ⟨p, _, rfl, t1, rfl, _, _, rfl, _, _, rfl, _, _, rfl, rfl, ?_⟩
        refine ⟨_, rfl, _, rfl, _, _, rfl, rfl, rfl, _, rfl, ?_⟩
        by_cases c : m = n' + 1
        · rw [decide_eq_true (show V.int (m : Int) = V.int ((n' : Int) + 1) from congrArg V.int (by omega))]
          refine ⟨_, rfl, kv, Y, 1, 20, rfl, dp_same s1 _ hY, _, rfl, ?_⟩
          rcases bad with bad | bad
          · exact absurd c bad
          · rw [bad]
            exact q H1 s1
        · rw [decide_eq_false (show ¬ V.int (m : Int) = V.int ((n' : Int) + 1) from fun z => c (by have := V.int.inj z; omega))]
          exact q H1 s1
    · cases hY
      refine ⟨_, rfl, v, _, n, rfl, hd, hg, hn, .inr (.inr ⟨n', n' + 1, rows, rfl, wf, fun p r H1 s1 t1 t2 => ?_⟩)⟩
      refine ⟨p, _, rfl, t1, rfl, _, _, rfl, _, _, rfl, _, _, rfl, rfl, ?_⟩
      refine ⟨_, rfl, _, rfl, _, _, rfl, rfl, rfl, _, rfl, ?_⟩
      rw [decide_eq_true (show V.int ((n' + 1 : Nat) : Int) = V.int ((n' : Int) + 1) from congrArg V.int (by omega))]
      refine ⟨_, rfl, .int (j : Int), .int (j : Int), 1, 20, rfl, .int (j : Int), _, rfl, ?_⟩
      have ew : whole (.int (j : Int)) 1 20 = true := by
        show (decide _ && decide _) = true
        rw [decide_eq_true (show (1 : Int) ≤ (j : Int) by omega), decide_eq_true (show (j : Int) ≤ 20 by omega)]
        rfl
      rw [ew]
      have hn10 := wf.n2
      refine ⟨_, rfl, _, rfl, _, rfl, _, _, rfl, rfl, _, rfl, n', rfl, by omega, fun L H2 nL s2 eL => ⟨L, rfl, ⟨_, .inl (.inl eL)⟩, fun Dl hD => ?_⟩⟩
      have nLD : Dl ≠ L := (ne_of_none eL hD).symm
      refine lc_list (xs := rowV ((List.range (2 ^ n')).map fun i => toB n' i)) (fun i H' => Same H2 H' ∧ H' Dl = some (.lst (rowV ((List.range i).map fun i => putOut rows j (toB n' i))))) ?_ ?_ ?_ ?_
      · exact ⟨same_new hD, upd_same⟩
      · rintro i H' _ ⟨s3, _⟩
        exact .inl (.inl (s3 _ _ eL))
      · rintro i x H' hx ⟨s3, e3⟩
        have hi : i < 2 ^ n' := by
          have := (List.getElem?_eq_some_iff.mp hx).1
          unfold rowV at this
          rw [List.length_map, List.length_map, List.length_range] at this
          exact this
        have ex : x = .str (sb (toB n' i)) := by
          unfold rowV at hx
          rw [List.getElem?_map, List.getElem?_map, List.getElem?_range hi] at hx
          exact (Option.some.inj hx).symm
        subst ex
        have hp := two_pow_le (b := 10) hn10
        refine ⟨rfl, ?_⟩
        refine ⟨_, rfl, _, rfl, _, rfl, r, n', j, rows, toB n' i, rfl, same_sqt (s2.trans s3) t2, wf, toB_len _ _, j2, _, e3, ?_, fun b o e => ?_, ?_⟩
        · unfold rowV
          rw [List.length_map, List.length_map, List.length_range]
          exact Nat.lt_of_lt_of_le (show i < 10000 by omega) (by decide)
        · rw [upd_ne (ne_of_none e hD)]
          exact s3 b o e
        · rw [upd_same, List.range_succ]
          unfold rowV
          rw [List.map_append, List.map_append]
          rfl
      · rintro H' ⟨s3, e3⟩
        have el : (rowV ((List.range (2 ^ n')).map fun i => toB n' i)).length = 2 ^ n' := by
          unfold rowV
          rw [List.length_map, List.length_map, List.length_range]
        rw [el] at e3
        refine ⟨Dl, _, rfl, .inl ⟨.inl (.inl e3), fun t nt => ⟨(by show 4 ≤ sizeLine; decide), fun g ng => ?_⟩⟩⟩
        have s4 := ((s1.trans s2).trans s3).trans ((same_new nt).trans (same_new (o := .tup [.str "generator", .int (n' : Int), .int ((n' : Int) + (j : Int)), .ref t]) ng))
        refine q _ _ s4 (tab_dp (n := n') (m := n' + j) (r := t) (.inl (.inl upd_same)) (.inl (.inl ?_)))
        rw [upd_ne (ne_of_none upd_same ng), upd_same]
        rfl
theorem ok_cutA {f : Addr} {fd : FuncData} (D : Df K mg "cut" s_cut ["block", "b"] f fd) (T : Txt K w mg cs) (c_generator_parts : Cl P w K mg base (L2.CX P w) 4 "generator_parts" (spParts K cs.BadBlock cs.BadScheme))
    (c_is_whole : Cl P w K mg base CX0 1 "is_whole" (spWhole K)) : FnOk P w K mg base (L2.CX P w) 5 f fd ["block", "b"] (spCutA K cs.BadBlock cs.BadScheme) := by
  refine D.fn.okX sc_cut (fun vs H Q E h => ?_) (fun cdv A outer s H vs Q E hr h => ?_)
  · obtain ⟨v, kv, d, Y, n, rfl, _⟩ := h
    rfl
  · obtain ⟨v, kv, d, Y, n, rfl, hd, hg, hn, hY, q⟩ := h
    have tk := takes_of (X := cxOf (L2.CX P w) P w K mg base ["block", "b", "n", "m", "rows", "row"] "cut" (defScope s_cut) f cdv A outer s H E) (E := E) rfl rfl rfl rfl
    refine ⟨_, (pss_cons (ps_asg (pe_clX c_generator_parts hr (by first | decide | omega) (by rfl) tk (pa_cons (pv 0) pa_nil)) (pg_tup (by rfl) (pgs_cons (pg_name (i := 2) sc_cut.nd rfl (.inl rfl)) (pgs_cons (pg_name (i := 3) sc_cut.nd rfl (.inl rfl)) (pgs_cons (pg_name (i := 4) sc_cut.nd rfl (.inl rfl)) pgs_nil))))) (pss_cons (ps_if (pt_not (pt_val (pe_cl c_is_whole hr (by first | decide | omega) (by rfl) (pa_cons (pv 1) (pa_cons pe_int (pa_cons (pv 3) pa_nil)))))) (pss_one (ps_raiseE T.x_BadScheme rfl tk (by rfl))) pss_nil) (pss_one (ps_ret (pe_tup (pa_cons pe_str (pa_cons (pv 2) (pa_cons (pv 1) (pa_cons (pe_callTy (tupOf K) (by rfl) T.n_tuple (by decide +kernel) (pa_cons (pe_lc (own := [("row", 5)]) (g := gName 5) (tt := tYes) rfl sc_cut.nd (pi_tup (pv 4)) (blkOk_by (own := [("row", 5)]) (N := ["block", "b", "n", "m", "rows", "row"]) (sc := defScope s_cut) (by decide +kernel)) (fun _ _ _ _ _ => (pg_name (i := 5) sc_cut.nd rfl (.inl rfl))) (fun _ _ _ _ _ => pts_nil) (fun _ _ _ _ _ => (pe_slice sl_str (pv 5) po_none (po_some (pv 1))))) pa_nil)) pa_nil))))))))), ?_⟩
    rcases q with ⟨q0, q⟩ | ⟨n', m, j, rows, rfl, rfl, wf, j1, j2, q⟩
    · rcases q0 with q0 | ⟨n', m, rows, rfl, wf, bad⟩
      · exact ⟨_, rfl, v, d, n, rfl, hd, hg, hn, .inr (.inl ⟨q0, q⟩)⟩
      · refine ⟨_, rfl, v, _, n, rfl, hd, hg, hn, .inr (.inr ⟨n', m, rows, rfl, wf, fun p r H1 s1 t1 t2 => ?_⟩)⟩
        refine ⟨p, _, rfl, t1, rfl, _, _, rfl, _, _, rfl, _, _, rfl, rfl, ?_⟩
        refine ⟨_, rfl, _, rfl, kv, Y, 1, (m : Int), rfl, dp_same s1 _ hY, _, rfl, ?_⟩
        rw [bad]
        exact q H1 s1
    · cases hY
      refine ⟨_, rfl, v, _, n, rfl, hd, hg, hn, .inr (.inr ⟨n', m, rows, rfl, wf, fun p r H1 s1 t1 t2 => ?_⟩)⟩
      refine ⟨p, _, rfl, t1, rfl, _, _, rfl, _, _, rfl, _, _, rfl, rfl, ?_⟩
      refine ⟨_, rfl, _, rfl, .int (j : Int), .int (j : Int), 1, (m : Int), rfl, .int (j : Int), _, rfl, ?_⟩
      have ew : whole (.int (j : Int)) 1 (m : Int) = true := by
        show (decide _ && decide _) = true
        rw [decide_eq_true (show (1 : Int) ≤ (j : Int) by omega), decide_eq_true (show (j : Int) ≤ (m : Int) by omega)]
        rfl
      rw [ew]
      have hn10 := wf.n2
      refine ⟨_, rfl, _, rfl, _, rfl, r, rfl, ⟨_, t2⟩, fun Dl hD => ?_⟩
      refine lc_tup (xs := rowV rows) (fun i H' => Same H1 H' ∧ H' Dl = some (.lst (rowV ((rows.take i).map fun r => r.take j)))) ?_ ?_ ?_ ?_
      · exact ⟨same_new hD, upd_same⟩
      · rintro i H' _ ⟨s3, _⟩
        exact same_sqt s3 t2
      · rintro i x H' hx ⟨s3, e3⟩
        have hi : i < rows.length := by
          have := (List.getElem?_eq_some_iff.mp hx).1
          unfold rowV at this
          rw [List.length_map] at this
          exact this
        have ex : x = .str (sb rows[i]) := by
          unfold rowV at hx
          rw [List.getElem?_map, List.getElem?_eq_getElem hi] at hx
          exact (Option.some.inj hx).symm
        subst ex
        have hp := two_pow_le (b := 10) hn10
        have hl := wf.len
        have hrl := wf.row _ (List.getElem_mem hi)
        have hm := wf.m2
        refine ⟨rfl, ?_⟩
        refine ⟨_, rfl, _, rfl, _, rfl, _, rfl, ?_, _, e3, ?_, fun b o e => ?_, ?_⟩
        · rw [sb_len, sizeLine_eq]
          omega
        · unfold rowV
          rw [List.length_map, List.length_map, List.length_take]
          exact Nat.lt_of_lt_of_le (show min i rows.length < 10000 by omega) (by decide)
        · rw [upd_ne (ne_of_none e hD)]
          exact s3 b o e
        · rw [upd_same, List.take_add_one, List.getElem?_eq_getElem hi, cut_pre]
          unfold rowV
          rw [List.map_append, List.map_append]
          rfl
      · rintro H' ⟨s3, e3⟩
        have el : (rowV rows).length = rows.length := by
          unfold rowV
          rw [List.length_map]
        rw [el, List.take_length] at e3
        refine ⟨Dl, _, rfl, .inl ⟨.inl (.inl e3), fun t nt => ⟨(by show 4 ≤ sizeLine; decide), fun g ng => ?_⟩⟩⟩
        have s4 := (s1.trans s3).trans ((same_new nt).trans (same_new (o := .tup [.str "generator", .int (n' : Int), .int (j : Int), .ref t]) ng))
        refine q _ _ s4 (tab_dp (n := n') (m := j) (r := t) (.inl (.inl upd_same)) (.inl (.inl ?_)))
        rw [upd_ne (ne_of_none upd_same ng), upd_same]
        rfl
theorem ok_treeA {f : Addr} {fd : FuncData} (D : Df K mg "tree" s_tree ["block", "d"] f fd) (T : Txt K w mg cs) (c_generator_parts : Cl P w K mg base (L2.CX P w) 4 "generator_parts" (spParts K cs.BadBlock cs.BadScheme))
    (c_is_whole : Cl P w K mg base CX0 1 "is_whole" (spWhole K)) (c_all_bits : Cl P w K mg base CX0 2 "all_bits" (spAll K)) (c_go_down : Cl P w K mg base CX0 2 "go_down" (spGo K)) : FnOk P w K mg base (L2.CX P w) 5 f fd ["block", "d"] (spTreeA K cs.BadBlock cs.BadScheme) := by
  refine D.fn.okX sc_tree (fun vs H Q E h => ?_) (fun cdv A outer s H vs Q E hr h => ?_)
  · obtain ⟨v, kv, d, Y, n, rfl, _⟩ := h
    rfl
  · obtain ⟨v, kv, d, Y, n, rfl, hd, hg, hn, hY, q⟩ := h
    have tk := takes_of (X := cxOf (L2.CX P w) P w K mg base ["block", "d", "n", "m", "rows", "paths", "tables", "key", "path"] "tree" (defScope s_tree) f cdv A outer s H E) (E := E) rfl rfl rfl rfl
    refine ⟨_, (pss_cons (ps_asg (pe_clX c_generator_parts hr (by first | decide | omega) (by rfl) tk (pa_cons (pv 0) pa_nil)) (pg_tup (by rfl) (pgs_cons (pg_name (i := 2) sc_tree.nd rfl (.inl rfl)) (pgs_cons (pg_name (i := 3) sc_tree.nd rfl (.inl rfl)) (pgs_cons (pg_name (i := 4) sc_tree.nd rfl (.inr rfl)) pgs_nil))))) (pss_cons (ps_if (PW.pt (pw_or (pt_cmpR op_ne (pv 3) (pe_op op_mul pe_int (pv 2)) (nomark _)) (pw_or1 (pt_cmpR op_gt (pv 2) pe_int (nomark _))))) (pss_one (ps_raiseE T.x_BadScheme rfl tk (by rfl))) pss_nil) (pss_cons (ps_if (PW.pt (pw_or (pt_not (pt_val (pe_cl c_is_whole hr (by first | decide | omega) (by rfl) (pa_cons (pv 1) (pa_cons pe_int (pa_cons pe_int pa_nil)))))) (pw_or1 (pt_cmpR op_gt (pe_op op_add (pv 2) (pv 1)) pe_int (nomark _))))) (pss_one (ps_raiseE T.x_BadScheme rfl tk (by rfl))) pss_nil) (pss_cons (ps_set (i := 5) sc_tree.nd rfl (.inr rfl) (pe_cl c_all_bits hr (by first | decide | omega) (by rfl) (pa_cons (pv 1) pa_nil))) (pss_cons (ps_setLc (i := 6) (own := [("key", 7)]) (g := gName 7) (tt := tYes) rfl sc_tree.nd rfl rfl (sw_true rfl rfl rfl (by decide +kernel)) (pi_list (pe_cl c_all_bits hr (by first | decide | omega) (by rfl) (pa_cons (pv 2) pa_nil))) (blkOk_by (own := [("key", 7)]) (N := ["block", "d", "n", "m", "rows", "paths", "tables", "key", "path"]) (sc := defScope s_tree) (by decide +kernel)) (fun _ _ _ _ _ => (pg_name (i := 7) sc_tree.nd rfl (.inr rfl))) (fun _ _ _ _ _ => pts_nil) (fun _ _ _ _ _ => (pe_callTy (tupOf K) (by rfl) T.n_tuple (by decide +kernel) (pa_cons (pe_lc (own := [("path", 8)]) (g := gName 8) (tt := tYes) rfl sc_tree.nd (piL K (pv 5)) (blkOk_by (own := [("path", 8)]) (by rfl)) (fun _ _ _ _ _ => (pg_name (i := 8) sc_tree.nd rfl (.inl rfl))) (fun _ _ _ _ _ => pts_nil) (fun _ _ _ _ _ => (pe_cl c_go_down hr (by first | decide | omega) (by rfl) (pa_cons (pv 4) (pa_cons (pv 7) (pa_cons (pv 8) pa_nil)))))) pa_nil)))) (pss_one (ps_ret (pe_tup (pa_cons pe_str (pa_cons (pv 2) (pa_cons (pv 1) (pa_cons (pv 2) (pa_cons (pe_callTy (tupOf K) (by rfl) T.n_tuple (by decide +kernel) (pa_cons (pv 6) pa_nil)) pa_nil))))))))))))), ?_⟩
    rcases q with ⟨q0, q⟩ | ⟨n', j, rows, rfl, rfl, wf, n8, j1, j2, nj, q⟩
    · rcases q0 with q0 | ⟨n', m, rows, rfl, wf, bad⟩
      · exact ⟨_, rfl, v, d, n, rfl, hd, hg, hn, .inr (.inl ⟨q0, q⟩)⟩
      · refine ⟨_, rfl, v, _, n, rfl, hd, hg, hn, .inr (.inr ⟨n', m, rows, rfl, wf, fun p r H1 s1 t1 t2 => ?_⟩)⟩
        refine ⟨p, _, rfl, t1, rfl, _, _, rfl, _, _, rfl, _, _, rfl, rfl, ?_⟩
        refine ⟨_, rfl, _, rfl, _, _, rfl, rfl, .inl ⟨by decide, by decide⟩, rfl, _, rfl, ?_⟩
        by_cases c1 : m = 2 * n'
        · rw [decide_eq_true (show V.int (m : Int) = V.int (2 * (n' : Int)) from congrArg V.int (by omega))]
          refine ⟨_, rfl, _, _, rfl, rfl, _, rfl, ?_⟩
          by_cases c2 : (8 : Int) < (n' : Int)
          · rw [decide_eq_true c2]
            exact q H1 s1
          · rw [decide_eq_false c2]
            refine ⟨_, rfl, kv, Y, 1, 8, rfl, dp_same s1 _ hY, _, rfl, ?_⟩
            cases c3 : whole Y 1 8 with
            | false => exact q H1 s1
            | true =>
              obtain ⟨k, rfl, k1, k2⟩ := whole_int c3
              cases hY
              refine ⟨_, rfl, _, rfl, _, _, rfl, rfl, _, _, rfl, rfl, _, rfl, ?_⟩
              rcases bad with bad | bad | bad | ⟨k', e, bad⟩
              · exact absurd c1 bad
              · exact absurd (show (8 : Int) < (n' : Int) by omega) c2
              · rw [c3] at bad
                cases bad
              · injection e with e
                subst e
                rw [decide_eq_true bad]
                exact q H1 s1
        · rw [decide_eq_false (show ¬ V.int (m : Int) = V.int (2 * (n' : Int)) from fun z => c1 (by have := V.int.inj z; omega))]
          exact q H1 s1
    · cases hY
      refine ⟨_, rfl, v, _, n, rfl, hd, hg, hn, .inr (.inr ⟨n', 2 * n', rows, rfl, wf, fun p r H1 s1 t1 t2 => ?_⟩)⟩
      refine ⟨p, _, rfl, t1, rfl, _, _, rfl, _, _, rfl, _, _, rfl, rfl, ?_⟩
      refine ⟨_, rfl, _, rfl, _, _, rfl, rfl, .inl ⟨by decide, by decide⟩, rfl, _, rfl, ?_⟩
      rw [decide_eq_true (show V.int ((2 * n' : Nat) : Int) = V.int (2 * (n' : Int)) from congrArg V.int (by omega))]
      refine ⟨_, rfl, _, _, rfl, rfl, _, rfl, ?_⟩
      rw [decide_eq_false (show ¬ (8 : Int) < (n' : Int) by omega)]
      refine ⟨_, rfl, .int (j : Int), .int (j : Int), 1, 8, rfl, .int (j : Int), _, rfl, ?_⟩
      have ew : whole (.int (j : Int)) 1 8 = true := by
        show (decide _ && decide _) = true
        rw [decide_eq_true (show (1 : Int) ≤ (j : Int) by omega), decide_eq_true (show (j : Int) ≤ 8 by omega)]
        rfl
      rw [ew]
      refine ⟨_, rfl, _, rfl, _, _, rfl, rfl, _, _, rfl, rfl, _, rfl, ?_⟩
      rw [decide_eq_false (show ¬ (12 : Int) < (n' : Int) + (j : Int) by omega)]
      refine ⟨_, rfl, j, rfl, by omega, fun L1 H2 nL1 s2 e1 => ?_⟩
      refine ⟨_, rfl, n', rfl, by omega, fun L2 H3 nL2 s3 e2 => ⟨L2, rfl, ⟨_, .inl (.inl e2)⟩, fun Dl hD => ?_⟩⟩
      have hp := two_pow_le (b := 8) n8
      have hpj := two_pow_le (b := 8) j2
      have e13 := s3 _ _ e1
      have t23 := same_sqt (s2.trans s3) t2
      refine lc_list (xs := rowV ((List.range (2 ^ n')).map fun i => toB n' i)) (fun i H' => Same H3 H' ∧ ∃ us, H' Dl = some (.lst us) ∧ us.length = i ∧ DpAll K (off Dl H') us ((List.range i).map fun i => rowsD ((List.range (2 ^ j)).map fun k => goDown rows n' (toB n' i) (toB j k)))) ?_ ?_ ?_ ?_
      · exact ⟨same_new hD, [], upd_same, rfl, .nil⟩
      · rintro i H' _ ⟨s4, _⟩
        exact .inl (.inl (s4 _ _ e2))
      · rintro i x H' hx ⟨s4, us, e4, hul, hA⟩
        obtain ⟨hi, rfl⟩ := range_at hx
        refine ⟨rfl, ?_⟩
        refine ⟨_, rfl, L1, rfl, ⟨_, .inl (.inl (s4 _ _ e13))⟩, fun Di hDi => ?_⟩
        refine lc_list (xs := rowV ((List.range (2 ^ j)).map fun i => toB j i)) (fun k H2 => Same H' H2 ∧ H2 Di = some (.lst (rowV ((List.range k).map fun k => goDown rows n' (toB n' i) (toB j k))))) ?_ ?_ ?_ ?_
        · exact ⟨same_new hDi, upd_same⟩
        · rintro k H2 _ ⟨s5, _⟩
          exact .inl (.inl (s5 _ _ (s4 _ _ e13)))
        · rintro k y H2 hy ⟨s5, e5⟩
          obtain ⟨hk, rfl⟩ := range_at hy
          refine ⟨rfl, ?_⟩
          refine ⟨_, rfl, _, rfl, _, rfl, r, n', rows, toB n' i, toB j k, rfl, same_sqt (s4.trans s5) t23, wf, toB_len _ _, _, e5, ?_, fun b o e => ?_, ?_⟩
          · rw [rowV_len, List.length_map, List.length_range]
            exact Nat.lt_of_lt_of_le (show k < 10000 by omega) (by decide)
          · rw [upd_ne (ne_of_none e hDi)]
            exact s5 b o e
          · rw [upd_same, rowV_snoc]
        · rintro H2 ⟨s5, e5⟩
          rw [rowV_len, List.length_map, List.length_range] at e5
          refine ⟨Di, _, rfl, .inl ⟨.inl (.inl e5), fun t nt => ?_⟩⟩
          have e42 := s5 _ _ e4
          have ntD : t ≠ Dl := (ne_of_none e42 nt).symm
          refine ⟨_, by rw [upd_ne ntD.symm]; exact e42, ?_, fun b o e => ?_, us ++ [.ref t], upd_same, by rw [List.length_append, hul]; rfl, ?_⟩
          · exact Nat.lt_of_lt_of_le (show us.length < 10000 by omega) (by decide)
          · rw [upd_ne (ne_of_none e hD)]
            exact same_new nt _ _ (s5 _ _ (s4 _ _ e))
          · rw [off_upd1, List.range_succ, List.map_append]
            refine dpAll_snoc (dps_same (off_mono (s5.trans (same_new nt))) _ hA) (.tup (.inl (.inl ?_)) (dp_bits _))
            rw [off_ne ntD, upd_same]
            rfl
      · rintro H' ⟨s4, us, e4, hul, hA⟩
        rw [rowV_len, List.length_map, List.length_range] at hul hA
        refine ⟨_, rfl, _, rfl, _, rfl, _, rfl, Dl, _, rfl, .inl ⟨.inl (.inl e4), fun t nt => ⟨(by show 5 ≤ sizeLine; decide), fun g ng => ?_⟩⟩⟩
        have s6 := (same_new (o := .tup us) nt).trans (same_new (o := .tup [.str "function", .int (n' : Int), .int (j : Int), .int (n' : Int), .ref t]) ng)
        refine q _ _ (((s1.trans s2).trans s3).trans (s4.trans s6)) (fun_dp (n := n') (l := j) (m := n') (t := t) (.inl (.inl upd_same)) ?_)
        have eT : (treeT n' j rows).map rowsD = (List.range (2 ^ n')).map fun i => rowsD ((List.range (2 ^ j)).map fun k => goDown rows n' (toB n' i) (toB j k)) := by
          unfold treeT
          rw [List.map_map]
          rfl
        unfold tabsD
        rw [eT]
        exact .tup (.inl (.inl (by rw [upd_ne (ne_of_none upd_same ng), upd_same]))) (dps_same (fun b o e => s6 _ _ (off_same Dl H' _ _ e)) _ hA)
theorem ok_counterA {f : Addr} {fd : FuncData} (D : Df K mg "counter" s_counter ["block", "c"] f fd) (T : Txt K w mg cs) (c_function_parts : Cl P w K mg base (L2.CX P w) 4 "function_parts" (spFParts K cs.BadBlock cs.BadScheme))
    (c_is_whole : Cl P w K mg base CX0 1 "is_whole" (spWhole K)) : FnOk P w K mg base (L2.CX P w) 5 f fd ["block", "c"] (spCntA K cs.BadBlock cs.BadScheme) := by
  refine D.fn.okX sc_counter (fun vs H Q E h => ?_) (fun cdv A outer s H vs Q E hr h => ?_)
  · obtain ⟨v, kv, d, Y, n, rfl, _⟩ := h
    rfl
  · obtain ⟨v, kv, d, Y, n, rfl, hd, hg, hn, hY, q⟩ := h
    have tk := takes_of (X := cxOf (L2.CX P w) P w K mg base ["block", "c", "n", "l", "m", "tables", "values"] "counter" (defScope s_counter) f cdv A outer s H E) (E := E) rfl rfl rfl rfl
    refine ⟨_, (pss_cons (ps_asg (pe_clX c_function_parts hr (by first | decide | omega) (by rfl) tk (pa_cons (pv 0) pa_nil)) (pg_tup (by rfl) (pgs_cons (pg_name (i := 2) sc_counter.nd rfl (.inl rfl)) (pgs_cons (pg_name (i := 3) sc_counter.nd rfl (.inl rfl)) (pgs_cons (pg_name (i := 4) sc_counter.nd rfl (.inl rfl)) (pgs_cons (pg_name (i := 5) sc_counter.nd rfl (.inl rfl)) pgs_nil)))))) (pss_cons (ps_if (PW.pt (pw_or (pt_not (pt_val (pe_cl c_is_whole hr (by first | decide | omega) (by rfl) (pa_cons (pv 1) (pa_cons pe_int (pa_cons (pe_op op_shl pe_int (pv 3)) pa_nil)))))) (pw_or1 (pt_cmpR op_gt (pe_op op_mul (pv 1) (pv 4)) (C8.pe_gc (by rfl) T.g_MOST_BITS) (nomark _))))) (pss_one (ps_raiseE T.x_BadScheme rfl tk (by rfl))) pss_nil) (pss_one (ps_ret (pe_tup (pa_cons pe_str (pa_cons (pv 2) (pa_cons (pe_op op_mul (pv 1) (pv 4)) (pa_cons (pe_callTy (tupOf K) (by rfl) T.n_tuple (by decide +kernel) (pa_cons (pe_lc (own := [("values", 6)]) (g := gName 6) (tt := tYes) rfl sc_counter.nd (pi_tup (pv 5)) (blkOk_by (own := [("values", 6)]) (N := ["block", "c", "n", "l", "m", "tables", "values"]) (sc := defScope s_counter) (by decide +kernel)) (fun _ _ _ _ _ => (pg_name (i := 6) sc_counter.nd rfl (.inl rfl))) (fun _ _ _ _ _ => pts_nil) (fun _ _ _ _ _ => (pe_m1 PySem.F.slot_str_join PySem.F.type_str_join (mtJoin K) pe_str (pe_slice (slTA K) (pv 6) po_none (po_some (pv 1)))))) pa_nil)) pa_nil))))))))), ?_⟩
    rcases q with ⟨q0, q⟩ | ⟨n', l, m, j, tabs, rfl, rfl, wf, j1, j2, jm, q⟩
    · rcases q0 with q0 | ⟨n', l, m, tabs, rfl, wf, bad⟩
      · exact ⟨_, rfl, v, d, n, rfl, hd, hg, hn, .inr (.inl ⟨q0, q⟩)⟩
      · refine ⟨_, rfl, v, _, n, rfl, hd, hg, hn, .inr (.inr ⟨n', l, m, tabs, rfl, wf, fun p t H1 s1 t1 t2 => ?_⟩)⟩
        have hl8 := wf.l2
        have hm40 := wf.m2
        refine ⟨p, _, rfl, t1, rfl, _, _, rfl, _, _, rfl, _, _, rfl, _, _, rfl, rfl, ?_⟩
        refine ⟨_, rfl, _, rfl, _, _, rfl, rfl, ⟨by omega, by omega, by decide⟩, kv, Y, 1, _, rfl, dp_same s1 _ hY, _, rfl, ?_⟩
        rw [shl_one]
        cases c : whole Y 1 ((2 ^ l : Nat) : Int) with
        | false => exact q H1 s1
        | true =>
          obtain ⟨k, rfl, k1, k2⟩ := whole_int c
          cases hY
          have hp := two_pow_le (b := 8) hl8
          have hk : k ≤ 256 := by
            generalize 2 ^ l = N at *
            omega
          refine ⟨_, rfl, _, rfl, _, _, rfl, rfl, .inl ⟨by omega, by omega⟩, _, _, rfl, rfl, _, rfl, ?_⟩
          rcases bad with bad | ⟨k', e, bad⟩
          · rw [c] at bad
            cases bad
          · injection e with e
            subst e
            rw [decide_eq_true bad]
            exact q H1 s1
    · cases hY
      refine ⟨_, rfl, v, _, n, rfl, hd, hg, hn, .inr (.inr ⟨n', l, m, tabs, rfl, wf, fun p t H1 s1 t1 t2 => ?_⟩)⟩
      have hl8 := wf.l2
      have hm40 := wf.m2
      have hp := two_pow_le (b := 8) hl8
      refine ⟨p, _, rfl, t1, rfl, _, _, rfl, _, _, rfl, _, _, rfl, _, _, rfl, rfl, ?_⟩
      refine ⟨_, rfl, _, rfl, _, _, rfl, rfl, ⟨by omega, by omega, by decide⟩, .int (j : Int), .int (j : Int), 1, _, rfl, .int (j : Int), _, rfl, ?_⟩
      rw [shl_one]
      have ew : whole (.int (j : Int)) 1 ((2 ^ l : Nat) : Int) = true := by
        show (decide _ && decide _) = true
        rw [decide_eq_true (show (1 : Int) ≤ (j : Int) by omega), decide_eq_true (show (j : Int) ≤ ((2 ^ l : Nat) : Int) by generalize 2 ^ l = N at *; omega)]
        rfl
      rw [ew]
      have hj : j ≤ 256 := by
        generalize 2 ^ l = N at *
        omega
      have ejm : (j : Int) * (m : Int) = ((j * m : Nat) : Int) := (Int.natCast_mul j m).symm
      refine ⟨_, rfl, _, rfl, _, _, rfl, rfl, .inl ⟨by omega, by omega⟩, _, _, rfl, rfl, _, rfl, ?_⟩
      rw [decide_eq_false (show ¬ (40 : Int) < (j : Int) * (m : Int) by rw [ejm]; omega)]
      obtain ⟨us, hU, hul, hat⟩ := tabs_at t2
      have hlen := wf.len
      have hn8 := two_pow_le (b := 8) wf.n2
      refine ⟨_, rfl, _, rfl, _, rfl, _, _, rfl, rfl, .inl ⟨by omega, by omega⟩, _, rfl, t, rfl, ⟨_, hU⟩, fun Dl hD => ?_⟩
      refine lc_tup (xs := us) (fun i H' => Same H1 H' ∧ H' Dl = some (.lst (rowV (cntR j (tabs.take i))))) ?_ ?_ ?_ ?_
      · exact ⟨same_new hD, upd_same⟩
      · rintro i H' _ ⟨s3, _⟩
        exact same_sqt s3 hU
      · rintro i x H' hx ⟨s3, e3⟩
        have hi : i < tabs.length := by
          have := (List.getElem?_eq_some_iff.mp hx).1
          omega
        obtain ⟨r, hr', hR⟩ := hat i hi
        have ex : x = .ref r := Option.some.inj (hx.symm.trans hr')
        subst ex
        have hrow := wf.row _ (List.getElem_mem hi)
        refine ⟨rfl, ?_⟩
        refine ⟨⟨_, rfl⟩, _, rfl, _, rfl, _, rfl, sl_any (same_sqt s3 hR) fun p2 H2 s4 t4 => ?_⟩
        rw [cut_rows] at t4
        refine ⟨"", p2, _, rfl, rfl, .inr t4, ?_, _, s4 _ _ e3, ?_, fun b o e => ?_, ?_⟩
        · rw [sum_rows (m := m) fun r hr => hrow.2 r (List.mem_of_mem_take hr), List.length_take]
          have a1 : min j (tabs[i]).length * m ≤ 256 * 40 := Nat.mul_le_mul (by omega) hm40
          show _ + _ * 0 ≤ _
          omega
        · rw [rowV_len]
          unfold cntR
          rw [List.length_map, List.length_take]
          exact Nat.lt_of_lt_of_le (show min i tabs.length < 10000 by omega) (by decide)
        · rw [upd_ne (ne_of_none e hD)]
          exact s4 _ _ (s3 b o e)
        · rw [upd_same, join_sbs, List.take_add_one, List.getElem?_eq_getElem hi]
          unfold cntR rowV
          rw [List.map_append, List.map_append]
          rfl
      · rintro H' ⟨s3, e3⟩
        rw [hul, List.take_length] at e3
        refine ⟨Dl, _, rfl, .inl ⟨.inl (.inl e3), fun u nu => ⟨(by show 4 ≤ sizeLine; decide), fun g ng => ?_⟩⟩⟩
        have s4 := (s1.trans s3).trans ((same_new nu).trans (same_new (o := .tup [.str "generator", .int (n' : Int), .int ((j : Int) * (m : Int)), .ref u]) ng))
        refine q _ _ s4 (tab_dp (n := n') (m := j * m) (r := u) (.inl (.inl (by rw [upd_same]; show some (HO.tup [.str "generator", .int (n' : Int), .int ((j : Int) * (m : Int)), .ref u]) = _; rw [ejm]))) (.inl (.inl ?_)))
        rw [upd_ne (ne_of_none upd_same ng), upd_same]
        rfl

end
/-! ### blocks, layers, schemes -/
inductive Blk where
  | gen (n m : Nat) (rows : List (List Bool))
  | fn (n l m : Nat) (tabs : List (List (List Bool)))
def Blk.D : Blk → PyData
  | .gen n m rows => tabD n m rows
  | .fn n l m tabs => funD n l m tabs
def Blk.Ok : Blk → Prop
  | .gen n m rows => Wf n m rows
  | .fn n l m tabs => Wff n l m tabs
def numD : PyData → Nat
  | .int i => i.toNat
  | _ => 0
def layLong (Y : PyData) : Blk → Option Blk
  | .gen n m rows => if m = n + 1 ∧ whole Y 1 20 = true then some (.gen n (n + numD Y) (longR n rows (numD Y))) else none
  | .fn .. => none
def layTree (Y : PyData) : Blk → Option Blk
  | .gen n m rows => if m = 2 * n ∧ n ≤ 8 ∧ whole Y 1 8 = true ∧ n + numD Y ≤ 12 then some (.fn n (numD Y) n (treeT n (numD Y) rows)) else none
  | .fn .. => none
def layCnt (Y : PyData) : Blk → Option Blk
  | .fn n l m tabs => if whole Y 1 ((2 ^ l : Nat) : Int) = true ∧ numD Y * m ≤ 40 then some (.gen n (numD Y * m) (cntR (numD Y) tabs)) else none
  | .gen .. => none
def layCut (Y : PyData) : Blk → Option Blk
  | .gen n m rows => if whole Y 1 (m : Int) = true then some (.gen n (numD Y) (rows.map fun r => r.take (numD Y))) else none
  | .fn .. => none
def lay1 (p : PyData × PyData) (b : Blk) : Option Blk :=
  if named "longer" p.1 = true then layLong p.2 b else if named "tree" p.1 = true then layTree p.2 b else if named "counter" p.1 = true then layCnt p.2 b else if named "cut" p.1 = true then layCut p.2 b else none
theorem whole_nat {Y : PyData} {hi : Int} (h : whole Y 1 hi = true) : ∃ k : Nat, Y = .int (k : Int) ∧ numD Y = k ∧ 1 ≤ k ∧ (k : Int) ≤ hi := by
  obtain ⟨i, rfl, h1, h2⟩ := whole_int h
  refine ⟨i.toNat, ?_, rfl, by omega, by omega⟩
  rw [show ((i.toNat : Nat) : Int) = i by omega]
theorem long_cases (Y : PyData) (b : Blk) (h : b.Ok) : (layLong Y b = none ∧ LongNo b.D Y) ∨ ∃ (n j : Nat) (rows : List (List Bool)), b = .gen n (n + 1) rows ∧ Y = .int (j : Int) ∧ Wf n (n + 1) rows ∧ 1 ≤ j ∧ j ≤ 20 ∧ layLong Y b = some (.gen n (n + j) (longR n rows j)) := by
  cases b with
  | fn n l m tabs => exact .inl ⟨rfl, .inl (Wff.ok h)⟩
  | gen n m rows =>
    by_cases c : m = n + 1 ∧ whole Y 1 20 = true
    · obtain ⟨rfl, hw⟩ := c
      obtain ⟨k, rfl, e, k1, k2⟩ := whole_nat hw
      refine .inr ⟨n, k, rows, rfl, rfl, h, k1, by omega, ?_⟩
      show (if _ then _ else _) = _
      rw [if_pos ⟨rfl, hw⟩, e]
    · refine .inl ⟨if_neg c, .inr ⟨n, m, rows, rfl, h, ?_⟩⟩
      by_cases c1 : m = n + 1
      · exact .inr (Bool.eq_false_iff.mpr fun z => c ⟨c1, z⟩)
      · exact .inl c1
theorem tree_cases (Y : PyData) (b : Blk) (h : b.Ok) : (layTree Y b = none ∧ TreeNo b.D Y) ∨ ∃ (n j : Nat) (rows : List (List Bool)), b = .gen n (2 * n) rows ∧ Y = .int (j : Int) ∧ Wf n (2 * n) rows ∧ n ≤ 8 ∧ 1 ≤ j ∧ j ≤ 8 ∧ n + j ≤ 12 ∧ layTree Y b = some (.fn n j n (treeT n j rows)) := by
  cases b with
  | fn n l m tabs => exact .inl ⟨rfl, .inl (Wff.ok h)⟩
  | gen n m rows =>
    by_cases c : m = 2 * n ∧ n ≤ 8 ∧ whole Y 1 8 = true ∧ n + numD Y ≤ 12
    · obtain ⟨rfl, n8, hw, hn⟩ := c
      obtain ⟨k, rfl, e, k1, k2⟩ := whole_nat hw
      refine .inr ⟨n, k, rows, rfl, rfl, h, n8, k1, by omega, by rw [← e]; exact hn, ?_⟩
      show (if _ then _ else _) = _
      rw [if_pos ⟨rfl, n8, hw, hn⟩, e]
    · refine .inl ⟨if_neg c, .inr ⟨n, m, rows, rfl, h, ?_⟩⟩
      by_cases c1 : m = 2 * n
      · by_cases c2 : 8 < n
        · exact .inr (.inl c2)
        · cases c3 : whole Y 1 8 with
          | false => exact .inr (.inr (.inl rfl))
          | true =>
            obtain ⟨k, rfl, e, k1, k2⟩ := whole_nat c3
            refine .inr (.inr (.inr ⟨_, rfl, ?_⟩))
            by_cases c4 : n + numD (.int (k : Int)) ≤ 12
            · exact absurd ⟨c1, by omega, c3, c4⟩ c
            · omega
      · exact .inl c1
theorem cnt_cases (Y : PyData) (b : Blk) (h : b.Ok) : (layCnt Y b = none ∧ CntNo b.D Y) ∨ ∃ (n l m j : Nat) (tabs : List (List (List Bool))), b = .fn n l m tabs ∧ Y = .int (j : Int) ∧ Wff n l m tabs ∧ 1 ≤ j ∧ j ≤ 2 ^ l ∧ j * m ≤ 40 ∧ layCnt Y b = some (.gen n (j * m) (cntR j tabs)) := by
  cases b with
  | gen n m rows => exact .inl ⟨rfl, .inl (wf_gen h)⟩
  | fn n l m tabs =>
    by_cases c : whole Y 1 ((2 ^ l : Nat) : Int) = true ∧ numD Y * m ≤ 40
    · obtain ⟨hw, hn⟩ := c
      obtain ⟨k, rfl, e, k1, k2⟩ := whole_nat hw
      refine .inr ⟨n, l, m, k, tabs, rfl, rfl, h, k1, Int.ofNat_le.mp k2, by rw [← e]; exact hn, ?_⟩
      show (if _ then _ else _) = _
      rw [if_pos ⟨hw, hn⟩, e]
    · refine .inl ⟨if_neg c, .inr ⟨n, l, m, tabs, rfl, h, ?_⟩⟩
      cases c3 : whole Y 1 ((2 ^ l : Nat) : Int) with
      | false => exact .inl rfl
      | true =>
        obtain ⟨k, rfl, e, k1, k2⟩ := whole_nat c3
        refine .inr ⟨_, rfl, ?_⟩
        by_cases c4 : numD (.int (k : Int)) * m ≤ 40
        · exact absurd ⟨c3, c4⟩ c
        · rw [e] at c4
          rw [← Int.natCast_mul]
          omega
theorem cut_cases (Y : PyData) (b : Blk) (h : b.Ok) : (layCut Y b = none ∧ CutNo b.D Y) ∨ ∃ (n m j : Nat) (rows : List (List Bool)), b = .gen n m rows ∧ Y = .int (j : Int) ∧ Wf n m rows ∧ 1 ≤ j ∧ j ≤ m ∧ layCut Y b = some (.gen n j (rows.map fun r => r.take j)) := by
  cases b with
  | fn n l m tabs => exact .inl ⟨rfl, .inl (Wff.ok h)⟩
  | gen n m rows =>
    by_cases c : whole Y 1 (m : Int) = true
    · obtain ⟨k, rfl, e, k1, k2⟩ := whole_nat c
      refine .inr ⟨n, m, k, rows, rfl, rfl, h, k1, by omega, ?_⟩
      show (if _ then _ else _) = _
      rw [if_pos c, e]
    · exact .inl ⟨if_neg c, .inr ⟨n, m, rows, rfl, h, Bool.eq_false_iff.mpr c⟩⟩
theorem Wf.counted {n l m j : Nat} {tabs : List (List (List Bool))} (h : Wff n l m tabs) (h1 : 1 ≤ j) (h2 : j ≤ 2 ^ l) (h3 : j * m ≤ 40) : Wf n (j * m) (cntR j tabs) where
  n1 := h.n1
  n2 := Nat.le_trans h.n2 (by decide)
  m1 := Nat.mul_pos h1 h.m1
  m2 := h3
  len := by
    unfold cntR
    rw [List.length_map]
    exact h.len
  row := fun r hr => by
    unfold cntR at hr
    obtain ⟨vals, hv, rfl⟩ := List.mem_map.mp hr
    obtain ⟨g1, g2⟩ := h.row vals hv
    have : ∀ l : List (List Bool), (∀ r ∈ l, r.length = m) → l.flatten.length = l.length * m := by
      intro l
      induction l with
      | nil => exact fun _ => (Nat.zero_mul m).symm
      | cons x l ih =>
        intro h
        rw [List.flatten_cons, List.length_append, h x List.mem_cons_self, ih fun y hy => h y (List.mem_cons_of_mem _ hy), List.length_cons, Nat.succ_mul, Nat.add_comm]
    rw [this _ fun r hr => g2 r (List.mem_of_mem_take hr), List.length_take, g1, Nat.min_eq_left h2]
theorem down_len {n : Nat} {rows : List (List Bool)} (h : Wf n (2 * n) rows) : ∀ (bs lab : List Bool), lab.length = n → (goDown rows n lab bs).length = n
  | [], lab, hl => hl
  | b :: bs, lab, hl => by
    obtain ⟨_, hr⟩ := h.at hl
    refine down_len h bs _ ?_
    cases b
    · show ((rows.getD (val lab) []).take n).length = n
      rw [List.length_take, hr]
      omega
    · show ((rows.getD (val lab) []).drop n).length = n
      rw [List.length_drop, hr]
      omega
theorem Wff.treed {n j : Nat} {rows : List (List Bool)} (h : Wf n (2 * n) rows) (n8 : n ≤ 8) (h1 : 1 ≤ j) (h2 : j ≤ 8) (h3 : n + j ≤ 12) : Wff n j n (treeT n j rows) where
  n1 := h.n1
  n2 := n8
  l1 := h1
  l2 := h2
  nl := h3
  m1 := h.n1
  m2 := by omega
  len := by
    unfold treeT
    rw [List.length_map, List.length_range]
  row := fun t ht => by
    unfold treeT at ht
    obtain ⟨i, _, rfl⟩ := List.mem_map.mp ht
    refine ⟨by rw [List.length_map, List.length_range], fun r hr => ?_⟩
    obtain ⟨k, _, rfl⟩ := List.mem_map.mp hr
    exact down_len h _ _ (toB_len _ _)
theorem lay_ok {p : PyData × PyData} {b b' : Blk} (h : b.Ok) (e : lay1 p b = some b') : b'.Ok := by
  unfold lay1 at e
  by_cases c1 : named "longer" p.1 = true
  · rw [if_pos c1] at e
    rcases long_cases p.2 b h with ⟨e2, _⟩ | ⟨n, j, rows, rfl, _, wf, j1, j2, e2⟩
    · rw [e2] at e
      cases e
    · rw [e2] at e
      cases e
      exact wf.long (by have := wf.n2; omega)
  rw [if_neg c1] at e
  by_cases c2 : named "tree" p.1 = true
  · rw [if_pos c2] at e
    rcases tree_cases p.2 b h with ⟨e2, _⟩ | ⟨n, j, rows, rfl, _, wf, n8, j1, j2, nj, e2⟩
    · rw [e2] at e
      cases e
    · rw [e2] at e
      cases e
      exact Wff.treed wf n8 j1 j2 nj
  rw [if_neg c2] at e
  by_cases c3 : named "counter" p.1 = true
  · rw [if_pos c3] at e
    rcases cnt_cases p.2 b h with ⟨e2, _⟩ | ⟨n, l, m, j, tabs, rfl, _, wf, j1, j2, jm, e2⟩
    · rw [e2] at e
      cases e
    · rw [e2] at e
      cases e
      exact Wf.counted wf j1 j2 jm
  rw [if_neg c3] at e
  by_cases c4 : named "cut" p.1 = true
  · rw [if_pos c4] at e
    rcases cut_cases p.2 b h with ⟨e2, _⟩ | ⟨n, m, j, rows, rfl, _, wf, j1, j2, e2⟩
    · rw [e2] at e
      cases e
    · rw [e2] at e
      cases e
      exact wf.cut j1 j2
  rw [if_neg c4] at e
  cases e
theorem pl_up1 : ∀ {n : Nat} {d : PyData}, Pl n d → Pl (n + 1) d
  | 0, .int _, h => h
  | 0, .str _, h => h
  | n + 1, .int _, h => h
  | n + 1, .str _, h => h
  | n + 1, .tuple xs, h => ⟨h.1, fun x hx => pl_up1 (h.2 x hx)⟩
theorem blk_pl {b : Blk} (h : b.Ok) : Pl 3 b.D := by
  cases b with
  | gen n m rows => exact pl_up1 (Wf.pl h)
  | fn n l m tabs => exact Wff.pl h
theorem blk_gd {b : Blk} (h : b.Ok) : Gd 3 b.D := pl_gd (blk_pl h)
theorem blk_ok {b : Blk} (h : b.Ok) : blockOk b.D = true := by
  cases b with
  | gen n m rows => exact wf_block h
  | fn n l m tabs =>
    show (genOk (funD n l m tabs) || funOk (funD n l m tabs)) = true
    rw [Wff.ok h, Bool.or_true]
def spWith (K : PySem.W.Frag) (CS : Addr) : Sp := fun vs H Q E => ∃ (xv kv v : V) (p : PyData × PyData) (b : Blk) (n : Nat), vs = [xv, kv, v] ∧ Dp K H xv p.1 ∧ Gd n p.1 ∧ Dp K H kv p.2 ∧ Dp K H v b.D ∧ b.Ok ∧
  (∀ b' v' H', lay1 p b = some b' → Same H H' → Dp K H' v' b'.D → Q v' H') ∧ (∀ H', lay1 p b = none → Same H H' → E (.ref CS) none H')
def blkS : PyData := .tuple [.str "block"]
def laysD : Nat → PyData → Option (List (PyData × PyData))
  | 0, D => if PyData.eqv D blkS = true then some [] else none
  | f + 1, D => if PyData.eqv D blkS = true then some [] else match D with
    | .tuple [x, y, z] => (laysD f z).map fun ls => ls ++ [(x, y)]
    | _ => none
def layP (p : PyData × PyData) : PyData := .tuple [p.1, p.2]
def LsOn (K : PySem.W.Frag) (H : Hp) (p : Addr) (ls : List (PyData × PyData)) : Prop := ∃ us, H p = some (.lst us) ∧ DpAll K H us (ls.map layP)
def spLayers (K : PySem.W.Frag) (CS : Addr) : Sp := fun vs H Q E => ∃ (v : V) (D : PyData) (n : Nat), vs = [v] ∧ Dp K H v D ∧ Gd n D ∧
  (∀ ls p H', laysD 7 D = some ls → Same H H' → LsOn K H' p ls → Q (.ref p) H') ∧ (∀ H', laysD 7 D = none → Same H H' → E (.ref CS) none H')
theorem lays_end {f : Nat} {D : PyData} (h : PyData.eqv D blkS = true) : laysD f D = some [] := by
  cases f <;> exact if_pos h
theorem lays_zero {D : PyData} (h : PyData.eqv D blkS = false) : laysD 0 D = none := if_neg (by rw [h]; decide)
theorem lays_no {f : Nat} {D : PyData} (h : PyData.eqv D blkS = false) (n : ∀ x y z, D ≠ .tuple [x, y, z]) : laysD f D = none := by
  cases f with
  | zero => exact lays_zero h
  | succ f =>
    unfold laysD
    rw [if_neg (by rw [h]; decide)]
    split
    · exact absurd rfl (n _ _ _)
    · rfl
theorem lays_step {f : Nat} {x y z : PyData} (h : PyData.eqv (.tuple [x, y, z]) blkS = false) : laysD (f + 1) (.tuple [x, y, z]) = (laysD f z).map fun ls => ls ++ [(x, y)] := if_neg (by rw [h]; decide)
theorem dps_rev {K : PySem.W.Frag} {H : Hp} : ∀ {vs : List V} {ds : List PyData}, DpAll K H vs ds → DpAll K H vs.reverse ds.reverse
  | _, _, .nil => .nil
  | _, _, .cons h t => by
    rw [List.reverse_cons, List.reverse_cons]
    exact dps_app (dps_rev t) (.cons h .nil)
theorem three {K : PySem.W.Frag} {H : Hp} {ws : List V} {xs : List PyData} (h : DpAll K H ws xs) (c : ws.length = 3) : ∃ v0 v1 v2 d0 d1 d2, ws = [v0, v1, v2] ∧ xs = [d0, d1, d2] ∧ Dp K H v0 d0 ∧ Dp K H v1 d1 ∧ Dp K H v2 d2 := by
  match xs, ws, c, h with
  | _, [v0, v1, v2], _, .cons h0 (.cons h1 (.cons h2 .nil)) => exact ⟨_, _, _, _, _, _, rfl, rfl, h0, h1, h2⟩
theorem dp_offN {K : PySem.W.Frag} {H : Hp} {L : Addr} {v : V} {d : PyData} (hL : H L = none) (h : Dp K H v d) {o : HO} : Dp K (off L (upd H L o)) v d := by
  refine dp_same (fun b x e => ?_) d h
  have hb : b ≠ L := fun z => by
    rw [z, hL] at e
    cases e
  rw [off_ne hb, upd_ne hb]
  exact e
theorem same_offN {H H' : Hp} {L : Addr} (s : Same H H') (hL : H L = none) : Same H (off L H') := fun b o e => by
  have hb : b ≠ L := fun z => by
    rw [z, hL] at e
    cases e
  rw [off_ne hb]
  exact s b o e
theorem set_same {H H' : Hp} {p : Addr} {o : HO} (s : Same H H') (np : H p = none) : Same H (upd H' p o) := fun b x e => by
  rw [upd_ne (ne_of_none e np)]
  exact s b x e
theorem sqt_past {K : PySem.W.Frag} {L p : Addr} {H : Hp} {xs ys : List V} (e : H L = some (.lst ys)) (s : SqT K H p xs) : SqT K (off L H) p xs := by
  rcases s with (h | ⟨o, h⟩) | h
  · exact .inl (.inl (by rw [off_ne (fun z => by rw [z, e] at h; cases h)]; exact h))
  · exact .inl (.inr ⟨o, by rw [off_ne (fun z => by rw [z, e] at h; cases h)]; exact h⟩)
  · exact .inr h

section
variable {P : Program} {w : World} {K : PySem.W.Frag} {mg : Str → Option Value} {base : Heap} {cs : Cs}
theorem ok_with {f : Addr} {fd : FuncData} (D : Df K mg "with_layer" s_with_layer ["name", "number", "block"] f fd) (T : Txt K w mg cs) (c_longer : Cl P w K mg base (L2.CX P w) 5 "longer" (spLongA K cs.BadBlock cs.BadScheme)) (c_tree : Cl P w K mg base (L2.CX P w) 5 "tree" (spTreeA K cs.BadBlock cs.BadScheme))
    (c_counter : Cl P w K mg base (L2.CX P w) 5 "counter" (spCntA K cs.BadBlock cs.BadScheme)) (c_cut : Cl P w K mg base (L2.CX P w) 5 "cut" (spCutA K cs.BadBlock cs.BadScheme)) : FnOk P w K mg base (L2.CX P w) 6 f fd ["name", "number", "block"] (spWith K cs.BadScheme) := by
  refine D.fn.okX sc_with_layer (fun vs H Q E h => ?_) (fun cdv A outer s H vs Q E hr h => ?_)
  · obtain ⟨xv, kv, v, p, b, n, rfl, _⟩ := h
    rfl
  · obtain ⟨xv, kv, v, p, b, n, rfl, hx, hg, hk, hb, ok, q1, q0⟩ := h
    have tk := takes_of (X := cxOf (L2.CX P w) P w K mg base ["name", "number", "block"] "with_layer" (defScope s_with_layer) f cdv A outer s H E) (E := E) rfl rfl rfl rfl
    refine ⟨_, (pss_cons (ps_if (pt_cmpR (op_eqF K hr.units) (pv 0) pe_str (nomark _)) (pss_one (ps_ret (pe_clX c_longer hr (by first | decide | omega) (by rfl) tk (pa_cons (pv 2) (pa_cons (pv 1) pa_nil))))) pss_nil) (pss_cons (ps_if (pt_cmpR (op_eqF K hr.units) (pv 0) pe_str (nomark _)) (pss_one (ps_ret (pe_clX c_tree hr (by first | decide | omega) (by rfl) tk (pa_cons (pv 2) (pa_cons (pv 1) pa_nil))))) pss_nil) (pss_cons (ps_if (pt_cmpR (op_eqF K hr.units) (pv 0) pe_str (nomark _)) (pss_one (ps_ret (pe_clX c_counter hr (by first | decide | omega) (by rfl) tk (pa_cons (pv 2) (pa_cons (pv 1) pa_nil))))) pss_nil) (pss_cons (ps_if (pt_cmpR (op_eqF K hr.units) (pv 0) pe_str (nomark _)) (pss_one (ps_ret (pe_clX c_cut hr (by first | decide | omega) (by rfl) tk (pa_cons (pv 2) (pa_cons (pv 1) pa_nil))))) pss_nil) (pss_one (ps_raiseE T.x_BadScheme rfl tk (by rfl))))))), ?_⟩
    have gb := blk_gd ok
    have lx := gd_lay hg
    refine ⟨_, rfl, _, _, hx, .str _, lx, by decide +kernel, by decide +kernel, _, rfl, ?_⟩
    cases c1 : named "longer" p.1 with
    | true =>
      rw [show PyData.eqv p.1 (.str "longer") = true from c1]
      have el : lay1 p b = layLong p.2 b := by
        unfold lay1
        rw [if_pos c1]
      refine ⟨_, rfl, _, rfl, v, kv, b.D, p.2, 3, rfl, hb, gb, by decide, hk, ?_⟩
      rcases long_cases p.2 b ok with ⟨e, no⟩ | ⟨n, j, rows, rfl, eY, wf, j1, j2, e⟩
      · exact .inl ⟨no, fun H' s => q0 H' (el.trans e) s⟩
      · exact .inr ⟨n, j, rows, rfl, eY, wf, j1, j2, fun v' H' s d => q1 _ v' H' (el.trans e) s d⟩
    | false =>
    rw [show PyData.eqv p.1 (.str "longer") = false from c1]
    refine ⟨_, rfl, _, _, hx, .str _, lx, by decide +kernel, by decide +kernel, _, rfl, ?_⟩
    cases c2 : named "tree" p.1 with
    | true =>
      rw [show PyData.eqv p.1 (.str "tree") = true from c2]
      have el : lay1 p b = layTree p.2 b := by
        unfold lay1
        rw [if_neg (by rw [c1]; decide), if_pos c2]
      refine ⟨_, rfl, _, rfl, v, kv, b.D, p.2, 3, rfl, hb, gb, by decide, hk, ?_⟩
      rcases tree_cases p.2 b ok with ⟨e, no⟩ | ⟨n, j, rows, rfl, eY, wf, n8, j1, j2, nj, e⟩
      · exact .inl ⟨no, fun H' s => q0 H' (el.trans e) s⟩
      · exact .inr ⟨n, j, rows, rfl, eY, wf, n8, j1, j2, nj, fun v' H' s d => q1 _ v' H' (el.trans e) s d⟩
    | false =>
    rw [show PyData.eqv p.1 (.str "tree") = false from c2]
    refine ⟨_, rfl, _, _, hx, .str _, lx, by decide +kernel, by decide +kernel, _, rfl, ?_⟩
    cases c3 : named "counter" p.1 with
    | true =>
      rw [show PyData.eqv p.1 (.str "counter") = true from c3]
      have el : lay1 p b = layCnt p.2 b := by
        unfold lay1
        rw [if_neg (by rw [c1]; decide), if_neg (by rw [c2]; decide), if_pos c3]
      refine ⟨_, rfl, _, rfl, v, kv, b.D, p.2, 3, rfl, hb, gb, by decide, hk, ?_⟩
      rcases cnt_cases p.2 b ok with ⟨e, no⟩ | ⟨n, l, m, j, tabs, rfl, eY, wf, j1, j2, jm, e⟩
      · exact .inl ⟨no, fun H' s => q0 H' (el.trans e) s⟩
      · exact .inr ⟨n, l, m, j, tabs, rfl, eY, wf, j1, j2, jm, fun v' H' s d => q1 _ v' H' (el.trans e) s d⟩
    | false =>
    rw [show PyData.eqv p.1 (.str "counter") = false from c3]
    refine ⟨_, rfl, _, _, hx, .str _, lx, by decide +kernel, by decide +kernel, _, rfl, ?_⟩
    cases c4 : named "cut" p.1 with
    | true =>
      rw [show PyData.eqv p.1 (.str "cut") = true from c4]
      have el : lay1 p b = layCut p.2 b := by
        unfold lay1
        rw [if_neg (by rw [c1]; decide), if_neg (by rw [c2]; decide), if_neg (by rw [c3]; decide), if_pos c4]
      refine ⟨_, rfl, _, rfl, v, kv, b.D, p.2, 3, rfl, hb, gb, by decide, hk, ?_⟩
      rcases cut_cases p.2 b ok with ⟨e, no⟩ | ⟨n, m, j, rows, rfl, eY, wf, j1, j2, e⟩
      · exact .inl ⟨no, fun H' s => q0 H' (el.trans e) s⟩
      · exact .inr ⟨n, m, j, rows, rfl, eY, wf, j1, j2, fun v' H' s d => q1 _ v' H' (el.trans e) s d⟩
    | false =>
    rw [show PyData.eqv p.1 (.str "cut") = false from c4]
    refine q0 H ?_ (Same.refl H)
    unfold lay1
    rw [if_neg (by rw [c1]; decide), if_neg (by rw [c2]; decide), if_neg (by rw [c3]; decide), if_neg (by rw [c4]; decide)]

theorem ok_layers {f : Addr} {fd : FuncData} (D : Df K mg "layers_of" s_layers_of ["scheme"] f fd) (T : Txt K w mg cs) : FnOk P w K mg base (L2.CX P w) 1 f fd ["scheme"] (spLayers K cs.BadScheme) := by
  refine D.fn.okX sc_layers_of (fun vs H Q E h => ?_) (fun cdv A outer s H vs Q E hr h => ?_)
  · obtain ⟨v, D, n, rfl, _⟩ := h
    rfl
  · obtain ⟨v, D0, n, rfl, hd, hg, q1, q0⟩ := h
    have tk := takes_of (X := cxOf (L2.CX P w) P w K mg base ["scheme", "layers", "inner"] "layers_of" (defScope s_layers_of) f cdv A outer s H E) (E := E) rfl rfl rfl rfl
    refine ⟨_, (pss_cons (ps_set (i := 1) sc_layers_of.nd rfl (.inl rfl) (pe_lst pa_nil)) (pss_cons (ps_set (i := 2) sc_layers_of.nd rfl (.inl rfl) (pv 0)) (pss_cons (ps_while (passes_of rfl) (pt_cmpR (op_neF K hr.units) (pv 2) (pe_tup (pa_cons pe_str pa_nil)) (nomark _)) (pss_cons (ps_if (PW.pt (pw_or (pt_not (pt_val (pe_callB (isiK K) (by rfl) T.n_isinstance (by decide +kernel) (pa_cons (pv 2) (pa_cons (pe_ty "tuple" (by rfl) T.n_tuple (by decide +kernel)) pa_nil))))) (pw_or1 (pt_cmpR op_ne (pe_callB (lenS K) (by rfl) T.n_len (by decide +kernel) (pa_cons (pv 2) pa_nil)) pe_int (nomark _))))) (pss_one (ps_raiseE T.x_BadScheme rfl tk (by rfl))) pss_nil) (pss_cons (ps_if (pt_cmpR op_eq (pe_callB (lenS K) (by rfl) T.n_len (by decide +kernel) (pa_cons (pv 1) pa_nil)) (pe_op op_sub (C8.pe_gc (by rfl) T.g_DEEPEST) pe_int) (nomark _)) (pss_one (ps_raiseE T.x_BadScheme rfl tk (by rfl))) pss_nil) (pss_cons (ps_expr (pe_bm PySem.F.plainAttrs_list PySem.F.slot_list_append PySem.F.type_list_append mt_append (pv 1) (pa_cons (pe_slice (slTA K) (pv 2) po_none (po_some pe_int)) pa_nil))) (pss_one (ps_set (i := 2) sc_layers_of.nd rfl (.inl rfl) (pe_ix (ixT K) (pv 2) pe_int (fun _ _ => rfl)))))))) (pss_one (ps_ret (pe_revL (pv 1))))))), ?_⟩
    refine ⟨(by show 0 ≤ sizeLine; exact Nat.zero_le _), fun L nL => ?_⟩
    refine ⟨_, rfl, ?_⟩
    refine ⟨fun m σ H' => ∃ (vi : V) (Di : PyData) (us : List V) (acc : List (PyData × PyData)), σ = [some v, some (.ref L), some vi] ∧ m = 8 - acc.length ∧ acc.length ≤ 7 ∧ us.length = acc.length ∧ Same H H' ∧ Dp K H vi Di ∧ Gd n Di ∧ H' L = some (.lst us) ∧ DpAll K (off L H') us (acc.map layP) ∧
      laysD 7 D0 = (laysD (7 - acc.length) Di).map fun ls => ls ++ acc.reverse, ⟨_, v, D0, [], [], rfl, rfl, by decide, rfl, same_new nL, hd, hg, upd_same, .nil, ?_⟩, ?_⟩
    · show laysD 7 D0 = (laysD 7 D0).map _
      simp
    rintro m σ H' ⟨vi, Di, us, acc, rfl, hm, hacc, hul, s1, hdi, hgi, eL, hA, hb⟩
    refine ⟨_, rfl, (by show 1 ≤ sizeLine; decide), fun p1 np1 => ?_⟩
    have sN : Same H' (upd H' p1 (.tup [.str "block"])) := same_new np1
    have hB : Dp K (upd H' p1 (.tup [.str "block"])) (.ref p1) blkS := .tup (.inl (.inl upd_same)) (.cons (.str _) .nil)
    have eL1 := sN _ _ eL
    have hA1 := dps_same (off_mono sN) _ hA
    have s2 := s1.trans sN
    generalize upd H' p1 (.tup [.str "block"]) = H1 at *
    clear sN eL hA np1
    have hdi1 := dp_same s2 _ hdi
    have hL0 : L ≠ p1 ∨ True := .inr trivial
    refine ⟨_, _, hdi1, hB, gd_lay hgi, by decide +kernel, by decide +kernel, _, rfl, ?_⟩
    cases ce : PyData.eqv Di blkS with
    | true =>
      rw [lays_end ce] at hb
      refine ⟨_, rfl, L, us, rfl, .inl (.inl eL1), fun p np => q1 _ p _ hb (s2.trans (same_new np)) ⟨_, upd_same, ?_⟩⟩
      show DpAll K _ us.reverse (List.map layP acc.reverse)
      rw [List.map_reverse]
      exact dps_rev (dps_same ((off_same L H1).trans (same_new np)) _ hA1)
    | false =>
      refine ⟨fun σ H2 => ∃ (vi : V) (Di : PyData) (us' : List V) (acc' : List (PyData × PyData)), σ = [some v, some (.ref L), some vi] ∧ acc'.length = acc.length + 1 ∧ acc'.length ≤ 7 ∧ us'.length = acc'.length ∧ Same H H2 ∧ Dp K H vi Di ∧ Gd n Di ∧ H2 L = some (.lst us') ∧ DpAll K (off L H2) us' (acc'.map layP) ∧
        laysD 7 D0 = (laysD (7 - acc'.length) Di).map fun ls => ls ++ acc'.reverse, ?_, ?_⟩
      · rintro σ H2 ⟨vi, Di, us', acc', rfl, h1, h2, h3, h4, h5, h6, h7, h8, h9⟩
        exact ⟨8 - acc'.length, by omega, vi, Di, us', acc', rfl, rfl, h2, h3, h4, h5, h6, h7, h8, h9⟩
      · refine ⟨_, rfl, _, _, _, _, _, rfl, .ty "tuple", dp_ty hdi1, kit_tup Di, _, rfl, ?_⟩
        have no : (∀ x y z, Di ≠ .tuple [x, y, z]) → E (.ref cs.BadScheme) none H1 := fun nx => q0 H1 (by rw [hb, lays_no ce nx]; rfl) s2
        cases Di with
        | tuple xs =>
          obtain ⟨a, ws, rfl, hT, hX⟩ : ∃ a ws, vi = .ref a ∧ SqT K H a ws ∧ DpAll K H ws xs := by
            cases hdi with
            | tup hT hA => exact ⟨_, _, rfl, hT, hA⟩
          have hT1 := same_sqt s2 hT
          refine ⟨_, rfl, a, ws, rfl, .inr hT1, rfl, _, rfl, ?_⟩
          by_cases c3 : ws.length = 3
          · obtain ⟨v0, v1, v2, d0, d1, d2, rfl, rfl, h0, h1, h2⟩ := three hX c3
            rw [decide_eq_true (show V.int ((([v0, v1, v2] : List V).length : Nat) : Int) = V.int 3 from rfl)]
            refine ⟨_, rfl, L, us, rfl, .inl (.inl (.inl eL1)), _, _, rfl, rfl, rfl, _, rfl, ?_⟩
            by_cases c7 : acc.length = 7
            · rw [decide_eq_true (show V.int ((us.length : Nat) : Int) = V.int (8 - 1) by rw [hul, c7]; rfl)]
              refine q0 H1 ?_ s2
              rw [hb, c7, lays_zero ce]
              rfl
            · rw [decide_eq_false (show ¬ V.int ((us.length : Nat) : Int) = V.int (8 - 1) from fun z => c7 (by have := V.int.inj z; omega))]
              refine ⟨_, rfl, .inl ⟨rfl, _, .inl (.inl eL1)⟩, _, rfl, _, rfl, sl_any hT1 fun p2 H2 s3 t3 => ?_⟩
              have eL2 := s3 _ _ eL1
              have t3' : SqT K H2 p2 [v0, v1] := t3
              have gx := gd_tup hgi
              obtain ⟨_, n', rfl, hx⟩ := gx
              have s23 := s2.trans s3
              refine ⟨L, _, _, rfl, rfl, eL2, by rw [hul, sizeLine_eq]; omega, _, rfl, a, _, 2, _, rfl, rfl, same_sqt (set_same s23 nL) hT, rfl, ?_⟩
              refine ⟨v2, d2, us ++ [.ref p2], acc ++ [(d0, d1)], rfl, by rw [List.length_append]; rfl, by rw [List.length_append]; show acc.length + 1 ≤ 7; omega, by rw [List.length_append, List.length_append, hul]; rfl, set_same s23 nL, h2, gd_up (hx d2 (by simp)), upd_same, ?_, ?_⟩
              · rw [off_upd1, List.map_append]
                refine dpAll_snoc (dps_same (off_mono s3) _ hA1) (.tup (sqt_past eL2 t3') (.cons (dp_same (same_offN s23 nL) _ h0) (.cons (dp_same (same_offN s23 nL) _ h1) .nil)))
              · rw [hb, show 7 - acc.length = (7 - (acc ++ [(d0, d1)]).length) + 1 by rw [List.length_append]; show _ = 7 - (acc.length + 1) + 1; omega, lays_step ce, Option.map_map]
                refine congrArg (fun g => Option.map g _) (funext fun ls => ?_)
                show (ls ++ [(d0, d1)]) ++ acc.reverse = ls ++ (acc ++ [(d0, d1)]).reverse
                rw [List.reverse_append, List.append_assoc]
                rfl
          · rw [decide_eq_false (show ¬ V.int ((ws.length : Nat) : Int) = V.int 3 from fun z => c3 (by have := V.int.inj z; omega))]
            refine no fun x y z e => c3 ?_
            injection e with e
            rw [dp_all_len hX, e]
            rfl
        | _ => exact no fun _ _ _ e => by cases e

end
mutual
theorem dp_offL {K : PySem.W.Frag} {L : Addr} {H : Hp} {ys : List V} (e : H L = some (.lst ys)) : ∀ (D : PyData) {n : Nat} {v : V}, Pl n D → Dp K H v D → Dp K (off L H) v D
  | .int _, _, _, _, .int i => .int i
  | .str _, _, _, _, .str x => .str x
  | .tuple xs, _, _, h, .tup hs ha => .tup (sqt_past e hs) (dps_offL e xs (by
      obtain ⟨_, m, _, hx⟩ := pl_tup h
      exact fun x hx' => ⟨m, hx x hx'⟩) ha)
  | .none, n, _, h, _ => by cases n <;> exact h.elim
  | .bool _, n, _, h, _ => by cases n <;> exact h.elim
  | .list _, n, _, h, _ => by cases n <;> exact h.elim
  | .dict _, n, _, h, _ => by cases n <;> exact h.elim
theorem dps_offL {K : PySem.W.Frag} {L : Addr} {H : Hp} {ys : List V} (e : H L = some (.lst ys)) : ∀ (ds : List PyData) {vs : List V}, (∀ x ∈ ds, ∃ n, Pl n x) → DpAll K H vs ds → DpAll K (off L H) vs ds
  | [], _, _, .nil => .nil
  | d :: ds, _, h, .cons h1 t => by
    obtain ⟨n, hn⟩ := h d List.mem_cons_self
    exact .cons (dp_offL e d hn h1) (dps_offL e ds (fun x hx => h x (List.mem_cons_of_mem _ hx)) t)
end

def builtL : List (PyData × PyData) → Blk → Option Blk
  | [], b => some b
  | q :: ls, b => (lay1 q b).bind (builtL ls)
def builtD (D : PyData) (b : Blk) : Option Blk := (laysD 7 D).bind fun ls => builtL ls b
theorem dp_set {K : PySem.W.Frag} {L : Addr} {H : Hp} {ys : List V} {o : HO} {n : Nat} {v : V} {D : PyData} (e : H L = some (.lst ys)) (hp : Pl n D) (h : Dp K H v D) : Dp K (upd H L o) v D := by
  have h1 := dp_offL e D hp h
  rw [← off_upd1 (o := o)] at h1
  exact dp_same (off_same L _) _ h1
theorem lays_gd {n : Nat} : ∀ {f : Nat} {D : PyData} {ls : List (PyData × PyData)}, Gd n D → laysD f D = some ls → ls.length ≤ f ∧ ∀ q ∈ ls, Gd n q.1
  | 0, D, ls, g, e => by
    unfold laysD at e
    split at e
    · cases e
      exact ⟨Nat.le_refl 0, fun _ h => nomatch h⟩
    · cases e
  | f + 1, D, ls, g, e => by
    unfold laysD at e
    split at e
    · cases e
      exact ⟨Nat.zero_le _, fun _ h => nomatch h⟩
    · split at e
      · rename_i _ _ x y z
        obtain ⟨_, m, rfl, hx⟩ := gd_tup g
        obtain ⟨l1, e1, rfl⟩ := Option.map_eq_some_iff.mp e
        obtain ⟨h1, h2⟩ := lays_gd (n := m + 1) (gd_up (hx _ (by simp))) e1
        refine ⟨by rw [List.length_append]; show l1.length + 1 ≤ f + 1; omega, fun q hq => ?_⟩
        rcases List.mem_append.mp hq with h | h
        · exact h2 q h
        · rw [List.mem_singleton.mp h]
          exact gd_up (hx _ (by simp))
      · cases e
theorem built_ok : ∀ {ls : List (PyData × PyData)} {b b' : Blk}, b.Ok → builtL ls b = some b' → b'.Ok
  | [], b, b', h, e => by
    cases e
    exact h
  | q :: ls, b, b', h, e => by
    obtain ⟨c, e1, e2⟩ := Option.bind_eq_some_iff.mp (show (lay1 q b).bind (builtL ls) = some b' from e)
    exact built_ok (lay_ok h e1) e2
def spTables (K : PySem.W.Frag) (CS : Addr) : Sp := fun vs H Q E => ∃ (p : Addr) (us : List V) (v : V) (ls : List (PyData × PyData)) (b : Blk) (n : Nat), vs = [.ref p, v] ∧ H p = some (.lst us) ∧ DpAll K H us (ls.map layP) ∧ (∀ q ∈ ls, Gd n q.1) ∧ ls.length ≤ 7 ∧ Dp K H v b.D ∧ b.Ok ∧
  (∀ b' L ws v' H', builtL ls b = some b' → Same H H' → H' L = some (.lst (ws ++ [v'])) → Dp K H' v' b'.D → Q (.ref L) H') ∧ (∀ H', builtL ls b = none → Same H H' → E (.ref CS) none H')
def spBuilt (K : PySem.W.Frag) (CB CS : Addr) : Sp := fun vs H Q E => ∃ (v u : V) (D B : PyData) (n m : Nat), vs = [v, u] ∧ Dp K H v D ∧ Gd n D ∧ Dp K H u B ∧ Gd m B ∧ m ≤ 64 ∧
  ((blockOk B = false ∧ ∀ H', Same H H' → E (.ref CB) none H') ∨
    ∃ b : Blk, B = b.D ∧ b.Ok ∧ (∀ b' v' H', builtD D b = some b' → Same H H' → Dp K H' v' b'.D → Q v' H') ∧ (∀ H', builtD D b = none → Same H H' → E (.ref CS) none H'))

section
variable {P : Program} {w : World} {K : PySem.W.Frag} {mg : Str → Option Value} {base : Heap} {cs : Cs}
theorem ok_tables {f : Addr} {fd : FuncData} (D : Df K mg "tables_of" s_tables_of ["layers", "block"] f fd) (T : Txt K w mg cs) (c_with_layer : Cl P w K mg base (L2.CX P w) 6 "with_layer" (spWith K cs.BadScheme)) : FnOk P w K mg base (L2.CX P w) 7 f fd ["layers", "block"] (spTables K cs.BadScheme) := by
  refine D.fn.okX sc_tables_of (fun vs H Q E h => ?_) (fun cdv A outer s H vs Q E hr h => ?_)
  · obtain ⟨p, us, v, ls, b, n, rfl, _⟩ := h
    rfl
  · obtain ⟨p, us, v, ls, b, n, rfl, hp, hA, hg, hl, hd, ok, q1, q0⟩ := h
    have tk := takes_of (X := cxOf (L2.CX P w) P w K mg base ["layers", "block", "tables", "name", "number"] "tables_of" (defScope s_tables_of) f cdv A outer s H E) (E := E) rfl rfl rfl rfl
    refine ⟨_, (pss_cons (ps_set (i := 2) sc_tables_of.nd rfl (.inl rfl) (pe_lst (pa_cons (pv 1) pa_nil))) (pss_cons (ps_for (passes_of rfl) rfl (pi_list (pv 0)) (pg_tup (by rfl) (pgs_cons (pg_name (i := 3) sc_tables_of.nd rfl (.inl rfl)) (pgs_cons (pg_name (i := 4) sc_tables_of.nd rfl (.inl rfl)) pgs_nil))) (pss_one (ps_expr (pe_bm PySem.F.plainAttrs_list PySem.F.slot_list_append PySem.F.type_list_append mt_append (pv 2) (pa_cons (pe_clX c_with_layer hr (by first | decide | omega) (by rfl) tk (pa_cons (pv 3) (pa_cons (pv 4) (pa_cons (pe_ix (ixL K) (pv 2) (pe_un un_neg pe_int) (fun _ _ => rfl)) pa_nil)))) pa_nil))))) (pss_one (ps_ret (pv 2))))), ?_⟩
    refine ⟨_, rfl, (by show 1 ≤ sizeLine; decide), fun L nL => ?_⟩
    have Lp : p ≠ L := fun z => by
      rw [z, nL] at hp
      cases hp
    have hul := dp_all_len hA
    rw [List.length_map] at hul
    refine ⟨_, rfl, p, rfl, ⟨us, .inl (.inl (by rw [upd_ne Lp]; exact hp))⟩, for_list (xs := us) (fun i σ H' => ∃ (c : Blk) (ws : List V) (vc : V) (y3 y4 : Option V), σ = [some (.ref p), some v, some (.ref L), y3, y4] ∧ ws.length = i ∧ builtL ls b = builtL (ls.drop i) c ∧ c.Ok ∧ Same H H' ∧ H' L = some (.lst (ws ++ [vc])) ∧ Dp K H' vc c.D) ?_ ?_ ?_ ?_⟩
    · exact ⟨b, [], v, none, none, rfl, rfl, rfl, ok, same_new nL, upd_same, dp_same (same_new nL) _ hd⟩
    · rintro i σ H' _ ⟨c, ws, vc, y3, y4, rfl, hw, hb, hc, s1, eL, hv⟩
      exact .inl (.inl (s1 _ _ hp))
    · rintro i x σ H' hx ⟨c, ws, vc, y3, y4, rfl, hw, hb, hc, s1, eL, hv⟩
      obtain ⟨d, hd1, hd2⟩ := dp_all_get hA hx
      rw [List.getElem?_map] at hd1
      obtain ⟨q, hq, rfl⟩ := Option.map_eq_some_iff.mp hd1
      obtain ⟨a2, us2, rfl, hT, hQ⟩ : ∃ a us, x = .ref a ∧ SqT K H a us ∧ DpAll K H us [q.1, q.2] := by
        cases hd2 with
        | tup hT hA => exact ⟨_, _, rfl, hT, hA⟩
      obtain ⟨x0, k0, rfl, hx0, hk0⟩ : ∃ x0 k0, us2 = [x0, k0] ∧ Dp K H x0 q.1 ∧ Dp K H k0 q.2 := by
        cases hQ with
        | cons h0 h =>
          cases h with
          | cons h1 h =>
            cases h
            exact ⟨_, _, rfl, h0, h1⟩
      have hi := (List.getElem?_eq_some_iff.mp hx).1
      have edr : ls.drop i = q :: ls.drop (i + 1) := by
        obtain ⟨hi2, e2⟩ := List.getElem?_eq_some_iff.mp hq
        rw [List.drop_eq_getElem_cons hi2, e2]
      rw [edr] at hb
      refine ⟨a2, _, rfl, same_sqt s1 hT, rfl, _, _, rfl, _, _, rfl, rfl, ?_⟩
      refine ⟨_, rfl, .inl ⟨rfl, _, .inl (.inl eL)⟩, _, rfl, _, rfl, _, rfl, 1, rfl, L, _, -1, vc, rfl, rfl, .inl (.inl eL), atI_last _ _, ?_⟩
      refine ⟨x0, k0, vc, q, c, n, rfl, dp_same s1 _ hx0, hg q (List.mem_of_getElem? hq), dp_same s1 _ hk0, hv, hc, fun c' v' H2 e s2 d2 => ?_, fun H2 e s2 => q0 H2 (hb.trans (by show (lay1 q c).bind _ = none; rw [e]; rfl)) (s1.trans s2)⟩
      have hc' := lay_ok hc e
      have eL2 := s2 _ _ eL
      refine ⟨L, _, _, rfl, rfl, eL2, by rw [List.length_append, hw, sizeLine_eq]; show i + 1 < _; omega, ?_⟩
      refine ⟨c', ws ++ [vc], v', _, _, rfl, by rw [List.length_append, hw]; rfl, hb.trans (by show (lay1 q c).bind _ = _; rw [e]; rfl), hc', set_same (s1.trans s2) nL, upd_same, dp_set eL2 (blk_pl hc') d2⟩
    · rintro σ H' ⟨c, ws, vc, y3, y4, rfl, hw, hb, hc, s1, eL, hv⟩
      rw [hul, List.drop_length] at hb
      exact ⟨_, rfl, q1 c L ws vc H' hb s1 eL hv⟩
theorem ok_built {f : Addr} {fd : FuncData} (D : Df K mg "built" s_built ["scheme", "block"] f fd) (T : Txt K w mg cs) (c_check_block : Cl P w K mg base (L2.CX P w) 3 "check_block" (spCheck K cs.BadBlock)) (c_layers_of : Cl P w K mg base (L2.CX P w) 1 "layers_of" (spLayers K cs.BadScheme)) (c_tables_of : Cl P w K mg base (L2.CX P w) 7 "tables_of" (spTables K cs.BadScheme)) : FnOk P w K mg base (L2.CX P w) 8 f fd ["scheme", "block"] (spBuilt K cs.BadBlock cs.BadScheme) := by
  refine D.fn.okX sc_built (fun vs H Q E h => ?_) (fun cdv A outer s H vs Q E hr h => ?_)
  · obtain ⟨v, u, D, B, n, m, rfl, _⟩ := h
    rfl
  · obtain ⟨v, u, D0, B, n, m, rfl, hd, hg, hu, hm, m64, q⟩ := h
    have tk := takes_of (X := cxOf (L2.CX P w) P w K mg base ["scheme", "block"] "built" (defScope s_built) f cdv A outer s H E) (E := E) rfl rfl rfl rfl
    refine ⟨_, (pss_cons (ps_expr (pe_clX c_check_block hr (by first | decide | omega) (by rfl) tk (pa_cons (pv 1) pa_nil))) (pss_one (ps_ret (pe_ix (ixL K) (pe_clX c_tables_of hr (by first | decide | omega) (by rfl) tk (pa_cons (pe_clX c_layers_of hr (by first | decide | omega) (by rfl) tk (pa_cons (pv 0) pa_nil)) (pa_cons (pv 1) pa_nil))) (pe_un un_neg pe_int) (fun _ _ => rfl))))), ?_⟩
    refine ⟨_, rfl, u, B, m, rfl, hu, hm, m64, fun H1 s1 => ⟨fun okB => ?_, fun no => ?_⟩⟩
    · rcases q with ⟨q0, _⟩ | ⟨b, rfl, ok, q1, q0⟩
      · rw [q0] at okB
        cases okB
      · refine ⟨_, rfl, v, D0, n, rfl, dp_same s1 _ hd, hg, fun ls p H2 e s2 ⟨us, eP, hA⟩ => ?_, fun H2 e s2 => q0 H2 (by unfold builtD; rw [e]; rfl) (s1.trans s2)⟩
        obtain ⟨l7, gls⟩ := lays_gd hg e
        have eb : builtD D0 b = builtL ls b := by
          unfold builtD
          rw [e]
          rfl
        have s12 := s1.trans s2
        refine ⟨_, rfl, p, us, u, ls, b, n, rfl, eP, hA, gls, l7, dp_same s12 _ hu, ok, fun b' L ws v' H3 e3 s3 eL d3 => ?_, fun H3 e3 s3 => q0 H3 (eb.trans e3) (s12.trans s3)⟩
        refine ⟨1, rfl, L, _, -1, v', rfl, rfl, .inl (.inl eL), atI_last _ _, ?_⟩
        exact q1 b' v' H3 (eb.trans e3) (s12.trans s3) d3
    · rcases q with ⟨_, q0⟩ | ⟨b, rfl, ok, _⟩
      · exact q0 H1 s1
      · rw [blk_ok ok] at no
        cases no

end
/-! ### goals -/
def aboK : List Str := ["tell", "marks", "secrets", "once", "opening", "next"]
def aboP : List (Str × Str) := [("tell", "any"), ("marks", "function"), ("secrets", "function"), ("once", "generator"), ("opening", "generator"), ("next", "generator")]
def aboF (z : Str) : Str := ((aboP.find? fun p => decide (p.1 = z)).map (·.2)).getD ""
theorem abo_of {z x : Str} (h : (z, x) ∈ aboP) : x = aboF z := by
  unfold aboP at h
  simp only [List.mem_cons, List.not_mem_nil, or_false, Prod.mk.injEq] at h
  rcases h with ⟨e, f⟩ | ⟨e, f⟩ | ⟨e, f⟩ | ⟨e, f⟩ | ⟨e, f⟩ | ⟨e, f⟩ <;> subst e <;> subst f <;> decide +kernel
def kindB : Blk → Str
  | .gen .. => "generator"
  | .fn .. => "function"
def wideB : Blk → Nat
  | .gen _ m _ => m
  | .fn _ l _ _ => l
def goalW (z : Str) (w : Blk) (y : PyData) : Bool := (decide (aboF z = "any") || decide (aboF z = kindB w)) && (!decide (z = "opening") || rowsOk (.tuple [y]) 1 (wideB w : Int))
def goalOk : PyData → Blk → Bool
  | .tuple (.str z :: r), b => decide (z ∈ aboK) && (decide (r.length + 1 = if z = "opening" then 3 else 2) && (match builtD (r.getLastD (.str z)) b with
    | some w => goalW z w (r.headD .none)
    | none => false))
  | _, _ => false
def spGoal (K : PySem.W.Frag) (CB CS : Addr) : Sp := fun vs H Q E => ∃ (v u : V) (g B : PyData) (n m : Nat), vs = [v, u] ∧ Dp K H v g ∧ Gd n g ∧ Dp K H u B ∧ Gd m B ∧ m ≤ 64 ∧
  ((blockOk B = false ∧ ∀ H', Same H H' → E (.ref CB) none H') ∨
    ∃ b : Blk, B = b.D ∧ b.Ok ∧ (∀ H', goalOk g b = true → Same H H' → Q .non H') ∧ (∀ H', goalOk g b = false → Same H H' → E (.ref CS) none H'))
theorem blk_parts {K : PySem.W.Frag} {H : Hp} {v : V} {b : Blk} (h : Dp K H v b.D) : ∃ a us, v = .ref a ∧ SqT K H a us ∧ us[0]? = some (.str (kindB b)) ∧ us[2]? = some (.int (wideB b : Int)) := by
  cases b with
  | gen n m rows =>
    obtain ⟨a, r, rfl, hT, _⟩ := dp_tab h
    exact ⟨a, _, rfl, hT, rfl, rfl⟩
  | fn n l m tabs =>
    obtain ⟨a, r, rfl, hT, _⟩ := dp_fun h
    exact ⟨a, _, rfl, hT, rfl, rfl⟩
theorem blk_wide {b : Blk} (h : b.Ok) : wideB b ≤ 40 := by
  cases b with
  | gen n m rows => exact Wf.m2 h
  | fn n l m tabs => exact Nat.le_trans (Wff.l2 h) (by decide)
theorem inV_two (x p q : Str) : inV (V.str x) [.str p, .str q] = (decide (x = p) || decide (x = q)) := by
  have e : ∀ y : Str, eqV (V.str y) (V.str x) = decide (x = y) := fun y => by
    show (y == x) = _
    by_cases h : x = y
    · rw [decide_eq_true h, h]
      exact beq_self_eq_true y
    · rw [decide_eq_false h]
      exact beq_eq_false_iff_ne.mpr fun z => h z.symm
  show ([V.str p, V.str q].any fun y => eqV y (.str x)) = _
  rw [List.any_cons, List.any_cons, List.any_nil, e, e, Bool.or_false]
theorem rel_txt {v : V} {x : Str} {t : Tok} (h : RelV v (.str x t)) : v = .str x := (Option.some.inj h.abs).symm
theorem builtD_ok {D : PyData} {b b' : Blk} (h : b.Ok) (e : builtD D b = some b') : b'.Ok := by
  obtain ⟨ls, _, e2⟩ := Option.bind_eq_some_iff.mp e
  exact built_ok h e2

section
variable {P : Program} {w : World} {K : PySem.W.Frag} {mg : Str → Option Value} {base : Heap} {cs : Cs}
theorem ok_goal {f : Addr} {fd : FuncData} (D : Df K mg "check_goal" s_check_goal ["goal", "block"] f fd) (T : Txt K w mg cs) (c_check_block : Cl P w K mg base (L2.CX P w) 3 "check_block" (spCheck K cs.BadBlock)) (c_built : Cl P w K mg base (L2.CX P w) 8 "built" (spBuilt K cs.BadBlock cs.BadScheme)) (c_are_rows : Cl P w K mg base CX0 1 "are_rows" (spRows K)) : FnOk P w K mg base (L2.CX P w) 9 f fd ["goal", "block"] (spGoal K cs.BadBlock cs.BadScheme) := by
  refine D.fn.okX sc_check_goal (fun vs H Q E h => ?_) (fun cdv A outer s H vs Q E hr h => ?_)
  · obtain ⟨v, u, g, B, n, m, rfl, _⟩ := h
    rfl
  · obtain ⟨v, u, g, B, n, m, rfl, hd, hg, hu, hm, m64, q⟩ := h
    have tk := takes_of (X := cxOf (L2.CX P w) P w K mg base ["goal", "block", "name", "whole"] "check_goal" (defScope s_check_goal) f cdv A outer s H E) (E := E) rfl rfl rfl rfl
    refine ⟨_, (pss_cons (ps_expr (pe_clX c_check_block hr (by first | decide | omega) (by rfl) tk (pa_cons (pv 1) pa_nil))) (pss_cons (ps_if (PW.pt (pw_or (pt_not (pt_val (pe_callB (isiK K) (by rfl) T.n_isinstance (by decide +kernel) (pa_cons (pv 0) (pa_cons (pe_ty "tuple" (by rfl) T.n_tuple (by decide +kernel)) pa_nil))))) (pw_or (pt_cmpR (op_eqF K hr.units) (pv 0) (pe_tup pa_nil) (nomark _)) (pw_or (pt_not (pt_val (pe_callB (isiK K) (by rfl) T.n_isinstance (by decide +kernel) (pa_cons (pe_ix (ixT K) (pv 0) pe_int (fun _ _ => rfl)) (pa_cons (pe_ty "str" (by rfl) T.n_str (by decide +kernel)) pa_nil))))) (pw_or1 (pt_cmpR (notin_dk T.dk_ABOUT) (pe_ix (ixT K) (pv 0) pe_int (fun _ _ => rfl)) (pe_glob (v := .ref cs.ABOUT) (by rfl) T.gl_ABOUT rfl) (by rfl))))))) (pss_one (ps_raiseE T.x_BadScheme rfl tk (by rfl))) pss_nil) (pss_cons (ps_set (i := 2) sc_check_goal.nd rfl (.inl rfl) (pe_ix (ixT K) (pv 0) pe_int (fun _ _ => rfl))) (pss_cons (ps_if (pt_cmpR op_ne (pe_callB (lenS K) (by rfl) T.n_len (by decide +kernel) (pa_cons (pv 0) pa_nil)) (pe_ifExp (pt_cmpR op_eq (pv 2) pe_str (nomark _)) pe_int pe_int) (nomark _)) (pss_one (ps_raiseE T.x_BadScheme rfl tk (by rfl))) pss_nil) (pss_cons (ps_set (i := 3) sc_check_goal.nd rfl (.inl rfl) (pe_clX c_built hr (by first | decide | omega) (by rfl) tk (pa_cons (pe_ix (ixT K) (pv 0) (pe_un un_neg pe_int) (fun _ _ => rfl)) (pa_cons (pv 1) pa_nil)))) (pss_cons (ps_if (pt_cmpR op_notIn_seq (pe_ix (ix_dk T.dk_ABOUT) (pe_glob (v := .ref cs.ABOUT) (by rfl) T.gl_ABOUT rfl) (pv 2) (fun _ _ => rfl)) (pe_tup (pa_cons pe_str (pa_cons (pe_ix (ixT K) (pv 3) pe_int (fun _ _ => rfl)) pa_nil))) (by rfl)) (pss_one (ps_raiseE T.x_BadScheme rfl tk (by rfl))) pss_nil) (pss_one (ps_if (PW.pt (pw_and (pt_cmpR op_eq (pv 2) pe_str (nomark _)) (pw_and1 (pt_not (pt_val (pe_cl c_are_rows hr (by first | decide | omega) (by rfl) (pa_cons (pe_tup (pa_cons (pe_ix (ixT K) (pv 0) pe_int (fun _ _ => rfl)) pa_nil)) (pa_cons pe_int (pa_cons (pe_ix (ixT K) (pv 3) pe_int (fun _ _ => rfl)) pa_nil))))))))) (pss_one (ps_raiseE T.x_BadScheme rfl tk (by rfl))) pss_nil)))))))), ?_⟩
    refine ⟨_, rfl, u, B, m, rfl, hu, hm, m64, fun H1 s1 => ⟨fun okB => ?_, fun no => ?_⟩⟩
    · rcases q with ⟨q0, _⟩ | ⟨b, rfl, ok, q1, q0⟩
      · rw [q0] at okB
        cases okB
      · have hd1 := dp_same s1 _ hd
        refine ⟨_, rfl, _, _, _, _, _, rfl, .ty "tuple", dp_ty hd1, kit_tup g, _, rfl, ?_⟩
        cases g with
        | tuple xs =>
          refine ⟨_, rfl, (by show 0 ≤ sizeLine; exact Nat.zero_le _), fun p1 np1 => ?_⟩
          have s2 := same_new (o := .tup []) np1
          have hN : Dp K (upd H1 p1 (.tup [])) (.ref p1) (.tuple []) := .tup (.inl (.inl upd_same)) .nil
          have s12 := s1.trans s2
          generalize upd H1 p1 (.tup []) = H2 at *
          refine ⟨_, _, dp_same s12 _ hd, hN, gd_lay hg, by decide +kernel, by decide +kernel, _, rfl, ?_⟩
          obtain ⟨a, ws, rfl, hT, hX⟩ : ∃ a ws, v = .ref a ∧ SqT K H a ws ∧ DpAll K H ws xs := by
            cases hd with
            | tup hT hA => exact ⟨_, _, rfl, hT, hA⟩
          have hT2 := same_sqt s12 hT
          cases xs with
          | nil =>
            rw [show PyData.eqv (.tuple []) (.tuple []) = true by simp only [PyData.eqv, PyData.eqvAll]]
            exact q0 H2 rfl s12
          | cons x r =>
            rw [show PyData.eqv (.tuple (x :: r)) (.tuple []) = false by simp only [PyData.eqv, PyData.eqvAll]]
            cases hX with
            | @cons v0 _ vr _ h0 hr =>
            have h02 := dp_same s12 _ h0
            refine ⟨_, rfl, a, _, 0, _, rfl, rfl, hT2, at0, ?_⟩
            refine ⟨_, _, _, _, _, rfl, .ty "str", dp_ty h02, kit_str x, _, rfl, ?_⟩
            cases x with
            | str z =>
              cases h0
              have hxl := dp_all_len hr
              refine ⟨_, rfl, a, _, 0, _, rfl, rfl, hT2, at0, z, rfl, rfl, _, rfl, ?_⟩
              cases hz : decide (z ∈ aboK) with
              | false =>
                rw [show decide (z ∈ (["tell", "marks", "secrets", "once", "opening", "next"] : List Str)) = false from hz]
                exact q0 H2 (by show (decide (z ∈ aboK) && _) = false; rw [hz]; rfl) s12
              | true =>
                rw [show decide (z ∈ (["tell", "marks", "secrets", "once", "opening", "next"] : List Str)) = true from hz]
                have hgo : goalOk (.tuple (.str z :: r)) b = (decide (r.length + 1 = if z = "opening" then 3 else 2) && (match builtD (r.getLastD (.str z)) b with
                    | some w => goalW z w (r.headD .none)
                    | none => false)) := by
                  show (decide (z ∈ aboK) && _) = _
                  rw [hz, Bool.true_and]
                refine ⟨_, rfl, a, _, 0, _, rfl, rfl, hT2, at0, ?_⟩
                refine ⟨_, rfl, a, _, rfl, .inr hT2, _, rfl, rfl, _, rfl, ?_⟩
                by_cases co : z = "opening"
                · rw [decide_eq_true (congrArg V.str co)]
                  subst co
                  rw [if_pos rfl] at hgo
                  refine ⟨rfl, _, rfl, ?_⟩
                  by_cases cl : r.length = 2
                  · obtain ⟨g1, g2, rfl⟩ : ∃ g1 g2, r = [g1, g2] := by
                      match r, cl with
                      | [x, y], _ => exact ⟨x, y, rfl⟩
                    cases hr with
                    | @cons v1 _ vr1 _ h1 hr1 =>
                    cases hr1 with
                    | @cons v2 _ vr2 _ h2 hr2 =>
                    cases hr2
                    rw [decide_eq_true (show V.int ((([V.str "opening", v1, v2] : List V).length : Nat) : Int) = V.int 3 from rfl)]
                    have h12 := dp_same s12 _ h1
                    have h22 := dp_same s12 _ h2
                    obtain ⟨_, n', rfl, hgx⟩ := gd_tup hg
                    refine ⟨_, rfl, 1, rfl, a, _, -1, v2, rfl, rfl, hT2, rfl, _, rfl, v2, u, g2, b.D, n', m, rfl, h22, hgx g2 (by simp), dp_same s12 _ hu, hm, m64, .inr ⟨b, rfl, ok, fun w' v' H3 e3 s3 d3 => ?_, fun H3 e3 s3 => q0 H3 ?_ (s12.trans s3)⟩⟩
                    · have wok := builtD_ok ok e3
                      obtain ⟨aw, uw, rfl, hTw, k0, k2⟩ := blk_parts d3
                      have go3 : goalOk (.tuple [.str "opening", g1, g2]) b = goalW "opening" w' g1 := by
                        rw [hgo, show builtD (([g1, g2] : List PyData).getLastD (.str "opening")) b = some w' from e3]
                        rfl
                      refine ⟨_, rfl, "opening", rfl, rfl, of_decide_eq_true hz, fun va ua rv hab => ?_⟩
                      obtain ⟨x, t, hm2, rfl⟩ := hab
                      obtain rfl := rel_txt rv
                      obtain rfl := abo_of hm2
                      refine ⟨_, rfl, aw, _, 0, _, rfl, rfl, hTw, atI_nat (j := 0) k0, (by show 2 ≤ sizeLine; decide), fun p3 np3 => ?_⟩
                      have s4 := same_new (o := .tup [.str "any", .str (kindB w')]) np3
                      refine ⟨p3, _, rfl, .inr (.inl (.inl upd_same)), rfl, rfl, _, rfl, ?_⟩
                      rw [inV_two]
                      have s34 := s12.trans (s3.trans s4)
                      have s34' := s3.trans s4
                      generalize upd H3 p3 (.tup [.str "any", .str (kindB w')]) = H4 at *
                      cases ck : (decide (aboF "opening" = "any") || decide (aboF "opening" = kindB w')) with
                      | false => exact q0 _ (go3.trans (by unfold goalW; rw [ck]; rfl)) s34
                      | true =>
                        refine ⟨_, rfl, rfl, _, rfl, ?_⟩
                        rw [decide_eq_true rfl]
                        refine ⟨_, rfl, a, _, 1, v1, rfl, rfl, same_sqt s34' hT2, rfl, (by show 1 ≤ sizeLine; decide), fun p5 np5 => ?_⟩
                        have s5 := same_new (o := .tup [v1]) np5
                        have d5 : Dp K (upd H4 p5 (.tup [v1])) (.ref p5) (.tuple [g1]) := .tup (.inl (.inl upd_same)) (.cons (dp_same (s34'.trans s5) _ h12) .nil)
                        refine ⟨_, rfl, aw, _, 2, _, rfl, rfl, same_sqt (s4.trans s5) hTw, atI_nat (j := 2) k2, _, .tuple [g1], n' + 1, 1, (wideB w' : Int), rfl, d5, ⟨(by show 1 ≤ 5000; decide), fun y hy => (by rw [List.mem_singleton.mp hy]; exact hgx g1 (by simp))⟩, by decide, by have := blk_wide wok; omega, fun H5 s6 => ⟨_, rfl, ?_⟩⟩
                        have s45 := s34.trans (s5.trans s6)
                        cases cr : rowsOk (.tuple [g1]) 1 (wideB w' : Int) with
                        | false => exact q0 _ (go3.trans (by unfold goalW; rw [ck, cr]; rfl)) s45
                        | true => exact q1 _ (go3.trans (by unfold goalW; rw [ck, cr]; rfl)) s45
                    · rw [hgo, show builtD (([g1, g2] : List PyData).getLastD (.str "opening")) b = none from e3, Bool.and_false]
                  · rw [decide_eq_false (show ¬ V.int (((V.str "opening" :: _).length : Nat) : Int) = V.int 3 from fun h => cl (by have := V.int.inj h; rw [List.length_cons, hxl] at this; omega))]
                    refine q0 H2 ?_ s12
                    rw [hgo, decide_eq_false (by omega), Bool.false_and]
                · rw [decide_eq_false (fun e => co (V.str.inj e))]
                  rw [if_neg co] at hgo
                  refine ⟨rfl, _, rfl, ?_⟩
                  by_cases cl : r.length = 1
                  · obtain ⟨g1, rfl⟩ := List.length_eq_one_iff.mp cl
                    cases hr with
                    | @cons v1 _ vr1 _ h1 hr1 =>
                    cases hr1
                    rw [decide_eq_true (show V.int ((([V.str z, v1] : List V).length : Nat) : Int) = V.int 2 from rfl)]
                    have h12 := dp_same s12 _ h1
                    obtain ⟨_, n', rfl, hgx⟩ := gd_tup hg
                    refine ⟨_, rfl, 1, rfl, a, _, -1, v1, rfl, rfl, hT2, rfl, _, rfl, v1, u, g1, b.D, n', m, rfl, h12, hgx g1 (by simp), dp_same s12 _ hu, hm, m64, .inr ⟨b, rfl, ok, fun w' v' H3 e3 s3 d3 => ?_, fun H3 e3 s3 => q0 H3 ?_ (s12.trans s3)⟩⟩
                    · obtain ⟨aw, uw, rfl, hTw, k0, k2⟩ := blk_parts d3
                      have go3 : goalOk (.tuple [.str z, g1]) b = goalW z w' g1 := by
                        rw [hgo, show builtD (([g1] : List PyData).getLastD (.str z)) b = some w' from e3]
                        rfl
                      refine ⟨_, rfl, z, rfl, rfl, of_decide_eq_true hz, fun va ua rv hab => ?_⟩
                      obtain ⟨x, t, hm2, rfl⟩ := hab
                      obtain rfl := rel_txt rv
                      obtain rfl := abo_of hm2
                      refine ⟨_, rfl, aw, _, 0, _, rfl, rfl, hTw, atI_nat (j := 0) k0, (by show 2 ≤ sizeLine; decide), fun p3 np3 => ?_⟩
                      have s4 := same_new (o := .tup [.str "any", .str (kindB w')]) np3
                      refine ⟨p3, _, rfl, .inr (.inl (.inl upd_same)), rfl, rfl, _, rfl, ?_⟩
                      rw [inV_two]
                      have s34 := s12.trans (s3.trans s4)
                      cases ck : (decide (aboF z = "any") || decide (aboF z = kindB w')) with
                      | false => exact q0 _ (go3.trans (by unfold goalW; rw [ck]; rfl)) s34
                      | true =>
                        refine ⟨_, rfl, rfl, _, rfl, ?_⟩
                        rw [decide_eq_false (fun e => co (V.str.inj e))]
                        exact q1 _ (go3.trans (by unfold goalW; rw [ck, decide_eq_false co]; rfl)) s34
                    · rw [hgo, show builtD (([g1] : List PyData).getLastD (.str z)) b = none from e3, Bool.and_false]
                  · rw [decide_eq_false (show ¬ V.int (((V.str z :: _).length : Nat) : Int) = V.int 2 from fun h => cl (by have := V.int.inj h; rw [List.length_cons, hxl] at this; omega))]
                    refine q0 H2 ?_ s12
                    rw [hgo, decide_eq_false (by omega), Bool.false_and]
            | _ => exact q0 H2 rfl s12
        | _ => exact q0 H1 rfl s1
    · rcases q with ⟨_, q0⟩ | ⟨b, rfl, ok, _⟩
      · exact q0 H1 s1
      · rw [blk_ok ok] at no
        cases no

end
def spLawTree31 (K : PySem.W.Frag) : Sp := fun vs H Q _ => ∃ (v : V) (n j : Nat) (rows : List (List Bool)), vs = [v, .int (j : Int)] ∧ Dp K H v (tabD n (2 * n) rows) ∧ Wf n (2 * n) rows ∧ n ≤ 8 ∧ 1 ≤ j ∧ j ≤ 8 ∧ n + j ≤ 12 ∧ ∀ v' H', Same H H' → Dp K H' v' (funD n j n (treeT n j rows)) → Q v' H'
theorem toB_front : ∀ (i k : Nat), toB (i + 1) k = (k / 2 ^ i % 2 == 1) :: toB i k
  | 0, k => by
    show [k % 2 == 1] = [k / 1 % 2 == 1]
    rw [Nat.div_one]
  | i + 1, k => by
    show toB (i + 1) (k / 2) ++ [k % 2 == 1] = _
    rw [toB_front i]
    show (k / 2 / 2 ^ i % 2 == 1) :: (toB i (k / 2) ++ [k % 2 == 1]) = (k / 2 ^ (i + 1) % 2 == 1) :: toB (i + 1) k
    rw [Nat.div_div_eq_div_mul, ← Nat.pow_succ']
    rfl
def spBitsS : Sp := fun vs H Q _ => ∃ n k : Nat, vs = [.int (n : Int), .int (k : Int)] ∧ n ≤ 20 ∧ Q (.str (sb (toB n k))) H

section
variable {P : Program} {w : World} {K : PySem.W.Frag} {mg : Str → Option Value} {base : Heap} {cs : Cs}
theorem ok_lawbitsS {f : Addr} {fd : FuncData} (D : Df K mg "_law_bits" s_law_bits ["length", "number"] f fd) (T : Txt K w mg cs) : FnOk P w K mg base CX0 1 f fd ["length", "number"] spBitsS := by
  refine D.fn.ok sc_law_bits (fun vs H Q E h => ?_) (fun cdv A outer s H vs Q E hr h => ?_)
  · obtain ⟨n, k, rfl, _⟩ := h
    rfl
  · obtain ⟨n, k, rfl, hn, q⟩ := h
    refine ⟨_, (pss_cons (ps_set (i := 2) sc_law_bits.nd rfl (.inl rfl) pe_str) (pss_cons (ps_for PassesOwn.never rfl (pi_range1 (by rfl) T.n_range (pa_cons (pv 0) pa_nil)) (pg_name (i := 3) sc_law_bits.nd rfl (.inl rfl)) (pss_one (ps_set (i := 2) sc_law_bits.nd rfl (.inl rfl) (pe_op op_add_str (pe_callTy call_str_int (by rfl) T.n_str (by decide +kernel) (pa_cons (pe_op op_sub (pe_op op_fdiv (pv 1) (pe_op op_shl pe_int (pv 3))) (pe_op op_mul (pe_op op_fdiv (pv 1) (pe_op op_shl pe_int (pv 3))) pe_int)) pa_nil)) (pv 2))))) (pss_one (ps_ret (pv 2))))), ?_⟩
    refine ⟨_, rfl, _, rfl, by omega, by omega, for_range (lo := 0) (n := n) (fun i σ H' => ∃ (y : Option V), σ = [some (.int (n : Int)), some (.int (k : Int)), some (.str (sb (toB i k))), y] ∧ i ≤ n ∧ H' = H) ?_ ?_ ?_⟩
    · exact ⟨none, rfl, Nat.zero_le _, rfl⟩
    · rintro i σ H' hi ⟨y, rfl, hin, rfl⟩
      rw [show ((0 : Int) + (i : Int)) = (i : Int) from Int.zero_add _]
      have hp : 2 ^ i ≤ 2 ^ 20 := two_pow_le (by omega)
      have hp0 : 0 < 2 ^ i := Nat.two_pow_pos i
      have e1 : (1 : Int) * 2 ^ (i : Int).toNat = ((2 ^ i : Nat) : Int) := shl_one i
      have e2 : (2 : Int) * 2 ^ (i : Int).toNat = ((2 ^ (i + 1) : Nat) : Int) := by
        rw [Int.toNat_natCast, Nat.pow_succ', Int.natCast_mul, Int.natCast_pow]
        rfl
      have hp1 : 2 ^ (i + 1) ≤ 2 ^ 21 := two_pow_le (by omega)
      have hp10 : 0 < 2 ^ (i + 1) := Nat.two_pow_pos (i + 1)
      refine ⟨_, rfl, _, rfl, _, _, rfl, rfl, ⟨by omega, by omega, by decide⟩, ?_⟩
      have ev : (k : Int) / (1 * 2 ^ (i : Int).toNat) - (k : Int) / (2 * 2 ^ (i : Int).toNat) * 2 = ((k / 2 ^ i : Nat) : Int) % 2 := by
        rw [e1, e2, ← Int.natCast_ediv, ← Int.natCast_ediv, Nat.pow_succ, ← Nat.div_div_eq_div_mul]
        omega
      have hd : ∀ {j : Nat}, j ≤ 21 → CDiv (k : Int) ((2 ^ j : Nat) : Int) := fun {j} hj => by
        have h1 : 2 ^ j ≤ 2 ^ 21 := two_pow_le hj
        have h2 : 0 < 2 ^ j := Nat.two_pow_pos j
        have h3 : ((2 ^ j : Nat) : Int) < 1073741824 := by omega
        exact ⟨by omega, h3⟩
      refine ⟨_, _, rfl, rfl, ?_, _, rfl, _, rfl, _, _, rfl, rfl, ⟨by omega, by omega, by decide⟩, _, _, rfl, rfl, ?_, _, _, rfl, rfl, .inr ⟨by decide, by decide⟩, _, _, rfl, rfl, ?_⟩
      · show CDiv _ (1 * 2 ^ (i : Int).toNat)
        rw [e1]
        exact hd (by omega)
      · show CDiv _ (2 * 2 ^ (i : Int).toNat)
        rw [e2]
        exact hd (by omega)
      dsimp only
      rw [ev]
      refine ⟨_, rfl, ?_, _, rfl, _, _, rfl, rfl, ?_, ?_⟩
      · have h2 : (((k / 2 ^ i : Nat) : Int) % 2).natAbs < 2 := by omega
        have : (((k / 2 ^ i : Nat) : Int) % 2).natAbs.log2 ≤ (((k / 2 ^ i : Nat) : Int) % 2).natAbs := Nat.log2_le_self _
        omega
      · rw [str_bit, sb_len, sb_len, toB_len, sizeLine_eq]
        show 1 + i ≤ 16777216
        omega
      · rw [str_bit, sb_cat, show [k / 2 ^ i % 2 == 1] ++ toB i k = toB (i + 1) k from (toB_front i k).symm]
        exact ⟨_, rfl, by omega, rfl⟩
    · rintro σ H' ⟨y, rfl, hin, rfl⟩
      exact ⟨_, rfl, q⟩

theorem ok_lawnum {f : Addr} {fd : FuncData} (D : Df K mg "_law_number" s_law_number ["string"] f fd) (T : Txt K w mg cs) : FnOk P w K mg base CX0 1 f fd ["string"] spNumber := by
  refine D.fn.ok sc_law_number (fun vs H Q E h => ?_) (fun cdv A outer s H vs Q E hr h => ?_)
  · obtain ⟨bs, rfl, _⟩ := h
    rfl
  · obtain ⟨bs, rfl, hl, q⟩ := h
    refine ⟨_, (pss_cons (ps_set (i := 1) sc_law_number.nd rfl (.inl rfl) pe_int) (pss_cons (ps_for PassesOwn.never rfl (pi_str (pv 0)) (pg_name (i := 2) sc_law_number.nd rfl (.inl rfl)) (pss_one (ps_set (i := 1) sc_law_number.nd rfl (.inl rfl) (pe_op op_add (pe_op op_mul pe_int (pv 1)) (pe_callTy call_int_str (by rfl) T.n_int (by decide +kernel) (pa_cons (pv 2) pa_nil)))))) (pss_one (ps_ret (pv 1))))), ?_⟩
    refine ⟨_, rfl, _, rfl, for_text (fun i σ H' => ∃ y2 : Option V, σ = [some (.str (sb bs)), some (.int ((val (bs.take i) : Nat) : Int)), y2] ∧ H' = H) ?_ ?_ ?_⟩
    · exact ⟨none, rfl, rfl⟩
    · rintro i c σ H' hc ⟨y2, rfl, rfl⟩
      obtain ⟨hi, rfl⟩ := sb_at hc
      have ei : PySem.intText? ⟨#[cB bs[i]]⟩ = some ((bit bs[i] : Nat) : Int) := by
        cases bs[i] <;> decide +kernel
      refine ⟨_, rfl, _, _, rfl, rfl, .inl ⟨by decide, by decide⟩, _, rfl, _, _, rfl, ei, (by show 1 ≤ 640; decide), _, _, rfl, rfl, some (.str ⟨#[cB bs[i]]⟩), ?_, rfl⟩
      show [_, some (V.int _), _] = _
      rw [val_take bs i hi]
      rw [show (2 : Int) * ((val (bs.take i) : Nat) : Int) + ((bit bs[i] : Nat) : Int) = ((2 * val (bs.take i) + bit bs[i] : Nat) : Int) by omega]
    · rintro σ H' ⟨y2, rfl, rfl⟩
      have es : (sb bs).cps.size = bs.length := sb_len bs
      rw [List.take_of_length_le (Nat.le_of_eq es.symm)]
      exact ⟨_, rfl, q⟩

theorem ok_lawlong31 {f : Addr} {fd : FuncData} (D : Df K mg "_law_longer" s_law_longer ["table", "k"] f fd) (T : Txt K w mg cs) (c_law_bits : Cl P w K mg base CX0 1 "_law_bits" spBitsS) (c_law_number : Cl P w K mg base CX0 1 "_law_number" spNumber) : FnOk P w K mg base CX0 2 f fd ["table", "k"] (spLawLong K) := by
  refine D.fn.ok sc_law_longer (fun vs H Q E h => ?_) (fun cdv A outer s H vs Q E hr h => ?_)
  · obtain ⟨v, n, j, rows, rfl, _⟩ := h
    rfl
  · obtain ⟨v, n, j, rows, rfl, hd, wf, j1, j2, q⟩ := h
    refine ⟨_, (pss_cons (ps_set (i := 2) sc_law_longer.nd rfl (.inl rfl) (pe_ix (ixT K) (pv 0) pe_int (fun _ _ => rfl))) (pss_cons (ps_if (PW.pt (pw_or (pt_cmpR op_ne (pe_ix (ixT K) (pv 0) pe_int (fun _ _ => rfl)) pe_str (nomark _)) (pw_or (pt_cmpR op_ne (pe_ix (ixT K) (pv 0) pe_int (fun _ _ => rfl)) (pe_op op_add (pv 2) pe_int) (nomark _)) (pw_or (pt_cmpR op_lt (pv 1) pe_int (nomark _)) (pw_or1 (pt_cmpR op_gt (pv 1) pe_int (nomark _))))))) (pss_one (ps_ret pe_non)) pss_nil) (pss_cons (ps_set (i := 3) sc_law_longer.nd rfl (.inl rfl) (pe_lst pa_nil)) (pss_cons (ps_for PassesOwn.never rfl (pi_range1 (by rfl) T.n_range (pa_cons (pe_op op_shl pe_int (pv 2)) pa_nil)) (pg_name (i := 4) sc_law_longer.nd rfl (.inl rfl)) (pss_cons (ps_set (i := 5) sc_law_longer.nd rfl (.inl rfl) (pe_cl c_law_bits hr (by first | decide | omega) (by rfl) (pa_cons (pv 2) (pa_cons (pv 4) pa_nil)))) (pss_cons (ps_set (i := 6) sc_law_longer.nd rfl (.inl rfl) pe_str) (pss_cons (ps_for PassesOwn.never rfl (pi_range1 (by rfl) T.n_range (pa_cons (pv 1) pa_nil)) (pg_name (i := 7) sc_law_longer.nd rfl (.inl rfl)) (pss_cons (ps_set (i := 8) sc_law_longer.nd rfl (.inl rfl) (pe_ix (ixT K) (pe_ix (ixT K) (pv 0) pe_int (fun _ _ => rfl)) (pe_cl c_law_number hr (by first | decide | omega) (by rfl) (pa_cons (pv 5) pa_nil)) (fun _ _ => rfl))) (pss_cons (ps_set (i := 5) sc_law_longer.nd rfl (.inl rfl) (pe_slice sl_str (pv 8) po_none (po_some (pv 2)))) (pss_one (ps_set (i := 6) sc_law_longer.nd rfl (.inl rfl) (pe_op op_add_str (pv 6) (pe_slice sl_str (pv 8) (po_some (pv 2)) po_none))))))) (pss_one (ps_expr (pe_bm PySem.F.plainAttrs_list PySem.F.slot_list_append PySem.F.type_list_append mt_append (pv 3) (pa_cons (pe_op op_add_str (pv 6) (pv 5)) pa_nil)))))))) (pss_one (ps_ret (pe_tup (pa_cons pe_str (pa_cons (pv 2) (pa_cons (pe_op op_add (pv 2) (pv 1)) (pa_cons (pe_callTy (tupOf K) (by rfl) T.n_tuple (by decide +kernel) (pa_cons (pv 3) pa_nil)) pa_nil))))))))))), ?_⟩
    obtain ⟨a, r, rfl, hT, hR⟩ := dp_tab hd
    have hn10 := wf.n2
    have hp := two_pow_le (b := 10) hn10
    refine ⟨_, rfl, a, _, 1, _, rfl, rfl, hT, rfl, ?_⟩
    refine ⟨_, rfl, a, _, 0, _, rfl, rfl, hT, at0, rfl, _, rfl, ?_⟩
    rw [decide_eq_true rfl]
    refine ⟨_, rfl, a, _, 2, _, rfl, rfl, hT, rfl, _, rfl, _, _, rfl, rfl, rfl, _, rfl, ?_⟩
    rw [decide_eq_true (show V.int ((n + 1 : Nat) : Int) = V.int ((n : Int) + 1) from congrArg V.int (by omega))]
    refine ⟨_, rfl, _, _, rfl, rfl, _, rfl, ?_⟩
    rw [decide_eq_false (show ¬ (j : Int) < 1 by omega)]
    refine ⟨_, rfl, _, _, rfl, rfl, _, rfl, ?_⟩
    rw [decide_eq_false (show ¬ (20 : Int) < (j : Int) by omega)]
    refine ⟨Nat.zero_le _, fun L nL => ?_⟩
    refine ⟨_, rfl, _, _, rfl, rfl, ⟨by omega, by omega, by decide⟩, _, rfl, ?_⟩
    rw [shl_one]
    generalize hN : 2 ^ n = N at hp ⊢
    refine ⟨by omega, by omega, for_range (lo := 0) (n := _) (fun i σ H' => ∃ y4 y5 y6 y7 y8 : Option V, σ = [some (.ref a), some (.int (j : Int)), some (.int (n : Int)), some (.ref L), y4, y5, y6, y7, y8] ∧ Same H H' ∧ H' L = some (.lst (rowV ((List.range i).map fun i => putOut rows j (toB n i))))) ?_ ?_ ?_⟩
    · exact ⟨_, _, _, _, _, rfl, same_new nL, upd_same⟩
    · rintro i σ H' hi ⟨y4, y5, y6, y7, y8, rfl, s1, e1⟩
      have hT1 := same_sqt s1 hT
      have hR1 := same_sqt s1 hR
      refine ⟨_, rfl, _, rfl, n, i, ?_, by omega, ?_⟩
      · show [V.int (n : Int), V.int (0 + (i : Int))] = _
        rw [Int.zero_add]
      refine ⟨_, rfl, _, rfl, by omega, by omega, for_range (lo := 0) (n := j) (fun k σ H2 => ∃ (t o : List Bool) (y7 y8 : Option V), σ = [some (.ref a), some (.int (j : Int)), some (.int (n : Int)), some (.ref L), some (.int (0 + (i : Int))), some (.str (sb t)), some (.str (sb o)), y7, y8] ∧ t.length = n ∧ o.length = k ∧ k ≤ j ∧ putOut rows j (toB n i) = o ++ putOut rows (j - k) t ∧ H2 = H') ?_ ?_ ?_⟩
      · exact ⟨toB n i, [], _, _, rfl, toB_len _ _, rfl, Nat.zero_le _, rfl, rfl⟩
      · rintro k σ H2 hk ⟨t, o, y7, y8, rfl, ht, ho, hik, he, rfl⟩
        obtain ⟨hv, hrow⟩ := wf.at ht
        generalize hRw : rows.getD (val t) [] = row at hrow
        obtain ⟨b, hb, hbl⟩ := last_bit hrow
        have sz : ∀ l : List Bool, l.length ≤ 1000 → (sb l).length ≤ sizeLine := fun l h => by
          rw [sb_len, sizeLine_eq]
          omega
        refine ⟨_, rfl, a, _, 3, _, rfl, rfl, hT1, rfl, _, rfl, t, rfl, by omega, r, _, _, _, rfl, rfl, hR1, atI_nat (getD_row hv), ?_⟩
        rw [hRw]
        refine ⟨_, rfl, _, rfl, _, rfl, _, rfl, sz _ (by omega), ?_⟩
        rw [cut_pre]
        refine ⟨_, rfl, _, rfl, _, rfl, _, rfl, _, rfl, sz _ (by omega), ?_⟩
        rw [cut_suf, hb]
        refine ⟨_, _, rfl, rfl, ?_, row.take n, o ++ [b], some (.int (0 + (k : Int))), some (.str (sb row)), ?_, ?_, ?_, by omega, ?_, rfl⟩
        · rw [← str_app_len, sb_cat]
          exact sz _ (by rw [List.length_append, ho]; show k + 1 ≤ _; omega)
        · rw [← sb_cat]
          rfl
        · rw [List.length_take, hrow]
          omega
        · rw [List.length_append, ho]
          rfl
        · rw [he, show j - k = (j - (k + 1)) + 1 by omega]
          show o ++ ((rows.getD (val t) []).drop ((rows.getD (val t) []).length - 1) ++ putOut rows (j - (k + 1)) (rows.getD (val t) []).dropLast) = _
          rw [hRw, hrow, show n + 1 - 1 = n from rfl, hb, List.append_assoc, List.dropLast_eq_take, hrow]
          rfl
      · rintro σ H2 ⟨t, o, y7, y8, rfl, ht, ho, hik, he, rfl⟩
        rw [Nat.sub_self] at he
        have he' : putOut rows j (toB n i) = o ++ t := he
        refine ⟨_, rfl, .inl ⟨rfl, _, .inl (.inl e1)⟩, _, rfl, _, rfl, _, _, rfl, rfl, ?_, L, _, _, rfl, rfl, e1, ?_, ?_⟩
        · rw [← str_app_len, sb_cat, sb_len, List.length_append, sizeLine_eq]
          omega
        · unfold rowV
          rw [List.length_map, List.length_map, List.length_range]
          exact Nat.lt_of_lt_of_le (show i < 10000 by omega) (by decide)
        · refine ⟨_, _, _, _, _, rfl, fun b o' e => ?_, ?_⟩
          · rw [upd_ne (ne_of_none e nL)]
            exact s1 b o' e
          · rw [upd_same, List.range_succ]
            unfold rowV
            rw [List.map_append, List.map_append, sb_cat, ← he']
            rfl
    · rintro σ H' ⟨y4, y5, y6, y7, y8, rfl, s1, e1⟩
      rw [Int.toNat_natCast, ← hN] at e1
      refine ⟨_, rfl, _, rfl, _, rfl, _, _, rfl, rfl, _, rfl, L, _, rfl, .inl ⟨.inl (.inl e1), fun t nt => ⟨(by show 4 ≤ sizeLine; decide), fun g ng => ?_⟩⟩⟩
      have s4 := s1.trans ((same_new nt).trans (same_new (o := .tup [.str "generator", .int (n : Int), .int ((n : Int) + (j : Int)), .ref t]) ng))
      refine q _ _ s4 (tab_dp (n := n) (m := n + j) (r := t) (.inl (.inl upd_same)) (.inl (.inl ?_)))
      rw [upd_ne (ne_of_none upd_same ng), upd_same]
      rfl
theorem ok_lawtree31 {f : Addr} {fd : FuncData} (D : Df K mg "_law_tree" s_law_tree ["table", "d"] f fd) (T : Txt K w mg cs) (c_law_bits : Cl P w K mg base CX0 1 "_law_bits" spBitsS) (c_law_number : Cl P w K mg base CX0 1 "_law_number" spNumber) : FnOk P w K mg base CX0 2 f fd ["table", "d"] (spLawTree31 K) := by
  refine D.fn.ok sc_law_tree (fun vs H Q E h => ?_) (fun cdv A outer s H vs Q E hr h => ?_)
  · obtain ⟨v, n, j, rows, rfl, _⟩ := h
    rfl
  · obtain ⟨v, n, j, rows, rfl, hd, wf, n8, j1, j2, nj, q⟩ := h
    refine ⟨_, (pss_cons (ps_set (i := 2) sc_law_tree.nd rfl (.inl rfl) (pe_ix (ixT K) (pv 0) pe_int (fun _ _ => rfl))) (pss_cons (ps_if (PW.pt (pw_or (pt_cmpR op_ne (pe_ix (ixT K) (pv 0) pe_int (fun _ _ => rfl)) pe_str (nomark _)) (pw_or (pt_cmpR op_ne (pe_ix (ixT K) (pv 0) pe_int (fun _ _ => rfl)) (pe_op op_mul pe_int (pv 2)) (nomark _)) (pw_or (pt_cmpR op_gt (pv 2) pe_int (nomark _)) (pw_or (pt_cmpR op_lt (pv 1) pe_int (nomark _)) (pw_or (pt_cmpR op_gt (pv 1) pe_int (nomark _)) (pw_or1 (pt_cmpR op_gt (pe_op op_add (pv 2) (pv 1)) pe_int (nomark _))))))))) (pss_one (ps_ret pe_non)) pss_nil) (pss_cons (ps_set (i := 3) sc_law_tree.nd rfl (.inl rfl) (pe_lst pa_nil)) (pss_cons (ps_for PassesOwn.never rfl (pi_range1 (by rfl) T.n_range (pa_cons (pe_op op_shl pe_int (pv 2)) pa_nil)) (pg_name (i := 4) sc_law_tree.nd rfl (.inl rfl)) (pss_cons (ps_set (i := 5) sc_law_tree.nd rfl (.inl rfl) (pe_lst pa_nil)) (pss_cons (ps_for PassesOwn.never rfl (pi_range1 (by rfl) T.n_range (pa_cons (pe_op op_shl pe_int (pv 1)) pa_nil)) (pg_name (i := 6) sc_law_tree.nd rfl (.inl rfl)) (pss_cons (ps_set (i := 7) sc_law_tree.nd rfl (.inl rfl) (pe_cl c_law_bits hr (by first | decide | omega) (by rfl) (pa_cons (pv 2) (pa_cons (pv 4) pa_nil)))) (pss_cons (ps_for PassesOwn.never rfl (pi_str (pe_cl c_law_bits hr (by first | decide | omega) (by rfl) (pa_cons (pv 1) (pa_cons (pv 6) pa_nil)))) (pg_name (i := 8) sc_law_tree.nd rfl (.inl rfl)) (pss_cons (ps_set (i := 9) sc_law_tree.nd rfl (.inl rfl) (pe_ix (ixT K) (pe_ix (ixT K) (pv 0) pe_int (fun _ _ => rfl)) (pe_cl c_law_number hr (by first | decide | omega) (by rfl) (pa_cons (pv 7) pa_nil)) (fun _ _ => rfl))) (pss_one (ps_set (i := 7) sc_law_tree.nd rfl (.inl rfl) (pe_ix (ixL K) (pe_lst (pa_cons (pe_slice sl_str (pv 9) po_none (po_some (pv 2))) (pa_cons (pe_slice sl_str (pv 9) (po_some (pv 2)) po_none) pa_nil))) (pe_callTy call_int_str (by rfl) T.n_int (by decide +kernel) (pa_cons (pv 8) pa_nil)) (fun _ _ => rfl)))))) (pss_one (ps_expr (pe_bm PySem.F.plainAttrs_list PySem.F.slot_list_append PySem.F.type_list_append mt_append (pv 5) (pa_cons (pv 7) pa_nil))))))) (pss_one (ps_expr (pe_bm PySem.F.plainAttrs_list PySem.F.slot_list_append PySem.F.type_list_append mt_append (pv 3) (pa_cons (pe_callTy (tupOf K) (by rfl) T.n_tuple (by decide +kernel) (pa_cons (pv 5) pa_nil)) pa_nil))))))) (pss_one (ps_ret (pe_tup (pa_cons pe_str (pa_cons (pv 2) (pa_cons (pv 1) (pa_cons (pv 2) (pa_cons (pe_callTy (tupOf K) (by rfl) T.n_tuple (by decide +kernel) (pa_cons (pv 3) pa_nil)) pa_nil)))))))))))), ?_⟩
    obtain ⟨a, r, rfl, hT, hR⟩ := dp_tab hd
    have hp := two_pow_le (b := 8) n8
    have hpj := two_pow_le (b := 8) j2
    refine ⟨_, rfl, a, _, 1, _, rfl, rfl, hT, rfl, ?_⟩
    refine ⟨_, rfl, a, _, 0, _, rfl, rfl, hT, at0, rfl, _, rfl, ?_⟩
    rw [decide_eq_true rfl]
    refine ⟨_, rfl, a, _, 2, _, rfl, rfl, hT, rfl, _, rfl, _, _, rfl, rfl, .inl ⟨by decide, by decide⟩, rfl, _, rfl, ?_⟩
    rw [decide_eq_true (show V.int ((2 * n : Nat) : Int) = V.int (2 * (n : Int)) from congrArg V.int (by omega))]
    refine ⟨_, rfl, _, _, rfl, rfl, _, rfl, ?_⟩
    rw [decide_eq_false (show ¬ (8 : Int) < (n : Int) by omega)]
    refine ⟨_, rfl, _, _, rfl, rfl, _, rfl, ?_⟩
    rw [decide_eq_false (show ¬ (j : Int) < 1 by omega)]
    refine ⟨_, rfl, _, _, rfl, rfl, _, rfl, ?_⟩
    rw [decide_eq_false (show ¬ (8 : Int) < (j : Int) by omega)]
    refine ⟨_, rfl, _, rfl, _, _, rfl, rfl, _, _, rfl, rfl, _, rfl, ?_⟩
    rw [decide_eq_false (show ¬ (12 : Int) < (n : Int) + (j : Int) by omega)]
    refine ⟨Nat.zero_le _, fun L nL => ?_⟩
    refine ⟨_, rfl, _, _, rfl, rfl, ⟨by omega, by omega, by decide⟩, _, rfl, ?_⟩
    rw [shl_one]
    generalize hN : 2 ^ n = N at hp ⊢
    refine ⟨by omega, by omega, for_range (lo := 0) (n := _) (fun i σ H' => ∃ y4 y5 y6 y7 y8 y9 : Option V, σ = [some (.ref a), some (.int (j : Int)), some (.int (n : Int)), some (.ref L), y4, y5, y6, y7, y8, y9] ∧ Same H H' ∧ ∃ us, H' L = some (.lst us) ∧ us.length = i ∧ DpAll K (off L H') us ((List.range i).map fun i => rowsD ((List.range (2 ^ j)).map fun k => goDown rows n (toB n i) (toB j k)))) ?_ ?_ ?_⟩
    · exact ⟨_, _, _, _, _, _, rfl, same_new nL, [], upd_same, rfl, .nil⟩
    · rintro i σ H' hi ⟨y4, y5, y6, y7, y8, y9, rfl, s1, us, e1, hul, hA⟩
      refine ⟨Nat.zero_le _, fun M nM => ?_⟩
      have nML : M ≠ L := (ne_of_none e1 nM).symm
      refine ⟨_, rfl, _, _, rfl, rfl, ⟨by omega, by omega, by decide⟩, _, rfl, ?_⟩
      rw [shl_one]
      generalize hJ : 2 ^ j = J at hpj hA ⊢
      refine ⟨by omega, by omega, for_range (lo := 0) (n := _) (fun k σ H2 => ∃ y6 y7 y8 y9 : Option V, σ = [some (.ref a), some (.int (j : Int)), some (.int (n : Int)), some (.ref L), some (.int (0 + (i : Int))), some (.ref M), y6, y7, y8, y9] ∧ Same H' H2 ∧ H2 M = some (.lst (rowV ((List.range k).map fun k => goDown rows n (toB n i) (toB j k))))) ?_ ?_ ?_⟩
      · exact ⟨_, _, _, _, rfl, same_new nM, upd_same⟩
      · rintro k σ H2 hk ⟨y6, y7, y8, y9, rfl, s2, e2⟩
        refine ⟨_, rfl, _, rfl, n, i, ?_, by omega, ?_⟩
        · show [V.int (n : Int), V.int (0 + (i : Int))] = _
          rw [Int.zero_add]
        refine ⟨_, rfl, _, rfl, j, k, ?_, by omega, ?_⟩
        · show [V.int (j : Int), V.int (0 + (k : Int))] = _
          rw [Int.zero_add]
        refine ⟨_, rfl, for_text (fun c σ H3 => ∃ (t : List Bool) (y8 y9 : Option V), σ = [some (.ref a), some (.int (j : Int)), some (.int (n : Int)), some (.ref L), some (.int (0 + (i : Int))), some (.ref M), some (.int (0 + (k : Int))), some (.str (sb t)), y8, y9] ∧ t.length = n ∧ goDown rows n (toB n i) (toB j k) = goDown rows n t ((toB j k).drop c) ∧ Same H2 H3) ?_ ?_ ?_⟩
        · exact ⟨toB n i, _, _, rfl, toB_len _ _, rfl, Same.refl _⟩
        · rintro c ch σ H3 hc ⟨t, y8, y9, rfl, ht, he, s3⟩
          obtain ⟨hci, rfl⟩ := sb_at hc
          obtain ⟨hv, hrow⟩ := wf.at ht
          rw [List.drop_eq_getElem_cons hci] at he
          have he' : goDown rows n (toB n i) (toB j k) = goDown rows n (if (toB j k)[c] then (rows.getD (val t) []).drop n else (rows.getD (val t) []).take n) ((toB j k).drop (c + 1)) := he
          generalize hRw : rows.getD (val t) [] = row at hrow he'
          generalize (toB j k)[c] = bt at he' ⊢
          have sz : ∀ l : List Bool, l.length ≤ 1000 → (sb l).length ≤ sizeLine := fun l h => by
            rw [sb_len, sizeLine_eq]
            omega
          have s13 := (s1.trans s2).trans s3
          refine ⟨_, rfl, a, _, 3, _, rfl, rfl, same_sqt s13 hT, rfl, _, rfl, t, rfl, by omega, r, _, _, _, rfl, rfl, same_sqt s13 hR, atI_nat (getD_row hv), ?_⟩
          rw [hRw]
          refine ⟨_, rfl, _, rfl, _, rfl, _, rfl, sz _ (by omega), ?_⟩
          rw [cut_pre]
          refine ⟨_, rfl, _, rfl, _, rfl, _, rfl, sz _ (by omega), ?_⟩
          rw [cut_suf]
          refine ⟨(by show 2 ≤ sizeLine; decide), fun g ng => ⟨_, rfl, ?_⟩⟩
          cases bt with
          | false =>
            refine ⟨_, _, rfl, (show PySem.intText? ⟨#[cB false]⟩ = some 0 by decide +kernel), (by show 1 ≤ 640; decide), ?_⟩
            refine ⟨g, [.str (sb (row.take n)), .str (sb (row.drop n))], 0, .str (sb (row.take n)), rfl, rfl, .inl (.inl upd_same), rfl, ?_⟩
            refine ⟨row.take n, _, _, rfl, ?_, he', s3.trans (same_new ng)⟩
            rw [List.length_take, hrow]
            omega
          | true =>
            refine ⟨_, _, rfl, (show PySem.intText? ⟨#[cB true]⟩ = some 1 by decide +kernel), (by show 1 ≤ 640; decide), ?_⟩
            refine ⟨g, [.str (sb (row.take n)), .str (sb (row.drop n))], 1, .str (sb (row.drop n)), rfl, rfl, .inl (.inl upd_same), rfl, ?_⟩
            refine ⟨row.drop n, _, _, rfl, ?_, he', s3.trans (same_new ng)⟩
            rw [List.length_drop, hrow]
            omega
        · rintro σ H3 ⟨t, y8, y9, rfl, ht, he, s3⟩
          have es : (sb (toB j k)).cps.size = (toB j k).length := sb_len _
          rw [es, List.drop_length] at he
          have he' : goDown rows n (toB n i) (toB j k) = t := he
          have e3 := s3 _ _ e2
          refine ⟨_, rfl, .inl ⟨rfl, _, .inl (.inl e3)⟩, _, rfl, M, _, _, rfl, rfl, e3, ?_, _, _, _, _, rfl, fun b o e => ?_, ?_⟩
          · rw [rowV_len, List.length_map, List.length_range]
            exact Nat.lt_of_lt_of_le (show k < 10000 by omega) (by decide)
          · rw [upd_ne (ne_of_none e nM)]
            exact s3 _ _ (s2 b o e)
          · rw [upd_same, rowV_snoc, he']
      · rintro σ H2 ⟨y6, y7, y8, y9, rfl, s2, e2⟩
        rw [Int.toNat_natCast] at e2
        have e12 := s2 _ _ e1
        refine ⟨_, rfl, .inl ⟨rfl, _, .inl (.inl e12)⟩, _, rfl, M, _, rfl, .inl ⟨.inl (.inl e2), fun t nt => ?_⟩⟩
        have ntL : t ≠ L := (ne_of_none e12 nt).symm
        refine ⟨L, us, _, rfl, rfl, by rw [upd_ne ntL.symm]; exact e12, ?_, _, _, _, _, _, _, rfl, fun b o e => ?_, us ++ [.ref t], upd_same, by rw [List.length_append, hul]; rfl, ?_⟩
        · exact Nat.lt_of_lt_of_le (show us.length < 10000 by omega) (by decide)
        · rw [upd_ne (ne_of_none e nL)]
          exact same_new nt _ _ (s2 _ _ (s1 _ _ e))
        · rw [off_upd1, List.range_succ, List.map_append]
          refine dpAll_snoc (dps_same (off_mono (s2.trans (same_new nt))) _ hA) (.tup (.inl (.inl ?_)) (dp_bits _))
          rw [off_ne ntL, upd_same]
          rfl
    · rintro σ H' ⟨y4, y5, y6, y7, y8, y9, rfl, s1, us, e1, hul, hA⟩
      rw [Int.toNat_natCast, ← hN] at hul hA
      refine ⟨_, rfl, _, rfl, _, rfl, _, rfl, L, _, rfl, .inl ⟨.inl (.inl e1), fun t nt => ⟨(by show 5 ≤ sizeLine; decide), fun g ng => ?_⟩⟩⟩
      have s6 := (same_new (o := .tup us) nt).trans (same_new (o := .tup [.str "function", .int (n : Int), .int (j : Int), .int (n : Int), .ref t]) ng)
      refine q _ _ (s1.trans s6) (fun_dp (n := n) (l := j) (m := n) (t := t) (.inl (.inl upd_same)) ?_)
      have eT : (treeT n j rows).map rowsD = (List.range (2 ^ n)).map fun i => rowsD ((List.range (2 ^ j)).map fun k => goDown rows n (toB n i) (toB j k)) := by
        unfold treeT
        rw [List.map_map]
        rfl
      unfold tabsD
      rw [eT]
      exact .tup (.inl (.inl (by rw [upd_ne (ne_of_none upd_same ng), upd_same]))) (dps_same (fun b o e => s6 _ _ (off_same L H' _ _ e)) _ hA)

end
theorem eq_named {x : Str} {k : PyData} (h : named x k = true) : k = .str x := by
  unfold named at h
  cases k with
  | str z =>
    simp only [PyData.eqv] at h
    rw [eq_of_beq h]
  | _ => simp only [PyData.eqv] at h; cases h
theorem lay_some {X Y : PyData} {b b' : Blk} (h : b.Ok) (e : lay1 (X, Y) b = some b') :
    (X = .str "longer" ∧ ∃ (n j : Nat) (rows : List (List Bool)), b = .gen n (n + 1) rows ∧ Y = .int (j : Int) ∧ Wf n (n + 1) rows ∧ 1 ≤ j ∧ j ≤ 20 ∧ b' = .gen n (n + j) (longR n rows j)) ∨
    (X = .str "tree" ∧ ∃ (n j : Nat) (rows : List (List Bool)), b = .gen n (2 * n) rows ∧ Y = .int (j : Int) ∧ Wf n (2 * n) rows ∧ n ≤ 8 ∧ 1 ≤ j ∧ j ≤ 8 ∧ n + j ≤ 12 ∧ b' = .fn n j n (treeT n j rows)) ∨
    (X = .str "counter" ∧ ∃ (n l m j : Nat) (tabs : List (List (List Bool))), b = .fn n l m tabs ∧ Y = .int (j : Int) ∧ Wff n l m tabs ∧ 1 ≤ j ∧ j ≤ 2 ^ l ∧ j * m ≤ 40 ∧ b' = .gen n (j * m) (cntR j tabs)) ∨
    (X = .str "cut" ∧ ∃ (n m j : Nat) (rows : List (List Bool)), b = .gen n m rows ∧ Y = .int (j : Int) ∧ Wf n m rows ∧ 1 ≤ j ∧ j ≤ m ∧ b' = .gen n j (rows.map fun r => r.take j)) := by
  unfold lay1 at e
  by_cases c1 : named "longer" X = true
  · rw [if_pos c1] at e
    rcases long_cases Y b h with ⟨e2, _⟩ | ⟨n, j, rows, rfl, eY, wf, j1, j2, e2⟩
    · exact absurd (e2.symm.trans e) (by simp)
    · exact .inl ⟨eq_named c1, n, j, rows, rfl, eY, wf, j1, j2, Option.some.inj (e.symm.trans e2)⟩
  rw [if_neg c1] at e
  by_cases c2 : named "tree" X = true
  · rw [if_pos c2] at e
    rcases tree_cases Y b h with ⟨e2, _⟩ | ⟨n, j, rows, rfl, eY, wf, n8, j1, j2, nj, e2⟩
    · exact absurd (e2.symm.trans e) (by simp)
    · exact .inr (.inl ⟨eq_named c2, n, j, rows, rfl, eY, wf, n8, j1, j2, nj, Option.some.inj (e.symm.trans e2)⟩)
  rw [if_neg c2] at e
  by_cases c3 : named "counter" X = true
  · rw [if_pos c3] at e
    rcases cnt_cases Y b h with ⟨e2, _⟩ | ⟨n, l, m, j, tabs, rfl, eY, wf, j1, j2, jm, e2⟩
    · exact absurd (e2.symm.trans e) (by simp)
    · exact .inr (.inr (.inl ⟨eq_named c3, n, l, m, j, tabs, rfl, eY, wf, j1, j2, jm, Option.some.inj (e.symm.trans e2)⟩))
  rw [if_neg c3] at e
  by_cases c4 : named "cut" X = true
  · rw [if_pos c4] at e
    rcases cut_cases Y b h with ⟨e2, _⟩ | ⟨n, m, j, rows, rfl, eY, wf, j1, j2, e2⟩
    · exact absurd (e2.symm.trans e) (by simp)
    · exact .inr (.inr (.inr ⟨eq_named c4, n, m, j, rows, rfl, eY, wf, j1, j2, Option.some.inj (e.symm.trans e2)⟩))
  rw [if_neg c4] at e
  cases e
def spLayer (K : PySem.W.Frag) : Sp := fun vs H Q _ => ∃ (v : V) (b b' : Blk) (z : Str) (k : Int), vs = [.str z, .int k, v] ∧ Dp K H v b.D ∧ b.Ok ∧ lay1 (.str z, .int k) b = some b' ∧ ∀ v' H', Same H H' → Dp K H' v' b'.D → Q v' H'

section
variable {P : Program} {w : World} {K : PySem.W.Frag} {mg : Str → Option Value} {base : Heap} {cs : Cs}
theorem ok_layer {f : Addr} {fd : FuncData} (D : Df K mg "_law_layer" s_law_layer ["name", "number", "table"] f fd) (T : Txt K w mg cs) (c_law_longer : Cl P w K mg base CX0 2 "_law_longer" (spLawLong K)) (c_law_tree : Cl P w K mg base CX0 2 "_law_tree" (spLawTree31 K)) : FnOk P w K mg base CX0 3 f fd ["name", "number", "table"] (spLayer K) := by
  refine D.fn.ok sc_law_layer (fun vs H Q E h => ?_) (fun cdv A outer s H vs Q E hr h => ?_)
  · obtain ⟨v, b, b', z, k, rfl, _⟩ := h
    rfl
  · obtain ⟨v, b, b', z, k, rfl, hd, ok, e, q⟩ := h
    refine ⟨_, (pss_cons (ps_if (pt_cmpR op_eq (pv 0) pe_str (nomark _)) (pss_one (ps_ret (pe_cl c_law_longer hr (by first | decide | omega) (by rfl) (pa_cons (pv 2) (pa_cons (pv 1) pa_nil))))) pss_nil) (pss_cons (ps_if (pt_cmpR op_eq (pv 0) pe_str (nomark _)) (pss_one (ps_ret (pe_cl c_law_tree hr (by first | decide | omega) (by rfl) (pa_cons (pv 2) (pa_cons (pv 1) pa_nil))))) pss_nil) (pss_cons (ps_if (pt_cmpR op_eq (pv 0) pe_str (nomark _)) (pss_cons (ps_if (PW.pt (pw_or (pt_cmpR op_ne (pe_ix (ixT K) (pv 2) pe_int (fun _ _ => rfl)) pe_str (nomark _)) (pw_or (pt_cmpR op_lt (pv 1) pe_int (nomark _)) (pw_or (pt_cmpR op_gt (pv 1) (pe_op op_shl pe_int (pe_ix (ixT K) (pv 2) pe_int (fun _ _ => rfl))) (nomark _)) (pw_or1 (pt_cmpR op_gt (pe_op op_mul (pv 1) (pe_ix (ixT K) (pv 2) pe_int (fun _ _ => rfl))) pe_int (nomark _))))))) (pss_one (ps_ret pe_non)) pss_nil) (pss_cons (ps_set (i := 3) sc_law_layer.nd rfl (.inl rfl) (pe_callTy (tupOf K) (by rfl) T.n_tuple (by decide +kernel) (pa_cons (pe_lc (own := [("row", 4)]) (g := gName 4) (tt := tYes) rfl sc_law_layer.nd (pi_tup (pe_ix (ixT K) (pv 2) pe_int (fun _ _ => rfl))) (blkOk_by (own := [("row", 4)]) (N := ["name", "number", "table", "rows", "row"]) (sc := defScope s_law_layer) (by decide +kernel)) (fun _ _ _ _ _ => (pg_name (i := 4) sc_law_layer.nd rfl (.inl rfl))) (fun _ _ _ _ _ => pts_nil) (fun _ _ _ _ _ => (pe_m1 PySem.F.slot_str_join PySem.F.type_str_join (mtJoin K) pe_str (pe_slice (slTA K) (pv 4) po_none (po_some (pv 1)))))) pa_nil))) (pss_one (ps_ret (pe_tup (pa_cons pe_str (pa_cons (pe_ix (ixT K) (pv 2) pe_int (fun _ _ => rfl)) (pa_cons (pe_op op_mul (pv 1) (pe_ix (ixT K) (pv 2) pe_int (fun _ _ => rfl))) (pa_cons (pv 3) pa_nil))))))))) pss_nil) (pss_cons (ps_if (PW.pt (pw_or (pt_cmpR op_ne (pe_ix (ixT K) (pv 2) pe_int (fun _ _ => rfl)) pe_str (nomark _)) (pw_or (pt_cmpR op_lt (pv 1) pe_int (nomark _)) (pw_or1 (pt_cmpR op_gt (pv 1) (pe_ix (ixT K) (pv 2) pe_int (fun _ _ => rfl)) (nomark _)))))) (pss_one (ps_ret pe_non)) pss_nil) (pss_one (ps_ret (pe_tup (pa_cons pe_str (pa_cons (pe_ix (ixT K) (pv 2) pe_int (fun _ _ => rfl)) (pa_cons (pv 1) (pa_cons (pe_callTy (tupOf K) (by rfl) T.n_tuple (by decide +kernel) (pa_cons (pe_lc (own := [("row", 4)]) (g := gName 4) (tt := tYes) rfl sc_law_layer.nd (pi_tup (pe_ix (ixT K) (pv 2) pe_int (fun _ _ => rfl))) (blkOk_by (own := [("row", 4)]) (N := ["name", "number", "table", "rows", "row"]) (sc := defScope s_law_layer) (by decide +kernel)) (fun _ _ _ _ _ => (pg_name (i := 4) sc_law_layer.nd rfl (.inl rfl))) (fun _ _ _ _ _ => pts_nil) (fun _ _ _ _ _ => (pe_slice sl_str (pv 4) po_none (po_some (pv 1))))) pa_nil)) pa_nil))))))))))), ?_⟩
    rcases lay_some ok e with ⟨ez, n, j, rows, rfl, ek, wf, j1, j2, rfl⟩ | ⟨ez, n, j, rows, rfl, ek, wf, n8, j1, j2, nj, rfl⟩ | ⟨ez, n, l, m, j, tabs, rfl, ek, wf, j1, j2, jm, rfl⟩ | ⟨ez, n, m, j, rows, rfl, ek, wf, j1, j2, rfl⟩
    · cases ez
      cases ek
      refine ⟨_, rfl, rfl, _, rfl, ?_⟩
      rw [decide_eq_true rfl]
      exact ⟨_, rfl, _, rfl, v, n, j, rows, rfl, hd, wf, j1, j2, fun v' H' s d => q v' H' s d⟩
    · cases ez
      cases ek
      refine ⟨_, rfl, rfl, _, rfl, ?_⟩
      refine ⟨_, rfl, rfl, _, rfl, ?_⟩
      exact ⟨_, rfl, _, rfl, v, n, j, rows, rfl, hd, wf, n8, j1, j2, nj, fun v' H' s d => q v' H' s d⟩
    · cases ez
      cases ek
      refine ⟨_, rfl, rfl, _, rfl, ?_⟩
      refine ⟨_, rfl, rfl, _, rfl, ?_⟩
      refine ⟨_, rfl, rfl, _, rfl, ?_⟩
      have hl8 := wf.l2
      have hm40 := wf.m2
      have hp := two_pow_le (b := 8) hl8
      have hj : j ≤ 256 := by omega
      have ejm : (j : Int) * (m : Int) = ((j * m : Nat) : Int) := (Int.natCast_mul j m).symm
      obtain ⟨a, t, rfl, hT, hR⟩ := dp_fun hd
      refine ⟨_, rfl, a, _, 0, _, rfl, rfl, hT, at0, rfl, _, rfl, ?_⟩
      rw [decide_eq_true rfl]
      refine ⟨_, rfl, _, _, rfl, rfl, _, rfl, ?_⟩
      rw [decide_eq_false (show ¬ (j : Int) < 1 by omega)]
      refine ⟨_, rfl, _, rfl, a, _, 2, _, rfl, rfl, hT, rfl, _, _, rfl, rfl, ⟨by omega, by omega, by decide⟩, _, _, rfl, rfl, _, rfl, ?_⟩
      rw [shl_one, decide_eq_false (show ¬ ((2 ^ l : Nat) : Int) < (j : Int) by generalize 2 ^ l = N at *; omega)]
      refine ⟨_, rfl, _, rfl, a, _, 3, _, rfl, rfl, hT, rfl, _, _, rfl, rfl, .inl ⟨by omega, by omega⟩, _, _, rfl, rfl, _, rfl, ?_⟩
      rw [decide_eq_false (show ¬ (40 : Int) < (j : Int) * (m : Int) by rw [ejm]; omega)]
      obtain ⟨us, hU, hul, hat⟩ := tabs_at hR
      have hlen := wf.len
      have hn8 := two_pow_le (b := 8) wf.n2
      refine ⟨_, rfl, a, _, 4, _, rfl, rfl, hT, rfl, t, rfl, ⟨_, hU⟩, fun Dl hD => ?_⟩
      refine lc_tup (xs := us) (fun i H' => Same H H' ∧ H' Dl = some (.lst (rowV (cntR j (tabs.take i))))) ?_ ?_ ?_ ?_
      · exact ⟨same_new hD, upd_same⟩
      · rintro i H' _ ⟨s3, _⟩
        exact same_sqt s3 hU
      · rintro i x H' hx ⟨s3, e3⟩
        have hi : i < tabs.length := by
          have := (List.getElem?_eq_some_iff.mp hx).1
          omega
        obtain ⟨r, hr', hR'⟩ := hat i hi
        have ex : x = .ref r := Option.some.inj (hx.symm.trans hr')
        subst ex
        have hrow := wf.row _ (List.getElem_mem hi)
        refine ⟨rfl, ?_⟩
        refine ⟨⟨_, rfl⟩, _, rfl, _, rfl, _, rfl, sl_any (same_sqt s3 hR') fun p2 H2 s4 t4 => ?_⟩
        rw [cut_rows] at t4
        refine ⟨"", p2, _, rfl, rfl, .inr t4, ?_, _, s4 _ _ e3, ?_, fun b o e => ?_, ?_⟩
        · rw [sum_rows (m := m) fun r hr => hrow.2 r (List.mem_of_mem_take hr), List.length_take]
          have a1 : min j (tabs[i]).length * m ≤ 256 * 40 := Nat.mul_le_mul (by omega) hm40
          show _ + _ * 0 ≤ _
          omega
        · rw [rowV_len]
          unfold cntR
          rw [List.length_map, List.length_take]
          exact Nat.lt_of_lt_of_le (show min i tabs.length < 10000 by omega) (by decide)
        · rw [upd_ne (ne_of_none e hD)]
          exact s4 _ _ (s3 b o e)
        · rw [upd_same, join_sbs, List.take_add_one, List.getElem?_eq_getElem hi]
          unfold cntR rowV
          rw [List.map_append, List.map_append]
          rfl
      · rintro H' ⟨s3, e3⟩
        rw [hul, List.take_length] at e3
        refine ⟨Dl, _, rfl, .inl ⟨.inl (.inl e3), fun u nu => ?_⟩⟩
        have s5 := s3.trans (same_new (o := .tup (rowV (cntR j tabs))) nu)
        refine ⟨_, rfl, a, _, 1, _, rfl, rfl, same_sqt s5 hT, rfl, _, rfl, _, rfl, a, _, 3, _, rfl, rfl, same_sqt s5 hT, rfl, _, _, rfl, rfl, .inl ⟨by omega, by omega⟩, _, rfl, (by show 4 ≤ sizeLine; decide), fun g ng => ?_⟩
        have s4 := s5.trans (same_new (o := .tup [.str "generator", .int (n : Int), .int ((j : Int) * (m : Int)), .ref u]) ng)
        refine q _ _ s4 (tab_dp (n := n) (m := j * m) (r := u) (.inl (.inl (by rw [upd_same]; show some (HO.tup [.str "generator", .int (n : Int), .int ((j : Int) * (m : Int)), .ref u]) = _; rw [ejm]))) (.inl (.inl ?_)))
        rw [upd_ne (ne_of_none upd_same ng), upd_same]
        rfl
    · cases ez
      cases ek
      refine ⟨_, rfl, rfl, _, rfl, ?_⟩
      refine ⟨_, rfl, rfl, _, rfl, ?_⟩
      refine ⟨_, rfl, rfl, _, rfl, ?_⟩
      have hn10 := wf.n2
      have hm40 := wf.m2
      obtain ⟨a, r, rfl, hT, hR⟩ := dp_tab hd
      refine ⟨_, rfl, a, _, 0, _, rfl, rfl, hT, at0, rfl, _, rfl, ?_⟩
      rw [decide_eq_true rfl]
      refine ⟨_, rfl, _, _, rfl, rfl, _, rfl, ?_⟩
      rw [decide_eq_false (show ¬ (j : Int) < 1 by omega)]
      refine ⟨_, rfl, _, rfl, a, _, 2, _, rfl, rfl, hT, rfl, _, _, rfl, rfl, _, rfl, ?_⟩
      rw [decide_eq_false (show ¬ (m : Int) < (j : Int) by omega)]
      refine ⟨_, rfl, a, _, 1, _, rfl, rfl, hT, rfl, _, rfl, _, rfl, a, _, 3, _, rfl, rfl, hT, rfl, r, rfl, ⟨_, hR⟩, fun Dl hD => ?_⟩
      refine lc_tup (xs := rowV rows) (fun i H' => Same H H' ∧ H' Dl = some (.lst (rowV ((rows.take i).map fun r => r.take j)))) ?_ ?_ ?_ ?_
      · exact ⟨same_new hD, upd_same⟩
      · rintro i H' _ ⟨s3, _⟩
        exact same_sqt s3 hR
      · rintro i x H' hx ⟨s3, e3⟩
        have hi : i < rows.length := by
          have := (List.getElem?_eq_some_iff.mp hx).1
          unfold rowV at this
          rw [List.length_map] at this
          exact this
        have ex : x = .str (sb rows[i]) := by
          unfold rowV at hx
          rw [List.getElem?_map, List.getElem?_eq_getElem hi] at hx
          exact (Option.some.inj hx).symm
        subst ex
        have hp := two_pow_le (b := 10) hn10
        have hl := wf.len
        have hrl := wf.row _ (List.getElem_mem hi)
        refine ⟨rfl, ?_⟩
        refine ⟨_, rfl, _, rfl, _, rfl, _, rfl, ?_, _, e3, ?_, fun b o e => ?_, ?_⟩
        · rw [sb_len, sizeLine_eq]
          omega
        · unfold rowV
          rw [List.length_map, List.length_map, List.length_take]
          exact Nat.lt_of_lt_of_le (show min i rows.length < 10000 by omega) (by decide)
        · rw [upd_ne (ne_of_none e hD)]
          exact s3 b o e
        · rw [upd_same, List.take_add_one, List.getElem?_eq_getElem hi, cut_pre]
          unfold rowV
          rw [List.map_append, List.map_append]
          rfl
      · rintro H' ⟨s3, e3⟩
        have el : (rowV rows).length = rows.length := by
          unfold rowV
          rw [List.length_map]
        rw [el, List.take_length] at e3
        refine ⟨Dl, _, rfl, .inl ⟨.inl (.inl e3), fun t nt => ⟨(by show 4 ≤ sizeLine; decide), fun g ng => ?_⟩⟩⟩
        have s4 := s3.trans ((same_new nt).trans (same_new (o := .tup [.str "generator", .int (n : Int), .int (j : Int), .ref t]) ng))
        refine q _ _ s4 (tab_dp (n := n) (m := j) (r := t) (.inl (.inl upd_same)) (.inl (.inl ?_)))
        rw [upd_ne (ne_of_none upd_same ng), upd_same]
        rfl

end
/-! ### the law's blocks and schemes -/
def BlOn (K : PySem.W.Frag) (a : Addr) (H : Hp) (v : V) (b : Blk) : Prop := Dp K (off a H) v b.D ∧ b.Ok
theorem BlOn.keep {K : PySem.W.Frag} {a : Addr} {H H' : Hp} {v : V} {b : Blk} (h : BlOn K a H v b) (k : Keep a H H') : BlOn K a H' v b := ⟨dp_same k.off _ h.1, h.2⟩
def nK : Blk → Nat
  | .gen n _ _ => n
  | .fn n _ _ _ => n
def spLBlock (K : PySem.W.Frag) : Sp := fun vs H Q _ => ∃ a d : Addr, vs = [.ref a] ∧ Hnd H a d ∧ ∀ v b H', BlOn K a H' v b → nK b ≤ 2 → Hnd H' a d → Keep a H H' → Q v H'
def spLStep (K : PySem.W.Frag) : Sp := fun vs H Q _ => ∃ (a d : Addr) (v : V) (b : Blk), vs = [.ref a, v] ∧ Hnd H a d ∧ BlOn K a H v b ∧ nK b ≤ 2 ∧ ∀ p (z : Str) (k : Int) b' H', lay1 (.str z, .int k) b = some b' → SqT K H' p [.str z, .int k] → Hnd H' a d → Keep a H H' → Q (.ref p) H'
theorem can_long {n k : Nat} {rows : List (List Bool)} (h1 : 1 ≤ k) (h2 : k ≤ 20) : lay1 (.str "longer", .int (k : Int)) (.gen n (n + 1) rows) = some (.gen n (n + k) (longR n rows k)) := by
  have hw : whole (.int (k : Int)) 1 20 = true := by
    show (decide _ && decide _) = true
    rw [decide_eq_true (by omega), decide_eq_true (by omega)]
    rfl
  unfold lay1
  rw [if_pos (by rw [named_str]; decide)]
  show (if _ then _ else _) = _
  rw [if_pos ⟨rfl, hw⟩]
  rfl
theorem can_tree {n k : Nat} {rows : List (List Bool)} (h1 : 1 ≤ k) (h2 : k ≤ 8) (n8 : n ≤ 8) (h3 : n + k ≤ 12) : lay1 (.str "tree", .int (k : Int)) (.gen n (2 * n) rows) = some (.fn n k n (treeT n k rows)) := by
  have hw : whole (.int (k : Int)) 1 8 = true := by
    show (decide _ && decide _) = true
    rw [decide_eq_true (by omega), decide_eq_true (by omega)]
    rfl
  unfold lay1
  rw [if_neg (by rw [named_str]; decide), if_pos (by rw [named_str]; decide)]
  show (if _ then _ else _) = _
  rw [if_pos ⟨rfl, n8, hw, h3⟩]
  rfl
theorem can_cnt {n l m k : Nat} {tabs : List (List (List Bool))} (h1 : 1 ≤ k) (h2 : k ≤ 2 ^ l) (h3 : k * m ≤ 40) : lay1 (.str "counter", .int (k : Int)) (.fn n l m tabs) = some (.gen n (k * m) (cntR k tabs)) := by
  have hw : whole (.int (k : Int)) 1 ((2 ^ l : Nat) : Int) = true := by
    show (decide _ && decide _) = true
    rw [decide_eq_true (by omega), decide_eq_true (by exact Int.ofNat_le.mpr h2)]
    rfl
  unfold lay1
  rw [if_neg (by rw [named_str]; decide), if_neg (by rw [named_str]; decide), if_pos (by rw [named_str]; decide)]
  show (if _ then _ else _) = _
  rw [if_pos ⟨hw, h3⟩]
  rfl
theorem can_cut {n m k : Nat} {rows : List (List Bool)} (h1 : 1 ≤ k) (h2 : k ≤ m) : lay1 (.str "cut", .int (k : Int)) (.gen n m rows) = some (.gen n k (rows.map fun r => r.take k)) := by
  have hw : whole (.int (k : Int)) 1 (m : Int) = true := by
    show (decide _ && decide _) = true
    rw [decide_eq_true (by omega), decide_eq_true (by omega)]
    rfl
  unfold lay1
  rw [if_neg (by rw [named_str]; decide), if_neg (by rw [named_str]; decide), if_neg (by rw [named_str]; decide), if_pos (by rw [named_str]; decide)]
  show (if _ then _ else _) = _
  rw [if_pos hw]
  rfl
theorem lay_nK {p : PyData × PyData} {b b' : Blk} (h : b.Ok) (e : lay1 p b = some b') : nK b' = nK b := by
  rcases lay_some (X := p.1) (Y := p.2) h e with ⟨_, n, j, rows, rfl, _, _, _, _, rfl⟩ | ⟨_, n, j, rows, rfl, _, _, _, _, _, _, rfl⟩ | ⟨_, n, l, m, j, tabs, rfl, _, _, _, _, _, rfl⟩ | ⟨_, n, m, j, rows, rfl, _, _, _, _, rfl⟩ <;> rfl
theorem most_is {l m : Nat} (m1 : 1 ≤ m) (m2 : m ≤ 40) : ∃ most : Nat, (if (40 : Int) / (m : Int) < ((2 ^ l : Nat) : Int) then (40 : Int) / (m : Int) else ((2 ^ l : Nat) : Int)) = (most : Int) ∧ 1 ≤ most ∧ most ≤ 2 ^ l ∧ most * m ≤ 40 := by
  have e : (40 : Int) / (m : Int) = ((40 / m : Nat) : Int) := rfl
  have h1 : 1 ≤ 40 / m := Nat.div_pos m2 m1
  have h2 : 40 / m * m ≤ 40 := Nat.div_mul_le_self 40 m
  have h3 : 1 ≤ 2 ^ l := Nat.pos_of_ne_zero (by simp)
  rw [e]
  by_cases c : ((40 / m : Nat) : Int) < ((2 ^ l : Nat) : Int)
  · rw [if_pos c]
    exact ⟨_, rfl, h1, by have := Int.ofNat_lt.mp c; omega, h2⟩
  · rw [if_neg c]
    exact ⟨_, rfl, h3, Nat.le_refl _, Nat.le_trans (Nat.mul_le_mul_right m (Nat.le_of_not_lt fun z => c (Int.ofNat_lt.mpr z))) h2⟩

section
variable {P : Program} {w : World} {K : PySem.W.Frag} {mg : Str → Option Value} {base : Heap} {cs : Cs}
theorem ok_lblock {f : Addr} {fd : FuncData} (D : Df K mg "_law_block" s_law_block ["hand"] f fd) (T : Txt K w mg cs) (c_law_take : Cl P w K mg base CX0 1 "_law_take" spTake) (c_law_table : Cl P w K mg base CX0 3 "_law_table" (spTable K)) (c_law_function : Cl P w K mg base CX0 3 "_law_function" (spFunction K)) : FnOk P w K mg base CX0 4 f fd ["hand"] (spLBlock K) := by
  refine D.fn.ok sc_law_block (fun vs H Q E h => ?_) (fun cdv A outer s H vs Q E hr h => ?_)
  · obtain ⟨a, d, rfl, _⟩ := h
    rfl
  · obtain ⟨a, d, rfl, hh, q⟩ := h
    refine ⟨_, (pss_cons (ps_set (i := 1) sc_law_block.nd rfl (.inl rfl) (pe_cl c_law_take hr (by first | decide | omega) (by rfl) (pa_cons (pv 0) (pa_cons pe_int pa_nil)))) (pss_cons (ps_set (i := 2) sc_law_block.nd rfl (.inl rfl) (pe_op op_add pe_int (pe_cl c_law_take hr (by first | decide | omega) (by rfl) (pa_cons (pv 0) (pa_cons pe_int pa_nil))))) (pss_cons (ps_if (pt_cmpR op_eq (pv 1) pe_int (nomark _)) (pss_one (ps_ret (pe_cl c_law_table hr (by first | decide | omega) (by rfl) (pa_cons (pv 0) (pa_cons (pv 2) (pa_cons (pe_op op_add (pv 2) pe_int) pa_nil)))))) pss_nil) (pss_cons (ps_if (pt_cmpR op_eq (pv 1) pe_int (nomark _)) (pss_one (ps_ret (pe_cl c_law_table hr (by first | decide | omega) (by rfl) (pa_cons (pv 0) (pa_cons (pv 2) (pa_cons (pe_op op_mul pe_int (pv 2)) pa_nil)))))) pss_nil) (pss_cons (ps_if (pt_cmpR op_eq (pv 1) pe_int (nomark _)) (pss_one (ps_ret (pe_cl c_law_table hr (by first | decide | omega) (by rfl) (pa_cons (pv 0) (pa_cons (pv 2) (pa_cons (pe_op op_add pe_int (pe_cl c_law_take hr (by first | decide | omega) (by rfl) (pa_cons (pv 0) (pa_cons pe_int pa_nil)))) pa_nil)))))) pss_nil) (pss_one (ps_ret (pe_cl c_law_function hr (by first | decide | omega) (by rfl) (pa_cons (pv 0) (pa_cons (pv 2) (pa_cons (pe_op op_add pe_int (pe_cl c_law_take hr (by first | decide | omega) (by rfl) (pa_cons (pv 0) (pa_cons pe_int pa_nil)))) (pa_cons (pe_op op_add pe_int (pe_cl c_law_take hr (by first | decide | omega) (by rfl) (pa_cons (pv 0) (pa_cons pe_int pa_nil)))) pa_nil)))))))))))), ?_⟩
    refine ⟨_, rfl, a, d, 5, rfl, by decide, hh, fun r1 H1 l1 u1 n1 k1 => ?_⟩
    refine ⟨_, rfl, a, d, 2, rfl, by decide, n1, fun r2 H2 l2 u2 n2 k2 => ⟨_, _, rfl, rfl, ?_⟩⟩
    obtain ⟨n, en, hn1, hn2⟩ : ∃ n : Nat, (1 : Int) + r2 = (n : Int) ∧ 1 ≤ n ∧ n ≤ 2 := ⟨(1 + r2).toNat, by omega, by omega, by omega⟩
    show gName 2 (V.int (1 + r2)) _ _ _
    rw [en]
    have k12 := k1.trans k2
    have gen : ∀ (m : Nat) v rows H', 1 ≤ m → m ≤ 5 → rows.length = 2 ^ n → (∀ r ∈ rows, r.length = m) → Dp K (off a H') v (tabD n m rows) → Hnd H' a d → Keep a H H' → Q v H' := fun m v rows H' m1 m2 h1 h2 hd hh k => q v (.gen n m rows) H' ⟨hd, ⟨hn1, by omega, m1, by omega, h1, h2⟩⟩ hn2 hh k
    refine ⟨_, rfl, rfl, _, rfl, ?_⟩
    by_cases c0 : r1 = 0
    · rw [decide_eq_true (congrArg V.int c0)]
      refine ⟨_, rfl, _, rfl, _, rfl, _, _, rfl, rfl, a, d, n, n + 1, rfl, by omega, by omega, n2, fun v rows H3 h1 h2 hd n3 k3 => gen (n + 1) v rows H3 (by omega) (by omega) h1 h2 hd n3 (k12.trans k3)⟩
    rw [decide_eq_false (fun z => c0 (V.int.inj z))]
    refine ⟨_, rfl, rfl, _, rfl, ?_⟩
    by_cases c1 : r1 = 1
    · rw [decide_eq_true (congrArg V.int c1)]
      refine ⟨_, rfl, _, rfl, _, rfl, _, _, rfl, rfl, .inl ⟨by decide, by decide⟩, a, d, n, 2 * n, ?_, by omega, by omega, n2, fun v rows H3 h1 h2 hd n3 k3 => gen (2 * n) v rows H3 (by omega) (by omega) h1 h2 hd n3 (k12.trans k3)⟩
      rw [show ((2 * n : Nat) : Int) = 2 * (n : Int) from Int.natCast_mul 2 n]
      rfl
    rw [decide_eq_false (fun z => c1 (V.int.inj z))]
    refine ⟨_, rfl, rfl, _, rfl, ?_⟩
    by_cases c2 : r1 = 2
    · rw [decide_eq_true (congrArg V.int c2)]
      refine ⟨_, rfl, _, rfl, _, rfl, a, d, 4, rfl, by decide, n2, fun r3 H3 l3 u3 n3 k3 => ⟨_, _, rfl, rfl, ?_⟩⟩
      obtain ⟨m, em, m1, m2⟩ : ∃ m : Nat, (1 : Int) + r3 = (m : Int) ∧ 1 ≤ m ∧ m ≤ 4 := ⟨(1 + r3).toNat, by omega, by omega, by omega⟩
      refine ⟨a, d, n, m, ?_, by omega, by omega, n3, fun v rows H4 h1 h2 hd n4 k4 => gen m v rows H4 (by omega) (by omega) h1 h2 hd n4 ((k12.trans k3).trans k4)⟩
      show [V.ref a, V.int (n : Int), V.int (1 + r3)] = _
      rw [em]
    rw [decide_eq_false (fun z => c2 (V.int.inj z))]
    refine ⟨_, rfl, _, rfl, _, rfl, a, d, 2, rfl, by decide, n2, fun r3 H3 l3 u3 n3 k3 => ⟨_, _, rfl, rfl, _, rfl, a, d, 3, rfl, by decide, n3, fun r4 H4 l4 u4 n4 k4 => ⟨_, _, rfl, rfl, ?_⟩⟩⟩
    obtain ⟨l, el, g1, g2⟩ : ∃ m : Nat, (1 : Int) + r3 = (m : Int) ∧ 1 ≤ m ∧ m ≤ 2 := ⟨(1 + r3).toNat, by omega, by omega, by omega⟩
    obtain ⟨m, em, m1, m2⟩ : ∃ m : Nat, (1 : Int) + r4 = (m : Int) ∧ 1 ≤ m ∧ m ≤ 3 := ⟨(1 + r4).toNat, by omega, by omega, by omega⟩
    refine ⟨a, d, n, l, m, ?_, by omega, by omega, by omega, n4, fun v tabs H5 h1 h2 hd n5 k5 => q v (.fn n l m tabs) H5 ⟨hd, ⟨hn1, by omega, g1, by omega, by omega, m1, by omega, h1, h2⟩⟩ hn2 n5 (((k12.trans k3).trans k4).trans k5)⟩
    show [V.ref a, V.int (n : Int), V.int (1 + r3), V.int (1 + r4)] = _
    rw [el, em]
theorem ok_lstep {f : Addr} {fd : FuncData} (D : Df K mg "_law_step" s_law_step ["hand", "table"] f fd) (T : Txt K w mg cs) (c_law_take : Cl P w K mg base CX0 1 "_law_take" spTake) : FnOk P w K mg base CX0 2 f fd ["hand", "table"] (spLStep K) := by
  refine D.fn.ok sc_law_step (fun vs H Q E h => ?_) (fun cdv A outer s H vs Q E hr h => ?_)
  · obtain ⟨a, d, v, b, rfl, _⟩ := h
    rfl
  · obtain ⟨a, d, v, b, rfl, hh, ⟨hb, ok⟩, n2, q⟩ := h
    refine ⟨_, (pss_cons (ps_if (pt_cmpR op_eq (pe_ix (ixT K) (pv 1) pe_int (fun _ _ => rfl)) pe_str (nomark _)) (pss_cons (ps_set (i := 2) sc_law_step.nd rfl (.inl rfl) (pe_callB (call_min2 rfl) (by rfl) T.n_min (by decide +kernel) (pa_cons (pe_op op_shl pe_int (pe_ix (ixT K) (pv 1) pe_int (fun _ _ => rfl))) (pa_cons (pe_op op_fdiv pe_int (pe_ix (ixT K) (pv 1) pe_int (fun _ _ => rfl))) pa_nil)))) (pss_cons (ps_if (PW.pt (pw_and (pt_cmpR op_gt (pe_cl c_law_take hr (by first | decide | omega) (by rfl) (pa_cons (pv 0) (pa_cons pe_int pa_nil))) pe_int (nomark _)) (pw_and1 (pt_cmpR op_gt (pv 2) pe_int (nomark _))))) (pss_one (ps_ret (pe_tup (pa_cons pe_str (pa_cons pe_int pa_nil))))) pss_nil) (pss_one (ps_ret (pe_tup (pa_cons pe_str (pa_cons (pe_op op_add pe_int (pe_cl c_law_take hr (by first | decide | omega) (by rfl) (pa_cons (pv 0) (pa_cons (pv 2) pa_nil)))) pa_nil))))))) pss_nil) (pss_cons (ps_set (i := 3) sc_law_step.nd rfl (.inl rfl) (pe_cl c_law_take hr (by first | decide | omega) (by rfl) (pa_cons (pv 0) (pa_cons pe_int pa_nil)))) (pss_cons (ps_if (PW.pt (pw_and (pt_cmpR op_eq (pe_ix (ixT K) (pv 1) pe_int (fun _ _ => rfl)) (pe_op op_add (pe_ix (ixT K) (pv 1) pe_int (fun _ _ => rfl)) pe_int) (nomark _)) (pw_and1 (pt_cmpR op_lt (pv 3) pe_int (nomark _))))) (pss_one (ps_ret (pe_tup (pa_cons pe_str (pa_cons (pe_ix (ixL K) (pe_lst (pa_cons (pe_ix (ixT K) (pv 1) pe_int (fun _ _ => rfl)) (pa_cons (pe_op op_add pe_int (pe_cl c_law_take hr (by first | decide | omega) (by rfl) (pa_cons (pv 0) (pa_cons pe_int pa_nil)))) pa_nil))) (pe_cl c_law_take hr (by first | decide | omega) (by rfl) (pa_cons (pv 0) (pa_cons pe_int pa_nil))) (fun _ _ => rfl)) pa_nil))))) pss_nil) (pss_cons (ps_if (PW.pt (pw_and (pt_cmpR op_eq (pe_ix (ixT K) (pv 1) pe_int (fun _ _ => rfl)) (pe_op op_mul pe_int (pe_ix (ixT K) (pv 1) pe_int (fun _ _ => rfl))) (nomark _)) (pw_and1 (pt_cmpR op_lt (pv 3) pe_int (nomark _))))) (pss_one (ps_ret (pe_tup (pa_cons pe_str (pa_cons (pe_op op_add pe_int (pe_cl c_law_take hr (by first | decide | omega) (by rfl) (pa_cons (pv 0) (pa_cons pe_int pa_nil)))) pa_nil))))) pss_nil) (pss_one (ps_ret (pe_tup (pa_cons pe_str (pa_cons (pe_op op_add pe_int (pe_cl c_law_take hr (by first | decide | omega) (by rfl) (pa_cons (pv 0) (pa_cons (pe_ix (ixT K) (pv 1) pe_int (fun _ _ => rfl)) pa_nil)))) pa_nil))))))))), ?_⟩
    have put : ∀ (z : Str) (ki : Int) (k : Nat) b' (H1 : Hp) p, ki = (k : Int) → lay1 (.str z, .int (k : Int)) b = some b' → Hnd H1 a d → Keep a H H1 → H1 p = none → Q (.ref p) (upd H1 p (.tup [.str z, .int ki])) := by
      rintro z _ k b' H1 p rfl e n1 k1 np
      exact q p z _ b' _ e (.inl (.inl upd_same)) (n1.new np) (k1.trans (Keep.new np))
    cases b with
    | fn n l m tabs =>
      have wf : Wff n l m tabs := ok
      have hl8 := wf.l2
      have hm40 := wf.m2
      have hm1 := wf.m1
      have hp := two_pow_le (b := 8) hl8
      have hp1 : 1 ≤ 2 ^ l := Nat.pos_of_ne_zero (by simp)
      obtain ⟨c, t, rfl, hT, hR⟩ := dp_fun hb
      have hT := sqt_on hT
      refine ⟨_, rfl, c, _, 0, _, rfl, rfl, hT, at0, rfl, _, rfl, ?_⟩
      rw [decide_eq_true rfl]
      obtain ⟨most, em, h1, h2, h3⟩ := most_is (l := l) hm1 hm40
      refine ⟨_, rfl, c, _, 2, _, rfl, rfl, hT, rfl, _, _, rfl, rfl, ⟨by omega, by omega, by decide⟩, _, rfl, c, _, 3, _, rfl, rfl, hT, rfl, _, _, rfl, rfl, ?_, _, _, rfl, ?_⟩
      · exact ⟨by omega, by omega⟩
      rw [shl_one]
      show gName 2 (V.int (if (40 : Int) / (m : Int) < ((2 ^ l : Nat) : Int) then (40 : Int) / (m : Int) else ((2 ^ l : Nat) : Int))) _ _ _
      rw [em]
      refine ⟨_, rfl, a, d, 3, rfl, by decide, hh, fun r1 H1 l1 u1 n1 k1 => ⟨_, _, rfl, rfl, _, rfl, ?_⟩⟩
      have rest : ∀ D : Ends, D.rt = Q → tRet (tTup (tCons (tC (V.str "counter")) (tCons (tOp (rI0 fun i j => V.int (i + j)) (tC (V.int 1)) (tCall spTake [] E0 (tCons (tVar 0) (tCons (tVar 2) tNil)))) tNil))) D [some (.ref a), some (.ref c), some (.int (most : Int)), none] H1 := by
        rintro D rfl
        refine ⟨_, rfl, _, rfl, a, d, (most : Int), rfl, by omega, n1, fun r2 H2 l2 u2 n2' k2 => ⟨_, _, rfl, rfl, (by show 2 ≤ sizeLine; decide), fun p np => ?_⟩⟩
        obtain ⟨k, ek, k1', k2'⟩ : ∃ k : Nat, (1 : Int) + r2 = (k : Int) ∧ 1 ≤ k ∧ k ≤ most := ⟨(1 + r2).toNat, by omega, by omega, by omega⟩
        exact put "counter" (1 + r2) k _ H2 p ek (can_cnt k1' (by omega) (Nat.le_trans (Nat.mul_le_mul_right m k2') h3)) n2' (k1.trans k2) np
      by_cases c1 : (0 : Int) < r1
      · rw [decide_eq_true c1]
        refine ⟨_, rfl, _, _, rfl, rfl, _, rfl, ?_⟩
        by_cases c2 : (1 : Int) < (most : Int)
        · rw [decide_eq_true c2]
          exact ⟨(by show 2 ≤ sizeLine; decide), fun p np => put "counter" 2 2 _ H1 p rfl (can_cnt (by decide) (by omega) (Nat.le_trans (Nat.mul_le_mul_right m (show 2 ≤ most by omega)) h3)) n1 k1 np⟩
        · rw [decide_eq_false c2]
          exact rest _ rfl
      · rw [decide_eq_false c1]
        exact rest _ rfl
    | gen n m rows =>
      have wf : Wf n m rows := ok
      have hn1 := wf.n1
      have hm1 := wf.m1
      have hm40 := wf.m2
      have n2 : n ≤ 2 := n2
      obtain ⟨c, t, rfl, hT, hR⟩ := dp_tab hb
      have hT := sqt_on hT
      have hTk : ∀ {H1 : Hp}, Keep a H H1 → SqT K H1 c [.str "generator", .int (n : Int), .int (m : Int), .ref t] := fun k => sqt_on (same_sqt k.off (sqt_off hh hT))
      refine ⟨_, rfl, c, _, 0, _, rfl, rfl, hT, at0, rfl, _, rfl, ?_⟩
      refine ⟨_, rfl, a, d, 4, rfl, by decide, hh, fun r1 H1 l1 u1 n1 k1 => ?_⟩
      have hT1 := hTk k1
      let σ1 : L2.St := [some (.ref a), some (.ref c), none, some (.int r1)]
      have cutL : ∀ D : Ends, D.rt = Q → tRet (tTup (tCons (tC (V.str "cut")) (tCons (tOp (rI0 fun i j => V.int (i + j)) (tC (V.int 1)) (tCall spTake [] E0 (tCons (tVar 0) (tCons (tOp (rIxT K) (tVar 1) (tC (V.int 2))) tNil)))) tNil))) D σ1 H1 := by
        rintro D rfl
        refine ⟨_, rfl, _, rfl, c, _, 2, _, rfl, rfl, hT1, rfl, a, d, (m : Int), rfl, by omega, n1, fun r2 H2 l2 u2 n2' k2 => ⟨_, _, rfl, rfl, (by show 2 ≤ sizeLine; decide), fun p np => ?_⟩⟩
        exact put "cut" (1 + r2) (1 + r2).toNat _ H2 p (by omega) (can_cut (by omega) (by omega)) n2' (k1.trans k2) np
      have treeL : ∀ D : Ends, D.rt = Q → tSeq (tIfS (tAnd (tTest (tOp rEq (tOp (rIxT K) (tVar 1) (tC (V.int 2))) (tOp (rI CMul fun i j => V.int (i * j)) (tC (V.int 2)) (tOp (rIxT K) (tVar 1) (tC (V.int 1)))))) (tTest (tOp (rI0 fun i j => V.bl (decide (i < j))) (tVar 3) (tC (V.int 3)))))
          (tRet (tTup (tCons (tC (V.str "tree")) (tCons (tOp (rI0 fun i j => V.int (i + j)) (tC (V.int 1)) (tCall spTake [] E0 (tCons (tVar 0) (tCons (tC (V.int 3)) tNil)))) tNil)))) tNext)
          (tRet (tTup (tCons (tC (V.str "cut")) (tCons (tOp (rI0 fun i j => V.int (i + j)) (tC (V.int 1)) (tCall spTake [] E0 (tCons (tVar 0) (tCons (tOp (rIxT K) (tVar 1) (tC (V.int 2))) tNil)))) tNil)))) D σ1 H1 := by
        intro D hD
        refine ⟨_, rfl, c, _, 2, _, rfl, rfl, hT1, rfl, _, rfl, c, _, 1, _, rfl, rfl, hT1, rfl, _, _, rfl, rfl, .inl ⟨by decide, by decide⟩, rfl, _, rfl, ?_⟩
        by_cases c1 : m = 2 * n
        · subst c1
          rw [decide_eq_true (show V.int ((2 * n : Nat) : Int) = V.int (2 * (n : Int)) from congrArg V.int (by omega))]
          refine ⟨_, rfl, _, _, rfl, rfl, _, rfl, ?_⟩
          by_cases c2 : r1 < 3
          · rw [decide_eq_true c2]
            subst hD
            refine ⟨_, rfl, a, d, 3, rfl, by decide, n1, fun r2 H2 l2 u2 n2' k2 => ⟨_, _, rfl, rfl, (by show 2 ≤ sizeLine; decide), fun p np => ?_⟩⟩
            exact put "tree" (1 + r2) (1 + r2).toNat _ H2 p (by omega) (can_tree (by omega) (by omega) (by omega) (by omega)) n2' (k1.trans k2) np
          · rw [decide_eq_false c2]
            exact cutL _ hD
        · rw [decide_eq_false (show ¬ V.int (m : Int) = V.int (2 * (n : Int)) from fun z => c1 (by have := V.int.inj z; omega))]
          exact cutL _ hD
      refine ⟨_, rfl, c, _, 2, _, rfl, rfl, hT1, rfl, _, rfl, c, _, 1, _, rfl, rfl, hT1, rfl, _, _, rfl, rfl, rfl, _, rfl, ?_⟩
      by_cases c1 : m = n + 1
      · subst c1
        rw [decide_eq_true (show V.int ((n + 1 : Nat) : Int) = V.int ((n : Int) + 1) from congrArg V.int (by omega))]
        refine ⟨_, rfl, _, _, rfl, rfl, _, rfl, ?_⟩
        by_cases c2 : r1 < 2
        · rw [decide_eq_true c2]
          refine ⟨_, rfl, c, _, 1, _, rfl, rfl, hT1, rfl, _, rfl, a, d, 4, rfl, by decide, n1, fun r2 H2 l2 u2 n2' k2 => ⟨_, _, rfl, rfl, (by show 2 ≤ sizeLine; decide), fun L nL => ?_⟩⟩
          refine ⟨_, rfl, a, d, 2, rfl, by decide, n2'.new nL, fun r3 H3 l3 u3 n3' k3 => ?_⟩
          have La := (n2'.ne nL).1
          have eL := k3 _ _ upd_same La
          have k13 := (k1.trans k2).trans ((Keep.new nL).trans k3)
          have er : r3 = 0 ∨ r3 = 1 := by omega
          rcases er with e | e <;> subst e
          · refine ⟨L, _, 0, _, rfl, rfl, .inl (.inl eL), rfl, (by show 2 ≤ sizeLine; decide), fun p np => ?_⟩
            exact put "longer" n n _ H3 p rfl (can_long (by omega) (by omega)) n3' k13 np
          · refine ⟨L, _, 1, _, rfl, rfl, .inl (.inl eL), rfl, (by show 2 ≤ sizeLine; decide), fun p np => ?_⟩
            exact put "longer" (1 + r2) (1 + r2).toNat _ H3 p (by omega) (can_long (by omega) (by omega)) n3' k13 np
        · rw [decide_eq_false c2]
          exact treeL _ rfl
      · rw [decide_eq_false (show ¬ V.int (m : Int) = V.int ((n : Int) + 1) from fun z => c1 (by have := V.int.inj z; omega))]
        exact treeL _ rfl

end
/-! ### all the tables of a scheme -/
inductive Tabs : List (PyData × PyData) → Blk → List Blk → Prop where
  | nil (b : Blk) : Tabs [] b [b]
  | cons {q : PyData × PyData} {ls : List (PyData × PyData)} {b c : Blk} {bs : List Blk} (e : lay1 q b = some c) (h : Tabs ls c bs) : Tabs (q :: ls) b (b :: bs)
theorem tabs_of : ∀ {ls : List (PyData × PyData)} {b t : Blk}, builtL ls b = some t → ∃ bs, Tabs ls b bs ∧ bs.getLast? = some t
  | [], b, t, e => by
    cases e
    exact ⟨[b], .nil b, rfl⟩
  | q :: ls, b, t, e => by
    obtain ⟨c, e1, e2⟩ := Option.bind_eq_some_iff.mp (show (lay1 q b).bind (builtL ls) = some t from e)
    obtain ⟨bs, h, hl⟩ := tabs_of e2
    refine ⟨b :: bs, .cons e1 h, ?_⟩
    cases bs with
    | nil => cases hl
    | cons x xs => exact hl
theorem tabs_len {ls : List (PyData × PyData)} {b : Blk} {bs : List Blk} (h : Tabs ls b bs) : bs.length = ls.length + 1 := by
  induction h with
  | nil => rfl
  | cons _ _ ih => exact congrArg Nat.succ ih
theorem tabs_ok {ls : List (PyData × PyData)} {b : Blk} {bs : List Blk} (h : Tabs ls b bs) (ok : b.Ok) : ∀ c ∈ bs, c.Ok := by
  induction h with
  | nil b =>
    intro c hc
    rw [List.mem_singleton.mp hc]
    exact ok
  | cons e _ ih =>
    intro c hc
    rcases List.mem_cons.mp hc with h | h
    · rw [h]
      exact ok
    · exact ih (lay_ok ok e) c h
theorem tabs_snoc {q : PyData × PyData} {ls : List (PyData × PyData)} {b t c : Blk} {bs : List Blk} (h : Tabs ls b bs) (hl : bs.getLast? = some t) (e : lay1 q t = some c) : Tabs (ls ++ [q]) b (bs ++ [c]) := by
  induction h with
  | nil b =>
    cases hl
    exact .cons e (.nil c)
  | @cons p ls b d bs e1 h ih =>
    refine .cons e1 (ih ?_)
    cases bs with
    | nil => cases h
    | cons x xs => exact hl
theorem tabs_step {ls : List (PyData × PyData)} {b : Blk} {bs : List Blk} (h : Tabs ls b bs) : ∀ {i : Nat} {q : PyData × PyData}, ls[i]? = some q → ∃ c d, bs[i]? = some c ∧ bs[i + 1]? = some d ∧ lay1 q c = some d := by
  induction h with
  | nil b => exact fun {i} {q} e => by cases i <;> cases e
  | @cons p ls b c bs e1 h ih =>
    intro i q e
    cases i with
    | zero =>
      cases e
      cases h with
      | nil => exact ⟨b, c, rfl, rfl, e1⟩
      | cons _ _ => exact ⟨b, c, rfl, rfl, e1⟩
    | succ i =>
      obtain ⟨x, y, h1, h2, h3⟩ := ih (i := i) e
      exact ⟨x, y, h1, h2, h3⟩
def spTablesA (K : PySem.W.Frag) (CS : Addr) : Sp := fun vs H Q E => ∃ (p : Addr) (us : List V) (v : V) (ls : List (PyData × PyData)) (b : Blk) (n : Nat), vs = [.ref p, v] ∧ H p = some (.lst us) ∧ DpAll K H us (ls.map layP) ∧ (∀ q ∈ ls, Gd n q.1) ∧ ls.length ≤ 7 ∧ Dp K H v b.D ∧ b.Ok ∧
  (∀ t L ws bs H', builtL ls b = some t → Same H H' → H' L = some (.lst ws) → Tabs ls b bs → bs.getLast? = some t → DpAll K H' ws (bs.map Blk.D) → Q (.ref L) H') ∧ (∀ H', builtL ls b = none → Same H H' → E (.ref CS) none H')
theorem dps_past {K : PySem.W.Frag} {L : Addr} {H : Hp} {ys : List V} (e : H L = some (.lst ys)) {vs : List V} {bs : List Blk} (ok : ∀ c ∈ bs, c.Ok) (h : DpAll K H vs (bs.map Blk.D)) : DpAll K (off L H) vs (bs.map Blk.D) :=
  dps_offL e _ (fun x hx => by
    obtain ⟨c, hc, rfl⟩ := List.mem_map.mp hx
    exact ⟨3, blk_pl (ok c hc)⟩) h

section
variable {P : Program} {w : World} {K : PySem.W.Frag} {mg : Str → Option Value} {base : Heap} {cs : Cs}
theorem ok_tablesA {f : Addr} {fd : FuncData} (D : Df K mg "tables_of" s_tables_of ["layers", "block"] f fd) (T : Txt K w mg cs) (c_with_layer : Cl P w K mg base (L2.CX P w) 6 "with_layer" (spWith K cs.BadScheme)) : FnOk P w K mg base (L2.CX P w) 7 f fd ["layers", "block"] (spTablesA K cs.BadScheme) := by
  refine D.fn.okX sc_tables_of (fun vs H Q E h => ?_) (fun cdv A outer s H vs Q E hr h => ?_)
  · obtain ⟨p, us, v, ls, b, n, rfl, _⟩ := h
    rfl
  · obtain ⟨p, us, v, ls, b, n, rfl, hp, hA, hg, hl, hd, ok, q1, q0⟩ := h
    have tk := takes_of (X := cxOf (L2.CX P w) P w K mg base ["layers", "block", "tables", "name", "number"] "tables_of" (defScope s_tables_of) f cdv A outer s H E) (E := E) rfl rfl rfl rfl
    refine ⟨_, (pss_cons (ps_set (i := 2) sc_tables_of.nd rfl (.inl rfl) (pe_lst (pa_cons (pv 1) pa_nil))) (pss_cons (ps_for (passes_of rfl) rfl (pi_list (pv 0)) (pg_tup (by rfl) (pgs_cons (pg_name (i := 3) sc_tables_of.nd rfl (.inl rfl)) (pgs_cons (pg_name (i := 4) sc_tables_of.nd rfl (.inl rfl)) pgs_nil))) (pss_one (ps_expr (pe_bm PySem.F.plainAttrs_list PySem.F.slot_list_append PySem.F.type_list_append mt_append (pv 2) (pa_cons (pe_clX c_with_layer hr (by first | decide | omega) (by rfl) tk (pa_cons (pv 3) (pa_cons (pv 4) (pa_cons (pe_ix (ixL K) (pv 2) (pe_un un_neg pe_int) (fun _ _ => rfl)) pa_nil)))) pa_nil))))) (pss_one (ps_ret (pv 2))))), ?_⟩
    refine ⟨_, rfl, (by show 1 ≤ sizeLine; decide), fun L nL => ?_⟩
    have Lp : p ≠ L := fun z => by
      rw [z, nL] at hp
      cases hp
    have hul := dp_all_len hA
    rw [List.length_map] at hul
    refine ⟨_, rfl, p, rfl, ⟨us, .inl (.inl (by rw [upd_ne Lp]; exact hp))⟩, for_list (xs := us) (fun i σ H' => ∃ (bs : List Blk) (c : Blk) (ws : List V) (y3 y4 : Option V), σ = [some (.ref p), some v, some (.ref L), y3, y4] ∧ Tabs (ls.take i) b bs ∧ bs.getLast? = some c ∧ builtL ls b = builtL (ls.drop i) c ∧ Same H H' ∧ H' L = some (.lst ws) ∧ DpAll K H' ws (bs.map Blk.D)) ?_ ?_ ?_ ?_⟩
    · exact ⟨[b], b, [v], none, none, rfl, .nil b, rfl, rfl, same_new nL, upd_same, .cons (dp_same (same_new nL) _ hd) .nil⟩
    · rintro i σ H' _ ⟨bs, c, ws, y3, y4, rfl, tb, hlast, hb, s1, eL, hv⟩
      exact .inl (.inl (s1 _ _ hp))
    · rintro i x σ H' hx ⟨bs, c, ws, y3, y4, rfl, tb, hlast, hb, s1, eL, hv⟩
      obtain ⟨d, hd1, hd2⟩ := dp_all_get hA hx
      rw [List.getElem?_map] at hd1
      obtain ⟨q, hq, rfl⟩ := Option.map_eq_some_iff.mp hd1
      obtain ⟨a2, us2, rfl, hT, hQ⟩ : ∃ a us, x = .ref a ∧ SqT K H a us ∧ DpAll K H us [q.1, q.2] := by
        cases hd2 with
        | tup hT hA => exact ⟨_, _, rfl, hT, hA⟩
      obtain ⟨x0, k0, rfl, hx0, hk0⟩ : ∃ x0 k0, us2 = [x0, k0] ∧ Dp K H x0 q.1 ∧ Dp K H k0 q.2 := by
        cases hQ with
        | cons h0 h =>
          cases h with
          | cons h1 h =>
            cases h
            exact ⟨_, _, rfl, h0, h1⟩
      have hi := (List.getElem?_eq_some_iff.mp hx).1
      obtain ⟨hi2, e2⟩ := List.getElem?_eq_some_iff.mp hq
      have edr : ls.drop i = q :: ls.drop (i + 1) := by rw [List.drop_eq_getElem_cons hi2, e2]
      have etk : ls.take (i + 1) = ls.take i ++ [q] := by rw [List.take_add_one, hq]; rfl
      rw [edr] at hb
      have oks := tabs_ok tb ok
      have hc : c.Ok := oks c (List.mem_of_getLast? hlast)
      have hwl := dp_all_len hv
      rw [List.length_map, tabs_len tb, List.length_take] at hwl
      obtain ⟨ws0, vc, rfl, hvc⟩ : ∃ ws0 vc, ws = ws0 ++ [vc] ∧ Dp K H' vc c.D := by
        obtain ⟨bs0, rfl⟩ := List.getLast?_eq_some_iff.mp hlast
        have hne : ws ≠ [] := fun z => by
          rw [z] at hwl
          cases hwl
        have ew := List.dropLast_concat_getLast hne
        refine ⟨ws.dropLast, ws.getLast hne, ew.symm, ?_⟩
        have hi3 : ws[bs0.length]? = some (ws.getLast hne) := by
          have hl3 : ws.length = bs0.length + 1 := by
            have := dp_all_len hv
            rw [List.length_map, List.length_append] at this
            exact this
          rw [List.getLast_eq_getElem, List.getElem?_eq_getElem (by omega)]
          congr 1
          simp only [hl3, Nat.add_sub_cancel]
        obtain ⟨dd, h1, h2⟩ := dp_all_get hv hi3
        rw [List.map_append, List.getElem?_append_right (by rw [List.length_map]; exact Nat.le_refl _), List.length_map, Nat.sub_self] at h1
        cases h1
        exact h2
      refine ⟨a2, _, rfl, same_sqt s1 hT, rfl, _, _, rfl, _, _, rfl, rfl, ?_⟩
      refine ⟨_, rfl, .inl ⟨rfl, _, .inl (.inl eL)⟩, _, rfl, _, rfl, _, rfl, 1, rfl, L, _, -1, vc, rfl, rfl, .inl (.inl eL), atI_last _ _, ?_⟩
      refine ⟨x0, k0, vc, q, c, n, rfl, dp_same s1 _ hx0, hg q (List.mem_of_getElem? hq), dp_same s1 _ hk0, hvc, hc, fun c' v' H2 e s2 d2 => ?_, fun H2 e s2 => q0 H2 (hb.trans (by show (lay1 q c).bind _ = none; rw [e]; rfl)) (s1.trans s2)⟩
      have hc' := lay_ok hc e
      have eL2 := s2 _ _ eL
      have tb2 : Tabs (ls.take (i + 1)) b (bs ++ [c']) := by
        rw [etk]
        exact tabs_snoc tb hlast e
      refine ⟨L, _, _, rfl, rfl, eL2, by rw [hwl, sizeLine_eq]; omega, ?_⟩
      refine ⟨bs ++ [c'], c', _, _, _, rfl, tb2, List.getLast?_concat, hb.trans (by show (lay1 q c).bind _ = _; rw [e]; rfl), set_same (s1.trans s2) nL, upd_same, ?_⟩
      have h1 := dps_past eL2 (tabs_ok tb2 ok) (vs := (ws0 ++ [vc]) ++ [v']) (by
        rw [List.map_append]
        exact dps_app (dps_same s2 _ hv) (.cons d2 .nil))
      rw [← off_upd1 (o := .lst ((ws0 ++ [vc]) ++ [v']))] at h1
      exact dps_same (off_same L _) _ h1
    · rintro σ H' ⟨bs, c, ws, y3, y4, rfl, tb, hlast, hb, s1, eL, hv⟩
      rw [hul, List.drop_length] at hb
      rw [hul, List.take_length] at tb
      exact ⟨_, rfl, q1 c L ws bs H' hb s1 eL tb hlast hv⟩

end
/-! ### breakers led down -/
def thirdB : Blk → Nat
  | .gen _ _ _ => 0
  | .fn _ _ m _ => m
def ledW (z : Str) (y D : PyData) (t : Blk) : PyData × Int :=
  if z = "tell" then (D, 1) else if z = "marks" then (.tuple [.str "marks", .int (wideB t : Int), .int (thirdB t : Int), D], 1) else if z = "secrets" then (.tuple [.str "secrets", .int (wideB t : Int), .int (thirdB t : Int), D], 2) else
  if z = "once" then (.tuple [.str "once", .int (wideB t : Int), D], 2) else if z = "opening" then (.tuple [.str "opening", y, D], 2) else (.tuple [.str "guess", .int (wideB t : Int), D], 1)
def qOf (D : PyData) : Int := if progM 20 D > 1 then progM 20 D else 1
def qSum (q : Int) (j : Nat) : Int := ((List.range j).map fun i => if q < ((2 ^ i : Nat) : Int) then q else ((2 ^ i : Nat) : Int)).sum
def ledD (z : Str) (j : Nat) (b : Blk) (D : PyData) : PyData × Int :=
  if z = "longer" then (.tuple [.str "longer", b.D, .int (j : Int), D], (j : Int)) else if z = "tree" then (.tuple [.str "tree", b.D, .int (j : Int), .int (qOf D), D], qSum (qOf D) j) else
  if z = "counter" then (.tuple [.str "counter", .int (wideB b : Int), .int (j : Int), .int (thirdB b : Int), D], 1) else (.tuple [.str "cut", .int (j : Int), D], 1)
/-- a goal as data, and what it is over -/
inductive GoalIs : PyData → Str → PyData → PyData → Prop where
  | two (z : Str) (S : PyData) (h : z ≠ "opening") : GoalIs (.tuple [.str z, S]) z .none S
  | open (y S : PyData) : GoalIs (.tuple [.str "opening", y, S]) "opening" y S
def spLedW (K : PySem.W.Frag) : Sp := fun vs H Q _ => ∃ (gv wv dv : V) (g y S D : PyData) (z : Str) (t : Blk), vs = [gv, wv, dv] ∧ Dp K H gv g ∧ GoalIs g z y S ∧ z ∈ aboK ∧ Dp K H wv t.D ∧ Dp K H dv D ∧ (z = "marks" ∨ z = "secrets" → ∃ n l m tabs, t = .fn n l m tabs) ∧
  ∀ p v H', Same H H' → Dp K H' v (ledW z y D t).1 → SqT K H' p [v, .int (ledW z y D t).2] → Q (.ref p) H'
def spLedD (K : PySem.W.Frag) : Sp := fun vs H Q _ => ∃ (tv dv : V) (z : Str) (j : Nat) (b c : Blk) (D : PyData) (n : Nat), vs = [.str z, .int (j : Int), tv, dv] ∧ Dp K H tv b.D ∧ b.Ok ∧ lay1 (.str z, .int (j : Int)) b = some c ∧ Dp K H dv D ∧ Gd n D ∧ brOk D = true ∧ progM 20 D ≤ 1000000 ∧
  ∀ p v H', Same H H' → Dp K H' v (ledD z j b D).1 → SqT K H' p [v, .int (ledD z j b D).2] → Q (.ref p) H'
theorem tup_new {K : PySem.W.Frag} {H H' : Hp} {p : Addr} {vs : List V} {ds : List PyData} (s : Same H H') (np : H' p = none) (h : DpAll K H vs ds) : Dp K (upd H' p (.tup vs)) (.ref p) (.tuple ds) :=
  .tup (.inl (.inl upd_same)) (dps_same (s.trans (same_new np)) _ h)
theorem ledW_tell {y D : PyData} {t : Blk} : ledW "tell" y D t = (D, 1) := if_pos rfl
theorem ledW_marks {y D : PyData} {t : Blk} : ledW "marks" y D t = (.tuple [.str "marks", .int (wideB t : Int), .int (thirdB t : Int), D], 1) := by
  unfold ledW
  rw [if_neg (by decide +kernel), if_pos rfl]
theorem ledW_secrets {y D : PyData} {t : Blk} : ledW "secrets" y D t = (.tuple [.str "secrets", .int (wideB t : Int), .int (thirdB t : Int), D], 2) := by
  unfold ledW
  rw [if_neg (by decide +kernel), if_neg (by decide +kernel), if_pos rfl]
theorem ledW_once {y D : PyData} {t : Blk} : ledW "once" y D t = (.tuple [.str "once", .int (wideB t : Int), D], 2) := by
  unfold ledW
  rw [if_neg (by decide +kernel), if_neg (by decide +kernel), if_neg (by decide +kernel), if_pos rfl]
theorem ledW_open {y D : PyData} {t : Blk} : ledW "opening" y D t = (.tuple [.str "opening", y, D], 2) := by
  unfold ledW
  rw [if_neg (by decide +kernel), if_neg (by decide +kernel), if_neg (by decide +kernel), if_neg (by decide +kernel), if_pos rfl]
theorem ledW_else {z : Str} {y D : PyData} {t : Blk} (h1 : z ≠ "tell") (h2 : z ≠ "marks") (h3 : z ≠ "secrets") (h4 : z ≠ "once") (h5 : z ≠ "opening") : ledW z y D t = (.tuple [.str "guess", .int (wideB t : Int), D], 1) := by
  unfold ledW
  rw [if_neg h1, if_neg h2, if_neg h3, if_neg h4, if_neg h5]
theorem ledD_longer {j : Nat} {b : Blk} {D : PyData} : ledD "longer" j b D = (.tuple [.str "longer", b.D, .int (j : Int), D], (j : Int)) := if_pos rfl
theorem ledD_tree {j : Nat} {b : Blk} {D : PyData} : ledD "tree" j b D = (.tuple [.str "tree", b.D, .int (j : Int), .int (qOf D), D], qSum (qOf D) j) := by
  unfold ledD
  rw [if_neg (by decide +kernel), if_pos rfl]
theorem ledD_cnt {j : Nat} {b : Blk} {D : PyData} : ledD "counter" j b D = (.tuple [.str "counter", .int (wideB b : Int), .int (j : Int), .int (thirdB b : Int), D], 1) := by
  unfold ledD
  rw [if_neg (by decide +kernel), if_neg (by decide +kernel), if_pos rfl]
theorem ledD_cut {j : Nat} {b : Blk} {D : PyData} : ledD "cut" j b D = (.tuple [.str "cut", .int (j : Int), D], 1) := by
  unfold ledD
  rw [if_neg (by decide +kernel), if_neg (by decide +kernel), if_neg (by decide +kernel)]

section
variable {P : Program} {w : World} {K : PySem.W.Frag} {mg : Str → Option Value} {base : Heap} {cs : Cs}
theorem ok_ledW {f : Addr} {fd : FuncData} (D : Df K mg "led_to_whole" s_led_to_whole ["goal", "whole", "breaker"] f fd) (T : Txt K w mg cs) : FnOk P w K mg base CX0 1 f fd ["goal", "whole", "breaker"] (spLedW K) := by
  refine D.fn.ok sc_led_to_whole (fun vs H Q E h => ?_) (fun cdv A outer s H vs Q E hr h => ?_)
  · obtain ⟨gv, wv, dv, g, y, S, D, z, t, rfl, _⟩ := h
    rfl
  · obtain ⟨gv, wv, dv, g, y, S, D0, z, t, rfl, hg, gi, hz, hw, hd, kd, q⟩ := h
    refine ⟨_, (pss_cons (ps_set (i := 3) sc_led_to_whole.nd rfl (.inl rfl) (pe_ix (ixT K) (pv 0) pe_int (fun _ _ => rfl))) (pss_cons (ps_if (pt_cmpR op_eq (pv 3) pe_str (nomark _)) (pss_one (ps_ret (pe_tup (pa_cons (pv 2) (pa_cons pe_int pa_nil))))) pss_nil) (pss_cons (ps_if (pt_cmpR op_in_seq (pv 3) (pe_tup (pa_cons pe_str (pa_cons pe_str pa_nil))) (by rfl)) (pss_cons (ps_asg (pe_slice (slTA K) (pv 1) (po_some pe_int) (po_some pe_int)) (pg_tup (by rfl) (pgs_cons (pg_name (i := 4) sc_led_to_whole.nd rfl (.inl rfl)) (pgs_cons (pg_name (i := 5) sc_led_to_whole.nd rfl (.inl rfl)) pgs_nil)))) (pss_cons (ps_set (i := 6) sc_led_to_whole.nd rfl (.inl rfl) (pe_ifExp (pt_cmpR op_eq (pv 3) pe_str (nomark _)) pe_int pe_int)) (pss_one (ps_ret (pe_tup (pa_cons (pe_tup (pa_cons (pv 3) (pa_cons (pv 4) (pa_cons (pv 5) (pa_cons (pv 2) pa_nil))))) (pa_cons (pv 6) pa_nil))))))) pss_nil) (pss_cons (ps_if (pt_cmpR op_eq (pv 3) pe_str (nomark _)) (pss_one (ps_ret (pe_tup (pa_cons (pe_tup (pa_cons (pv 3) (pa_cons (pe_ix (ixT K) (pv 1) pe_int (fun _ _ => rfl)) (pa_cons (pv 2) pa_nil)))) (pa_cons pe_int pa_nil))))) pss_nil) (pss_cons (ps_if (pt_cmpR op_eq (pv 3) pe_str (nomark _)) (pss_one (ps_ret (pe_tup (pa_cons (pe_tup (pa_cons (pv 3) (pa_cons (pe_ix (ixT K) (pv 0) pe_int (fun _ _ => rfl)) (pa_cons (pv 2) pa_nil)))) (pa_cons pe_int pa_nil))))) pss_nil) (pss_one (ps_ret (pe_tup (pa_cons (pe_tup (pa_cons pe_str (pa_cons (pe_ix (ixT K) (pv 1) pe_int (fun _ _ => rfl)) (pa_cons (pv 2) pa_nil)))) (pa_cons pe_int pa_nil)))))))))), ?_⟩
    obtain ⟨ga, gu, rfl, gT, g0, g1⟩ : ∃ ga gu, gv = .ref ga ∧ SqT K H ga gu ∧ gu[0]? = some (.str z) ∧ (z = "opening" → ∃ yv, gu[1]? = some yv ∧ Dp K H yv y) := by
      cases gi with
      | two z S h =>
        cases hg with
        | tup hT hA =>
          cases hA with
          | cons h0 _ =>
            cases h0
            exact ⟨_, _, rfl, hT, rfl, fun e => absurd e h⟩
      | «open» y S =>
        cases hg with
        | tup hT hA =>
          cases hA with
          | cons h0 hA =>
            cases h0
            cases hA with
            | cons h1 _ => exact ⟨_, _, rfl, hT, rfl, fun _ => ⟨_, rfl, h1⟩⟩
    obtain ⟨wa, wu, rfl, wT, w0, w2⟩ := blk_parts hw
    refine ⟨_, rfl, ga, _, 0, _, rfl, rfl, gT, atI_nat (j := 0) g0, ?_⟩
    refine ⟨_, rfl, rfl, _, rfl, ?_⟩
    by_cases c1 : z = "tell"
    · subst c1
      rw [decide_eq_true rfl]
      exact ⟨_, rfl, (by show 2 ≤ sizeLine; decide), fun p np => q p dv _ (same_new np) (dp_same (same_new np) _ hd) (.inl (.inl upd_same))⟩
    rw [decide_eq_false (fun e => c1 (V.str.inj e))]
    refine ⟨_, rfl, (by show 2 ≤ sizeLine; decide), fun p1 np1 => ?_⟩
    have s1 := same_new (o := .tup [.str "marks", .str "secrets"]) np1
    refine ⟨p1, _, rfl, .inr (.inl (.inl upd_same)), rfl, rfl, _, rfl, ?_⟩
    rw [inV_two]
    generalize upd H p1 (.tup [.str "marks", .str "secrets"]) = H1 at *
    have hd1 := dp_same s1 _ hd
    have wT1 := same_sqt s1 wT
    cases c2 : (decide (z = "marks") || decide (z = "secrets")) with
    | true =>
      have c2' : z = "marks" ∨ z = "secrets" := by simpa using c2
      obtain ⟨n, l, m, tabs, rfl⟩ := kd c2'
      obtain ⟨c, r, e, hT, hR⟩ := dp_fun hw
      cases e
      refine ⟨_, rfl, _, rfl, _, rfl, sl_any (same_sqt s1 hT) fun p2 H2 s2 t2 => ?_⟩
      have t2' : SqT K H2 p2 [.int (l : Int), .int (m : Int)] := t2
      refine ⟨p2, _, rfl, t2', rfl, _, _, rfl, _, _, rfl, rfl, ?_⟩
      have s12 := s1.trans s2
      rcases c2' with e | e
      · subst e
        refine ⟨_, rfl, rfl, _, rfl, ?_⟩
        rw [decide_eq_true rfl]
        refine ⟨_, rfl, _, rfl, _, rfl, _, rfl, (by show 4 ≤ sizeLine; decide), fun p3 np3 => ⟨_, rfl, (by show 2 ≤ sizeLine; decide), fun p4 np4 => ?_⟩⟩
        refine q p4 (.ref p3) _ ((s12.trans (same_new np3)).trans (same_new np4)) ?_ ?_
        · rw [ledW_marks]
          exact dp_same (same_new np4) _ (tup_new s12 np3 (.cons (.str _) (.cons (.int _) (.cons (.int _) (.cons hd .nil)))))
        · rw [ledW_marks]
          exact .inl (.inl upd_same)
      · subst e
        refine ⟨_, rfl, rfl, _, rfl, ?_⟩
        refine ⟨_, rfl, _, rfl, _, rfl, _, rfl, (by show 4 ≤ sizeLine; decide), fun p3 np3 => ⟨_, rfl, (by show 2 ≤ sizeLine; decide), fun p4 np4 => ?_⟩⟩
        refine q p4 (.ref p3) _ ((s12.trans (same_new np3)).trans (same_new np4)) ?_ ?_
        · rw [ledW_secrets]
          exact dp_same (same_new np4) _ (tup_new s12 np3 (.cons (.str _) (.cons (.int _) (.cons (.int _) (.cons hd .nil)))))
        · rw [ledW_secrets]
          exact .inl (.inl upd_same)
    | false =>
      have h2 : z ≠ "marks" := fun e => by rw [decide_eq_true e] at c2; cases c2
      have h3 : z ≠ "secrets" := fun e => by rw [decide_eq_true e, Bool.or_true] at c2; cases c2
      refine ⟨_, rfl, rfl, _, rfl, ?_⟩
      by_cases c4 : z = "once"
      · subst c4
        rw [decide_eq_true rfl]
        refine ⟨_, rfl, _, rfl, wa, _, 2, _, rfl, rfl, wT1, atI_nat (j := 2) w2, _, rfl, (by show 3 ≤ sizeLine; decide), fun p3 np3 => ⟨(by show 2 ≤ sizeLine; decide), fun p4 np4 => ?_⟩⟩
        refine q p4 (.ref p3) _ ((s1.trans (same_new np3)).trans (same_new np4)) ?_ ?_
        · rw [ledW_once]
          exact dp_same (same_new np4) _ (tup_new s1 np3 (.cons (.str _) (.cons (.int _) (.cons hd .nil))))
        · rw [ledW_once]
          exact .inl (.inl upd_same)
      rw [decide_eq_false (fun e => c4 (V.str.inj e))]
      refine ⟨_, rfl, rfl, _, rfl, ?_⟩
      by_cases c5 : z = "opening"
      · subst c5
        rw [decide_eq_true rfl]
        obtain ⟨yv, ey, hy⟩ := g1 rfl
        refine ⟨_, rfl, _, rfl, ga, _, 1, _, rfl, rfl, same_sqt s1 gT, atI_nat (j := 1) ey, _, rfl, (by show 3 ≤ sizeLine; decide), fun p3 np3 => ⟨(by show 2 ≤ sizeLine; decide), fun p4 np4 => ?_⟩⟩
        refine q p4 (.ref p3) _ ((s1.trans (same_new np3)).trans (same_new np4)) ?_ ?_
        · rw [ledW_open]
          exact dp_same (same_new np4) _ (tup_new s1 np3 (.cons (.str _) (.cons hy (.cons hd .nil))))
        · rw [ledW_open]
          exact .inl (.inl upd_same)
      rw [decide_eq_false (fun e => c5 (V.str.inj e))]
      refine ⟨_, rfl, wa, _, 2, _, rfl, rfl, wT1, atI_nat (j := 2) w2, _, rfl, (by show 3 ≤ sizeLine; decide), fun p3 np3 => ⟨(by show 2 ≤ sizeLine; decide), fun p4 np4 => ?_⟩⟩
      refine q p4 (.ref p3) _ ((s1.trans (same_new np3)).trans (same_new np4)) ?_ ?_
      · rw [ledW_else c1 h2 h3 c4 c5]
        exact dp_same (same_new np4) _ (tup_new s1 np3 (.cons (.str _) (.cons (.int _) (.cons hd .nil))))
      · rw [ledW_else c1 h2 h3 c4 c5]
        exact .inl (.inl upd_same)
theorem ok_ledD {f : Addr} {fd : FuncData} (D : Df K mg "led_down" s_led_down ["name", "number", "table", "breaker"] f fd) (T : Txt K w mg cs) (c_most_asks : Cl P w K mg base (L2.CX P w) 7 "most_asks" (spMA K cs.BadBreaker)) : FnOk P w K mg base (L2.CX P w) 8 f fd ["name", "number", "table", "breaker"] (spLedD K) := by
  refine D.fn.okX sc_led_down (fun vs H Q E h => ?_) (fun cdv A outer s H vs Q E hr h => ?_)
  · obtain ⟨tv, dv, z, j, b, c, D, n, rfl, _⟩ := h
    rfl
  · obtain ⟨tv, dv, z, j, b, c, D0, n, rfl, ht, ok, lay, hd, gd, br, pm, q⟩ := h
    have tk := takes_of (X := cxOf (L2.CX P w) P w K mg base ["name", "number", "table", "breaker", "q", "l", "m", "j"] "led_down" (defScope s_led_down) f cdv A outer s H E) (E := E) rfl rfl rfl rfl
    refine ⟨_, (pss_cons (ps_if (pt_cmpR op_eq (pv 0) pe_str (nomark _)) (pss_one (ps_ret (pe_tup (pa_cons (pe_tup (pa_cons (pv 0) (pa_cons (pv 2) (pa_cons (pv 1) (pa_cons (pv 3) pa_nil))))) (pa_cons (pv 1) pa_nil))))) pss_nil) (pss_cons (ps_if (pt_cmpR op_eq (pv 0) pe_str (nomark _)) (pss_cons (ps_set (i := 4) sc_led_down.nd rfl (.inr rfl) (pe_callB (call_max2 rfl) (by rfl) T.n_max (by decide +kernel) (pa_cons pe_int (pa_cons (pe_clX c_most_asks hr (by first | decide | omega) (by rfl) tk (pa_cons (pv 3) pa_nil)) pa_nil)))) (pss_one (ps_ret (pe_tup (pa_cons (pe_tup (pa_cons (pv 0) (pa_cons (pv 2) (pa_cons (pv 1) (pa_cons (pv 4) (pa_cons (pv 3) pa_nil)))))) (pa_cons (pe_callB (crSum K rfl) (by rfl) T.n_sum (by decide +kernel) (pa_cons (pe_lc (own := [("j", 7)]) (g := gName 7) (tt := tYes) rfl sc_led_down.nd (pi_range1 (by rfl) T.n_range (pa_cons (pv 1) pa_nil)) (blkOk_by (own := [("j", 7)]) (N := ["name", "number", "table", "breaker", "q", "l", "m", "j"]) (sc := defScope s_led_down) (by decide +kernel)) (fun _ _ _ _ _ => (pg_name (i := 7) sc_led_down.nd rfl (.inl rfl))) (fun _ _ _ _ _ => pts_nil) (fun _ _ _ _ _ => (pe_callB (call_min2 rfl) (by rfl) T.n_min (by decide +kernel) (pa_cons (pe_op op_shl pe_int (pv 7)) (pa_cons (pv 4) pa_nil))))) pa_nil)) pa_nil)))))) pss_nil) (pss_cons (ps_if (pt_cmpR op_eq (pv 0) pe_str (nomark _)) (pss_cons (ps_asg (pe_slice (slTA K) (pv 2) (po_some pe_int) (po_some pe_int)) (pg_tup (by rfl) (pgs_cons (pg_name (i := 5) sc_led_down.nd rfl (.inl rfl)) (pgs_cons (pg_name (i := 6) sc_led_down.nd rfl (.inl rfl)) pgs_nil)))) (pss_one (ps_ret (pe_tup (pa_cons (pe_tup (pa_cons (pv 0) (pa_cons (pv 5) (pa_cons (pv 1) (pa_cons (pv 6) (pa_cons (pv 3) pa_nil)))))) (pa_cons pe_int pa_nil)))))) pss_nil) (pss_one (ps_ret (pe_tup (pa_cons (pe_tup (pa_cons (pv 0) (pa_cons (pv 1) (pa_cons (pv 3) pa_nil)))) (pa_cons pe_int pa_nil)))))))), ?_⟩
    refine ⟨_, rfl, rfl, _, rfl, ?_⟩
    rcases lay_some ok lay with ⟨ez, n1, j1, rows, rfl, ej, wf, j2, j3, _⟩ | ⟨ez, n1, j1, rows, rfl, ej, wf, n8, j2, j3, nj, _⟩ | ⟨ez, n1, l1, m1, j1, tabs, rfl, ej, wf, j2, j3, jm, _⟩ | ⟨ez, n1, m1, j1, rows, rfl, ej, wf, j2, j3, _⟩
    · cases ez
      rw [decide_eq_true rfl]
      refine ⟨_, rfl, _, rfl, _, rfl, _, rfl, (by show 4 ≤ sizeLine; decide), fun p3 np3 => ⟨_, rfl, (by show 2 ≤ sizeLine; decide), fun p4 np4 => ?_⟩⟩
      refine q p4 (.ref p3) _ ((same_new np3).trans (same_new np4)) ?_ ?_
      · rw [ledD_longer]
        exact dp_same (same_new np4) _ (tup_new (Same.refl H) np3 (.cons (.str _) (.cons ht (.cons (.int _) (.cons hd .nil)))))
      · rw [ledD_longer]
        exact .inl (.inl upd_same)
    · cases ez
      refine ⟨_, rfl, rfl, _, rfl, ?_⟩
      rw [decide_eq_true rfl]
      have ejj : (j : Int) = (j1 : Int) := PyData.int.inj ej
      refine ⟨_, rfl, dv, D0, n, rfl, hd, gd, fun H1 s1 => ⟨fun _ => ?_, fun e => absurd (br.symm.trans e) (by decide)⟩⟩
      refine ⟨_, _, rfl, ?_⟩
      change gName 4 (V.int (qOf D0)) _ H1 _
      refine ⟨_, rfl, _, rfl, _, rfl, _, rfl, _, rfl, (by show 5 ≤ sizeLine; decide), fun p3 np3 => ?_⟩
      have s2 := s1.trans (same_new (o := .tup [.str "tree", tv, .int (j : Int), .int (qOf D0), dv]) np3)
      have d3 : Dp K (upd H1 p3 (.tup [.str "tree", tv, .int (j : Int), .int (qOf D0), dv])) (.ref p3) (.tuple [.str "tree", (Blk.gen n1 (2 * n1) rows).D, .int (j : Int), .int (qOf D0), D0]) := tup_new s1 np3 (.cons (.str _) (.cons ht (.cons (.int _) (.cons (.int _) (.cons hd .nil)))))
      generalize upd H1 p3 (.tup [.str "tree", tv, .int (j : Int), .int (qOf D0), dv]) = H2 at *
      refine ⟨_, rfl, _, rfl, by omega, by omega, fun Dl hD => ?_⟩
      refine lc_range (lo := 0) (n := j) (fun i H' => Same H2 H' ∧ H' Dl = some (.lst (((List.range i).map fun i => if qOf D0 < ((2 ^ i : Nat) : Int) then qOf D0 else ((2 ^ i : Nat) : Int)).map V.int))) ?_ ?_ ?_
      · exact ⟨same_new hD, upd_same⟩
      · rintro i H' hi ⟨s3, e3⟩
        refine ⟨rfl, _, rfl, _, _, rfl, rfl, ⟨by omega, by omega, by decide⟩, _, rfl, _, _, rfl, _, e3, ?_, set_same s3 hD, ?_⟩
        · rw [List.length_map, List.length_map, List.length_range, sizeLine_eq]
          omega
        · rw [upd_same, List.range_succ, List.map_append, List.map_append, Int.zero_add, shl_one]
          rfl
      · rintro H' ⟨s3, e3⟩
        refine ⟨Dl, _, rfl, .inl (.inl e3), (by show 2 ≤ sizeLine; decide), fun p4 np4 => ?_⟩
        refine q p4 (.ref p3) _ ((s2.trans s3).trans (same_new np4)) ?_ ?_
        · rw [ledD_tree]
          exact dp_same (s3.trans (same_new np4)) _ d3
        · rw [ledD_tree]
          exact .inl (.inl upd_same)
    · cases ez
      refine ⟨_, rfl, rfl, _, rfl, ?_⟩
      refine ⟨_, rfl, rfl, _, rfl, ?_⟩
      rw [decide_eq_true rfl]
      obtain ⟨ta, tr, rfl, hT, hR⟩ := dp_fun ht
      refine ⟨_, rfl, _, rfl, _, rfl, sl_any hT fun p2 H2 s2 t2 => ?_⟩
      have t2' : SqT K H2 p2 [.int (l1 : Int), .int (m1 : Int)] := t2
      refine ⟨p2, _, rfl, t2', rfl, _, _, rfl, _, _, rfl, rfl, ?_⟩
      refine ⟨_, rfl, _, rfl, _, rfl, _, rfl, _, rfl, (by show 5 ≤ sizeLine; decide), fun p3 np3 => ⟨(by show 2 ≤ sizeLine; decide), fun p4 np4 => ?_⟩⟩
      refine q p4 (.ref p3) _ ((s2.trans (same_new np3)).trans (same_new np4)) ?_ ?_
      · rw [ledD_cnt]
        exact dp_same (same_new np4) _ (tup_new s2 np3 (.cons (.str _) (.cons (.int _) (.cons (.int _) (.cons (.int _) (.cons hd .nil))))))
      · rw [ledD_cnt]
        exact .inl (.inl upd_same)
    · cases ez
      refine ⟨_, rfl, rfl, _, rfl, ?_⟩
      refine ⟨_, rfl, rfl, _, rfl, ?_⟩
      refine ⟨_, rfl, _, rfl, _, rfl, (by show 3 ≤ sizeLine; decide), fun p3 np3 => ⟨(by show 2 ≤ sizeLine; decide), fun p4 np4 => ?_⟩⟩
      refine q p4 (.ref p3) _ ((same_new np3).trans (same_new np4)) ?_ ?_
      · rw [ledD_cut]
        exact dp_same (same_new np4) _ (tup_new (Same.refl H) np3 (.cons (.str _) (.cons (.int _) (.cons hd .nil))))
      · rw [ledD_cut]
        exact .inl (.inl upd_same)

end
def LayN (z : Str) : Prop := z = "longer" ∨ z = "tree" ∨ z = "counter" ∨ z = "cut"
theorem LayN.okT {z : Str} (h : LayN z) : okT z := by
  rcases h with e | e | e | e <;> subst e <;> exact ⟨by decide +kernel, by decide +kernel⟩
inductive Sch : PyData → List (PyData × PyData) → Prop where
  | nil : Sch blkS []
  | cons {z : Str} {k : Int} {D : PyData} {ls : List (PyData × PyData)} (hz : LayN z) (h : Sch D ls) : Sch (.tuple [.str z, .int k, D]) (ls ++ [(.str z, .int k)])
theorem eqv_three (x y z : PyData) : PyData.eqv (.tuple [x, y, z]) blkS = false := by
  unfold blkS
  simp only [PyData.eqv, PyData.eqvAll, Bool.and_false]
theorem eqv_blk : PyData.eqv blkS blkS = true := by decide +kernel
theorem sch_lays {D : PyData} {ls : List (PyData × PyData)} (h : Sch D ls) : ∀ f, ls.length ≤ f → laysD f D = some ls := by
  induction h with
  | nil => exact fun f _ => lays_end eqv_blk
  | @cons z k D ls hz h ih =>
    intro f hf
    rw [List.length_append] at hf
    have hf : ls.length + 1 ≤ f := hf
    obtain ⟨g, rfl⟩ : ∃ g, f = g + 1 := ⟨f - 1, by omega⟩
    rw [lays_step (eqv_three _ _ _), ih g (by omega)]
    rfl
theorem sch_pl {D : PyData} {ls : List (PyData × PyData)} (h : Sch D ls) : Pl (ls.length + 1) D := by
  induction h with
  | nil =>
    refine ⟨(by show 1 ≤ 5000; decide), fun x hx => ?_⟩
    rw [List.mem_singleton.mp hx]
    exact pl_str.mpr ⟨by decide +kernel, by decide +kernel⟩
  | @cons z k D ls hz h ih =>
    rw [List.length_append]
    refine ⟨(by show 3 ≤ 5000; decide), fun x hx => ?_⟩
    rcases List.mem_cons.mp hx with e | hx
    · rw [e]
      exact pl_str.mpr hz.okT
    rcases List.mem_cons.mp hx with e | hx
    · rw [e]
      exact pl_int
    · rw [List.mem_singleton.mp hx]
      exact ih
theorem sch_gd {D : PyData} {ls : List (PyData × PyData)} (h : Sch D ls) : Gd (ls.length + 1) D := pl_gd (sch_pl h)
theorem built_snoc (q : PyData × PyData) : ∀ (ls : List (PyData × PyData)) (b : Blk), builtL (ls ++ [q]) b = (builtL ls b).bind (lay1 q)
  | [], b => by
    show (lay1 q b).bind (fun c => some c) = lay1 q b
    cases lay1 q b <;> rfl
  | p :: ls, b => by
    show (lay1 p b).bind (builtL (ls ++ [q])) = ((lay1 p b).bind (builtL ls)).bind (lay1 q)
    cases lay1 p b with
    | none => rfl
    | some c => exact built_snoc q ls c
theorem lay_name {z : Str} {Y : PyData} {b b' : Blk} (h : b.Ok) (e : lay1 (.str z, Y) b = some b') : LayN z := by
  rcases lay_some h e with ⟨ez, _⟩ | ⟨ez, _⟩ | ⟨ez, _⟩ | ⟨ez, _⟩ <;> cases ez
  · exact .inl rfl
  · exact .inr (.inl rfl)
  · exact .inr (.inr (.inl rfl))
  · exact .inr (.inr (.inr rfl))
theorem dp_setOff {K : PySem.W.Frag} {a L : Addr} {H : Hp} {ys : List V} {o : HO} {n : Nat} {v : V} {D : PyData} (e : H L = some (.lst ys)) (La : L ≠ a) (hp : Pl n D) (h : Dp K (off a H) v D) : Dp K (off a (upd H L o)) v D := by
  have h1 := dp_offL (L := L) (ys := ys) (by rw [off_ne La]; exact e) D hp h
  rw [← off_upd (o := o)] at h1
  exact dp_same (off_same L _) _ h1
def spLScheme (K : PySem.W.Frag) : Sp := fun vs H Q _ => ∃ (a d : Addr) (v : V) (b : Blk) (many : Nat), vs = [.ref a, v, .int (many : Int)] ∧ many ≤ 4 ∧ Hnd H a d ∧ BlOn K a H v b ∧ nK b ≤ 2 ∧
  ∀ p sv tv lv D ls t H', Sch D ls → ls.length ≤ 4 → builtL ls b = some t → Dp K (off a H') sv D → BlOn K a H' tv t → SqT K H' p [sv, tv, lv] → Hnd H' a d → Keep a H H' → Q (.ref p) H'
theorem new_dp {K : PySem.W.Frag} {a p : Addr} {H : Hp} {vs : List V} {ds : List PyData} (pa : p ≠ a) (e : H p = some (.tup vs)) (h : DpAll K (off a H) vs ds) : Dp K (off a H) (.ref p) (.tuple ds) := .tup (.inl (.inl (by rw [off_ne pa]; exact e))) h
theorem dp_offH {K : PySem.W.Frag} {a d : Addr} {H : Hp} {n : Nat} {v : V} {D : PyData} (hh : Hnd H a d) (hp : Pl n D) (h : Dp K H v D) : Dp K (off a H) v D := by
  obtain ⟨_, _, e, _⟩ := hh
  exact dp_offL e D hp h

def bsz : Nat → Nat
  | 0 => 0
  | n + 1 => 1 + 3 * bsz n
/-- tuples, texts, whole numbers, none large -/
def Pz : Nat → PyData → Prop
  | 0, d => match d with
    | .int i => i.natAbs < 10 ^ 100
    | .str x => okS 100 x
    | _ => False
  | n + 1, d => match d with
    | .int i => i.natAbs < 10 ^ 100
    | .str x => okS 100 x
    | .tuple xs => xs.length ≤ 100 ∧ ∀ x ∈ xs, Pz n x
    | _ => False
theorem pz_str {n : Nat} {x : Str} : Pz n (.str x) ↔ okS 100 x := by cases n <;> exact Iff.rfl
theorem pz_int {n : Nat} {i : Int} (h : i.natAbs ≤ 5000) : Pz n (.int i) := by
  have h' : i.natAbs < 10 ^ 100 := Nat.lt_of_le_of_lt h (by decide)
  cases n <;> exact h'
theorem pz_pl : ∀ {n : Nat} {d : PyData}, Pz n d → Pl n d
  | 0, .int _, _ => trivial
  | 0, .str _, h => ⟨h.1, Nat.le_trans h.2 (by decide)⟩
  | n + 1, .int _, _ => trivial
  | n + 1, .str _, h => ⟨h.1, Nat.le_trans h.2 (by decide)⟩
  | n + 1, .tuple xs, h => ⟨Nat.le_trans h.1 (by decide), fun x hx => pz_pl (h.2 x hx)⟩
theorem pz_gz : ∀ {n : Nat} {d : PyData}, Pz n d → Gz 100 n d
  | 0, .int _, h => h
  | 0, .str _, h => h
  | n + 1, .int _, h => h
  | n + 1, .str _, h => h
  | n + 1, .tuple xs, h => ⟨h.1, fun x hx => pz_gz (h.2 x hx)⟩
theorem pz_up : ∀ {n : Nat} {d : PyData}, Pz n d → Pz (n + 1) d
  | 0, .int _, h => h
  | 0, .str _, h => h
  | n + 1, .int _, h => h
  | n + 1, .str _, h => h
  | n + 1, .tuple xs, h => ⟨h.1, fun x hx => pz_up (h.2 x hx)⟩
theorem pz_le {n m : Nat} {d : PyData} (h : Pz n d) (hm : n ≤ m) : Pz m d := by
  induction hm with
  | refl => exact h
  | step _ ih => exact pz_up ih
theorem Wf.pz {n m : Nat} {rows : List (List Bool)} (h : Wf n m rows) (hn : n ≤ 4) : Pz 2 (tabD n m rows) := by
  have hp : 2 ^ n ≤ 16 := two_pow_le (b := 4) hn
  have h1 := h.len
  have h2 := h.m2
  refine ⟨(by show 4 ≤ 100; decide), fun x hx => ?_⟩
  rcases List.mem_cons.mp hx with e | hx
  · rw [e]
    exact pz_str.mpr ⟨by decide +kernel, by decide +kernel⟩
  rcases List.mem_cons.mp hx with e | hx
  · rw [e]
    exact pz_int (by omega)
  rcases List.mem_cons.mp hx with e | hx
  · rw [e]
    exact pz_int (by omega)
  · rw [List.mem_singleton.mp hx]
    refine ⟨by rw [List.length_map]; omega, fun y hy => ?_⟩
    obtain ⟨r, hr, rfl⟩ := List.mem_map.mp hy
    refine pz_str.mpr ⟨(okT_sb (by have := h.row r hr; omega)).1, ?_⟩
    rw [sb_len, h.row r hr]
    omega
/-- a plain breaker, so deep and so large at most, on a heap -/
def PG (K : PySem.W.Frag) (G : Hp) (j : Nat) (v : V) : Prop := ∃ D, Dp K G v D ∧ Pz (3 * j) D ∧ okN j D = true ∧ szN j D ≤ bsz j
def PB (K : PySem.W.Frag) (a : Addr) (H : Hp) (j : Nat) (v : V) : Prop := PG K (off a H) j v
theorem PG.same {K : PySem.W.Frag} {G G' : Hp} {j : Nat} {v : V} (h : PG K G j v) (k : Same G G') : PG K G' j v := by
  obtain ⟨D, h1, h2⟩ := h
  exact ⟨D, dp_same k D h1, h2⟩
theorem PB.keep {K : PySem.W.Frag} {a : Addr} {H H' : Hp} {j : Nat} {v : V} (h : PB K a H j v) (k : Keep a H H') : PB K a H' j v := PG.same h k.off
theorem pg_all {K : PySem.W.Frag} {G : Hp} {j : Nat} : ∀ {ws : List V}, (∀ v ∈ ws, PG K G j v) → ∃ ds, DpAll K G ws ds ∧ ∀ x ∈ ds, Pz (3 * j) x ∧ okN j x = true ∧ szN j x ≤ bsz j
  | [], _ => ⟨[], .nil, fun x hx => (nomatch hx)⟩
  | v :: ws, h => by
    obtain ⟨D, h1, h2⟩ := h v List.mem_cons_self
    obtain ⟨ds, g1, g2⟩ := pg_all fun x hx => h x (List.mem_cons_of_mem _ hx)
    refine ⟨D :: ds, .cons h1 g1, fun x hx => ?_⟩
    rcases List.mem_cons.mp hx with e | hx
    · exact e ▸ h2
    · exact g2 x hx
theorem sqt_offL {K : PySem.W.Frag} {L p : Addr} {H : Hp} {xs ys : List V} (e : H L = some (.lst ys)) (s : SqT K H p xs) : SqT K (off L H) p xs := by
  rcases s with (h | ⟨o, h⟩) | h
  · have hp : p ≠ L := fun z => by
      rw [z, e] at h
      cases h
    exact .inl (.inl (by rw [off_ne hp]; exact h))
  · have hp : p ≠ L := fun z => by
      rw [z, e] at h
      cases h
    exact .inl (.inr ⟨o, by rw [off_ne hp]; exact h⟩)
  · exact .inr h
theorem PG.offL {K : PySem.W.Frag} {G : Hp} {L : Addr} {ys : List V} {j : Nat} {v : V} (h : PG K G j v) (e : G L = some (.lst ys)) : PG K (off L G) j v := by
  obtain ⟨D, h1, h2, h3⟩ := h
  exact ⟨D, dp_offL e D (pz_pl h2) h1, h2, h3⟩
theorem pl_up : ∀ {n : Nat} {d : PyData}, Pl n d → Pl (n + 1) d
  | 0, .int _, h => h
  | 0, .str _, h => h
  | n + 1, .int _, h => h
  | n + 1, .str _, h => h
  | n + 1, .tuple xs, h => ⟨h.1, fun x hx => pl_up (h.2 x hx)⟩
theorem pl_le {n m : Nat} {d : PyData} (h : Pl n d) (hm : n ≤ m) : Pl m d := by
  induction hm with
  | refl => exact h
  | step _ ih => exact pl_up ih
def spParts8 (K : PySem.W.Frag) : Sp := fun vs H Q _ => ∃ (a d : Addr) (len : Nat), vs = [.ref a, .int (len : Int)] ∧ len ≤ 100 ∧ Hnd H a d ∧ ∀ (p : Addr) (ds : List V × List PyData) (H' : Hp), DpAll K (fun _ => none) ds.1 ds.2 → H' p = some (.tup ds.1) → p ≠ a → (∀ x ∈ ds.2, partOk x = true ∧ Pz 0 x) → ds.2.length ≤ 100 → Hnd H' a d → Keep a H H' → Q (.ref p) H'
def spBr (K : PySem.W.Frag) (j : Nat) : Sp := fun vs H Q _ => ∃ (a d : Addr) (dep asks len said : Nat), vs = [.ref a, .int (dep : Int), .int (asks : Int), .int (len : Int), .int (said : Int)] ∧ dep ≤ j ∧ len ≤ 90 ∧ said ≤ 90 ∧ Hnd H a d ∧ ∀ v H', PB K a H' (dep + 1) v → Hnd H' a d → Keep a H H' → Q v H'
def spBrB (K : PySem.W.Frag) (j : Nat) : Sp := fun vs H Q E => 1 ≤ j ∧ spBr K (j - 1) vs H Q E
theorem dps_none {K : PySem.W.Frag} {H : Hp} {vs : List V} {ds : List PyData} (h : DpAll K (fun _ => none) vs ds) : DpAll K H vs ds := dps_same (fun _ _ e => by cases e) ds h
theorem dp_new {K : PySem.W.Frag} {a p : Addr} {H : Hp} {vs : List V} {ds : List PyData} (pa : p ≠ a) (e : H p = some (.tup vs)) (h : DpAll K (off a H) vs ds) : Dp K (off a H) (.ref p) (.tuple ds) := .tup (.inl (.inl (by rw [off_ne pa]; exact e))) h
theorem parts_all {ds : List PyData} (h : ∀ x ∈ ds, partOk x = true ∧ Pz 0 x) : partsOk (.tuple ds) = true := by
  show ds.all partOk = true
  rw [List.all_eq_true]
  exact fun x hx => (h x hx).1
theorem gd_any {n : Nat} {d : PyData} (h : Gd 0 d) : Gd n d := gd_le h (Nat.zero_le _)
theorem pz_parts {ds : List PyData} {n : Nat} (h : ∀ x ∈ ds, partOk x = true ∧ Pz 0 x) (hl : ds.length ≤ 100) : Pz (n + 1) (.tuple ds) := ⟨hl, fun x hx => pz_le (h x hx).2 (Nat.zero_le _)⟩
theorem pz_word {x : Str} (h : PySem.PyData.strOk x = true := by decide +kernel) (h2 : x.length ≤ 100 := by decide +kernel) {n : Nat} : Pz n (.str x) := pz_str.mpr ⟨h, h2⟩
theorem kids_say {r : List PyData} : kidsD (.tuple (.str "say" :: r)) = r.drop 1 := kids_other (by rw [named_str]; decide)
theorem kids_look {r : List PyData} : kidsD (.tuple (.str "look" :: r)) = r.drop 1 := kids_other (by rw [named_str]; decide)
theorem kids_ask {r : List PyData} : kidsD (.tuple (.str "ask" :: r)) = r.drop 1 := kids_other (by rw [named_str]; decide)
theorem looks_say {r : List PyData} : looksOk (.tuple (.str "say" :: r)) = sayOk r := by
  rw [looks_eq, named_str, if_pos (by decide)]
theorem looks_toss {r : List PyData} : looksOk (.tuple (.str "toss" :: r)) = tossOk r := by
  rw [looks_eq, named_str, named_str, if_neg (by decide), if_pos (by decide)]
theorem looks_look {r : List PyData} : looksOk (.tuple (.str "look" :: r)) = lookOk r := by
  rw [looks_eq, named_str, named_str, named_str, if_neg (by decide), if_neg (by decide), if_pos (by decide)]
theorem looks_ask {r : List PyData} : looksOk (.tuple (.str "ask" :: r)) = askOk r := by
  rw [looks_eq, named_str, named_str, named_str, named_str, if_neg (by decide), if_neg (by decide), if_neg (by decide), decide_eq_true rfl, Bool.true_and]
theorem ok_say {j : Nat} {ds : List PyData} (h : partsOk (.tuple ds) = true) : okN (j + 1) (.tuple [.str "say", .tuple ds]) = true ∧ szN (j + 1) (.tuple [.str "say", .tuple ds]) = 1 := by
  constructor
  · show (looksOk _ && (kidsD _).all _) = true
    rw [looks_say, kids_say, show sayOk [.tuple ds] = partsOk (.tuple ds) from rfl, h]
    rfl
  · show 1 + _ = 1
    rw [kids_say]
    rfl
theorem ok_look {j : Nat} {i : Int} {x y : PyData} (h0 : 0 ≤ i) (h1 : i ≤ 9999) (hx : okN j x = true) (hy : okN j y = true) : okN (j + 1) (.tuple [.str "look", .int i, x, y]) = true ∧ szN (j + 1) (.tuple [.str "look", .int i, x, y]) = 1 + (szN j x + szN j y) := by
  constructor
  · show (looksOk _ && (kidsD _).all _) = true
    rw [looks_look, kids_look, show lookOk [.int i, x, y] = (decide (0 ≤ i) && decide (i ≤ 9999)) from rfl, decide_eq_true h0, decide_eq_true h1]
    show (okN j x && (okN j y && true)) = true
    rw [hx, hy]
    rfl
  · show 1 + _ = _
    rw [kids_look]
    show 1 + (szN j x + (szN j y + 0)) = _
    omega
theorem ok_askD {j : Nat} {ds : List PyData} {x : PyData} (h : partsOk (.tuple ds) = true) (hx : okN j x = true) : okN (j + 1) (.tuple [.str "ask", .tuple ds, x]) = true ∧ szN (j + 1) (.tuple [.str "ask", .tuple ds, x]) = 1 + szN j x := by
  constructor
  · show (looksOk _ && (kidsD _).all _) = true
    rw [looks_ask, kids_ask, show askOk [.tuple ds, x] = partsOk (.tuple ds) from rfl, h]
    show (okN j x && true) = true
    rw [hx]
    rfl
  · show 1 + _ = _
    rw [kids_ask]
    show 1 + (szN j x + 0) = _
    omega
theorem ok_toss {j : Nat} {xs : List PyData} (h1 : 1 ≤ xs.length) (h2 : xs.length ≤ 64) (hx : ∀ x ∈ xs, okN j x = true) : okN (j + 1) (.tuple [.str "toss", .tuple xs]) = true ∧ szN (j + 1) (.tuple [.str "toss", .tuple xs]) = 1 + (xs.map (szN j)).sum := by
  have hn : named "toss" (.str "toss") = true := by rw [named_str]; decide
  constructor
  · show (looksOk _ && (kidsD _).all _) = true
    rw [looks_toss, kids_toss hn, show tossOk [.tuple xs] = (decide ((1 : Int) ≤ (xs.length : Int)) && decide ((xs.length : Int) ≤ 64)) from rfl, decide_eq_true (by omega), decide_eq_true (by omega), List.all_eq_true.mpr hx]
    rfl
  · show 1 + _ = _
    rw [kids_toss hn]
theorem sum_le {α : Type} {f : α → Nat} {m : Nat} : ∀ {l : List α}, (∀ x ∈ l, f x ≤ m) → (l.map f).sum ≤ l.length * m
  | [], _ => Nat.zero_le _
  | x :: l, h => by
    rw [List.map_cons, List.sum_cons, List.length_cons, Nat.succ_mul]
    have h1 := h x List.mem_cons_self
    have h2 := sum_le fun y hy => h y (List.mem_cons_of_mem x hy)
    omega

def spMd (K : PySem.W.Frag) : Sp := fun vs H Q _ => ∃ (a d : Addr) (v : V) (D : PyData) (n m : Nat), vs = [.ref a, v] ∧ Dp K (off a H) v D ∧ Pz n D ∧ chk m D = true ∧ Hnd H a d ∧
  ∀ v' D' H', Dp K (off a H') v' D' → Pz (n + 3) D' → madeD D' = true → chk (m + 1) D' = true → Hnd H' a d → Keep a H H' → Q v' H'
theorem chk_of {z : Str} {own : List PyData} {D : PyData} {m : Nat} (hz : madeZ z = true) (hf : fitZ z own = true) (ho : z = "onetime" → madeD D = false) (hc : chk m D = true) : chk (m + 1) (.tuple (.str z :: (own ++ [D]))) = true := by
  have hm : madeD (.tuple (.str z :: (own ++ [D]))) = true := hz
  have e1 : fitsD (.tuple (.str z :: (own ++ [D]))) = fitZ z own := by
    show fitZ z (own ++ [D]).dropLast = _
    rw [List.dropLast_concat]
  have e2 : lastD (.tuple (.str z :: (own ++ [D]))) = D := by
    show (.str z :: (own ++ [D])).getLastD .none = D
    rw [List.getLastD_eq_getLast?, ← List.cons_append, List.getLast?_concat]
    rfl
  rw [chk_succ hm, e1, e2, hf, hc, head_str]
  by_cases h : z = "onetime"
  · rw [ho h]
    simp
  · rw [decide_eq_false h]
    rfl
theorem chk_mono {d : PyData} : ∀ {n : Nat}, chk n d = true → chk (n + 1) d = true := by
  intro n
  induction n generalizing d with
  | zero =>
    intro h
    cases c : madeD d with
    | true =>
      rw [chk_zero c] at h
      cases h
    | false =>
      rw [chk_plain c] at h ⊢
      exact h
  | succ n ih =>
    intro h
    cases c : madeD d with
    | true =>
      rw [chk_succ c, Bool.and_eq_true, Bool.and_eq_true] at h ⊢
      exact ⟨h.1, h.2.1, ih h.2.2⟩
    | false =>
      rw [chk_plain c] at h ⊢
      exact h
theorem chk_le {n m : Nat} {d : PyData} (h : chk n d = true) (hm : n ≤ m) : chk m d = true := by
  induction hm with
  | refl => exact h
  | step _ ih => exact chk_mono ih
theorem whole_in {i lo hi : Int} (h1 : lo ≤ i) (h2 : i ≤ hi) : whole (.int i) lo hi = true := by
  show (decide (lo ≤ i) && decide (i ≤ hi)) = true
  rw [decide_eq_true h1, decide_eq_true h2]
  rfl
theorem fit_one {z : Str} {i : Int} {hi : Int} (hz : z ∈ numK) (hn : numOf z = [(1, hi)]) (h1 : 1 ≤ i) (h2 : i ≤ hi) : fitZ z [.int i] = true := by
  unfold fitZ
  rw [if_pos hz, hn]
  show (whole (.int i) 1 hi && true) = true
  rw [whole_in h1 h2]
  rfl
theorem fit_two {z : Str} {i j : Int} {hi hj : Int} (hz : z ∈ numK) (hn : numOf z = [(1, hi), (1, hj)]) (h1 : 1 ≤ i) (h2 : i ≤ hi) (h3 : 1 ≤ j) (h4 : j ≤ hj) : fitZ z [.int i, .int j] = true := by
  unfold fitZ
  rw [if_pos hz, hn]
  show (whole (.int i) 1 hi && (whole (.int j) 1 hj && true)) = true
  rw [whole_in h1 h2, whole_in h3 h4]
  rfl
theorem fit_counter {i j k : Int} (h1 : 1 ≤ i) (h2 : i ≤ 40) (h3 : 1 ≤ j) (h4 : j ≤ 256) (h5 : 1 ≤ k) (h6 : k ≤ 40) : fitZ "counter" [.int i, .int j, .int k] = true := by
  show (whole (.int i) 1 40 && (whole (.int j) 1 256 && (whole (.int k) 1 40 && true))) = true
  rw [whole_in h1 h2, whole_in h3 h4, whole_in h5 h6]
  rfl
theorem fit_longer {n : Nat} {rows : List (List Bool)} {k : Int} (h : Wf n (n + 1) rows) (h1 : 1 ≤ k) (h2 : k ≤ 20) : fitZ "longer" [tabD n (n + 1) rows, .int k] = true := by
  show (genOk (tabD n (n + 1) rows) && (decide (((n + 1 : Nat) : Int) = (n : Int) + 1) && whole (.int k) 1 20)) = true
  rw [wf_gen h, whole_in h1 h2, decide_eq_true (by omega)]
  rfl
theorem fit_tree {n : Nat} {rows : List (List Bool)} {k q : Int} (h : Wf n (2 * n) rows) (hn : n ≤ 4) (h1 : 1 ≤ k) (h2 : k ≤ 8) (h3 : 1 ≤ q) (h4 : q ≤ 1000) : fitZ "tree" [tabD n (2 * n) rows, .int k, .int q] = true := by
  show (genOk (tabD n (2 * n) rows) && (decide (((2 * n : Nat) : Int) = 2 * (n : Int)) && (decide ((n : Int) ≤ 8) && (whole (.int k) 1 (if 12 - (n : Int) < 8 then 12 - (n : Int) else 8) && whole (.int q) 1 1000)))) = true
  rw [wf_gen h, if_neg (by omega), whole_in h1 h2, whole_in h3 h4, decide_eq_true (by omega), decide_eq_true (by omega)]
  rfl
theorem fit_onetime {n m : Nat} {rows : List (List Bool)} {k : Int} (h : Wf n m rows) (h1 : 1 ≤ k) (h2 : k ≤ 4) : fitZ "onetime" [tabD n m rows, .int k] = true := by
  show (genOk (tabD n m rows) && whole (.int k) 1 4) = true
  rw [wf_gen h, whole_in h1 h2]
  rfl
theorem fit_opening {bs : List Bool} (h1 : 1 ≤ bs.length) (h2 : bs.length ≤ 40) : fitZ "opening" [.str (sb bs)] = true := by
  show (decide ((1 : Int) ≤ ((sb bs).length : Int)) && (decide (((sb bs).length : Int) ≤ 40) && (decide ((([PyData.str (sb bs)].length : Nat) : Int) = 1) && ([PyData.str (sb bs)].all (bitRow ((sb bs).length : Int)))))) = true
  rw [sb_len, decide_eq_true (by omega), decide_eq_true (by omega), decide_eq_true (show (([PyData.str (sb bs)].length : Nat) : Int) = 1 from rfl)]
  show (bitRow (bs.length : Int) (.str (sb bs)) && true) = true
  rw [bitRow_sb rfl]
  rfl

/-! ### all the way down -/
def zOf : PyData → Str
  | .str z => z
  | _ => ""
def ledAll : List ((PyData × PyData) × Blk) → PyData × Int → PyData × Int
  | [], r => r
  | x :: xs, r => ledAll xs ((ledD (zOf x.1.1) (numD x.1.2) x.2 r.1).1, r.2 * (ledD (zOf x.1.1) (numD x.1.2) x.2 r.1).2)
theorem kids_max {f : PyData → Nat} {m : Nat} : ∀ {l : List PyData} {a : Nat}, a ≤ m → (∀ x ∈ l, f x ≤ m) → (l.map f).foldl max a ≤ m
  | [], a, h, _ => h
  | x :: l, a, h, g => kids_max (l := l) (a := max a (f x)) (by have := g x List.mem_cons_self; omega) fun y hy => g y (List.mem_cons_of_mem _ hy)
theorem askB_le (d : PyData) : askB d ≤ 1 := by
  unfold askB
  split <;> first | exact Nat.le_refl 1 | exact Nat.zero_le 1 | (split <;> first | exact Nat.le_refl 1 | exact Nat.zero_le 1)
theorem paN_le : ∀ (n : Nat) (d : PyData), paN n d ≤ n
  | 0, _ => Nat.le_refl 0
  | n + 1, d => by
    show askB d + ((kidsD d).map (paN n)).foldl max 0 ≤ n + 1
    have h1 := askB_le d
    have h2 := kids_max (f := paN n) (m := n) (l := kidsD d) (a := 0) (Nat.zero_le n) fun x _ => paN_le n x
    omega
theorem qSum_le {q : Int} (h : 1 ≤ q) : ∀ j : Nat, 0 ≤ qSum q j ∧ qSum q j < ((2 ^ j : Nat) : Int)
  | 0 => by
    show (0 : Int) ≤ 0 ∧ (0 : Int) < 1
    omega
  | j + 1 => by
    obtain ⟨h1, h2⟩ := qSum_le h j
    have e : qSum q (j + 1) = qSum q j + (if q < ((2 ^ j : Nat) : Int) then q else ((2 ^ j : Nat) : Int)) := by
      unfold qSum
      rw [List.range_succ, List.map_append, List.sum_append]
      simp
    rw [e, Nat.pow_succ]
    generalize 2 ^ j = N at *
    split <;> omega
theorem qOf_pos (D : PyData) : 1 ≤ qOf D := by
  unfold qOf
  split <;> omega
theorem sch_mem {D : PyData} {ls : List (PyData × PyData)} (h : Sch D ls) : ∀ q ∈ ls, ∃ (z : Str) (k : Int), q = (.str z, .int k) ∧ LayN z := by
  induction h with
  | nil => exact fun q0 hq0 => nomatch hq0
  | @cons z k D ls hz _ ih =>
    intro q hq
    rcases List.mem_append.mp hq with h | h
    · exact ih q h
    · exact ⟨z, k, List.mem_singleton.mp h, hz⟩
/-- a breaker on its way: right, and not too greedy -/
def Way (c : Nat) (D : PyData) : Prop := chk c D = true ∧ Gd (30 + c) D ∧ progM 20 D ≤ 1000
theorem way_brOk {c : Nat} {D : PyData} (h : Way c D) (hc : c ≤ 20) : brOk D = true := chk_le h.1 hc
theorem progM_made {n : Nat} {z : Str} {r : List PyData} (h1 : z ≠ "marks") (h2 : z ≠ "secrets") (h3 : z ≠ "counter") (hz : madeZ z = true) : progM n (.tuple (.str z :: r)) = 0 := by
  rw [progM_other h1 h2, if_neg h3, if_pos (show madeD (.tuple (.str z :: r)) = true from hz)]
theorem fit_tree2 {n : Nat} {rows : List (List Bool)} {k q : Int} (h : Wf n (2 * n) rows) (hn : n ≤ 8) (h1 : 1 ≤ k) (h2 : k ≤ 8) (h0 : (n : Int) + k ≤ 12) (h3 : 1 ≤ q) (h4 : q ≤ 1000) : fitZ "tree" [tabD n (2 * n) rows, .int k, .int q] = true := by
  show (genOk (tabD n (2 * n) rows) && (decide (((2 * n : Nat) : Int) = 2 * (n : Int)) && (decide ((n : Int) ≤ 8) && (whole (.int k) 1 (if 12 - (n : Int) < 8 then 12 - (n : Int) else 8) && whole (.int q) 1 1000)))) = true
  rw [wf_gen h, whole_in (i := k) h1 (by split <;> omega), whole_in h3 h4, decide_eq_true (by omega), decide_eq_true (by omega)]
  rfl
theorem way_tup {z : Str} {own : List PyData} {D : PyData} {c : Nat} (hw : Way c D) (hz : madeZ z = true) (hf : fitZ z own = true) (ho : z ≠ "onetime") (hg : ∀ x ∈ own, Gd 3 x) (hzt : okT z) (hl : own.length ≤ 10) (hp : progM 20 (.tuple (.str z :: (own ++ [D]))) ≤ 1000) : Way (c + 1) (.tuple (.str z :: (own ++ [D]))) := by
  obtain ⟨h1, h2, h3⟩ := hw
  refine ⟨chk_of hz hf (fun e => absurd e ho) h1, ⟨by show (own ++ [D]).length + 1 ≤ 5000; rw [List.length_append]; show own.length + 1 + 1 ≤ 5000; omega, fun x hx => ?_⟩, hp⟩
  rcases List.mem_cons.mp hx with e | hx
  · rw [e]
    exact gd_le (n := 0) (pl_gd (pl_str.mpr hzt)) (Nat.zero_le _)
  rcases List.mem_append.mp hx with h | h
  · exact gd_le (hg x h) (by show 3 ≤ 30 + c; omega)
  · rw [List.mem_singleton.mp h]
    exact h2
theorem g0 : ∀ x ∈ ([] : List PyData), Gd 3 x := fun _ h => nomatch h
theorem gcons {d : PyData} {ds : List PyData} (h : Gd 3 d) (g : ∀ x ∈ ds, Gd 3 x) : ∀ x ∈ d :: ds, Gd 3 x := fun x hx => by
  rcases List.mem_cons.mp hx with e | hx
  · rw [e]
    exact h
  · exact g x hx
theorem gint (i : Int) : Gd 3 (.int i) := trivial
theorem last_mem {z : Str} {own : List PyData} {D : PyData} : lastD (.tuple (.str z :: (own ++ [D]))) = D := by
  show (.str z :: (own ++ [D])).getLastD .none = D
  rw [List.getLastD_eq_getLast?, ← List.cons_append, List.getLast?_concat]
  rfl
theorem ledD_way {z : Str} {j : Nat} {b c : Blk} {D : PyData} {k : Nat} (ok : b.Ok) (lay : lay1 (.str z, .int (j : Int)) b = some c) (hw : Way k D) : Way (k + 1) (ledD z j b D).1 ∧ 0 ≤ (ledD z j b D).2 ∧ (ledD z j b D).2 ≤ 1000 := by
  rcases lay_some ok lay with ⟨ez, n1, j1, rows, rfl, ej, wf, j2, j3, _⟩ | ⟨ez, n1, j1, rows, rfl, ej, wf, n8, j2, j3, nj, _⟩ | ⟨ez, n1, l1, m1, j1, tabs, rfl, ej, wf, j2, j3, jm, _⟩ | ⟨ez, n1, m1, j1, rows, rfl, ej, wf, j2, j3, _⟩
  all_goals
    cases ez
    have ejj : (j : Int) = (j1 : Int) := PyData.int.inj ej
  · rw [ledD_longer]
    refine ⟨way_tup (own := [(Blk.gen n1 (n1 + 1) rows).D, .int (j : Int)]) hw (by decide +kernel) (fit_longer wf (by omega) (by omega)) (by decide +kernel) (gcons (blk_gd ok) (gcons (gint _) g0)) ⟨by decide +kernel, by decide +kernel⟩ (by show 2 ≤ 10; decide) ?_, by show (0 : Int) ≤ (j : Int); omega, by show (j : Int) ≤ 1000; omega⟩
    rw [progM_made (by decide +kernel) (by decide +kernel) (by decide +kernel) (by decide +kernel)]
    decide
  · rw [ledD_tree]
    have hq := qOf_pos D
    have hq2 : qOf D ≤ 1000 := by
      have := hw.2.2
      unfold qOf
      split <;> omega
    obtain ⟨s1, s2⟩ := qSum_le hq j
    have hp := two_pow_le (n := j) (b := 8) (by omega)
    refine ⟨way_tup (own := [(Blk.gen n1 (2 * n1) rows).D, .int (j : Int), .int (qOf D)]) hw (by decide +kernel) (fit_tree2 wf n8 (by omega) (by omega) (by omega) hq hq2) (by decide +kernel) (gcons (blk_gd ok) (gcons (gint _) (gcons (gint _) g0))) ⟨by decide +kernel, by decide +kernel⟩ (by show 3 ≤ 10; decide) ?_, s1, ?_⟩
    · rw [progM_made (by decide +kernel) (by decide +kernel) (by decide +kernel) (by decide +kernel)]
      decide
    · show qSum (qOf D) j ≤ 1000
      generalize 2 ^ j = N at *
      omega
  · rw [ledD_cnt]
    have wl := wf.l2
    have wl1 := wf.l1
    have wm := wf.m2
    have wm1 := wf.m1
    have hp := two_pow_le (n := l1) (b := 8) wl
    refine ⟨way_tup (own := [.int (l1 : Int), .int (j : Int), .int (m1 : Int)]) hw (by decide +kernel) (fit_counter (by omega) (by omega) (by omega) (by omega) (by omega) (by omega)) (by decide +kernel) (gcons (gint _) (gcons (gint _) (gcons (gint _) g0))) ⟨by decide +kernel, by decide +kernel⟩ (by show 3 ≤ 10; decide) ?_, by show (0 : Int) ≤ 1; decide, by show (1 : Int) ≤ 1000; decide⟩
    rw [progM_other (by decide +kernel) (by decide +kernel), if_pos rfl]
    show (j : Int) ≤ 1000
    omega
  · rw [ledD_cut]
    have wm := wf.m2
    refine ⟨way_tup (own := [.int (j : Int)]) hw (by decide +kernel) (fit_one (hi := 40) (by decide +kernel) (by decide +kernel) (by omega) (by omega)) (by decide +kernel) (gcons (gint _) g0) ⟨by decide +kernel, by decide +kernel⟩ (by show 1 ≤ 10; decide) ?_, by show (0 : Int) ≤ 1; decide, by show (1 : Int) ≤ 1000; decide⟩
    rw [progM_made (by decide +kernel) (by decide +kernel) (by decide +kernel) (by decide +kernel)]
    decide

/-- what a goal asks of its parts and of the table that it is over -/
def GoalFit (z : Str) (y : PyData) (t : Blk) : Prop := z = "tell" ∨ ((z = "marks" ∨ z = "secrets") ∧ ∃ n l m tabs, t = .fn n l m tabs) ∨ ((z = "once" ∨ z = "next") ∧ ∃ n m rows, t = .gen n m rows) ∨ (z = "opening" ∧ ∃ n m rows s, t = .gen n m rows ∧ y = .str (sb s) ∧ s.length = m)
theorem progM_plain {n : Nat} {D : PyData} (hc : chk 0 D = true) (hm : madeD D = false) : progM n D = (paN 60 D : Int) := by
  obtain ⟨z, r, rfl⟩ := chk_head hc
  have no : ∀ k : Str, k ∈ numK → z ≠ k := fun k hk e => by
    subst e
    rw [made_num hk] at hm
    cases hm
  rw [progM_other (no "marks" (by decide +kernel)) (no "secrets" (by decide +kernel)), if_neg (no "counter" (by decide +kernel)), hm, if_neg (by decide)]
theorem progM_p60 {n : Nat} {D : PyData} (hc : chk 0 D = true) (hm : madeD D = false) : progM n D ≤ 60 := by
  rw [progM_plain hc hm]
  have := paN_le 60 D
  omega
theorem ledW_way {z : Str} {y D : PyData} {t : Blk} (ok : t.Ok) (gf : GoalFit z y t) (hw : Way 0 D) (hm : madeD D = false) : Way 1 (ledW z y D t).1 ∧ 0 ≤ (ledW z y D t).2 ∧ (ledW z y D t).2 ≤ 2 := by
  have p60 : ∀ n, progM n D ≤ 60 := fun n => progM_p60 hw.1 hm
  rcases gf with e | ⟨e, n, l, m, tabs, rfl⟩ | ⟨e, n, m, rows, rfl⟩ | ⟨e, n, m, rows, s, rfl, rfl, hs⟩
  · subst e
    rw [ledW_tell]
    exact ⟨⟨chk_le hw.1 (by decide), gd_le hw.2.1 (by decide), hw.2.2⟩, by show (0 : Int) ≤ 1; decide, by show (1 : Int) ≤ 2; decide⟩
  · have wf : Wff n l m tabs := ok
    have wl := wf.l2
    have wl1 := wf.l1
    have wm := wf.m2
    have wm1 := wf.m1
    rcases e with e | e <;> subst e
    · rw [ledW_marks]
      refine ⟨way_tup (own := [.int (l : Int), .int (m : Int)]) hw (by decide +kernel) (fit_two (hi := 40) (hj := 40) (by decide +kernel) (by decide +kernel) (by omega) (by omega) (by omega) (by omega)) (by decide +kernel) (gcons (gint _) (gcons (gint _) g0)) ⟨by decide +kernel, by decide +kernel⟩ (by show 2 ≤ 10; decide) ?_, by show (0 : Int) ≤ 1; decide, by show (1 : Int) ≤ 2; decide⟩
      rw [progM_marks, last_mem]
      have := p60 19
      omega
    · rw [ledW_secrets]
      refine ⟨way_tup (own := [.int (l : Int), .int (m : Int)]) hw (by decide +kernel) (fit_two (hi := 40) (hj := 40) (by decide +kernel) (by decide +kernel) (by omega) (by omega) (by omega) (by omega)) (by decide +kernel) (gcons (gint _) (gcons (gint _) g0)) ⟨by decide +kernel, by decide +kernel⟩ (by show 2 ≤ 10; decide) ?_, by show (0 : Int) ≤ 2; decide, by show (2 : Int) ≤ 2; decide⟩
      rw [progM_secrets, last_mem]
      have := p60 19
      omega
  · have wf : Wf n m rows := ok
    have wm := wf.m2
    have wm1 := wf.m1
    rcases e with e | e <;> subst e
    · rw [ledW_once]
      refine ⟨way_tup (own := [.int (m : Int)]) hw (by decide +kernel) (fit_one (hi := 40) (by decide +kernel) (by decide +kernel) (by omega) (by omega)) (by decide +kernel) (gcons (gint _) g0) ⟨by decide +kernel, by decide +kernel⟩ (by show 1 ≤ 10; decide) ?_, by show (0 : Int) ≤ 2; decide, by show (2 : Int) ≤ 2; decide⟩
      rw [progM_made (by decide +kernel) (by decide +kernel) (by decide +kernel) (by decide +kernel)]
      decide
    · rw [ledW_else (by decide +kernel) (by decide +kernel) (by decide +kernel) (by decide +kernel) (by decide +kernel)]
      refine ⟨way_tup (own := [.int (m : Int)]) hw (by decide +kernel) (fit_one (hi := 40) (by decide +kernel) (by decide +kernel) (by omega) (by omega)) (by decide +kernel) (gcons (gint _) g0) ⟨by decide +kernel, by decide +kernel⟩ (by show 1 ≤ 10; decide) ?_, by show (0 : Int) ≤ 1; decide, by show (1 : Int) ≤ 2; decide⟩
      rw [progM_made (by decide +kernel) (by decide +kernel) (by decide +kernel) (by decide +kernel)]
      decide
  · subst e
    have wf : Wf n m rows := ok
    have wm := wf.m2
    have wm1 := wf.m1
    rw [ledW_open]
    refine ⟨way_tup (own := [.str (sb s)]) hw (by decide +kernel) (fit_opening (by omega) (by omega)) (by decide +kernel) (gcons (gd_le (n := 0) (pl_gd (pl_str.mpr (okT_sb (by omega)))) (by decide)) g0) ⟨by decide +kernel, by decide +kernel⟩ (by show 1 ≤ 10; decide) ?_, by show (0 : Int) ≤ 2; decide, by show (2 : Int) ≤ 2; decide⟩
    rw [progM_made (by decide +kernel) (by decide +kernel) (by decide +kernel) (by decide +kernel)]
    decide
def isPl (D : PyData) : Bool := brOk D && !madeD D
def spIsPl (K : PySem.W.Frag) (CBr : Addr) : Sp := fun vs H Q E => ∃ (v : V) (d : PyData) (n : Nat), vs = [v] ∧ Dp K H v d ∧ Gd n d ∧ ∀ H', Same H H' → (brOk d = true → Q (.bl (!madeD d)) H') ∧ (brOk d = false → E (.ref CBr) none H')
def spAttack (K : PySem.W.Frag) (CB CS CBr : Addr) : Sp := fun vs H Q E => ∃ (gv bv dv : V) (g B D : PyData) (n m k : Nat), vs = [gv, bv, dv] ∧ Dp K H gv g ∧ Gd n g ∧ Dp K H bv B ∧ Gd m B ∧ m ≤ 64 ∧ Dp K H dv D ∧ Gd k D ∧
  ((blockOk B = false ∧ ∀ H', Same H H' → E (.ref CB) none H') ∨ ∃ b : Blk, B = b.D ∧ b.Ok ∧ ((goalOk g b = false ∧ ∀ H', Same H H' → E (.ref CS) none H') ∨ (goalOk g b = true ∧
    ((isPl D = false ∧ ∀ H', Same H H' → E (.ref CBr) none H') ∨ (isPl D = true ∧ ∀ H', Same H H' → Q .non H')))))
def spCarried (K : PySem.W.Frag) (CB CS CBr : Addr) : Sp := fun vs H Q E => ∃ (gv bv dv : V) (g B D : PyData) (n m k : Nat), vs = [gv, bv, dv] ∧ Dp K H gv g ∧ Gd n g ∧ Dp K H bv B ∧ Gd m B ∧ m ≤ 64 ∧ Dp K H dv D ∧ Gd k D ∧
  ((blockOk B = false ∧ ∀ H', Same H H' → E (.ref CB) none H') ∨ ∃ b : Blk, B = b.D ∧ b.Ok ∧ ((goalOk g b = false ∧ ∀ H', Same H H' → E (.ref CS) none H') ∨ (goalOk g b = true ∧
    ((isPl D = false ∧ ∀ H', Same H H' → E (.ref CBr) none H') ∨ ∃ (z : Str) (y S : PyData) (ls : List (PyData × PyData)) (t : Blk) (bs : List Blk), GoalIs g z y S ∧ z ∈ aboK ∧ GoalFit z y t ∧ Sch S ls ∧ ls.length ≤ 7 ∧ builtL ls b = some t ∧ Tabs ls b bs ∧ Way 0 D ∧ madeD D = false ∧
      ∀ v H', Same H H' → Dp K H' v (.tuple [(ledAll (ls.zip bs).reverse (ledW z y D t)).1, .int (ledAll (ls.zip bs).reverse (ledW z y D t)).2]) → Q v H'))))
theorem tabs_uniq {ls : List (PyData × PyData)} {b : Blk} {bs cs : List Blk} (h : Tabs ls b bs) (g : Tabs ls b cs) : bs = cs := by
  induction h generalizing cs with
  | nil b => cases g; rfl
  | cons e _ ih =>
    cases g with
    | cons e2 g2 =>
      cases Option.some.inj (e.symm.trans e2)
      rw [ih g2]
theorem way0 {D : PyData} {k : Nat} (hc : chk k D = true) (hm : madeD D = false) (g : Gd 30 D) : Way 0 D := by
  have h0 : chk 0 D = true := by
    rw [chk_plain hm] at hc ⊢
    exact hc
  exact ⟨h0, g, Int.le_trans (progM_p60 h0 hm) (by decide)⟩
theorem dp_at {K : PySem.W.Frag} {H : Hp} {ws : List V} {bs : List Blk} {i : Nat} {c : Blk} (h : DpAll K H ws (bs.map Blk.D)) (e : bs[i]? = some c) : ∃ v, ws[i]? = some v ∧ Dp K H v c.D := by
  have hl := dp_all_len h
  rw [List.length_map] at hl
  obtain ⟨hi, e2⟩ := List.getElem?_eq_some_iff.mp e
  have ew : ws[i]? = some (ws[i]'(by omega)) := List.getElem?_eq_getElem (by omega)
  obtain ⟨d, h1, h2⟩ := dp_all_get h ew
  rw [List.getElem?_map, e] at h1
  cases h1
  exact ⟨_, ew, h2⟩
theorem dp_lastB {K : PySem.W.Frag} {H : Hp} {ws : List V} {bs : List Blk} {c : Blk} (h : DpAll K H ws (bs.map Blk.D)) (e : bs.getLast? = some c) : ∃ v, atI ws (-1) = some v ∧ Dp K H v c.D := by
  obtain ⟨bs0, rfl⟩ := List.getLast?_eq_some_iff.mp e
  have hl := dp_all_len h
  rw [List.length_map, List.length_append] at hl
  obtain ⟨v, h1, h2⟩ := dp_at (i := bs0.length) h (by rw [List.getElem?_append_right (Nat.le_refl _), Nat.sub_self]; rfl)
  have hne : ws ≠ [] := fun z => by
    rw [z] at h1
    cases h1
  refine ⟨v, ?_, h2⟩
  have ew := List.dropLast_concat_getLast hne
  have e3 : ws.getLast hne = v := by
    rw [List.getLast_eq_getElem]
    have hl' : ws.length = bs0.length + 1 := hl
    obtain ⟨hi, e4⟩ := List.getElem?_eq_some_iff.mp h1
    rw [← e4]
    congr 1
    omega
  rw [← ew, e3]
  exact atI_last _ _
theorem zip_rev {ls : List (PyData × PyData)} {bs : List Blk} (hl : bs.length = ls.length + 1) {i : Nat} (hi : i < ls.length) : ∃ q c, ls[ls.length - 1 - i]? = some q ∧ bs[ls.length - 1 - i]? = some c ∧ (ls.zip bs).reverse.drop i = (q, c) :: (ls.zip bs).reverse.drop (i + 1) := by
  have hz : (ls.zip bs).length = ls.length := by
    rw [List.length_zip, hl]
    omega
  have h1 : ls.length - 1 - i < ls.length := by omega
  have h2 : ls.length - 1 - i < bs.length := by omega
  refine ⟨ls[ls.length - 1 - i], bs[ls.length - 1 - i], List.getElem?_eq_getElem h1, List.getElem?_eq_getElem h2, ?_⟩
  have hr : i < (ls.zip bs).reverse.length := by
    rw [List.length_reverse, hz]
    exact hi
  rw [List.drop_eq_getElem_cons hr]
  congr 1
  rw [List.getElem_reverse, List.getElem_zip]
  simp only [hz]

section
variable {P : Program} {w : World} {K : PySem.W.Frag} {mg : Str → Option Value} {base : Heap} {cs : Cs}
theorem ok_isPl {f : Addr} {fd : FuncData} (D : Df K mg "is_plain" s_is_plain ["breaker"] f fd) (T : Txt K w mg cs) (c_check_breaker : Cl P w K mg base (L2.CX P w) 6 "check_breaker" (spCheckB K cs.BadBreaker)) (c_is_made : Cl P w K mg base CX0 1 "is_made" (spD K madeD)) : FnOk P w K mg base (L2.CX P w) 7 f fd ["breaker"] (spIsPl K cs.BadBreaker) := by
  refine D.fn.okX sc_is_plain (fun vs H Q E h => ?_) (fun cdv A outer s H vs Q E hr h => ?_)
  · obtain ⟨v, d, n, rfl, _⟩ := h
    rfl
  · obtain ⟨v, d, n, rfl, hd, hg, q⟩ := h
    have tk := takes_of (X := cxOf (L2.CX P w) P w K mg base ["breaker"] "is_plain" (defScope s_is_plain) f cdv A outer s H E) (E := E) rfl rfl rfl rfl
    refine ⟨_, (pss_cons (ps_expr (pe_clX c_check_breaker hr (by first | decide | omega) (by rfl) tk (pa_cons (pv 0) pa_nil))) (pss_one (ps_ret (pe_not (pe_cl c_is_made hr (by first | decide | omega) (by rfl) (pa_cons (pv 0) pa_nil)))))), ?_⟩
    exact ⟨_, rfl, v, d, n, rfl, hd, hg, fun H1 s1 => ⟨fun hb => ⟨_, rfl, v, d, n, rfl, dp_same s1 d hd, hg, fun H2 s2 => ⟨_, rfl, (q H2 (s1.trans s2)).1 hb⟩⟩, fun hb => (q H1 s1).2 hb⟩⟩
theorem ok_attack {f : Addr} {fd : FuncData} (D : Df K mg "check_attack" s_check_attack ["goal", "block", "breaker"] f fd) (T : Txt K w mg cs) (c_check_goal : Cl P w K mg base (L2.CX P w) 9 "check_goal" (spGoal K cs.BadBlock cs.BadScheme)) (c_is_plain : Cl P w K mg base (L2.CX P w) 7 "is_plain" (spIsPl K cs.BadBreaker)) : FnOk P w K mg base (L2.CX P w) 10 f fd ["goal", "block", "breaker"] (spAttack K cs.BadBlock cs.BadScheme cs.BadBreaker) := by
  refine D.fn.okX sc_check_attack (fun vs H Q E h => ?_) (fun cdv A outer s H vs Q E hr h => ?_)
  · obtain ⟨gv, bv, dv, g, B, D, n, m, k, rfl, _⟩ := h
    rfl
  · obtain ⟨gv, bv, dv, g, B, D0, n, m, k, rfl, hg, gg, hb, gb, m64, hd, gd, q⟩ := h
    have tk := takes_of (X := cxOf (L2.CX P w) P w K mg base ["goal", "block", "breaker"] "check_attack" (defScope s_check_attack) f cdv A outer s H E) (E := E) rfl rfl rfl rfl
    refine ⟨_, (pss_cons (ps_expr (pe_clX c_check_goal hr (by first | decide | omega) (by rfl) tk (pa_cons (pv 0) (pa_cons (pv 1) pa_nil)))) (pss_one (ps_if (pt_not (pt_val (pe_clX c_is_plain hr (by first | decide | omega) (by rfl) tk (pa_cons (pv 2) pa_nil)))) (pss_one (ps_raiseE T.x_BadBreaker rfl tk (by rfl))) pss_nil))), ?_⟩
    refine ⟨_, rfl, _, rfl, gv, bv, g, B, n, m, rfl, hg, gg, hb, gb, m64, ?_⟩
    rcases q with ⟨no, q⟩ | ⟨b, rfl, ok, q⟩
    · exact .inl ⟨no, q⟩
    · refine .inr ⟨b, rfl, ok, fun H1 yes s1 => ?_, fun H1 no s1 => ?_⟩
      · rcases q with ⟨no, _⟩ | ⟨_, q⟩
        · rw [no] at yes
          cases yes
        · refine ⟨_, rfl, dv, D0, k, rfl, dp_same s1 _ hd, gd, fun H2 s2 => ⟨fun br => ⟨_, rfl, ?_⟩, fun br => ?_⟩⟩
          · rcases q with ⟨no, q⟩ | ⟨yes, q⟩
            · unfold isPl at no
              rw [br, Bool.true_and] at no
              rw [no]
              exact q H2 (s1.trans s2)
            · unfold isPl at yes
              rw [br, Bool.true_and] at yes
              rw [yes]
              exact q H2 (s1.trans s2)
          · rcases q with ⟨no, q⟩ | ⟨yes, q⟩
            · exact q H2 (s1.trans s2)
            · unfold isPl at yes
              rw [br] at yes
              cases yes
      · rcases q with ⟨_, q⟩ | ⟨yes, _⟩
        · exact q H1 s1
        · rw [no] at yes
          cases yes

theorem ok_carried {f : Addr} {fd : FuncData} (D : Df K mg "carried" s_carried ["goal", "block", "breaker"] f fd) (T : Txt K w mg cs) (c_check_attack : Cl P w K mg base (L2.CX P w) 10 "check_attack" (spAttack K cs.BadBlock cs.BadScheme cs.BadBreaker)) (c_layers_of : Cl P w K mg base (L2.CX P w) 1 "layers_of" (spLayers K cs.BadScheme)) (c_tables_of : Cl P w K mg base (L2.CX P w) 7 "tables_of" (spTablesA K cs.BadScheme))
    (c_led_to_whole : Cl P w K mg base CX0 1 "led_to_whole" (spLedW K)) (c_led_down : Cl P w K mg base (L2.CX P w) 8 "led_down" (spLedD K)) : FnOk P w K mg base (L2.CX P w) 11 f fd ["goal", "block", "breaker"] (spCarried K cs.BadBlock cs.BadScheme cs.BadBreaker) := by
  refine D.fn.okX sc_carried (fun vs H Q E h => ?_) (fun cdv A outer s H vs Q E hr h => ?_)
  · obtain ⟨gv, bv, dv, g, B, D, n, m, k, rfl, _⟩ := h
    rfl
  · obtain ⟨gv, bv, dv, g, B, D0, n, m, k, rfl, hg, gg, hb, gb, m64, hd, gd, q⟩ := h
    have tk := takes_of (X := cxOf (L2.CX P w) P w K mg base ["goal", "block", "breaker", "layers", "tables", "made", "number", "at", "name", "size", "cost"] "carried" (defScope s_carried) f cdv A outer s H E) (E := E) rfl rfl rfl rfl
    refine ⟨_, (pss_cons (ps_expr (pe_clX c_check_attack hr (by first | decide | omega) (by rfl) tk (pa_cons (pv 0) (pa_cons (pv 1) (pa_cons (pv 2) pa_nil))))) (pss_cons (ps_set (i := 3) sc_carried.nd rfl (.inl rfl) (pe_clX c_layers_of hr (by first | decide | omega) (by rfl) tk (pa_cons (pe_ix (ixT K) (pv 0) (pe_un un_neg pe_int) (fun _ _ => rfl)) pa_nil))) (pss_cons (ps_set (i := 4) sc_carried.nd rfl (.inl rfl) (pe_clX c_tables_of hr (by first | decide | omega) (by rfl) tk (pa_cons (pv 3) (pa_cons (pv 1) pa_nil)))) (pss_cons (ps_asg (pe_cl c_led_to_whole hr (by first | decide | omega) (by rfl) (pa_cons (pv 0) (pa_cons (pe_ix (ixL K) (pv 4) (pe_un un_neg pe_int) (fun _ _ => rfl)) (pa_cons (pv 2) pa_nil)))) (pg_tup (by rfl) (pgs_cons (pg_name (i := 5) sc_carried.nd rfl (.inl rfl)) (pgs_cons (pg_name (i := 6) sc_carried.nd rfl (.inl rfl)) pgs_nil)))) (pss_cons (ps_for (passes_of rfl) rfl (pi_range3 (by rfl) T.n_range (pa_cons (pe_op op_sub (pe_callB (lenS K) (by rfl) T.n_len (by decide +kernel) (pa_cons (pv 3) pa_nil)) pe_int) (pa_cons (pe_un un_neg pe_int) (pa_cons (pe_un un_neg pe_int) pa_nil)))) (pg_name (i := 7) sc_carried.nd rfl (.inl rfl)) (pss_cons (ps_asg (pe_ix (ixL K) (pv 3) (pv 7) (fun _ _ => rfl)) (pg_tup (by rfl) (pgs_cons (pg_name (i := 8) sc_carried.nd rfl (.inl rfl)) (pgs_cons (pg_name (i := 9) sc_carried.nd rfl (.inl rfl)) pgs_nil)))) (pss_cons (ps_asg (pe_clX c_led_down hr (by first | decide | omega) (by rfl) tk (pa_cons (pv 8) (pa_cons (pv 9) (pa_cons (pe_ix (ixL K) (pv 4) (pv 7) (fun _ _ => rfl)) (pa_cons (pv 5) pa_nil))))) (pg_tup (by rfl) (pgs_cons (pg_name (i := 5) sc_carried.nd rfl (.inl rfl)) (pgs_cons (pg_name (i := 10) sc_carried.nd rfl (.inl rfl)) pgs_nil)))) (pss_one (ps_set (i := 6) sc_carried.nd rfl (.inl rfl) (pe_op op_mul (pv 6) (pv 10))))))) (pss_one (ps_ret (pe_tup (pa_cons (pv 5) (pa_cons (pv 6) pa_nil)))))))))), ?_⟩
    refine ⟨_, rfl, _, rfl, _, rfl, gv, bv, dv, g, B, D0, n, m, k, rfl, hg, gg, hb, gb, m64, hd, gd, ?_⟩
    rcases q with ⟨no, q⟩ | ⟨b, rfl, ok, ⟨no, q⟩ | ⟨yes, ⟨no, q⟩ | ⟨z, y, S, ls, t, bs, gi, hz, gf, sch, hl, eb, tb, wy, pm, q⟩⟩⟩
    · exact .inl ⟨no, q⟩
    · exact .inr ⟨b, rfl, ok, .inl ⟨no, q⟩⟩
    · exact .inr ⟨b, rfl, ok, .inr ⟨yes, .inl ⟨no, q⟩⟩⟩
    have okt := built_ok ok eb
    have pl : isPl D0 = true := by
      unfold isPl
      rw [way_brOk wy (by decide), pm]
      rfl
    refine .inr ⟨b, rfl, ok, .inr ⟨yes, .inr ⟨pl, fun H1 s1 => ?_⟩⟩⟩
    obtain ⟨ga, gu, sv, rfl, gT, gL, dS⟩ : ∃ ga gu sv, gv = .ref ga ∧ SqT K H ga gu ∧ atI gu (-1) = some sv ∧ Dp K H sv S := by
      cases gi with
      | two z S h =>
        cases hg with
        | tup hT hA =>
          cases hA with
          | cons h0 hA =>
            cases hA with
            | cons h1 hA =>
              cases hA
              exact ⟨_, _, _, rfl, hT, rfl, h1⟩
      | «open» y S =>
        cases hg with
        | tup hT hA =>
          cases hA with
          | cons h0 hA =>
            cases hA with
            | cons h1 hA =>
              cases hA with
              | cons h2 hA =>
                cases hA
                exact ⟨_, _, _, rfl, hT, rfl, h2⟩
    refine ⟨_, rfl, 1, rfl, ga, _, -1, sv, rfl, rfl, same_sqt s1 gT, gL, ?_⟩
    refine ⟨sv, S, _, rfl, dp_same s1 _ dS, sch_gd sch, fun ls' p H2 e2 s2 ⟨us, eP, hA⟩ => ?_, fun H2 e2 _ => absurd ((sch_lays sch 7 hl).symm.trans e2) (by simp)⟩
    obtain rfl : ls = ls' := Option.some.inj ((sch_lays sch 7 hl).symm.trans e2)
    have s12 := s1.trans s2
    have gls := (lays_gd (sch_gd sch) (sch_lays sch 7 hl)).2
    refine ⟨_, rfl, _, rfl, p, us, bv, ls, b, _, rfl, eP, hA, gls, hl, dp_same s12 _ hb, ok, fun t' L ws bs' H3 e3 s3 eL tb' hlast hW => ?_, fun H3 e3 _ => absurd (eb.symm.trans e3) (by simp)⟩
    obtain rfl : t = t' := Option.some.inj (eb.symm.trans e3)
    obtain rfl := tabs_uniq tb tb'
    have s13 := s12.trans s3
    have eP3 := s3 _ _ eP
    have hA3 := dps_same s3 _ hA
    have oks := tabs_ok tb ok
    have lbs := tabs_len tb
    have lw := dp_all_len hW
    rw [List.length_map, lbs] at lw
    have lus := dp_all_len hA
    rw [List.length_map] at lus
    obtain ⟨wv, hat, hwv⟩ := dp_lastB hW hlast
    refine ⟨_, rfl, _, rfl, 1, rfl, L, _, -1, wv, rfl, rfl, .inl (.inl eL), hat, _, rfl, .ref ga, wv, dv, g, y, S, D0, z, t, rfl, dp_same s13 _ hg, gi, hz, hwv, dp_same s13 _ hd, (fun e => ?_), fun p4 v4 H4 s4 d4 t4 => ?_⟩
    · rcases gf with h | ⟨_, h⟩ | ⟨h, _⟩ | ⟨h, _⟩
      · subst h
        rcases e with e | e <;> exact absurd e (by decide +kernel)
      · exact h
      · rcases h with h | h <;> subst h <;> rcases e with e | e <;> exact absurd e (by decide +kernel)
      · subst h
        rcases e with e | e <;> exact absurd e (by decide +kernel)
    have s14 := s13.trans s4
    have ww := ledW_way okt gf wy pm
    have hlz : ls.length = us.length := lus.symm
    refine ⟨p4, _, rfl, t4, rfl, _, _, rfl, _, _, rfl, rfl, ?_⟩
    refine ⟨_, rfl, p, us, rfl, .inl (.inl (.inl (s4 _ _ eP3))), _, _, rfl, rfl, 1, rfl, 1, rfl, (us.length : Int) - 1, -1, -1, us.length, rfl, ?_, ?_⟩
    · have := RgC.neg (i := (us.length : Int) - 1) (j := -1) (by omega) (by omega) (by omega) (by omega)
      rw [show ((us.length : Int) - 1 - -1).toNat = us.length by omega] at this
      exact this
    refine for_rangeC (fun i σ H' => ∃ (Dc : PyData) (nc : Int) (dvc : V) (y7 y8 y9 y10 : Option V), σ = [some (.ref ga), some bv, some dv, some (.ref p), some (.ref L), some dvc, some (.int nc), y7, y8, y9, y10] ∧ Same H4 H' ∧ Dp K H' dvc Dc ∧ Way (1 + i) Dc ∧ ledAll (ls.zip bs).reverse (ledW z y D0 t) = ledAll ((ls.zip bs).reverse.drop i) (Dc, nc)) ?_ ?_ ?_
    · exact ⟨_, _, v4, none, none, none, none, rfl, Same.refl H4, d4, ww.1, rfl⟩
    · rintro i σ H' hi ⟨Dc, nc, dvc, y7, y8, y9, y10, rfl, s5, hdc, way, el⟩
      obtain ⟨q1, c1, e1, e2, edr⟩ := zip_rev (ls := ls) (bs := bs) lbs (i := i) (by omega)
      rw [edr] at el
      have eat : ((us.length : Int) - 1) + ((i : Nat) : Int) * (-1) = ((ls.length - 1 - i : Nat) : Int) := by omega
      rw [eat]
      obtain ⟨z1, k1, rfl, hz1⟩ := sch_mem sch q1 (List.mem_of_getElem? e1)
      obtain ⟨c1', d1, e2', e3', lay⟩ := tabs_step tb e1
      obtain rfl : c1 = c1' := Option.some.inj (e2.symm.trans e2')
      have c1ok := oks c1 (List.mem_of_getElem? e2)
      obtain ⟨j1, rfl⟩ : ∃ j : Nat, k1 = (j : Int) := by
        rcases lay_some c1ok lay with ⟨_, _, j, _, _, ej, _⟩ | ⟨_, _, j, _, _, ej, _⟩ | ⟨_, _, _, _, j, _, _, ej, _⟩ | ⟨_, _, _, j, _, _, ej, _⟩ <;> exact ⟨j, PyData.int.inj ej⟩
      have eu : us[ls.length - 1 - i]? = some (us[ls.length - 1 - i]'(by omega)) := List.getElem?_eq_getElem (by omega)
      obtain ⟨dd, f1, f2⟩ := dp_all_get hA3 eu
      rw [List.getElem?_map, e1] at f1
      cases f1
      obtain ⟨xa, exa, xT⟩ : ∃ xa, us[ls.length - 1 - i]'(by omega) = .ref xa ∧ SqT K H3 xa [.str z1, .int (j1 : Int)] := by
        generalize us[ls.length - 1 - i]'(by omega) = xx at f2
        cases f2 with
        | tup hT hA =>
          cases hA with
          | cons h0 hA =>
            cases h0
            cases hA with
            | cons h1 hA =>
              cases h1
              cases hA
              exact ⟨_, rfl, hT⟩
      rw [exa] at eu
      have s35 := s4.trans s5
      obtain ⟨tv, et, ht⟩ := dp_at hW e2
      refine ⟨_, rfl, _, rfl, p, us, _, _, rfl, rfl, .inl (.inl (s35 _ _ eP3)), atI_nat eu, ?_⟩
      refine ⟨xa, _, rfl, same_sqt s35 xT, rfl, _, _, rfl, _, _, rfl, rfl, ?_⟩
      have hgn := way.2.1
      have w3 := way.2.2
      refine ⟨_, rfl, _, rfl, _, rfl, _, rfl, L, ws, _, tv, rfl, rfl, .inl (.inl (s35 _ _ eL)), atI_nat et, _, rfl, tv, dvc, z1, j1, c1, d1, Dc, _, rfl, dp_same s35 _ ht, c1ok, lay, hdc, hgn, way_brOk way (by omega), by omega, fun p6 v6 H6 s6 d6 t6 => ?_⟩
      refine ⟨p6, _, rfl, t6, rfl, _, _, rfl, _, _, rfl, rfl, ?_⟩
      obtain ⟨w6, c60, c61⟩ := ledD_way c1ok lay way
      refine ⟨_, rfl, _, rfl, _, _, rfl, rfl, .inr ⟨by omega, by omega⟩, ?_⟩
      refine ⟨_, _, v6, _, _, _, _, rfl, s5.trans s6, d6, ?_, el⟩
      rw [show 1 + (i + 1) = 1 + i + 1 by omega]
      exact w6
    · rintro σ H' ⟨Dc, nc, dvc, y7, y8, y9, y10, rfl, s5, hdc, way, el⟩
      rw [← hlz, List.drop_eq_nil_of_le (by rw [List.length_reverse, List.length_zip]; omega)] at el
      refine ⟨_, rfl, _, rfl, (by show 2 ≤ sizeLine; decide), fun p9 np9 => ?_⟩
      have el' : ledAll (ls.zip bs).reverse (ledW z y D0 t) = (Dc, nc) := el
      rw [el'] at q
      exact q (.ref p9) _ ((s14.trans s5).trans (same_new np9)) (tup_new (Same.refl H') np9 (.cons hdc (.cons (.int nc) .nil)))

end
/-! ### the layers that the law keeps -/
inductive Chain (b : Blk) : List ((PyData × PyData) × Blk) → Blk → Prop where
  | nil : Chain b [] b
  | snoc {tr : List ((PyData × PyData) × Blk)} {t t' : Blk} {q : PyData × PyData} (h : Chain b tr t) (e : lay1 q t = some t') : Chain b (tr ++ [(q, t)]) t'
theorem chain_tabs {b t : Blk} {tr : List ((PyData × PyData) × Blk)} (h : Chain b tr t) : ∃ bs, Tabs (tr.map Prod.fst) b bs ∧ bs.getLast? = some t ∧ (tr.map Prod.fst).zip bs = tr ∧ builtL (tr.map Prod.fst) b = some t := by
  induction h with
  | nil => exact ⟨[b], .nil b, rfl, rfl, rfl⟩
  | @snoc tr t t' q h e ih =>
    obtain ⟨bs, tb, hl, hz, hb⟩ := ih
    obtain ⟨bs0, rfl⟩ := List.getLast?_eq_some_iff.mp hl
    have hlen := tabs_len tb
    rw [List.length_append, List.length_map] at hlen
    have hl0 : (tr.map Prod.fst).length = bs0.length := by
      rw [List.length_map]
      have : bs0.length + 1 = tr.length + 1 := hlen
      omega
    have z1 : (tr.map Prod.fst).zip (bs0 ++ [t]) = (tr.map Prod.fst).zip bs0 := by
      have := List.zip_append (l₁ := tr.map Prod.fst) (l₂ := bs0) (r₁ := []) (r₂ := [t]) hl0
      rw [List.append_nil] at this
      rw [this]
      simp
    refine ⟨(bs0 ++ [t]) ++ [t'], ?_, List.getLast?_concat, ?_, ?_⟩
    · rw [List.map_append]
      exact tabs_snoc tb hl e
    · rw [List.map_append, List.append_assoc, List.zip_append hl0, ← z1, hz]
      rfl
    · rw [List.map_append]
      show builtL (tr.map Prod.fst ++ [q]) b = some t'
      rw [built_snoc, hb]
      exact e
theorem chain_ok {b t : Blk} {tr : List ((PyData × PyData) × Blk)} (h : Chain b tr t) (ok : b.Ok) : (∀ x ∈ tr, x.2.Ok) ∧ t.Ok := by
  induction h with
  | nil => exact ⟨(fun _ h => nomatch h), ok⟩
  | @snoc tr t t' q h e ih =>
    refine ⟨fun x hx => ?_, lay_ok ih.2 e⟩
    rcases List.mem_append.mp hx with h | h
    · exact ih.1 x h
    · rw [List.mem_singleton.mp h]
      exact ih.2
def tripD (x : (PyData × PyData) × Blk) : PyData := .tuple [x.1.1, x.1.2, x.2.D]
def spLScheme32 (K : PySem.W.Frag) : Sp := fun vs H Q _ => ∃ (a d : Addr) (v : V) (b : Blk) (many : Nat), vs = [.ref a, v, .int (many : Int)] ∧ many ≤ 4 ∧ Hnd H a d ∧ BlOn K a H v b ∧ nK b ≤ 2 ∧
  ∀ p sv tv L D tr t H', Sch D (tr.map Prod.fst) → tr.length ≤ 4 → Chain b tr t → Dp K (off a H') sv D → BlOn K a H' tv t → Dp K (off a H') (.ref L) (.list (tr.map tripD)) → SqT K H' p [sv, tv, .ref L] → Hnd H' a d → Keep a H H' → Q (.ref p) H'
theorem trip_pl {tr : List ((PyData × PyData) × Blk)} {D : PyData} (sch : Sch D (tr.map Prod.fst)) (ok : ∀ x ∈ tr, x.2.Ok) : ∀ x ∈ tr.map tripD, ∃ n, Pl n x := by
  intro x hx
  obtain ⟨y, hy, rfl⟩ := List.mem_map.mp hx
  obtain ⟨z, k, e, hz⟩ := sch_mem sch y.1 (List.mem_map.mpr ⟨y, hy, rfl⟩)
  show ∃ n, Pl n (.tuple [y.1.1, y.1.2, y.2.D])
  refine ⟨3 + 1, (by show 3 ≤ 5000; decide), fun w hw => ?_⟩
  rcases List.mem_cons.mp hw with h | hw
  · rw [h, e]
    exact pl_str.mpr hz.okT
  rcases List.mem_cons.mp hw with h | hw
  · rw [h, e]
    exact pl_int
  · rw [List.mem_singleton.mp hw]
    exact blk_pl (ok y hy)
theorem dps_setOff {K : PySem.W.Frag} {a L : Addr} {H : Hp} {ys : List V} {o : HO} {vs : List V} {ds : List PyData} (e : H L = some (.lst ys)) (La : L ≠ a) (hp : ∀ x ∈ ds, ∃ n, Pl n x) (h : DpAll K (off a H) vs ds) : DpAll K (off a (upd H L o)) vs ds := by
  have h1 := dps_offL (L := L) (ys := ys) (by rw [off_ne La]; exact e) ds hp h
  rw [← off_upd (o := o)] at h1
  exact dps_same (off_same L _) _ h1

section
variable {P : Program} {w : World} {K : PySem.W.Frag} {mg : Str → Option Value} {base : Heap} {cs : Cs}
theorem ok_lscheme32 {f : Addr} {fd : FuncData} (D : Df K mg "_law_scheme" s_law_scheme ["hand", "block", "many"] f fd) (T : Txt K w mg cs) (c_law_step : Cl P w K mg base CX0 2 "_law_step" (spLStep K)) (c_law_layer : Cl P w K mg base CX0 3 "_law_layer" (spLayer K)) : FnOk P w K mg base CX0 4 f fd ["hand", "block", "many"] (spLScheme32 K) := by
  refine D.fn.ok sc_law_scheme (fun vs H Q E h => ?_) (fun cdv A outer s H vs Q E hr h => ?_)
  · obtain ⟨a, d, v, b, many, rfl, _⟩ := h
    rfl
  · obtain ⟨a, d, v, b, many, rfl, hm, hh, hb, n2, q⟩ := h
    refine ⟨_, (pss_cons (ps_set (i := 3) sc_law_scheme.nd rfl (.inl rfl) (pe_tup (pa_cons pe_str pa_nil))) (pss_cons (ps_set (i := 4) sc_law_scheme.nd rfl (.inl rfl) (pv 1)) (pss_cons (ps_set (i := 5) sc_law_scheme.nd rfl (.inl rfl) (pe_lst pa_nil)) (pss_cons (ps_for PassesOwn.never rfl (pi_range1 (by rfl) T.n_range (pa_cons (pv 2) pa_nil)) (pg_name (i := 6) sc_law_scheme.nd rfl (.inl rfl)) (pss_cons (ps_asg (pe_cl c_law_step hr (by first | decide | omega) (by rfl) (pa_cons (pv 0) (pa_cons (pv 4) pa_nil))) (pg_tup (by rfl) (pgs_cons (pg_name (i := 7) sc_law_scheme.nd rfl (.inl rfl)) (pgs_cons (pg_name (i := 8) sc_law_scheme.nd rfl (.inl rfl)) pgs_nil)))) (pss_cons (ps_expr (pe_bm PySem.F.plainAttrs_list PySem.F.slot_list_append PySem.F.type_list_append mt_append (pv 5) (pa_cons (pe_tup (pa_cons (pv 7) (pa_cons (pv 8) (pa_cons (pv 4) pa_nil)))) pa_nil))) (pss_cons (ps_set (i := 3) sc_law_scheme.nd rfl (.inl rfl) (pe_tup (pa_cons (pv 7) (pa_cons (pv 8) (pa_cons (pv 3) pa_nil))))) (pss_one (ps_set (i := 4) sc_law_scheme.nd rfl (.inl rfl) (pe_cl c_law_layer hr (by first | decide | omega) (by rfl) (pa_cons (pv 7) (pa_cons (pv 8) (pa_cons (pv 4) pa_nil)))))))))) (pss_one (ps_ret (pe_tup (pa_cons (pv 3) (pa_cons (pv 4) (pa_cons (pv 5) pa_nil)))))))))), ?_⟩
    refine ⟨(by show 1 ≤ sizeLine; decide), fun p1 np1 => ?_⟩
    have n1 := hh.new (o := .tup [.str "block"]) np1
    have k1 := Keep.new (a := a) (o := .tup [.str "block"]) np1
    have d1 : Dp K (off a (upd H p1 (.tup [.str "block"]))) (.ref p1) blkS := new_dp (hh.ne np1).1 upd_same (.cons (.str _) .nil)
    show gName 3 (V.ref p1) _ (upd H p1 (.tup [.str "block"])) _
    generalize upd H p1 (.tup [.str "block"]) = H1 at *
    refine ⟨_, rfl, Nat.zero_le _, fun L nL => ?_⟩
    have nLH : H L = none := k1.free nL (n1.ne nL).1
    obtain ⟨La, Ld⟩ := n1.ne nL
    refine ⟨_, rfl, _, rfl, by omega, by omega, for_range (lo := 0) (n := many) (fun i σ H' => ∃ (sv tv : V) (us : List V) (D : PyData) (tr : List ((PyData × PyData) × Blk)) (t : Blk) (y6 y7 y8 : Option V), σ = [some (.ref a), some v, some (.int (many : Int)), some sv, some tv, some (.ref L), y6, y7, y8] ∧ Sch D (tr.map Prod.fst) ∧ tr.length = i ∧ us.length = i ∧ Chain b tr t ∧ DpAll K (off a H') us (tr.map tripD) ∧ Dp K (off a H') sv D ∧ BlOn K a H' tv t ∧ nK t ≤ 2 ∧ H' L = some (.lst us) ∧ Hnd H' a d ∧ Keep a H H') ?_ ?_ ?_⟩
    · exact ⟨.ref p1, v, [], blkS, [], b, none, none, none, rfl, .nil, rfl, rfl, .nil, .nil, dp_same (Keep.new nL).off _ d1, (hb.keep k1).keep (Keep.new nL), n2, upd_same, n1.new nL, k1.trans (Keep.new nL)⟩
    · rintro i σ H' hi ⟨sv, tv, us, D, tr, t, y6, y7, y8, rfl, sch, hl, hul, ch, dU, dv, bt, nt, eL, hn, kp⟩
      refine ⟨_, rfl, _, rfl, a, d, tv, t, rfl, hn, bt, nt, fun p2 z k t' H2 e2 T2 hn2 k2 => ?_⟩
      have eL2 := k2 _ _ eL La
      refine ⟨p2, _, rfl, T2, rfl, _, _, rfl, _, _, rfl, rfl, ?_⟩
      refine ⟨_, rfl, .inl ⟨rfl, _, .inl (.inl eL2)⟩, _, rfl, _, rfl, _, rfl, (by show 3 ≤ sizeLine; decide), fun p3 np3 => ?_⟩
      have n3 := hn2.new (o := .tup [.str z, .int k, tv]) np3
      have k3 := Keep.new (a := a) (o := .tup [.str z, .int k, tv]) np3
      have eL3 := k3 _ _ eL2 La
      have k23 := k2.trans k3
      have dv3 := dp_setOff (o := .lst (us ++ [.ref p3])) eL3 La (sch_pl sch) (dp_same k23.off _ dv)
      have bt3 := dp_setOff (o := .lst (us ++ [.ref p3])) eL3 La (blk_pl bt.2) (dp_same k23.off _ bt.1)
      have oks := (chain_ok ch hb.2).1
      have d3 : Dp K (off a (upd H2 p3 (.tup [.str z, .int k, tv]))) (.ref p3) (tripD ((.str z, .int k), t)) := new_dp (hn2.ne np3).1 upd_same (.cons (.str z) (.cons (.int k) (.cons (dp_same k23.off _ bt.1) .nil)))
      have dU3 := dps_same k23.off _ dU
      have dU4 := dps_setOff (o := .lst (us ++ [.ref p3])) (vs := us ++ [.ref p3]) (ds := tr.map tripD ++ [tripD ((.str z, .int k), t)]) eL3 La (by
        intro x hx
        rcases List.mem_append.mp hx with h | h
        · exact trip_pl sch oks x h
        · rw [List.mem_singleton.mp h]
          show ∃ n, Pl n (.tuple [.str z, .int k, t.D])
          refine ⟨3 + 1, (by show 3 ≤ 5000; decide), fun w hw => ?_⟩
          rcases List.mem_cons.mp hw with h | hw
          · rw [h]
            exact pl_str.mpr (lay_name bt.2 e2).okT
          rcases List.mem_cons.mp hw with h | hw
          · rw [h]
            exact pl_int
          · rw [List.mem_singleton.mp hw]
            exact blk_pl bt.2) (dps_app dU3 (.cons d3 .nil))
      have n4 := n3.set (o := .lst (us ++ [.ref p3])) La Ld
      have k4 : Keep a H (upd (upd H2 p3 (.tup [.str z, .int k, tv])) L (.lst (us ++ [.ref p3]))) := (kp.trans k23).set nLH
      have eL4 : upd (upd H2 p3 (.tup [.str z, .int k, tv])) L (.lst (us ++ [.ref p3])) L = some (.lst (us ++ [.ref p3])) := upd_same
      refine ⟨L, _, _, rfl, rfl, eL3, by rw [hul, sizeLine_eq]; omega, ?_⟩
      generalize upd (upd H2 p3 (.tup [.str z, .int k, tv])) L (.lst (us ++ [.ref p3])) = H4 at *
      refine ⟨_, rfl, _, rfl, _, rfl, (by show 3 ≤ sizeLine; decide), fun p4 np4 => ?_⟩
      have k5 := Keep.new (a := a) (o := .tup [.str z, .int k, sv]) np4
      have n5 := n4.new (o := .tup [.str z, .int k, sv]) np4
      have d5 : Dp K (off a (upd H4 p4 (.tup [.str z, .int k, sv]))) (.ref p4) (.tuple [.str z, .int k, D]) := new_dp (n4.ne np4).1 upd_same (.cons (.str _) (.cons (.int _) (.cons (dp_same k5.off _ dv3) .nil)))
      have bt5 := dp_same k5.off _ bt3
      have dU5 := dps_same k5.off _ dU4
      have eL5 := k5 _ _ eL4 La
      show gName 3 (V.ref p4) _ (upd H4 p4 (.tup [.str z, .int k, sv])) _
      generalize upd H4 p4 (.tup [.str z, .int k, sv]) = H5 at *
      refine ⟨_, rfl, _, rfl, _, rfl, tv, t, t', z, k, rfl, dp_same (off_same a H5) _ bt5, bt.2, e2, fun v' H6 s6 d6 => ?_⟩
      have ok' := lay_ok bt.2 e2
      have k6 := Keep.same (a := a) s6
      refine ⟨.ref p4, v', us ++ [.ref p3], _, tr ++ [((.str z, .int k), t)], t', _, _, _, rfl, by rw [List.map_append]; exact .cons (lay_name bt.2 e2) sch, by rw [List.length_append, hl]; rfl, by rw [List.length_append, hul]; rfl, .snoc ch e2, by rw [List.map_append]; exact dps_same k6.off _ dU5, dp_same k6.off _ d5, ⟨dp_offH (n5.same s6) (blk_pl ok') d6, ok'⟩, by rw [lay_nK bt.2 e2]; exact nt, s6 _ _ eL5, n5.same s6, (k4.trans k5).trans k6⟩
    · rintro σ H' ⟨sv, tv, us, D, tr, t, y6, y7, y8, rfl, sch, hl, hul, ch, dU, dv, bt, nt, eL, hn, kp⟩
      refine ⟨_, rfl, _, rfl, _, rfl, (by show 3 ≤ sizeLine; decide), fun p np => ?_⟩
      have kn := Keep.new (a := a) (o := .tup [sv, tv, .ref L]) np
      exact q p sv tv L D tr t _ sch (by omega) ch (dp_same kn.off _ dv) (bt.keep kn) (.lst (.inl (.inl (by rw [off_ne La]; exact kn _ _ eL La))) (dps_same kn.off _ dU)) (.inl (.inl upd_same)) (hn.new np) (kp.trans (Keep.new np))

end
/-! ### goals that the law draws; what is refused -/
def DX (K : PySem.W.Frag) (a : Addr) (H : Hp) (v : V) (D : PyData) : Prop := Dp K (off a H) v D ∧ ∃ n, Gd n D
theorem DX.keep {K : PySem.W.Frag} {a : Addr} {H H' : Hp} {v : V} {D : PyData} (h : DX K a H v D) (k : Keep a H H') : DX K a H' v D := ⟨dp_same k.off _ h.1, h.2⟩
theorem DX.on {K : PySem.W.Frag} {a : Addr} {H : Hp} {v : V} {D : PyData} (h : DX K a H v D) : Dp K H v D := dp_same (off_same a H) _ h.1
theorem sch_built {D : PyData} {ls : List (PyData × PyData)} {b t : Blk} (h : Sch D ls) (hl : ls.length ≤ 7) (e : builtL ls b = some t) : builtD D b = some t := by
  unfold builtD
  rw [sch_lays h 7 hl]
  exact e
theorem goal_two {z : Str} {D : PyData} {b t : Blk} (hz : z ∈ aboK) (zo : z ≠ "opening") (e : builtD D b = some t) (k : aboF z = "any" ∨ aboF z = kindB t) : goalOk (.tuple [.str z, D]) b = true := by
  show (decide (z ∈ aboK) && (decide (([D] : List PyData).length + 1 = if z = "opening" then 3 else 2) && (match builtD (([D] : List PyData).getLastD (.str z)) b with
    | some w => goalW z w (([D] : List PyData).headD .none)
    | none => false))) = true
  rw [decide_eq_true hz, if_neg zo, show builtD (([D] : List PyData).getLastD (.str z)) b = some t from e]
  show goalW z t D = true
  unfold goalW
  rw [decide_eq_false zo]
  rcases k with k | k
  · rw [decide_eq_true k]
    rfl
  · rw [decide_eq_true k, Bool.or_true]
    rfl
theorem goal_open {D : PyData} {b : Blk} {n m : Nat} {rows : List (List Bool)} {s : List Bool} (e : builtD D b = some (.gen n m rows)) (hs : s.length = m) : goalOk (.tuple [.str "opening", .str (sb s), D]) b = true := by
  show (decide (("opening" : Str) ∈ aboK) && (decide (([.str (sb s), D] : List PyData).length + 1 = if ("opening" : Str) = "opening" then 3 else 2) && (match builtD (([.str (sb s), D] : List PyData).getLastD (.str "opening")) b with
    | some w => goalW "opening" w (([.str (sb s), D] : List PyData).headD .none)
    | none => false))) = true
  rw [decide_eq_true (show ("opening" : Str) ∈ aboK by decide +kernel), if_pos rfl, show builtD (([.str (sb s), D] : List PyData).getLastD (.str "opening")) b = some (.gen n m rows) from e]
  show goalW "opening" (.gen n m rows) (.str (sb s)) = true
  unfold goalW
  have hr := rows_ok (many := 1) (m := m) (rows := [s]) rfl (fun r hr => by rw [List.mem_singleton.mp hr]; exact hs)
  have hr' : rowsOk (.tuple [.str (sb s)]) 1 (wideB (.gen n m rows) : Int) = true := hr
  rw [hr', Bool.or_true, Bool.and_true]
  show (decide (aboF "opening" = "any") || decide (aboF "opening" = "generator")) = true
  decide +kernel
theorem new_dx {K : PySem.W.Frag} {a d p : Addr} {H : Hp} {vs : List V} {ds : List PyData} (hh : Hnd H a d) (np : H p = none) (h : DpAll K (off a H) vs ds) (hl : ds.length ≤ 100) (g : ∃ n, ∀ x ∈ ds, Gd n x) : Hnd (upd H p (.tup vs)) a d ∧ Keep a H (upd H p (.tup vs)) ∧ DX K a (upd H p (.tup vs)) (.ref p) (.tuple ds) := by
  obtain ⟨n, g⟩ := g
  have k := Keep.new (a := a) (o := .tup vs) np
  exact ⟨hh.new np, k, new_dp (hh.ne np).1 upd_same (dps_same k.off _ h), n + 1, by show ds.length ≤ 5000; omega, g⟩
theorem new_dxl {K : PySem.W.Frag} {a d p : Addr} {H : Hp} {vs : List V} {ds : List PyData} (hh : Hnd H a d) (np : H p = none) (h : DpAll K (off a H) vs ds) (hl : ds.length ≤ 100) (g : ∃ n, ∀ x ∈ ds, Gd n x) : Hnd (upd H p (.lst vs)) a d ∧ Keep a H (upd H p (.lst vs)) ∧ DX K a (upd H p (.lst vs)) (.ref p) (.list ds) := by
  obtain ⟨n, g⟩ := g
  have k := Keep.new (a := a) (o := .lst vs) np
  have e : upd H p (.lst vs) p = some (.lst vs) := upd_same
  exact ⟨hh.new np, k, .lst (.inl (.inl (by rw [off_ne (hh.ne np).1]; exact e))) (dps_same k.off _ h), n + 1, by show ds.length ≤ 5000; omega, g⟩
def spLGoal32 (K : PySem.W.Frag) : Sp := fun vs H Q _ => ∃ (a d : Addr) (sv tv : V) (D : PyData) (ls : List (PyData × PyData)) (b t : Blk), vs = [.ref a, sv, tv] ∧ Hnd H a d ∧ Sch D ls ∧ ls.length ≤ 7 ∧ builtL ls b = some t ∧ Dp K (off a H) sv D ∧ BlOn K a H tv t ∧
  ∀ v g z y H', goalOk g b = true → GoalIs g z y D → z ∈ aboK → GoalFit z y t → DX K a H' v g → Hnd H' a d → Keep a H H' → Q v H'

section
variable {P : Program} {w : World} {K : PySem.W.Frag} {mg : Str → Option Value} {base : Heap} {cs : Cs}
theorem ok_lgoal32 {f : Addr} {fd : FuncData} (D : Df K mg "_law_goal" s_law_goal ["hand", "scheme", "table"] f fd) (T : Txt K w mg cs) (c_law_take : Cl P w K mg base CX0 1 "_law_take" spTake) (c_law_string : Cl P w K mg base CX0 2 "_law_string" spString) : FnOk P w K mg base CX0 3 f fd ["hand", "scheme", "table"] (spLGoal32 K) := by
  refine D.fn.ok sc_law_goal (fun vs H Q E h => ?_) (fun cdv A outer s H vs Q E hr h => ?_)
  · obtain ⟨a, d, sv, tv, D, ls, b, t, rfl, _⟩ := h
    rfl
  · obtain ⟨a, d, sv, tv, D, ls, b, t, rfl, hh, sch, hl, eb, dv, bt, q⟩ := h
    refine ⟨_, (pss_cons (ps_set (i := 3) sc_law_goal.nd rfl (.inl rfl) (pe_lst (pa_cons pe_str (pa_cons pe_str (pa_cons pe_str (pa_cons pe_str pa_nil)))))) (pss_cons (ps_if (pt_cmpR op_eq (pe_ix (ixT K) (pv 2) pe_int (fun _ _ => rfl)) pe_str (nomark _)) (pss_one (ps_set (i := 3) sc_law_goal.nd rfl (.inl rfl) (pe_lst (pa_cons pe_str (pa_cons pe_str (pa_cons pe_str (pa_cons pe_str pa_nil))))))) pss_nil) (pss_cons (ps_set (i := 4) sc_law_goal.nd rfl (.inl rfl) (pe_ix (ixL K) (pv 3) (pe_cl c_law_take hr (by first | decide | omega) (by rfl) (pa_cons (pv 0) (pa_cons pe_int pa_nil))) (fun _ _ => rfl))) (pss_cons (ps_if (pt_cmpR op_eq (pv 4) pe_str (nomark _)) (pss_one (ps_ret (pe_tup (pa_cons (pv 4) (pa_cons (pe_cl c_law_string hr (by first | decide | omega) (by rfl) (pa_cons (pv 0) (pa_cons (pe_ix (ixT K) (pv 2) pe_int (fun _ _ => rfl)) pa_nil))) (pa_cons (pv 1) pa_nil)))))) pss_nil) (pss_one (ps_ret (pe_tup (pa_cons (pv 4) (pa_cons (pv 1) pa_nil))))))))), ?_⟩
    have eD := sch_built sch hl eb
    have gD := sch_gd sch
    have two : ∀ (z : Str) (H1 : Hp) p, z ∈ aboK → z ≠ "opening" → (aboF z = "any" ∨ aboF z = kindB t) → GoalFit z .none t → Hnd H1 a d → Keep a H H1 → H1 p = none → Q (.ref p) (upd H1 p (.tup [.str z, sv])) := by
      intro z H1 p hz zo hk gf n1 k1 np
      have hz2 : okT z := by
        unfold aboK at hz
        simp only [List.mem_cons, List.not_mem_nil, or_false] at hz
        rcases hz with e | e | e | e | e | e <;> subst e <;> exact ⟨by decide +kernel, by decide +kernel⟩
      obtain ⟨n2, k2, x2⟩ := new_dx (K := K) n1 np (.cons (.str z) (.cons (dp_same k1.off _ dv) .nil)) (by show 2 ≤ 100; decide) ⟨ls.length + 1, fun x hx => by
        rcases List.mem_cons.mp hx with e | hx
        · rw [e]
          exact hz2
        · rw [List.mem_singleton.mp hx]
          exact gD⟩
      exact q _ _ z .none _ (goal_two hz zo eD hk) (.two z D zo) hz gf x2 n2 (k1.trans k2)
    refine ⟨(by show 4 ≤ sizeLine; decide), fun L nL => ?_⟩
    have n1 := hh.new (o := .lst [.str "tell", .str "once", .str "opening", .str "next"]) nL
    have k1 := Keep.new (a := a) (o := .lst [.str "tell", .str "once", .str "opening", .str "next"]) nL
    have La := (hh.ne nL).1
    have eL : upd H L (.lst [.str "tell", .str "once", .str "opening", .str "next"]) L = some (.lst [.str "tell", .str "once", .str "opening", .str "next"]) := upd_same
    show gName 3 (V.ref L) _ (upd H L (.lst [.str "tell", .str "once", .str "opening", .str "next"])) _
    generalize upd H L (.lst [.str "tell", .str "once", .str "opening", .str "next"]) = H1 at *
    have bt1 := bt.keep k1
    cases t with
    | fn n l m tabs =>
      obtain ⟨c, r, rfl, hT, _⟩ := dp_fun bt1.1
      have hT := sqt_on hT
      refine ⟨_, rfl, c, _, 0, _, rfl, rfl, hT, at0, rfl, _, rfl, ?_⟩
      rw [decide_eq_true rfl]
      refine ⟨(by show 4 ≤ sizeLine; decide), fun M nM => ?_⟩
      have n2 := n1.new (o := .lst [.str "tell", .str "marks", .str "secrets", .str "tell"]) nM
      have k2 := Keep.new (a := a) (o := .lst [.str "tell", .str "marks", .str "secrets", .str "tell"]) nM
      have Ma := (n1.ne nM).1
      refine ⟨_, rfl, _, rfl, a, d, 4, rfl, by decide, n2, fun r1 H3 l1 u1 n3 k3 => ?_⟩
      have eM := k3 _ _ upd_same Ma
      have kk := (k1.trans k2).trans k3
      have er : r1 = 0 ∨ r1 = 1 ∨ r1 = 2 ∨ r1 = 3 := by omega
      rcases er with e | e | e | e <;> subst e
      · refine ⟨M, _, 0, _, rfl, rfl, .inl (.inl eM), rfl, _, rfl, rfl, _, rfl, ?_⟩
        exact ⟨_, rfl, _, rfl, (by show 2 ≤ sizeLine; decide), fun p np => two "tell" H3 p (by decide +kernel) (by decide +kernel) (.inl (by decide +kernel)) (.inl rfl) n3 kk np⟩
      · refine ⟨M, _, 1, _, rfl, rfl, .inl (.inl eM), rfl, _, rfl, rfl, _, rfl, ?_⟩
        exact ⟨_, rfl, _, rfl, (by show 2 ≤ sizeLine; decide), fun p np => two "marks" H3 p (by decide +kernel) (by decide +kernel) (.inr (show aboF "marks" = "function" by decide +kernel)) (.inr (.inl ⟨.inl rfl, _, _, _, _, rfl⟩)) n3 kk np⟩
      · refine ⟨M, _, 2, _, rfl, rfl, .inl (.inl eM), rfl, _, rfl, rfl, _, rfl, ?_⟩
        exact ⟨_, rfl, _, rfl, (by show 2 ≤ sizeLine; decide), fun p np => two "secrets" H3 p (by decide +kernel) (by decide +kernel) (.inr (show aboF "secrets" = "function" by decide +kernel)) (.inr (.inl ⟨.inr rfl, _, _, _, _, rfl⟩)) n3 kk np⟩
      · refine ⟨M, _, 3, _, rfl, rfl, .inl (.inl eM), rfl, _, rfl, rfl, _, rfl, ?_⟩
        exact ⟨_, rfl, _, rfl, (by show 2 ≤ sizeLine; decide), fun p np => two "tell" H3 p (by decide +kernel) (by decide +kernel) (.inl (by decide +kernel)) (.inl rfl) n3 kk np⟩
    | gen n m rows =>
      have wf : Wf n m rows := bt.2
      have hm40 := wf.m2
      obtain ⟨c, r, rfl, hT, _⟩ := dp_tab bt1.1
      have hT0 := hT
      have hT := sqt_on hT
      refine ⟨_, rfl, c, _, 0, _, rfl, rfl, hT, at0, rfl, _, rfl, ?_⟩
      refine ⟨_, rfl, _, rfl, a, d, 4, rfl, by decide, n1, fun r1 H3 l1 u1 n3 k3 => ?_⟩
      have eL3 := k3 _ _ eL La
      have kk := k1.trans k3
      have er : r1 = 0 ∨ r1 = 1 ∨ r1 = 2 ∨ r1 = 3 := by omega
      rcases er with e | e | e | e <;> subst e
      · refine ⟨L, _, 0, _, rfl, rfl, .inl (.inl eL3), rfl, _, rfl, rfl, _, rfl, ?_⟩
        exact ⟨_, rfl, _, rfl, (by show 2 ≤ sizeLine; decide), fun p np => two "tell" H3 p (by decide +kernel) (by decide +kernel) (.inl (by decide +kernel)) (.inl rfl) n3 kk np⟩
      · refine ⟨L, _, 1, _, rfl, rfl, .inl (.inl eL3), rfl, _, rfl, rfl, _, rfl, ?_⟩
        exact ⟨_, rfl, _, rfl, (by show 2 ≤ sizeLine; decide), fun p np => two "once" H3 p (by decide +kernel) (by decide +kernel) (.inr (show aboF "once" = "generator" by decide +kernel)) (.inr (.inr (.inl ⟨.inl rfl, _, _, _, rfl⟩))) n3 kk np⟩
      · refine ⟨L, _, 2, _, rfl, rfl, .inl (.inl eL3), rfl, _, rfl, rfl, _, rfl, ?_⟩
        refine ⟨_, rfl, _, rfl, _, rfl, c, _, 2, _, rfl, rfl, sqt_on (same_sqt k3.off hT0), rfl, a, d, m, rfl, by omega, n3, fun bs H4 hbs n4 k4 => ⟨_, rfl, (by show 3 ≤ sizeLine; decide), fun p np => ?_⟩⟩
        obtain ⟨n5, k5, x5⟩ := new_dx (K := K) n4 np (.cons (.str "opening") (.cons (.str (sb bs)) (.cons (dp_same (kk.trans k4).off _ dv) .nil))) (by show 3 ≤ 100; decide) ⟨ls.length + 1, fun x hx => by
          rcases List.mem_cons.mp hx with e | hx
          · rw [e]
            exact pl_gd (pl_str.mpr ⟨by decide +kernel, by decide +kernel⟩)
          rcases List.mem_cons.mp hx with e | hx
          · rw [e]
            exact pl_gd (pl_str.mpr (okT_sb (by omega)))
          · rw [List.mem_singleton.mp hx]
            exact gD⟩
        exact q _ _ "opening" _ _ (goal_open eD hbs) (.open _ D) (by decide +kernel) (.inr (.inr (.inr ⟨rfl, _, _, _, bs, rfl, rfl, hbs⟩))) x5 n5 ((kk.trans k4).trans k5)
      · refine ⟨L, _, 3, _, rfl, rfl, .inl (.inl eL3), rfl, _, rfl, rfl, _, rfl, ?_⟩
        exact ⟨_, rfl, _, rfl, (by show 2 ≤ sizeLine; decide), fun p np => two "next" H3 p (by decide +kernel) (by decide +kernel) (.inr (show aboF "next" = "generator" by decide +kernel)) (.inr (.inr (.inl ⟨.inr rfl, _, _, _, rfl⟩))) n3 kk np⟩

end
/-! ### plain breakers as trees -/
inductive Pa where
  | bit (b : Bool)
  | ref (i : Nat)
inductive Br where
  | say (ps : List Pa)
  | toss (bs : List Br)
  | look (i : Nat) (a b : Br)
  | ask (ps : List Pa) (a : Br)
def paD : Pa → PyData
  | .bit b => .str (sb [b])
  | .ref i => .int (i : Int)
def psD (ps : List Pa) : PyData := .tuple (ps.map paD)
mutual
def brD : Br → PyData
  | .say ps => .tuple [.str "say", psD ps]
  | .toss bs => .tuple [.str "toss", .tuple (brsD bs)]
  | .look i a b => .tuple [.str "look", .int (i : Int), brD a, brD b]
  | .ask ps a => .tuple [.str "ask", psD ps, brD a]
def brsD : List Br → List PyData
  | [] => []
  | b :: bs => brD b :: brsD bs
end
def paOk : Pa → Prop
  | .bit _ => True
  | .ref i => i ≤ 9999
def okB : Nat → Br → Prop
  | 0, _ => False
  | n + 1, .say ps => ∀ p ∈ ps, paOk p
  | n + 1, .toss bs => bs ≠ [] ∧ ∀ b ∈ bs, okB n b
  | n + 1, .look i a b => i ≤ 9999 ∧ okB n a ∧ okB n b
  | n + 1, .ask ps a => (∀ p ∈ ps, paOk p) ∧ okB n a
theorem named_inv {x : Str} {k : PyData} (h : named x k = true) : k = .str x := by
  unfold named at h
  cases k with
  | str z =>
    simp only [PyData.eqv] at h
    rw [eq_of_beq h]
  | _ => simp only [PyData.eqv] at h; cases h
theorem part_inv {d : PyData} (h : partOk d = true) : ∃ p, d = paD p ∧ paOk p := by
  cases d with
  | str x =>
    have h : (decide (x = "0") || decide (x = "1")) = true := h
    rcases Bool.or_eq_true_iff.mp h with e | e
    · have e := of_decide_eq_true e
      subst e
      exact ⟨.bit false, by show PyData.str "0" = .str (sb [false]); congr 1, trivial⟩
    · have e := of_decide_eq_true e
      subst e
      exact ⟨.bit true, by show PyData.str "1" = .str (sb [true]); congr 1, trivial⟩
  | int i =>
    have h : (decide (0 ≤ i) && decide (i ≤ 9999)) = true := h
    obtain ⟨h1, h2⟩ := Bool.and_eq_true_iff.mp h
    have h1 := of_decide_eq_true h1
    have h2 := of_decide_eq_true h2
    refine ⟨.ref i.toNat, ?_, ?_⟩
    · show PyData.int i = .int ((i.toNat : Nat) : Int)
      rw [show ((i.toNat : Nat) : Int) = i by omega]
    · show i.toNat ≤ 9999
      omega
  | _ => cases h
theorem parts_inv {p : PyData} (h : partsOk p = true) : ∃ ps, p = psD ps ∧ ∀ q ∈ ps, paOk q := by
  cases p with
  | tuple xs =>
    have h : xs.all partOk = true := h
    induction xs with
    | nil => exact ⟨[], rfl, fun _ h => nomatch h⟩
    | cons x xs ih =>
      rw [List.all_cons, Bool.and_eq_true] at h
      obtain ⟨q, rfl, hq⟩ := part_inv h.1
      obtain ⟨ps, e, hp⟩ := ih h.2 h.2
      injection e with e
      subst e
      refine ⟨q :: ps, rfl, fun y hy => ?_⟩
      rcases List.mem_cons.mp hy with z | z
      · rw [z]
        exact hq
      · exact hp y z
  | _ => cases h
theorem brs_view {n : Nat} (ih : ∀ D, okN n D = true → ∃ b, D = brD b ∧ okB n b) : ∀ xs : List PyData, xs.all (okN n) = true → ∃ bs, xs = brsD bs ∧ ∀ b ∈ bs, okB n b
  | [], _ => ⟨[], rfl, fun _ h => nomatch h⟩
  | x :: xs, h => by
    rw [List.all_cons, Bool.and_eq_true] at h
    obtain ⟨b, rfl, hb⟩ := ih x h.1
    obtain ⟨bs, rfl, hbs⟩ := brs_view ih xs h.2
    refine ⟨b :: bs, rfl, fun y hy => ?_⟩
    rcases List.mem_cons.mp hy with z | z
    · rw [z]
      exact hb
    · exact hbs y z
theorem br_view : ∀ (n : Nat) (D : PyData), okN n D = true → ∃ b, D = brD b ∧ okB n b
  | 0, D, h => by cases h
  | n + 1, D, h => by
    obtain ⟨h1, h2⟩ := Bool.and_eq_true_iff.mp (show (looksOk D && (kidsD D).all (okN n)) = true from h)
    cases D with
    | tuple xs =>
      cases xs with
      | nil => cases h1
      | cons k r =>
        have h1 : (if named "say" k then sayOk r else if named "toss" k then tossOk r else if named "look" k then lookOk r else named "ask" k && askOk r) = true := h1
        by_cases c1 : named "say" k = true
        · rw [if_pos c1] at h1
          obtain rfl := named_inv c1
          match r, h1 with
          | [p], h1 =>
            obtain ⟨ps, rfl, hp⟩ := parts_inv h1
            exact ⟨.say ps, rfl, hp⟩
        · rw [if_neg c1] at h1
          by_cases c2 : named "toss" k = true
          · rw [if_pos c2] at h1
            have ek := named_inv c2
            match r, h1 with
            | [.tuple xs], h1 =>
              have hk : kidsD (.tuple [k, .tuple xs]) = xs := by
                show (if named "toss" k then xs else _) = xs
                rw [if_pos c2]
              rw [hk] at h2
              obtain ⟨bs, rfl, hb⟩ := brs_view (br_view n) xs h2
              obtain ⟨l1, _⟩ := Bool.and_eq_true_iff.mp (show (decide ((1 : Int) ≤ ((brsD bs).length : Int)) && decide (((brsD bs).length : Int) ≤ 64)) = true from h1)
              have l1 := of_decide_eq_true l1
              subst ek
              refine ⟨.toss bs, rfl, fun e => ?_, hb⟩
              subst e
              exact absurd l1 (by decide)
          · rw [if_neg c2] at h1
            have hk : kidsD (.tuple (k :: r)) = r.drop 1 := by
              show (if named "toss" k then _ else r.drop 1) = r.drop 1
              rw [if_neg c2]
            rw [hk] at h2
            by_cases c3 : named "look" k = true
            · rw [if_pos c3] at h1
              obtain rfl := named_inv c3
              match r, h1, h2 with
              | [m, x, y], h1, h2 =>
                have h2 : (okN n x && (okN n y && true)) = true := h2
                rw [Bool.and_true, Bool.and_eq_true] at h2
                obtain ⟨a, rfl, ha⟩ := br_view n x h2.1
                obtain ⟨b, rfl, hb⟩ := br_view n y h2.2
                have h1 : whole m 0 9999 = true := h1
                cases m with
                | int i =>
                  obtain ⟨p, e, hp⟩ := part_inv (d := .int i) h1
                  cases p with
                  | ref j =>
                    injection e with e
                    subst e
                    exact ⟨.look j a b, rfl, hp, ha, hb⟩
                  | bit _ => cases e
                | _ => cases h1
            · rw [if_neg c3] at h1
              obtain ⟨c4, h1⟩ := Bool.and_eq_true_iff.mp h1
              obtain rfl := named_inv c4
              match r, h1, h2 with
              | [p, x], h1, h2 =>
                have h3 : (okN n x && true) = true := h2
                rw [Bool.and_true] at h3
                obtain ⟨ps, rfl, hp⟩ := parts_inv h1
                obtain ⟨a, rfl, ha⟩ := br_view n x h3
                exact ⟨.ask ps a, rfl, hp, ha⟩
    | _ => cases h1
theorem brsD_len : ∀ bs : List Br, (brsD bs).length = bs.length
  | [] => rfl
  | b :: bs => congrArg Nat.succ (brsD_len bs)
theorem brsD_map : ∀ bs : List Br, brsD bs = bs.map brD
  | [] => rfl
  | b :: bs => congrArg (brD b :: ·) (brsD_map bs)
theorem brsD_at : ∀ {bs : List Br} {i : Nat} {d : PyData}, (brsD bs)[i]? = some d → ∃ b, bs[i]? = some b ∧ d = brD b
  | [], i, d, h => by cases i <;> cases h
  | b :: bs, 0, d, h => ⟨b, rfl, (Option.some.inj h).symm⟩
  | b :: bs, i + 1, d, h => brsD_at (bs := bs) (i := i) h

section
variable {P : Program} {w : World} {K : PySem.W.Frag} {mg : Str → Option Value} {base : Heap} {cs : Cs}
theorem ok_lawparts {f : Addr} {fd : FuncData} (D : Df K mg "_law_parts" s_law_parts ["hand", "length"] f fd) (T : Txt K w mg cs) (c_law_take : Cl P w K mg base CX0 1 "_law_take" spTake) : FnOk P w K mg base CX0 2 f fd ["hand", "length"] (spParts8 K) := by
  refine D.fn.ok sc_law_parts (fun vs H Q E h => ?_) (fun cdv A outer s H vs Q E hr h => ?_)
  · obtain ⟨a, d, len, rfl, _⟩ := h
    rfl
  · obtain ⟨a, d, len, rfl, hlen, hh, q⟩ := h
    refine ⟨_, (pss_cons (ps_set (i := 2) sc_law_parts.nd rfl (.inl rfl) (pe_lst pa_nil)) (pss_cons (ps_for PassesOwn.never rfl (pi_range1 (by rfl) T.n_range (pa_cons (pv 1) pa_nil)) (pg_name (i := 3) sc_law_parts.nd rfl (.inl rfl)) (pss_cons (ps_set (i := 4) sc_law_parts.nd rfl (.inl rfl) (pe_cl c_law_take hr (by first | decide | omega) (by rfl) (pa_cons (pv 0) (pa_cons pe_int pa_nil)))) (pss_one (ps_if (pt_cmpR op_lt (pv 4) pe_int (nomark _)) (pss_one (ps_expr (pe_bm PySem.F.plainAttrs_list PySem.F.slot_list_append PySem.F.type_list_append mt_append (pv 2) (pa_cons (pe_ix (ixL K) (pe_lst (pa_cons pe_str (pa_cons pe_str pa_nil))) (pv 4) (fun _ _ => rfl)) pa_nil)))) (pss_one (ps_expr (pe_bm PySem.F.plainAttrs_list PySem.F.slot_list_append PySem.F.type_list_append mt_append (pv 2) (pa_cons (pe_cl c_law_take hr (by first | decide | omega) (by rfl) (pa_cons (pv 0) (pa_cons pe_int pa_nil))) pa_nil)))))))) (pss_one (ps_ret (pe_callTy (tupOf K) (by rfl) T.n_tuple (by decide +kernel) (pa_cons (pv 2) pa_nil)))))), ?_⟩
    refine ⟨Nat.zero_le _, fun L nL => ?_⟩
    have hL := hh.ne nL
    refine ⟨_, rfl, _, rfl, by omega, by omega, for_range (lo := 0) (n := len) (fun i σ H' => ∃ (ws : List V) (ds : List PyData) (y3 y4 : Option V), σ = [some (.ref a), some (.int (len : Int)), some (.ref L), y3, y4] ∧ ws.length = i ∧ DpAll K (fun _ => none) ws ds ∧
      (∀ x ∈ ds, partOk x = true ∧ Pz 0 x) ∧ H' L = some (.lst ws) ∧ Hnd H' a d ∧ Keep a H H') ?_ ?_ ?_⟩
    · exact ⟨[], [], none, none, rfl, rfl, .nil, fun x hx => (nomatch hx), upd_same, hh.new nL, Keep.new nL⟩
    · rintro i σ H' hi ⟨ws, ds, y3, y4, rfl, hl, hA, hx, eL, h1, k1⟩
      refine ⟨_, rfl, a, d, 5, rfl, by decide, h1, fun r H1 l1 u1 n1 kk1 => ?_⟩
      have eL1 := kk1 _ _ eL hL.1
      have hsz : ws.length < sizeLine := Nat.lt_of_lt_of_le (show ws.length < 10000 by omega) (by decide)
      refine ⟨_, rfl, _, _, rfl, rfl, _, rfl, ite2 (fun c => ?_) (fun c => ?_)⟩
      · have hr2 : r < 2 := of_decide_eq_true c
        refine ⟨_, rfl, .inl ⟨rfl, _, .inl (.inl eL1)⟩, ?_⟩
        refine ⟨by decide, fun p np => ?_⟩
        have npL : p ≠ L := (ne_of_none eL1 np).symm
        obtain ⟨z, hz, hzp⟩ : ∃ z : Str, atI [V.str "0", V.str "1"] r = some (V.str z) ∧ (z = "0" ∨ z = "1") := by
          have er : r = 0 ∨ r = 1 := by omega
          rcases er with e | e <;> subst e
          · exact ⟨"0", rfl, .inl rfl⟩
          · exact ⟨"1", rfl, .inr rfl⟩
        refine ⟨_, rfl, p, _, r, .str z, rfl, rfl, .inl (.inl upd_same), hz, L, _, _, rfl, rfl, by rw [upd_ne npL.symm]; exact eL1, hsz, ?_⟩
        refine ⟨ws ++ [.str z], ds ++ [.str z], _, _, rfl, by rw [List.length_append, hl]; rfl, dpAll_snoc hA (.str z), ?_, upd_same, (n1.new np).set hL.1 hL.2, ((k1.trans kk1).trans (Keep.new np)).set nL⟩
        intro x hx'
        rcases List.mem_append.mp hx' with h | h
        · exact hx x h
        · rw [List.mem_singleton.mp h]
          rcases hzp with rfl | rfl <;> exact ⟨by decide, pz_str (n := 0) |>.mpr ⟨by decide +kernel, by decide +kernel⟩⟩
      · refine ⟨_, rfl, .inl ⟨rfl, _, .inl (.inl eL1)⟩, _, rfl, a, d, 9, rfl, by decide, n1, fun r2 H2 l2 u2 n2 kk2 => ⟨L, _, _, rfl, rfl, kk2 _ _ eL1 hL.1, hsz, ?_⟩⟩
        refine ⟨ws ++ [.int r2], ds ++ [.int r2], _, _, rfl, by rw [List.length_append, hl]; rfl, dpAll_snoc hA (.int r2), ?_, upd_same, n2.set hL.1 hL.2, ((k1.trans kk1).trans kk2).set nL⟩
        intro x hx'
        rcases List.mem_append.mp hx' with h | h
        · exact hx x h
        · rw [List.mem_singleton.mp h]
          refine ⟨?_, pz_int (n := 0) (by omega)⟩
          show (decide (0 ≤ r2) && decide (r2 ≤ 9999)) = true
          rw [decide_eq_true l2, decide_eq_true (by omega)]
          rfl
    · rintro σ H' ⟨ws, ds, y3, y4, rfl, hl, hA, hx, eL, h1, k1⟩
      refine ⟨_, rfl, L, _, rfl, .inl ⟨.inl (.inl eL), fun p np => ?_⟩⟩
      have hpa := (h1.ne np).1
      have hdl := dp_all_len hA
      exact q p (ws, ds) _ hA upd_same hpa hx (by show ds.length ≤ 100; omega) (h1.new np) (k1.trans (Keep.new np))
theorem br_say {a d p t : Addr} {H : Hp} {j : Nat} {ws : List V} {ds : List PyData} (pa : p ≠ a) (ta : t ≠ a) (ep : H p = some (.tup [.str "say", .ref t])) (et : H t = some (.tup ws)) (hA : DpAll K (fun _ => none) ws ds) (hx : ∀ x ∈ ds, partOk x = true ∧ Pz 0 x) (hl : ds.length ≤ 100) : PB K a H (j + 1) (.ref p) := by
  have h := ok_say (j := j) (parts_all hx)
  refine ⟨_, dp_new pa ep (.cons (.str _) (.cons (dp_new ta et (dps_none hA)) .nil)), ⟨(by show 2 ≤ 100; decide), fun x hx' => ?_⟩, h.1, ?_⟩
  · rcases List.mem_cons.mp hx' with e | hx'
    · rw [e]
      exact pz_word
    · rw [List.mem_singleton.mp hx']
      exact pz_parts hx hl
  · rw [h.2]
    show 1 ≤ 1 + 3 * bsz j
    omega
theorem br_step {f : Addr} {fd : FuncData} (D : Df K mg "_law_breaker" s_law_breaker ["hand", "depth", "asks", "length", "said"] f fd) (T : Txt K w mg cs) (j : Nat) (c_law_take : Cl P w K mg base CX0 1 "_law_take" spTake) (c_law_parts : Cl P w K mg base CX0 2 "_law_parts" (spParts8 K))
    (c_law_breaker : Cl P w K mg base CX0 (j + 2) "_law_breaker" (spBrB K j)) : FnOk P w K mg base CX0 (j + 3) f fd ["hand", "depth", "asks", "length", "said"] (spBr K j) := by
  refine D.fn.ok sc_law_breaker (fun vs H Q E h => ?_) (fun cdv A outer s H vs Q E hr h => ?_)
  · obtain ⟨a, d, dep, asks, len, said, rfl, _⟩ := h
    rfl
  · obtain ⟨a, d, dep, asks, len, said, rfl, hdep, hlen, hsaid, hh, q⟩ := h
    refine ⟨_, (pss_cons (ps_set (i := 5) sc_law_breaker.nd rfl (.inl rfl) (pe_cl c_law_take hr (by first | decide | omega) (by rfl) (pa_cons (pv 0) (pa_cons pe_int pa_nil)))) (pss_cons (ps_if (PW.pt (pw_or (pt_cmpR op_eq (pv 1) pe_int (nomark _)) (pw_or1 (pt_cmpR op_eq (pv 5) pe_int (nomark _))))) (pss_cons (ps_set (i := 6) sc_law_breaker.nd rfl (.inl rfl) (pv 4)) (C8.pss_cut (ps_if (pt_cmpR op_eq (pe_cl c_law_take hr (by first | decide | omega) (by rfl) (pa_cons (pv 0) (pa_cons pe_int pa_nil))) pe_int (nomark _)) (pss_one (ps_set (i := 6) sc_law_breaker.nd rfl (.inl rfl) (pe_cl c_law_take hr (by first | decide | omega) (by rfl) (pa_cons (pv 0) (pa_cons pe_int pa_nil))))) pss_nil) (pss_one (ps_ret (pe_tup (pa_cons pe_str (pa_cons (pe_cl c_law_parts hr (by first | decide | omega) (by rfl) (pa_cons (pv 0) (pa_cons (pv 6) pa_nil))) pa_nil))))))) pss_nil) (pss_cons (ps_if (PW.pt (pw_or (pt_cmpR op_lt (pv 5) pe_int (nomark _)) (pw_or1 (PW.pt (pw_and (pt_cmpR op_eq (pv 5) pe_int (nomark _)) (pw_and1 (pt_cmpR op_eq (pv 2) pe_int (nomark _)))))))) (pss_cons (ps_set (i := 7) sc_law_breaker.nd rfl (.inl rfl) (pe_cl c_law_breaker hr (by first | decide | omega) (by rfl) (pa_cons (pv 0) (pa_cons (pe_op op_sub (pv 1) pe_int) (pa_cons (pv 2) (pa_cons (pv 3) (pa_cons (pv 4) pa_nil))))))) (pss_one (ps_ret (pe_tup (pa_cons pe_str (pa_cons (pe_cl c_law_take hr (by first | decide | omega) (by rfl) (pa_cons (pv 0) (pa_cons pe_int pa_nil))) (pa_cons (pv 7) (pa_cons (pe_cl c_law_breaker hr (by first | decide | omega) (by rfl) (pa_cons (pv 0) (pa_cons (pe_op op_sub (pv 1) pe_int) (pa_cons (pv 2) (pa_cons (pv 3) (pa_cons (pv 4) pa_nil)))))) pa_nil)))))))) pss_nil) (pss_cons (ps_if (pt_cmpR op_eq (pv 5) pe_int (nomark _)) (pss_cons (ps_set (i := 8) sc_law_breaker.nd rfl (.inl rfl) (pe_op op_add pe_int (pe_cl c_law_take hr (by first | decide | omega) (by rfl) (pa_cons (pv 0) (pa_cons pe_int pa_nil))))) (pss_one (ps_ret (pe_tup (pa_cons pe_str (pa_cons (pe_callTy (tupOf K) (by rfl) T.n_tuple (by decide +kernel) (pa_cons (pe_lc (own := [("k", 9)]) (g := gName 9) (tt := tYes) rfl sc_law_breaker.nd (pi_range1 (by rfl) T.n_range (pa_cons (pv 8) pa_nil)) (blkOk_by (own := [("k", 9)]) (N := ["hand", "depth", "asks", "length", "said", "kind", "size", "first", "many", "k"]) (sc := defScope s_law_breaker) (by decide +kernel)) (fun _ _ _ _ _ => (pg_name (i := 9) sc_law_breaker.nd rfl (.inl rfl))) (fun _ _ _ _ _ => pts_nil) (fun _ _ _ _ _ => (pe_cl c_law_breaker hr (by first | decide | omega) (by rfl) (pa_cons (pv 0) (pa_cons (pe_op op_sub (pv 1) pe_int) (pa_cons (pv 2) (pa_cons (pv 3) (pa_cons (pv 4) pa_nil)))))))) pa_nil)) pa_nil)))))) pss_nil) (pss_cons (ps_if (pt_cmpR op_eq (pv 2) pe_int (nomark _)) (pss_one (ps_ret (pe_tup (pa_cons pe_str (pa_cons (pe_cl c_law_parts hr (by first | decide | omega) (by rfl) (pa_cons (pv 0) (pa_cons (pv 4) pa_nil))) pa_nil))))) pss_nil) (pss_cons (ps_set (i := 6) sc_law_breaker.nd rfl (.inl rfl) (pv 3)) (C8.pss_cut (ps_if (pt_cmpR op_eq (pe_cl c_law_take hr (by first | decide | omega) (by rfl) (pa_cons (pv 0) (pa_cons pe_int pa_nil))) pe_int (nomark _)) (pss_one (ps_set (i := 6) sc_law_breaker.nd rfl (.inl rfl) (pe_cl c_law_take hr (by first | decide | omega) (by rfl) (pa_cons (pv 0) (pa_cons pe_int pa_nil))))) pss_nil) (pss_one (ps_ret (pe_tup (pa_cons pe_str (pa_cons (pe_cl c_law_parts hr (by first | decide | omega) (by rfl) (pa_cons (pv 0) (pa_cons (pv 6) pa_nil))) (pa_cons (pe_cl c_law_breaker hr (by first | decide | omega) (by rfl) (pa_cons (pv 0) (pa_cons (pe_op op_sub (pv 1) pe_int) (pa_cons (pe_op op_sub (pv 2) pe_int) (pa_cons (pv 3) (pa_cons (pv 4) pa_nil)))))) pa_nil))))))))))))), ?_⟩
    refine ⟨_, rfl, a, d, 6, rfl, by decide, hh, fun kind H1 l1 u1 n1 k1 => ?_⟩
    -- a say of so many parts
    have say : ∀ (H2 : Hp) (p : Addr) (dd : List V × List PyData) (H3 : Hp), Keep a H H2 → DpAll K (fun _ => none) dd.1 dd.2 → H3 p = some (.tup dd.1) → p ≠ a → (∀ x ∈ dd.2, partOk x = true ∧ Pz 0 x) → dd.2.length ≤ 100 → Hnd H3 a d → Keep a H2 H3 →
        ∀ p', H3 p' = none → Q (.ref p') (upd H3 p' (.tup [.str "say", .ref p])) := by
      intro H2 p dd H3 k2 hA ep pa hx hl n3 k3 p' np
      have hp' := (n3.ne np).1
      refine q _ _ (br_say (d := d) (t := p) hp' pa upd_same (by rw [upd_ne (ne_of_none ep np)]; exact ep) hA hx hl) (n3.new np) ((k2.trans k3).trans (Keep.new np))
    refine ⟨_, rfl, rfl, _, rfl, ?_⟩
    refine dite (dep = 0) (fun hd0 => ?a1) (fun hd0 => ?b1)
    case' a1 => rw [decide_eq_true (show V.int (dep : Int) = V.int 0 by rw [hd0]; rfl)]
    case' b1 =>
      rw [decide_eq_false (show ¬ V.int (dep : Int) = V.int 0 from fun z => hd0 (by have := V.int.inj z; omega))]
      refine ⟨_, rfl, rfl, _, rfl, ?_⟩
      refine dite (kind = 0) (fun hk0 => ?a2) (fun hk0 => ?b2)
    case' a2 => rw [decide_eq_true (congrArg V.int hk0)]
    case b2 =>
      rw [decide_eq_false (fun z => hk0 (V.int.inj z))]
      obtain ⟨jj, rfl⟩ : ∃ jj, dep = jj + 1 := ⟨dep - 1, by omega⟩
      have rec1 : ((jj + 1 : Nat) : Int) - 1 = (jj : Int) := by omega
      refine ⟨_, rfl, _, _, rfl, rfl, _, rfl, ?_⟩
      refine dite (kind < 3) (fun h3 => ?l1) (fun h3 => ?c1)
      case' l1 => rw [decide_eq_true h3]
      case' c1 =>
        rw [decide_eq_false h3]
        refine ⟨_, rfl, rfl, _, rfl, ?_⟩
        refine dite (kind = 5) (fun h5 => ?c2) (fun h5 => ?r1)
      case' c2 =>
        rw [decide_eq_true (congrArg V.int h5)]
        refine ⟨_, rfl, rfl, _, rfl, ?_⟩
        refine dite (asks = 0) (fun ha0 => ?l2) (fun ha0 => ?r2)
      case' l2 => rw [decide_eq_true (show V.int (asks : Int) = V.int 0 by rw [ha0]; rfl)]
      case' r2 => rw [decide_eq_false (show ¬ V.int (asks : Int) = V.int 0 from fun z => ha0 (by have := V.int.inj z; omega))]
      case' r1 => rw [decide_eq_false (fun z => h5 (V.int.inj z))]
      -- look
      case l1 =>
        refine ⟨_, rfl, _, rfl, _, _, rfl, rfl, _, rfl, _, rfl, _, rfl, by omega, a, d, jj, asks, len, said, ?_, by omega, hlen, hsaid, n1, fun v1 H2 p1 n2 k2 => ?_⟩
        · show [V.ref a, V.int (((jj + 1 : Nat) : Int) - 1), _, _, _] = _
          rw [rec1]
        refine ⟨_, rfl, a, d, 9, rfl, by decide, n2, fun r H3 l3 u3 n3 k3 => ⟨_, rfl, _, rfl, _, rfl, _, _, rfl, rfl, _, rfl, _, rfl, _, rfl, by omega, a, d, jj, asks, len, said, ?_, by omega, hlen, hsaid, n3, fun v2 H4 p2 n4 k4 => ?_⟩⟩
        · show [V.ref a, V.int (((jj + 1 : Nat) : Int) - 1), _, _, _] = _
          rw [rec1]
        refine ⟨(by show 4 ≤ sizeLine; decide), fun p np => ?_⟩
        have pa := (n4.ne np).1
        have g1 := (p1.keep (k3.trans k4)).keep (Keep.new (o := .tup [.str "look", .int r, v1, v2]) np)
        have g2 := p2.keep (Keep.new (o := .tup [.str "look", .int r, v1, v2]) np)
        refine q _ _ ?_ (n4.new np) ((((k1.trans k2).trans k3).trans k4).trans (Keep.new np))
        obtain ⟨D1, a1, b1, c1, e1⟩ := g1
        obtain ⟨D2, a2, b2, c2, e2⟩ := g2
        have hk := ok_look (i := r) (by omega) (by omega) c1 c2
        refine ⟨_, dp_new pa upd_same (.cons (.str _) (.cons (.int _) (.cons a1 (.cons a2 .nil)))), ⟨(by show 4 ≤ 100; decide), fun x hx => ?_⟩, hk.1, ?_⟩
        · rcases List.mem_cons.mp hx with e | hx
          · exact e ▸ pz_word
          rcases List.mem_cons.mp hx with e | hx
          · (rw [e]; exact pz_int (by omega))
          rcases List.mem_cons.mp hx with e | hx
          · exact e ▸ pz_le b1 (by show 3 * (jj + 1) ≤ 3 * (jj + 1) + 2; omega)
          · rw [List.mem_singleton.mp hx]
            exact pz_le b2 (by show 3 * (jj + 1) ≤ 3 * (jj + 1) + 2; omega)
        · rw [hk.2]
          show _ ≤ 1 + 3 * bsz (jj + 1)
          omega
      case l2 =>
        refine ⟨_, rfl, _, rfl, _, _, rfl, rfl, _, rfl, _, rfl, _, rfl, by omega, a, d, jj, asks, len, said, ?_, by omega, hlen, hsaid, n1, fun v1 H2 p1 n2 k2 => ?_⟩
        · show [V.ref a, V.int (((jj + 1 : Nat) : Int) - 1), _, _, _] = _
          rw [rec1]
        refine ⟨_, rfl, a, d, 9, rfl, by decide, n2, fun r H3 l3 u3 n3 k3 => ⟨_, rfl, _, rfl, _, rfl, _, _, rfl, rfl, _, rfl, _, rfl, _, rfl, by omega, a, d, jj, asks, len, said, ?_, by omega, hlen, hsaid, n3, fun v2 H4 p2 n4 k4 => ?_⟩⟩
        · show [V.ref a, V.int (((jj + 1 : Nat) : Int) - 1), _, _, _] = _
          rw [rec1]
        refine ⟨(by show 4 ≤ sizeLine; decide), fun p np => ?_⟩
        have pa := (n4.ne np).1
        have g1 := (p1.keep (k3.trans k4)).keep (Keep.new (o := .tup [.str "look", .int r, v1, v2]) np)
        have g2 := p2.keep (Keep.new (o := .tup [.str "look", .int r, v1, v2]) np)
        refine q _ _ ?_ (n4.new np) ((((k1.trans k2).trans k3).trans k4).trans (Keep.new np))
        obtain ⟨D1, a1, b1, c1, e1⟩ := g1
        obtain ⟨D2, a2, b2, c2, e2⟩ := g2
        have hk := ok_look (i := r) (by omega) (by omega) c1 c2
        refine ⟨_, dp_new pa upd_same (.cons (.str _) (.cons (.int _) (.cons a1 (.cons a2 .nil)))), ⟨(by show 4 ≤ 100; decide), fun x hx => ?_⟩, hk.1, ?_⟩
        · rcases List.mem_cons.mp hx with e | hx
          · exact e ▸ pz_word
          rcases List.mem_cons.mp hx with e | hx
          · (rw [e]; exact pz_int (by omega))
          rcases List.mem_cons.mp hx with e | hx
          · exact e ▸ pz_le b1 (by show 3 * (jj + 1) ≤ 3 * (jj + 1) + 2; omega)
          · rw [List.mem_singleton.mp hx]
            exact pz_le b2 (by show 3 * (jj + 1) ≤ 3 * (jj + 1) + 2; omega)
        · rw [hk.2]
          show _ ≤ 1 + 3 * bsz (jj + 1)
          omega
      -- the rest
      all_goals
        refine ⟨_, rfl, rfl, _, rfl, ?_⟩
        by_cases hk3 : kind = 3
        · rw [decide_eq_true (congrArg V.int hk3)]
          refine ⟨_, rfl, a, d, 3, rfl, by decide, n1, fun r H2 l2 u2 n2 k2 => ⟨_, _, rfl, rfl, ?_⟩⟩
          obtain ⟨many, em, m1, m2⟩ : ∃ n : Nat, (1 : Int) + r = (n : Int) ∧ 1 ≤ n ∧ n ≤ 3 := ⟨(1 + r).toNat, by omega, by omega, by omega⟩
          show gName 8 (V.int (1 + r)) _ _ _
          rw [em]
          refine ⟨_, rfl, _, rfl, by omega, by omega, fun Dl hD => ?_⟩
          obtain ⟨nDa, nDd⟩ := n2.ne hD
          have k12 := k1.trans k2
          have hDo := k12.free hD nDa
          refine lc_range (lo := 0) (n := many) (fun i H' => ∃ ws : List V, ws.length = i ∧ (∀ v ∈ ws, PG K (off Dl (off a H')) (jj + 1) v) ∧ Hnd H' a d ∧ Keep a H H' ∧ H' Dl = some (.lst ws)) ?_ ?_ ?_
          · exact ⟨[], rfl, fun v hv => (nomatch hv), n2.new hD, k12.trans (Keep.new hD), upd_same⟩
          · rintro i H' hi ⟨ws, hl, hw, g1, g2, g3⟩
            refine ⟨rfl, ?_⟩
            refine ⟨_, rfl, _, rfl, _, _, rfl, rfl, _, rfl, _, rfl, _, rfl, by omega, a, d, jj, asks, len, said, ?_, by omega, hlen, hsaid, g1, fun v1 H3 p1 n3 k3 => ⟨_, k3 _ _ g3 nDa, ?_, ?_⟩⟩
            · show [V.ref a, V.int (((jj + 1 : Nat) : Int) - 1), _, _, _] = _
              rw [rec1]
            · exact Nat.lt_of_lt_of_le (show ws.length < 10000 by omega) (by decide)
            · refine ⟨ws ++ [v1], by rw [List.length_append, hl]; rfl, fun x hx => ?_, n3.set nDa nDd, (g2.trans k3).set hDo, upd_same⟩
              rw [off_upd]
              rcases List.mem_append.mp hx with h | h
              · exact (hw x h).same (off_mono k3.off)
              · rw [List.mem_singleton.mp h]
                refine PG.offL (ys := ws) p1 ?_
                rw [off_ne nDa]
                exact k3 _ _ g3 nDa
          · rintro H' ⟨ws, hl, hw, g1, g2, g3⟩
            refine ⟨Dl, _, rfl, .inl ⟨.inl (.inl g3), fun t nt => ⟨(by show 2 ≤ sizeLine; decide), fun p np => ?_⟩⟩⟩
            have h1' := g1.new (o := .tup ws) nt
            have ta := (g1.ne nt).1
            have pa := (h1'.ne np).1
            have kk : Keep a H' (upd (upd H' t (.tup ws)) p (.tup [.str "toss", .ref t])) := (Keep.new nt).trans (Keep.new np)
            refine q _ _ ?_ (h1'.new np) (g2.trans kk)
            obtain ⟨ds, hA, hx⟩ := pg_all fun v hv => (hw v hv).same fun b o e => kk.off b o (off_same Dl _ b o e)
            have hwl := dp_all_len hA
            have hlen2 : ws.length = many := hl
            have hk := ok_toss (j := jj + 1) (xs := ds) (by omega) (by omega) (fun x h => (hx x h).2.1)
            have et : upd (upd H' t (.tup ws)) p (.tup [.str "toss", .ref t]) t = some (.tup ws) := by
              rw [upd_ne (ne_of_none upd_same np)]
              exact upd_same
            refine ⟨_, dp_new pa upd_same (.cons (.str _) (.cons (dp_new ta et hA) .nil)), ⟨(by show 2 ≤ 100; decide), fun x hx' => ?_⟩, hk.1, ?_⟩
            · rcases List.mem_cons.mp hx' with e | hx'
              · exact e ▸ pz_word
              · rw [List.mem_singleton.mp hx']
                exact ⟨by omega, fun y hy => pz_le (hx y hy).1 (by show 3 * (jj + 1) ≤ 3 * (jj + 1) + 1; omega)⟩
            · rw [hk.2]
              have := sum_le (f := szN (jj + 1)) (m := bsz (jj + 1)) fun x h => (hx x h).2.2
              have h3 : ds.length * bsz (jj + 1) ≤ 3 * bsz (jj + 1) := Nat.mul_le_mul_right _ (by omega)
              show _ ≤ 1 + 3 * bsz (jj + 1)
              omega
        · rw [decide_eq_false (fun z => hk3 (V.int.inj z))]
          refine ⟨_, rfl, rfl, _, rfl, ?_⟩
          by_cases ha : asks = 0
          · rw [decide_eq_true (show V.int (asks : Int) = V.int 0 by rw [ha]; rfl)]
            exact ⟨_, rfl, _, rfl, a, d, said, rfl, by omega, n1, fun p ds H3 hA ep pa hx hl n3 k3 => ⟨(by show 2 ≤ sizeLine; decide), fun p' np => say H1 p ds H3 k1 hA ep pa hx hl n3 k3 p' np⟩⟩
          · rw [decide_eq_false (show ¬ V.int (asks : Int) = V.int 0 from fun z => ha (by have := V.int.inj z; omega))]
            refine ⟨_, rfl, ?_⟩
            refine ⟨fun σ2 H2 => ∃ sz : Nat, σ2 = [some (.ref a), some (.int ((jj + 1 : Nat) : Int)), some (.int (asks : Int)), some (.int (len : Int)), some (.int (said : Int)), some (.int kind), some (.int (sz : Int)), none, none, none] ∧ sz ≤ 90 ∧ Hnd H2 a d ∧ Keep a H H2, ?_, ?_⟩
            · refine ⟨_, rfl, a, d, 9, rfl, by decide, n1, fun r H2 l2 u2 n2 k2 => ⟨rfl, _, rfl, ?_⟩⟩
              by_cases c : r = 0
              · rw [decide_eq_true (congrArg V.int c)]
                refine ⟨_, rfl, a, d, 4, rfl, by decide, n2, fun r2 H3 l3 u3 n3 k3 => ⟨r2.toNat, ?_, by omega, n3, (k1.trans k2).trans k3⟩⟩
                have e : r2 = ((r2.toNat : Nat) : Int) := by omega
                show [_, _, _, _, _, _, some (V.int r2), _, _, _] = _
                rw [← e]
              · rw [decide_eq_false (fun z => c (V.int.inj z))]
                exact ⟨len, rfl, hlen, n2, k1.trans k2⟩
            · rintro σ2 H2 ⟨sz, rfl, hsz, n2, k2⟩
              refine ⟨_, rfl, _, rfl, a, d, sz, rfl, by omega, n2, fun p ds H3 hA ep pa hx hl n3 k3 => ?_⟩
              obtain ⟨as', ea⟩ : ∃ k, asks = k + 1 := ⟨asks - 1, by omega⟩
              subst ea
              refine ⟨_, rfl, _, rfl, _, _, rfl, rfl, _, rfl, _, _, rfl, rfl, _, rfl, _, rfl, by omega, a, d, jj, as', len, said, ?_, by omega, hlen, hsaid, n3, fun v1 H4 p1 n4 k4 => ?_⟩
              · show [V.ref a, V.int (((jj + 1 : Nat) : Int) - 1), V.int (((as' + 1 : Nat) : Int) - 1), _, _] = _
                rw [rec1, show ((as' + 1 : Nat) : Int) - 1 = (as' : Int) by omega]
              refine ⟨(by show 3 ≤ sizeLine; decide), fun p' np => ?_⟩
              have pa' := (n4.ne np).1
              have ep4 := k4 _ _ ep pa
              obtain ⟨D1, a1, b1, c1, e1⟩ := p1.keep (Keep.new (o := .tup [.str "ask", .ref p, v1]) np)
              have hk := ok_askD (j := jj + 1) (parts_all hx) c1
              refine q _ _ ?_ (n4.new np) (((k2.trans k3).trans k4).trans (Keep.new np))
              refine ⟨_, dp_new pa' upd_same (.cons (.str _) (.cons (dp_new pa (by rw [upd_ne (ne_of_none ep4 np)]; exact ep4) (dps_none hA)) (.cons a1 .nil))), ⟨(by show 3 ≤ 100; decide), fun x hx' => ?_⟩, hk.1, ?_⟩
              · rcases List.mem_cons.mp hx' with e | hx'
                · exact e ▸ pz_word
                rcases List.mem_cons.mp hx' with e | hx'
                · exact e ▸ pz_parts hx hl
                · rw [List.mem_singleton.mp hx']
                  exact pz_le b1 (by show 3 * (jj + 1) ≤ 3 * (jj + 1) + 2; omega)
              · rw [hk.2]
                show _ ≤ 1 + 3 * bsz (jj + 1)
                omega
    -- say
    all_goals
      refine ⟨_, rfl, ?_⟩
      refine ⟨fun σ2 H2 => ∃ sz : Nat, σ2 = [some (.ref a), some (.int (dep : Int)), some (.int (asks : Int)), some (.int (len : Int)), some (.int (said : Int)), some (.int kind), some (.int (sz : Int)), none, none, none] ∧ sz ≤ 90 ∧ Hnd H2 a d ∧ Keep a H H2, ?_, ?_⟩
      · refine ⟨_, rfl, a, d, 9, rfl, by decide, n1, fun r H2 l2 u2 n2 k2 => ⟨rfl, _, rfl, ?_⟩⟩
        by_cases c : r = 0
        · rw [decide_eq_true (congrArg V.int c)]
          refine ⟨_, rfl, a, d, 4, rfl, by decide, n2, fun r2 H3 l3 u3 n3 k3 => ⟨r2.toNat, ?_, by omega, n3, (k1.trans k2).trans k3⟩⟩
          have e : r2 = ((r2.toNat : Nat) : Int) := by omega
          show [_, _, _, _, _, _, some (V.int r2), _, _, _] = _
          rw [← e]
        · rw [decide_eq_false (fun z => c (V.int.inj z))]
          exact ⟨said, rfl, hsaid, n2, k1.trans k2⟩
      · rintro σ2 H2 ⟨sz, rfl, hsz, n2, k2⟩
        exact ⟨_, rfl, _, rfl, a, d, sz, rfl, by omega, n2, fun p ds H3 hA ep pa hx hl n3 k3 => ⟨(by show 2 ≤ sizeLine; decide), fun p' np => say H2 p ds H3 k2 hA ep pa hx hl n3 k3 p' np⟩⟩
theorem no_br {f : Addr} {fd : FuncData} (k : Nat) : FnOk P w K mg base CX0 k f fd ["hand", "depth", "asks", "length", "said"] (spBrB K 0) :=
  ⟨fun _ _ _ _ h => absurd h.1 (by decide), fun _ _ _ _ _ _ _ _ _ _ _ _ _ h => absurd h.1 (by decide)⟩
theorem ok_br {f : Addr} {fd : FuncData} (D : Df K mg "_law_breaker" s_law_breaker ["hand", "depth", "asks", "length", "said"] f fd) (T : Txt K w mg cs) (c_law_take : Cl P w K mg base CX0 1 "_law_take" spTake) (c_law_parts : Cl P w K mg base CX0 2 "_law_parts" (spParts8 K)) :
    ∀ j : Nat, FnOk P w K mg base CX0 (j + 3) f fd ["hand", "depth", "asks", "length", "said"] (spBr K j)
  | 0 => br_step D T 0 c_law_take c_law_parts (D.cl (no_br _))
  | j + 1 => br_step D T (j + 1) c_law_take c_law_parts (D.cl ((ok_br D T c_law_take c_law_parts j).imp fun _ _ _ _ h => h.2))

end
/-! ### the asks of a drawn breaker -/
mutual
def asksB : Br → Nat
  | .say _ => 0
  | .toss bs => asksBs bs
  | .look _ a b => max (asksB a) (asksB b)
  | .ask _ a => 1 + asksB a
def asksBs : List Br → Nat
  | [] => 0
  | b :: bs => max (asksB b) (asksBs bs)
end
theorem foldl_max_at : ∀ (l : List Nat) (a : Nat), l.foldl max a = max a (l.foldl max 0)
  | [], a => (Nat.max_zero a).symm
  | x :: l, a => by
    show l.foldl max (max a x) = max a (l.foldl max (max 0 x))
    rw [foldl_max_at l (max a x), foldl_max_at l (max 0 x), Nat.zero_max, Nat.max_assoc]
theorem asksBs_eq : ∀ bs : List Br, asksBs bs = (bs.map asksB).foldl max 0
  | [] => rfl
  | b :: bs => by
    show max (asksB b) (asksBs bs) = ((bs.map asksB)).foldl max (max 0 (asksB b))
    rw [foldl_max_at, Nat.zero_max, asksBs_eq bs]
theorem askB_head {z : Str} {r : List PyData} (b : Bool) (h : decide (z = "ask") = b) : askB (.tuple (.str z :: r)) = if b then 1 else 0 := by
  show (if headIs "ask" (.tuple (.str z :: r)) then 1 else 0) = _
  rw [show headIs "ask" (.tuple (.str z :: r)) = named "ask" (.str z) from rfl, named_str, ← h]
/-- what the asks of a plain breaker come to -/
theorem asks_paN : ∀ (n N : Nat) (b : Br), okB n b → n ≤ N → paN N (brD b) = asksB b
  | 0, _, _, h, _ => h.elim
  | n + 1, N, b, h, l => by
    obtain ⟨M, rfl⟩ : ∃ M, N = M + 1 := ⟨N - 1, by omega⟩
    have l : n ≤ M := by omega
    cases b with
    | say ps =>
      show askB (.tuple (.str "say" :: [psD ps])) + ((kidsD (.tuple (.str "say" :: [psD ps]))).map (paN M)).foldl max 0 = 0
      rw [kids_say, askB_head false (by decide +kernel)]
      rfl
    | toss bs =>
      show askB (.tuple (.str "toss" :: [.tuple (brsD bs)])) + ((kidsD (.tuple (.str "toss" :: [.tuple (brsD bs)]))).map (paN M)).foldl max 0 = asksBs bs
      rw [kids_toss (by rw [named_str]; decide), askB_head false (by decide +kernel), asksBs_eq, brsD_map, List.map_map]
      show 0 + _ = _
      rw [Nat.zero_add]
      exact congrArg (fun z => List.foldl max 0 z) (List.map_congr_left fun b hb => asks_paN n M b (h.2 b hb) l)
    | look i a b =>
      show askB (.tuple (.str "look" :: [.int (i : Int), brD a, brD b])) + ((kidsD (.tuple (.str "look" :: [.int (i : Int), brD a, brD b]))).map (paN M)).foldl max 0 = max (asksB a) (asksB b)
      rw [kids_look, askB_head false (by decide +kernel)]
      show 0 + max (max 0 (paN M (brD a))) (paN M (brD b)) = _
      rw [asks_paN n M a h.2.1 l, asks_paN n M b h.2.2 l, Nat.zero_add, Nat.zero_max]
    | ask ps a =>
      show askB (.tuple (.str "ask" :: [psD ps, brD a])) + ((kidsD (.tuple (.str "ask" :: [psD ps, brD a]))).map (paN M)).foldl max 0 = 1 + asksB a
      rw [kids_ask, askB_head true (by decide +kernel)]
      show 1 + max 0 (paN M (brD a)) = _
      rw [asks_paN n M a h.2 l, Nat.zero_max]
theorem kids_of {n : Nat} {D : PyData} (h : okN (n + 1) D = true) : looksOk D = true ∧ ∀ x ∈ kidsD D, okN n x = true := by
  obtain ⟨h1, h2⟩ := Bool.and_eq_true_iff.mp (show (looksOk D && (kidsD D).all (okN n)) = true from h)
  exact ⟨h1, List.all_eq_true.mp h2⟩
theorem toss_of {n : Nat} {bs : List Br} (h : okN (n + 1) (brD (.toss bs)) = true) : bs.length ≤ 64 ∧ ∀ b ∈ bs, okN n (brD b) = true := by
  obtain ⟨h1, h2⟩ := kids_of h
  have h1 : looksOk (.tuple (.str "toss" :: [.tuple (brsD bs)])) = true := h1
  have h2 : ∀ x ∈ kidsD (.tuple (.str "toss" :: [.tuple (brsD bs)])), okN n x = true := h2
  rw [looks_toss] at h1
  rw [kids_toss (by rw [named_str]; decide)] at h2
  obtain ⟨_, l⟩ := Bool.and_eq_true_iff.mp (show (decide ((1 : Int) ≤ ((brsD bs).length : Int)) && decide (((brsD bs).length : Int) ≤ 64)) = true from h1)
  have l := of_decide_eq_true l
  rw [brsD_len] at l
  refine ⟨by omega, fun b hb => h2 _ ?_⟩
  show brD b ∈ brsD bs
  rw [brsD_map]
  exact List.mem_map.mpr ⟨b, hb, rfl⟩
theorem look_of {n i : Nat} {a b : Br} (h : okN (n + 1) (brD (.look i a b)) = true) : okN n (brD a) = true ∧ okN n (brD b) = true := by
  obtain ⟨_, h2⟩ := kids_of h
  have h2 : ∀ x ∈ kidsD (.tuple (.str "look" :: [.int (i : Int), brD a, brD b])), okN n x = true := h2
  rw [kids_look] at h2
  exact ⟨h2 _ (by simp), h2 _ (by simp)⟩
theorem ask_of {n : Nat} {ps : List Pa} {a : Br} (h : okN (n + 1) (brD (.ask ps a)) = true) : okN n (brD a) = true := by
  obtain ⟨_, h2⟩ := kids_of h
  have h2 : ∀ x ∈ kidsD (.tuple (.str "ask" :: [psD ps, brD a])), okN n x = true := h2
  rw [kids_ask] at h2
  exact h2 _ (by simp)
theorem asksBs_mem : ∀ {bs : List Br} {b : Br}, b ∈ bs → asksB b ≤ asksBs bs
  | c :: bs, b, h => by
    show asksB b ≤ max (asksB c) (asksBs bs)
    rcases List.mem_cons.mp h with e | h
    · rw [e]
      omega
    · have := asksBs_mem h
      omega
theorem asksBs_in : ∀ {bs : List Br}, bs ≠ [] → ∃ b ∈ bs, asksB b = asksBs bs
  | [], h => absurd rfl h
  | [c], _ => ⟨c, List.mem_cons_self, by show asksB c = max (asksB c) 0; omega⟩
  | c :: d :: bs, _ => by
    obtain ⟨b, hb, e⟩ := asksBs_in (bs := d :: bs) (by simp)
    by_cases h : asksB c ≤ asksBs (d :: bs)
    · refine ⟨b, List.mem_cons_of_mem _ hb, ?_⟩
      show _ = max (asksB c) (asksBs (d :: bs))
      omega
    · refine ⟨c, List.mem_cons_self, ?_⟩
      show _ = max (asksB c) (asksBs (d :: bs))
      omega
def spLAsks (K : PySem.W.Frag) (j : Nat) : Sp := fun vs H Q _ => ∃ (v : V) (b : Br), vs = [v] ∧ Dp K H v (brD b) ∧ okB j b ∧ okN j (brD b) = true ∧ ∀ H', Same H H' → Q (.int (asksB b : Int)) H'
def spLAsksB (K : PySem.W.Frag) (j : Nat) : Sp := fun vs H Q E => 1 ≤ j ∧ spLAsks K (j - 1) vs H Q E
theorem same_set {H H' : Hp} {p : Addr} {o : HO} (s : Same H H') (np : H p = none) : Same H (upd H' p o) := fun b x e => by
  rw [upd_ne (ne_of_none e np)]
  exact s b x e

section
variable {P : Program} {w : World} {K : PySem.W.Frag} {mg : Str → Option Value} {base : Heap} {cs : Cs}
theorem asks_step {f : Addr} {fd : FuncData} (D : Df K mg "_law_asks" s_law_asks ["breaker"] f fd) (T : Txt K w mg cs) (j : Nat) (c_law_asks : Cl P w K mg base CX0 (j + 1) "_law_asks" (spLAsksB K j)) : FnOk P w K mg base CX0 (j + 2) f fd ["breaker"] (spLAsks K j) := by
  refine D.fn.ok sc_law_asks (fun vs H Q E h => ?_) (fun cdv A outer s H vs Q E hr h => ?_)
  · obtain ⟨v, b, rfl, _⟩ := h
    rfl
  · obtain ⟨v, b, rfl, dv, ok, okn, q⟩ := h
    refine ⟨_, (pss_cons (ps_if (pt_cmpR op_eq (pe_ix (ixT K) (pv 0) pe_int (fun _ _ => rfl)) pe_str (nomark _)) (pss_one (ps_ret pe_int)) pss_nil) (pss_cons (ps_if (pt_cmpR op_eq (pe_ix (ixT K) (pv 0) pe_int (fun _ _ => rfl)) pe_str (nomark _)) (pss_one (ps_ret (pe_op op_add pe_int (pe_cl c_law_asks hr (by first | decide | omega) (by rfl) (pa_cons (pe_ix (ixT K) (pv 0) pe_int (fun _ _ => rfl)) pa_nil))))) pss_nil) (pss_cons (ps_if (pt_cmpR op_eq (pe_ix (ixT K) (pv 0) pe_int (fun _ _ => rfl)) pe_str (nomark _)) (pss_one (ps_ret (pe_callB (call_max2 rfl) (by rfl) T.n_max (by decide +kernel) (pa_cons (pe_cl c_law_asks hr (by first | decide | omega) (by rfl) (pa_cons (pe_ix (ixT K) (pv 0) pe_int (fun _ _ => rfl)) pa_nil)) (pa_cons (pe_cl c_law_asks hr (by first | decide | omega) (by rfl) (pa_cons (pe_ix (ixT K) (pv 0) pe_int (fun _ _ => rfl)) pa_nil)) pa_nil))))) pss_nil) (pss_one (ps_ret (pe_callB (cr_max rfl) (by rfl) T.n_max (by decide +kernel) (pa_cons (pe_lc (own := [("one", 1)]) (g := gName 1) (tt := tYes) rfl sc_law_asks.nd (pi_tup (pe_ix (ixT K) (pv 0) pe_int (fun _ _ => rfl))) (blkOk_by (own := [("one", 1)]) (N := ["breaker", "one"]) (sc := defScope s_law_asks) (by decide +kernel)) (fun _ _ _ _ _ => (pg_name (i := 1) sc_law_asks.nd rfl (.inl rfl))) (fun _ _ _ _ _ => pts_nil) (fun _ _ _ _ _ => (pe_cl c_law_asks hr (by first | decide | omega) (by rfl) (pa_cons (pv 1) pa_nil)))) pa_nil))))))), ?_⟩
    obtain ⟨n, rfl⟩ : ∃ n, j = n + 1 := by
      cases j with
      | zero => exact ok.elim
      | succ n => exact ⟨n, rfl⟩
    cases b with
    | say ps =>
      obtain ⟨a, us, rfl, hT, hA⟩ : ∃ a us, v = .ref a ∧ SqT K H a us ∧ DpAll K H us [.str "say", psD ps] := by
        cases dv with
        | tup hT hA => exact ⟨_, _, rfl, hT, hA⟩
      cases hA with
      | cons h0 hA =>
        cases h0
        refine ⟨_, rfl, a, _, 0, _, rfl, rfl, hT, at0, rfl, _, rfl, ?_⟩
        exact q _ (Same.refl H)
    | ask ps b =>
      obtain ⟨a, us, rfl, hT, hA⟩ : ∃ a us, v = .ref a ∧ SqT K H a us ∧ DpAll K H us [.str "ask", psD ps, brD b] := by
        cases dv with
        | tup hT hA => exact ⟨_, _, rfl, hT, hA⟩
      cases hA with
      | cons h0 hA =>
        cases h0
        cases hA with
        | cons h1 hA =>
          cases hA with
          | cons h2 hA =>
            cases hA
            refine ⟨_, rfl, a, _, 0, _, rfl, rfl, hT, at0, rfl, _, rfl, ?_⟩
            refine ⟨_, rfl, a, _, 0, _, rfl, rfl, hT, at0, rfl, _, rfl, ?_⟩
            refine ⟨_, rfl, a, _, 2, _, rfl, rfl, hT, rfl, ?_⟩
            refine ⟨by omega, _, b, rfl, h2, ok.2, ask_of okn, fun H' s' => ⟨_, _, rfl, rfl, ?_⟩⟩
            have e : (1 : Int) + (asksB b : Int) = (asksB (.ask ps b) : Int) := by
              show (1 : Int) + (asksB b : Int) = ((1 + asksB b : Nat) : Int)
              omega
            show Q (.int ((1 : Int) + (asksB b : Int))) H'
            rw [e]
            exact q _ s'
    | look i b c =>
      obtain ⟨a, us, rfl, hT, hA⟩ : ∃ a us, v = .ref a ∧ SqT K H a us ∧ DpAll K H us [.str "look", .int (i : Int), brD b, brD c] := by
        cases dv with
        | tup hT hA => exact ⟨_, _, rfl, hT, hA⟩
      cases hA with
      | cons h0 hA =>
        cases h0
        cases hA with
        | cons h1 hA =>
          cases hA with
          | cons h2 hA =>
            cases hA with
            | cons h3 hA =>
              cases hA
              refine ⟨_, rfl, a, _, 0, _, rfl, rfl, hT, at0, rfl, _, rfl, ?_⟩
              refine ⟨_, rfl, a, _, 0, _, rfl, rfl, hT, at0, rfl, _, rfl, ?_⟩
              refine ⟨_, rfl, a, _, 0, _, rfl, rfl, hT, at0, rfl, _, rfl, ?_⟩
              refine ⟨_, rfl, a, _, 2, _, rfl, rfl, hT, rfl, ?_⟩
              refine ⟨by omega, _, b, rfl, h2, ok.2.1, (look_of okn).1, fun H1 s1 => ?_⟩
              refine ⟨_, rfl, a, _, 3, _, rfl, rfl, same_sqt s1 hT, rfl, ?_⟩
              refine ⟨by omega, _, c, rfl, dp_same s1 _ h3, ok.2.2, (look_of okn).2, fun H2 s2 => ⟨_, _, rfl, ?_⟩⟩
              have e : (if (asksB c : Int) > (asksB b : Int) then (asksB c : Int) else (asksB b : Int)) = (asksB (.look i b c) : Int) := by
                show _ = ((max (asksB b) (asksB c) : Nat) : Int)
                split <;> omega
              show Q (.int (if (asksB c : Int) > (asksB b : Int) then (asksB c : Int) else (asksB b : Int))) H2
              rw [e]
              exact q _ (s1.trans s2)
    | toss bs =>
      obtain ⟨a, us, rfl, hT, hA⟩ : ∃ a us, v = .ref a ∧ SqT K H a us ∧ DpAll K H us [.str "toss", .tuple (brsD bs)] := by
        cases dv with
        | tup hT hA => exact ⟨_, _, rfl, hT, hA⟩
      cases hA with
      | cons h0 hA =>
        cases h0
        cases hA with
        | cons h1 hA =>
          cases hA
          cases h1 with
          | @tup r ws _ hR hP =>
            have hlen := dp_all_len hP
            rw [brsD_len] at hlen
            obtain ⟨h64, okk⟩ := toss_of okn
            refine ⟨_, rfl, a, _, 0, _, rfl, rfl, hT, at0, rfl, _, rfl, ?_⟩
            refine ⟨_, rfl, a, _, 0, _, rfl, rfl, hT, at0, rfl, _, rfl, ?_⟩
            refine ⟨_, rfl, a, _, 0, _, rfl, rfl, hT, at0, rfl, _, rfl, ?_⟩
            refine ⟨_, rfl, a, _, 1, _, rfl, rfl, hT, rfl, r, rfl, ⟨_, hR⟩, fun Dl nD => ?_⟩
            refine lc_tup (xs := ws) (fun i H' => Same H H' ∧ H' Dl = some (.lst (((bs.take i).map fun b => (asksB b : Int)).map V.int))) ?_ (fun i H' _ h => same_sqt h.1 hR) ?_ ?_
            · exact ⟨same_new nD, upd_same⟩
            · rintro i x H' hx ⟨h1, h2⟩
              obtain ⟨d, hd1, hd2⟩ := dp_all_get hP hx
              obtain ⟨b, hb, rfl⟩ := brsD_at hd1
              have hm := List.mem_of_getElem? hb
              refine ⟨rfl, _, rfl, by omega, x, b, rfl, dp_same h1 _ hd2, ok.2 b hm, okk b hm, fun H2 s2 => ⟨_, s2 _ _ h2, ?_, same_set (h1.trans s2) nD, ?_⟩⟩
              · rw [List.length_map, List.length_map, List.length_take, sizeLine_eq]
                omega
              · rw [upd_same, List.take_add_one, hb, List.map_append, List.map_append]
                rfl
            · rintro H' ⟨h1, h2⟩
              rw [hlen, List.take_length] at h2
              refine ⟨Dl, _, rfl, .inl (.inl h2), ?_, fun m hm hx => ?_⟩
              · rw [List.length_map]
                exact List.length_pos_iff.mpr ok.1
              · obtain ⟨b, hb, eb⟩ := asksBs_in ok.1
                obtain ⟨c, hc, ec⟩ := List.mem_map.mp hm
                have l1 := asksBs_mem hc
                have l2 := hx (asksB b : Int) (List.mem_map.mpr ⟨b, hb, rfl⟩)
                have e : m = (asksB (.toss bs) : Int) := by
                  show m = ((asksBs bs : Nat) : Int)
                  omega
                rw [e]
                exact q _ h1
theorem no_asks {f : Addr} {fd : FuncData} (k : Nat) : FnOk P w K mg base CX0 k f fd ["breaker"] (spLAsksB K 0) :=
  ⟨fun _ _ _ _ h => absurd h.1 (by decide), fun _ _ _ _ _ _ _ _ _ _ _ _ _ h => absurd h.1 (by decide)⟩
theorem ok_lasks {f : Addr} {fd : FuncData} (D : Df K mg "_law_asks" s_law_asks ["breaker"] f fd) (T : Txt K w mg cs) : ∀ j : Nat, FnOk P w K mg base CX0 (j + 2) f fd ["breaker"] (spLAsks K j)
  | 0 => asks_step D T 0 (D.cl (no_asks _))
  | j + 1 => asks_step D T (j + 1) (D.cl ((ok_lasks D T j).imp fun _ _ _ _ h => h.2))

end
/-! ### the breaker that is due -/
theorem inV_three (x p q r : Str) : inV (V.str x) [.str p, .str q, .str r] = (decide (x = p) || (decide (x = q) || decide (x = r))) := by
  have e : ∀ y : Str, eqV (V.str y) (V.str x) = decide (x = y) := fun y => by
    show (y == x) = _
    by_cases h : x = y
    · rw [decide_eq_true h, h]
      exact beq_self_eq_true y
    · rw [decide_eq_false h]
      exact beq_eq_false_iff_ne.mpr fun z => h z.symm
  show ([V.str p, V.str q, V.str r].any fun y => eqV y (.str x)) = _
  rw [List.any_cons, List.any_cons, List.any_cons, List.any_nil, e, e, e, Bool.or_false]
theorem chain_mem {b t : Blk} {tr : List ((PyData × PyData) × Blk)} (h : Chain b tr t) (ok : b.Ok) : ∀ x ∈ tr, x.2.Ok ∧ ∃ c, lay1 x.1 x.2 = some c := by
  induction h with
  | nil => exact fun _ h => nomatch h
  | @snoc tr t t' q h e ih =>
    intro x hx
    rcases List.mem_append.mp hx with h' | h'
    · exact ih x h'
    · rw [List.mem_singleton.mp h']
      exact ⟨(chain_ok h ok).2, _, e⟩
def spLDue (K : PySem.W.Frag) : Sp := fun vs H Q _ => ∃ (gv tv lv dv : V) (g y S S0 : PyData) (z : Str) (t b0 : Blk) (tr : List ((PyData × PyData) × Blk)) (b : Br), vs = [gv, tv, lv, dv] ∧ Dp K H gv g ∧ GoalIs g z y S ∧ z ∈ aboK ∧ GoalFit z y t ∧ Dp K H tv t.D ∧ t.Ok ∧ Dp K H lv (.list (tr.map tripD)) ∧ Sch S0 (tr.map Prod.fst) ∧ Chain b0 tr t ∧ b0.Ok ∧ tr.length ≤ 4 ∧
  Dp K H dv (brD b) ∧ okB 4 b ∧ okN 4 (brD b) = true ∧ Way 0 (brD b) ∧ madeD (brD b) = false ∧
  ∀ p v H', Same H H' → Dp K H' v (ledAll tr.reverse (ledW z y (brD b) t)).1 → SqT K H' p [v, .int (ledAll tr.reverse (ledW z y (brD b) t)).2] → Q (.ref p) H'
theorem progM_low {m n : Nat} {D : PyData} (hc : chk 0 D = true) (hm : madeD D = false) : progM n D = progM m D := (progM_plain hc hm).trans (progM_plain hc hm).symm

section
variable {P : Program} {w : World} {K : PySem.W.Frag} {mg : Str → Option Value} {base : Heap} {cs : Cs}
theorem ok_ldue {f : Addr} {fd : FuncData} (D : Df K mg "_law_due" s_law_due ["goal", "table", "layers", "breaker"] f fd) (T : Txt K w mg cs) (c_law_asks : Cl P w K mg base CX0 6 "_law_asks" (spLAsks K 4)) : FnOk P w K mg base CX0 7 f fd ["goal", "table", "layers", "breaker"] (spLDue K) := by
  refine D.fn.ok sc_law_due (fun vs H Q E h => ?_) (fun cdv A outer s H vs Q E hr h => ?_)
  · obtain ⟨gv, tv, lv, dv, g, y, S, S0, z, t, b0, tr, b, rfl, _⟩ := h
    rfl
  · obtain ⟨gv, tv, lv, dv, g, y, S, S0, z, t, b0, tr, b, rfl, dg, gi, hz, gf, dt, okt, dl, sch, ch, ok0, hl, dd, okb, okn, hw, hm, q⟩ := h
    refine ⟨_, (pss_cons (ps_set (i := 4) sc_law_due.nd rfl (.inl rfl) (pe_ix (ixT K) (pv 0) pe_int (fun _ _ => rfl))) (pss_cons (ps_set (i := 5) sc_law_due.nd rfl (.inr rfl) (pe_cl c_law_asks hr (by first | decide | omega) (by rfl) (pa_cons (pv 3) pa_nil))) (pss_cons (ps_set (i := 6) sc_law_due.nd rfl (.inl rfl) (pv 3)) (pss_cons (ps_set (i := 7) sc_law_due.nd rfl (.inl rfl) pe_int) (pss_cons (ps_if (pt_cmpR op_eq (pv 4) pe_str (nomark _)) (pss_cons (ps_set (i := 6) sc_law_due.nd rfl (.inl rfl) (pe_tup (pa_cons pe_str (pa_cons (pe_ix (ixT K) (pv 1) pe_int (fun _ _ => rfl)) (pa_cons (pe_ix (ixT K) (pv 1) pe_int (fun _ _ => rfl)) (pa_cons (pv 3) pa_nil)))))) (pss_one (ps_set (i := 5) sc_law_due.nd rfl (.inr rfl) (pe_op op_add (pv 5) pe_int)))) pss_nil) (pss_cons (ps_if (pt_cmpR op_eq (pv 4) pe_str (nomark _)) (pss_one (ps_set (i := 6) sc_law_due.nd rfl (.inl rfl) (pe_tup (pa_cons pe_str (pa_cons (pe_ix (ixT K) (pv 1) pe_int (fun _ _ => rfl)) (pa_cons (pe_ix (ixT K) (pv 1) pe_int (fun _ _ => rfl)) (pa_cons (pv 3) pa_nil))))))) pss_nil) (pss_cons (ps_if (pt_cmpR op_in_seq (pv 4) (pe_tup (pa_cons pe_str (pa_cons pe_str pa_nil))) (by rfl)) (pss_one (ps_set (i := 6) sc_law_due.nd rfl (.inl rfl) (pe_tup (pa_cons (pe_ix (ixL K) (pe_lst (pa_cons pe_str (pa_cons pe_str pa_nil))) (pe_callTy call_int1 (by rfl) T.n_int (by decide +kernel) (pa_cons (pe_cmpR op_eq (pv 4) pe_str (nomark _)) pa_nil)) (fun _ _ => rfl)) (pa_cons (pe_ix (ixT K) (pv 1) pe_int (fun _ _ => rfl)) (pa_cons (pv 3) pa_nil)))))) pss_nil) (pss_cons (ps_if (pt_cmpR op_eq (pv 4) pe_str (nomark _)) (pss_one (ps_set (i := 6) sc_law_due.nd rfl (.inl rfl) (pe_tup (pa_cons pe_str (pa_cons (pe_ix (ixT K) (pv 0) pe_int (fun _ _ => rfl)) (pa_cons (pv 3) pa_nil)))))) pss_nil) (pss_cons (ps_if (pt_cmpR op_in_seq (pv 4) (pe_tup (pa_cons pe_str (pa_cons pe_str (pa_cons pe_str pa_nil)))) (by rfl)) (pss_one (ps_set (i := 5) sc_law_due.nd rfl (.inr rfl) pe_int)) pss_nil) (pss_cons (ps_if (pt_cmpR op_in_seq (pv 4) (pe_tup (pa_cons pe_str (pa_cons pe_str (pa_cons pe_str pa_nil)))) (by rfl)) (pss_one (ps_set (i := 7) sc_law_due.nd rfl (.inl rfl) pe_int)) pss_nil) (pss_cons (ps_for PassesOwn.never rfl (pi_list (pe_revL (pv 2))) (pg_tup (by rfl) (pgs_cons (pg_name (i := 8) sc_law_due.nd rfl (.inl rfl)) (pgs_cons (pg_name (i := 9) sc_law_due.nd rfl (.inl rfl)) (pgs_cons (pg_name (i := 10) sc_law_due.nd rfl (.inl rfl)) pgs_nil)))) (pss_cons (ps_if (pt_cmpR op_eq (pv 8) pe_str (nomark _)) (pss_cons (ps_set (i := 6) sc_law_due.nd rfl (.inl rfl) (pe_tup (pa_cons pe_str (pa_cons (pv 10) (pa_cons (pv 9) (pa_cons (pv 6) pa_nil)))))) (pss_one (ps_set (i := 7) sc_law_due.nd rfl (.inl rfl) (pe_op op_mul (pv 7) (pv 9))))) pss_nil) (pss_cons (ps_if (pt_cmpR op_eq (pv 8) pe_str (nomark _)) (pss_cons (ps_set (i := 5) sc_law_due.nd rfl (.inr rfl) (pe_callB (call_max2 rfl) (by rfl) T.n_max (by decide +kernel) (pa_cons pe_int (pa_cons (pv 5) pa_nil)))) (pss_cons (ps_set (i := 6) sc_law_due.nd rfl (.inl rfl) (pe_tup (pa_cons pe_str (pa_cons (pv 10) (pa_cons (pv 9) (pa_cons (pv 5) (pa_cons (pv 6) pa_nil))))))) (pss_one (ps_set (i := 7) sc_law_due.nd rfl (.inl rfl) (pe_op op_mul (pv 7) (pe_callB (crSum K rfl) (by rfl) T.n_sum (by decide +kernel) (pa_cons (pe_lc (own := [("j", 11)]) (g := gName 11) (tt := tYes) rfl sc_law_due.nd (pi_range1 (by rfl) T.n_range (pa_cons (pv 9) pa_nil)) (blkOk_by (own := [("j", 11)]) (N := ["goal", "table", "layers", "breaker", "name", "asks", "made", "number", "layer", "many", "inner", "j"]) (sc := defScope s_law_due) (by decide +kernel)) (fun _ _ _ _ _ => (pg_name (i := 11) sc_law_due.nd rfl (.inl rfl))) (fun _ _ _ _ _ => pts_nil) (fun _ _ _ _ _ => (pe_callB (call_min2 rfl) (by rfl) T.n_min (by decide +kernel) (pa_cons (pe_op op_shl pe_int (pv 11)) (pa_cons (pv 5) pa_nil))))) pa_nil))))))) pss_nil) (pss_cons (ps_if (pt_cmpR op_eq (pv 8) pe_str (nomark _)) (pss_one (ps_set (i := 6) sc_law_due.nd rfl (.inl rfl) (pe_tup (pa_cons pe_str (pa_cons (pe_ix (ixT K) (pv 10) pe_int (fun _ _ => rfl)) (pa_cons (pv 9) (pa_cons (pe_ix (ixT K) (pv 10) pe_int (fun _ _ => rfl)) (pa_cons (pv 6) pa_nil)))))))) pss_nil) (pss_cons (ps_if (pt_cmpR op_eq (pv 8) pe_str (nomark _)) (pss_one (ps_set (i := 6) sc_law_due.nd rfl (.inl rfl) (pe_tup (pa_cons pe_str (pa_cons (pv 9) (pa_cons (pv 6) pa_nil)))))) pss_nil) (pss_cons (ps_set (i := 5) sc_law_due.nd rfl (.inr rfl) pe_int) (pss_one (ps_if (pt_cmpR op_eq (pv 8) pe_str (nomark _)) (pss_one (ps_set (i := 5) sc_law_due.nd rfl (.inr rfl) (pv 9))) pss_nil)))))))) (pss_one (ps_ret (pe_tup (pa_cons (pv 6) (pa_cons (pv 7) pa_nil)))))))))))))))), ?_⟩
    have pa : (asksB b : Int) = progM 20 (brD b) := by
      rw [progM_plain hw.1 hm, asks_paN 4 60 b okb (by decide)]
    obtain ⟨ga, gu, rfl, gT, g0, g1⟩ : ∃ ga gu, gv = .ref ga ∧ SqT K H ga gu ∧ gu[0]? = some (.str z) ∧ (z = "opening" → ∃ yv, gu[1]? = some yv ∧ Dp K H yv y) := by
      cases gi with
      | two z S h =>
        cases dg with
        | tup hT hA =>
          cases hA with
          | cons h0 _ =>
            cases h0
            exact ⟨_, _, rfl, hT, rfl, fun e => absurd e h⟩
      | «open» y S =>
        cases dg with
        | tup hT hA =>
          cases hA with
          | cons h0 hA =>
            cases h0
            cases hA with
            | cons h1 _ => exact ⟨_, _, rfl, hT, rfl, fun _ => ⟨_, rfl, h1⟩⟩
    obtain ⟨wa, wu, rfl, wT, w0, w2⟩ := blk_parts dt
    refine ⟨_, rfl, ga, _, 0, _, rfl, rfl, gT, atI_nat (j := 0) g0, ?_⟩
    refine ⟨_, rfl, dv, b, rfl, dd, okb, okn, fun H1 s1 => ?_⟩
    rw [pa]
    have wT1 := same_sqt s1 wT
    have gT1 := same_sqt s1 gT
    have dd1 := dp_same s1 _ dd
    have dl1 := dp_same s1 _ dl
    refine ⟨_, rfl, ?_⟩
    have ww := ledW_way okt gf hw hm
    obtain ⟨La, us, rfl, hL, hU⟩ : ∃ La us, lv = .ref La ∧ SqL K H La us ∧ DpAll K H us (tr.map tripD) := by
      cases dl with
      | lst hT hA => exact ⟨_, _, rfl, hT, hA⟩
    rcases gf with e | ⟨e, n, l, m, tabs, rfl⟩ | ⟨e, n, m, rows, rfl⟩ | ⟨e, n, m, rows, s, rfl, rfl, hs⟩
    subst e
    refine ⟨_, rfl, rfl, _, rfl, ?_⟩
    refine ⟨_, rfl, rfl, _, rfl, ?_⟩
    refine ⟨_, rfl, (by show 2 ≤ sizeLine; decide), fun q1 nq1 => ⟨q1, _, rfl, .inr (.inl (.inl upd_same)), rfl, rfl, _, rfl, ?_⟩⟩
    rw [inV_two, show (decide ((Str.ofString "tell") = Str.ofString "once") || decide ((Str.ofString "tell") = Str.ofString "next")) = false by decide +kernel]
    have s2 := s1.trans (same_new (o := .tup [.str "once", .str "next"]) nq1)
    generalize upd H1 q1 (.tup [.str "once", .str "next"]) = H2 at *
    refine ⟨_, rfl, rfl, _, rfl, ?_⟩
    refine ⟨_, rfl, (by show 3 ≤ sizeLine; decide), fun q2 nq2 => ⟨q2, _, rfl, .inr (.inl (.inl upd_same)), rfl, rfl, _, rfl, ?_⟩⟩
    rw [inV_three, show (decide ((Str.ofString "tell") = Str.ofString "once") || (decide ((Str.ofString "tell") = Str.ofString "next") || decide ((Str.ofString "tell") = Str.ofString "opening"))) = false by decide +kernel]
    have s3 := s2.trans (same_new (o := .tup [.str "once", .str "next", .str "opening"]) nq2)
    generalize upd H2 q2 (.tup [.str "once", .str "next", .str "opening"]) = H3 at *
    refine ⟨_, rfl, (by show 3 ≤ sizeLine; decide), fun q3 nq3 => ⟨q3, _, rfl, .inr (.inl (.inl upd_same)), rfl, rfl, _, rfl, ?_⟩⟩
    rw [inV_three, show (decide ((Str.ofString "tell") = Str.ofString "secrets") || (decide ((Str.ofString "tell") = Str.ofString "once") || decide ((Str.ofString "tell") = Str.ofString "opening"))) = false by decide +kernel]
    have s4 := s3.trans (same_new (o := .tup [.str "secrets", .str "once", .str "opening"]) nq3)
    generalize upd H3 q3 (.tup [.str "secrets", .str "once", .str "opening"]) = H4 at *
    have sF := s4
    have dF := dp_same s4 _ dd
    generalize eR : ledW "tell" y (brD b) t = R0 at ww q
    rw [ledW_tell] at eR
    clear gT g0 g1 w0 w2 wT wT1 gT1 dd1
    have ha : progM 20 (brD b) = progM 20 (brD b) := rfl
    replace ha : progM 20 (brD b) = progM 20 R0.1 := by
      first | (rw [← eR]; exact ha) | rw [← eR]
    have hn : (1 : Int) = R0.2 := by rw [← eR]
    replace dF := Eq.mp (congrArg (Dp K _ _) (congrArg Prod.fst eR)) dF
    rotate_left 1
    obtain ⟨c, r, ew, hT, _⟩ := dp_fun dt
    cases ew
    rcases e with e | e <;> subst e
    refine ⟨_, rfl, rfl, _, rfl, ?_⟩
    rw [decide_eq_true rfl]
    refine ⟨_, rfl, wa, _, 2, _, rfl, rfl, same_sqt s1 hT, rfl, _, rfl, wa, _, 3, _, rfl, rfl, same_sqt s1 hT, rfl, _, rfl, (by show 4 ≤ sizeLine; decide), fun p np => ⟨_, rfl, _, _, rfl, rfl, ?_⟩⟩
    obtain ⟨s2, d2⟩ : Same H (upd H1 p (.tup [.str "marks", .int (l : Int), .int (m : Int), dv])) ∧ Dp K (upd H1 p (.tup [.str "marks", .int (l : Int), .int (m : Int), dv])) (.ref p) (.tuple [.str "marks", .int (l : Int), .int (m : Int), brD b]) := ⟨s1.trans (same_new np), tup_new s1 np (.cons (.str _) (.cons (.int _) (.cons (.int _) (.cons dd .nil))))⟩
    generalize upd H1 p (.tup [.str "marks", .int (l : Int), .int (m : Int), dv]) = H2 at *
    refine ⟨_, rfl, rfl, _, rfl, ?_⟩
    refine ⟨_, rfl, (by show 2 ≤ sizeLine; decide), fun q4 nq4 => ⟨q4, _, rfl, .inr (.inl (.inl upd_same)), rfl, rfl, _, rfl, ?_⟩⟩
    rw [inV_two, show (decide ((Str.ofString "marks") = Str.ofString "once") || decide ((Str.ofString "marks") = Str.ofString "next")) = false by decide +kernel]
    have s3 := s2.trans (same_new (o := .tup [.str "once", .str "next"]) nq4)
    have d3 := dp_same (same_new (o := .tup [.str "once", .str "next"]) nq4) _ d2
    generalize upd H2 q4 (.tup [.str "once", .str "next"]) = H3 at *
    refine ⟨_, rfl, rfl, _, rfl, ?_⟩
    refine ⟨_, rfl, (by show 3 ≤ sizeLine; decide), fun q5 nq5 => ⟨q5, _, rfl, .inr (.inl (.inl upd_same)), rfl, rfl, _, rfl, ?_⟩⟩
    rw [inV_three, show (decide ((Str.ofString "marks") = Str.ofString "once") || (decide ((Str.ofString "marks") = Str.ofString "next") || decide ((Str.ofString "marks") = Str.ofString "opening"))) = false by decide +kernel]
    have s4 := s3.trans (same_new (o := .tup [.str "once", .str "next", .str "opening"]) nq5)
    have d4 := dp_same (same_new (o := .tup [.str "once", .str "next", .str "opening"]) nq5) _ d3
    generalize upd H3 q5 (.tup [.str "once", .str "next", .str "opening"]) = H4 at *
    refine ⟨_, rfl, (by show 3 ≤ sizeLine; decide), fun q6 nq6 => ⟨q6, _, rfl, .inr (.inl (.inl upd_same)), rfl, rfl, _, rfl, ?_⟩⟩
    rw [inV_three, show (decide ((Str.ofString "marks") = Str.ofString "secrets") || (decide ((Str.ofString "marks") = Str.ofString "once") || decide ((Str.ofString "marks") = Str.ofString "opening"))) = false by decide +kernel]
    have s5 := s4.trans (same_new (o := .tup [.str "secrets", .str "once", .str "opening"]) nq6)
    have d5 := dp_same (same_new (o := .tup [.str "secrets", .str "once", .str "opening"]) nq6) _ d4
    generalize upd H4 q6 (.tup [.str "secrets", .str "once", .str "opening"]) = H5 at *
    have sF := s5
    have dF := d5
    generalize eR : ledW "marks" y (brD b) (.fn n l m tabs) = R0 at ww q
    rw [ledW_marks] at eR
    clear gT g0 g1 w0 w2 wT wT1 gT1 dd1
    have ha : progM 20 (brD b) + 1 = progM 20 (.tuple [.str "marks", .int (l : Int), .int (m : Int), brD b]) := by
      show _ = progM (19 + 1) (.tuple (.str "marks" :: ([.int (l : Int), .int (m : Int)] ++ [brD b])))
      rw [progM_marks, last_mem, progM_low (n := 20) (m := 19) hw.1 hm]
      omega
    replace ha : progM 20 (brD b) + 1 = progM 20 R0.1 := by
      first | (rw [← eR]; exact ha) | rw [← eR]
    have hn : (1 : Int) = R0.2 := by rw [← eR]
    replace dF := Eq.mp (congrArg (Dp K _ _) (congrArg Prod.fst eR)) dF
    rotate_left 1
    refine ⟨_, rfl, rfl, _, rfl, ?_⟩
    refine ⟨_, rfl, rfl, _, rfl, ?_⟩
    rw [decide_eq_true rfl]
    refine ⟨_, rfl, wa, _, 2, _, rfl, rfl, same_sqt s1 hT, rfl, _, rfl, wa, _, 3, _, rfl, rfl, same_sqt s1 hT, rfl, _, rfl, (by show 4 ≤ sizeLine; decide), fun p np => ?_⟩
    obtain ⟨s2, d2⟩ : Same H (upd H1 p (.tup [.str "secrets", .int (l : Int), .int (m : Int), dv])) ∧ Dp K (upd H1 p (.tup [.str "secrets", .int (l : Int), .int (m : Int), dv])) (.ref p) (.tuple [.str "secrets", .int (l : Int), .int (m : Int), brD b]) := ⟨s1.trans (same_new np), tup_new s1 np (.cons (.str _) (.cons (.int _) (.cons (.int _) (.cons dd .nil))))⟩
    generalize upd H1 p (.tup [.str "secrets", .int (l : Int), .int (m : Int), dv]) = H2 at *
    refine ⟨_, rfl, (by show 2 ≤ sizeLine; decide), fun q7 nq7 => ⟨q7, _, rfl, .inr (.inl (.inl upd_same)), rfl, rfl, _, rfl, ?_⟩⟩
    rw [inV_two, show (decide ((Str.ofString "secrets") = Str.ofString "once") || decide ((Str.ofString "secrets") = Str.ofString "next")) = false by decide +kernel]
    have s3 := s2.trans (same_new (o := .tup [.str "once", .str "next"]) nq7)
    have d3 := dp_same (same_new (o := .tup [.str "once", .str "next"]) nq7) _ d2
    generalize upd H2 q7 (.tup [.str "once", .str "next"]) = H3 at *
    refine ⟨_, rfl, rfl, _, rfl, ?_⟩
    refine ⟨_, rfl, (by show 3 ≤ sizeLine; decide), fun q8 nq8 => ⟨q8, _, rfl, .inr (.inl (.inl upd_same)), rfl, rfl, _, rfl, ?_⟩⟩
    rw [inV_three, show (decide ((Str.ofString "secrets") = Str.ofString "once") || (decide ((Str.ofString "secrets") = Str.ofString "next") || decide ((Str.ofString "secrets") = Str.ofString "opening"))) = false by decide +kernel]
    have s4 := s3.trans (same_new (o := .tup [.str "once", .str "next", .str "opening"]) nq8)
    have d4 := dp_same (same_new (o := .tup [.str "once", .str "next", .str "opening"]) nq8) _ d3
    generalize upd H3 q8 (.tup [.str "once", .str "next", .str "opening"]) = H4 at *
    refine ⟨_, rfl, (by show 3 ≤ sizeLine; decide), fun q9 nq9 => ⟨q9, _, rfl, .inr (.inl (.inl upd_same)), rfl, rfl, _, rfl, ?_⟩⟩
    rw [inV_three, show (decide ((Str.ofString "secrets") = Str.ofString "secrets") || (decide ((Str.ofString "secrets") = Str.ofString "once") || decide ((Str.ofString "secrets") = Str.ofString "opening"))) = true by decide +kernel]
    have s5 := s4.trans (same_new (o := .tup [.str "secrets", .str "once", .str "opening"]) nq9)
    have d5 := dp_same (same_new (o := .tup [.str "secrets", .str "once", .str "opening"]) nq9) _ d4
    generalize upd H4 q9 (.tup [.str "secrets", .str "once", .str "opening"]) = H5 at *
    have sF := s5
    have dF := d5
    generalize eR : ledW "secrets" y (brD b) (.fn n l m tabs) = R0 at ww q
    rw [ledW_secrets] at eR
    clear gT g0 g1 w0 w2 wT wT1 gT1 dd1
    have ha : progM 20 (brD b) = progM 20 (.tuple [.str "secrets", .int (l : Int), .int (m : Int), brD b]) := by
      show _ = progM (19 + 1) (.tuple (.str "secrets" :: ([.int (l : Int), .int (m : Int)] ++ [brD b])))
      rw [progM_secrets, last_mem, progM_low (n := 20) (m := 19) hw.1 hm]
    replace ha : progM 20 (brD b) = progM 20 R0.1 := by
      first | (rw [← eR]; exact ha) | rw [← eR]
    have hn : (2 : Int) = R0.2 := by rw [← eR]
    replace dF := Eq.mp (congrArg (Dp K _ _) (congrArg Prod.fst eR)) dF
    rotate_left 1
    obtain ⟨c, r, ew, hT, _⟩ := dp_tab dt
    cases ew
    rcases e with e | e <;> subst e
    refine ⟨_, rfl, rfl, _, rfl, ?_⟩
    refine ⟨_, rfl, rfl, _, rfl, ?_⟩
    refine ⟨_, rfl, (by show 2 ≤ sizeLine; decide), fun q10 nq10 => ⟨q10, _, rfl, .inr (.inl (.inl upd_same)), rfl, rfl, _, rfl, ?_⟩⟩
    rw [inV_two, show (decide ((Str.ofString "once") = Str.ofString "once") || decide ((Str.ofString "once") = Str.ofString "next")) = true by decide +kernel]
    have s2 := s1.trans (same_new (o := .tup [.str "once", .str "next"]) nq10)
    generalize upd H1 q10 (.tup [.str "once", .str "next"]) = H2 at *
    refine ⟨(by show 2 ≤ sizeLine; decide), fun L nL => ?_⟩
    refine ⟨_, rfl, rfl, .inr ⟨_, rfl, L, _, 0, _, rfl, rfl, .inl (.inl upd_same), rfl, ?_⟩⟩
    have s3 := s2.trans (same_new (o := .lst [.str "once", .str "guess"]) nL)
    generalize upd H2 L (.lst [.str "once", .str "guess"]) = H3 at *
    refine ⟨_, rfl, wa, _, 2, _, rfl, rfl, same_sqt s3 hT, rfl, _, rfl, (by show 3 ≤ sizeLine; decide), fun p np => ?_⟩
    obtain ⟨s4, d4⟩ : Same H (upd H3 p (.tup [.str "once", .int (m : Int), dv])) ∧ Dp K (upd H3 p (.tup [.str "once", .int (m : Int), dv])) (.ref p) (.tuple [.str "once", .int (m : Int), brD b]) := ⟨s3.trans (same_new np), tup_new s3 np (.cons (.str _) (.cons (.int _) (.cons dd .nil)))⟩
    generalize upd H3 p (.tup [.str "once", .int (m : Int), dv]) = H4 at *
    refine ⟨_, rfl, rfl, _, rfl, ?_⟩
    refine ⟨_, rfl, (by show 3 ≤ sizeLine; decide), fun q11 nq11 => ⟨q11, _, rfl, .inr (.inl (.inl upd_same)), rfl, rfl, _, rfl, ?_⟩⟩
    rw [inV_three, show (decide ((Str.ofString "once") = Str.ofString "once") || (decide ((Str.ofString "once") = Str.ofString "next") || decide ((Str.ofString "once") = Str.ofString "opening"))) = true by decide +kernel]
    have s5 := s4.trans (same_new (o := .tup [.str "once", .str "next", .str "opening"]) nq11)
    have d5 := dp_same (same_new (o := .tup [.str "once", .str "next", .str "opening"]) nq11) _ d4
    generalize upd H4 q11 (.tup [.str "once", .str "next", .str "opening"]) = H5 at *
    refine ⟨_, rfl, (by show 3 ≤ sizeLine; decide), fun q12 nq12 => ⟨q12, _, rfl, .inr (.inl (.inl upd_same)), rfl, rfl, _, rfl, ?_⟩⟩
    rw [inV_three, show (decide ((Str.ofString "once") = Str.ofString "secrets") || (decide ((Str.ofString "once") = Str.ofString "once") || decide ((Str.ofString "once") = Str.ofString "opening"))) = true by decide +kernel]
    have s6 := s5.trans (same_new (o := .tup [.str "secrets", .str "once", .str "opening"]) nq12)
    have d6 := dp_same (same_new (o := .tup [.str "secrets", .str "once", .str "opening"]) nq12) _ d5
    generalize upd H5 q12 (.tup [.str "secrets", .str "once", .str "opening"]) = H6 at *
    have sF := s6
    have dF := d6
    generalize eR : ledW "once" y (brD b) (.gen n m rows) = R0 at ww q
    rw [ledW_once] at eR
    clear gT g0 g1 w0 w2 wT wT1 gT1 dd1
    have ha : (0 : Int) = progM 20 (.tuple [.str "once", .int (m : Int), brD b]) := by
      rw [progM_made (by decide +kernel) (by decide +kernel) (by decide +kernel) (by decide +kernel)]
    replace ha : (0 : Int) = progM 20 R0.1 := by
      first | (rw [← eR]; exact ha) | rw [← eR]
    have hn : (2 : Int) = R0.2 := by rw [← eR]
    replace dF := Eq.mp (congrArg (Dp K _ _) (congrArg Prod.fst eR)) dF
    rotate_left 1
    refine ⟨_, rfl, rfl, _, rfl, ?_⟩
    refine ⟨_, rfl, rfl, _, rfl, ?_⟩
    refine ⟨_, rfl, (by show 2 ≤ sizeLine; decide), fun q13 nq13 => ⟨q13, _, rfl, .inr (.inl (.inl upd_same)), rfl, rfl, _, rfl, ?_⟩⟩
    rw [inV_two, show (decide ((Str.ofString "next") = Str.ofString "once") || decide ((Str.ofString "next") = Str.ofString "next")) = true by decide +kernel]
    have s2 := s1.trans (same_new (o := .tup [.str "once", .str "next"]) nq13)
    generalize upd H1 q13 (.tup [.str "once", .str "next"]) = H2 at *
    refine ⟨(by show 2 ≤ sizeLine; decide), fun L nL => ?_⟩
    refine ⟨_, rfl, rfl, .inr ⟨_, rfl, L, _, 1, _, rfl, rfl, .inl (.inl upd_same), rfl, ?_⟩⟩
    have s3 := s2.trans (same_new (o := .lst [.str "once", .str "guess"]) nL)
    generalize upd H2 L (.lst [.str "once", .str "guess"]) = H3 at *
    refine ⟨_, rfl, wa, _, 2, _, rfl, rfl, same_sqt s3 hT, rfl, _, rfl, (by show 3 ≤ sizeLine; decide), fun p np => ?_⟩
    obtain ⟨s4, d4⟩ : Same H (upd H3 p (.tup [.str "guess", .int (m : Int), dv])) ∧ Dp K (upd H3 p (.tup [.str "guess", .int (m : Int), dv])) (.ref p) (.tuple [.str "guess", .int (m : Int), brD b]) := ⟨s3.trans (same_new np), tup_new s3 np (.cons (.str _) (.cons (.int _) (.cons dd .nil)))⟩
    generalize upd H3 p (.tup [.str "guess", .int (m : Int), dv]) = H4 at *
    refine ⟨_, rfl, rfl, _, rfl, ?_⟩
    refine ⟨_, rfl, (by show 3 ≤ sizeLine; decide), fun q14 nq14 => ⟨q14, _, rfl, .inr (.inl (.inl upd_same)), rfl, rfl, _, rfl, ?_⟩⟩
    rw [inV_three, show (decide ((Str.ofString "next") = Str.ofString "once") || (decide ((Str.ofString "next") = Str.ofString "next") || decide ((Str.ofString "next") = Str.ofString "opening"))) = true by decide +kernel]
    have s5 := s4.trans (same_new (o := .tup [.str "once", .str "next", .str "opening"]) nq14)
    have d5 := dp_same (same_new (o := .tup [.str "once", .str "next", .str "opening"]) nq14) _ d4
    generalize upd H4 q14 (.tup [.str "once", .str "next", .str "opening"]) = H5 at *
    refine ⟨_, rfl, (by show 3 ≤ sizeLine; decide), fun q15 nq15 => ⟨q15, _, rfl, .inr (.inl (.inl upd_same)), rfl, rfl, _, rfl, ?_⟩⟩
    rw [inV_three, show (decide ((Str.ofString "next") = Str.ofString "secrets") || (decide ((Str.ofString "next") = Str.ofString "once") || decide ((Str.ofString "next") = Str.ofString "opening"))) = false by decide +kernel]
    have s6 := s5.trans (same_new (o := .tup [.str "secrets", .str "once", .str "opening"]) nq15)
    have d6 := dp_same (same_new (o := .tup [.str "secrets", .str "once", .str "opening"]) nq15) _ d5
    generalize upd H5 q15 (.tup [.str "secrets", .str "once", .str "opening"]) = H6 at *
    have sF := s6
    have dF := d6
    generalize eR : ledW "next" y (brD b) (.gen n m rows) = R0 at ww q
    rw [ledW_else (by decide +kernel) (by decide +kernel) (by decide +kernel) (by decide +kernel) (by decide +kernel)] at eR
    clear gT g0 g1 w0 w2 wT wT1 gT1 dd1
    have ha : (0 : Int) = progM 20 (.tuple [.str "guess", .int (m : Int), brD b]) := by
      rw [progM_made (by decide +kernel) (by decide +kernel) (by decide +kernel) (by decide +kernel)]
    replace ha : (0 : Int) = progM 20 R0.1 := by
      first | (rw [← eR]; exact ha) | rw [← eR]
    have hn : (1 : Int) = R0.2 := by rw [← eR]
    replace dF := Eq.mp (congrArg (Dp K _ _) (congrArg Prod.fst eR)) dF
    rotate_left 1
    subst e
    refine ⟨_, rfl, rfl, _, rfl, ?_⟩
    refine ⟨_, rfl, rfl, _, rfl, ?_⟩
    refine ⟨_, rfl, (by show 2 ≤ sizeLine; decide), fun q16 nq16 => ⟨q16, _, rfl, .inr (.inl (.inl upd_same)), rfl, rfl, _, rfl, ?_⟩⟩
    rw [inV_two, show (decide ((Str.ofString "opening") = Str.ofString "once") || decide ((Str.ofString "opening") = Str.ofString "next")) = false by decide +kernel]
    have s2 := s1.trans (same_new (o := .tup [.str "once", .str "next"]) nq16)
    generalize upd H1 q16 (.tup [.str "once", .str "next"]) = H2 at *
    refine ⟨_, rfl, rfl, _, rfl, ?_⟩
    rw [decide_eq_true rfl]
    obtain ⟨yv, ey, hy⟩ := g1 rfl
    refine ⟨_, rfl, ga, _, 1, _, rfl, rfl, same_sqt s2 gT, atI_nat (j := 1) ey, _, rfl, (by show 3 ≤ sizeLine; decide), fun p np => ?_⟩
    obtain ⟨s3, d3⟩ : Same H (upd H2 p (.tup [.str "opening", yv, dv])) ∧ Dp K (upd H2 p (.tup [.str "opening", yv, dv])) (.ref p) (.tuple [.str "opening", .str (sb s), brD b]) := ⟨s2.trans (same_new np), tup_new s2 np (.cons (.str _) (.cons hy (.cons dd .nil)))⟩
    generalize upd H2 p (.tup [.str "opening", yv, dv]) = H3 at *
    refine ⟨_, rfl, (by show 3 ≤ sizeLine; decide), fun q17 nq17 => ⟨q17, _, rfl, .inr (.inl (.inl upd_same)), rfl, rfl, _, rfl, ?_⟩⟩
    rw [inV_three, show (decide ((Str.ofString "opening") = Str.ofString "once") || (decide ((Str.ofString "opening") = Str.ofString "next") || decide ((Str.ofString "opening") = Str.ofString "opening"))) = true by decide +kernel]
    have s4 := s3.trans (same_new (o := .tup [.str "once", .str "next", .str "opening"]) nq17)
    have d4 := dp_same (same_new (o := .tup [.str "once", .str "next", .str "opening"]) nq17) _ d3
    generalize upd H3 q17 (.tup [.str "once", .str "next", .str "opening"]) = H4 at *
    refine ⟨_, rfl, (by show 3 ≤ sizeLine; decide), fun q18 nq18 => ⟨q18, _, rfl, .inr (.inl (.inl upd_same)), rfl, rfl, _, rfl, ?_⟩⟩
    rw [inV_three, show (decide ((Str.ofString "opening") = Str.ofString "secrets") || (decide ((Str.ofString "opening") = Str.ofString "once") || decide ((Str.ofString "opening") = Str.ofString "opening"))) = true by decide +kernel]
    have s5 := s4.trans (same_new (o := .tup [.str "secrets", .str "once", .str "opening"]) nq18)
    have d5 := dp_same (same_new (o := .tup [.str "secrets", .str "once", .str "opening"]) nq18) _ d4
    generalize upd H4 q18 (.tup [.str "secrets", .str "once", .str "opening"]) = H5 at *
    have sF := s5
    have dF := d5
    generalize eR : ledW "opening" (.str (sb s)) (brD b) (.gen n m rows) = R0 at ww q
    rw [ledW_open] at eR
    clear gT g0 g1 w0 w2 wT wT1 gT1 dd1
    have ha : (0 : Int) = progM 20 (.tuple [.str "opening", .str (sb s), brD b]) := by
      rw [progM_made (by decide +kernel) (by decide +kernel) (by decide +kernel) (by decide +kernel)]
    replace ha : (0 : Int) = progM 20 R0.1 := by
      first | (rw [← eR]; exact ha) | rw [← eR]
    have hn : (2 : Int) = R0.2 := by rw [← eR]
    replace dF := Eq.mp (congrArg (Dp K _ _) (congrArg Prod.fst eR)) dF
    rotate_left 1
    all_goals
      refine ⟨_, rfl, La, us, rfl, sF.seq hL, fun p np => ⟨p, rfl, ⟨_, .inl (.inl upd_same)⟩, for_list (xs := us.reverse) (fun i σ H' => ∃ (Dc : PyData) (nc : Int) (dvc : V) (y4 y8 y9 y10 y11 : Option V), σ = [some (.ref ga), some (.ref wa), some (.ref La), some dv, y4, some (.int (progM 20 Dc)), some dvc, some (.int nc), y8, y9, y10, y11] ∧ Same H H' ∧ H' p = some (.lst us.reverse) ∧ Dp K H' dvc Dc ∧ Way (1 + i) Dc ∧ ledAll tr.reverse R0 = ledAll (tr.reverse.drop i) (Dc, nc)) ?_ ?_ ?_ ?_⟩⟩
      · exact ⟨R0.1, R0.2, _, _, none, none, none, none, by rw [← ha, ← hn]; rfl, sF.trans (same_new np), upd_same, dp_same (same_new np) _ dF, ww.1, rfl⟩
      · rintro i σ H' _ ⟨Dc, nc, dvc, y4, y8, y9, y10, y11, rfl, s5, eP, hdc, way, el⟩
        exact .inl (.inl eP)
      · rintro i x σ H' hx ⟨Dc, nc, dvc, y4, y8, y9, y10, y11, rfl, s5, eP, hdc, way, el⟩
        obtain ⟨d0, f1, f2⟩ := dp_all_get (dps_rev hU) hx
        rw [← List.map_reverse, List.getElem?_map] at f1
        obtain ⟨⟨⟨u1, u2⟩, c⟩, f3, rfl⟩ := Option.map_eq_some_iff.mp f1
        have hmem : ((u1, u2), c) ∈ tr := List.mem_reverse.mp (List.mem_of_getElem? f3)
        obtain ⟨cok, c', lay⟩ := chain_mem ch ok0 _ hmem
        obtain ⟨z1, k1, eq1, _⟩ := sch_mem sch _ (List.mem_map.mpr ⟨_, hmem, rfl⟩)
        cases eq1
        obtain ⟨j1, rfl⟩ : ∃ j : Nat, k1 = (j : Int) := by
          rcases lay_some cok lay with ⟨_, _, j, _, _, ej, _⟩ | ⟨_, _, j, _, _, ej, _⟩ | ⟨_, _, _, _, j, _, _, ej, _⟩ | ⟨_, _, _, j, _, _, ej, _⟩ <;> exact ⟨j, PyData.int.inj ej⟩
        obtain ⟨hi2, e2⟩ := List.getElem?_eq_some_iff.mp f3
        rw [List.drop_eq_getElem_cons hi2, e2] at el
        obtain ⟨xa, tv, rfl, xT, ht⟩ : ∃ xa tv, x = .ref xa ∧ SqT K H xa [.str z1, .int (j1 : Int), tv] ∧ Dp K H tv c.D := by
          cases f2 with
          | tup hT hA =>
            cases hA with
            | cons h0 hA =>
              cases h0
              cases hA with
              | cons h1 hA =>
                cases h1
                cases hA with
                | cons h2 hA =>
                  cases hA
                  exact ⟨_, _, rfl, hT, h2⟩
        obtain ⟨w6, c60, c61⟩ := ledD_way cok lay way
        refine ⟨xa, _, rfl, same_sqt s5 xT, rfl, _, _, rfl, _, _, rfl, _, _, rfl, rfl, ?_⟩
        have ht5 := dp_same s5 _ ht
        have el : _ = ledAll (tr.reverse.drop (i + 1)) ((ledD z1 j1 c Dc).1, nc * (ledD z1 j1 c Dc).2) := el
        rcases lay_some cok lay with ⟨ez, n1, j2, rows1, rfl, ej, wf, j3, j4, _⟩ | ⟨ez, n1, j2, rows1, rfl, ej, wf, n8, j3, j4, nj, _⟩ | ⟨ez, n1, l1, m1, j2, tabs1, rfl, ej, wf, j3, j4, jm, _⟩ | ⟨ez, n1, m1, j2, rows1, rfl, ej, wf, j3, j4, _⟩
        · cases ez
          have ejj : (j1 : Int) = (j2 : Int) := PyData.int.inj ej
          rw [ledD_longer] at el w6 c60 c61
          refine ⟨_, rfl, rfl, _, rfl, ?_⟩
          rw [decide_eq_true rfl]
          refine ⟨_, rfl, _, rfl, _, rfl, (by show 4 ≤ sizeLine; decide), fun p3 np3 => ?_⟩
          obtain ⟨s6, d6⟩ : Same H' (upd H' p3 (.tup [.str "longer", tv, .int (j1 : Int), dvc])) ∧ Dp K (upd H' p3 (.tup [.str "longer", tv, .int (j1 : Int), dvc])) (.ref p3) (.tuple [.str "longer", (Blk.gen n1 (n1 + 1) rows1).D, .int (j1 : Int), Dc]) := ⟨same_new np3, tup_new (Same.refl H') np3 (.cons (.str _) (.cons ht5 (.cons (.int _) (.cons hdc .nil))))⟩
          generalize upd H' p3 (.tup [.str "longer", tv, .int (j1 : Int), dvc]) = H6 at *
          refine ⟨_, rfl, _, rfl, _, _, rfl, rfl, .inr ⟨by omega, by omega⟩, ?_⟩
          refine ⟨_, rfl, rfl, _, rfl, ?_⟩
          refine ⟨_, rfl, rfl, _, rfl, ?_⟩
          refine ⟨_, rfl, rfl, _, rfl, ?_⟩
          refine ⟨_, rfl, rfl, _, rfl, ?_⟩
          have hp : (0 : Int) = progM 20 (.tuple [.str "longer", (Blk.gen n1 (n1 + 1) rows1).D, .int (j1 : Int), Dc]) := by rw [progM_made (by decide +kernel) (by decide +kernel) (by decide +kernel) (by decide +kernel)]
          exact ⟨_, _, _, _, _, _, _, _, by rw [← hp]; rfl, s5.trans s6, s6 _ _ eP, d6, w6, el⟩
        · cases ez
          have ejj : (j1 : Int) = (j2 : Int) := PyData.int.inj ej
          rw [ledD_tree] at el w6 c60 c61
          refine ⟨_, rfl, rfl, _, rfl, ?_⟩
          refine ⟨_, rfl, rfl, _, rfl, ?_⟩
          rw [decide_eq_true rfl]
          refine ⟨_, rfl, _, _, rfl, ?_⟩
          change gName 5 (V.int (qOf Dc)) _ H' _
          refine ⟨_, rfl, _, rfl, _, rfl, _, rfl, (by show 5 ≤ sizeLine; decide), fun p3 np3 => ?_⟩
          obtain ⟨s6, d6⟩ : Same H' (upd H' p3 (.tup [.str "tree", tv, .int (j1 : Int), .int (qOf Dc), dvc])) ∧ Dp K (upd H' p3 (.tup [.str "tree", tv, .int (j1 : Int), .int (qOf Dc), dvc])) (.ref p3) (.tuple [.str "tree", (Blk.gen n1 (2 * n1) rows1).D, .int (j1 : Int), .int (qOf Dc), Dc]) := ⟨same_new np3, tup_new (Same.refl H') np3 (.cons (.str _) (.cons ht5 (.cons (.int _) (.cons (.int _) (.cons hdc .nil)))))⟩
          generalize upd H' p3 (.tup [.str "tree", tv, .int (j1 : Int), .int (qOf Dc), dvc]) = H6 at *
          refine ⟨_, rfl, _, rfl, _, rfl, by omega, by omega, fun Dl hD => ?_⟩
          refine lc_range (lo := 0) (n := j1) (fun i H' => Same H6 H' ∧ H' Dl = some (.lst (((List.range i).map fun i => if qOf Dc < ((2 ^ i : Nat) : Int) then qOf Dc else ((2 ^ i : Nat) : Int)).map V.int))) ?_ ?_ ?_
          · exact ⟨same_new hD, upd_same⟩
          · rintro i H' hi ⟨s3, e3⟩
            refine ⟨rfl, _, rfl, _, _, rfl, rfl, ⟨by omega, by omega, by decide⟩, _, rfl, _, _, rfl, _, e3, ?_, set_same s3 hD, ?_⟩
            · rw [List.length_map, List.length_map, List.length_range, sizeLine_eq]
              omega
            · rw [upd_same, List.range_succ, List.map_append, List.map_append, Int.zero_add, shl_one]
              rfl
          rintro H7 ⟨s7, e7⟩
          refine ⟨Dl, _, rfl, .inl (.inl e7), _, _, rfl, rfl, .inr ⟨Int.lt_of_lt_of_le (by decide) (show 0 ≤ qSum (qOf Dc) j1 from c60), Int.lt_of_le_of_lt (show qSum (qOf Dc) j1 ≤ 1000 from c61) (by decide)⟩, ?_⟩
          replace s6 := s6.trans s7
          replace d6 := dp_same s7 _ d6
          refine ⟨_, rfl, rfl, _, rfl, ?_⟩
          refine ⟨_, rfl, rfl, _, rfl, ?_⟩
          refine ⟨_, rfl, rfl, _, rfl, ?_⟩
          have hp : (0 : Int) = progM 20 (.tuple [.str "tree", (Blk.gen n1 (2 * n1) rows1).D, .int (j1 : Int), .int (qOf Dc), Dc]) := by rw [progM_made (by decide +kernel) (by decide +kernel) (by decide +kernel) (by decide +kernel)]
          exact ⟨_, _, _, _, _, _, _, _, by rw [← hp]; rfl, s5.trans s6, s6 _ _ eP, d6, w6, el⟩
        · cases ez
          rw [ledD_cnt] at el w6 c60 c61
          refine ⟨_, rfl, rfl, _, rfl, ?_⟩
          refine ⟨_, rfl, rfl, _, rfl, ?_⟩
          refine ⟨_, rfl, rfl, _, rfl, ?_⟩
          rw [decide_eq_true rfl]
          obtain ⟨ta, tr1, rfl, hT, hR⟩ := dp_fun ht5
          refine ⟨_, rfl, ta, _, 2, _, rfl, rfl, hT, rfl, _, rfl, _, rfl, ta, _, 3, _, rfl, rfl, hT, rfl, _, rfl, (by show 5 ≤ sizeLine; decide), fun p3 np3 => ?_⟩
          obtain ⟨s6, d6⟩ : Same H' (upd H' p3 (.tup [.str "counter", .int (l1 : Int), .int (j1 : Int), .int (m1 : Int), dvc])) ∧ Dp K (upd H' p3 (.tup [.str "counter", .int (l1 : Int), .int (j1 : Int), .int (m1 : Int), dvc])) (.ref p3) (.tuple [.str "counter", .int (l1 : Int), .int (j1 : Int), .int (m1 : Int), Dc]) := ⟨same_new np3, tup_new (Same.refl H') np3 (.cons (.str _) (.cons (.int _) (.cons (.int _) (.cons (.int _) (.cons hdc .nil)))))⟩
          generalize upd H' p3 (.tup [.str "counter", .int (l1 : Int), .int (j1 : Int), .int (m1 : Int), dvc]) = H6 at *
          refine ⟨_, rfl, rfl, _, rfl, ?_⟩
          refine ⟨_, rfl, rfl, _, rfl, ?_⟩
          rw [decide_eq_true rfl]
          refine ⟨_, rfl, ?_⟩
          have hp : (j1 : Int) = progM 20 (.tuple [.str "counter", .int (l1 : Int), .int (j1 : Int), .int (m1 : Int), Dc]) := by
            rw [progM_other (by decide +kernel) (by decide +kernel), if_pos rfl]
            rfl
          exact ⟨_, _, _, _, _, _, _, _, by rw [← hp]; rfl, s5.trans s6, s6 _ _ eP, d6, w6, (el.trans (by rw [Int.mul_one]; rfl))⟩
        · cases ez
          rw [ledD_cut] at el w6 c60 c61
          refine ⟨_, rfl, rfl, _, rfl, ?_⟩
          refine ⟨_, rfl, rfl, _, rfl, ?_⟩
          refine ⟨_, rfl, rfl, _, rfl, ?_⟩
          refine ⟨_, rfl, rfl, _, rfl, ?_⟩
          rw [decide_eq_true rfl]
          refine ⟨_, rfl, _, rfl, (by show 3 ≤ sizeLine; decide), fun p3 np3 => ?_⟩
          obtain ⟨s6, d6⟩ : Same H' (upd H' p3 (.tup [.str "cut", .int (j1 : Int), dvc])) ∧ Dp K (upd H' p3 (.tup [.str "cut", .int (j1 : Int), dvc])) (.ref p3) (.tuple [.str "cut", .int (j1 : Int), Dc]) := ⟨same_new np3, tup_new (Same.refl H') np3 (.cons (.str _) (.cons (.int _) (.cons hdc .nil)))⟩
          generalize upd H' p3 (.tup [.str "cut", .int (j1 : Int), dvc]) = H6 at *
          refine ⟨_, rfl, rfl, _, rfl, ?_⟩
          have hp : (0 : Int) = progM 20 (.tuple [.str "cut", .int (j1 : Int), Dc]) := by rw [progM_made (by decide +kernel) (by decide +kernel) (by decide +kernel) (by decide +kernel)]
          exact ⟨_, _, _, _, _, _, _, _, by rw [← hp]; rfl, s5.trans s6, s6 _ _ eP, d6, w6, (el.trans (by rw [Int.mul_one]))⟩
      · rintro σ H' ⟨Dc, nc, dvc, y4, y8, y9, y10, y11, rfl, s5, eP, hdc, way, el⟩
        have hul := dp_all_len hU
        rw [List.length_map] at hul
        rw [List.drop_eq_nil_of_le (by rw [List.length_reverse, List.length_reverse]; omega)] at el
        have el : _ = (Dc, nc) := el
        refine ⟨_, rfl, _, rfl, (by show 2 ≤ sizeLine; decide), fun p9 np9 => ?_⟩
        rw [el] at q
        exact q p9 dvc _ (s5.trans (same_new np9)) (dp_same (same_new np9) _ hdc) (.inl (.inl upd_same))

end
def spRef32 (K : PySem.W.Frag) : Sp := fun vs H Q _ => ∃ (gv bv dv : V) (g B D : PyData) (n m k : Nat), vs = [gv, bv, dv] ∧ Dp K H gv g ∧ Gd n g ∧ Dp K H bv B ∧ Gd m B ∧ m ≤ 64 ∧ Dp K H dv D ∧ Gd k D ∧
  ((blockOk B = false ∧ ∀ H', Same H H' → Q (.int 1) H') ∨ ∃ b : Blk, B = b.D ∧ b.Ok ∧ ((goalOk g b = false ∧ ∀ H', Same H H' → Q (.int 2) H') ∨ (goalOk g b = true ∧ isPl D = false ∧ ∀ H', Same H H' → Q (.int 3) H')))

section
variable {P : Program} {w : World} {K : PySem.W.Frag} {mg : Str → Option Value} {base : Heap} {cs : Cs}
theorem ok_ref32 {f : Addr} {fd : FuncData} (D : Df K mg "_law_refused" s_law_refused ["goal", "block", "breaker"] f fd) (T : Txt K w mg cs) (c_carried : Cl P w K mg base (L2.CX P w) 11 "carried" (spCarried K cs.BadBlock cs.BadScheme cs.BadBreaker)) : FnOk P w K mg base CX0 12 f fd ["goal", "block", "breaker"] (spRef32 K) := by
  refine D.fn.ok sc_law_refused (fun vs H Q E h => ?_) (fun cdv A outer s H vs Q E hr h => ?_)
  · obtain ⟨gv, bv, dv, g, B, D, n, m, k, rfl, _⟩ := h
    rfl
  · obtain ⟨gv, bv, dv, g, B, D, n, m, k, rfl, hg, gg, hb, gb, m64, hd, gd, q⟩ := h
    refine ⟨_, (pss_cons (ps_try_named (Wout := fun _ _ _ _ => False) rfl rfl sc_law_refused.nd takes0 (fun W pn xe tk _ => (pss_one (ps_expr (pe_clX c_carried hr (by first | decide | omega) (by rfl) tk (pa_cons (pv 0) (pa_cons (pv 1) (pa_cons (pv 2) pa_nil))))))) (ClaOk.cons (q := ⟨_, 3, _⟩) rfl rfl ⟨rfl, by decide, .inl T.gl_BadBlock⟩ (fun a oe cls d pn hz hf => pss_when (C := cs.BadBlock) hz fun hz => (pss_one (ps_ret (pe_op op_add pe_int (pe_op op_mul pe_int (pe_callTy call_int1 (by rfl) T.n_int (by decide +kernel) (pa_cons (pe_not (pe_callB (call_isE T.e_BadBlock hz hf) (by rfl) T.n_isinstance (by decide +kernel) (pa_cons (pv 3) (pa_cons (pe_glob (v := .ref cs.BreakError) (by rfl) T.gl_BreakError rfl) pa_nil)))) pa_nil))))))) (ClaOk.cons (q := ⟨_, 3, _⟩) rfl rfl ⟨rfl, by decide, .inl T.gl_BadScheme⟩ (fun a oe cls d pn hz hf => pss_when (C := cs.BadScheme) hz fun hz => (pss_one (ps_ret (pe_op op_add pe_int (pe_op op_mul pe_int (pe_callTy call_int1 (by rfl) T.n_int (by decide +kernel) (pa_cons (pe_not (pe_callB (call_isE T.e_BadScheme hz hf) (by rfl) T.n_isinstance (by decide +kernel) (pa_cons (pv 3) (pa_cons (pe_glob (v := .ref cs.BreakError) (by rfl) T.gl_BreakError rfl) pa_nil)))) pa_nil))))))) (ClaOk.cons (q := ⟨_, 3, _⟩) rfl rfl ⟨rfl, by decide, .inl T.gl_BadBreaker⟩ (fun a oe cls d pn hz hf => pss_when (C := cs.BadBreaker) hz fun hz => (pss_one (ps_ret (pe_op op_add pe_int (pe_op op_mul pe_int (pe_callTy call_int1 (by rfl) T.n_int (by decide +kernel) (pa_cons (pe_not (pe_callB (call_isE T.e_BadBreaker hz hf) (by rfl) T.n_isinstance (by decide +kernel) (pa_cons (pv 3) (pa_cons (pe_glob (v := .ref cs.BreakError) (by rfl) T.gl_BreakError rfl) pa_nil)))) pa_nil))))))) ClaOk.nil)))) (pss_one (ps_ret pe_int))), ?_⟩
    refine ⟨_, rfl, _, rfl, _, rfl, gv, bv, dv, g, B, D, n, m, k, rfl, hg, gg, hb, gb, m64, hd, gd, ?_⟩
    rcases q with ⟨no, q⟩ | ⟨b, rfl, ok, ⟨no, q⟩ | ⟨yes, no, q⟩⟩
    · refine .inl ⟨no, fun H1 s1 => ?_⟩
      refine ⟨true, T.exm_BadBlock_BadBlock, fun _ a na => ⟨⟨rfl, rfl⟩, ?_⟩, fun q => nomatch q⟩
      refine ⟨_, rfl, _, _, true, rfl, fun u hu => hu, T.kit_BadBlock_BreakError, _, rfl, .inr ⟨_, rfl, _, _, rfl, rfl, .inl ⟨by decide, by decide⟩, _, _, rfl, rfl, ?_⟩⟩
      exact q H1 s1
    · refine .inr ⟨b, rfl, ok, .inl ⟨no, fun H1 s1 => ?_⟩⟩
      refine ⟨false, T.exm_BadScheme_BadBlock, (fun z => Bool.noConfusion z), fun _ => ⟨true, T.exm_BadScheme_BadScheme, fun _ a na => ⟨⟨rfl, rfl⟩, ?_⟩, fun q => nomatch q⟩⟩
      refine ⟨_, rfl, _, _, true, rfl, fun u hu => hu, T.kit_BadScheme_BreakError, _, rfl, .inr ⟨_, rfl, _, _, rfl, rfl, .inl ⟨by decide, by decide⟩, _, _, rfl, rfl, ?_⟩⟩
      exact q H1 s1
    · refine .inr ⟨b, rfl, ok, .inr ⟨yes, .inl ⟨no, fun H1 s1 => ?_⟩⟩⟩
      refine ⟨false, T.exm_BadBreaker_BadBlock, (fun z => Bool.noConfusion z), fun _ => ⟨false, T.exm_BadBreaker_BadScheme, (fun z => Bool.noConfusion z), fun _ => ⟨true, T.exm_BadBreaker_BadBreaker, fun _ a na => ⟨⟨rfl, rfl⟩, ?_⟩, fun q => nomatch q⟩⟩⟩
      refine ⟨_, rfl, _, _, true, rfl, fun u hu => hu, T.kit_BadBreaker_BreakError, _, rfl, .inr ⟨_, rfl, _, _, rfl, rfl, .inl ⟨by decide, by decide⟩, _, _, rfl, rfl, ?_⟩⟩
      exact q H1 s1

end
def wfM : Nat → PyData → Prop
  | 0, _ => False
  | j + 1, d => okN (j + 1) d = true ∨ ∃ z r, d = .tuple (.str z :: r) ∧ madeZ z = true ∧ fitZ z r.dropLast = true ∧ wfM j (lastD d)
def mV : Nat → PyData → Int
  | 0, _ => 0
  | j + 1, d => if madeD d then (if headIs "marks" d then 1 + mV j (lastD d) else if headIs "secrets" d then mV j (lastD d) else if headIs "counter" d then intOf (item 2 d) else 0) else (paN (j + 1) d : Int)
theorem okN_parts {n : Nat} {d : PyData} (h : okN (n + 1) d = true) : looksOk d = true ∧ ∀ e ∈ kidsD d, okN n e = true := by
  have h' : (looksOk d && (kidsD d).all (okN n)) = true := h
  rw [Bool.and_eq_true, List.all_eq_true] at h'
  exact h'
theorem looks_names {d : PyData} (h : looksOk d = true) : ∃ z r, d = .tuple (.str z :: r) ∧ (z = "say" ∨ z = "toss" ∨ z = "look" ∨ z = "ask") := by
  obtain ⟨k, r, rfl⟩ := looks_head h
  rw [looks_eq] at h
  cases c1 : named "say" k with
  | true => exact ⟨_, r, by rw [named_eq c1], .inl rfl⟩
  | false =>
    rw [c1, if_neg (by decide)] at h
    cases c2 : named "toss" k with
    | true => exact ⟨_, r, by rw [named_eq c2], .inr (.inl rfl)⟩
    | false =>
      rw [c2, if_neg (by decide)] at h
      cases c3 : named "look" k with
      | true => exact ⟨_, r, by rw [named_eq c3], .inr (.inr (.inl rfl))⟩
      | false =>
        rw [c3, if_neg (by decide), Bool.and_eq_true] at h
        exact ⟨_, r, by rw [named_eq h.1], .inr (.inr (.inr rfl))⟩
theorem looks_plainD {d : PyData} (h : looksOk d = true) : madeD d = false := by
  obtain ⟨z, r, rfl, hz⟩ := looks_names h
  show madeZ z = false
  rcases hz with rfl | rfl | rfl | rfl <;> decide
theorem okN_plainD {n : Nat} {d : PyData} (h : okN n d = true) : madeD d = false := by
  cases n with
  | zero => cases h
  | succ n => exact looks_plainD (okN_parts h).1
theorem mV_plain {n : Nat} {d : PyData} (h : okN n d = true) : mV n d = (paN n d : Int) := by
  cases n with
  | zero => cases h
  | succ n =>
    rw [mV, if_neg (by rw [okN_plainD h]; decide)]
theorem ok_stable : ∀ {n : Nat} {d : PyData}, okN n d = true → okN (n + 1) d = true ∧ paN (n + 1) d = paN n d := by
  intro n
  induction n with
  | zero =>
    intro d h
    cases h
  | succ n ih =>
    intro d h
    obtain ⟨h1, h2⟩ := okN_parts h
    constructor
    · show (looksOk d && (kidsD d).all (okN (n + 1))) = true
      rw [h1, List.all_eq_true.mpr fun e he => (ih (h2 e he)).1]
      rfl
    · show askB d + ((kidsD d).map (paN (n + 1))).foldl max 0 = askB d + ((kidsD d).map (paN n)).foldl max 0
      rw [List.map_congr_left fun e he => (ih (h2 e he)).2]
theorem ok_stableN {n : Nat} {d : PyData} (h : okN n d = true) : ∀ k : Nat, okN (n + k) d = true ∧ paN (n + k) d = paN n d
  | 0 => ⟨h, rfl⟩
  | k + 1 => by
    obtain ⟨h1, h2⟩ := ok_stableN h k
    obtain ⟨h3, h4⟩ := ok_stable h1
    exact ⟨h3, h4.trans h2⟩
theorem chk_most : ∀ {n : Nat} {d : PyData}, chk n d = true → wfM (60 + n) d ∧ mV (60 + n) d = progM n d := by
  intro n
  have plain : ∀ (n : Nat) (d : PyData), madeD d = false → chk n d = true → wfM (60 + n) d ∧ mV (60 + n) d = progM n d := by
    intro n d c h
    rw [chk_plain c] at h
    unfold plainOk at h
    rw [Bool.and_eq_true] at h
    obtain ⟨h1, h2⟩ := ok_stableN h.1 n
    obtain ⟨z, r, rfl, hz⟩ := looks_names (okN_parts (n := 59) h.1).1
    refine ⟨?_, ?_⟩
    · rw [show 60 + n = (59 + n) + 1 by omega] at h1 ⊢
      exact .inl h1
    · rw [mV_plain h1, h2, progM_other (by rcases hz with rfl | rfl | rfl | rfl <;> decide) (by rcases hz with rfl | rfl | rfl | rfl <;> decide), if_neg (by rcases hz with rfl | rfl | rfl | rfl <;> decide), if_neg (by rw [c]; decide)]
  induction n with
  | zero =>
    intro d h
    cases c : madeD d with
    | true =>
      rw [chk_zero c] at h
      cases h
    | false => exact plain 0 d c h
  | succ n ih =>
    intro d h
    cases c : madeD d with
    | false => exact plain (n + 1) d c h
    | true =>
      obtain ⟨z, r, rfl, hz⟩ := made_parts c
      obtain ⟨m, em, hf, hc⟩ := chk_made c h
      have em' : n = m := by omega
      subst em'
      obtain ⟨i1, i2⟩ := ih hc
      refine ⟨.inr ⟨z, r, rfl, hz, hf, i1⟩, ?_⟩
      show mV ((60 + n) + 1) _ = _
      rw [mV, if_pos c, head_str, head_str, head_str, i2]
      by_cases c1 : z = "marks"
      · subst c1
        rw [if_pos (decide_eq_true rfl), progM_marks]
      · rw [if_neg (by rw [decide_eq_false c1]; decide)]
        by_cases c2 : z = "secrets"
        · subst c2
          rw [if_pos (decide_eq_true rfl), progM_secrets]
        · rw [if_neg (by rw [decide_eq_false c2]; decide), progM_other c1 c2]
          by_cases c3 : z = "counter"
          · rw [if_pos (decide_eq_true c3), if_pos c3]
          · rw [if_neg (by rw [decide_eq_false c3]; decide), if_neg c3, if_pos c]
theorem two_parts {r : List PyData} {a b : Int × Int} (h : numsOk r.dropLast [a, b] = true) : ∃ x y z, r = [x, y, z] := by
  have hl : r.dropLast.length = 2 := by
    by_cases c : r.dropLast.length = [a, b].length
    · exact c
    · rw [nums_len c] at h
      cases h
  rw [List.length_dropLast] at hl
  match r, hl with
  | [x, y, z], _ => exact ⟨x, y, z, rfl⟩
theorem max_is {l : List Nat} {m : Int} (h1 : m ∈ l.map (fun n : Nat => (n : Int))) (h2 : ∀ y ∈ l.map (fun n : Nat => (n : Int)), y ≤ m) : m = (l.foldl max 0 : Nat) := by
  have key : ∀ (l : List Nat) (b k : Nat), b ≤ k → (∀ y ∈ l, y ≤ k) → (b = k ∨ k ∈ l) → l.foldl max b = k := by
    intro l
    induction l with
    | nil =>
      intro b k h0 h1 h2
      rcases h2 with h | h
      · exact h
      · cases h
    | cons x l ih =>
      intro b k h0 h1 h2
      rw [List.foldl_cons]
      have hx := h1 x List.mem_cons_self
      refine ih _ _ (by omega) (fun y hy => h1 y (List.mem_cons_of_mem _ hy)) ?_
      rcases h2 with h | h
      · exact .inl (by omega)
      · rcases List.mem_cons.mp h with e | h
        · exact .inl (by omega)
        · exact .inr h
  obtain ⟨k, hk, rfl⟩ := List.mem_map.mp h1
  rw [key l 0 k (Nat.zero_le _) (fun y hy => by have := h2 y (List.mem_map.mpr ⟨y, hy, rfl⟩); omega) (.inr hk)]
def spLM (K : PySem.W.Frag) (j : Nat) : Sp := fun vs H Q _ => ∃ (v : V) (d : PyData) (n : Nat), vs = [v] ∧ Dp K H v d ∧ Gd n d ∧ wfM j d ∧ ∀ H', Same H H' → Q (.int (mV j d)) H'

def spIR (K : PySem.W.Frag) : Sp := fun vs H Q _ => ∃ (v : V) (d : PyData) (n : Nat), vs = [v] ∧ Dp K H v d ∧ Gd n d ∧ brOk d = true ∧ ∀ H', Same H H' → Q (.bl true) H'
theorem sz_stable : ∀ {n : Nat} {d : PyData}, okN n d = true → szN (n + 1) d = szN n d := by
  intro n
  induction n with
  | zero =>
    intro d h
    cases h
  | succ n ih =>
    intro d h
    obtain ⟨h1, h2⟩ := okN_parts h
    show 1 + ((kidsD d).map (szN (n + 1))).sum = 1 + ((kidsD d).map (szN n)).sum
    rw [List.map_congr_left fun e he => ih (h2 e he)]
theorem sz_stableN {n : Nat} {d : PyData} (h : okN n d = true) : ∀ k : Nat, szN (n + k) d = szN n d
  | 0 => rfl
  | k + 1 => (sz_stable (ok_stableN h k).1).trans (sz_stableN h k)
theorem plain_of {j : Nat} {d : PyData} (h : okN j d = true) (hj : j ≤ 60) (hs : szN j d ≤ 2001) : plainOk d = true := by
  obtain ⟨k, e⟩ : ∃ k, 60 = j + k := ⟨60 - j, by omega⟩
  unfold plainOk
  rw [e, (ok_stableN h k).1, sz_stableN h k, decide_eq_true hs]
  rfl
theorem chk_ofplain {j n : Nat} {d : PyData} (h : okN j d = true) (hj : j ≤ 60) (hs : szN j d ≤ 2001) : chk n d = true := by
  rw [chk_plain (okN_plainD h)]
  exact plain_of h hj hs
theorem bsz6 {j : Nat} (h : j ≤ 6) : bsz j ≤ 364 := by
  have : j = 0 ∨ j = 1 ∨ j = 2 ∨ j = 3 ∨ j = 4 ∨ j = 5 ∨ j = 6 := by omega
  rcases this with e | e | e | e | e | e | e <;> subst e <;> decide
theorem marks_of {m : Nat} {i j : Int} {D : PyData} (h : chk m D = true) (h1 : 1 ≤ i) (h2 : i ≤ 40) (h3 : 1 ≤ j) (h4 : j ≤ 40) : chk (m + 1) (.tuple [.str "marks", .int i, .int j, D]) = true :=
  chk_of (own := [.int i, .int j]) (by decide) (fit_two (by decide) rfl h1 h2 h3 h4) (fun z => absurd z (by decide)) h
theorem secrets_of {m : Nat} {i j : Int} {D : PyData} (h : chk m D = true) (h1 : 1 ≤ i) (h2 : i ≤ 40) (h3 : 1 ≤ j) (h4 : j ≤ 40) : chk (m + 1) (.tuple [.str "secrets", .int i, .int j, D]) = true :=
  chk_of (own := [.int i, .int j]) (by decide) (fit_two (by decide) rfl h1 h2 h3 h4) (fun z => absurd z (by decide)) h
theorem pl4 {n : Nat} {z : Str} {i j : Int} {D : PyData} (hz : okT z) (h : Pl n D) : Pl (n + 1) (.tuple [.str z, .int i, .int j, D]) := by
  refine ⟨(by show 4 ≤ 5000; decide), fun x hx => ?_⟩
  rcases List.mem_cons.mp hx with e | hx
  · exact e ▸ pl_str.mpr hz
  rcases List.mem_cons.mp hx with e | hx
  · exact e ▸ pl_int
  rcases List.mem_cons.mp hx with e | hx
  · exact e ▸ pl_int
  · rw [List.mem_singleton.mp hx]
    exact h
theorem bad_no {D : PyData} : (∀ x ∈ ([.none, .tuple [], .tuple [.str "ask", .tuple [.int 0]], .tuple [.str "say", .list [.int 0]], .tuple [.str "marks", .int 1, .int 0, D], .int 7, .str "say", .tuple [.str "toss", .tuple []],
    .tuple [.str "look", .int 0, .tuple [.str "say", .tuple []], .tuple [.str "say", .tuple [.str "2"]]]] : List PyData), brOk x = false) := by
  have hp : ∀ x : PyData, madeD x = false → looksOk x = false → brOk x = false := fun x h1 h2 => by
    unfold brOk
    rw [chk_plain h1]
    unfold plainOk
    rw [okN_looks h2]
    rfl
  intro x hx
  rcases List.mem_cons.mp hx with e | hx
  · rw [e]; exact hp _ rfl rfl
  rcases List.mem_cons.mp hx with e | hx
  · rw [e]; exact hp _ rfl rfl
  rcases List.mem_cons.mp hx with e | hx
  · rw [e]; exact hp _ (by show madeZ "ask" = false; decide) (by rw [looks_ask]; rfl)
  rcases List.mem_cons.mp hx with e | hx
  · rw [e]; exact hp _ (by show madeZ "say" = false; decide) (by rw [looks_say]; rfl)
  rcases List.mem_cons.mp hx with e | hx
  · rw [e]
    unfold brOk
    rw [chk_succ (show madeD _ = true from (by show madeZ "marks" = true; decide))]
    have : fitsD (.tuple [.str "marks", .int 1, .int 0, D]) = false := by
      show (whole (.int 1) 1 40 && (whole (.int 0) 1 40 && true)) = false
      decide
    rw [this, Bool.false_and]
  rcases List.mem_cons.mp hx with e | hx
  · rw [e]; exact hp _ rfl rfl
  rcases List.mem_cons.mp hx with e | hx
  · rw [e]; exact hp _ rfl rfl
  rcases List.mem_cons.mp hx with e | hx
  · rw [e]; exact hp _ (by show madeZ "toss" = false; decide) (by rw [looks_toss]; rfl)
  rw [List.mem_singleton.mp hx]
  have hs : okN 59 (.tuple [.str "say", .tuple [.str "2"]]) = false := okN_looks (by rw [looks_say]; decide)
  unfold brOk
  rw [chk_plain (show madeD _ = false from (by show madeZ "look" = false; decide))]
  unfold plainOk
  have : okN 60 (.tuple [.str "look", .int 0, .tuple [.str "say", .tuple []], .tuple [.str "say", .tuple [.str "2"]]]) = false := by
    show (looksOk _ && (kidsD _).all (okN 59)) = false
    rw [kids_look]
    show (_ && (okN 59 _ && (okN 59 (.tuple [.str "say", .tuple [.str "2"]]) && true))) = false
    rw [hs]
    simp
  rw [this, Bool.false_and]
/-- a new tuple: the hand, what stood, what it is -/
theorem mkT {K : PySem.W.Frag} {a d p : Addr} {H : Hp} {vs : List V} {ds : List PyData} (hh : Hnd H a d) (np : H p = none) (h : DpAll K (off a H) vs ds) :
    Hnd (upd H p (.tup vs)) a d ∧ Keep a H (upd H p (.tup vs)) ∧ Dp K (off a (upd H p (.tup vs))) (.ref p) (.tuple ds) :=
  ⟨hh.new np, Keep.new np, dp_new (hh.ne np).1 upd_same (dps_same (Keep.new (a := a) np).off _ h)⟩
theorem mkLs {a d p : Addr} {H : Hp} {vs : List V} (hh : Hnd H a d) (np : H p = none) : Hnd (upd H p (.lst vs)) a d ∧ Keep a H (upd H p (.lst vs)) ∧ upd H p (.lst vs) p = some (.lst vs) ∧ p ≠ a := ⟨hh.new np, Keep.new np, upd_same, (hh.ne np).1⟩

/-! ### data compared, deeper -/
def rEqG (K : PySem.W.Frag) : R2 := fun x y H Q => ∃ d e, Dp K H x d ∧ Dp K H y e ∧ d.canLay0 = true ∧ e.canLay0 = true ∧ e.depth ≤ 60 ∧ Q (.bl (PyData.eqv d e)) H
def rNeG (K : PySem.W.Frag) : R2 := fun x y H Q => ∃ d e, Dp K H x d ∧ Dp K H y e ∧ d.canLay0 = true ∧ e.canLay0 = true ∧ e.depth ≤ 60 ∧ Q (.bl (!PyData.eqv d e)) H
section
variable {X : Cx}
theorem op_eqG (K : PySem.W.Frag) (hu : X.A.units + 64 < cLine) (h : X.K = K := by rfl) : OpR X (compareOp .Eq) (rEqG K) := by
  subst h
  intro pins s σ H x y v u Q I rx ry h
  obtain ⟨d, e, hd, he, sd, se, hdep, q⟩ := h
  obtain ⟨as, r1⟩ := Dp.reads I d x v hd rx
  obtain ⟨bs, r2⟩ := Dp.reads I e y u he ry
  exact SeqAt.compareEq_reads r1 r2 sd se (by have := Nat.min_le_right d.depth e.depth; omega) ⟨.bl _, H, I, rfl, q⟩
theorem op_neG (K : PySem.W.Frag) (hu : X.A.units + 64 < cLine) (h : X.K = K := by rfl) : OpR X (compareOp .NotEq) (rNeG K) := by
  subst h
  intro pins s σ H x y v u Q I rx ry h
  obtain ⟨d, e, hd, he, sd, se, hdep, q⟩ := h
  obtain ⟨as, r1⟩ := Dp.reads I d x v hd rx
  obtain ⟨bs, r2⟩ := Dp.reads I e y u he ry
  exact SeqAt.compareNe_reads r1 r2 sd se (by have := Nat.min_le_right d.depth e.depth; omega) ⟨.bl _, H, I, rfl, q⟩
end

/-! ### odd breakers -/
theorem gS {x : Str} (h : okT x := by exact ⟨by decide +kernel, by decide +kernel⟩) : ∃ n, Gd n (.str x) := ⟨0, pl_gd (pl_str.mpr h)⟩
theorem gI {i : Int} : ∃ n, Gd n (.int i) := ⟨0, pl_gd pl_int⟩
theorem gB {b : Bool} : ∃ n, Gd n (.bool b) := ⟨0, trivial⟩
theorem gO : ∃ n, Gd n .none := ⟨0, trivial⟩
theorem gN : ∃ n, ∀ x ∈ ([] : List PyData), Gd n x := ⟨0, fun _ h => nomatch h⟩
theorem gC {d : PyData} {ds : List PyData} (h : ∃ n, Gd n d) (g : ∃ n, ∀ x ∈ ds, Gd n x) : ∃ n, ∀ x ∈ d :: ds, Gd n x := by
  obtain ⟨n, h⟩ := h
  obtain ⟨m, g⟩ := g
  refine ⟨max n m, fun x hx => ?_⟩
  rcases List.mem_cons.mp hx with e | hx
  · rw [e]
    exact gd_le h (Nat.le_max_left n m)
  · exact gd_le (g x hx) (Nat.le_max_right n m)
def WX (P : PyData → Prop) (K : PySem.W.Frag) (a : Addr) (H : Hp) (v : V) : Prop := ∃ D, DX K a H v D ∧ P D
theorem WX.keep {P : PyData → Prop} {K : PySem.W.Frag} {a : Addr} {H H' : Hp} {v : V} (h : WX P K a H v) (k : Keep a H H') : WX P K a H' v := by
  obtain ⟨D, h1, h2⟩ := h
  exact ⟨D, h1.keep k, h2⟩
theorem wx_keep {P : PyData → Prop} {K : PySem.W.Frag} {a : Addr} {H H' : Hp} {vs : List V} (h : ∀ x ∈ vs, WX P K a H x) (k : Keep a H H') : ∀ x ∈ vs, WX P K a H' x := fun x hx => (h x hx).keep k
theorem av0 {P : V → Prop} : ∀ x ∈ ([] : List V), P x := fun _ h => nomatch h
theorem av {P : V → Prop} {a : V} {l : List V} (h1 : P a) (h : ∀ x ∈ l, P x) : ∀ x ∈ a :: l, P x := by
  intro x hx
  rcases List.mem_cons.mp hx with e | hx
  · rw [e]
    exact h1
  · exact h x hx
theorem av_app {P : V → Prop} {l m : List V} (h1 : ∀ x ∈ l, P x) (h : ∀ x ∈ m, P x) : ∀ x ∈ l ++ m, P x := by
  intro x hx
  rcases List.mem_append.mp hx with e | hx
  · exact h1 x e
  · exact h x hx
theorem blk_tup {K : PySem.W.Frag} {H : Hp} {v : V} {b : Blk} (h : Dp K H v b.D) : ∃ p us ds, v = .ref p ∧ b.D = .tuple ds ∧ SqT K H p us ∧ DpAll K H us ds ∧ ds.length ≤ 5 ∧ 4 ≤ ds.length := by
  cases b with
  | gen n m rows =>
    generalize hD : (Blk.gen n m rows).D = D at h
    cases h with
    | tup hT hA => exact ⟨_, _, _, rfl, rfl, hT, hA, by cases hD; (show 4 ≤ 5; decide), by cases hD; (show 4 ≤ 4; decide)⟩
    | _ => cases hD
  | fn n l m tabs =>
    generalize hD : (Blk.fn n l m tabs).D = D at h
    cases h with
    | tup hT hA => exact ⟨_, _, _, rfl, rfl, hT, hA, by cases hD; (show 5 ≤ 5; decide), by cases hD; (show 4 ≤ 5; decide)⟩
    | _ => cases hD
/-- what is no block -/
def NoBlk (D : PyData) : Prop := blockOk D = false
theorem no_few {xs : List PyData} (h4 : xs.length ≠ 4) (h5 : xs.length ≠ 5) : blockOk (.tuple xs) = false := by
  show (genOk (.tuple xs) || funOk (.tuple xs)) = false
  have a1 : genOk (.tuple xs) = false := by
    unfold genOk
    split
    · rename_i e
      cases e
      exact absurd rfl h4
    · rfl
  have a2 : funOk (.tuple xs) = false := by
    unfold funOk
    split
    · rename_i e
      cases e
      exact absurd rfl h5
    · rfl
  rw [a1, a2]
  rfl
/-- what the law carries along -/
structure Car (K : PySem.W.Frag) (b d : Addr) (G : Hp) (bv : V) (B : Blk) (sv : V) (SD : PyData) (tv : V) (t : Blk) (gv : V) (g : PyData) (cv : V) (C : PyData) : Prop where
  n : Hnd G b d
  bl : BlOn K b G bv B
  sc : Dp K (off b G) sv SD
  tb : BlOn K b G tv t
  go : DX K b G gv g
  be : DX K b G cv C
theorem tell_bad {D : PyData} {b : Blk} (h : builtD D b = none) : goalOk (.tuple [.str "tell", D]) b = false := by
  show (decide (("tell" : Str) ∈ aboK) && (decide (([D] : List PyData).length + 1 = if ("tell" : Str) = "opening" then 3 else 2) && (match builtD (([D] : List PyData).getLastD (.str "tell")) b with
    | some w => goalW "tell" w (([D] : List PyData).headD .none)
    | none => false))) = false
  rw [show builtD (([D] : List PyData).getLastD (.str "tell")) b = none from h]
  show (_ && (_ && false)) = false
  rw [Bool.and_false, Bool.and_false]
theorem cut3 {us : List V} (h : 3 ≤ us.length) : cutV us none (some 3) = us.take 3 := by
  unfold cutV
  rw [show (some (3 : Int)) = some ((3 : Nat) : Int) from rfl, HT.sIx_nat, HT.sIx_none, Nat.min_eq_left h]
  rfl
def NB (D : PyData) : Prop := blockOk D = false ∧ Gd 10 D
theorem dps_take3 {K : PySem.W.Frag} {H : Hp} {vs : List V} {ds : List PyData} (h : DpAll K H vs ds) : DpAll K H (vs.take 3) (ds.take 3) := dps_take 3 h
/-- no plain breaker -/
def NP (D : PyData) : Prop := isPl D = false
theorem np_made {D : PyData} (h : madeD D = true) : NP D := by
  unfold NP isPl
  rw [h, Bool.not_true, Bool.and_false]
theorem np_looks {D : PyData} (hm : madeD D = false) (h : looksOk D = false) : NP D := by
  unfold NP isPl
  have e : brOk D = false := by
    show chk 20 D = false
    rw [chk_plain hm]
    show (okN (59 + 1) D && decide (szN 60 D ≤ 2001)) = false
    show ((looksOk D && (kidsD D).all (okN 59)) && decide (szN 60 D ≤ 2001)) = false
    rw [h, Bool.false_and, Bool.false_and]
  rw [e, Bool.false_and]
theorem np_kid {D x : PyData} (hm : madeD D = false) (hx : x ∈ kidsD D) (h : looksOk x = false) : NP D := by
  unfold NP isPl
  have k : (kidsD D).all (okN 59) = false := by
    cases e : (kidsD D).all (okN 59) with
    | false => rfl
    | true =>
      have h1 := List.all_eq_true.mp e x hx
      have h2 := (Bool.and_eq_true_iff.mp (show (looksOk x && (kidsD x).all (okN 58)) = true from h1)).1
      rw [h] at h2
      cases h2
  have e : brOk D = false := by
    show chk 20 D = false
    rw [chk_plain hm]
    show ((looksOk D && (kidsD D).all (okN 59)) && decide (szN 60 D ≤ 2001)) = false
    rw [k, Bool.and_false, Bool.false_and]
  rw [e, Bool.false_and]
theorem looks_four {z : Str} {r : List PyData} (h1 : z ≠ "say") (h2 : z ≠ "toss") (h3 : z ≠ "look") (h4 : z ≠ "ask") : looksOk (.tuple (.str z :: r)) = false := by
  rw [looks_eq, named_str, named_str, named_str, named_str, if_neg (by simpa using h1), if_neg (by simpa using h2), if_neg (by simpa using h3), decide_eq_false h4, Bool.false_and]
theorem bad_cut {SD : PyData} {ls : List (PyData × PyData)} {B t : Blk} (sch : Sch SD ls) (hl : ls.length ≤ 6) (hb : builtL ls B = some t) (ok : t.Ok) : goalOk (.tuple [.str "tell", .tuple [.str "cut", .int 0, SD]]) B = false := by
  refine tell_bad ?_
  have s2 : Sch (.tuple [.str "cut", .int 0, SD]) (ls ++ [(.str "cut", .int 0)]) := .cons (.inr (.inr (.inr rfl))) sch
  unfold builtD
  rw [sch_lays s2 7 (by rw [List.length_append]; show ls.length + 1 ≤ 7; omega)]
  show builtL (ls ++ [(.str "cut", .int 0)]) B = none
  rw [built_snoc, hb]
  show lay1 (.str "cut", .int ((0 : Nat) : Int)) t = none
  cases e : lay1 (.str "cut", .int ((0 : Nat) : Int)) t with
  | none => rfl
  | some c =>
    rcases lay_some ok e with ⟨ez, _⟩ | ⟨ez, _⟩ | ⟨ez, _⟩ | ⟨_, n1, m1, j1, rows, _, ej, _, j2, _⟩
    · exact absurd (PyData.str.inj ez) (by decide +kernel)
    · exact absurd (PyData.str.inj ez) (by decide +kernel)
    · exact absurd (PyData.str.inj ez) (by decide +kernel)
    · have := PyData.int.inj ej
      omega
theorem gT {ds : List PyData} (hl : ds.length ≤ 100) (g : ∃ n, ∀ x ∈ ds, Gd n x) : ∃ n, Gd n (.tuple ds) := by
  obtain ⟨n, g⟩ := g
  exact ⟨n + 1, by show ds.length ≤ 5000; omega, g⟩
/-- what stands at the end: a goal, a breaker, a wrong breaker, a bad goal -/
structure En (K : PySem.W.Frag) (a d : Addr) (G : Hp) (bv : V) (B : Blk) (gv : V) (g : PyData) (dv : V) (b : Br) (wv : V) (X : PyData) (cv : V) (C : PyData) : Prop where
  n : Hnd G a d
  bl : BlOn K a G bv B
  go : DX K a G gv g
  br : DX K a G dv (brD b)
  wr : DX K a G wv X
  bd : DX K a G cv C
section
variable {K : PySem.W.Frag} {a d : Addr} {G G' : Hp} {bv gv dv wv cv : V} {B : Blk} {g X C : PyData} {b : Br}
theorem En.keep (c : En K a d G bv B gv g dv b wv X cv C) (n : Hnd G' a d) (k : Keep a G G') : En K a d G' bv B gv g dv b wv X cv C :=
  ⟨n, c.bl.keep k, c.go.keep k, c.br.keep k, c.wr.keep k, c.bd.keep k⟩
theorem En.same (c : En K a d G bv B gv g dv b wv X cv C) (s : Same G G') : En K a d G' bv B gv g dv b wv X cv C := c.keep (c.n.same s) (Keep.same s)
theorem En.at (c : En K a d G bv B gv g dv b wv X cv C) : Dp K G bv B.D := dp_same (off_same a G) _ c.bl.1
end

/-! ### the law of carried breakers -/
structure Ba (K : PySem.W.Frag) (a d : Addr) (G : Hp) (bv : V) (B : Blk) (sv : V) (SD : PyData) (tv : V) (t : Blk) (L : Addr) (tr : List ((PyData × PyData) × Blk)) : Prop where
  n : Hnd G a d
  bl : BlOn K a G bv B
  sc : Dp K (off a G) sv SD
  tb : BlOn K a G tv t
  la : Dp K (off a G) (.ref L) (.list (tr.map tripD))
section
variable {K : PySem.W.Frag} {a d L : Addr} {G G' : Hp} {bv sv tv : V} {B t : Blk} {SD : PyData} {tr : List ((PyData × PyData) × Blk)}
theorem Ba.keep (c : Ba K a d G bv B sv SD tv t L tr) (n : Hnd G' a d) (k : Keep a G G') : Ba K a d G' bv B sv SD tv t L tr :=
  ⟨n, c.bl.keep k, dp_same k.off _ c.sc, c.tb.keep k, dp_same k.off _ c.la⟩
theorem Ba.same (c : Ba K a d G bv B sv SD tv t L tr) (s : Same G G') : Ba K a d G' bv B sv SD tv t L tr := c.keep (c.n.same s) (Keep.same s)
theorem Ba.at (c : Ba K a d G bv B sv SD tv t L tr) : Dp K G bv B.D := dp_same (off_same a G) _ c.bl.1
end
/-- a drawn breaker -/
structure Drw (b : Br) : Prop where
  ok : okB 4 b
  on : okN 4 (brD b) = true
  wy : Way 0 (brD b)
  mf : madeD (brD b) = false
theorem Drw.pl {b : Br} (h : Drw b) : isPl (brD b) = true := by
  unfold isPl
  rw [way_brOk h.wy (by decide), h.mf]
  rfl
theorem drawn32 {K : PySem.W.Frag} {a : Addr} {H : Hp} {v : V} (h : PB K a H 4 v) : ∃ b, DX K a H v (brD b) ∧ Drw b := by
  obtain ⟨D, h1, h2, h3, h4⟩ := h
  obtain ⟨b, rfl, ok⟩ := br_view 4 D h3
  have g : Gd 30 (brD b) := gd_le (pl_gd (pz_pl h2)) (by decide)
  have hm := okN_plainD h3
  exact ⟨b, ⟨h1, 30, g⟩, ok, h3, way0 (chk_ofplain (n := 0) h3 (by decide) (Nat.le_trans h4 (by decide))) hm g, hm⟩
/-- a goal over the whole table -/
structure Gl (g y : PyData) (z : Str) (SD : PyData) (t B : Blk) : Prop where
  ok : goalOk g B = true
  is : GoalIs g z y SD
  nm : z ∈ aboK
  ft : GoalFit z y t
/-- what is carried in the end -/
def endD (z : Str) (y D : PyData) (t : Blk) (tr : List ((PyData × PyData) × Blk)) : PyData := .tuple [(ledAll tr.reverse (ledW z y D t)).1, .int (ledAll tr.reverse (ledW z y D t)).2]
theorem led_way : ∀ {xs : List ((PyData × PyData) × Blk)} {r : PyData × Int} {c : Nat}, Way c r.1 → (∀ x ∈ xs, x.2.Ok ∧ (∃ t, lay1 x.1 x.2 = some t) ∧ ∃ (z : Str) (k : Int), x.1 = (.str z, .int k)) → Way (c + xs.length) (ledAll xs r).1
  | [], _, _, h, _ => h
  | x :: xs, r, c, h, q => by
    obtain ⟨ok, ⟨t, lay⟩, z, k, e⟩ := q x List.mem_cons_self
    obtain ⟨⟨u1, u2⟩, bb⟩ := x
    cases e
    obtain ⟨j, rfl⟩ : ∃ j : Nat, k = (j : Int) := by
      rcases lay_some ok lay with ⟨_, _, j, _, _, ej, _⟩ | ⟨_, _, j, _, _, ej, _⟩ | ⟨_, _, _, _, j, _, _, ej, _⟩ | ⟨_, _, _, j, _, _, ej, _⟩ <;> exact ⟨j, PyData.int.inj ej⟩
    have w := (ledD_way ok lay h).1
    have := led_way (xs := xs) (r := ((ledD z j bb r.1).1, r.2 * (ledD z j bb r.1).2)) w fun x hx => q x (List.mem_cons_of_mem _ hx)
    rw [List.length_cons, Nat.add_comm xs.length 1, ← Nat.add_assoc]
    exact this
theorem end_gd {z : Str} {y D SD : PyData} {t B : Blk} {tr : List ((PyData × PyData) × Blk)} (ok : t.Ok) (okB : B.Ok) (gf : GoalFit z y t) (hw : Way 0 D) (hm : madeD D = false) (sch : Sch SD (tr.map Prod.fst)) (ch : Chain B tr t) (hl : tr.length ≤ 4) : Gd 36 (endD z y D t tr) := by
  have w1 := (ledW_way ok gf hw hm).1
  have w2 := led_way (xs := tr.reverse) (c := 1) w1 fun x hx => by
    have hx := List.mem_reverse.mp hx
    obtain ⟨h1, h2⟩ := chain_mem ch okB x hx
    obtain ⟨z1, k1, e, _⟩ := sch_mem sch _ (List.mem_map.mpr ⟨x, hx, rfl⟩)
    exact ⟨h1, h2, z1, k1, e⟩
  rw [List.length_reverse] at w2
  refine ⟨(by show 2 ≤ 5000; decide), fun x hx => ?_⟩
  rcases List.mem_cons.mp hx with e | hx
  · rw [e]
    exact gd_le w2.2.1 (by show 30 + (1 + tr.length) ≤ 35; omega)
  · rw [List.mem_singleton.mp hx]
    exact trivial
theorem car_ok {K : PySem.W.Frag} {CB CS CBr : Addr} {H : Hp} {Q : VK} {E : XK} {gv bv dv : V} {g y SD : PyData} {z : Str} {t B : Blk} {b : Br} {tr : List ((PyData × PyData) × Blk)} (hg : ∃ n, Dp K H gv g ∧ Gd n g) (hb : Dp K H bv B.D) (okB : B.Ok) (hd : Dp K H dv (brD b)) (gl : Gl g y z SD t B) (dr : Drw b) (sch : Sch SD (tr.map Prod.fst)) (ch : Chain B tr t) (hl : tr.length ≤ 4)
    (q : ∀ v H', Same H H' → Dp K H' v (endD z y (brD b) t tr) → Q v H') : spCarried K CB CS CBr [gv, bv, dv] H Q E := by
  obtain ⟨n, hg, gg⟩ := hg
  obtain ⟨bs, tb, hlast, hz, hb2⟩ := chain_tabs ch
  refine ⟨gv, bv, dv, g, B.D, brD b, n, 3, 30, rfl, hg, gg, hb, blk_gd okB, by decide, hd, dr.wy.2.1, .inr ⟨B, rfl, okB, .inr ⟨gl.ok, .inr ⟨z, y, SD, tr.map Prod.fst, t, bs, gl.is, gl.nm, gl.ft, sch, by rw [List.length_map]; omega, hb2, tb, dr.wy, dr.mf, fun v H' s d => ?_⟩⟩⟩⟩
  rw [hz] at d
  exact q v H' s d
theorem endD_tup {K : PySem.W.Frag} {H : Hp} {v : V} {z : Str} {y D : PyData} {t : Blk} {tr : List ((PyData × PyData) × Blk)} (h : Dp K H v (endD z y D t tr)) : ∃ p u, v = .ref p ∧ SqT K H p [u, .int (ledAll tr.reverse (ledW z y D t)).2] := by
  unfold endD at h
  cases h with
  | tup hT hA =>
    cases hA with
    | cons h0 hA =>
      cases hA with
      | cons h1 hA =>
        cases h1
        cases hA
        exact ⟨_, _, rfl, hT⟩
theorem DX.at {K : PySem.W.Frag} {a : Addr} {H : Hp} {v : V} {D : PyData} (h : DX K a H v D) : ∃ n, Dp K H v D ∧ Gd n D := by
  obtain ⟨n, g⟩ := h.2
  exact ⟨n, h.on, g⟩

section
variable {P : Program} {w : World} {K : PySem.W.Frag} {mg : Str → Option Value} {base : Heap} {cs : Cs}
theorem ok_whole32 {f : Addr} {fd : FuncData} (D : Df K mg "_law_whole" s_law_whole ["script"] f fd) (T : Txt K w mg cs) (c_law_draws : Cl P w K mg base CX0 1 "_law_draws" (spDraws K)) (c_law_take : Cl P w K mg base CX0 1 "_law_take" spTake) (c_law_block : Cl P w K mg base CX0 4 "_law_block" (spLBlock K)) (c_law_scheme : Cl P w K mg base CX0 4 "_law_scheme" (spLScheme32 K))
    (c_law_goal : Cl P w K mg base CX0 3 "_law_goal" (spLGoal32 K)) (c_law_breaker : Cl P w K mg base CX0 6 "_law_breaker" (spBr K 3)) (c_law_due : Cl P w K mg base CX0 7 "_law_due" (spLDue K)) (c_carried : Cl P w K mg base (L2.CX P w) 11 "carried" (spCarried K cs.BadBlock cs.BadScheme cs.BadBreaker)) (k_carried : Ck P w K mg base (L2.CX P w) 11 0 "carried" ["breaker", "block", "goal"] (fun _ zs => zs.reverse) (spCarried K cs.BadBlock cs.BadScheme cs.BadBreaker))
    (c_law_refused : Cl P w K mg base CX0 12 "_law_refused" (spRef32 K)) : FnOk P w K mg base CX0 13 f fd ["script"] (spLaw K) := by
  refine D.fn.ok sc_law_whole (fun vs H Q E h => ?_) (fun cdv A outer s H vs Q E hr h => ?_)
  · obtain ⟨a, ns, rfl, _⟩ := h
    rfl
  · obtain ⟨a0, ns, rfl, hS, hlen, q⟩ := h
    refine ⟨_, (pss_cons (ps_set (i := 1) sc_law_whole.nd rfl (.inl rfl) (pe_lst (pa_cons (pe_cl c_law_draws hr (by first | decide | omega) (by rfl) (pa_cons (pv 0) (pa_cons pe_int pa_nil))) (pa_cons pe_int pa_nil)))) (pss_cons (ps_set (i := 2) sc_law_whole.nd rfl (.inl rfl) (pe_cl c_law_block hr (by first | decide | omega) (by rfl) (pa_cons (pv 1) pa_nil))) (pss_cons (ps_asg (pe_cl c_law_scheme hr (by first | decide | omega) (by rfl) (pa_cons (pv 1) (pa_cons (pv 2) (pa_cons (pe_cl c_law_take hr (by first | decide | omega) (by rfl) (pa_cons (pv 1) (pa_cons pe_int pa_nil))) pa_nil)))) (pg_tup (by rfl) (pgs_cons (pg_name (i := 3) sc_law_whole.nd rfl (.inl rfl)) (pgs_cons (pg_name (i := 4) sc_law_whole.nd rfl (.inl rfl)) (pgs_cons (pg_name (i := 5) sc_law_whole.nd rfl (.inl rfl)) pgs_nil))))) (pss_cons (ps_for PassesOwn.never rfl (pi_range1 (by rfl) T.n_range (pa_cons pe_int pa_nil)) (pg_name (i := 6) sc_law_whole.nd rfl (.inl rfl)) (pss_cons (ps_set (i := 7) sc_law_whole.nd rfl (.inl rfl) (pe_cl c_law_goal hr (by first | decide | omega) (by rfl) (pa_cons (pv 1) (pa_cons (pv 3) (pa_cons (pv 4) pa_nil))))) (pss_cons (ps_set (i := 8) sc_law_whole.nd rfl (.inl rfl) (pe_cl c_law_breaker hr (by first | decide | omega) (by rfl) (pa_cons (pv 1) (pa_cons pe_int (pa_cons (pe_op op_add pe_int (pe_cl c_law_take hr (by first | decide | omega) (by rfl) (pa_cons (pv 1) (pa_cons pe_int pa_nil)))) (pa_cons (pe_op op_add pe_int (pe_cl c_law_take hr (by first | decide | omega) (by rfl) (pa_cons (pv 1) (pa_cons pe_int pa_nil)))) (pa_cons pe_int pa_nil))))))) (pss_cons (ps_set (i := 9) sc_law_whole.nd rfl (.inl rfl) (pe_cl c_law_due hr (by first | decide | omega) (by rfl) (pa_cons (pv 7) (pa_cons (pv 4) (pa_cons (pv 5) (pa_cons (pv 8) pa_nil)))))) (pss_cons (ps_set (i := 10) sc_law_whole.nd rfl (.inl rfl) (pe_clX c_carried hr (by first | decide | omega) (by rfl) takes0 (pa_cons (pv 7) (pa_cons (pv 2) (pa_cons (pv 8) pa_nil))))) (pss_cons (ps_if (PW.pt (pw_or (pt_not (pt_val (pe_callB (isiK K) (by rfl) T.n_isinstance (by decide +kernel) (pa_cons (pv 10) (pa_cons (pe_ty "tuple" (by rfl) T.n_tuple (by decide +kernel)) pa_nil))))) (pw_or (pt_cmpR op_ne (pe_callB (lenS K) (by rfl) T.n_len (by decide +kernel) (pa_cons (pv 10) pa_nil)) pe_int (nomark _)) (pw_or1 (pt_cmpR (op_neG K hr.units) (pv 10) (pv 9) (nomark _)))))) (pss_one (ps_ret pe_bl)) pss_nil) (pss_cons (ps_if (PW.pt (pw_or (pt_not (pt_val (pe_callB (isiK K) (by rfl) T.n_isinstance (by decide +kernel) (pa_cons (pe_ix (ixT K) (pv 10) pe_int (fun _ _ => rfl)) (pa_cons (pe_ty "int" (by rfl) T.n_int (by decide +kernel)) pa_nil))))) (pw_or (pt_val (pe_callB (isiK K) (by rfl) T.n_isinstance (by decide +kernel) (pa_cons (pe_ix (ixT K) (pv 10) pe_int (fun _ _ => rfl)) (pa_cons (pe_ty "bool" (by rfl) T.n_bool (by decide +kernel)) pa_nil)))) (pw_or1 (pt_cmpR (op_neG K hr.units) (pe_clX c_carried hr (by first | decide | omega) (by rfl) takes0 (pa_cons (pv 7) (pa_cons (pv 2) (pa_cons (pv 8) pa_nil)))) (pv 9) (nomark _)))))) (pss_one (ps_ret pe_bl)) pss_nil) (pss_one (ps_if (pt_cmpR (op_neG K hr.units) (pe_ckX0 k_carried hr (by first | decide | omega) (by rfl) (pk_cons (pv 8) (pk_cons (pv 2) (pk_cons (pv 7) pk_nil)))) (pv 9) (nomark _)) (pss_one (ps_ret pe_bl)) pss_nil))))))))) (pss_cons (ps_set (i := 11) sc_law_whole.nd rfl (.inl rfl) (pe_lst (pa_cons (pe_tup (pa_cons pe_str (pa_cons pe_int (pa_cons (pv 8) pa_nil)))) (pa_cons (pe_tup (pa_cons pe_str (pa_cons pe_int (pa_cons (pv 8) pa_nil)))) (pa_cons (pe_tup (pa_cons pe_str (pa_cons (pe_tup (pa_cons pe_str pa_nil)) pa_nil))) (pa_cons (pe_tup (pa_cons pe_str (pa_cons (pe_lst (pa_cons pe_int pa_nil)) pa_nil))) (pa_cons (pe_tup (pa_cons pe_str (pa_cons (pe_tup pa_nil) pa_nil))) (pa_cons pe_non (pa_cons pe_str (pa_cons (pe_tup pa_nil) pa_nil)))))))))) (pss_cons (ps_set (i := 11) sc_law_whole.nd rfl (.inl rfl) (pe_op op_cat (pv 11) (pe_lst (pa_cons (pe_tup (pa_cons pe_str (pa_cons pe_int (pa_cons (pv 8) pa_nil)))) (pa_cons (pe_tup (pa_cons pe_str (pa_cons (pe_tup pa_nil) (pa_cons pe_int pa_nil)))) (pa_cons (pe_lst (pa_cons pe_str (pa_cons (pe_tup pa_nil) pa_nil))) (pa_cons (pe_tup (pa_cons pe_str (pa_cons (pe_tup (pa_cons pe_int pa_nil)) pa_nil))) (pa_cons (pe_tup (pa_cons pe_str (pa_cons (pe_tup (pa_cons pe_bl pa_nil)) pa_nil))) pa_nil)))))))) (pss_cons (ps_set (i := 11) sc_law_whole.nd rfl (.inl rfl) (pe_op op_cat (pv 11) (pe_lst (pa_cons (pe_tup (pa_cons pe_str (pa_cons pe_int (pa_cons (pv 8) pa_nil)))) (pa_cons (pe_tup (pa_cons pe_str (pa_cons (pe_tup (pa_cons (pv 8) (pa_cons (pe_tup (pa_cons pe_str (pa_cons pe_int (pa_cons (pv 8) pa_nil)))) pa_nil))) pa_nil))) (pa_cons (pe_tup (pa_cons pe_str (pa_cons (pe_tup pa_nil) (pa_cons (pe_tup (pa_cons pe_str (pa_cons pe_int (pa_cons (pv 8) pa_nil)))) pa_nil)))) pa_nil)))))) (pss_cons (ps_expr (pe_bm PySem.F.plainAttrs_list PySem.F.slot_list_append PySem.F.type_list_append mt_append (pv 11) (pa_cons (pe_tup (pa_cons pe_str (pa_cons pe_int (pa_cons (pv 8) (pa_cons (pe_tup (pa_cons pe_str (pa_cons pe_int (pa_cons (pv 8) pa_nil)))) pa_nil))))) pa_nil))) (pss_cons (ps_set (i := 12) sc_law_whole.nd rfl (.inl rfl) (pe_ix (ixL K) (pv 11) (pe_cl c_law_take hr (by first | decide | omega) (by rfl) (pa_cons (pv 1) (pa_cons (pe_callB (lenS K) (by rfl) T.n_len (by decide +kernel) (pa_cons (pv 11) pa_nil)) pa_nil))) (fun _ _ => rfl))) (pss_cons (ps_set (i := 13) sc_law_whole.nd rfl (.inl rfl) (pe_tup (pa_cons pe_str (pa_cons (pe_tup (pa_cons pe_str (pa_cons pe_int (pa_cons (pv 3) pa_nil)))) pa_nil)))) (pss_cons (ps_set (i := 14) sc_law_whole.nd rfl (.inl rfl) (pe_ix (ixL K) (pe_lst (pa_cons pe_non (pa_cons (pe_callTy (listOf K) (by rfl) T.n_list (by decide +kernel) (pa_cons (pv 2) pa_nil)) (pa_cons (pe_slice (slTA K) (pv 2) po_none (po_some pe_int)) (pa_cons (pe_tup (pa_cons (pv 2) pa_nil)) pa_nil))))) (pe_cl c_law_take hr (by first | decide | omega) (by rfl) (pa_cons (pv 1) (pa_cons pe_int pa_nil))) (fun _ _ => rfl))) (pss_cons (ps_if (PW.pt (pw_or (pt_cmpR op_ne (pe_cl c_law_refused hr (by first | decide | omega) (by rfl) (pa_cons (pv 7) (pa_cons (pv 2) (pa_cons (pv 12) pa_nil)))) pe_int (nomark _)) (pw_or1 (pt_cmpR op_ne (pe_cl c_law_refused hr (by first | decide | omega) (by rfl) (pa_cons (pv 13) (pa_cons (pv 2) (pa_cons (pv 12) pa_nil)))) pe_int (nomark _))))) (pss_one (ps_ret pe_bl)) pss_nil) (pss_cons (ps_if (pt_cmpR op_ne (pe_cl c_law_refused hr (by first | decide | omega) (by rfl) (pa_cons (pv 13) (pa_cons (pv 14) (pa_cons (pv 12) pa_nil)))) pe_int (nomark _)) (pss_one (ps_ret pe_bl)) pss_nil) (pss_one (ps_ret (pe_and (pe_cmpR op_eq (pe_cl c_law_refused hr (by first | decide | omega) (by rfl) (pa_cons (pv 13) (pa_cons (pv 2) (pa_cons (pv 8) pa_nil)))) pe_int (nomark _)) (pe_one (pe_cmpR op_eq (pe_cl c_law_refused hr (by first | decide | omega) (by rfl) (pa_cons (pv 7) (pa_cons (pv 14) (pa_cons (pv 8) pa_nil)))) pe_int (nomark _))))))))))))))))))), ?_⟩
    refine ⟨_, rfl, a0, ns, 500, rfl, hS, hlen, by omega, fun d ds H1 nd s1 ed hd0 => ⟨(by show 2 ≤ sizeLine; decide), fun a nb => ?_⟩⟩
    have hn1 : Hnd (upd H1 a (.lst [.ref d, .int 0])) a d := ⟨ds, 0, upd_same, by rw [upd_ne (ne_of_none ed nb)]; exact ed, hd0, ne_of_none ed nb⟩
    generalize upd H1 a (.lst [.ref d, .int 0]) = H2 at hn1
    clear nb ed nd s1 hd0
    have qT : ∀ H', Q (.bl true) H' := q
    clear q
    refine ⟨_, rfl, a, d, rfl, hn1, fun bv B H3 bo nb2 n3 k3 => ?_⟩
    clear k3 hn1
    refine ⟨_, rfl, _, rfl, _, rfl, a, d, 5, rfl, by decide, n3, fun r H4 l4 u4 n4 k4 => ?_⟩
    obtain ⟨many, rfl, hm⟩ : ∃ n : Nat, r = (n : Int) ∧ n ≤ 4 := ⟨r.toNat, by omega, by omega⟩
    have bo := bo.keep k4
    clear l4 u4 k4 n3
    refine ⟨a, d, bv, B, many, rfl, hm, n4, bo, nb2, fun p sv tv L SD tr t H5 sch hl ch dv bt dL T5 n5 k5 => ?_⟩
    have bo := bo.keep k5
    have ba : Ba K a d H5 bv B sv SD tv t L tr := ⟨n5, bo, dv, bt, dL⟩
    have okt := bt.2
    have okB := bo.2
    clear k5 n4 hm dv bt bo n5 dL
    refine ⟨p, _, rfl, T5, rfl, _, _, rfl, _, _, rfl, _, _, rfl, rfl, ?_⟩
    clear T5
    obtain ⟨bs, tb, hlast, hz, hb⟩ := chain_tabs ch
    have eD := sch_built sch (by rw [List.length_map]; omega) hb
    have gb3 := blk_gd okB
    refine ⟨_, rfl, by decide, by decide, for_range (lo := 0) (n := 2) (fun i σ G => ∃ y6 y7 y8 y9 y10 : Option V, σ = [some (.ref a0), some (.ref a), some bv, some sv, some tv, some (.ref L), y6, y7, y8, y9, y10, none, none, none, none] ∧ Ba K a d G bv B sv SD tv t L tr ∧ (1 ≤ i → ∃ (gv dv : V) (g y : PyData) (z : Str) (b : Br), y7 = some gv ∧ y8 = some dv ∧ DX K a G gv g ∧ DX K a G dv (brD b) ∧ Gl g y z SD t B ∧ Drw b)) ?_ ?_ ?_⟩
    · exact ⟨none, none, none, none, none, rfl, ba, fun h => absurd h (by decide)⟩
    · rintro i σ G hi ⟨y6, y7, y8, y9, y10, rfl, ba, _⟩
      refine ⟨_, rfl, _, rfl, _, rfl, a, d, sv, tv, SD, _, B, t, rfl, ba.n, sch, by rw [List.length_map]; omega, hb, ba.sc, ba.tb, fun gv g z y G1 go gi hz2 gf xg n1 k1 => ?_⟩
      have ba := ba.keep n1 k1
      clear n1 k1
      refine ⟨_, rfl, _, rfl, a, d, 3, rfl, by decide, ba.n, fun r1 G2 l1 u1 n2 k2 => ⟨_, _, rfl, rfl, _, rfl, a, d, 3, rfl, by decide, n2, fun r2 G3 l2 u2 n3 k3 => ⟨_, _, rfl, rfl, ?_⟩⟩⟩
      have ba := (ba.keep n2 k2).keep n3 k3
      have xg := (xg.keep k2).keep k3
      obtain ⟨m1, e1, m1b⟩ : ∃ n : Nat, (1 : Int) + r1 = (n : Int) ∧ n ≤ 3 := ⟨(1 + r1).toNat, by omega, by omega⟩
      obtain ⟨m2, e2, m2b⟩ : ∃ n : Nat, (1 : Int) + r2 = (n : Int) ∧ n ≤ 3 := ⟨(1 + r2).toNat, by omega, by omega⟩
      refine ⟨a, d, 3, m1, m2, 1, ?_, by decide, by omega, by decide, ba.n, fun dv G4 pb n4 k4 => ?_⟩
      · show [V.ref a, V.int 3, V.int (1 + r1), V.int (1 + r2), V.int 1] = _
        rw [e1, e2]
        rfl
      have ba := ba.keep n4 k4
      have xg := xg.keep k4
      clear n2 k2 n3 k3 n4 k4 l1 u1 l2 u2 e1 e2 m1b m2b
      obtain ⟨b, xb, dr⟩ := drawn32 pb
      clear pb
      have gl : Gl g y z SD t B := ⟨go, gi, hz2, gf⟩
      refine ⟨_, rfl, _, rfl, _, rfl, _, rfl, gv, tv, .ref L, dv, g, y, SD, SD, z, t, B, tr, b, rfl, xg.on, gi, hz2, gf, dp_same (off_same a _) _ ba.tb.1, okt, dp_same (off_same a _) _ ba.la, sch, ch, okB, hl, xb.on, dr.ok, dr.on, dr.wy, dr.mf, fun p5 v5 G5 s5 d5 T5 => ?_⟩
      have dU : Dp K G5 (.ref p5) (endD z y (brD b) t tr) := .tup T5 (.cons d5 (.cons (.int _) .nil))
      clear d5 T5
      have ba := ba.same s5
      have xg := xg.keep (Keep.same (a := a) s5)
      have xb := xb.keep (Keep.same (a := a) s5)
      clear s5
      have gE := end_gd okt okB gf dr.wy dr.mf sch ch hl
      have eqv : PyData.eqv (endD z y (brD b) t tr) (endD z y (brD b) t tr) = true := PySem.SeqAt.eqv_refl _ (gd_lay gE)
      have dep : (endD z y (brD b) t tr).depth ≤ 60 := Nat.le_trans (gd_facts gE).2 (by decide)
      refine ⟨_, rfl, _, rfl, _, rfl, car_ok xg.at ba.at okB xb.on gl dr sch ch hl fun v6 G6 s6 d6 => ?_⟩
      have dU6 := dp_same s6 _ dU
      have ba := ba.same s6
      have xg := xg.keep (Keep.same (a := a) s6)
      have xb := xb.keep (Keep.same (a := a) s6)
      obtain ⟨p6, u6, rfl, T6⟩ := endD_tup d6
      clear s6 dU
      refine ⟨_, rfl, _, _, _, _, true, rfl, .ty "tuple", dp_ty d6, kit_tup _, _, rfl, ?_⟩
      refine ⟨_, rfl, p6, _, rfl, .inr T6, rfl, _, rfl, ?_⟩
      refine ⟨_, rfl, _, rfl, _, _, d6, dU6, gd_lay gE, gd_lay gE, dep, _, rfl, ?_⟩
      rw [eqv]
      refine ⟨_, rfl, p6, _, 1, _, rfl, rfl, T6, rfl, _, _, _, _, true, rfl, .ty "int", dp_ty (.int _), kit_int (.int _), _, rfl, ?_⟩
      refine ⟨_, rfl, p6, _, 1, _, rfl, rfl, T6, rfl, _, _, _, _, false, rfl, .ty "bool", dp_ty (.int _), kit_bool (.int _), _, rfl, ?_⟩
      clear d6 T6
      refine ⟨_, rfl, _, rfl, _, rfl, car_ok xg.at ba.at okB xb.on gl dr sch ch hl fun v7 G7 s7 d7 => ?_⟩
      have dU7 := dp_same s7 _ dU6
      have ba := ba.same s7
      have xg := xg.keep (Keep.same (a := a) s7)
      have xb := xb.keep (Keep.same (a := a) s7)
      clear s7 dU6
      refine ⟨_, rfl, _, _, d7, dU7, gd_lay gE, gd_lay gE, dep, _, rfl, ?_⟩
      rw [eqv]
      clear d7
      refine ⟨_, rfl, _, rfl, _, rfl, rfl, rfl, car_ok xg.at ba.at okB xb.on gl dr sch ch hl fun v8 G8 s8 d8 => ?_⟩
      have dU8 := dp_same s8 _ dU7
      have ba := ba.same s8
      have xg := xg.keep (Keep.same (a := a) s8)
      have xb := xb.keep (Keep.same (a := a) s8)
      refine ⟨_, rfl, _, _, d8, dU8, gd_lay gE, gd_lay gE, dep, _, rfl, ?_⟩
      rw [eqv]
      exact ⟨_, _, _, _, _, rfl, ba, fun _ => ⟨gv, dv, g, y, z, b, rfl, rfl, xg, xb, gl, dr⟩⟩
    rintro σ G ⟨y6, y7, y8, y9, y10, rfl, ba, more⟩
    obtain ⟨gv, dv, g, y, z, b, rfl, rfl, xg, xb, gl, dr⟩ := more (by decide)
    have k0 : Keep a G G := Keep.same (Same.refl G)
    refine ⟨_, rfl, (by show 3 ≤ sizeLine; decide), fun p101 np101 => ?_⟩
    obtain ⟨n101, k101, x101⟩ := new_dx (K := K) ba.n np101 (.cons (.str _) (.cons (.int _) (.cons (dp_same k0.off _ xb.1) .nil))) (by show 3 ≤ 100; decide) (gC (gS (x := "cut")) (gC gI (gC xb.2 gN)))
    generalize upd G p101 (.tup [.str "cut", .int (1), dv]) = G101 at n101 k101 x101 ⊢
    have t101 := k0.trans k101
    have wA0 : WX NP K a G101 (.ref p101) := ⟨_, x101, (np_made (by show madeZ _ = true; decide +kernel))⟩
    refine ⟨_, rfl, (by show 3 ≤ sizeLine; decide), fun p102 np102 => ?_⟩
    obtain ⟨n102, k102, x102⟩ := new_dx (K := K) n101 np102 (.cons (.str _) (.cons (.int _) (.cons (dp_same t101.off _ xb.1) .nil))) (by show 3 ≤ 100; decide) (gC (gS (x := "guess")) (gC gI (gC xb.2 gN)))
    generalize upd G101 p102 (.tup [.str "guess", .int (1), dv]) = G102 at n102 k102 x102 ⊢
    have t102 := t101.trans k102
    have wA0 := wA0.keep k102
    have wA1 : WX NP K a G102 (.ref p102) := ⟨_, x102, (np_made (by show madeZ _ = true; decide +kernel))⟩
    refine ⟨(by show 1 ≤ sizeLine; decide), fun p103 np103 => ?_⟩
    obtain ⟨n103, k103, x103⟩ := new_dx (K := K) n102 np103 (.cons (.str _) .nil) (by show 1 ≤ 100; decide) (gC (gS (x := "2")) gN)
    generalize upd G102 p103 (.tup [.str "2"]) = G103 at n103 k103 x103 ⊢
    have t103 := t102.trans k103
    have wA0 := wA0.keep k103
    have wA1 := wA1.keep k103
    refine ⟨(by show 2 ≤ sizeLine; decide), fun p104 np104 => ?_⟩
    obtain ⟨n104, k104, x104⟩ := new_dx (K := K) n103 np104 (.cons (.str _) (.cons x103.1 .nil)) (by show 2 ≤ 100; decide) (gC (gS (x := "say")) (gC x103.2 gN))
    generalize upd G103 p104 (.tup [.str "say", .ref p103]) = G104 at n104 k104 x104 ⊢
    have t104 := t103.trans k104
    have wA0 := wA0.keep k104
    have wA1 := wA1.keep k104
    have wA2 : WX NP K a G104 (.ref p104) := ⟨_, x104, (by show isPl _ = false; decide +kernel)⟩
    refine ⟨(by show 1 ≤ sizeLine; decide), fun p105 np105 => ?_⟩
    obtain ⟨n105, k105, x105⟩ := new_dxl (K := K) n104 np105 (.cons (.int _) .nil) (by show 1 ≤ 100; decide) (gC gI gN)
    generalize upd G104 p105 (.lst [.int (1)]) = G105 at n105 k105 x105 ⊢
    have t105 := t104.trans k105
    have wA0 := wA0.keep k105
    have wA1 := wA1.keep k105
    have wA2 := wA2.keep k105
    refine ⟨(by show 2 ≤ sizeLine; decide), fun p106 np106 => ?_⟩
    obtain ⟨n106, k106, x106⟩ := new_dx (K := K) n105 np106 (.cons (.str _) (.cons x105.1 .nil)) (by show 2 ≤ 100; decide) (gC (gS (x := "say")) (gC x105.2 gN))
    generalize upd G105 p106 (.tup [.str "say", .ref p105]) = G106 at n106 k106 x106 ⊢
    have t106 := t105.trans k106
    have wA0 := wA0.keep k106
    have wA1 := wA1.keep k106
    have wA2 := wA2.keep k106
    have wA3 : WX NP K a G106 (.ref p106) := ⟨_, x106, (by show isPl _ = false; decide +kernel)⟩
    refine ⟨(by show 0 ≤ sizeLine; exact Nat.zero_le _), fun p107 np107 => ?_⟩
    obtain ⟨n107, k107, x107⟩ := new_dx (K := K) n106 np107 .nil (by show 0 ≤ 100; decide) gN
    generalize upd G106 p107 (.tup []) = G107 at n107 k107 x107 ⊢
    have t107 := t106.trans k107
    have wA0 := wA0.keep k107
    have wA1 := wA1.keep k107
    have wA2 := wA2.keep k107
    have wA3 := wA3.keep k107
    refine ⟨(by show 2 ≤ sizeLine; decide), fun p108 np108 => ?_⟩
    obtain ⟨n108, k108, x108⟩ := new_dx (K := K) n107 np108 (.cons (.str _) (.cons x107.1 .nil)) (by show 2 ≤ 100; decide) (gC (gS (x := "toss")) (gC x107.2 gN))
    generalize upd G107 p108 (.tup [.str "toss", .ref p107]) = G108 at n108 k108 x108 ⊢
    have t108 := t107.trans k108
    have wA0 := wA0.keep k108
    have wA1 := wA1.keep k108
    have wA2 := wA2.keep k108
    have wA3 := wA3.keep k108
    have wA4 : WX NP K a G108 (.ref p108) := ⟨_, x108, (by show isPl _ = false; decide +kernel)⟩
    have wA5 : WX NP K a G108 (.non) := ⟨_, ⟨.non, gO⟩, (by show isPl _ = false; decide +kernel)⟩
    have wA6 : WX NP K a G108 (.str "say") := ⟨_, ⟨(.str _), (gS (x := "say"))⟩, (by show isPl _ = false; decide +kernel)⟩
    refine ⟨(by show 0 ≤ sizeLine; exact Nat.zero_le _), fun p109 np109 => ?_⟩
    obtain ⟨n109, k109, x109⟩ := new_dx (K := K) n108 np109 .nil (by show 0 ≤ 100; decide) gN
    generalize upd G108 p109 (.tup []) = G109 at n109 k109 x109 ⊢
    have t109 := t108.trans k109
    have wA0 := wA0.keep k109
    have wA1 := wA1.keep k109
    have wA2 := wA2.keep k109
    have wA3 := wA3.keep k109
    have wA4 := wA4.keep k109
    have wA5 := wA5.keep k109
    have wA6 := wA6.keep k109
    have wA7 : WX NP K a G109 (.ref p109) := ⟨_, x109, (by show isPl _ = false; decide +kernel)⟩
    have wsA : ∀ x ∈ ([.ref p101, .ref p102, .ref p104, .ref p106, .ref p108, .non, .str "say", .ref p109] : List V), WX NP K a G109 x := (av wA0 (av wA1 (av wA2 (av wA3 (av wA4 (av wA5 (av wA6 (av wA7 av0))))))))
    clear wA0 wA1 wA2 wA3 wA4 wA5 wA6 wA7
    refine ⟨(by show 8 ≤ sizeLine; decide), fun p110 np110 => ?_⟩
    have n110 := n109.new (o := .lst [.ref p101, .ref p102, .ref p104, .ref p106, .ref p108, .non, .str "say", .ref p109]) np110
    have k110 := Keep.new (a := a) (o := .lst [.ref p101, .ref p102, .ref p104, .ref p106, .ref p108, .non, .str "say", .ref p109]) np110
    have q110 := (n109.ne np110).1
    have eA : upd G109 p110 (.lst [.ref p101, .ref p102, .ref p104, .ref p106, .ref p108, .non, .str "say", .ref p109]) p110 = some (.lst [.ref p101, .ref p102, .ref p104, .ref p106, .ref p108, .non, .str "say", .ref p109]) := upd_same
    generalize upd G109 p110 (.lst [.ref p101, .ref p102, .ref p104, .ref p106, .ref p108, .non, .str "say", .ref p109]) = G110 at n110 k110 eA ⊢
    have t110 := t109.trans k110
    have wsA := wx_keep wsA k110
    refine ⟨_, rfl, _, rfl, (by show 3 ≤ sizeLine; decide), fun p111 np111 => ?_⟩
    obtain ⟨n111, k111, x111⟩ := new_dx (K := K) n110 np111 (.cons (.str _) (.cons (.int _) (.cons (dp_same t110.off _ xb.1) .nil))) (by show 3 ≤ 100; decide) (gC (gS (x := "look")) (gC gI (gC xb.2 gN)))
    generalize upd G110 p111 (.tup [.str "look", .int (1), dv]) = G111 at n111 k111 x111 ⊢
    have t111 := t110.trans k111
    have wsA := wx_keep wsA k111
    have eA := k111 _ _ eA q110
    have wB0 : WX NP K a G111 (.ref p111) := ⟨_, x111, (np_looks (by show madeZ _ = false; decide +kernel) (by rw [looks_look]; rfl))⟩
    refine ⟨(by show 0 ≤ sizeLine; exact Nat.zero_le _), fun p112 np112 => ?_⟩
    obtain ⟨n112, k112, x112⟩ := new_dx (K := K) n111 np112 .nil (by show 0 ≤ 100; decide) gN
    generalize upd G111 p112 (.tup []) = G112 at n112 k112 x112 ⊢
    have t112 := t111.trans k112
    have wsA := wx_keep wsA k112
    have eA := k112 _ _ eA q110
    have wB0 := wB0.keep k112
    refine ⟨(by show 3 ≤ sizeLine; decide), fun p113 np113 => ?_⟩
    obtain ⟨n113, k113, x113⟩ := new_dx (K := K) n112 np113 (.cons (.str _) (.cons x112.1 (.cons (.int _) .nil))) (by show 3 ≤ 100; decide) (gC (gS (x := "ask")) (gC x112.2 (gC gI gN)))
    generalize upd G112 p113 (.tup [.str "ask", .ref p112, .int (1)]) = G113 at n113 k113 x113 ⊢
    have t113 := t112.trans k113
    have wsA := wx_keep wsA k113
    have eA := k113 _ _ eA q110
    have wB0 := wB0.keep k113
    have wB1 : WX NP K a G113 (.ref p113) := ⟨_, x113, (by show isPl _ = false; decide +kernel)⟩
    refine ⟨(by show 0 ≤ sizeLine; exact Nat.zero_le _), fun p114 np114 => ?_⟩
    obtain ⟨n114, k114, x114⟩ := new_dx (K := K) n113 np114 .nil (by show 0 ≤ 100; decide) gN
    generalize upd G113 p114 (.tup []) = G114 at n114 k114 x114 ⊢
    have t114 := t113.trans k114
    have wsA := wx_keep wsA k114
    have eA := k114 _ _ eA q110
    have wB0 := wB0.keep k114
    have wB1 := wB1.keep k114
    refine ⟨(by show 2 ≤ sizeLine; decide), fun p115 np115 => ?_⟩
    obtain ⟨n115, k115, x115⟩ := new_dxl (K := K) n114 np115 (.cons (.str _) (.cons x114.1 .nil)) (by show 2 ≤ 100; decide) (gC (gS (x := "say")) (gC x114.2 gN))
    generalize upd G114 p115 (.lst [.str "say", .ref p114]) = G115 at n115 k115 x115 ⊢
    have t115 := t114.trans k115
    have wsA := wx_keep wsA k115
    have eA := k115 _ _ eA q110
    have wB0 := wB0.keep k115
    have wB1 := wB1.keep k115
    have wB2 : WX NP K a G115 (.ref p115) := ⟨_, x115, (by show isPl _ = false; decide +kernel)⟩
    refine ⟨(by show 1 ≤ sizeLine; decide), fun p116 np116 => ?_⟩
    obtain ⟨n116, k116, x116⟩ := new_dx (K := K) n115 np116 (.cons (.int _) .nil) (by show 1 ≤ 100; decide) (gC gI gN)
    generalize upd G115 p116 (.tup [.int (10000)]) = G116 at n116 k116 x116 ⊢
    have t116 := t115.trans k116
    have wsA := wx_keep wsA k116
    have eA := k116 _ _ eA q110
    have wB0 := wB0.keep k116
    have wB1 := wB1.keep k116
    have wB2 := wB2.keep k116
    refine ⟨(by show 2 ≤ sizeLine; decide), fun p117 np117 => ?_⟩
    obtain ⟨n117, k117, x117⟩ := new_dx (K := K) n116 np117 (.cons (.str _) (.cons x116.1 .nil)) (by show 2 ≤ 100; decide) (gC (gS (x := "say")) (gC x116.2 gN))
    generalize upd G116 p117 (.tup [.str "say", .ref p116]) = G117 at n117 k117 x117 ⊢
    have t117 := t116.trans k117
    have wsA := wx_keep wsA k117
    have eA := k117 _ _ eA q110
    have wB0 := wB0.keep k117
    have wB1 := wB1.keep k117
    have wB2 := wB2.keep k117
    have wB3 : WX NP K a G117 (.ref p117) := ⟨_, x117, (by show isPl _ = false; decide +kernel)⟩
    refine ⟨(by show 1 ≤ sizeLine; decide), fun p118 np118 => ?_⟩
    obtain ⟨n118, k118, x118⟩ := new_dx (K := K) n117 np118 (.cons (.bl _) .nil) (by show 1 ≤ 100; decide) (gC gB gN)
    generalize upd G117 p118 (.tup [.bl true]) = G118 at n118 k118 x118 ⊢
    have t118 := t117.trans k118
    have wsA := wx_keep wsA k118
    have eA := k118 _ _ eA q110
    have wB0 := wB0.keep k118
    have wB1 := wB1.keep k118
    have wB2 := wB2.keep k118
    have wB3 := wB3.keep k118
    refine ⟨(by show 2 ≤ sizeLine; decide), fun p119 np119 => ?_⟩
    obtain ⟨n119, k119, x119⟩ := new_dx (K := K) n118 np119 (.cons (.str _) (.cons x118.1 .nil)) (by show 2 ≤ 100; decide) (gC (gS (x := "say")) (gC x118.2 gN))
    generalize upd G118 p119 (.tup [.str "say", .ref p118]) = G119 at n119 k119 x119 ⊢
    have t119 := t118.trans k119
    have wsA := wx_keep wsA k119
    have eA := k119 _ _ eA q110
    have wB0 := wB0.keep k119
    have wB1 := wB1.keep k119
    have wB2 := wB2.keep k119
    have wB3 := wB3.keep k119
    have wB4 : WX NP K a G119 (.ref p119) := ⟨_, x119, (by show isPl _ = false; decide +kernel)⟩
    have wsB : ∀ x ∈ ([.ref p111, .ref p113, .ref p115, .ref p117, .ref p119] : List V), WX NP K a G119 x := (av wB0 (av wB1 (av wB2 (av wB3 (av wB4 av0)))))
    clear wB0 wB1 wB2 wB3 wB4
    refine ⟨(by show 5 ≤ sizeLine; decide), fun p120 np120 => ?_⟩
    have n120 := n119.new (o := .lst [.ref p111, .ref p113, .ref p115, .ref p117, .ref p119]) np120
    have k120 := Keep.new (a := a) (o := .lst [.ref p111, .ref p113, .ref p115, .ref p117, .ref p119]) np120
    have q120 := (n119.ne np120).1
    have eB : upd G119 p120 (.lst [.ref p111, .ref p113, .ref p115, .ref p117, .ref p119]) p120 = some (.lst [.ref p111, .ref p113, .ref p115, .ref p117, .ref p119]) := upd_same
    generalize upd G119 p120 (.lst [.ref p111, .ref p113, .ref p115, .ref p117, .ref p119]) = G120 at n120 k120 eB ⊢
    have t120 := t119.trans k120
    have wsA := wx_keep wsA k120
    have eA := k120 _ _ eA q110
    have wsB := wx_keep wsB k120
    refine ⟨p110, p120, _, _, rfl, rfl, eA, eB, (by show 13 ≤ sizeLine; decide), fun p121 np121 => ?_⟩
    have wsA := av_app (l := [.ref p101, .ref p102, .ref p104, .ref p106, .ref p108, .non, .str "say", .ref p109]) (m := [.ref p111, .ref p113, .ref p115, .ref p117, .ref p119]) wsA wsB
    clear eA eB wsB
    have n121 := n120.new (o := .lst [.ref p101, .ref p102, .ref p104, .ref p106, .ref p108, .non, .str "say", .ref p109, .ref p111, .ref p113, .ref p115, .ref p117, .ref p119]) np121
    have k121 := Keep.new (a := a) (o := .lst [.ref p101, .ref p102, .ref p104, .ref p106, .ref p108, .non, .str "say", .ref p109, .ref p111, .ref p113, .ref p115, .ref p117, .ref p119]) np121
    have q121 := (n120.ne np121).1
    have q121d := (n120.ne np121).2
    have eA : upd G120 p121 (.lst [.ref p101, .ref p102, .ref p104, .ref p106, .ref p108, .non, .str "say", .ref p109, .ref p111, .ref p113, .ref p115, .ref p117, .ref p119]) p121 = some (.lst [.ref p101, .ref p102, .ref p104, .ref p106, .ref p108, .non, .str "say", .ref p109, .ref p111, .ref p113, .ref p115, .ref p117, .ref p119]) := upd_same
    show gName 11 (V.ref p121) _ (upd G120 p121 (.lst [.ref p101, .ref p102, .ref p104, .ref p106, .ref p108, .non, .str "say", .ref p109, .ref p111, .ref p113, .ref p115, .ref p117, .ref p119])) _
    generalize upd G120 p121 (.lst [.ref p101, .ref p102, .ref p104, .ref p106, .ref p108, .non, .str "say", .ref p109, .ref p111, .ref p113, .ref p115, .ref p117, .ref p119]) = G121 at n121 k121 eA ⊢
    have t121 := t120.trans k121
    have wsA := wx_keep wsA k121
    refine ⟨_, rfl, _, rfl, (by show 3 ≤ sizeLine; decide), fun p122 np122 => ?_⟩
    obtain ⟨n122, k122, x122⟩ := new_dx (K := K) n121 np122 (.cons (.str _) (.cons (.int _) (.cons (dp_same t121.off _ xb.1) .nil))) (by show 3 ≤ 100; decide) (gC (gS (x := "once")) (gC gI (gC xb.2 gN)))
    generalize upd G121 p122 (.tup [.str "once", .int (1), dv]) = G122 at n122 k122 x122 ⊢
    have t122 := t121.trans k122
    have wsA := wx_keep wsA k122
    have eA := k122 _ _ eA q121
    have wC0 : WX NP K a G122 (.ref p122) := ⟨_, x122, (np_made (by show madeZ _ = true; decide +kernel))⟩
    refine ⟨_, rfl, _, rfl, (by show 3 ≤ sizeLine; decide), fun p123 np123 => ?_⟩
    obtain ⟨n123, k123, x123⟩ := new_dx (K := K) n122 np123 (.cons (.str _) (.cons (.int _) (.cons (dp_same t122.off _ xb.1) .nil))) (by show 3 ≤ 100; decide) (gC (gS (x := "cut")) (gC gI (gC xb.2 gN)))
    generalize upd G122 p123 (.tup [.str "cut", .int (1), dv]) = G123 at n123 k123 x123 ⊢
    have t123 := t122.trans k123
    have wsA := wx_keep wsA k123
    have eA := k123 _ _ eA q121
    have wC0 := wC0.keep k123
    refine ⟨(by show 2 ≤ sizeLine; decide), fun p124 np124 => ?_⟩
    obtain ⟨n124, k124, x124⟩ := new_dx (K := K) n123 np124 (.cons (dp_same t123.off _ xb.1) (.cons x123.1 .nil)) (by show 2 ≤ 100; decide) (gC xb.2 (gC x123.2 gN))
    generalize upd G123 p124 (.tup [dv, .ref p123]) = G124 at n124 k124 x124 ⊢
    have t124 := t123.trans k124
    have wsA := wx_keep wsA k124
    have eA := k124 _ _ eA q121
    have wC0 := wC0.keep k124
    refine ⟨(by show 2 ≤ sizeLine; decide), fun p125 np125 => ?_⟩
    obtain ⟨n125, k125, x125⟩ := new_dx (K := K) n124 np125 (.cons (.str _) (.cons x124.1 .nil)) (by show 2 ≤ 100; decide) (gC (gS (x := "toss")) (gC x124.2 gN))
    generalize upd G124 p125 (.tup [.str "toss", .ref p124]) = G125 at n125 k125 x125 ⊢
    have t125 := t124.trans k125
    have wsA := wx_keep wsA k125
    have eA := k125 _ _ eA q121
    have wC0 := wC0.keep k125
    have wC1 : WX NP K a G125 (.ref p125) := ⟨_, x125, (np_kid (x := .tuple [.str "cut", .int 1, brD b]) (by show madeZ _ = false; decide +kernel) (by rw [kids_toss (by rw [named_str]; decide)]; simp) (looks_four (by decide +kernel) (by decide +kernel) (by decide +kernel) (by decide +kernel)))⟩
    refine ⟨(by show 0 ≤ sizeLine; exact Nat.zero_le _), fun p126 np126 => ?_⟩
    obtain ⟨n126, k126, x126⟩ := new_dx (K := K) n125 np126 .nil (by show 0 ≤ 100; decide) gN
    generalize upd G125 p126 (.tup []) = G126 at n126 k126 x126 ⊢
    have t126 := t125.trans k126
    have wsA := wx_keep wsA k126
    have eA := k126 _ _ eA q121
    have wC0 := wC0.keep k126
    have wC1 := wC1.keep k126
    refine ⟨_, rfl, (by show 3 ≤ sizeLine; decide), fun p127 np127 => ?_⟩
    obtain ⟨n127, k127, x127⟩ := new_dx (K := K) n126 np127 (.cons (.str _) (.cons (.int _) (.cons (dp_same t126.off _ xb.1) .nil))) (by show 3 ≤ 100; decide) (gC (gS (x := "once")) (gC gI (gC xb.2 gN)))
    generalize upd G126 p127 (.tup [.str "once", .int (1), dv]) = G127 at n127 k127 x127 ⊢
    have t127 := t126.trans k127
    have wsA := wx_keep wsA k127
    have eA := k127 _ _ eA q121
    have wC0 := wC0.keep k127
    have wC1 := wC1.keep k127
    have x126 := x126.keep k127
    refine ⟨(by show 3 ≤ sizeLine; decide), fun p128 np128 => ?_⟩
    obtain ⟨n128, k128, x128⟩ := new_dx (K := K) n127 np128 (.cons (.str _) (.cons x126.1 (.cons x127.1 .nil))) (by show 3 ≤ 100; decide) (gC (gS (x := "ask")) (gC x126.2 (gC x127.2 gN)))
    generalize upd G127 p128 (.tup [.str "ask", .ref p126, .ref p127]) = G128 at n128 k128 x128 ⊢
    have t128 := t127.trans k128
    have wsA := wx_keep wsA k128
    have eA := k128 _ _ eA q121
    have wC0 := wC0.keep k128
    have wC1 := wC1.keep k128
    have wC2 : WX NP K a G128 (.ref p128) := ⟨_, x128, (np_kid (x := .tuple [.str "once", .int 1, brD b]) (by show madeZ _ = false; decide +kernel) (by rw [kids_ask]; simp) (looks_four (by decide +kernel) (by decide +kernel) (by decide +kernel) (by decide +kernel)))⟩
    have wsC : ∀ x ∈ ([.ref p122, .ref p125, .ref p128] : List V), WX NP K a G128 x := (av wC0 (av wC1 (av wC2 av0)))
    clear wC0 wC1 wC2
    refine ⟨(by show 3 ≤ sizeLine; decide), fun p129 np129 => ?_⟩
    have n129 := n128.new (o := .lst [.ref p122, .ref p125, .ref p128]) np129
    have k129 := Keep.new (a := a) (o := .lst [.ref p122, .ref p125, .ref p128]) np129
    have q129 := (n128.ne np129).1
    have eC : upd G128 p129 (.lst [.ref p122, .ref p125, .ref p128]) p129 = some (.lst [.ref p122, .ref p125, .ref p128]) := upd_same
    generalize upd G128 p129 (.lst [.ref p122, .ref p125, .ref p128]) = G129 at n129 k129 eC ⊢
    have t129 := t128.trans k129
    have wsA := wx_keep wsA k129
    have eA := k129 _ _ eA q121
    have wsC := wx_keep wsC k129
    refine ⟨p121, p129, _, _, rfl, rfl, eA, eC, (by show 16 ≤ sizeLine; decide), fun p130 np130 => ?_⟩
    have wsA := av_app (l := [.ref p101, .ref p102, .ref p104, .ref p106, .ref p108, .non, .str "say", .ref p109, .ref p111, .ref p113, .ref p115, .ref p117, .ref p119]) (m := [.ref p122, .ref p125, .ref p128]) wsA wsC
    clear eA eC wsC
    have n130 := n129.new (o := .lst [.ref p101, .ref p102, .ref p104, .ref p106, .ref p108, .non, .str "say", .ref p109, .ref p111, .ref p113, .ref p115, .ref p117, .ref p119, .ref p122, .ref p125, .ref p128]) np130
    have k130 := Keep.new (a := a) (o := .lst [.ref p101, .ref p102, .ref p104, .ref p106, .ref p108, .non, .str "say", .ref p109, .ref p111, .ref p113, .ref p115, .ref p117, .ref p119, .ref p122, .ref p125, .ref p128]) np130
    have q130 := (n129.ne np130).1
    have q130d := (n129.ne np130).2
    have eA : upd G129 p130 (.lst [.ref p101, .ref p102, .ref p104, .ref p106, .ref p108, .non, .str "say", .ref p109, .ref p111, .ref p113, .ref p115, .ref p117, .ref p119, .ref p122, .ref p125, .ref p128]) p130 = some (.lst [.ref p101, .ref p102, .ref p104, .ref p106, .ref p108, .non, .str "say", .ref p109, .ref p111, .ref p113, .ref p115, .ref p117, .ref p119, .ref p122, .ref p125, .ref p128]) := upd_same
    show gName 11 (V.ref p130) _ (upd G129 p130 (.lst [.ref p101, .ref p102, .ref p104, .ref p106, .ref p108, .non, .str "say", .ref p109, .ref p111, .ref p113, .ref p115, .ref p117, .ref p119, .ref p122, .ref p125, .ref p128])) _
    have baK := ba.keep n129 t129
    have xgK := xg.keep t129
    have xbK := xb.keep t129
    refine ⟨_, rfl, .inl ⟨rfl, _, .inl (.inl eA)⟩, ?_⟩
    refine ⟨_, rfl, _, rfl, (by show 3 ≤ sizeLine; decide), fun p201 np201 => ⟨(by show 4 ≤ sizeLine; decide), fun p202 np202 => ⟨p130, _, _, rfl, rfl, Keep.new (a := a) np202 _ _ (Keep.new (a := a) np201 _ _ eA q130) q130, (by show 16 + 1 ≤ sizeLine; decide), ?_⟩⟩⟩
    have nF := ((n130.new (o := .tup [.str "guess", .int 1, dv]) np201).new (o := .tup [.str "look", .int 0, dv, .ref p201]) np202).set (o := .lst ([.ref p101, .ref p102, .ref p104, .ref p106, .ref p108, .non, .str "say", .ref p109, .ref p111, .ref p113, .ref p115, .ref p117, .ref p119, .ref p122, .ref p125, .ref p128] ++ [.ref p202])) q130 q130d
    have kF := ((k130.trans (Keep.new (a := a) (o := .tup [.str "guess", .int 1, dv]) np201)).trans (Keep.new (a := a) (o := .tup [.str "look", .int 0, dv, .ref p201]) np202)).set (o := .lst ([.ref p101, .ref p102, .ref p104, .ref p106, .ref p108, .non, .str "say", .ref p109, .ref p111, .ref p113, .ref p115, .ref p117, .ref p119, .ref p122, .ref p125, .ref p128] ++ [.ref p202])) np130
    have e1 : (upd (upd (upd (upd G129 p130 (.lst [.ref p101, .ref p102, .ref p104, .ref p106, .ref p108, .non, .str "say", .ref p109, .ref p111, .ref p113, .ref p115, .ref p117, .ref p119, .ref p122, .ref p125, .ref p128])) p201 (.tup [.str "guess", .int 1, dv])) p202 (.tup [.str "look", .int 0, dv, .ref p201])) p130 (.lst ([.ref p101, .ref p102, .ref p104, .ref p106, .ref p108, .non, .str "say", .ref p109, .ref p111, .ref p113, .ref p115, .ref p117, .ref p119, .ref p122, .ref p125, .ref p128] ++ [.ref p202]))) p201 = some (.tup [.str "guess", .int 1, dv]) := by rw [upd_ne (ne_of_none eA np201).symm, upd_ne (ne_of_none upd_same np202)]; exact upd_same
    have e2 : (upd (upd (upd (upd G129 p130 (.lst [.ref p101, .ref p102, .ref p104, .ref p106, .ref p108, .non, .str "say", .ref p109, .ref p111, .ref p113, .ref p115, .ref p117, .ref p119, .ref p122, .ref p125, .ref p128])) p201 (.tup [.str "guess", .int 1, dv])) p202 (.tup [.str "look", .int 0, dv, .ref p201])) p130 (.lst ([.ref p101, .ref p102, .ref p104, .ref p106, .ref p108, .non, .str "say", .ref p109, .ref p111, .ref p113, .ref p115, .ref p117, .ref p119, .ref p122, .ref p125, .ref p128] ++ [.ref p202]))) p202 = some (.tup [.str "look", .int 0, dv, .ref p201]) := by rw [upd_ne (ne_of_none (Keep.new (a := a) np201 _ _ eA q130) np202).symm]; exact upd_same
    have eF : (upd (upd (upd (upd G129 p130 (.lst [.ref p101, .ref p102, .ref p104, .ref p106, .ref p108, .non, .str "say", .ref p109, .ref p111, .ref p113, .ref p115, .ref p117, .ref p119, .ref p122, .ref p125, .ref p128])) p201 (.tup [.str "guess", .int 1, dv])) p202 (.tup [.str "look", .int 0, dv, .ref p201])) p130 (.lst ([.ref p101, .ref p102, .ref p104, .ref p106, .ref p108, .non, .str "say", .ref p109, .ref p111, .ref p113, .ref p115, .ref p117, .ref p119, .ref p122, .ref p125, .ref p128] ++ [.ref p202]))) p130 = some (.lst ([.ref p101, .ref p102, .ref p104, .ref p106, .ref p108, .non, .str "say", .ref p109, .ref p111, .ref p113, .ref p115, .ref p117, .ref p119, .ref p122, .ref p125, .ref p128] ++ [.ref p202])) := upd_same
    have r1 := (n130.ne np201).1
    have r2 := ((n130.new (o := .tup [.str "guess", .int 1, dv]) np201).ne np202).1
    have r3 := q130
    generalize (upd (upd (upd (upd G129 p130 (.lst [.ref p101, .ref p102, .ref p104, .ref p106, .ref p108, .non, .str "say", .ref p109, .ref p111, .ref p113, .ref p115, .ref p117, .ref p119, .ref p122, .ref p125, .ref p128])) p201 (.tup [.str "guess", .int 1, dv])) p202 (.tup [.str "look", .int 0, dv, .ref p201])) p130 (.lst ([.ref p101, .ref p102, .ref p104, .ref p106, .ref p108, .non, .str "say", .ref p109, .ref p111, .ref p113, .ref p115, .ref p117, .ref p119, .ref p122, .ref p125, .ref p128] ++ [.ref p202]))) = GF at nF kF e1 e2 eF ⊢
    have ba := baK.keep nF kF
    have xg := xgK.keep kF
    have xb := xbK.keep kF
    have wN : WX NP K a GF (.ref p202) := ⟨_, ⟨dp_new r2 e2 (.cons (.str _) (.cons (.int _) (.cons xb.1 (.cons (dp_new r1 e1 (.cons (.str _) (.cons (.int _) (.cons xb.1 .nil)))) .nil)))), gT (by show 4 ≤ 100; decide) (gC (gS (x := "look")) (gC gI (gC xb.2 (gC (gT (by show 3 ≤ 100; decide) (gC (gS (x := "guess")) (gC gI (gC xb.2 gN)))) gN))))⟩, (np_kid (x := .tuple [.str "guess", .int 1, brD b]) (by show madeZ _ = false; decide +kernel) (by rw [kids_look]; simp) (looks_four (by decide +kernel) (by decide +kernel) (by decide +kernel) (by decide +kernel)))⟩
    have ws := av_app (l := [.ref p101, .ref p102, .ref p104, .ref p106, .ref p108, .non, .str "say", .ref p109, .ref p111, .ref p113, .ref p115, .ref p117, .ref p119, .ref p122, .ref p125, .ref p128]) (m := [.ref p202]) (wx_keep wsA kF) (av wN av0)
    refine ⟨_, rfl, _, rfl, _, rfl, p130, _, rfl, .inl (.inl (.inl eF)), a, d, 17, rfl, by decide, nF, fun r9 G9 l9 u9 n9 k9 => ?_⟩
    obtain ⟨x, hat, hmem⟩ := atI_mem (xs := ([.ref p101, .ref p102, .ref p104, .ref p106, .ref p108, .non, .str "say", .ref p109, .ref p111, .ref p113, .ref p115, .ref p117, .ref p119, .ref p122, .ref p125, .ref p128] ++ [.ref p202] : List V)) l9 (by show r9 < 17; exact u9)
    obtain ⟨X, xx, np⟩ := wx_keep ws k9 x hmem
    have eF9 := k9 _ _ eF r3
    refine ⟨p130, _, r9, x, rfl, rfl, .inl (.inl eF9), hat, ?_⟩
    have ba := ba.keep n9 k9
    have xg := xg.keep k9
    have xb := xb.keep k9
    have gb10 : Gd 10 B.D := gd_le gb3 (by decide)
    have bad : goalOk (.tuple [.str "tell", .tuple [.str "cut", .int 0, SD]]) B = false := bad_cut sch (by rw [List.length_map]; omega) hb okt
    have gSD : ∃ n, Gd n SD := ⟨_, sch_gd sch⟩
    clear n9 k9 hat hmem eF9 ws wN e1 e2 eF nF kF l9 u9
    -- a bad goal
    refine ⟨_, rfl, (by show 3 ≤ sizeLine; decide), fun p3 np3 => ?_⟩
    obtain ⟨n3, k3, x3⟩ := new_dx (K := K) ba.n np3 (.cons (.str "cut") (.cons (.int 0) (.cons ba.sc .nil))) (by show 3 ≤ 100; decide) (gC (gS (x := "cut")) (gC gI (gC gSD gN)))
    have ba := ba.keep n3 k3
    have xg := xg.keep k3
    have xb := xb.keep k3
    have xx := xx.keep k3
    generalize upd G9 p3 (.tup [.str "cut", .int 0, sv]) = J3 at n3 k3 x3 ba xg xb xx ⊢
    refine ⟨(by show 2 ≤ sizeLine; decide), fun p4 np4 => ?_⟩
    obtain ⟨n4, k4, x4⟩ := new_dx (K := K) ba.n np4 (.cons (.str "tell") (.cons x3.1 .nil)) (by show 2 ≤ 100; decide) (gC (gS (x := "tell")) (gC x3.2 gN))
    have ba := ba.keep n4 k4
    have xg := xg.keep k4
    have xb := xb.keep k4
    have xx := xx.keep k4
    show gName 13 (V.ref p4) _ (upd J3 p4 (.tup [.str "tell", .ref p3])) _
    generalize upd J3 p4 (.tup [.str "tell", .ref p3]) = J4 at n4 k4 x4 ba xg xb xx ⊢
    have en : En K a d J4 bv B gv g dv b x X (.ref p4) (.tuple [.str "tell", .tuple [.str "cut", .int 0, SD]]) := ⟨ba.n, ba.bl, xg, xb, xx, x4⟩
    clear n3 k3 x3 n4 k4 x4 ba xg xb xx np3 np4
    -- no block
    obtain ⟨p, us, bd, rfl, eB, hT, hA, l5, l4⟩ := blk_tup en.bl.1
    have gbd : ∀ x ∈ bd, Gd 2 x := by
      have := gb3
      rw [eB] at this
      exact this.2
    have lus := dp_all_len hA
    have hT1 := sqt_on hT
    refine ⟨_, rfl, p, us, rfl, .inr hT1, fun p1 np1 => ?_⟩
    obtain ⟨n1, k1, x1⟩ := new_dxl (K := K) en.n np1 hA (by omega) ⟨2, gbd⟩
    have en := en.keep n1 k1
    have w1 : WX NB K a (upd J4 p1 (.lst us)) (.ref p1) := ⟨_, x1, rfl, ⟨by omega, fun x hx => gd_le (gbd x hx) (by decide)⟩⟩
    have hT2 := same_sqt k1.off hT
    have hA2 := dps_same k1.off _ hA
    generalize upd J4 p1 (.lst us) = J5 at n1 k1 x1 en w1 hT2 hA2 ⊢
    clear x1 hT1 hT hA n1 k1
    refine ⟨_, rfl, _, rfl, sl_any (sqt_on hT2) fun p2 J6 s3 t3 => ?_⟩
    rw [cut3 (by omega)] at t3
    have en := en.same s3
    have k3 := Keep.same (a := a) s3
    have w1 := w1.keep k3
    have w2 : WX NB K a J6 (.ref p2) := ⟨_, ⟨.tup (sqt_off en.n t3) (dps_take3 (dps_same k3.off _ hA2)), ⟨3, by rw [List.length_take]; omega, fun x hx => gbd x (List.mem_of_mem_take hx)⟩⟩, no_few (by rw [List.length_take]; omega) (by rw [List.length_take]; omega), ⟨by rw [List.length_take]; omega, fun x hx => gd_le (gbd x (List.mem_of_mem_take hx)) (by decide)⟩⟩
    clear s3 t3 k3 hT2 hA2 lus
    refine ⟨_, rfl, (by show 1 ≤ sizeLine; decide), fun p3 np3 => ?_⟩
    obtain ⟨n3, k3, x3⟩ := new_dx (K := K) en.n np3 (.cons en.bl.1 .nil) (by show 1 ≤ 100; decide) (gC ⟨3, gb3⟩ gN)
    have en := en.keep n3 k3
    have w1 := w1.keep k3
    have w2 := w2.keep k3
    have w3 : WX NB K a (upd J6 p3 (.tup [.ref p])) (.ref p3) := ⟨_, x3, no_few (by show 1 ≠ 4; decide) (by show 1 ≠ 5; decide), ⟨(by show 1 ≤ 5000; decide), fun x hx => by
      rw [List.mem_singleton.mp hx]
      exact gd_le gb3 (by decide)⟩⟩
    generalize upd J6 p3 (.tup [.ref p]) = J7 at n3 k3 x3 en w1 w2 w3 ⊢
    clear x3 n3 k3
    have w0 : WX NB K a J7 .non := ⟨_, ⟨.non, gO⟩, rfl, trivial⟩
    have ws : ∀ x ∈ ([.non, .ref p1, .ref p2, .ref p3] : List V), WX NB K a J7 x := av w0 (av w1 (av w2 (av w3 av0)))
    clear w0 w1 w2 w3
    refine ⟨(by show 4 ≤ sizeLine; decide), fun M nM => ?_⟩
    have kM := Keep.new (a := a) (o := .lst [.non, .ref p1, .ref p2, .ref p3]) nM
    have nM' := en.n.new (o := .lst [.non, .ref p1, .ref p2, .ref p3]) nM
    have Mb := (en.n.ne nM).1
    refine ⟨_, rfl, a, d, 4, rfl, by decide, nM', fun r9 J8 l9 u9 n9 k9 => ?_⟩
    have eM := k9 _ _ upd_same Mb
    have en := (en.keep nM' kM).keep n9 k9
    have ws := wx_keep (wx_keep ws kM) k9
    obtain ⟨u, hat, hmem⟩ := atI_mem (xs := [V.non, .ref p1, .ref p2, .ref p3]) l9 (show r9 < 4 from u9)
    obtain ⟨U, xu, nb, gU⟩ := ws u hmem
    refine ⟨M, _, r9, u, rfl, rfl, .inl (.inl eM), hat, ?_⟩
    clear kM nM' eM ws hat hmem k9 n9 np1 np3 nM l9 u9
    -- what is refused
    obtain ⟨gn, dg, gg⟩ := en.go.at
    obtain ⟨wn, dw, gw⟩ := en.wr.at
    refine ⟨_, rfl, _, rfl, _, rfl, gv, .ref p, x, g, B.D, X, gn, 3, wn, rfl, dg, gg, en.at, gb3, by decide, dw, gw, .inr ⟨B, rfl, okB, .inr ⟨gl.ok, np, fun I1 i1 => ?_⟩⟩⟩
    refine ⟨rfl, _, rfl, ?_⟩
    rw [decide_eq_true rfl]
    have en := en.same i1
    have xu := xu.keep (Keep.same (a := a) i1)
    clear dg gg dw gw i1
    obtain ⟨cn, dc, gc⟩ := en.bd.at
    obtain ⟨wn, dw, gw⟩ := en.wr.at
    refine ⟨_, rfl, _, rfl, _, rfl, .ref p4, .ref p, x, _, B.D, X, cn, 3, wn, rfl, dc, gc, en.at, gb3, by decide, dw, gw, .inr ⟨B, rfl, okB, .inl ⟨bad, fun I2 i2 => ?_⟩⟩⟩
    refine ⟨rfl, _, rfl, ?_⟩
    rw [decide_eq_true rfl]
    have en := en.same i2
    have xu := xu.keep (Keep.same (a := a) i2)
    clear dc gc dw gw i2
    obtain ⟨cn, dc, gc⟩ := en.bd.at
    obtain ⟨wn, dw, gw⟩ := en.wr.at
    refine ⟨_, rfl, _, rfl, _, rfl, .ref p4, u, x, _, U, X, cn, 10, wn, rfl, dc, gc, xu.on, gU, by decide, dw, gw, .inl ⟨nb, fun I3 i3 => ?_⟩⟩
    refine ⟨rfl, _, rfl, ?_⟩
    rw [decide_eq_true rfl]
    have en := en.same i3
    have xu := xu.keep (Keep.same (a := a) i3)
    clear dc gc dw gw i3
    obtain ⟨cn, dc, gc⟩ := en.bd.at
    obtain ⟨bn, db, gb⟩ := en.br.at
    refine ⟨_, rfl, _, rfl, _, rfl, .ref p4, .ref p, dv, _, B.D, brD b, cn, 3, bn, rfl, dc, gc, en.at, gb3, by decide, db, gb, .inr ⟨B, rfl, okB, .inl ⟨bad, fun I4 i4 => ?_⟩⟩⟩
    refine ⟨rfl, _, rfl, ?_⟩
    rw [decide_eq_true rfl]
    have en := en.same i4
    have xu := xu.keep (Keep.same (a := a) i4)
    clear dc gc db gb i4
    obtain ⟨gn, dg, gg⟩ := en.go.at
    obtain ⟨bn, db, gb⟩ := en.br.at
    refine ⟨_, rfl, _, rfl, _, rfl, gv, u, dv, g, U, brD b, gn, 10, bn, rfl, dg, gg, xu.on, gU, by decide, db, gb, .inl ⟨nb, fun I5 i5 => ⟨rfl, ?_⟩⟩⟩
    rw [decide_eq_true rfl]
    exact qT I5
theorem ok_law32 {f : Addr} {fd : FuncData} (F : Fun K "law" "law" s_law f fd) (T : Txt K w mg cs) (c_law_whole : Cl P w K mg base CX0 13 "_law_whole" (spLaw K)) : FnOk P w K mg base CX0 14 f fd ["script"] (spLaw K) := by
  refine F.ok sc_law (fun vs H Q E h => ?_) (fun cdv A outer s H vs Q E hr h => ?_)
  · obtain ⟨a, ns, rfl, _⟩ := h
    rfl
  · obtain ⟨a, ns, rfl, hS, hlen, q⟩ := h
    refine ⟨_, (pss_one (ps_try_many (Wout := fun _ _ _ _ => False) rfl rfl takes0 (fun W pn xe tk _ => (pss_one (ps_ret (pe_cl c_law_whole hr (by first | decide | omega) (by rfl) (pa_cons (pv 0) pa_nil))))) (HdsOk.cons ⟨rfl, by decide, .inl T.gl_BreakError⟩ (fun a oe cls d pn hz hf => (pss_one (ps_ret pe_bl))) HdsOk.nil))), ?_⟩
    exact ⟨_, rfl, a, ns, rfl, hS, hlen, q⟩

theorem kb2 {x qual : Str} {st : Stmt} {f : Addr} {fd : FuncData} {ps ks : List Str} (F : Fun K x qual st f fd)
    (h : ∀ (kV doc pm : Value) (an : Option Addr) (cdv ct : Value) (us ws : List Value), us.length = 0 → ws.length = ks.length → bindArgs (PySem.W.fnOf x qual (defArgs st) (defBody st) (defScope st) .none kV doc pm an cdv ct) ⟨us, ks.zip ws⟩ = pure (ps.zip ws.reverse)) :
    KBn K fd ps 0 ks (fun _ ws => ws.reverse) (fun _ zs => zs.reverse) := Fun.kb F 0 h (fun _ r => Vals.rev r)
theorem mk_law {f1 f2 f3 f4 f5 f6 f7 f8 f9 f10 f11 f12 f13 f14 f15 f16 f17 f18 f19 f20 f21 f22 f23 f24 f25 f26 f27 f28 f29 f30 f31 f32 f33 f34 f35 f36 f37 f38 f39 f40 f41 f42 f43 f44 f45 f46 f47 f48 f49 f50 f51 f52 f53 f54 f55 f56 f57 f58 f59 f60 f61 f : Addr} {d1 d2 d3 d4 d5 d6 d7 d8 d9 d10 d11 d12 d13 d14 d15 d16 d17 d18 d19 d20 d21 d22 d23 d24 d25 d26 d27 d28 d29 d30 d31 d32 d33 d34 d35 d36 d37 d38 d39 d40 d41 d42 d43 d44 d45 d46 d47 d48 d49 d50 d51 d52 d53 d54 d55 d56 d57 d58 d59 d60 d61 fd : FuncData} (T : Txt K w mg cs)
    (D_bits : Df K mg "bits" s_bits ["length", "number"] f1 d1)
    (D_all_bits : Df K mg "all_bits" s_all_bits ["length"] f2 d2)
    (D_number_of : Df K mg "number_of" s_number_of ["string"] f3 d3)
    (D_is_whole : Df K mg "is_whole" s_is_whole ["value", "low", "high"] f4 d4)
    (D_are_rows : Df K mg "are_rows" s_are_rows ["value", "many", "m"] f5 d5)
    (D_is_generator : Df K mg "is_generator" s_is_generator ["value"] f6 d6)
    (D_is_function : Df K mg "is_function" s_is_function ["value"] f7 d7)
    (D_check_block : Df K mg "check_block" s_check_block ["block"] f8 d8)
    (D_generator_parts : Df K mg "generator_parts" s_generator_parts ["block"] f9 d9)
    (D_function_parts : Df K mg "function_parts" s_function_parts ["block"] f10 d10)
    (D_put_out : Df K mg "put_out" s_put_out ["rows", "state", "k"] f11 d11)
    (D_longer : Df K mg "longer" s_longer ["block", "k"] f12 d12)
    (D_go_down : Df K mg "go_down" s_go_down ["rows", "label", "path"] f13 d13)
    (D_tree : Df K mg "tree" s_tree ["block", "d"] f14 d14)
    (D_counter : Df K mg "counter" s_counter ["block", "c"] f15 d15)
    (D_cut : Df K mg "cut" s_cut ["block", "b"] f16 d16)
    (D_are_numbers : Df K mg "are_numbers" s_are_numbers ["own", "bounds"] f17 d17)
    (D_fits_longer : Df K mg "fits_longer" s_fits_longer ["own"] f18 d18)
    (D_fits_tree : Df K mg "fits_tree" s_fits_tree ["own"] f19 d19)
    (D_fits_opening : Df K mg "fits_opening" s_fits_opening ["own"] f20 d20)
    (D_fits_onetime : Df K mg "fits_onetime" s_fits_onetime ["own"] f21 d21)
    (D_is_made : Df K mg "is_made" s_is_made ["value"] f22 d22)
    (D_fits_kind : Df K mg "fits_kind" s_fits_kind ["made"] f23 d23)
    (D_is_part : Df K mg "is_part" s_is_part ["value"] f24 d24)
    (D_are_parts : Df K mg "are_parts" s_are_parts ["value"] f25 d25)
    (D_looks_plain : Df K mg "looks_plain" s_looks_plain ["value"] f26 d26)
    (D_directly_within : Df K mg "directly_within" s_directly_within ["plain"] f27 d27)
    (D_is_plain_breaker : Df K mg "is_plain_breaker" s_is_plain_breaker ["value"] f28 d28)
    (D_check_breaker : Df K mg "check_breaker" s_check_breaker ["breaker"] f29 d29)
    (D_is_plain : Df K mg "is_plain" s_is_plain ["breaker"] f30 d30)
    (D_plain_asks : Df K mg "plain_asks" s_plain_asks ["breaker"] f31 d31)
    (D_most_asks : Df K mg "most_asks" s_most_asks ["breaker"] f32 d32)
    (D_layers_of : Df K mg "layers_of" s_layers_of ["scheme"] f33 d33)
    (D_with_layer : Df K mg "with_layer" s_with_layer ["name", "number", "block"] f34 d34)
    (D_tables_of : Df K mg "tables_of" s_tables_of ["layers", "block"] f35 d35)
    (D_built : Df K mg "built" s_built ["scheme", "block"] f36 d36)
    (D_check_goal : Df K mg "check_goal" s_check_goal ["goal", "block"] f37 d37)
    (D_check_attack : Df K mg "check_attack" s_check_attack ["goal", "block", "breaker"] f38 d38)
    (D_led_to_whole : Df K mg "led_to_whole" s_led_to_whole ["goal", "whole", "breaker"] f39 d39)
    (D_led_down : Df K mg "led_down" s_led_down ["name", "number", "table", "breaker"] f40 d40)
    (D_carried : Df K mg "carried" s_carried ["goal", "block", "breaker"] f41 d41)
    (D__law_draws : Df K mg "_law_draws" s_law_draws ["script", "many"] f42 d42)
    (D__law_take : Df K mg "_law_take" s_law_take ["hand", "many"] f43 d43)
    (D__law_string : Df K mg "_law_string" s_law_string ["hand", "length"] f44 d44)
    (D__law_table : Df K mg "_law_table" s_law_table ["hand", "n", "m"] f45 d45)
    (D__law_function : Df K mg "_law_function" s_law_function ["hand", "n", "l", "m"] f46 d46)
    (D__law_bits : Df K mg "_law_bits" s_law_bits ["length", "number"] f47 d47)
    (D__law_number : Df K mg "_law_number" s_law_number ["string"] f48 d48)
    (D__law_longer : Df K mg "_law_longer" s_law_longer ["table", "k"] f49 d49)
    (D__law_tree : Df K mg "_law_tree" s_law_tree ["table", "d"] f50 d50)
    (D__law_layer : Df K mg "_law_layer" s_law_layer ["name", "number", "table"] f51 d51)
    (D__law_block : Df K mg "_law_block" s_law_block ["hand"] f52 d52)
    (D__law_step : Df K mg "_law_step" s_law_step ["hand", "table"] f53 d53)
    (D__law_scheme : Df K mg "_law_scheme" s_law_scheme ["hand", "block", "many"] f54 d54)
    (D__law_goal : Df K mg "_law_goal" s_law_goal ["hand", "scheme", "table"] f55 d55)
    (D__law_parts : Df K mg "_law_parts" s_law_parts ["hand", "length"] f56 d56)
    (D__law_breaker : Df K mg "_law_breaker" s_law_breaker ["hand", "depth", "asks", "length", "said"] f57 d57)
    (D__law_asks : Df K mg "_law_asks" s_law_asks ["breaker"] f58 d58)
    (D__law_due : Df K mg "_law_due" s_law_due ["goal", "table", "layers", "breaker"] f59 d59)
    (D__law_refused : Df K mg "_law_refused" s_law_refused ["goal", "block", "breaker"] f60 d60)
    (D__law_whole : Df K mg "_law_whole" s_law_whole ["script"] f61 d61)
    (F : Fun K "law" "law" s_law f fd) : FnOk P w K mg base CX0 top_level f fd ["script"] (spLaw K) := by
  have c_take : Cl P w K mg base CX0 1 "_law_take" spTake := D__law_take.cl (ok_take D__law_take T)
  have c_string : Cl P w K mg base CX0 2 "_law_string" spString := D__law_string.cl (ok_string D__law_string T c_take)
  have c_table : Cl P w K mg base CX0 3 "_law_table" (spTable K) := D__law_table.cl (ok_table D__law_table T c_string)
  have c_bits : Cl P w K mg base CX0 1 "bits" spBits := D_bits.cl (ok_bits D_bits T)
  have c_number : Cl P w K mg base CX0 1 "number_of" spNumber := D_number_of.cl (ok_number D_number_of T)
  have c_whole : Cl P w K mg base CX0 1 "is_whole" (spWhole K) := D_is_whole.cl (ok_whole D_is_whole T)
  have c_rows : Cl P w K mg base CX0 1 "are_rows" (spRows K) := D_are_rows.cl (ok_rows D_are_rows T)
  have c_gen : Cl P w K mg base CX0 2 "is_generator" (spD K genOk) := D_is_generator.cl (ok_gen D_is_generator T c_whole c_rows)
  have c_nums : Cl P w K mg base CX0 2 "are_numbers" (spNums K) := D_are_numbers.cl (ok_numbers D_are_numbers T c_whole)
  have c_l : Cl P w K mg base CX0 3 "fits_longer" (spOwn K fitLonger) := D_fits_longer.cl (ok_longerF D_fits_longer T c_whole c_gen)
  have c_t : Cl P w K mg base CX0 3 "fits_tree" (spOwn K fitTree) := D_fits_tree.cl (ok_treeF D_fits_tree T c_whole c_gen)
  have c_o : Cl P w K mg base CX0 3 "fits_opening" (spOwn K fitOpening) := D_fits_opening.cl (ok_openingF D_fits_opening T c_rows)
  have c_1 : Cl P w K mg base CX0 3 "fits_onetime" (spOwn K fitOnetime) := D_fits_onetime.cl (ok_onetimeF D_fits_onetime T c_whole c_gen)
  have c_made : Cl P w K mg base CX0 1 "is_made" (spD K madeD) := D_is_made.cl (ok_made D_is_made T)
  have c_kind : Cl P w K mg base CX0 4 "fits_kind" (spKind K) := D_fits_kind.cl (ok_kind D_fits_kind T c_nums fun f sp h => by
    rcases h with ⟨e, rfl⟩ | ⟨e, rfl⟩ | ⟨e, rfl⟩ | ⟨e, rfl⟩
    · exact held_of c_l e
    · exact held_of c_t e
    · exact held_of c_o e
    · exact held_of c_1 e)
  have c_bparts : Cl P w K mg base CX0 3 "are_parts" (spD K partsOk) := D_are_parts.cl (ok_parts D_are_parts T (D_is_part.cl (ok_part D_is_part T c_whole)))
  have c_looks : Cl P w K mg base CX0 4 "looks_plain" (spD K looksOk) := D_looks_plain.cl (ok_looks D_looks_plain T c_whole c_bparts)
  have c_kids : Cl P w K mg base CX0 1 "directly_within" (spKids K) := D_directly_within.cl (ok_kids D_directly_within T)
  have c_plain : Cl P w K mg base CX0 5 "is_plain_breaker" (spD K plainOk) := D_is_plain_breaker.cl (ok_plainB D_is_plain_breaker T c_looks c_kids)
  have c_checkbr : Cl P w K mg base (L2.CX P w) 6 "check_breaker" (spCheckB K cs.BadBreaker) := D_check_breaker.cl (ok_checkB D_check_breaker T c_made c_kind c_plain)
  have c_check : Cl P w K mg base (L2.CX P w) 3 "check_block" (spCheck K cs.BadBlock) := D_check_block.cl (ok_check D_check_block T (D_is_generator.cl ((ok_gen D_is_generator T c_whole c_rows).imp fun _ _ _ _ ⟨v, d, n, e, hd, hg, _, q⟩ => ⟨v, d, n, e, hd, hg, q⟩)) (D_is_function.cl (ok_fun D_is_function T c_whole c_rows)))
  have c_all : Cl P w K mg base CX0 2 "all_bits" (spAll K) := D_all_bits.cl (ok_all D_all_bits T c_bits)
  have c_parts : Cl P w K mg base (L2.CX P w) 4 "generator_parts" (spParts K cs.BadBlock cs.BadScheme) := D_generator_parts.cl (ok_gparts D_generator_parts T c_check)
  have c_fparts : Cl P w K mg base (L2.CX P w) 4 "function_parts" (spFParts K cs.BadBlock cs.BadScheme) := D_function_parts.cl (ok_fparts D_function_parts T c_check)
  have c_put : Cl P w K mg base CX0 2 "put_out" (spPut K) := D_put_out.cl (ok_put D_put_out T c_number)
  have c_go : Cl P w K mg base CX0 2 "go_down" (spGo K) := D_go_down.cl (ok_go D_go_down T c_number)
  have c_longer : Cl P w K mg base (L2.CX P w) 5 "longer" (spLongA K cs.BadBlock cs.BadScheme) := D_longer.cl (ok_longerA D_longer T c_parts c_whole c_all c_put)
  have c_tree : Cl P w K mg base (L2.CX P w) 5 "tree" (spTreeA K cs.BadBlock cs.BadScheme) := D_tree.cl (ok_treeA D_tree T c_parts c_whole c_all c_go)
  have c_counter : Cl P w K mg base (L2.CX P w) 5 "counter" (spCntA K cs.BadBlock cs.BadScheme) := D_counter.cl (ok_counterA D_counter T c_fparts c_whole)
  have c_cut : Cl P w K mg base (L2.CX P w) 5 "cut" (spCutA K cs.BadBlock cs.BadScheme) := D_cut.cl (ok_cutA D_cut T c_parts c_whole)
  have c_with : Cl P w K mg base (L2.CX P w) 6 "with_layer" (spWith K cs.BadScheme) := D_with_layer.cl (ok_with D_with_layer T c_longer c_tree c_counter c_cut)
  have c_layers : Cl P w K mg base (L2.CX P w) 1 "layers_of" (spLayers K cs.BadScheme) := D_layers_of.cl (ok_layers D_layers_of T)
  have c_built : Cl P w K mg base (L2.CX P w) 8 "built" (spBuilt K cs.BadBlock cs.BadScheme) := D_built.cl (ok_built D_built T c_check c_layers (D_tables_of.cl (ok_tables D_tables_of T c_with)))
  have c_goal : Cl P w K mg base (L2.CX P w) 9 "check_goal" (spGoal K cs.BadBlock cs.BadScheme) := D_check_goal.cl (ok_goal D_check_goal T c_check c_built c_rows)
  have c_most : Cl P w K mg base (L2.CX P w) 7 "most_asks" (spMA K cs.BadBreaker) := D_most_asks.cl (ok_most D_most_asks T c_checkbr c_made (D_plain_asks.cl (ok_asks D_plain_asks T c_kids)))
  have c_isplain : Cl P w K mg base (L2.CX P w) 7 "is_plain" (spIsPl K cs.BadBreaker) := D_is_plain.cl (ok_isPl D_is_plain T c_checkbr c_made)
  have c_attack : Cl P w K mg base (L2.CX P w) 10 "check_attack" (spAttack K cs.BadBlock cs.BadScheme cs.BadBreaker) := D_check_attack.cl (ok_attack D_check_attack T c_goal c_isplain)
  have o_carried := ok_carried (P := P) (w := w) (base := base) D_carried T c_attack c_layers (D_tables_of.cl (ok_tablesA D_tables_of T c_with)) (D_led_to_whole.cl (ok_ledW D_led_to_whole T)) (D_led_down.cl (ok_ledD D_led_down T c_most))
  have c_carried : Cl P w K mg base (L2.CX P w) 11 "carried" (spCarried K cs.BadBlock cs.BadScheme cs.BadBreaker) := D_carried.cl o_carried
  have k_carried : Ck P w K mg base (L2.CX P w) 11 0 "carried" ["breaker", "block", "goal"] (fun _ zs => zs.reverse) (spCarried K cs.BadBlock cs.BadScheme cs.BadBreaker) := ⟨_, _, _, _, o_carried, D_carried.gl, D_carried.fn.kp, kb2 D_carried.fn (fun _ _ _ _ _ _ us ws hu hw => match us, ws, hu, hw with | [], [_, _, _], _, _ => rfl)⟩
  have c_lbits : Cl P w K mg base CX0 1 "_law_bits" spBitsS := D__law_bits.cl (ok_lawbitsS D__law_bits T)
  have c_lnum : Cl P w K mg base CX0 1 "_law_number" spNumber := D__law_number.cl (ok_lawnum D__law_number T)
  have c_layer : Cl P w K mg base CX0 3 "_law_layer" (spLayer K) := D__law_layer.cl (ok_layer D__law_layer T (D__law_longer.cl (ok_lawlong31 D__law_longer T c_lbits c_lnum)) (D__law_tree.cl (ok_lawtree31 D__law_tree T c_lbits c_lnum)))
  have c_scheme : Cl P w K mg base CX0 4 "_law_scheme" (spLScheme32 K) := D__law_scheme.cl (ok_lscheme32 D__law_scheme T (D__law_step.cl (ok_lstep D__law_step T c_take)) c_layer)
  have c_lparts : Cl P w K mg base CX0 2 "_law_parts" (spParts8 K) := D__law_parts.cl (ok_lawparts D__law_parts T c_take)
  have c_lbr : Cl P w K mg base CX0 6 "_law_breaker" (spBr K 3) := D__law_breaker.cl (ok_br D__law_breaker T c_take c_lparts 3)
  have c_lasks : Cl P w K mg base CX0 6 "_law_asks" (spLAsks K 4) := D__law_asks.cl (ok_lasks D__law_asks T 4)
  have c_due : Cl P w K mg base CX0 7 "_law_due" (spLDue K) := D__law_due.cl (ok_ldue D__law_due T c_lasks)
  have c_ref : Cl P w K mg base CX0 12 "_law_refused" (spRef32 K) := D__law_refused.cl (ok_ref32 D__law_refused T c_carried)
  exact ok_law32 F T (D__law_whole.cl (ok_whole32 D__law_whole T (D__law_draws.cl (ok_draws D__law_draws T)) c_take (D__law_block.cl (ok_lblock D__law_block T c_take c_table (D__law_function.cl (ok_function D__law_function T c_string)))) c_scheme
    (D__law_goal.cl (ok_lgoal32 D__law_goal T c_take c_string)) c_lbr c_due c_carried k_carried c_ref))
end
theorem all_mk {l : PySem.W.OpenLaw} {w : World} {K : PySem.W.Frag} {h : Heap} {mg : Str → Option Value} {fa f1 f2 f3 f4 f5 f6 f7 f8 f9 f10 f11 f12 f13 f14 f15 f16 f17 f18 f19 f20 f21 f22 f23 f24 f25 f26 f27 f28 f29 f30 f31 f32 f33 f34 f35 f36 f37 f38 f39 f40 f41 f42 f43 f44 f45 f46 f47 f48 f49 f50 f51 f52 f53 f54 f55 f56 f57 f58 f59 f60 f61 f62 : Addr} (X : K.In h) (G : h.Ns mainGlobals mg) (hfa : mg "law" = some (.ref fa))
    {od1 an1 od2 an2 od3 an3 od4 an4 od5 an5 od6 an6 od7 an7 od8 an8 od9 an9 od10 an10 od11 an11 od12 an12 od13 an13 od14 an14 od15 an15 od16 an16 od17 an17 od18 an18 od19 an19 od20 an20 od21 an21 od22 an22 od23 an23 od24 an24 od25 an25 od26 an26 od27 an27 od28 an28 od29 an29 od30 an30 od31 an31 od32 an32 od33 an33 od34 an34 od35 an35 od36 an36 od37 an37 od38 an38 od39 an39 od40 an40 od41 an41 od42 an42 od43 an43 od44 an44 od45 an45 od46 an46 od47 an47 od48 an48 od49 an49 od50 an50 od51 an51 od52 an52 od53 an53 od54 an54 od55 an55 od56 an56 od57 an57 od58 an58 od59 an59 od60 an60 od61 an61 od62 an62 : Option Addr} {sl1 sl2 sl3 sl4 sl5 sl6 sl7 sl8 sl9 sl10 sl11 sl12 sl13 sl14 sl15 sl16 sl17 sl18 sl19 sl20 sl21 sl22 sl23 sl24 sl25 sl26 sl27 sl28 sl29 sl30 sl31 sl32 sl33 sl34 sl35 sl36 sl37 sl38 sl39 sl40 sl41 sl42 sl43 sl44 sl45 sl46 sl47 sl48 sl49 sl50 sl51 sl52 sl53 sl54 sl55 sl56 sl57 sl58 sl59 sl60 sl61 sl62 : Array (Option Value)} {oc1 kV1 dc1 pm1 cd1 ct1 oc2 kV2 dc2 pm2 cd2 ct2 oc3 kV3 dc3 pm3 cd3 ct3 oc4 kV4 dc4 pm4 cd4 ct4 oc5 kV5 dc5 pm5 cd5 ct5 oc6 kV6 dc6 pm6 cd6 ct6 oc7 kV7 dc7 pm7 cd7 ct7 oc8 kV8 dc8 pm8 cd8 ct8 oc9 kV9 dc9 pm9 cd9 ct9 oc10 kV10 dc10 pm10 cd10 ct10 oc11 kV11 dc11 pm11 cd11 ct11 oc12 kV12 dc12 pm12 cd12 ct12 oc13 kV13 dc13 pm13 cd13 ct13 oc14 kV14 dc14 pm14 cd14 ct14 oc15 kV15 dc15 pm15 cd15 ct15 oc16 kV16 dc16 pm16 cd16 ct16 oc17 kV17 dc17 pm17 cd17 ct17 oc18 kV18 dc18 pm18 cd18 ct18 oc19 kV19 dc19 pm19 cd19 ct19 oc20 kV20 dc20 pm20 cd20 ct20 oc21 kV21 dc21 pm21 cd21 ct21 oc22 kV22 dc22 pm22 cd22 ct22 oc23 kV23 dc23 pm23 cd23 ct23 oc24 kV24 dc24 pm24 cd24 ct24 oc25 kV25 dc25 pm25 cd25 ct25 oc26 kV26 dc26 pm26 cd26 ct26 oc27 kV27 dc27 pm27 cd27 ct27 oc28 kV28 dc28 pm28 cd28 ct28 oc29 kV29 dc29 pm29 cd29 ct29 oc30 kV30 dc30 pm30 cd30 ct30 oc31 kV31 dc31 pm31 cd31 ct31 oc32 kV32 dc32 pm32 cd32 ct32 oc33 kV33 dc33 pm33 cd33 ct33 oc34 kV34 dc34 pm34 cd34 ct34 oc35 kV35 dc35 pm35 cd35 ct35 oc36 kV36 dc36 pm36 cd36 ct36 oc37 kV37 dc37 pm37 cd37 ct37 oc38 kV38 dc38 pm38 cd38 ct38 oc39 kV39 dc39 pm39 cd39 ct39 oc40 kV40 dc40 pm40 cd40 ct40 oc41 kV41 dc41 pm41 cd41 ct41 oc42 kV42 dc42 pm42 cd42 ct42 oc43 kV43 dc43 pm43 cd43 ct43 oc44 kV44 dc44 pm44 cd44 ct44 oc45 kV45 dc45 pm45 cd45 ct45 oc46 kV46 dc46 pm46 cd46 ct46 oc47 kV47 dc47 pm47 cd47 ct47 oc48 kV48 dc48 pm48 cd48 ct48 oc49 kV49 dc49 pm49 cd49 ct49 oc50 kV50 dc50 pm50 cd50 ct50 oc51 kV51 dc51 pm51 cd51 ct51 oc52 kV52 dc52 pm52 cd52 ct52 oc53 kV53 dc53 pm53 cd53 ct53 oc54 kV54 dc54 pm54 cd54 ct54 oc55 kV55 dc55 pm55 cd55 ct55 oc56 kV56 dc56 pm56 cd56 ct56 oc57 kV57 dc57 pm57 cd57 ct57 oc58 kV58 dc58 pm58 cd58 ct58 oc59 kV59 dc59 pm59 cd59 ct59 oc60 kV60 dc60 pm60 cd60 ct60 oc61 kV61 dc61 pm61 cd61 ct61 oc62 kV62 dc62 pm62 cd62 ct62 : Value}
    (a1 : PySem.W.nsIn K mainGlobals "bits" = some (some (.ref f1))) (l1 : K.lookup f1 = some ⟨oc1, od1, .func (PySem.W.fnOf "bits" "bits" (defArgs s_bits) (defBody s_bits) (defScope s_bits) .none kV1 dc1 pm1 an1 cd1 ct1), sl1⟩) (c1 : PySem.W.codeIn K cd1 "bits" = true) (k1 : PySem.W.keepIn K (.ref f1) = true)
    (a2 : PySem.W.nsIn K mainGlobals "all_bits" = some (some (.ref f2))) (l2 : K.lookup f2 = some ⟨oc2, od2, .func (PySem.W.fnOf "all_bits" "all_bits" (defArgs s_all_bits) (defBody s_all_bits) (defScope s_all_bits) .none kV2 dc2 pm2 an2 cd2 ct2), sl2⟩) (c2 : PySem.W.codeIn K cd2 "all_bits" = true) (k2 : PySem.W.keepIn K (.ref f2) = true)
    (a3 : PySem.W.nsIn K mainGlobals "number_of" = some (some (.ref f3))) (l3 : K.lookup f3 = some ⟨oc3, od3, .func (PySem.W.fnOf "number_of" "number_of" (defArgs s_number_of) (defBody s_number_of) (defScope s_number_of) .none kV3 dc3 pm3 an3 cd3 ct3), sl3⟩) (c3 : PySem.W.codeIn K cd3 "number_of" = true) (k3 : PySem.W.keepIn K (.ref f3) = true)
    (a4 : PySem.W.nsIn K mainGlobals "is_whole" = some (some (.ref f4))) (l4 : K.lookup f4 = some ⟨oc4, od4, .func (PySem.W.fnOf "is_whole" "is_whole" (defArgs s_is_whole) (defBody s_is_whole) (defScope s_is_whole) .none kV4 dc4 pm4 an4 cd4 ct4), sl4⟩) (c4 : PySem.W.codeIn K cd4 "is_whole" = true) (k4 : PySem.W.keepIn K (.ref f4) = true)
    (a5 : PySem.W.nsIn K mainGlobals "are_rows" = some (some (.ref f5))) (l5 : K.lookup f5 = some ⟨oc5, od5, .func (PySem.W.fnOf "are_rows" "are_rows" (defArgs s_are_rows) (defBody s_are_rows) (defScope s_are_rows) .none kV5 dc5 pm5 an5 cd5 ct5), sl5⟩) (c5 : PySem.W.codeIn K cd5 "are_rows" = true) (k5 : PySem.W.keepIn K (.ref f5) = true)
    (a6 : PySem.W.nsIn K mainGlobals "is_generator" = some (some (.ref f6))) (l6 : K.lookup f6 = some ⟨oc6, od6, .func (PySem.W.fnOf "is_generator" "is_generator" (defArgs s_is_generator) (defBody s_is_generator) (defScope s_is_generator) .none kV6 dc6 pm6 an6 cd6 ct6), sl6⟩) (c6 : PySem.W.codeIn K cd6 "is_generator" = true) (k6 : PySem.W.keepIn K (.ref f6) = true)
    (a7 : PySem.W.nsIn K mainGlobals "is_function" = some (some (.ref f7))) (l7 : K.lookup f7 = some ⟨oc7, od7, .func (PySem.W.fnOf "is_function" "is_function" (defArgs s_is_function) (defBody s_is_function) (defScope s_is_function) .none kV7 dc7 pm7 an7 cd7 ct7), sl7⟩) (c7 : PySem.W.codeIn K cd7 "is_function" = true) (k7 : PySem.W.keepIn K (.ref f7) = true)
    (a8 : PySem.W.nsIn K mainGlobals "check_block" = some (some (.ref f8))) (l8 : K.lookup f8 = some ⟨oc8, od8, .func (PySem.W.fnOf "check_block" "check_block" (defArgs s_check_block) (defBody s_check_block) (defScope s_check_block) .none kV8 dc8 pm8 an8 cd8 ct8), sl8⟩) (c8 : PySem.W.codeIn K cd8 "check_block" = true) (k8 : PySem.W.keepIn K (.ref f8) = true)
    (a9 : PySem.W.nsIn K mainGlobals "generator_parts" = some (some (.ref f9))) (l9 : K.lookup f9 = some ⟨oc9, od9, .func (PySem.W.fnOf "generator_parts" "generator_parts" (defArgs s_generator_parts) (defBody s_generator_parts) (defScope s_generator_parts) .none kV9 dc9 pm9 an9 cd9 ct9), sl9⟩) (c9 : PySem.W.codeIn K cd9 "generator_parts" = true) (k9 : PySem.W.keepIn K (.ref f9) = true)
    (a10 : PySem.W.nsIn K mainGlobals "function_parts" = some (some (.ref f10))) (l10 : K.lookup f10 = some ⟨oc10, od10, .func (PySem.W.fnOf "function_parts" "function_parts" (defArgs s_function_parts) (defBody s_function_parts) (defScope s_function_parts) .none kV10 dc10 pm10 an10 cd10 ct10), sl10⟩) (c10 : PySem.W.codeIn K cd10 "function_parts" = true) (k10 : PySem.W.keepIn K (.ref f10) = true)
    (a11 : PySem.W.nsIn K mainGlobals "put_out" = some (some (.ref f11))) (l11 : K.lookup f11 = some ⟨oc11, od11, .func (PySem.W.fnOf "put_out" "put_out" (defArgs s_put_out) (defBody s_put_out) (defScope s_put_out) .none kV11 dc11 pm11 an11 cd11 ct11), sl11⟩) (c11 : PySem.W.codeIn K cd11 "put_out" = true) (k11 : PySem.W.keepIn K (.ref f11) = true)
    (a12 : PySem.W.nsIn K mainGlobals "longer" = some (some (.ref f12))) (l12 : K.lookup f12 = some ⟨oc12, od12, .func (PySem.W.fnOf "longer" "longer" (defArgs s_longer) (defBody s_longer) (defScope s_longer) .none kV12 dc12 pm12 an12 cd12 ct12), sl12⟩) (c12 : PySem.W.codeIn K cd12 "longer" = true) (k12 : PySem.W.keepIn K (.ref f12) = true)
    (a13 : PySem.W.nsIn K mainGlobals "go_down" = some (some (.ref f13))) (l13 : K.lookup f13 = some ⟨oc13, od13, .func (PySem.W.fnOf "go_down" "go_down" (defArgs s_go_down) (defBody s_go_down) (defScope s_go_down) .none kV13 dc13 pm13 an13 cd13 ct13), sl13⟩) (c13 : PySem.W.codeIn K cd13 "go_down" = true) (k13 : PySem.W.keepIn K (.ref f13) = true)
    (a14 : PySem.W.nsIn K mainGlobals "tree" = some (some (.ref f14))) (l14 : K.lookup f14 = some ⟨oc14, od14, .func (PySem.W.fnOf "tree" "tree" (defArgs s_tree) (defBody s_tree) (defScope s_tree) .none kV14 dc14 pm14 an14 cd14 ct14), sl14⟩) (c14 : PySem.W.codeIn K cd14 "tree" = true) (k14 : PySem.W.keepIn K (.ref f14) = true)
    (a15 : PySem.W.nsIn K mainGlobals "counter" = some (some (.ref f15))) (l15 : K.lookup f15 = some ⟨oc15, od15, .func (PySem.W.fnOf "counter" "counter" (defArgs s_counter) (defBody s_counter) (defScope s_counter) .none kV15 dc15 pm15 an15 cd15 ct15), sl15⟩) (c15 : PySem.W.codeIn K cd15 "counter" = true) (k15 : PySem.W.keepIn K (.ref f15) = true)
    (a16 : PySem.W.nsIn K mainGlobals "cut" = some (some (.ref f16))) (l16 : K.lookup f16 = some ⟨oc16, od16, .func (PySem.W.fnOf "cut" "cut" (defArgs s_cut) (defBody s_cut) (defScope s_cut) .none kV16 dc16 pm16 an16 cd16 ct16), sl16⟩) (c16 : PySem.W.codeIn K cd16 "cut" = true) (k16 : PySem.W.keepIn K (.ref f16) = true)
    (a17 : PySem.W.nsIn K mainGlobals "are_numbers" = some (some (.ref f17))) (l17 : K.lookup f17 = some ⟨oc17, od17, .func (PySem.W.fnOf "are_numbers" "are_numbers" (defArgs s_are_numbers) (defBody s_are_numbers) (defScope s_are_numbers) .none kV17 dc17 pm17 an17 cd17 ct17), sl17⟩) (c17 : PySem.W.codeIn K cd17 "are_numbers" = true) (k17 : PySem.W.keepIn K (.ref f17) = true)
    (a18 : PySem.W.nsIn K mainGlobals "fits_longer" = some (some (.ref f18))) (l18 : K.lookup f18 = some ⟨oc18, od18, .func (PySem.W.fnOf "fits_longer" "fits_longer" (defArgs s_fits_longer) (defBody s_fits_longer) (defScope s_fits_longer) .none kV18 dc18 pm18 an18 cd18 ct18), sl18⟩) (c18 : PySem.W.codeIn K cd18 "fits_longer" = true) (k18 : PySem.W.keepIn K (.ref f18) = true)
    (a19 : PySem.W.nsIn K mainGlobals "fits_tree" = some (some (.ref f19))) (l19 : K.lookup f19 = some ⟨oc19, od19, .func (PySem.W.fnOf "fits_tree" "fits_tree" (defArgs s_fits_tree) (defBody s_fits_tree) (defScope s_fits_tree) .none kV19 dc19 pm19 an19 cd19 ct19), sl19⟩) (c19 : PySem.W.codeIn K cd19 "fits_tree" = true) (k19 : PySem.W.keepIn K (.ref f19) = true)
    (a20 : PySem.W.nsIn K mainGlobals "fits_opening" = some (some (.ref f20))) (l20 : K.lookup f20 = some ⟨oc20, od20, .func (PySem.W.fnOf "fits_opening" "fits_opening" (defArgs s_fits_opening) (defBody s_fits_opening) (defScope s_fits_opening) .none kV20 dc20 pm20 an20 cd20 ct20), sl20⟩) (c20 : PySem.W.codeIn K cd20 "fits_opening" = true) (k20 : PySem.W.keepIn K (.ref f20) = true)
    (a21 : PySem.W.nsIn K mainGlobals "fits_onetime" = some (some (.ref f21))) (l21 : K.lookup f21 = some ⟨oc21, od21, .func (PySem.W.fnOf "fits_onetime" "fits_onetime" (defArgs s_fits_onetime) (defBody s_fits_onetime) (defScope s_fits_onetime) .none kV21 dc21 pm21 an21 cd21 ct21), sl21⟩) (c21 : PySem.W.codeIn K cd21 "fits_onetime" = true) (k21 : PySem.W.keepIn K (.ref f21) = true)
    (a22 : PySem.W.nsIn K mainGlobals "is_made" = some (some (.ref f22))) (l22 : K.lookup f22 = some ⟨oc22, od22, .func (PySem.W.fnOf "is_made" "is_made" (defArgs s_is_made) (defBody s_is_made) (defScope s_is_made) .none kV22 dc22 pm22 an22 cd22 ct22), sl22⟩) (c22 : PySem.W.codeIn K cd22 "is_made" = true) (k22 : PySem.W.keepIn K (.ref f22) = true)
    (a23 : PySem.W.nsIn K mainGlobals "fits_kind" = some (some (.ref f23))) (l23 : K.lookup f23 = some ⟨oc23, od23, .func (PySem.W.fnOf "fits_kind" "fits_kind" (defArgs s_fits_kind) (defBody s_fits_kind) (defScope s_fits_kind) .none kV23 dc23 pm23 an23 cd23 ct23), sl23⟩) (c23 : PySem.W.codeIn K cd23 "fits_kind" = true) (k23 : PySem.W.keepIn K (.ref f23) = true)
    (a24 : PySem.W.nsIn K mainGlobals "is_part" = some (some (.ref f24))) (l24 : K.lookup f24 = some ⟨oc24, od24, .func (PySem.W.fnOf "is_part" "is_part" (defArgs s_is_part) (defBody s_is_part) (defScope s_is_part) .none kV24 dc24 pm24 an24 cd24 ct24), sl24⟩) (c24 : PySem.W.codeIn K cd24 "is_part" = true) (k24 : PySem.W.keepIn K (.ref f24) = true)
    (a25 : PySem.W.nsIn K mainGlobals "are_parts" = some (some (.ref f25))) (l25 : K.lookup f25 = some ⟨oc25, od25, .func (PySem.W.fnOf "are_parts" "are_parts" (defArgs s_are_parts) (defBody s_are_parts) (defScope s_are_parts) .none kV25 dc25 pm25 an25 cd25 ct25), sl25⟩) (c25 : PySem.W.codeIn K cd25 "are_parts" = true) (k25 : PySem.W.keepIn K (.ref f25) = true)
    (a26 : PySem.W.nsIn K mainGlobals "looks_plain" = some (some (.ref f26))) (l26 : K.lookup f26 = some ⟨oc26, od26, .func (PySem.W.fnOf "looks_plain" "looks_plain" (defArgs s_looks_plain) (defBody s_looks_plain) (defScope s_looks_plain) .none kV26 dc26 pm26 an26 cd26 ct26), sl26⟩) (c26 : PySem.W.codeIn K cd26 "looks_plain" = true) (k26 : PySem.W.keepIn K (.ref f26) = true)
    (a27 : PySem.W.nsIn K mainGlobals "directly_within" = some (some (.ref f27))) (l27 : K.lookup f27 = some ⟨oc27, od27, .func (PySem.W.fnOf "directly_within" "directly_within" (defArgs s_directly_within) (defBody s_directly_within) (defScope s_directly_within) .none kV27 dc27 pm27 an27 cd27 ct27), sl27⟩) (c27 : PySem.W.codeIn K cd27 "directly_within" = true) (k27 : PySem.W.keepIn K (.ref f27) = true)
    (a28 : PySem.W.nsIn K mainGlobals "is_plain_breaker" = some (some (.ref f28))) (l28 : K.lookup f28 = some ⟨oc28, od28, .func (PySem.W.fnOf "is_plain_breaker" "is_plain_breaker" (defArgs s_is_plain_breaker) (defBody s_is_plain_breaker) (defScope s_is_plain_breaker) .none kV28 dc28 pm28 an28 cd28 ct28), sl28⟩) (c28 : PySem.W.codeIn K cd28 "is_plain_breaker" = true) (k28 : PySem.W.keepIn K (.ref f28) = true)
    (a29 : PySem.W.nsIn K mainGlobals "check_breaker" = some (some (.ref f29))) (l29 : K.lookup f29 = some ⟨oc29, od29, .func (PySem.W.fnOf "check_breaker" "check_breaker" (defArgs s_check_breaker) (defBody s_check_breaker) (defScope s_check_breaker) .none kV29 dc29 pm29 an29 cd29 ct29), sl29⟩) (c29 : PySem.W.codeIn K cd29 "check_breaker" = true) (k29 : PySem.W.keepIn K (.ref f29) = true)
    (a30 : PySem.W.nsIn K mainGlobals "is_plain" = some (some (.ref f30))) (l30 : K.lookup f30 = some ⟨oc30, od30, .func (PySem.W.fnOf "is_plain" "is_plain" (defArgs s_is_plain) (defBody s_is_plain) (defScope s_is_plain) .none kV30 dc30 pm30 an30 cd30 ct30), sl30⟩) (c30 : PySem.W.codeIn K cd30 "is_plain" = true) (k30 : PySem.W.keepIn K (.ref f30) = true)
    (a31 : PySem.W.nsIn K mainGlobals "plain_asks" = some (some (.ref f31))) (l31 : K.lookup f31 = some ⟨oc31, od31, .func (PySem.W.fnOf "plain_asks" "plain_asks" (defArgs s_plain_asks) (defBody s_plain_asks) (defScope s_plain_asks) .none kV31 dc31 pm31 an31 cd31 ct31), sl31⟩) (c31 : PySem.W.codeIn K cd31 "plain_asks" = true) (k31 : PySem.W.keepIn K (.ref f31) = true)
    (a32 : PySem.W.nsIn K mainGlobals "most_asks" = some (some (.ref f32))) (l32 : K.lookup f32 = some ⟨oc32, od32, .func (PySem.W.fnOf "most_asks" "most_asks" (defArgs s_most_asks) (defBody s_most_asks) (defScope s_most_asks) .none kV32 dc32 pm32 an32 cd32 ct32), sl32⟩) (c32 : PySem.W.codeIn K cd32 "most_asks" = true) (k32 : PySem.W.keepIn K (.ref f32) = true)
    (a33 : PySem.W.nsIn K mainGlobals "layers_of" = some (some (.ref f33))) (l33 : K.lookup f33 = some ⟨oc33, od33, .func (PySem.W.fnOf "layers_of" "layers_of" (defArgs s_layers_of) (defBody s_layers_of) (defScope s_layers_of) .none kV33 dc33 pm33 an33 cd33 ct33), sl33⟩) (c33 : PySem.W.codeIn K cd33 "layers_of" = true) (k33 : PySem.W.keepIn K (.ref f33) = true)
    (a34 : PySem.W.nsIn K mainGlobals "with_layer" = some (some (.ref f34))) (l34 : K.lookup f34 = some ⟨oc34, od34, .func (PySem.W.fnOf "with_layer" "with_layer" (defArgs s_with_layer) (defBody s_with_layer) (defScope s_with_layer) .none kV34 dc34 pm34 an34 cd34 ct34), sl34⟩) (c34 : PySem.W.codeIn K cd34 "with_layer" = true) (k34 : PySem.W.keepIn K (.ref f34) = true)
    (a35 : PySem.W.nsIn K mainGlobals "tables_of" = some (some (.ref f35))) (l35 : K.lookup f35 = some ⟨oc35, od35, .func (PySem.W.fnOf "tables_of" "tables_of" (defArgs s_tables_of) (defBody s_tables_of) (defScope s_tables_of) .none kV35 dc35 pm35 an35 cd35 ct35), sl35⟩) (c35 : PySem.W.codeIn K cd35 "tables_of" = true) (k35 : PySem.W.keepIn K (.ref f35) = true)
    (a36 : PySem.W.nsIn K mainGlobals "built" = some (some (.ref f36))) (l36 : K.lookup f36 = some ⟨oc36, od36, .func (PySem.W.fnOf "built" "built" (defArgs s_built) (defBody s_built) (defScope s_built) .none kV36 dc36 pm36 an36 cd36 ct36), sl36⟩) (c36 : PySem.W.codeIn K cd36 "built" = true) (k36 : PySem.W.keepIn K (.ref f36) = true)
    (a37 : PySem.W.nsIn K mainGlobals "check_goal" = some (some (.ref f37))) (l37 : K.lookup f37 = some ⟨oc37, od37, .func (PySem.W.fnOf "check_goal" "check_goal" (defArgs s_check_goal) (defBody s_check_goal) (defScope s_check_goal) .none kV37 dc37 pm37 an37 cd37 ct37), sl37⟩) (c37 : PySem.W.codeIn K cd37 "check_goal" = true) (k37 : PySem.W.keepIn K (.ref f37) = true)
    (a38 : PySem.W.nsIn K mainGlobals "check_attack" = some (some (.ref f38))) (l38 : K.lookup f38 = some ⟨oc38, od38, .func (PySem.W.fnOf "check_attack" "check_attack" (defArgs s_check_attack) (defBody s_check_attack) (defScope s_check_attack) .none kV38 dc38 pm38 an38 cd38 ct38), sl38⟩) (c38 : PySem.W.codeIn K cd38 "check_attack" = true) (k38 : PySem.W.keepIn K (.ref f38) = true)
    (a39 : PySem.W.nsIn K mainGlobals "led_to_whole" = some (some (.ref f39))) (l39 : K.lookup f39 = some ⟨oc39, od39, .func (PySem.W.fnOf "led_to_whole" "led_to_whole" (defArgs s_led_to_whole) (defBody s_led_to_whole) (defScope s_led_to_whole) .none kV39 dc39 pm39 an39 cd39 ct39), sl39⟩) (c39 : PySem.W.codeIn K cd39 "led_to_whole" = true) (k39 : PySem.W.keepIn K (.ref f39) = true)
    (a40 : PySem.W.nsIn K mainGlobals "led_down" = some (some (.ref f40))) (l40 : K.lookup f40 = some ⟨oc40, od40, .func (PySem.W.fnOf "led_down" "led_down" (defArgs s_led_down) (defBody s_led_down) (defScope s_led_down) .none kV40 dc40 pm40 an40 cd40 ct40), sl40⟩) (c40 : PySem.W.codeIn K cd40 "led_down" = true) (k40 : PySem.W.keepIn K (.ref f40) = true)
    (a41 : PySem.W.nsIn K mainGlobals "carried" = some (some (.ref f41))) (l41 : K.lookup f41 = some ⟨oc41, od41, .func (PySem.W.fnOf "carried" "carried" (defArgs s_carried) (defBody s_carried) (defScope s_carried) .none kV41 dc41 pm41 an41 cd41 ct41), sl41⟩) (c41 : PySem.W.codeIn K cd41 "carried" = true) (k41 : PySem.W.keepIn K (.ref f41) = true)
    (a42 : PySem.W.nsIn K mainGlobals "_law_draws" = some (some (.ref f42))) (l42 : K.lookup f42 = some ⟨oc42, od42, .func (PySem.W.fnOf "_law_draws" "_law_draws" (defArgs s_law_draws) (defBody s_law_draws) (defScope s_law_draws) .none kV42 dc42 pm42 an42 cd42 ct42), sl42⟩) (c42 : PySem.W.codeIn K cd42 "_law_draws" = true) (k42 : PySem.W.keepIn K (.ref f42) = true)
    (a43 : PySem.W.nsIn K mainGlobals "_law_take" = some (some (.ref f43))) (l43 : K.lookup f43 = some ⟨oc43, od43, .func (PySem.W.fnOf "_law_take" "_law_take" (defArgs s_law_take) (defBody s_law_take) (defScope s_law_take) .none kV43 dc43 pm43 an43 cd43 ct43), sl43⟩) (c43 : PySem.W.codeIn K cd43 "_law_take" = true) (k43 : PySem.W.keepIn K (.ref f43) = true)
    (a44 : PySem.W.nsIn K mainGlobals "_law_string" = some (some (.ref f44))) (l44 : K.lookup f44 = some ⟨oc44, od44, .func (PySem.W.fnOf "_law_string" "_law_string" (defArgs s_law_string) (defBody s_law_string) (defScope s_law_string) .none kV44 dc44 pm44 an44 cd44 ct44), sl44⟩) (c44 : PySem.W.codeIn K cd44 "_law_string" = true) (k44 : PySem.W.keepIn K (.ref f44) = true)
    (a45 : PySem.W.nsIn K mainGlobals "_law_table" = some (some (.ref f45))) (l45 : K.lookup f45 = some ⟨oc45, od45, .func (PySem.W.fnOf "_law_table" "_law_table" (defArgs s_law_table) (defBody s_law_table) (defScope s_law_table) .none kV45 dc45 pm45 an45 cd45 ct45), sl45⟩) (c45 : PySem.W.codeIn K cd45 "_law_table" = true) (k45 : PySem.W.keepIn K (.ref f45) = true)
    (a46 : PySem.W.nsIn K mainGlobals "_law_function" = some (some (.ref f46))) (l46 : K.lookup f46 = some ⟨oc46, od46, .func (PySem.W.fnOf "_law_function" "_law_function" (defArgs s_law_function) (defBody s_law_function) (defScope s_law_function) .none kV46 dc46 pm46 an46 cd46 ct46), sl46⟩) (c46 : PySem.W.codeIn K cd46 "_law_function" = true) (k46 : PySem.W.keepIn K (.ref f46) = true)
    (a47 : PySem.W.nsIn K mainGlobals "_law_bits" = some (some (.ref f47))) (l47 : K.lookup f47 = some ⟨oc47, od47, .func (PySem.W.fnOf "_law_bits" "_law_bits" (defArgs s_law_bits) (defBody s_law_bits) (defScope s_law_bits) .none kV47 dc47 pm47 an47 cd47 ct47), sl47⟩) (c47 : PySem.W.codeIn K cd47 "_law_bits" = true) (k47 : PySem.W.keepIn K (.ref f47) = true)
    (a48 : PySem.W.nsIn K mainGlobals "_law_number" = some (some (.ref f48))) (l48 : K.lookup f48 = some ⟨oc48, od48, .func (PySem.W.fnOf "_law_number" "_law_number" (defArgs s_law_number) (defBody s_law_number) (defScope s_law_number) .none kV48 dc48 pm48 an48 cd48 ct48), sl48⟩) (c48 : PySem.W.codeIn K cd48 "_law_number" = true) (k48 : PySem.W.keepIn K (.ref f48) = true)
    (a49 : PySem.W.nsIn K mainGlobals "_law_longer" = some (some (.ref f49))) (l49 : K.lookup f49 = some ⟨oc49, od49, .func (PySem.W.fnOf "_law_longer" "_law_longer" (defArgs s_law_longer) (defBody s_law_longer) (defScope s_law_longer) .none kV49 dc49 pm49 an49 cd49 ct49), sl49⟩) (c49 : PySem.W.codeIn K cd49 "_law_longer" = true) (k49 : PySem.W.keepIn K (.ref f49) = true)
    (a50 : PySem.W.nsIn K mainGlobals "_law_tree" = some (some (.ref f50))) (l50 : K.lookup f50 = some ⟨oc50, od50, .func (PySem.W.fnOf "_law_tree" "_law_tree" (defArgs s_law_tree) (defBody s_law_tree) (defScope s_law_tree) .none kV50 dc50 pm50 an50 cd50 ct50), sl50⟩) (c50 : PySem.W.codeIn K cd50 "_law_tree" = true) (k50 : PySem.W.keepIn K (.ref f50) = true)
    (a51 : PySem.W.nsIn K mainGlobals "_law_layer" = some (some (.ref f51))) (l51 : K.lookup f51 = some ⟨oc51, od51, .func (PySem.W.fnOf "_law_layer" "_law_layer" (defArgs s_law_layer) (defBody s_law_layer) (defScope s_law_layer) .none kV51 dc51 pm51 an51 cd51 ct51), sl51⟩) (c51 : PySem.W.codeIn K cd51 "_law_layer" = true) (k51 : PySem.W.keepIn K (.ref f51) = true)
    (a52 : PySem.W.nsIn K mainGlobals "_law_block" = some (some (.ref f52))) (l52 : K.lookup f52 = some ⟨oc52, od52, .func (PySem.W.fnOf "_law_block" "_law_block" (defArgs s_law_block) (defBody s_law_block) (defScope s_law_block) .none kV52 dc52 pm52 an52 cd52 ct52), sl52⟩) (c52 : PySem.W.codeIn K cd52 "_law_block" = true) (k52 : PySem.W.keepIn K (.ref f52) = true)
    (a53 : PySem.W.nsIn K mainGlobals "_law_step" = some (some (.ref f53))) (l53 : K.lookup f53 = some ⟨oc53, od53, .func (PySem.W.fnOf "_law_step" "_law_step" (defArgs s_law_step) (defBody s_law_step) (defScope s_law_step) .none kV53 dc53 pm53 an53 cd53 ct53), sl53⟩) (c53 : PySem.W.codeIn K cd53 "_law_step" = true) (k53 : PySem.W.keepIn K (.ref f53) = true)
    (a54 : PySem.W.nsIn K mainGlobals "_law_scheme" = some (some (.ref f54))) (l54 : K.lookup f54 = some ⟨oc54, od54, .func (PySem.W.fnOf "_law_scheme" "_law_scheme" (defArgs s_law_scheme) (defBody s_law_scheme) (defScope s_law_scheme) .none kV54 dc54 pm54 an54 cd54 ct54), sl54⟩) (c54 : PySem.W.codeIn K cd54 "_law_scheme" = true) (k54 : PySem.W.keepIn K (.ref f54) = true)
    (a55 : PySem.W.nsIn K mainGlobals "_law_goal" = some (some (.ref f55))) (l55 : K.lookup f55 = some ⟨oc55, od55, .func (PySem.W.fnOf "_law_goal" "_law_goal" (defArgs s_law_goal) (defBody s_law_goal) (defScope s_law_goal) .none kV55 dc55 pm55 an55 cd55 ct55), sl55⟩) (c55 : PySem.W.codeIn K cd55 "_law_goal" = true) (k55 : PySem.W.keepIn K (.ref f55) = true)
    (a56 : PySem.W.nsIn K mainGlobals "_law_parts" = some (some (.ref f56))) (l56 : K.lookup f56 = some ⟨oc56, od56, .func (PySem.W.fnOf "_law_parts" "_law_parts" (defArgs s_law_parts) (defBody s_law_parts) (defScope s_law_parts) .none kV56 dc56 pm56 an56 cd56 ct56), sl56⟩) (c56 : PySem.W.codeIn K cd56 "_law_parts" = true) (k56 : PySem.W.keepIn K (.ref f56) = true)
    (a57 : PySem.W.nsIn K mainGlobals "_law_breaker" = some (some (.ref f57))) (l57 : K.lookup f57 = some ⟨oc57, od57, .func (PySem.W.fnOf "_law_breaker" "_law_breaker" (defArgs s_law_breaker) (defBody s_law_breaker) (defScope s_law_breaker) .none kV57 dc57 pm57 an57 cd57 ct57), sl57⟩) (c57 : PySem.W.codeIn K cd57 "_law_breaker" = true) (k57 : PySem.W.keepIn K (.ref f57) = true)
    (a58 : PySem.W.nsIn K mainGlobals "_law_asks" = some (some (.ref f58))) (l58 : K.lookup f58 = some ⟨oc58, od58, .func (PySem.W.fnOf "_law_asks" "_law_asks" (defArgs s_law_asks) (defBody s_law_asks) (defScope s_law_asks) .none kV58 dc58 pm58 an58 cd58 ct58), sl58⟩) (c58 : PySem.W.codeIn K cd58 "_law_asks" = true) (k58 : PySem.W.keepIn K (.ref f58) = true)
    (a59 : PySem.W.nsIn K mainGlobals "_law_due" = some (some (.ref f59))) (l59 : K.lookup f59 = some ⟨oc59, od59, .func (PySem.W.fnOf "_law_due" "_law_due" (defArgs s_law_due) (defBody s_law_due) (defScope s_law_due) .none kV59 dc59 pm59 an59 cd59 ct59), sl59⟩) (c59 : PySem.W.codeIn K cd59 "_law_due" = true) (k59 : PySem.W.keepIn K (.ref f59) = true)
    (a60 : PySem.W.nsIn K mainGlobals "_law_refused" = some (some (.ref f60))) (l60 : K.lookup f60 = some ⟨oc60, od60, .func (PySem.W.fnOf "_law_refused" "_law_refused" (defArgs s_law_refused) (defBody s_law_refused) (defScope s_law_refused) .none kV60 dc60 pm60 an60 cd60 ct60), sl60⟩) (c60 : PySem.W.codeIn K cd60 "_law_refused" = true) (k60 : PySem.W.keepIn K (.ref f60) = true)
    (a61 : PySem.W.nsIn K mainGlobals "_law_whole" = some (some (.ref f61))) (l61 : K.lookup f61 = some ⟨oc61, od61, .func (PySem.W.fnOf "_law_whole" "_law_whole" (defArgs s_law_whole) (defBody s_law_whole) (defScope s_law_whole) .none kV61 dc61 pm61 an61 cd61 ct61), sl61⟩) (c61 : PySem.W.codeIn K cd61 "_law_whole" = true) (k61 : PySem.W.keepIn K (.ref f61) = true)
    (a62 : PySem.W.nsIn K mainGlobals "law" = some (some (.ref f62))) (l62 : K.lookup f62 = some ⟨oc62, od62, .func (PySem.W.fnOf "law" "law" (defArgs s_law) (defBody s_law) (defScope s_law) .none kV62 dc62 pm62 an62 cd62 ct62), sl62⟩) (c62 : PySem.W.codeIn K cd62 "law" = true) (k62 : PySem.W.keepIn K (.ref f62) = true)
    (z1 : PySem.W.nsIn K mainGlobals "abs" = some none)
    (z2 : PySem.W.nsIn K mainGlobals "all" = some none)
    (z3 : PySem.W.nsIn K mainGlobals "bool" = some none)
    (z4 : PySem.W.nsIn K mainGlobals "int" = some none)
    (z5 : PySem.W.nsIn K mainGlobals "isinstance" = some none)
    (z6 : PySem.W.nsIn K mainGlobals "len" = some none)
    (z7 : PySem.W.nsIn K mainGlobals "list" = some none)
    (z8 : PySem.W.nsIn K mainGlobals "max" = some none)
    (z9 : PySem.W.nsIn K mainGlobals "min" = some none)
    (z10 : PySem.W.nsIn K mainGlobals "range" = some none)
    (z11 : PySem.W.nsIn K mainGlobals "str" = some none)
    (z12 : PySem.W.nsIn K mainGlobals "sum" = some none)
    (z13 : PySem.W.nsIn K mainGlobals "tuple" = some none)
    (z14 : PySem.W.nsIn K mainGlobals "zip" = some none)
    {tk1 : Tok} (y1 : PySem.W.nsIn K mainGlobals "DEEPEST" = some (some (.int 8 tk1)))
    {tk2 : Tok} (y2 : PySem.W.nsIn K mainGlobals "DEEPEST_MADE" = some (some (.int 20 tk2)))
    {tk3 : Tok} (y3 : PySem.W.nsIn K mainGlobals "DEEPEST_PLAIN" = some (some (.int 60 tk3)))
    {tk4 : Tok} (y4 : PySem.W.nsIn K mainGlobals "LAST_BIT" = some (some (.int 9999 tk4)))
    {tk5 : Tok} (y5 : PySem.W.nsIn K mainGlobals "MOST_BITS" = some (some (.int 40 tk5)))
    {tk6 : Tok} (y6 : PySem.W.nsIn K mainGlobals "MOST_TOSSED" = some (some (.int 64 tk6)))
    {tk7 : Tok} (y7 : PySem.W.nsIn K mainGlobals "MOST_WITHIN" = some (some (.int 2000 tk7)))
    {CBadBlock CBadBreaker CBadScheme CBreakError : Addr}
    {CNUMBERS : Addr} {esNUMBERS : Array DictEntry} {nnNUMBERS : Nat}
    {CFITTING : Addr} {esFITTING : Array DictEntry} {nnFITTING : Nat}
    {hF1 hF2 hF3 hF4 : Int} {tF1 tF2 tF3 tF4 : Tok}
    {CABOUT : Addr} {esABOUT : Array DictEntry} {nnABOUT : Nat}
    {hABOUT0 hABOUT1 hABOUT2 hABOUT3 hABOUT4 hABOUT5 : Int} {tkABOUT0 tvABOUT0 tkABOUT1 tvABOUT1 tkABOUT2 tvABOUT2 tkABOUT3 tvABOUT3 tkABOUT4 tvABOUT4 tkABOUT5 tvABOUT5 : Tok}
    (gBadBlock : PySem.W.nsIn K mainGlobals "BadBlock" = some (some (.ref CBadBlock)))
    (gBadBreaker : PySem.W.nsIn K mainGlobals "BadBreaker" = some (some (.ref CBadBreaker)))
    (gBadScheme : PySem.W.nsIn K mainGlobals "BadScheme" = some (some (.ref CBadScheme)))
    (gBreakError : PySem.W.nsIn K mainGlobals "BreakError" = some (some (.ref CBreakError)))
    (xBadBlock : PySem.W.excIn K CBadBlock [.type "ValueError", .type "Exception", .type "BaseException", .type "object"] "ValueError.__new__" = true)
    (kBadBlock : PySem.W.keepIn K (.ref CBadBlock) = true)
    (bBadBlock : PySem.W.subIn K (.ref CBadBlock) (.type "BaseException") = some true)
    (tBadBlock : PySem.W.typeIn K (.ref CBadBlock) = some (.type "type"))
    (uBadBlock : PySem.W.findIn K (.ref CBadBlock) "__getattribute__" = some (some (.builtin "BaseException.__getattribute__")))
    (vBadBlock : PySem.W.findIn K (.ref CBadBlock) "__getattr__" = some none)
    (hBadBlock : PySem.W.hasDictIn K CBadBlock = true)
    (wBadBlock : PySem.W.findIn K (.ref CBadBlock) "__class__" = some (some (.builtin "object.__class__")))
    (mBadBlock : PySem.W.mroIn K CBadBlock (.type "object") = some true)
    (eBadBlockBadBlock : PySem.W.exmOne K (.ref CBadBlock) (.ref CBadBlock) = some true)
    (kBadBlockBreakError : PySem.W.kitOne K (.ref CBadBlock) (.ref CBreakError) = some true)
    (xBadBreaker : PySem.W.excIn K CBadBreaker [.type "ValueError", .type "Exception", .type "BaseException", .type "object"] "ValueError.__new__" = true)
    (kBadBreaker : PySem.W.keepIn K (.ref CBadBreaker) = true)
    (bBadBreaker : PySem.W.subIn K (.ref CBadBreaker) (.type "BaseException") = some true)
    (tBadBreaker : PySem.W.typeIn K (.ref CBadBreaker) = some (.type "type"))
    (uBadBreaker : PySem.W.findIn K (.ref CBadBreaker) "__getattribute__" = some (some (.builtin "BaseException.__getattribute__")))
    (vBadBreaker : PySem.W.findIn K (.ref CBadBreaker) "__getattr__" = some none)
    (hBadBreaker : PySem.W.hasDictIn K CBadBreaker = true)
    (wBadBreaker : PySem.W.findIn K (.ref CBadBreaker) "__class__" = some (some (.builtin "object.__class__")))
    (mBadBreaker : PySem.W.mroIn K CBadBreaker (.type "object") = some true)
    (eBadBreakerBadBlock : PySem.W.exmOne K (.ref CBadBreaker) (.ref CBadBlock) = some false)
    (eBadBreakerBadScheme : PySem.W.exmOne K (.ref CBadBreaker) (.ref CBadScheme) = some false)
    (eBadBreakerBadBreaker : PySem.W.exmOne K (.ref CBadBreaker) (.ref CBadBreaker) = some true)
    (kBadBreakerBreakError : PySem.W.kitOne K (.ref CBadBreaker) (.ref CBreakError) = some true)
    (xBadScheme : PySem.W.excIn K CBadScheme [.type "ValueError", .type "Exception", .type "BaseException", .type "object"] "ValueError.__new__" = true)
    (kBadScheme : PySem.W.keepIn K (.ref CBadScheme) = true)
    (bBadScheme : PySem.W.subIn K (.ref CBadScheme) (.type "BaseException") = some true)
    (tBadScheme : PySem.W.typeIn K (.ref CBadScheme) = some (.type "type"))
    (uBadScheme : PySem.W.findIn K (.ref CBadScheme) "__getattribute__" = some (some (.builtin "BaseException.__getattribute__")))
    (vBadScheme : PySem.W.findIn K (.ref CBadScheme) "__getattr__" = some none)
    (hBadScheme : PySem.W.hasDictIn K CBadScheme = true)
    (wBadScheme : PySem.W.findIn K (.ref CBadScheme) "__class__" = some (some (.builtin "object.__class__")))
    (mBadScheme : PySem.W.mroIn K CBadScheme (.type "object") = some true)
    (eBadSchemeBadBlock : PySem.W.exmOne K (.ref CBadScheme) (.ref CBadBlock) = some false)
    (eBadSchemeBadScheme : PySem.W.exmOne K (.ref CBadScheme) (.ref CBadScheme) = some true)
    (kBadSchemeBreakError : PySem.W.kitOne K (.ref CBadScheme) (.ref CBreakError) = some true)
    (sp1 : PySem.W.specialIn K (.builtin "object.__class__") "__get__" = some (some (.builtin "getset_descriptor.__get__")))
    (tk1 : PySem.W.takesIn K (.builtin "object.__class__") = some true)
    (gNUMBERS : PySem.W.nsIn K mainGlobals "NUMBERS" = some (some (.ref CNUMBERS)))
    (lNUMBERS : K.lookup CNUMBERS = some ⟨.type "dict", none, .dict esNUMBERS nnNUMBERS, #[]⟩)
    (qNUMBERS : PySem.W.KeysLit w.params esNUMBERS.toList)
    (loNUMBERS : (CNUMBERS == sysModules) = false)
    (rNUMBERS : numB K esNUMBERS.toList numK = true)
    (gFITTING : PySem.W.nsIn K mainGlobals "FITTING" = some (some (.ref CFITTING)))
    (lFITTING : K.lookup CFITTING = some ⟨.type "dict", none, .dict esFITTING nnFITTING, #[]⟩)
    (qFITTING : PySem.W.KeysLit w.params esFITTING.toList)
    (loFITTING : (CFITTING == sysModules) = false)
    (rFITTING : esFITTING.toList = [⟨hF1, .str "longer" tF1, .ref f18⟩, ⟨hF2, .str "tree" tF2, .ref f19⟩, ⟨hF3, .str "opening" tF3, .ref f20⟩, ⟨hF4, .str "onetime" tF4, .ref f21⟩])
    (gABOUT : PySem.W.nsIn K mainGlobals "ABOUT" = some (some (.ref CABOUT)))
    (lABOUT : K.lookup CABOUT = some ⟨.type "dict", none, .dict esABOUT nnABOUT, #[]⟩)
    (qABOUT : PySem.W.KeysLit w.params esABOUT.toList)
    (loABOUT : (CABOUT == sysModules) = false)
    (rABOUT : esABOUT.toList = [⟨hABOUT0, .str "tell" tkABOUT0, .str "any" tvABOUT0⟩, ⟨hABOUT1, .str "marks" tkABOUT1, .str "function" tvABOUT1⟩, ⟨hABOUT2, .str "secrets" tkABOUT2, .str "function" tvABOUT2⟩, ⟨hABOUT3, .str "once" tkABOUT3, .str "generator" tvABOUT3⟩, ⟨hABOUT4, .str "opening" tkABOUT4, .str "generator" tvABOUT4⟩, ⟨hABOUT5, .str "next" tkABOUT5, .str "generator" tvABOUT5⟩]) :
    ∃ fd : FuncData, (∀ (s : Shared) (v : Value), BindsTo s fd ⟨[v], []⟩ [("script", v)]) ∧ ∀ base : Heap, K.In base → base.Ns mainGlobals mg → FnOk l.prog w K mg base CX0 top_level fa fd ["script"] (spLaw K) := by
  have e := hfa.symm.trans (PySem.W.mg_of X G a62)
  cases e
  have T : Txt K w mg ⟨CBadBlock, CBadBreaker, CBadScheme, CBreakError, CNUMBERS, CFITTING, CABOUT⟩ := { n_abs := PySem.W.mg_none_of X G z1, n_all := PySem.W.mg_none_of X G z2, n_bool := PySem.W.mg_none_of X G z3, n_int := PySem.W.mg_none_of X G z4, n_isinstance := PySem.W.mg_none_of X G z5, n_len := PySem.W.mg_none_of X G z6, n_list := PySem.W.mg_none_of X G z7, n_max := PySem.W.mg_none_of X G z8, n_min := PySem.W.mg_none_of X G z9, n_range := PySem.W.mg_none_of X G z10, n_str := PySem.W.mg_none_of X G z11, n_sum := PySem.W.mg_none_of X G z12, n_tuple := PySem.W.mg_none_of X G z13, n_zip := PySem.W.mg_none_of X G z14, g_DEEPEST := ⟨_, PySem.W.mg_of X G y1, ⟨_, rfl⟩⟩, g_DEEPEST_MADE := ⟨_, PySem.W.mg_of X G y2, ⟨_, rfl⟩⟩, g_DEEPEST_PLAIN := ⟨_, PySem.W.mg_of X G y3, ⟨_, rfl⟩⟩, g_LAST_BIT := ⟨_, PySem.W.mg_of X G y4, ⟨_, rfl⟩⟩, g_MOST_BITS := ⟨_, PySem.W.mg_of X G y5, ⟨_, rfl⟩⟩, g_MOST_TOSSED := ⟨_, PySem.W.mg_of X G y6, ⟨_, rfl⟩⟩, g_MOST_WITHIN := ⟨_, PySem.W.mg_of X G y7, ⟨_, rfl⟩⟩, gl_BadBlock := PySem.W.mg_of X G gBadBlock, gl_BadBreaker := PySem.W.mg_of X G gBadBreaker, gl_BadScheme := PySem.W.mg_of X G gBadScheme, gl_BreakError := PySem.W.mg_of X G gBreakError, gl_NUMBERS := PySem.W.mg_of X G gNUMBERS, gl_FITTING := PySem.W.mg_of X G gFITTING, gl_ABOUT := PySem.W.mg_of X G gABOUT, dk_ABOUT := ⟨⟨_, _, ⟨lABOUT, qABOUT, loABOUT⟩, (by rw [rABOUT]; exact .cons rfl ⟨_, _, by simp, rfl⟩ (.cons rfl ⟨_, _, by simp, rfl⟩ (.cons rfl ⟨_, _, by simp, rfl⟩ (.cons rfl ⟨_, _, by simp, rfl⟩ (.cons rfl ⟨_, _, by simp, rfl⟩ (.cons rfl ⟨_, _, by simp, rfl⟩ (.nil)))))))⟩, txt_has⟩, dk_NUMBERS := ⟨⟨_, _, ⟨lNUMBERS, qNUMBERS, loNUMBERS⟩, numB_ok rNUMBERS⟩, num_has⟩, dk_FITTING := ⟨⟨_, _, ⟨lFITTING, qFITTING, loFITTING⟩, fitB_ok rFITTING (PySem.W.mg_of X G a18) (PySem.W.mg_of X G a19) (PySem.W.mg_of X G a20) (PySem.W.mg_of X G a21)⟩, fit_has⟩, x_BadBlock := ⟨xBadBlock, PySem.W.mg_of X G gBadBlock, kBadBlock, bBadBlock, tBadBlock⟩, e_BadBlock := ⟨uBadBlock, vBadBlock, bBadBlock, hBadBlock, wBadBlock, sp1, tk1, mBadBlock⟩, exm_BadBlock_BadBlock := eBadBlockBadBlock, kit_BadBlock_BreakError := kBadBlockBreakError, x_BadBreaker := ⟨xBadBreaker, PySem.W.mg_of X G gBadBreaker, kBadBreaker, bBadBreaker, tBadBreaker⟩, e_BadBreaker := ⟨uBadBreaker, vBadBreaker, bBadBreaker, hBadBreaker, wBadBreaker, sp1, tk1, mBadBreaker⟩, exm_BadBreaker_BadBlock := eBadBreakerBadBlock, exm_BadBreaker_BadScheme := eBadBreakerBadScheme, exm_BadBreaker_BadBreaker := eBadBreakerBadBreaker, kit_BadBreaker_BreakError := kBadBreakerBreakError, x_BadScheme := ⟨xBadScheme, PySem.W.mg_of X G gBadScheme, kBadScheme, bBadScheme, tBadScheme⟩, e_BadScheme := ⟨uBadScheme, vBadScheme, bBadScheme, hBadScheme, wBadScheme, sp1, tk1, mBadScheme⟩, exm_BadScheme_BadBlock := eBadSchemeBadBlock, exm_BadScheme_BadScheme := eBadSchemeBadScheme, kit_BadScheme_BreakError := kBadSchemeBreakError }
  have F1 := fun_mk (st := s_bits) l1 c1 k1
  have b1 := F1.binds (ps := ["length", "number"]) fun _ _ _ _ _ _ us hl => match us, hl with | [_, _], _ => rfl
  have F2 := fun_mk (st := s_all_bits) l2 c2 k2
  have b2 := F2.binds (ps := ["length"]) fun _ _ _ _ _ _ us hl => match us, hl with | [_], _ => rfl
  have F3 := fun_mk (st := s_number_of) l3 c3 k3
  have b3 := F3.binds (ps := ["string"]) fun _ _ _ _ _ _ us hl => match us, hl with | [_], _ => rfl
  have F4 := fun_mk (st := s_is_whole) l4 c4 k4
  have b4 := F4.binds (ps := ["value", "low", "high"]) fun _ _ _ _ _ _ us hl => match us, hl with | [_, _, _], _ => rfl
  have F5 := fun_mk (st := s_are_rows) l5 c5 k5
  have b5 := F5.binds (ps := ["value", "many", "m"]) fun _ _ _ _ _ _ us hl => match us, hl with | [_, _, _], _ => rfl
  have F6 := fun_mk (st := s_is_generator) l6 c6 k6
  have b6 := F6.binds (ps := ["value"]) fun _ _ _ _ _ _ us hl => match us, hl with | [_], _ => rfl
  have F7 := fun_mk (st := s_is_function) l7 c7 k7
  have b7 := F7.binds (ps := ["value"]) fun _ _ _ _ _ _ us hl => match us, hl with | [_], _ => rfl
  have F8 := fun_mk (st := s_check_block) l8 c8 k8
  have b8 := F8.binds (ps := ["block"]) fun _ _ _ _ _ _ us hl => match us, hl with | [_], _ => rfl
  have F9 := fun_mk (st := s_generator_parts) l9 c9 k9
  have b9 := F9.binds (ps := ["block"]) fun _ _ _ _ _ _ us hl => match us, hl with | [_], _ => rfl
  have F10 := fun_mk (st := s_function_parts) l10 c10 k10
  have b10 := F10.binds (ps := ["block"]) fun _ _ _ _ _ _ us hl => match us, hl with | [_], _ => rfl
  have F11 := fun_mk (st := s_put_out) l11 c11 k11
  have b11 := F11.binds (ps := ["rows", "state", "k"]) fun _ _ _ _ _ _ us hl => match us, hl with | [_, _, _], _ => rfl
  have F12 := fun_mk (st := s_longer) l12 c12 k12
  have b12 := F12.binds (ps := ["block", "k"]) fun _ _ _ _ _ _ us hl => match us, hl with | [_, _], _ => rfl
  have F13 := fun_mk (st := s_go_down) l13 c13 k13
  have b13 := F13.binds (ps := ["rows", "label", "path"]) fun _ _ _ _ _ _ us hl => match us, hl with | [_, _, _], _ => rfl
  have F14 := fun_mk (st := s_tree) l14 c14 k14
  have b14 := F14.binds (ps := ["block", "d"]) fun _ _ _ _ _ _ us hl => match us, hl with | [_, _], _ => rfl
  have F15 := fun_mk (st := s_counter) l15 c15 k15
  have b15 := F15.binds (ps := ["block", "c"]) fun _ _ _ _ _ _ us hl => match us, hl with | [_, _], _ => rfl
  have F16 := fun_mk (st := s_cut) l16 c16 k16
  have b16 := F16.binds (ps := ["block", "b"]) fun _ _ _ _ _ _ us hl => match us, hl with | [_, _], _ => rfl
  have F17 := fun_mk (st := s_are_numbers) l17 c17 k17
  have b17 := F17.binds (ps := ["own", "bounds"]) fun _ _ _ _ _ _ us hl => match us, hl with | [_, _], _ => rfl
  have F18 := fun_mk (st := s_fits_longer) l18 c18 k18
  have b18 := F18.binds (ps := ["own"]) fun _ _ _ _ _ _ us hl => match us, hl with | [_], _ => rfl
  have F19 := fun_mk (st := s_fits_tree) l19 c19 k19
  have b19 := F19.binds (ps := ["own"]) fun _ _ _ _ _ _ us hl => match us, hl with | [_], _ => rfl
  have F20 := fun_mk (st := s_fits_opening) l20 c20 k20
  have b20 := F20.binds (ps := ["own"]) fun _ _ _ _ _ _ us hl => match us, hl with | [_], _ => rfl
  have F21 := fun_mk (st := s_fits_onetime) l21 c21 k21
  have b21 := F21.binds (ps := ["own"]) fun _ _ _ _ _ _ us hl => match us, hl with | [_], _ => rfl
  have F22 := fun_mk (st := s_is_made) l22 c22 k22
  have b22 := F22.binds (ps := ["value"]) fun _ _ _ _ _ _ us hl => match us, hl with | [_], _ => rfl
  have F23 := fun_mk (st := s_fits_kind) l23 c23 k23
  have b23 := F23.binds (ps := ["made"]) fun _ _ _ _ _ _ us hl => match us, hl with | [_], _ => rfl
  have F24 := fun_mk (st := s_is_part) l24 c24 k24
  have b24 := F24.binds (ps := ["value"]) fun _ _ _ _ _ _ us hl => match us, hl with | [_], _ => rfl
  have F25 := fun_mk (st := s_are_parts) l25 c25 k25
  have b25 := F25.binds (ps := ["value"]) fun _ _ _ _ _ _ us hl => match us, hl with | [_], _ => rfl
  have F26 := fun_mk (st := s_looks_plain) l26 c26 k26
  have b26 := F26.binds (ps := ["value"]) fun _ _ _ _ _ _ us hl => match us, hl with | [_], _ => rfl
  have F27 := fun_mk (st := s_directly_within) l27 c27 k27
  have b27 := F27.binds (ps := ["plain"]) fun _ _ _ _ _ _ us hl => match us, hl with | [_], _ => rfl
  have F28 := fun_mk (st := s_is_plain_breaker) l28 c28 k28
  have b28 := F28.binds (ps := ["value"]) fun _ _ _ _ _ _ us hl => match us, hl with | [_], _ => rfl
  have F29 := fun_mk (st := s_check_breaker) l29 c29 k29
  have b29 := F29.binds (ps := ["breaker"]) fun _ _ _ _ _ _ us hl => match us, hl with | [_], _ => rfl
  have F30 := fun_mk (st := s_is_plain) l30 c30 k30
  have b30 := F30.binds (ps := ["breaker"]) fun _ _ _ _ _ _ us hl => match us, hl with | [_], _ => rfl
  have F31 := fun_mk (st := s_plain_asks) l31 c31 k31
  have b31 := F31.binds (ps := ["breaker"]) fun _ _ _ _ _ _ us hl => match us, hl with | [_], _ => rfl
  have F32 := fun_mk (st := s_most_asks) l32 c32 k32
  have b32 := F32.binds (ps := ["breaker"]) fun _ _ _ _ _ _ us hl => match us, hl with | [_], _ => rfl
  have F33 := fun_mk (st := s_layers_of) l33 c33 k33
  have b33 := F33.binds (ps := ["scheme"]) fun _ _ _ _ _ _ us hl => match us, hl with | [_], _ => rfl
  have F34 := fun_mk (st := s_with_layer) l34 c34 k34
  have b34 := F34.binds (ps := ["name", "number", "block"]) fun _ _ _ _ _ _ us hl => match us, hl with | [_, _, _], _ => rfl
  have F35 := fun_mk (st := s_tables_of) l35 c35 k35
  have b35 := F35.binds (ps := ["layers", "block"]) fun _ _ _ _ _ _ us hl => match us, hl with | [_, _], _ => rfl
  have F36 := fun_mk (st := s_built) l36 c36 k36
  have b36 := F36.binds (ps := ["scheme", "block"]) fun _ _ _ _ _ _ us hl => match us, hl with | [_, _], _ => rfl
  have F37 := fun_mk (st := s_check_goal) l37 c37 k37
  have b37 := F37.binds (ps := ["goal", "block"]) fun _ _ _ _ _ _ us hl => match us, hl with | [_, _], _ => rfl
  have F38 := fun_mk (st := s_check_attack) l38 c38 k38
  have b38 := F38.binds (ps := ["goal", "block", "breaker"]) fun _ _ _ _ _ _ us hl => match us, hl with | [_, _, _], _ => rfl
  have F39 := fun_mk (st := s_led_to_whole) l39 c39 k39
  have b39 := F39.binds (ps := ["goal", "whole", "breaker"]) fun _ _ _ _ _ _ us hl => match us, hl with | [_, _, _], _ => rfl
  have F40 := fun_mk (st := s_led_down) l40 c40 k40
  have b40 := F40.binds (ps := ["name", "number", "table", "breaker"]) fun _ _ _ _ _ _ us hl => match us, hl with | [_, _, _, _], _ => rfl
  have F41 := fun_mk (st := s_carried) l41 c41 k41
  have b41 := F41.binds (ps := ["goal", "block", "breaker"]) fun _ _ _ _ _ _ us hl => match us, hl with | [_, _, _], _ => rfl
  have F42 := fun_mk (st := s_law_draws) l42 c42 k42
  have b42 := F42.binds (ps := ["script", "many"]) fun _ _ _ _ _ _ us hl => match us, hl with | [_, _], _ => rfl
  have F43 := fun_mk (st := s_law_take) l43 c43 k43
  have b43 := F43.binds (ps := ["hand", "many"]) fun _ _ _ _ _ _ us hl => match us, hl with | [_, _], _ => rfl
  have F44 := fun_mk (st := s_law_string) l44 c44 k44
  have b44 := F44.binds (ps := ["hand", "length"]) fun _ _ _ _ _ _ us hl => match us, hl with | [_, _], _ => rfl
  have F45 := fun_mk (st := s_law_table) l45 c45 k45
  have b45 := F45.binds (ps := ["hand", "n", "m"]) fun _ _ _ _ _ _ us hl => match us, hl with | [_, _, _], _ => rfl
  have F46 := fun_mk (st := s_law_function) l46 c46 k46
  have b46 := F46.binds (ps := ["hand", "n", "l", "m"]) fun _ _ _ _ _ _ us hl => match us, hl with | [_, _, _, _], _ => rfl
  have F47 := fun_mk (st := s_law_bits) l47 c47 k47
  have b47 := F47.binds (ps := ["length", "number"]) fun _ _ _ _ _ _ us hl => match us, hl with | [_, _], _ => rfl
  have F48 := fun_mk (st := s_law_number) l48 c48 k48
  have b48 := F48.binds (ps := ["string"]) fun _ _ _ _ _ _ us hl => match us, hl with | [_], _ => rfl
  have F49 := fun_mk (st := s_law_longer) l49 c49 k49
  have b49 := F49.binds (ps := ["table", "k"]) fun _ _ _ _ _ _ us hl => match us, hl with | [_, _], _ => rfl
  have F50 := fun_mk (st := s_law_tree) l50 c50 k50
  have b50 := F50.binds (ps := ["table", "d"]) fun _ _ _ _ _ _ us hl => match us, hl with | [_, _], _ => rfl
  have F51 := fun_mk (st := s_law_layer) l51 c51 k51
  have b51 := F51.binds (ps := ["name", "number", "table"]) fun _ _ _ _ _ _ us hl => match us, hl with | [_, _, _], _ => rfl
  have F52 := fun_mk (st := s_law_block) l52 c52 k52
  have b52 := F52.binds (ps := ["hand"]) fun _ _ _ _ _ _ us hl => match us, hl with | [_], _ => rfl
  have F53 := fun_mk (st := s_law_step) l53 c53 k53
  have b53 := F53.binds (ps := ["hand", "table"]) fun _ _ _ _ _ _ us hl => match us, hl with | [_, _], _ => rfl
  have F54 := fun_mk (st := s_law_scheme) l54 c54 k54
  have b54 := F54.binds (ps := ["hand", "block", "many"]) fun _ _ _ _ _ _ us hl => match us, hl with | [_, _, _], _ => rfl
  have F55 := fun_mk (st := s_law_goal) l55 c55 k55
  have b55 := F55.binds (ps := ["hand", "scheme", "table"]) fun _ _ _ _ _ _ us hl => match us, hl with | [_, _, _], _ => rfl
  have F56 := fun_mk (st := s_law_parts) l56 c56 k56
  have b56 := F56.binds (ps := ["hand", "length"]) fun _ _ _ _ _ _ us hl => match us, hl with | [_, _], _ => rfl
  have F57 := fun_mk (st := s_law_breaker) l57 c57 k57
  have b57 := F57.binds (ps := ["hand", "depth", "asks", "length", "said"]) fun _ _ _ _ _ _ us hl => match us, hl with | [_, _, _, _, _], _ => rfl
  have F58 := fun_mk (st := s_law_asks) l58 c58 k58
  have b58 := F58.binds (ps := ["breaker"]) fun _ _ _ _ _ _ us hl => match us, hl with | [_], _ => rfl
  have F59 := fun_mk (st := s_law_due) l59 c59 k59
  have b59 := F59.binds (ps := ["goal", "table", "layers", "breaker"]) fun _ _ _ _ _ _ us hl => match us, hl with | [_, _, _, _], _ => rfl
  have F60 := fun_mk (st := s_law_refused) l60 c60 k60
  have b60 := F60.binds (ps := ["goal", "block", "breaker"]) fun _ _ _ _ _ _ us hl => match us, hl with | [_, _, _], _ => rfl
  have F61 := fun_mk (st := s_law_whole) l61 c61 k61
  have b61 := F61.binds (ps := ["script"]) fun _ _ _ _ _ _ us hl => match us, hl with | [_], _ => rfl
  have F62 := fun_mk (st := s_law) l62 c62 k62
  have b62 := F62.binds (ps := ["script"]) fun _ _ _ _ _ _ us hl => match us, hl with | [_], _ => rfl
  refine ⟨PySem.W.fnOf "law" "law" (defArgs s_law) (defBody s_law) (defScope s_law) .none kV62 dc62 pm62 an62 cd62 ct62, fun s v => .of_eq rfl, fun base _ _ => ?_⟩
  exact mk_law T ⟨F1, b1, PySem.W.mg_of X G a1⟩ ⟨F2, b2, PySem.W.mg_of X G a2⟩ ⟨F3, b3, PySem.W.mg_of X G a3⟩ ⟨F4, b4, PySem.W.mg_of X G a4⟩ ⟨F5, b5, PySem.W.mg_of X G a5⟩ ⟨F6, b6, PySem.W.mg_of X G a6⟩ ⟨F7, b7, PySem.W.mg_of X G a7⟩ ⟨F8, b8, PySem.W.mg_of X G a8⟩ ⟨F9, b9, PySem.W.mg_of X G a9⟩ ⟨F10, b10, PySem.W.mg_of X G a10⟩ ⟨F11, b11, PySem.W.mg_of X G a11⟩ ⟨F12, b12, PySem.W.mg_of X G a12⟩ ⟨F13, b13, PySem.W.mg_of X G a13⟩ ⟨F14, b14, PySem.W.mg_of X G a14⟩ ⟨F15, b15, PySem.W.mg_of X G a15⟩ ⟨F16, b16, PySem.W.mg_of X G a16⟩ ⟨F17, b17, PySem.W.mg_of X G a17⟩ ⟨F18, b18, PySem.W.mg_of X G a18⟩ ⟨F19, b19, PySem.W.mg_of X G a19⟩ ⟨F20, b20, PySem.W.mg_of X G a20⟩ ⟨F21, b21, PySem.W.mg_of X G a21⟩ ⟨F22, b22, PySem.W.mg_of X G a22⟩ ⟨F23, b23, PySem.W.mg_of X G a23⟩ ⟨F24, b24, PySem.W.mg_of X G a24⟩ ⟨F25, b25, PySem.W.mg_of X G a25⟩ ⟨F26, b26, PySem.W.mg_of X G a26⟩ ⟨F27, b27, PySem.W.mg_of X G a27⟩ ⟨F28, b28, PySem.W.mg_of X G a28⟩ ⟨F29, b29, PySem.W.mg_of X G a29⟩ ⟨F30, b30, PySem.W.mg_of X G a30⟩ ⟨F31, b31, PySem.W.mg_of X G a31⟩ ⟨F32, b32, PySem.W.mg_of X G a32⟩ ⟨F33, b33, PySem.W.mg_of X G a33⟩ ⟨F34, b34, PySem.W.mg_of X G a34⟩ ⟨F35, b35, PySem.W.mg_of X G a35⟩ ⟨F36, b36, PySem.W.mg_of X G a36⟩ ⟨F37, b37, PySem.W.mg_of X G a37⟩ ⟨F38, b38, PySem.W.mg_of X G a38⟩ ⟨F39, b39, PySem.W.mg_of X G a39⟩ ⟨F40, b40, PySem.W.mg_of X G a40⟩ ⟨F41, b41, PySem.W.mg_of X G a41⟩ ⟨F42, b42, PySem.W.mg_of X G a42⟩ ⟨F43, b43, PySem.W.mg_of X G a43⟩ ⟨F44, b44, PySem.W.mg_of X G a44⟩ ⟨F45, b45, PySem.W.mg_of X G a45⟩ ⟨F46, b46, PySem.W.mg_of X G a46⟩ ⟨F47, b47, PySem.W.mg_of X G a47⟩ ⟨F48, b48, PySem.W.mg_of X G a48⟩ ⟨F49, b49, PySem.W.mg_of X G a49⟩ ⟨F50, b50, PySem.W.mg_of X G a50⟩ ⟨F51, b51, PySem.W.mg_of X G a51⟩ ⟨F52, b52, PySem.W.mg_of X G a52⟩ ⟨F53, b53, PySem.W.mg_of X G a53⟩ ⟨F54, b54, PySem.W.mg_of X G a54⟩ ⟨F55, b55, PySem.W.mg_of X G a55⟩ ⟨F56, b56, PySem.W.mg_of X G a56⟩ ⟨F57, b57, PySem.W.mg_of X G a57⟩ ⟨F58, b58, PySem.W.mg_of X G a58⟩ ⟨F59, b59, PySem.W.mg_of X G a59⟩ ⟨F60, b60, PySem.W.mg_of X G a60⟩ ⟨F61, b61, PySem.W.mg_of X G a61⟩ F62
end My
open PySem PySem.W PyProof.Rows
set_option maxRecDepth 100000 in
set_option maxHeartbeats 0 in
theorem PySem.Challenge.cw_breakback_k32_carried_shape_holds : PySem.Challenge.rw_breakback_k32_carried_shape.Holds := by
  w_on; o_law; k_head; (case hw => w_witness2)
  k_fill
  refine L2.walk_of (l := PySem.Challenge.rw_breakback_k32_carried_shape) (n := 63) (k := My.top_level) (x := "script") (CX := fun _ => L2.CX0) (sp := fun w => My.spLaw _) rfl (by decide) rfl ⟨rfl, by decide, by decide⟩ (fun w h Y => PySem.W.kIn_of Y) ?F (fun _ _ a ns hl _ hS => ⟨a, ns, rfl, hS, hl, fun _ => rfl⟩) (fun _ _ _ _ _ h => h)
  case F =>
    intro w mg fa h KX G hmg
    refine' My.all_mk KX G hmg ?a1 ?l1 ?c1 ?k1 ?a2 ?l2 ?c2 ?k2 ?a3 ?l3 ?c3 ?k3 ?a4 ?l4 ?c4 ?k4 ?a5 ?l5 ?c5 ?k5 ?a6 ?l6 ?c6 ?k6 ?a7 ?l7 ?c7 ?k7 ?a8 ?l8 ?c8 ?k8 ?a9 ?l9 ?c9 ?k9 ?a10 ?l10 ?c10 ?k10 ?a11 ?l11 ?c11 ?k11 ?a12 ?l12 ?c12 ?k12 ?a13 ?l13 ?c13 ?k13 ?a14 ?l14 ?c14 ?k14 ?a15 ?l15 ?c15 ?k15 ?a16 ?l16 ?c16 ?k16 ?a17 ?l17 ?c17 ?k17 ?a18 ?l18 ?c18 ?k18 ?a19 ?l19 ?c19 ?k19 ?a20 ?l20 ?c20 ?k20 ?a21 ?l21 ?c21 ?k21 ?a22 ?l22 ?c22 ?k22 ?a23 ?l23 ?c23 ?k23 ?a24 ?l24 ?c24 ?k24 ?a25 ?l25 ?c25 ?k25 ?a26 ?l26 ?c26 ?k26 ?a27 ?l27 ?c27 ?k27 ?a28 ?l28 ?c28 ?k28 ?a29 ?l29 ?c29 ?k29 ?a30 ?l30 ?c30 ?k30 ?a31 ?l31 ?c31 ?k31 ?a32 ?l32 ?c32 ?k32 ?a33 ?l33 ?c33 ?k33 ?a34 ?l34 ?c34 ?k34 ?a35 ?l35 ?c35 ?k35 ?a36 ?l36 ?c36 ?k36 ?a37 ?l37 ?c37 ?k37 ?a38 ?l38 ?c38 ?k38 ?a39 ?l39 ?c39 ?k39 ?a40 ?l40 ?c40 ?k40 ?a41 ?l41 ?c41 ?k41 ?a42 ?l42 ?c42 ?k42 ?a43 ?l43 ?c43 ?k43 ?a44 ?l44 ?c44 ?k44 ?a45 ?l45 ?c45 ?k45 ?a46 ?l46 ?c46 ?k46 ?a47 ?l47 ?c47 ?k47 ?a48 ?l48 ?c48 ?k48 ?a49 ?l49 ?c49 ?k49 ?a50 ?l50 ?c50 ?k50 ?a51 ?l51 ?c51 ?k51 ?a52 ?l52 ?c52 ?k52 ?a53 ?l53 ?c53 ?k53 ?a54 ?l54 ?c54 ?k54 ?a55 ?l55 ?c55 ?k55 ?a56 ?l56 ?c56 ?k56 ?a57 ?l57 ?c57 ?k57 ?a58 ?l58 ?c58 ?k58 ?a59 ?l59 ?c59 ?k59 ?a60 ?l60 ?c60 ?k60 ?a61 ?l61 ?c61 ?k61 ?a62 ?l62 ?c62 ?k62 ?z1 ?z2 ?z3 ?z4 ?z5 ?z6 ?z7 ?z8 ?z9 ?z10 ?z11 ?z12 ?z13 ?z14 ?y1 ?y2 ?y3 ?y4 ?y5 ?y6 ?y7 ?gBadBlock ?gBadBreaker ?gBadScheme ?gBreakError ?xBadBlock ?kBadBlock ?bBadBlock ?tBadBlock ?uBadBlock ?vBadBlock ?hBadBlock ?wBadBlock ?mBadBlock ?eBadBlockBadBlock ?kBadBlockBreakError ?xBadBreaker ?kBadBreaker ?bBadBreaker ?tBadBreaker ?uBadBreaker ?vBadBreaker ?hBadBreaker ?wBadBreaker ?mBadBreaker ?eBadBreakerBadBlock ?eBadBreakerBadScheme ?eBadBreakerBadBreaker ?kBadBreakerBreakError ?xBadScheme ?kBadScheme ?bBadScheme ?tBadScheme ?uBadScheme ?vBadScheme ?hBadScheme ?wBadScheme ?mBadScheme ?eBadSchemeBadBlock ?eBadSchemeBadScheme ?kBadSchemeBreakError ?sp1 ?tk1 ?gNUMBERS ?lNUMBERS ?qNUMBERS ?loNUMBERS ?rNUMBERS ?gFITTING ?lFITTING ?qFITTING ?loFITTING ?rFITTING ?gABOUT ?lABOUT ?qABOUT ?loABOUT ?rABOUT
    (case a1 => k_is); (case l1 => k_is); (case c1 => k_is); (case k1 => k_is); (case a2 => k_is); (case l2 => k_is); (case c2 => k_is); (case k2 => k_is)
    (case a3 => k_is); (case l3 => k_is); (case c3 => k_is); (case k3 => k_is); (case a4 => k_is); (case l4 => k_is); (case c4 => k_is); (case k4 => k_is)
    (case a5 => k_is); (case l5 => k_is); (case c5 => k_is); (case k5 => k_is); (case a6 => k_is); (case l6 => k_is); (case c6 => k_is); (case k6 => k_is)
    (case a7 => k_is); (case l7 => k_is); (case c7 => k_is); (case k7 => k_is); (case a8 => k_is); (case l8 => k_is); (case c8 => k_is); (case k8 => k_is)
    (case a9 => k_is); (case l9 => k_is); (case c9 => k_is); (case k9 => k_is); (case a10 => k_is); (case l10 => k_is); (case c10 => k_is); (case k10 => k_is)
    (case a11 => k_is); (case l11 => k_is); (case c11 => k_is); (case k11 => k_is); (case a12 => k_is); (case l12 => k_is); (case c12 => k_is); (case k12 => k_is)
    (case a13 => k_is); (case l13 => k_is); (case c13 => k_is); (case k13 => k_is); (case a14 => k_is); (case l14 => k_is); (case c14 => k_is); (case k14 => k_is)
    (case a15 => k_is); (case l15 => k_is); (case c15 => k_is); (case k15 => k_is); (case a16 => k_is); (case l16 => k_is); (case c16 => k_is); (case k16 => k_is)
    (case a17 => k_is); (case l17 => k_is); (case c17 => k_is); (case k17 => k_is); (case a18 => k_is); (case l18 => k_is); (case c18 => k_is); (case k18 => k_is)
    (case a19 => k_is); (case l19 => k_is); (case c19 => k_is); (case k19 => k_is); (case a20 => k_is); (case l20 => k_is); (case c20 => k_is); (case k20 => k_is)
    (case a21 => k_is); (case l21 => k_is); (case c21 => k_is); (case k21 => k_is); (case a22 => k_is); (case l22 => k_is); (case c22 => k_is); (case k22 => k_is)
    (case a23 => k_is); (case l23 => k_is); (case c23 => k_is); (case k23 => k_is); (case a24 => k_is); (case l24 => k_is); (case c24 => k_is); (case k24 => k_is)
    (case a25 => k_is); (case l25 => k_is); (case c25 => k_is); (case k25 => k_is); (case a26 => k_is); (case l26 => k_is); (case c26 => k_is); (case k26 => k_is)
    (case a27 => k_is); (case l27 => k_is); (case c27 => k_is); (case k27 => k_is); (case a28 => k_is); (case l28 => k_is); (case c28 => k_is); (case k28 => k_is)
    (case a29 => k_is); (case l29 => k_is); (case c29 => k_is); (case k29 => k_is); (case a30 => k_is); (case l30 => k_is); (case c30 => k_is); (case k30 => k_is)
    (case a31 => k_is); (case l31 => k_is); (case c31 => k_is); (case k31 => k_is); (case a32 => k_is); (case l32 => k_is); (case c32 => k_is); (case k32 => k_is)
    (case a33 => k_is); (case l33 => k_is); (case c33 => k_is); (case k33 => k_is); (case a34 => k_is); (case l34 => k_is); (case c34 => k_is); (case k34 => k_is)
    (case a35 => k_is); (case l35 => k_is); (case c35 => k_is); (case k35 => k_is); (case a36 => k_is); (case l36 => k_is); (case c36 => k_is); (case k36 => k_is)
    (case a37 => k_is); (case l37 => k_is); (case c37 => k_is); (case k37 => k_is); (case a38 => k_is); (case l38 => k_is); (case c38 => k_is); (case k38 => k_is)
    (case a39 => k_is); (case l39 => k_is); (case c39 => k_is); (case k39 => k_is); (case a40 => k_is); (case l40 => k_is); (case c40 => k_is); (case k40 => k_is)
    (case a41 => k_is); (case l41 => k_is); (case c41 => k_is); (case k41 => k_is); (case a42 => k_is); (case l42 => k_is); (case c42 => k_is); (case k42 => k_is)
    (case a43 => k_is); (case l43 => k_is); (case c43 => k_is); (case k43 => k_is); (case a44 => k_is); (case l44 => k_is); (case c44 => k_is); (case k44 => k_is)
    (case a45 => k_is); (case l45 => k_is); (case c45 => k_is); (case k45 => k_is); (case a46 => k_is); (case l46 => k_is); (case c46 => k_is); (case k46 => k_is)
    (case a47 => k_is); (case l47 => k_is); (case c47 => k_is); (case k47 => k_is); (case a48 => k_is); (case l48 => k_is); (case c48 => k_is); (case k48 => k_is)
    (case a49 => k_is); (case l49 => k_is); (case c49 => k_is); (case k49 => k_is); (case a50 => k_is); (case l50 => k_is); (case c50 => k_is); (case k50 => k_is)
    (case a51 => k_is); (case l51 => k_is); (case c51 => k_is); (case k51 => k_is); (case a52 => k_is); (case l52 => k_is); (case c52 => k_is); (case k52 => k_is)
    (case a53 => k_is); (case l53 => k_is); (case c53 => k_is); (case k53 => k_is); (case a54 => k_is); (case l54 => k_is); (case c54 => k_is); (case k54 => k_is)
    (case a55 => k_is); (case l55 => k_is); (case c55 => k_is); (case k55 => k_is); (case a56 => k_is); (case l56 => k_is); (case c56 => k_is); (case k56 => k_is)
    (case a57 => k_is); (case l57 => k_is); (case c57 => k_is); (case k57 => k_is); (case a58 => k_is); (case l58 => k_is); (case c58 => k_is); (case k58 => k_is)
    (case a59 => k_is); (case l59 => k_is); (case c59 => k_is); (case k59 => k_is); (case a60 => k_is); (case l60 => k_is); (case c60 => k_is); (case k60 => k_is)
    (case a61 => k_is); (case l61 => k_is); (case c61 => k_is); (case k61 => k_is); (case a62 => k_is); (case l62 => k_is); (case c62 => k_is); (case k62 => k_is)
    (case z1 => k_is); (case z2 => k_is); (case z3 => k_is); (case z4 => k_is); (case z5 => k_is); (case z6 => k_is); (case z7 => k_is); (case z8 => k_is)
    (case z9 => k_is); (case z10 => k_is); (case z11 => k_is); (case z12 => k_is); (case z13 => k_is); (case z14 => k_is); (case y1 => k_is); (case y2 => k_is)
    (case y3 => k_is); (case y4 => k_is); (case y5 => k_is); (case y6 => k_is); (case y7 => k_is); (case gBadBlock => k_is); (case gBadBreaker => k_is); (case gBadScheme => k_is)
    (case gBreakError => k_is); (case xBadBlock => k_exc); (case kBadBlock => k_is); (case bBadBlock => k_is); (case tBadBlock => k_is); (case uBadBlock => k_is); (case vBadBlock => k_is); (case hBadBlock => k_is)
    (case wBadBlock => k_is); (case mBadBlock => k_is); (case eBadBlockBadBlock => first | rfl | k_is); (case kBadBlockBreakError => first | rfl | k_is); (case xBadBreaker => k_exc); (case kBadBreaker => k_is); (case bBadBreaker => k_is); (case tBadBreaker => k_is)
    (case uBadBreaker => k_is); (case vBadBreaker => k_is); (case hBadBreaker => k_is); (case wBadBreaker => k_is); (case mBadBreaker => k_is); (case eBadBreakerBadBlock => first | rfl | k_is); (case eBadBreakerBadScheme => first | rfl | k_is); (case eBadBreakerBadBreaker => first | rfl | k_is)
    (case kBadBreakerBreakError => first | rfl | k_is); (case xBadScheme => k_exc); (case kBadScheme => k_is); (case bBadScheme => k_is); (case tBadScheme => k_is); (case uBadScheme => k_is); (case vBadScheme => k_is); (case hBadScheme => k_is)
    (case wBadScheme => k_is); (case mBadScheme => k_is); (case eBadSchemeBadBlock => first | rfl | k_is); (case eBadSchemeBadScheme => first | rfl | k_is); (case kBadSchemeBreakError => first | rfl | k_is); (case sp1 => first | rfl | k_is); (case tk1 => first | rfl | k_is); (case gNUMBERS => k_is)
    (case lNUMBERS => k_is); (case qNUMBERS => repeat (first | exact trivial | refine ⟨⟨_, _, rfl, rfl⟩, ?_⟩)); (case loNUMBERS => rfl); (case rNUMBERS => rfl); (case gFITTING => k_is); (case lFITTING => k_is); (case qFITTING => repeat (first | exact trivial | refine ⟨⟨_, _, rfl, rfl⟩, ?_⟩)); (case loFITTING => rfl)
    (case rFITTING => rfl); (case gABOUT => k_is); (case lABOUT => k_is); (case qABOUT => repeat (first | exact trivial | refine ⟨⟨_, _, rfl, rfl⟩, ?_⟩)); (case loABOUT => rfl); (case rABOUT => rfl)
#print axioms PySem.Challenge.cw_breakback_k32_carried_shape_holds
