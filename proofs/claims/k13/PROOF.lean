
import PyProof.Rows.All
import Wide.All
import OpenK.AllK
import Wide.FinOn
import HandS.ForMost
import HandS.Codes
import HandS.StrMore
import HandS.Defaults
import HandS.IntHex
import HandS.IsInst
import HandS.TupAny
import HandS.TupMul
import PyProof.FString3
import PyProof.Rows.StrIntSpec
import PyProof.StrOps2
import KE.IntText
import KE.KIntText
import KE.IntTextLaws
import HandS.Exc
import HandS.ExcOwn
import HandS.TryOnly
import HandS.TryMany
import HandS.ExcIs
import HandS.WordsExc
import HandS.ForExc

import HandS.Gcd
import HandS.Nested
import HandS.Lambda
import HandS.Zip
import HandS.Walk
import HandS.CallLocal
import HandS.More
import HandS.Text
import HandS.Codes
import HandS.FStr
import HandS.Star
import HandS.EndTab
import HandS.HeadWalk
import HandS.Head2
import HandS.HeadHook4
import KE.KNestM
import KE.KStateDown
import PySem.Challenge.RW_breakback_k13_opening_next
set_option Elab.async false
set_option linter.all false
set_option maxRecDepth 100000
set_option maxHeartbeats 4000000
namespace My
open PySem PySem.Spec PyProof.Rows L2
section
theorem snocInd {α : Type} {P : List α → Prop} (h0 : P []) (h1 : ∀ l a, P l → P (l ++ [a])) (l : List α) : P l := by
  have h : ∀ (n : Nat) (l : List α), l.length = n → P l := by
    intro n
    induction n with
    | zero =>
      intro l e
      rw [List.eq_nil_of_length_eq_zero e]
      exact h0
    | succ n ih =>
      intro l e
      have hn : l ≠ [] := fun z => by
        rw [z] at e
        cases e
      rw [← List.dropLast_concat_getLast hn]
      exact h1 _ _ (ih _ (by rw [List.length_dropLast, e]; rfl))
  exact h _ l rfl
/-! ### strings of bits -/
def cB (b : Bool) : Nat := if b then 49 else 48
def sb (bs : List Bool) : Str := SX.S (bs.map cB)
def toB : Nat → Nat → List Bool
  | 0, _ => []
  | n + 1, k => toB n (k / 2) ++ [k % 2 == 1]
def bit (b : Bool) : Nat := if b then 1 else 0
def val (bs : List Bool) : Nat := bs.foldl (fun a b => 2 * a + bit b) 0
theorem toB_len : ∀ n k, (toB n k).length = n
  | 0, _ => rfl
  | n + 1, k => by
    show (toB n (k / 2) ++ [k % 2 == 1]).length = n + 1
    rw [List.length_append, toB_len n]
    rfl
theorem sb_len (bs : List Bool) : (sb bs).length = bs.length := by
  unfold sb
  rw [SX.S_len, List.length_map]
theorem cB_inj {a b : Bool} (h : cB a = cB b) : a = b := by
  cases a <;> cases b <;> first | rfl | (exact absurd h (by decide))
theorem map_cB_inj : ∀ {l m : List Bool}, l.map cB = m.map cB → l = m
  | [], [], _ => rfl
  | [], _ :: _, h => by simp at h
  | _ :: _, [], h => by simp at h
  | a :: l, b :: m, h => by
    rw [List.map_cons, List.map_cons] at h
    injection h with h1 h2
    rw [cB_inj h1, map_cB_inj h2]
theorem sb_inj {l m : List Bool} (h : sb l = sb m) : l = m := map_cB_inj (SX.S_inj h)
theorem sb_cat (l m : List Bool) : sb l ++ sb m = sb (l ++ m) := by
  unfold sb
  rw [SX.S_cat, List.map_append]
theorem val_snoc (l : List Bool) (b : Bool) : val (l ++ [b]) = 2 * val l + bit b := by
  unfold val
  rw [List.foldl_append]
  rfl
theorem bit_lt (b : Bool) : bit b < 2 := by cases b <;> decide
theorem toB_val (bs : List Bool) : toB bs.length (val bs) = bs := by
  induction bs using snocInd with
  | h0 => rfl
  | h1 l b ih =>
    rw [List.length_append, val_snoc]
    show toB (l.length + 1) _ = _
    show toB l.length ((2 * val l + bit b) / 2) ++ [(2 * val l + bit b) % 2 == 1] = l ++ [b]
    have h := bit_lt b
    rw [show (2 * val l + bit b) / 2 = val l by omega, ih, show (2 * val l + bit b) % 2 = bit b by omega]
    cases b <;> rfl
theorem val_lt (bs : List Bool) : val bs < 2 ^ bs.length := by
  induction bs using snocInd with
  | h0 => exact Nat.one_pos
  | h1 l b ih =>
    rw [List.length_append, val_snoc]
    show _ < 2 ^ (l.length + 1)
    have h := bit_lt b
    rw [Nat.pow_succ]
    omega
theorem val_toB : ∀ (n k : Nat), k < 2 ^ n → val (toB n k) = k
  | 0, k, h => by
    have e : k = 0 := by
      have : k < 1 := h
      omega
    subst e
    rfl
  | n + 1, k, h => by
    show val (toB n (k / 2) ++ [k % 2 == 1]) = k
    rw [Nat.pow_succ] at h
    rw [val_snoc, val_toB n (k / 2) (by omega)]
    have e : bit (k % 2 == 1) = k % 2 := by
      rcases Nat.mod_two_eq_zero_or_one k with z | z <;> rw [z] <;> rfl
    rw [e]
    omega
theorem toB_zero (n : Nat) : toB n 0 = List.replicate n false := by
  induction n with
  | zero => rfl
  | succ n ih =>
    show toB n 0 ++ [false] = _
    rw [ih, List.replicate_succ']
/-! ### two strings place by place -/
theorem toB_xor : ∀ (n a b : Nat), toB n (a ^^^ b) = List.zipWith (fun x y => x != y) (toB n a) (toB n b)
  | 0, _, _ => rfl
  | n + 1, a, b => by
    show toB n ((a ^^^ b) / 2) ++ [(a ^^^ b) % 2 == 1] = List.zipWith (fun x y => x != y) (toB n (a / 2) ++ [a % 2 == 1]) (toB n (b / 2) ++ [b % 2 == 1])
    rw [List.zipWith_append (by rw [toB_len, toB_len]), Nat.xor_div_two, toB_xor n]
    congr 1
    have e : (a ^^^ b) % 2 = (a % 2) ^^^ (b % 2) := by
      have h := Nat.xor_mod_two_pow (a := a) (b := b) (n := 1)
      rw [Nat.pow_one] at h
      exact h
    rw [e]
    rcases Nat.mod_two_eq_zero_or_one a with z | z <;> rcases Nat.mod_two_eq_zero_or_one b with y | y <;> rw [z, y] <;> rfl
theorem toB_and : ∀ (n a b : Nat), toB n (a &&& b) = List.zipWith (fun x y => x && y) (toB n a) (toB n b)
  | 0, _, _ => rfl
  | n + 1, a, b => by
    show toB n ((a &&& b) / 2) ++ [(a &&& b) % 2 == 1] = List.zipWith (fun x y => x && y) (toB n (a / 2) ++ [a % 2 == 1]) (toB n (b / 2) ++ [b % 2 == 1])
    rw [List.zipWith_append (by rw [toB_len, toB_len]), Nat.and_div_two, toB_and n]
    congr 1
    have e : (a &&& b) % 2 = (a % 2) * (b % 2) := by
      have h := Nat.and_mod_two_pow (a := a) (b := b) (n := 1)
      rw [Nat.pow_one] at h
      rw [h]
      rcases Nat.mod_two_eq_zero_or_one a with z | z <;> rcases Nat.mod_two_eq_zero_or_one b with y | y <;> rw [z, y] <;> rfl
    rw [e]
    rcases Nat.mod_two_eq_zero_or_one a with z | z <;> rcases Nat.mod_two_eq_zero_or_one b with y | y <;> rw [z, y] <;> rfl
/-! ### the digits that Python writes -/
def dig (k : Nat) : List Nat := (Nat.toDigits 2 k).map Char.toNat
theorem dig_lt {k : Nat} (h : k < 2) : dig k = [cB (k == 1)] := by
  unfold dig
  rw [Nat.toDigits_of_lt_base h]
  have : k = 0 ∨ k = 1 := by omega
  rcases this with e | e <;> subst e <;> rfl
theorem dig_ge {k : Nat} (h : 2 ≤ k) : dig k = dig (k / 2) ++ [cB (k % 2 == 1)] := by
  unfold dig
  rw [Nat.toDigits_of_base_le (by decide) h, List.map_append]
  congr 1
  rcases Nat.mod_two_eq_zero_or_one k with z | z <;> rw [z] <;> rfl
theorem dig_toB : ∀ (n k : Nat), k < 2 ^ (n + 1) → ∃ p, (toB (n + 1) k).map cB = List.replicate p 48 ++ dig k
  | 0, k, h => by
    have hk : k < 2 := h
    refine ⟨0, ?_⟩
    rw [dig_lt hk]
    show [cB (k % 2 == 1)] = [cB (k == 1)]
    rw [Nat.mod_eq_of_lt hk]
  | n + 1, k, h => by
    show ∃ p, (toB (n + 1) (k / 2) ++ [k % 2 == 1]).map cB = _
    rw [List.map_append]
    by_cases hk : k < 2
    · refine ⟨n + 1, ?_⟩
      rw [dig_lt hk, show k / 2 = 0 by omega, toB_zero, List.map_replicate, Nat.mod_eq_of_lt hk]
      rfl
    · have h' : k < 2 ^ (n + 1) * 2 := by
        rw [← Nat.pow_succ]
        exact h
      obtain ⟨p, e⟩ := dig_toB n (k / 2) (by omega)
      refine ⟨p, ?_⟩
      rw [e, dig_ge (k := k) (by omega), List.append_assoc]
      rfl
theorem dig_len_pos (k : Nat) : 0 < (dig k).length := by
  unfold dig
  rw [List.length_map]
  exact Nat.length_toDigits_pos
theorem dig_head (k : Nat) : ∃ c r, dig k = c :: r ∧ (c = 48 ∨ c = 49) := by
  induction k using Nat.strongRecOn with
  | _ k ih =>
    by_cases hk : k < 2
    · rw [dig_lt hk]
      exact ⟨_, _, rfl, by cases (k == 1) <;> decide⟩
    · obtain ⟨c, r, e, h⟩ := ih (k / 2) (by omega)
      rw [dig_ge (by omega), e]
      exact ⟨c, r ++ [_], rfl, h⟩
theorem zfill_dig (n k : Nat) (h : k < 2 ^ (n + 1)) : Txt.zfill (SX.S (dig k)) ((n + 1 : Nat) : Int) = sb (toB (n + 1) k) := by
  obtain ⟨p, e⟩ := dig_toB n k h
  have hl : n + 1 = p + (dig k).length := by
    have := congrArg List.length e
    rw [List.length_map, toB_len, List.length_append, List.length_replicate] at this
    exact this
  unfold sb
  rw [e]
  unfold Txt.zfill
  rw [SX.S_len]
  by_cases hp : p = 0
  · subst hp
    rw [if_pos (by omega)]
    rfl
  · rw [if_neg (by omega)]
    obtain ⟨c, r, ed, hc⟩ := dig_head k
    have hm : ((n + 1 : Nat) : Int).toNat - (dig k).length = p := by omega
    rw [hm]
    unfold zfilled
    rw [ed]
    rcases hc with rfl | rfl
    · show Builtin.Str.padded _ p 0 48 = _
      refine TL.ext_tl ?_
      simp [Builtin.Str.padded, TL.tl, SX.S]
    · show Builtin.Str.padded _ p 0 48 = _
      refine TL.ext_tl ?_
      simp [Builtin.Str.padded, TL.tl, SX.S]
section
open Builtin Builtin.Str Builtin.Int Builtin.Float
theorem ite_n {c : Prop} [Decidable c] {X Y : Prop} (hc : ¬ c) (h : Y) : if c then X else Y := by
  rw [if_neg hc]
  exact h
theorem ite_y {c : Prop} [Decidable c] {X Y : Prop} (hc : c) (h : X) : if c then X else Y := by
  rw [if_pos hc]
  exact h
/-- the text of the bits of n, as the format "b" makes it -/
theorem field_b (l : List Nat) (hl : l ≠ []) : intField' { fill := 32, align := 62, type := some 98 } false [] l [] 4 = ⟨l.toArray⟩ := by
  unfold intField'
  have h0 : l.isEmpty = false := by
    cases l with
    | nil => exact absurd rfl hl
    | cons a r => rfl
  simp [h0]
theorem wp_eq {α : Type} {M : Model} {A : Around} {t t' : Sem α} {Q : α → Shared → Prop} {E : Value → Shared → Prop} {s : Shared} (e : t = t') (h : wpAny M A t' Q E s) : wpAny M A t Q E s := by
  rw [e]
  exact h
set_option maxHeartbeats 1000000 in
theorem gives_fmtB {spec : PySem.Str} (n : Nat) (t u : Tok) (hz : (Nat.toDigits 2 n).length ≤ sizeLine)
    (hp : parseFormatSpec spec.cps.toList "int" 62 = .ok { fill := 32, align := 62, type := some 98 }) (hne : (spec.length == 0) = false)
    (hasc : ((spec.cps.toList.drop 1).any (· ≥ 128) || (spec.cps.getD 0 0 ≥ 128 && !([60, 62, 61, 94] : List Nat).contains (spec.cps.getD 1 0))) = false) :
    Gives («int.__format__» ⟨[.int (n : Int) t, .str spec u], []⟩) (.str ⟨((Nat.toDigits 2 n).map Char.toNat).toArray⟩) := by
  intro prog w A R s hq
  unfold Builtin.«int.__format__»
  simp only [selfAndOne, noKeywords, Int.intOfSelf, asInt?, asStr?, List.isEmpty_nil, if_true, pure_bind, bind_pure, bind_assoc, hne, hasc, Bool.false_eq_true, if_false,
    show (Value.str spec u == Value.none) = false from rfl]
  refine wpAny_bind (wpAny_typeNameOf (T := "str") (typeIs_str _ _ _) (by decide) fun _ => ?_)
  refine wpAny_bind (wpAny_typeNameOfCut_int ?_)
  simp only [hp, Option.getD_some]
  refine wpAny_ite (ite_y (by decide) ?_)
  refine wp_eq (t' := retStr (intField' { fill := 32, align := 62, type := some 98 } (decide ((n : Int) < 0)) [] ((Nat.toDigits 2 n).map fun c => (if (98 : Nat) == 88 then c.toUpper else c).toNat) [] 4)) (by kernel_rfl) ?_
  rw [show decide ((n : Int) < 0) = false from decide_eq_false (by omega), field_b _ (by
    have := Nat.length_toDigits_pos (b := 2) (n := n)
    intro z
    rw [List.map_eq_nil_iff] at z
    rw [z] at this
    exact absurd this (by decide))]
  refine wpAny_bind (wpAny_mkStr (wpAny_pure hq.2) ?_)
  show (List.toArray _).size ≤ _
  rw [List.size_toArray, List.length_map]
  exact hz
end
/-! ### a text times an int -/
theorem foldl_app (x : Array Nat) : ∀ (n : Nat) (acc : Array Nat), ((List.replicate n x).foldl (· ++ ·) acc).toList = acc.toList ++ (List.replicate n x.toList).flatten
  | 0, acc => by simp
  | n + 1, acc => by
    rw [List.replicate_succ, List.foldl_cons, foldl_app x n, List.replicate_succ, List.flatten_cons, Array.toList_append, List.append_assoc]
def rRepS : R2 := fun x y H Q => ∃ (l : List Nat) (k : Int), x = .str (SX.S l) ∧ y = .int k ∧ (0 ≤ k ∧ l.length * k.toNat ≤ 16777216 ∧ k ≤ 16777216) ∧ Q (.str (SX.S (List.replicate k.toNat l).flatten)) H
theorem op_repS {X : Cx} : OpR X (binaryOp .Mult) rRepS := by
  intro pins s σ H x y v u Q I rx ry h
  obtain ⟨l, k, rfl, rfl, ⟨h0, hz, hk⟩, q⟩ := h
  obtain ⟨t, rfl⟩ := rx
  obtain ⟨t', rfl⟩ := ry
  have hs : sizeLine = 16777216 := sizeLine_eq
  refine PySem.P.mul_str ?_ (fun h1 _ => ?_) (fun _ _ => ?_) ?_
  · rw [decide_eq_false (by omega), decide_eq_false (by omega)]
    rfl
  · rw [SX.S_len]
    have hp : 0 < k := by omega
    have : (l.length : Int) * k ≤ 16777216 := by
      have e : ((l.length * k.toNat : Nat) : Int) = (l.length : Int) * k := by
        rw [Int.natCast_mul, Int.toNat_of_nonneg h0]
      omega
    have := (Int.le_ediv_iff_mul_le hp (a := (l.length : Int)) (b := 2 ^ 63 - 1)).mpr (by omega)
    omega
  · rw [SX.S_len]
    unfold Builtin.Str.tooLong
    rw [sizeLine_eq]
    exact decide_eq_false (by omega)
  · by_cases h1 : k < 1
    · rw [if_pos h1]
      have e : k = 0 := by omega
      subst e
      exact ⟨by decide, .str (SX.S []), H, I.tok _, ⟨_, rfl⟩, q⟩
    · rw [if_neg h1]
      by_cases h2 : (k == 1 || (SX.S l).length == 0) = true
      · rw [if_pos h2]
        have e : (List.replicate k.toNat l).flatten = l := by
          rw [Bool.or_eq_true, beq_iff_eq, beq_iff_eq, SX.S_len] at h2
          rcases h2 with e | e
          · subst e
            simp
          · rw [List.eq_nil_of_length_eq_zero e]
            simp
        rw [e] at q
        exact ⟨.str (SX.S l), H, I, ⟨t, rfl⟩, q⟩
      · rw [if_neg h2]
        have e : (⟨(List.replicate k.toNat (SX.S l).cps).foldl (· ++ ·) #[]⟩ : Str) = SX.S (List.replicate k.toNat l).flatten := by
          refine TL.ext_tl ?_
          show (List.foldl (· ++ ·) (#[] : Array Nat) (List.replicate k.toNat l.toArray)).toList = _
          rw [foldl_app]
          rfl
        rw [e]
        refine ⟨?_, .str _, H, I.tok _, ⟨_, rfl⟩, q⟩
        rw [SX.S_len, List.length_flatten, List.map_replicate, List.sum_replicate_nat, hs]
        rw [Nat.mul_comm]
        exact hz
/-! ### f(k = v, ..): keywords alone -/
theorem pe_callN0 {X : Cx} {CX : CXT} {k : Nat} {f : Addr} {fd : FuncData} {ps ks : List Str} {sp : Sp} {E : XK} {x : Str} {p pos : Pos} {kws : List Keyword} {tk : TA} {g : List Value → List Value → List Value} {gV : List V → List V → List V}
    (F : FnOk X.prog X.w X.K X.mg X.base CX k f fd ps sp) (hr : Room k X.A) (hg : Gl X x) (hm : X.mg x = some (.ref f)) (hk : PySem.W.keepIn X.K (.ref f) = true) (hb : KBn X.K fd ps 0 ks g gV) (hx : Passes CX X E)
    (hkw : PK X kws tk) (hall : (backToKw pos (keywordEach kws X.env)).all (·.1.isSome) = true := by rfl) (hks : (backToKw pos (keywordEach kws X.env)).filterMap (·.1) = ks := by rfl)
    (hdb : (x == ("__debug__" : Str)) = false := by decide)
    (hpl : ((backTo pos (starEach [] X.env)).any (·.1) || (backToKw pos (keywordEach kws X.env)).any (·.1.isNone)) = false := by rfl) :
    PE X (.Call (.Name x p) [] kws pos) (tCallN 0 ks.length sp gV E tNil tk) := by
  refine ⟨fun pins s σ H Q I h => ?_⟩
  refine wpAny_Call_Name_kw (ld_glob I hg hm ?_ hdb)
  refine PySem.W.callWith_KW0 (h₀ := X.base) I.ok.mod.kin hk hall ?_ hpl
  refine thn (hkw.run pos pins s σ H _ I h) fun ws s2 ⟨zs, H2, I2, rz, l1, l2, q2⟩ => ⟨I2.kIn, ?_⟩
  rw [hks]
  exact run_fnN (us := []) (vs := []) F hr hb hx I2 .nil rz rfl l2 q2
/-! ### int(t, 2) -/
namespace Two
open PySem.NumText PySem.Calls
def Bin (c : Nat) : Prop := c = 48 ∨ c = 49
def num (l : List Nat) : Nat := l.foldl (fun a c => a * 2 + (c - 48)) 0
theorem Bin.plain {c : Nat} (h : Bin c) : c ≠ 95 ∧ c ≠ 0 ∧ c < 128 ∧ 33 ≤ c ∧ c ≠ 32 ∧ c ≠ 43 ∧ c ≠ 45 := by
  rcases h with e | e <;> subst e <;> decide
theorem one {ds : Array Nat} {b : Bool} {c : Nat} (h : Bin c) : PySem.NumText.step 2 (ds, b) c = some (ds.push (c - 48), true) := by
  rcases h with e | e <;> subst e <;> rfl
theorem more : ∀ (cs : List Nat) (ds : Array Nat), (∀ c ∈ cs, Bin c) → cs.foldlM (PySem.NumText.step 2) (ds, true) = some ((ds.toList ++ cs.map (· - 48)).toArray, true)
  | [], ds, _ => by simp
  | c :: cs, ds, h => by
    rw [List.foldlM_cons, one (h c (List.mem_cons_self ..))]
    refine (more cs (ds.push (c - 48)) fun d hd => h d (List.mem_cons_of_mem _ hd)).trans ?_
    simp
theorem all {cs : List Nat} (h : ∀ c ∈ cs, Bin c) (hne : cs ≠ []) : digits? 2 cs = some (cs.map (· - 48)).toArray := by
  cases cs with
  | nil => exact absurd rfl hne
  | cons c cs =>
    have e : List.foldlM (PySem.NumText.step 2) ((#[] : Array Nat), false) (c :: cs) = some (((c :: cs).map (· - 48)).toArray, true) := by
      rw [List.foldlM_cons, one (h c (List.mem_cons_self ..))]
      refine (more cs (#[].push (c - 48)) fun d hd => h d (List.mem_cons_of_mem _ hd)).trans ?_
      simp
    unfold digits?
    rw [e]
    rfl
theorem worth (l : List Nat) : (l.map (· - 48)).toArray.foldl (fun acc d => acc * 2 + d) 0 = num l := by
  rw [← Array.foldl_toList]
  unfold num
  rw [List.foldl_map]
theorem noBlank {cs : List Nat} (h : ∀ c ∈ cs, Bin c) : cs.dropWhile blank = cs := by
  cases cs with
  | nil => rfl
  | cons c cs =>
    have := (h c (List.mem_cons_self ..)).plain
    exact dropWhile_of (by omega)
theorem noSign {cs : List Nat} (h : ∀ c ∈ cs, Bin c) : sign cs = (false, cs) := by
  cases cs with
  | nil => rfl
  | cons c cs =>
    have := (h c (List.mem_cons_self ..)).plain
    exact sign_of (by omega) (by omega)
theorem noPre {cs : List Nat} (h : ∀ c ∈ cs, Bin c) : based 2 cs = (2, false, cs) := by
  match cs, h with
  | [], _ => rfl
  | [a], h =>
    rcases h a (List.mem_cons_self ..) with e | e <;> subst e <;> rfl
  | a :: c :: r, h =>
    rcases h a (List.mem_cons_self ..) with e | e <;> subst e <;>
      rcases h c (List.mem_cons_of_mem _ (List.mem_cons_self ..)) with e | e <;> subst e <;> rfl
theorem read {cs : List Nat} (h : ∀ c ∈ cs, Bin c) (hne : cs ≠ []) : (int_private% "readNumeral") 0 2 cs = (int_private% "Numeral.value") ((num cs : Nat) : Int) := by
  have hb : based 2 cs = (2, false, cs) := noPre h
  have hr : ∀ c ∈ cs.reverse, Bin c := fun c hc => h c (List.mem_reverse.mp hc)
  rw [readNumeral_eq 0 2 cs, noBlank h, noSign h]
  show judge 0 false (based 2 cs).1 (based 2 cs).2.1 (digits? (based 2 cs).1 (((based 2 cs).2.2.reverse.dropWhile blank).reverse)) = _
  rw [hb]
  show judge 0 false 2 false (digits? 2 ((cs.reverse.dropWhile blank).reverse)) = _
  rw [noBlank hr, List.reverse_reverse, all h hne]
  show (int_private% "Numeral.value") (((cs.map (· - 48)).toArray.foldl (fun acc d => acc * 2 + d) 0 : Nat) : Int) = _
  rw [worth]
theorem seen {x : Str} (h : ∀ c ∈ x.cps.toList, Bin c) : numTextOf x = x.cps.toList ∧ numSeenOf x = x.cps.toList := by
  have e1 : numTextOf x = x.cps.toList := if_pos (by
    rw [← Array.all_toList, List.all_eq_true]
    exact fun c hc => decide_eq_true (h c hc).plain.2.2.1)
  refine ⟨e1, ?_⟩
  show List.takeWhile _ (numTextOf x) = _
  rw [e1]
  exact takeWhile_all fun c hc => bne_iff_ne.mpr (h c hc).plain.2.1
set_option maxHeartbeats 4000000 in
theorem gives {x : PySem.Str} {u t : Tok} (hl : x.length ≤ 640) (h : ∀ c ∈ x.cps.toList, Bin c) (hne : x.cps.toList ≠ []) :
    Gives (Builtin.«int.__new__» ⟨[.type "int", .str x u, .int 2 t], []⟩) (.int ((num x.cps.toList : Nat) : Int)) :=
  .of_wp fun M A E s Q hQ => by
    obtain ⟨hp, g, d, tk, os⟩ := s
    have f1 := F.conv_sub_int
    have f2 := F.madeHere_int
    have f6 : typeOf (.str x u) = pure (.type "str") := rfl
    obtain ⟨e1, e2⟩ := seen h
    have hk : Hx.Hid ((numSeenOf x).length ≤ 640 ∧ (int_private% "readNumeral") 0 2 (numSeenOf x) = (int_private% "Numeral.value") ((num x.cps.toList : Nat) : Int) ∧ ((numSeenOf x).length == (numTextOf x).length) = true) := by
      refine ⟨?_, ?_, ?_⟩
      · rw [e2, Array.length_toList]
        exact hl
      · rw [e2]
        exact read h hne
      · rw [e1, e2]
        exact beq_self_eq_true _
    clear e1 e2 hl hne h
    repeat (any_goals (first
      | assumption
      | ((with_reducible show wpAny _ _ ((int_private% "intFromText") _ _ _) _ _ _); refine Hx.wp_textB hk.out.1 hk.out.2.1 hk.out.2.2 ?_)
      | wp_step))
    all_goals (try exact ⟨_, rfl, hQ⟩)
end Two
def rIntBin : List V → Hp → VK → Prop := fun xs H Q => ∃ l : List Nat, xs = [.str (SX.S l), .int 2] ∧ (l ≠ [] ∧ l.length ≤ 640 ∧ ∀ c ∈ l, Two.Bin c) ∧ Q (.int ((Two.num l : Nat) : Int)) H
theorem call_int_bin {X : Cx} : CallR X (.type "int") rIntBin := by
  intro pins s σ H xs us Q I r h
  obtain ⟨l, rfl, ⟨hne, hl, hx⟩, q⟩ := h
  obtain ⟨u, w', rfl, ⟨t1, rfl⟩, ⟨t2, rfl⟩⟩ := vals2 r
  exact callType_new F.called_int F.newNe_int (Hx.typeCall_int_2 _ _) (Hx.newCall_int_2 _ _) (fun obj => F.initArgs_range_2 obj _ _) F.entry_int_new
    (Two.gives (x := SX.S l) (u := t1) (t := t2) (by rw [SX.S_len]; exact hl) hx hne).meets (show (Made.int ((Two.num l : Nat) : Int)).post _ s from ⟨rfl, .int ((Two.num l : Nat) : Int), H, I.tok _, ⟨_, rfl⟩, q⟩)
/-! ### f"{n:b}" -/
def tFmtB (te : TE) : TE := fun σ H Q => te σ H fun x H1 => ∃ n : Nat, x = .int (n : Int) ∧ (dig n).length ≤ 16777216 ∧ Q (.str (SX.S (dig n))) H1
theorem spec_b : Builtin.Float.parseFormatSpec (Str.ofString "b").cps.toList "int" 62 = .ok { fill := 32, align := 62, type := some 98 } := by kernel_rfl
theorem pe_fmtB {X : Cx} {e : Expr} {te : TE} {j : Nat} {p1 p2 p3 p4 : Pos} (he : PE X e te) : PE X (.JoinedStr [.FormattedValue e (-1) (some (.JoinedStr [.Constant (.str "b") j p1] p2)) p3] p4) (tFmtB te) := by
  refine ⟨fun pins s σ H Q I h => ?_⟩
  refine wpAny_JoinedStr_one (wpAny_FormattedValue_spec (thn (he.run pins s σ H _ I h) fun v s1 hv => ?_))
  obtain ⟨x, H1, I1, r1, n, rfl, hz, q⟩ := hv
  obtain ⟨t, rfl⟩ := r1
  refine wpAny_JoinedStr_one (thn ((pe_str (X := X) (x := "b") (j := j) (pos := p1)).run pins s1 σ H1 (fun v H2 => v = .str "b" ∧ H2 = H1) I1 ⟨rfl, rfl⟩) fun v s2 hv => ?_)
  obtain ⟨x, H2, I2, r2, rfl, rfl⟩ := hv
  obtain ⟨t2, rfl⟩ := r2
  have hd : (Nat.toDigits 2 n).length ≤ sizeLine := by
    have h := hz
    unfold dig at h
    rw [List.length_map] at h
    rw [sizeLine_eq]
    exact h
  refine ⟨_, t2, rfl, wpAny_formatField_spec (by decide) (fun s' => typeIs_int s' _ t) F.slot_int_format F.entry_int_format F.args_int_format_2 (fun u => gives_fmtB n t u hd spec_b (by decide) (by decide)) ⟨.str (SX.S (dig n)), _, I2.tok _, ⟨_, rfl⟩, q⟩ (by decide) ?_⟩
  show (List.toArray _).size ≤ _
  rw [List.size_toArray, List.length_map]
  exact hd
/-! ### a def under its name, with its promise -/
structure Df (K : PySem.W.Frag) (mg : Str → Option Value) (x : Str) (st : Stmt) (ps : List Str) (f : Addr) (fd : FuncData) : Prop where
  fn : Fun K x x st f fd
  bi : Binds K fd ps []
  gl : mg x = some (.ref f)
structure Cl (P : Program) (w : World) (K : PySem.W.Frag) (mg : Str → Option Value) (base : Heap) (CX : CXT) (k : Nat) (x : Str) (sp : Sp) : Prop where
  ex : ∃ (f : Addr) (fd : FuncData) (ps : List Str), FnOk P w K mg base CX k f fd ps sp ∧ mg x = some (.ref f) ∧ PySem.W.keepIn K (.ref f) = true ∧ Binds K fd ps []
structure Ck (P : Program) (w : World) (K : PySem.W.Frag) (mg : Str → Option Value) (base : Heap) (CX : CXT) (k n : Nat) (x : Str) (ks : List Str) (gV : List V → List V → List V) (sp : Sp) : Prop where
  ex : ∃ (f : Addr) (fd : FuncData) (ps : List Str) (g : List Value → List Value → List Value), FnOk P w K mg base CX k f fd ps sp ∧ mg x = some (.ref f) ∧ PySem.W.keepIn K (.ref f) = true ∧ KBn K fd ps n ks g gV
section
variable {P : Program} {w : World} {K : PySem.W.Frag} {mg : Str → Option Value} {base : Heap} {CX : CXT} {k j : Nat} {x : Str} {sp : Sp}
theorem Df.cl {st : Stmt} {ps : List Str} {f : Addr} {fd : FuncData} (D : Df K mg x st ps f fd) (h : FnOk P w K mg base CX k f fd ps sp) : Cl P w K mg base CX k x sp := ⟨f, fd, ps, h, D.gl, D.fn.kp, D.bi⟩
theorem pe_cl {X : Cx} {p pos : Pos} {e : Expr} {es : List Expr} {t : TA} (c : Cl X.prog X.w X.K X.mg X.base CX0 k x sp) (hr : Room j X.A) (hk : k ≤ j) (hg : Gl X x) (ha : PA X (e :: es) t)
    (hdb : (x == ("__debug__" : Str)) = false := by decide) (he : starEach (e :: es) X.env = (false, eval e X.env) :: starEach es X.env := by rfl) (hpl : (backTo pos (starEach es X.env)).any (·.1) = false := by rfl) :
    PE X (.Call (.Name x p) (e :: es) [] pos) (tCall sp [] E0 t) := by
  obtain ⟨f, fd, ps, F, hm, kp, b⟩ := c.ex
  exact pe_call F (hr.mono hk) hg hm kp b .nil pass0 ha hdb he hpl
theorem pe_ck0 {X : Cx} {p pos : Pos} {kws : List Keyword} {tk : TA} {ks : List Str} {gV : List V → List V → List V} (c : Ck X.prog X.w X.K X.mg X.base CX0 k 0 x ks gV sp) (hr : Room j X.A) (hk : k ≤ j) (hg : Gl X x) (hkw : PK X kws tk)
    (hall : (backToKw pos (keywordEach kws X.env)).all (·.1.isSome) = true := by rfl) (hks : (backToKw pos (keywordEach kws X.env)).filterMap (·.1) = ks := by rfl)
    (hdb : (x == ("__debug__" : Str)) = false := by decide)
    (hpl : ((backTo pos (starEach [] X.env)).any (·.1) || (backToKw pos (keywordEach kws X.env)).any (·.1.isNone)) = false := by rfl) :
    PE X (.Call (.Name x p) [] kws pos) (tCallN 0 ks.length sp gV E0 tNil tk) := by
  obtain ⟨f, fd, ps, g, F, hm, kp, b⟩ := c.ex
  exact pe_callN0 F (hr.mono hk) hg hm kp b pass0 hkw hall hks hdb hpl
end
/-! ### rules that speak of the written part, K named (a comprehension's block asks it so) -/
section
variable {X : Cx}
theorem ixL (K : PySem.W.Frag) (h : X.K = K := by rfl) : IxR X (rIxL K) := by
  subst h
  exact ix_list
theorem ixT (K : PySem.W.Frag) (h : X.K = K := by rfl) : IxR X (rIxT K) := by
  subst h
  exact ix_tup
def rLenS (K : PySem.W.Frag) : List V → Hp → VK → Prop := fun xs H Q => ∃ p ys, xs = [.ref p] ∧ (SqL K H p ys ∨ SqT K H p ys) ∧ Q (.int (ys.length : Nat)) H
theorem lenS (K : PySem.W.Frag) (h : X.K = K := by rfl) : CallR X (.builtin "len") (rLenS K) := by
  subst h
  exact call_len_seq
def rListOf (K : PySem.W.Frag) : List V → Hp → VK → Prop := fun xs H Q => ∃ p ys, xs = [.ref p] ∧ (SqL K H p ys ∨ SqT K H p ys) ∧ ∀ l, H l = none → Q (.ref l) (upd H l (.lst ys))
theorem listOf (K : PySem.W.Frag) (h : X.K = K := by rfl) : CallR X (.type "list") (rListOf K) := by
  subst h
  exact call_list_of
def rTupOf (K : PySem.W.Frag) : List V → Hp → VK → Prop := fun xs H Q => ∃ p ys, xs = [.ref p] ∧ ((SqL K H p ys ∧ ∀ l, H l = none → Q (.ref l) (upd H l (.tup ys))) ∨ (SqT K H p ys ∧ Q (.ref p) H))
theorem tupOf (K : PySem.W.Frag) (h : X.K = K := by rfl) : CallR X (.type "tuple") (rTupOf K) := by
  subst h
  exact call_tuple_of
theorem crSum (K : PySem.W.Frag) (hc : X.calm = true) (h : X.K = K := by rfl) : CallR X (.builtin "sum") (rSum K) := by
  subst h
  exact cr_sum hc
theorem crAll (K : PySem.W.Frag) (hc : X.calm = true) (h : X.K = K := by rfl) : CallR X (.builtin "all") (rAll K) := by
  subst h
  exact cr_all hc
theorem isiK (K : PySem.W.Frag) (h : X.K = K := by rfl) : CallR X (.builtin "isinstance") (rIsi K) := by
  subst h
  exact call_isi
theorem opCatA (K : PySem.W.Frag) (h : X.K = K := by rfl) : OpR X (binaryOp .Add) (rCatA K) := by
  subst h
  exact op_catA
theorem slL (K : PySem.W.Frag) (h : X.K = K := by rfl) : SlR X (rSlL K) := by
  subst h
  exact sl_list
def rJoin (K : PySem.W.Frag) : V → List V → Hp → VK → Prop := fun x xs H Q => ∃ (a : Str) (p : Addr) (ys : List Str), x = .str a ∧ xs = [.ref p] ∧ (SqL K H p (ys.map V.str) ∨ SqT K H p (ys.map V.str)) ∧ (ys.map (·.length)).sum + ys.length * a.length ≤ 16777216 ∧ Q (.str (Txt.join a ys)) H
theorem mtJoin (K : PySem.W.Frag) (h : X.K = K := by rfl) : MtR X "str.join" (rJoin K) := by
  subst h
  exact mt_join
theorem slTA (K : PySem.W.Frag) (h : X.K = K := by rfl) : SlR X (rSlA K) := by
  subst h
  exact sl_tupA
/-- a built-in class as a value -/
theorem pe_ty {x : Str} {pos : Pos} (t : String) (hg : Gl X x) (hm : X.mg x = none) (hv : bootBuiltins x = some (.type t)) (hn : x ≠ "__name__" := by decide +kernel) (hd : (x == ("__debug__" : Str)) = false := by decide +kernel) : PE X (.Name x pos) (tC (.ty t)) := pe_bltn hg hm hv rfl hn hd
end


end
section
theorem Vals.rev : ∀ {xs : List V} {us : List Value}, Vals xs us → Vals xs.reverse us.reverse
  | _, _, .nil => .nil
  | _, _, .cons r t => by
    rw [List.reverse_cons, List.reverse_cons]
    exact Vals.append (Vals.rev t) (.cons r .nil)
theorem Fun.kb {K : PySem.W.Frag} {x qual : Str} {st : Stmt} {f : Addr} {fd : FuncData} {ps ks : List Str} {g : List Value → List Value → List Value} {gV : List V → List V → List V} (F : Fun K x qual st f fd) (n : Nat)
    (h : ∀ (kV doc pm : Value) (an : Option Addr) (cdv ct : Value) (us ws : List Value), us.length = n → ws.length = ks.length → bindArgs (PySem.W.fnOf x qual (defArgs st) (defBody st) (defScope st) .none kV doc pm an cdv ct) ⟨us, ks.zip ws⟩ = pure (ps.zip (g us ws)))
    (hrel : ∀ {vs : List V} {us : List Value} {zs : List V} {ws : List Value}, Vals vs us → Vals zs ws → Vals (gV vs zs) (g us ws)) : KBn K fd ps n ks g gV := by
  obtain ⟨oc, od, kV, doc, pm, an, cdv, ct, osl, rfl, lk, hcd⟩ := F.ex
  exact ⟨fun s us ws _ l1 l2 => .of_eq (h kV doc pm an cdv ct us ws l1 l2), hrel⟩

/-! ### own errors -/
structure Exn (K : PySem.W.Frag) (mg : Str → Option Value) (x : Str) (C : Addr) : Prop where
  inn : PySem.W.excIn K C [.type "ValueError", .type "Exception", .type "BaseException", .type "object"] "ValueError.__new__" = true
  gl : mg x = some (.ref C)
  kp : PySem.W.keepIn K (.ref C) = true
  ba : PySem.W.subIn K (.ref C) (.type "BaseException") = some true
  ty : PySem.W.typeIn K (.ref C) = some (.type "type")
section
variable {X : Cx} {C : Addr} {x m : Str} {j k i : Nat} {p p2 pos pos2 : Pos} {W : WX} {sp : Sp} {e : Expr} {es : List Expr} {t : TA}
theorem ps_raiseE (e : Exn X.K X.mg x C) (hc : X.calm = true) (tk : Takes X W) (hg : Gl X x) (hdb : (x == ("__debug__" : Str)) = false := by decide) :
    PS X (.Raise (some (.Call (.Name x p) [.Constant (.str m) j p2] [] pos)) none pos2) (fun _ σ H => W (.ref C) none σ H) :=
  ps_raise hc tk (pmk_own PySem.F.excBase_ValueError e.inn e.gl e.kp (raises_own e.ba e.ty) hg hdb)
theorem pe_clX (c : Cl X.prog X.w X.K X.mg X.base (L2.CX X.prog X.w) k x sp) (hr : Room i X.A) (hk : k ≤ i) (hg : Gl X x) (tk : Takes X W) (ha : PA X (e :: es) t)
    (hdb : (x == ("__debug__" : Str)) = false := by decide) (he : starEach (e :: es) X.env = (false, eval e X.env) :: starEach es X.env := by rfl) (hpl : (backTo pos (starEach es X.env)).any (·.1) = false := by rfl) :
    PE X (.Call (.Name x p) (e :: es) [] pos) (tCallS sp (WE W) t) := by
  obtain ⟨f, fd, ps, F, hm, kp, b⟩ := c.ex
  exact pe_callS F (hr.mono hk) hg hm kp b (fun σ => passAt tk σ) ha hdb he hpl
end

/-! ### data: what a value is, to any depth -/
theorem dp_all_len {K : PySem.W.Frag} {H : Hp} : ∀ {vs : List V} {ds : List PyData}, DpAll K H vs ds → vs.length = ds.length
  | _, _, .nil => rfl
  | _, _, .cons _ t => congrArg Nat.succ (dp_all_len t)
theorem dp_all_get {K : PySem.W.Frag} {H : Hp} : ∀ {vs : List V} {ds : List PyData} {i : Nat} {v : V}, DpAll K H vs ds → vs[i]? = some v → ∃ d, ds[i]? = some d ∧ Dp K H v d
  | _, _, _, _, .nil, h => by simp at h
  | _, _, 0, v, .cons h t, e => by
    have e' := Option.some.inj e
    subst e'
    exact ⟨_, rfl, h⟩
  | _, _, i + 1, v, .cons h t, e => dp_all_get (i := i) t e
theorem same_sqt {K : PySem.W.Frag} {H H' : Hp} {a : Addr} {xs : List V} (e : Same H H') (h : SqT K H a xs) : SqT K H' a xs := by
  rcases h with (h | ⟨o, h⟩) | h
  · exact .inl (.inl (e _ _ h))
  · exact .inl (.inr ⟨o, e _ _ h⟩)
  · exact .inr h
mutual
theorem dp_same {K : PySem.W.Frag} {H H' : Hp} (e : Same H H') : ∀ (d : PyData) {v : V}, Dp K H v d → Dp K H' v d
  | .none, _, .non => .non
  | .bool _, _, .bl b => .bl b
  | .int _, _, .int i => .int i
  | .str _, _, .str x => .str x
  | .list ds, _, .lst hs ha => .lst (e.seq hs) (dps_same e ds ha)
  | .tuple ds, _, .tup hs ha => .tup (same_sqt e hs) (dps_same e ds ha)
  | .dict _, _, h => by cases h
theorem dps_same {K : PySem.W.Frag} {H H' : Hp} (e : Same H H') : ∀ (ds : List PyData) {vs : List V}, DpAll K H vs ds → DpAll K H' vs ds
  | [], _, .nil => .nil
  | d :: ds, _, .cons h t => .cons (dp_same e d h) (dps_same e ds t)
end
def okT (x : Str) : Prop := PySem.PyData.strOk x = true ∧ x.length ≤ 5000
/-- plain data of so many levels at most, nothing large -/
def Gd : Nat → PyData → Prop
  | 0, d => match d with
    | .none => True
    | .bool _ => True
    | .int _ => True
    | .str x => okT x
    | _ => False
  | n + 1, d => match d with
    | .none => True
    | .bool _ => True
    | .int _ => True
    | .str x => okT x
    | .list xs => xs.length ≤ 5000 ∧ ∀ x ∈ xs, Gd n x
    | .tuple xs => xs.length ≤ 5000 ∧ ∀ x ∈ xs, Gd n x
    | .dict _ => False
theorem gd_str {n : Nat} {x : Str} (h : Gd n (.str x)) : okT x := by
  cases n with
  | zero => exact h
  | succ n => exact h
theorem gd_tup {n : Nat} {xs : List PyData} (h : Gd n (.tuple xs)) : xs.length ≤ 5000 ∧ ∃ m, n = m + 1 ∧ ∀ x ∈ xs, Gd m x := by
  cases n with
  | zero => exact h.elim
  | succ n => exact ⟨h.1, n, rfl, h.2⟩
theorem gd_lst {n : Nat} {xs : List PyData} (h : Gd n (.list xs)) : xs.length ≤ 5000 ∧ ∃ m, n = m + 1 ∧ ∀ x ∈ xs, Gd m x := by
  cases n with
  | zero => exact h.elim
  | succ n => exact ⟨h.1, n, rfl, h.2⟩
theorem gd_up : ∀ {n : Nat} {d : PyData}, Gd n d → Gd (n + 1) d
  | 0, .none, h => h
  | 0, .bool _, h => h
  | 0, .int _, h => h
  | 0, .str _, h => h
  | n + 1, .none, h => h
  | n + 1, .bool _, h => h
  | n + 1, .int _, h => h
  | n + 1, .str _, h => h
  | n + 1, .list xs, h => ⟨h.1, fun x hx => gd_up (h.2 x hx)⟩
  | n + 1, .tuple xs, h => ⟨h.1, fun x hx => gd_up (h.2 x hx)⟩
theorem gd_le {n m : Nat} {d : PyData} (h : Gd n d) (hm : n ≤ m) : Gd m d := by
  induction hm with
  | refl => exact h
  | step _ ih => exact gd_up ih
theorem depthAll_le {n : Nat} : ∀ {xs : List PyData}, (∀ x ∈ xs, x.depth ≤ n) → PyData.depthAll xs ≤ n
  | [], _ => by
    unfold PyData.depthAll
    exact Nat.zero_le _
  | x :: xs, h => by
    unfold PyData.depthAll
    exact Nat.max_le.mpr ⟨h x List.mem_cons_self, depthAll_le fun y hy => h y (List.mem_cons_of_mem _ hy)⟩
theorem layAll_of : ∀ {xs : List PyData}, (∀ x ∈ xs, x.canLay0 = true) → PyData.canLayAll0 xs = true
  | [], _ => by
    unfold PyData.canLayAll0
    rfl
  | x :: xs, h => by
    unfold PyData.canLayAll0
    rw [h x List.mem_cons_self, layAll_of fun y hy => h y (List.mem_cons_of_mem _ hy)]
    rfl
theorem gd_facts : ∀ {n : Nat} {d : PyData}, Gd n d → d.canLay0 = true ∧ d.depth ≤ n
  | 0, .none, h => ⟨by unfold PyData.canLay0; rfl, by unfold PyData.depth; omega⟩
  | 0, .bool _, h => ⟨by unfold PyData.canLay0; rfl, by unfold PyData.depth; omega⟩
  | 0, .int _, h => ⟨by unfold PyData.canLay0; rfl, by unfold PyData.depth; omega⟩
  | 0, .str _, h => ⟨by unfold PyData.canLay0; exact h.1, by unfold PyData.depth; omega⟩
  | n + 1, .none, h => ⟨by unfold PyData.canLay0; rfl, by unfold PyData.depth; omega⟩
  | n + 1, .bool _, h => ⟨by unfold PyData.canLay0; rfl, by unfold PyData.depth; omega⟩
  | n + 1, .int _, h => ⟨by unfold PyData.canLay0; rfl, by unfold PyData.depth; omega⟩
  | n + 1, .str _, h => ⟨by unfold PyData.canLay0; exact h.1, by unfold PyData.depth; omega⟩
  | n + 1, .list xs, h => ⟨by unfold PyData.canLay0; exact layAll_of fun x hx => (gd_facts (h.2 x hx)).1, by
      unfold PyData.depth
      have := depthAll_le fun x hx => (gd_facts (h.2 x hx)).2
      omega⟩
  | n + 1, .tuple xs, h => ⟨by unfold PyData.canLay0; exact layAll_of fun x hx => (gd_facts (h.2 x hx)).1, by
      unfold PyData.depth
      have := depthAll_le fun x hx => (gd_facts (h.2 x hx)).2
      omega⟩
theorem gd_shaped {n : Nat} {d : PyData} (h : Gd n d) (hn : n ≤ 64) : SeqAt.shaped d = true := by
  obtain ⟨h1, h2⟩ := gd_facts h
  unfold SeqAt.shaped
  rw [h1, decide_eq_true (Nat.le_trans h2 hn)]
  rfl
/-! ### types -/
def tyN : PyData → String
  | .none => "NoneType"
  | .bool _ => "bool"
  | .int _ => "int"
  | .str _ => "str"
  | .list _ => "list"
  | .tuple _ => "tuple"
  | .dict _ => "dict"
theorem dp_ty {K : PySem.W.Frag} {H : Hp} {v : V} : ∀ {d : PyData}, Dp K H v d → TyX K H v (.type (tyN d))
  | _, .non => .base .non
  | _, .bl b => .base (.bl b)
  | _, .int i => .base (.int i)
  | _, .str x => .base (.str x)
  | _, .lst hs _ => by
    rcases hs with (h | ⟨o, h⟩) | ⟨o, _, _, h, hc, _⟩
    · exact .base (.lst h)
    · exact .base (.frz h)
    · exact .kList h hc
  | _, .tup hs _ => by
    rcases hs with (h | ⟨o, h⟩) | ⟨o, _, _, h, hc, _⟩
    · exact .base (.tup h)
    · exact .fTuple h
    · exact .kTuple h hc
def isInt : PyData → Bool
  | .int _ => true
  | .bool _ => true
  | _ => false
def isBool : PyData → Bool
  | .bool _ => true
  | _ => false
def isStr : PyData → Bool
  | .str _ => true
  | _ => false
def isTup : PyData → Bool
  | .tuple _ => true
  | _ => false
theorem kit_int {K : PySem.W.Frag} (d : PyData) : PySem.W.kitOne K (.type (tyN d)) (.type "int") = some (isInt d) := by
  cases d with
  | none => exact kit_ty (show kitB "NoneType" "int" = some false by decide +kernel)
  | bool _ => exact kit_ty (show kitB "bool" "int" = some true by decide +kernel)
  | int _ => exact kit_ty (show kitB "int" "int" = some true by decide +kernel)
  | str _ => exact kit_ty (show kitB "str" "int" = some false by decide +kernel)
  | list _ => exact kit_ty (show kitB "list" "int" = some false by decide +kernel)
  | tuple _ => exact kit_ty (show kitB "tuple" "int" = some false by decide +kernel)
  | dict _ => exact kit_ty (show kitB "dict" "int" = some false by decide +kernel)
theorem kit_bool {K : PySem.W.Frag} (d : PyData) : PySem.W.kitOne K (.type (tyN d)) (.type "bool") = some (isBool d) := by
  cases d with
  | none => exact kit_ty (show kitB "NoneType" "bool" = some false by decide +kernel)
  | bool _ => exact kit_ty (show kitB "bool" "bool" = some true by decide +kernel)
  | int _ => exact kit_ty (show kitB "int" "bool" = some false by decide +kernel)
  | str _ => exact kit_ty (show kitB "str" "bool" = some false by decide +kernel)
  | list _ => exact kit_ty (show kitB "list" "bool" = some false by decide +kernel)
  | tuple _ => exact kit_ty (show kitB "tuple" "bool" = some false by decide +kernel)
  | dict _ => exact kit_ty (show kitB "dict" "bool" = some false by decide +kernel)
theorem kit_str {K : PySem.W.Frag} (d : PyData) : PySem.W.kitOne K (.type (tyN d)) (.type "str") = some (isStr d) := by
  cases d with
  | none => exact kit_ty (show kitB "NoneType" "str" = some false by decide +kernel)
  | bool _ => exact kit_ty (show kitB "bool" "str" = some false by decide +kernel)
  | int _ => exact kit_ty (show kitB "int" "str" = some false by decide +kernel)
  | str _ => exact kit_ty (show kitB "str" "str" = some true by decide +kernel)
  | list _ => exact kit_ty (show kitB "list" "str" = some false by decide +kernel)
  | tuple _ => exact kit_ty (show kitB "tuple" "str" = some false by decide +kernel)
  | dict _ => exact kit_ty (show kitB "dict" "str" = some false by decide +kernel)
theorem kit_tup {K : PySem.W.Frag} (d : PyData) : PySem.W.kitOne K (.type (tyN d)) (.type "tuple") = some (isTup d) := by
  cases d with
  | none => exact kit_ty (show kitB "NoneType" "tuple" = some false by decide +kernel)
  | bool _ => exact kit_ty (show kitB "bool" "tuple" = some false by decide +kernel)
  | int _ => exact kit_ty (show kitB "int" "tuple" = some false by decide +kernel)
  | str _ => exact kit_ty (show kitB "str" "tuple" = some false by decide +kernel)
  | list _ => exact kit_ty (show kitB "list" "tuple" = some false by decide +kernel)
  | tuple _ => exact kit_ty (show kitB "tuple" "tuple" = some true by decide +kernel)
  | dict _ => exact kit_ty (show kitB "dict" "tuple" = some false by decide +kernel)
/-! ### what a block is -/
def whole : PyData → Int → Int → Bool
  | .int i, lo, hi => decide (lo ≤ i) && decide (i ≤ hi)
  | _, _, _ => false
def strLen (m : Int) : PyData → Bool
  | .str x => decide ((x.length : Int) = m)
  | _ => false
def bitRow (m : Int) : PyData → Bool
  | .str x => decide ((x.length : Int) = m) && x.cps.toList.all (fun c => c == 48 || c == 49)
  | _ => false
def rowsOk : PyData → Int → Int → Bool
  | .tuple xs, many, m => decide ((xs.length : Int) = many) && xs.all (bitRow m)
  | _, _, _ => false
def named (x : Str) (d : PyData) : Bool := PyData.eqv d (.str x)
def genRows : PyData → PyData → PyData → Bool
  | .int n, .int m, r => rowsOk r (1 * 2 ^ n.toNat) m
  | _, _, _ => false
def genOk : PyData → Bool
  | .tuple [k, n, m, r] => named "generator" k && whole n 1 10 && whole m 1 40 && genRows n m r
  | _ => false
def sumLe : PyData → PyData → Bool
  | .int n, .int l => decide (n + l ≤ 12)
  | _, _ => false
def funTabs : PyData → PyData → PyData → PyData → Bool
  | .int n, .int l, .int m, .tuple ts => decide ((ts.length : Int) = 1 * 2 ^ n.toNat) && ts.all (fun r => rowsOk r (1 * 2 ^ l.toNat) m)
  | _, _, _, _ => false
def funOk : PyData → Bool
  | .tuple [k, n, l, m, t] => named "function" k && whole n 1 8 && whole l 1 8 && sumLe n l && whole m 1 40 && funTabs n l m t
  | _ => false
theorem gen_no {xs : List PyData} (h : ¬ xs.length = 4) : genOk (.tuple xs) = false := by
  unfold genOk
  split
  · rename_i e
    cases e
    exact absurd rfl h
  · rfl
theorem fun_no {xs : List PyData} (h : ¬ xs.length = 5) : funOk (.tuple xs) = false := by
  unfold funOk
  split
  · rename_i e
    cases e
    exact absurd rfl h
  · rfl
def blockOk (d : PyData) : Bool := genOk d || funOk d
/-! ### strip of 0 and 1 -/
theorem strip_all (x : Str) : decide (V.str (Txt.stripChars x "01") = V.str "") = x.cps.toList.all (fun c => c == 48 || c == 49) := by
  have goes : ∀ c : Nat, (("01" : Str).cps.contains c) = (c == 48 || c == 49) := fun c => by
    show (#[48, 49] : Array Nat).contains c = _
    by_cases h1 : c = 48
    · subst h1
      simp
    · by_cases h2 : c = 49
      · subst h2
        simp
      · simp [h1, h2]
  have hn : x.cps.toList.length = x.length := by simp [Str.length]
  have key : Txt.stripChars x "01" = "" ↔ ∀ k, k < x.length → (("01" : Str).cps.contains (x.cps.getD k 0)) = true := by
    unfold Txt.stripChars
    rw [stripBy_eq]
    obtain ⟨a1, a2, a3⟩ := lo_facts ("01" : Str).cps.contains x
    obtain ⟨b1, b2, b3, _⟩ := hi_facts ("01" : Str).cps.contains x _ a1
    generalize stripLo ("01" : Str).cps.contains true x = lo at a1 a2 a3 b1 b2 b3
    generalize stripHi ("01" : Str).cps.contains true x lo = hi at b1 b2 b3
    have hl : (Builtin.Str.strSub x lo hi).cps.toList = (x.cps.toList.drop lo).take (hi - lo) := PySem.StrLaws.strSub_toList x lo hi
    constructor
    · intro e k hk
      have h0 : (x.cps.toList.drop lo).take (hi - lo) = [] := by
        rw [← hl, e]
        rfl
      have h1 := congrArg List.length h0
      rw [List.length_take, List.length_drop, hn] at h1
      have h2 : min (hi - lo) (x.length - lo) = 0 := h1
      by_cases hk' : k < lo
      · exact a2 k hk'
      · exact b3 k (by omega) hk
    · intro h
      have e : lo = x.length := by
        rcases a3 with z | z
        · exact z
        · by_cases c : lo < x.length
          · rw [h lo c] at z
            cases z
          · omega
      refine TL.ext_tl ?_
      show (Builtin.Str.strSub x lo hi).cps.toList = []
      rw [hl, List.drop_eq_nil_of_le (by omega)]
      exact List.take_nil
  have e2 : (∀ k, k < x.length → (("01" : Str).cps.contains (x.cps.getD k 0)) = true) ↔ x.cps.toList.all (fun c => c == 48 || c == 49) = true := by
    rw [List.all_eq_true]
    constructor
    · intro h c hc
      obtain ⟨k, hk, e⟩ := List.getElem_of_mem hc
      have := h k (by omega)
      rw [← getD_list, List.getD_eq_getElem?_getD, List.getElem?_eq_getElem hk] at this
      rw [← goes c, ← e]
      exact this
    · intro h k hk
      rw [← getD_list, List.getD_eq_getElem?_getD, List.getElem?_eq_getElem (by omega)]
      rw [goes]
      exact h _ (List.getElem_mem _)
  by_cases c : Txt.stripChars x "01" = ""
  · rw [c, decide_eq_true rfl]
    exact (e2.mp (key.mp c)).symm
  · rw [decide_eq_false fun z => c (V.str.inj z)]
    cases hq : x.cps.toList.all (fun c => c == 48 || c == 49)
    · rfl
    · exact absurd (key.mpr (e2.mpr hq)) c
/-! ### what the law makes -/
def rowsD (rows : List (List Bool)) : PyData := .tuple (rows.map fun r => .str (sb r))
def tabD (n m : Nat) (rows : List (List Bool)) : PyData := .tuple [.str "generator", .int (n : Int), .int (m : Int), rowsD rows]
def funD (n l m : Nat) (tabs : List (List (List Bool))) : PyData := .tuple [.str "function", .int (n : Int), .int (l : Int), .int (m : Int), .tuple (tabs.map rowsD)]
theorem dp_bits {K : PySem.W.Frag} {H : Hp} : ∀ rows : List (List Bool), DpAll K H (rows.map fun r => V.str (sb r)) (rows.map fun r => PyData.str (sb r))
  | [] => .nil
  | r :: rows => .cons (.str _) (dp_bits rows)
theorem dpAll_snoc {K : PySem.W.Frag} {H : Hp} {v : V} {d : PyData} : ∀ {vs : List V} {ds : List PyData}, DpAll K H vs ds → Dp K H v d → DpAll K H (vs ++ [v]) (ds ++ [d])
  | _, _, .nil, h => .cons h .nil
  | _, _, .cons h t, h' => .cons h (dpAll_snoc t h')


end
section
/-! ### functions made while the program runs: lambdas, defs within defs -/
/-- the words, the captured cells, the code object -/
structure CF where
  name : Str
  qual : Str
  params : Arguments
  body : FuncBody
  scope : Scope
  cl : List (Str × Addr)
  c : Addr
def CF.fd (F : CF) (doc pm ct : Value) : FuncData where
  name := F.name
  qualname := F.qual
  params := F.params
  body := F.body
  scope := F.scope
  globals := mainGlobals
  closure := F.cl
  defaults := .none
  kwdefaults := .none
  doc := doc
  pyModule := pm
  annotations := none
  code := .ref F.c
  closureTuple := ct
  builtins := builtinsNs
/-- the object is the function F -/
def FnOb (F : CF) (ob : Obj) : Prop := ∃ (od : Option Addr) (sl : Array (Option Value)) (doc pm ct : Value), ob = ⟨.type "function", od, .func (F.fd doc pm ct), sl⟩
def NameC (h : Heap) (c : Addr) (q : Str) : Prop := ∃ (oc : Obj) (us : Array Value) (tk : Tok), h.get? c = some oc ∧ oc.data = .fields us ∧ us[1]? = some (.str q tk)
/-- the object (at c) is a code object of the name q with the table at T -/
def CodeOb (c : Addr) (q : Str) (T : Addr) (ob : Obj) : Prop := (∃ us, ob.data = .fields us) ∧ ∀ h : Heap, h.get? c = some ob → PySem.W.CodeHd h c T ∧ NameC h c q
/-- a thing that never changes again -/
abbrev fz (ob : Obj) : HO := .frz ob (.own 0)
def FnAtH (H : Hp) (f : Addr) (F : CF) : Prop := ∃ ob, H f = some (fz ob) ∧ FnOb F ob
def CodeAtH (H : Hp) (c : Addr) (q : Str) (T : Addr) : Prop := ∃ ob, H c = some (fz ob) ∧ CodeOb c q T ob
theorem codeOb_of {h : Heap} {c T : Addr} {q : Str} (e : PySem.W.CodeHd h c T) (n : NameC h c q) : ∃ ob, h.get? c = some ob ∧ CodeOb c q T ob := by
  obtain ⟨o, vs, fi, tf, fl, tg, iF, tx, tt, e1, r⟩ := e
  obtain ⟨oc, us, tk, e2, r2⟩ := n
  rw [e1] at e2
  cases e2
  exact ⟨o, e1, ⟨us, r2.1⟩, fun g eg => ⟨⟨o, vs, fi, tf, fl, tg, iF, tx, tt, eg, r⟩, ⟨o, us, tk, eg, r2⟩⟩⟩
abbrev tabOf (ps : Array Value) : Obj := { cls := .none, data := .fields ps }
section
variable {M : Model} {A : Around} {E : Value → Shared → Prop} {s : Shared} {name qual : Str} {params : Arguments} {body : FuncBody} {scope : Scope} {env : Env} {c T : Addr} {ps : Array Value} {pos : Pos} {ln : Nat} {mg : Str → Option Value}
  {clos : List (Str × Addr)} {Q : Value → Shared → Prop}
/-- the function object is laid, its code object being new -/
theorem mk_tail (hcl : closureFor scope env = pure clos) (eg : env.globals = mainGlobals) (G : s.heap.Ns mainGlobals mg) (ec : env.code = .ref c)
    (C : PySem.W.CodeHd s.heap c T) (hT : s.heap.get? T = some (tabOf ps)) (tr : TriplesOk ps.toList)
    (nf : codeAmong pos ps.toList = none) (gT : mainGlobals ≠ T) (B : s.heap.BuiltinsAt mg T)
    (k : ∀ (c' T' : Addr) (ct doc : Value) (h' : Heap) (tk : Tok), Heap.ExtBut T s.heap h' → s.heap.objs.size ≤ c' → s.heap.objs.size ≤ T' → c' < h'.objs.size → T' < h'.objs.size →
      h'.CodeRec (.ref c') qual → PySem.W.CodeHd h' c' T' → h'.get? T' = some (tabOf #[]) →
      h'.get? T = some (tabOf (ps ++ #[rawInt pos.line, rawInt pos.col, .ref c'])) →
      Q (.ref h'.objs.size) { s with heap := h'.push { cls := .type "function", data := .func (CF.fd ⟨name, qual, params, body, scope, clos, c'⟩ doc ((mg "__name__").getD .none) ct) }, toks := tk }) :
    wpAny M A (makeTail name qual params body scope env .none .none none pos ln) Q E s := by
  obtain ⟨bm, ob, b1, b2, _, b4, b5, b6, b7, b8⟩ := B
  have stop : ∀ (g : Heap) (ct : Value) (c' T' : Addr) (h' : Heap) (tk : Tok), (∀ b o, s.heap.get? b = some o → g.get? b = some o) → s.heap.objs.size ≤ g.objs.size → Heap.ExtBut T g h' → g.objs.size ≤ c' → g.objs.size ≤ T' → c' < h'.objs.size →
      h'.CodeRec (.ref c') qual → h'.IsCode c' T' #[] → h'.TableAt c' T' #[] → h'.TableAt c T (ps ++ #[rawInt pos.line, rawInt pos.col, .ref c']) →
      h'.Ns mainGlobals mg ∧ h'.get? bm = some ob ∧ ∀ (doc : Value) (tk : Tok), Q (.ref h'.objs.size) { s with heap := h'.push { cls := .type "function", data := .func (CF.fd ⟨name, qual, params, body, scope, clos, c'⟩ doc ((mg "__name__").getD .none) ct) }, toks := tk } := by
    intro g ct c' T' h' tk kp sz ex l1 l2 l3 rc ic ta tb
    have ex2 : Heap.ExtBut T s.heap h' := fun b o nb e => ex b o nb (kp b o e)
    refine ⟨G.extBut ex2 gT, ex2 _ _ b4 b5, fun doc tk => ?_⟩
    exact k c' T' ct doc h' tk ex2 (Nat.le_trans sz l1) (Nat.le_trans sz l2) l3 (Heap.lt_size ta.2) rc (PySem.W.CodeHd.of ic ta) ta.2 tb.2
  unfold makeTail
  rw [hcl, eg]
  refine wpAny_bind (wpAny_pure ?_)
  have sizeOf : ∀ (fd : FuncData), sizeOk (.func fd) := fun fd => by size_fits
  have after : ∀ (g : Heap) (ct : Value), (∀ b o, s.heap.get? b = some o → g.get? b = some o) → s.heap.objs.size ≤ g.objs.size →
      ∀ R : Value → Shared → Prop, (∀ (c' : Addr) (h' : Heap) (tk : Tok), (h'.Ns mainGlobals mg ∧ h'.get? bm = some ob ∧
        ∀ (doc : Value) (tk : Tok), Q (.ref h'.objs.size) { s with heap := h'.push { cls := .type "function", data := .func (CF.fd ⟨name, qual, params, body, scope, clos, c'⟩ doc ((mg "__name__").getD .none) ct) }, toks := tk }) →
        R (.ref c') { s with heap := h', toks := tk }) → wpAny M A (functionCode env pos ln name qual params scope body) R E { s with heap := g } := by
    intro g ct kp sz R hR
    have Cg := C.keeps kp
    have Tg : g.get? T = some (tabOf ps) := kp _ _ hT
    refine wpAny_functionCodeX (s := { s with heap := g }) ec (Cg.code Tg tr) (Cg.tab Tg) nf fun c' h' tk ex l1 l3 _ rc tb ⟨T', l2, ic, ta⟩ => ?_
    exact hR c' h' tk (stop g ct c' T' h' tk kp sz ex l1 l2 l3 rc ic ta tb)
  cases clos with
  | nil =>
    rw [show ([] : List (Str × Addr)).isEmpty = true from rfl, if_pos rfl]
    refine wpAny_bind (wpAny_pure (wpAny_bind (after s.heap .none (fun _ _ e => e) (Nat.le_refl _) _ fun c' h' tk ⟨n1, n2, n3⟩ => ?_)))
    refine wpAny_bind (wpAny_builtinsFor n1 b1 b2 n2 b6 b7 b8 (wpAny_bind (wpAny_nsGet n1 ?_)))
    cases body with
    | expr e => exact wpAny_bind (wpAny_pure (wpAny_newObj_type (n3 _ _) (sizeOf _)))
    | stmts b =>
      cases ed : docOf b with
      | none => simp only [ed]; exact wpAny_bind (wpAny_pure (wpAny_newObj_type (n3 _ _) (sizeOf _)))
      | some w => simp only [ed]; exact wpAny_bind (wpAny_mkText (wpAny_newObj_type (n3 _ _) (sizeOf _)))
  | cons y r =>
    rw [show (y :: r).isEmpty = false from rfl, if_neg (by decide)]
    have pk : ∀ b o, s.heap.get? b = some o → (s.heap.push { cls := .type "tuple", data := .seq (((y :: r).mergeSort fun a b => a.1.cps.toList ≤ b.1.cps.toList).map (Value.ref ·.2)).toArray }).get? b = some o := fun b o e => Heap.get?_push_of_some _ e
    refine wpAny_bind (wpAny_newTextTuple (wpAny_bind (after _ (.ref s.heap.objs.size) pk (by rw [Heap.size_push]; omega) _ fun c' h' tk ⟨n1, n2, n3⟩ => ?_)))
    refine wpAny_bind (wpAny_builtinsFor n1 b1 b2 n2 b6 b7 b8 (wpAny_bind (wpAny_nsGet n1 ?_)))
    cases body with
    | expr e => exact wpAny_bind (wpAny_pure (wpAny_newObj_type (n3 _ _) (sizeOf _)))
    | stmts b =>
      cases ed : docOf b with
      | none => simp only [ed]; exact wpAny_bind (wpAny_pure (wpAny_newObj_type (n3 _ _) (sizeOf _)))
      | some w => simp only [ed]; exact wpAny_bind (wpAny_mkText (wpAny_newObj_type (n3 _ _) (sizeOf _)))
/-- .. its code object being there -/
theorem mk_hit {c' : Addr} (hcl : closureFor scope env = pure clos) (eg : env.globals = mainGlobals) (G : s.heap.Ns mainGlobals mg) (ec : env.code = .ref c)
    (C : PySem.W.CodeHd s.heap c T) (hT : s.heap.get? T = some (tabOf ps)) (tr : TriplesOk ps.toList) (hc : codeAmong pos ps.toList = some (.ref c')) (B : s.heap.BuiltinsAt mg T)
    (k : ∀ (ct doc : Value) (h' : Heap) (tk : Tok), (∀ b o, s.heap.get? b = some o → h'.get? b = some o) → s.heap.objs.size ≤ h'.objs.size →
      Q (.ref h'.objs.size) { s with heap := h'.push { cls := .type "function", data := .func (CF.fd ⟨name, qual, params, body, scope, clos, c'⟩ doc ((mg "__name__").getD .none) ct) }, toks := tk }) :
    wpAny M A (makeTail name qual params body scope env .none .none none pos ln) Q E s := by
  cases body with
  | expr e => exact PySem.W.kla_makeTailHit hcl eg G ec C hT tr hc B fun ct h' tk kp sz => k ct .none h' tk kp sz
  | stmts b => exact PySem.W.makeTail_hit hcl eg G ec C hT tr hc B fun ct doc h' tk kp sz => k ct doc h' tk kp sz
end
/-! ### what is tracked of them -/
/-- the tables of code objects: what stands in one has the name of its place, and a table of its own -/
def Tb (NM : Nat → Nat → Str) : Nat → Hp → Addr → Prop
  | 0, H, T => ∃ ps, H T = some (.tbl ps)
  | n + 1, H, T => ∃ ps, H T = some (.tbl ps) ∧ TriplesOk ps.toList ∧ ∀ (pos : Pos) (cv : Value), codeAmong pos ps.toList = some cv →
      ∃ c' T', cv = .ref c' ∧ CodeAtH H c' (NM pos.line pos.col) T' ∧ Tb NM n H T'
theorem Tb.tbl {NM : Nat → Nat → Str} : ∀ {n : Nat} {H : Hp} {T : Addr}, Tb NM n H T → ∃ ps, H T = some (.tbl ps)
  | 0, _, _, h => h
  | _ + 1, _, _, ⟨ps, h, _⟩ => ⟨ps, h⟩
theorem Tb.less {NM : Nat → Nat → Str} : ∀ {n : Nat} {H : Hp} {T : Addr}, Tb NM (n + 1) H T → Tb NM n H T
  | 0, _, _, h => h.tbl
  | n + 1, _, _, ⟨ps, h, tr, k⟩ => ⟨ps, h, tr, fun pos cv e => by
      obtain ⟨c', T', e1, e2, e3⟩ := k pos cv e
      exact ⟨c', T', e1, e2, e3.less⟩⟩
theorem Tb.nil {NM : Nat → Nat → Str} {n : Nat} {H : Hp} {T : Addr} (h : H T = some (.tbl #[])) : Tb NM n H T := by
  cases n with
  | zero => exact ⟨_, h⟩
  | succ n => exact ⟨_, h, trivial, fun pos cv e => by simp [codeAmong] at e⟩
/-- what was tracked is so still -/
theorem Tb.ext {NM : Nat → Nat → Str} {H H' : Hp} (e : ∀ b o, H b = some o → H' b = some o) : ∀ {n : Nat} {T : Addr}, Tb NM n H T → Tb NM n H' T
  | 0, _, ⟨ps, h⟩ => ⟨ps, e _ _ h⟩
  | n + 1, _, ⟨ps, h, tr, k⟩ => ⟨ps, e _ _ h, tr, fun pos cv ec => by
      obtain ⟨c', T', e1, e2, e3⟩ := k pos cv ec
      exact ⟨c', T', e1, ⟨e2.choose, e _ _ e2.choose_spec.1, e2.choose_spec.2⟩, e3.ext e⟩⟩
/-- other objects may change -/
theorem Tb.but {NM : Nat → Nat → Str} {H H' : Hp} (et : ∀ b ps, H b = some (.tbl ps) → H' b = some (.tbl ps)) (ef : ∀ b ob, H b = some (fz ob) → H' b = some (fz ob)) : ∀ {n : Nat} {T : Addr}, Tb NM n H T → Tb NM n H' T
  | 0, _, ⟨ps, h⟩ => ⟨ps, et _ _ h⟩
  | n + 1, _, ⟨ps, h, tr, k⟩ => ⟨ps, et _ _ h, tr, fun pos cv ec => by
      obtain ⟨c', T', e1, ⟨ob, e2, e3⟩, e4⟩ := k pos cv ec
      exact ⟨c', T', e1, ⟨ob, ef _ _ e2, e3⟩, e4.but et ef⟩⟩
theorem among_more {pos at_ : Pos} {c' cv : Value} : ∀ {l : List Value}, TriplesOk l → codeAmong at_ (l ++ [rawInt pos.line, rawInt pos.col, c']) = some cv → codeAmong at_ l = some cv ∨ (cv = c' ∧ pos.line = at_.line ∧ pos.col = at_.col) := fun {l} tr h => NdefX.among_app2 l tr h
/-- a table has got one more code object, of the right name and with an empty table -/
theorem Tb.grown {NM : Nat → Nat → Str} {H H' : Hp} {T0 c' T' : Addr} {ps : Array Value} {pos : Pos} (hT : H T0 = some (.tbl ps)) (tr : TriplesOk ps.toList)
    (hT' : H' T0 = some (.tbl (ps ++ #[rawInt pos.line, rawInt pos.col, .ref c']))) (hc : CodeAtH H' c' (NM pos.line pos.col) T') (hn : H' T' = some (.tbl #[]))
    (e : ∀ b o, b ≠ T0 → H b = some o → H' b = some o) : ∀ {n : Nat} {T : Addr}, Tb NM n H T → Tb NM n H' T := by
  intro n
  induction n with
  | zero =>
    rintro T ⟨qs, h⟩
    by_cases z : T = T0
    · subst z; exact ⟨_, hT'⟩
    · exact ⟨_, e _ _ z h⟩
  | succ n ih =>
    rintro T ⟨qs, h, tq, k⟩
    have old : ∀ (at_ : Pos) (cv : Value), codeAmong at_ qs.toList = some cv → ∃ a b, cv = .ref a ∧ CodeAtH H' a (NM at_.line at_.col) b ∧ Tb NM n H' b := fun at_ cv ec => by
      obtain ⟨a, b, e1, ⟨ob, e2, e4⟩, e3⟩ := k at_ cv ec
      refine ⟨a, b, e1, ⟨ob, e _ _ (fun z => ?_) e2, e4⟩, ih e3⟩
      subst z
      rw [hT] at e2
      cases e2
    by_cases z : T = T0
    · subst z
      obtain rfl : ps = qs := by rw [hT] at h; exact HO.tbl.inj (Option.some.inj h)
      have el : (ps ++ #[rawInt pos.line, rawInt pos.col, Value.ref c']).toList = ps.toList ++ [rawInt pos.line, rawInt pos.col, .ref c'] := by simp
      refine ⟨_, hT', by rw [el]; exact TriplesOk_snoc _ _ _ _ tr, fun at_ cv ec => ?_⟩
      rw [el] at ec
      rcases among_more tr ec with q | ⟨q, q1, q2⟩
      · exact old at_ cv q
      · exact ⟨c', T', q, by rw [← q1, ← q2]; exact hc, Tb.nil hn⟩
    · exact ⟨qs, e _ _ z h, tq, old⟩


end
section
/-! ### a function is made: the abstract heap -/
structure Grow (NM : Nat → Nat → Str) (H H' : Hp) : Prop where
  kp : ∀ b o, H b = some o → (∀ ps, o ≠ .tbl ps) → H' b = some o
  tb : ∀ n T, Tb NM n H T → Tb NM n H' T
  no : ∀ b, H' b = none → H b = none
theorem Grow.refl {NM : Nat → Nat → Str} (H : Hp) : Grow NM H H := ⟨fun _ _ e _ => e, fun _ _ t => t, fun _ e => e⟩
theorem Grow.trans {NM : Nat → Nat → Str} {H H1 H2 : Hp} (a : Grow NM H H1) (b : Grow NM H1 H2) : Grow NM H H2 :=
  ⟨fun c o e n => b.kp c o (a.kp c o e n) n, fun n T t => b.tb n T (a.tb n T t), fun c e => a.no c (b.no c e)⟩
theorem upd_no {H : Hp} {a b : Addr} {o : HO} (e : upd H a o b = none) : H b = none := by
  unfold upd at e
  split at e
  · cases e
  · exact e
/-- a new object -/
theorem Grow.new {NM : Nat → Nat → Str} {H : Hp} {a : Addr} {o : HO} (n : H a = none) : Grow NM H (upd H a o) :=
  ⟨fun b u e _ => (upd_ne (ne_of_none e n)).trans e, fun _ _ t => t.ext fun b u e => (upd_ne (ne_of_none e n)).trans e, fun _ e => upd_no e⟩
/-- the builtins as the module's names show them -/
def BlOk (base : Heap) (mg : Str → Option Value) : Prop :=
  ∃ bm ob, mg "__builtins__" = some (.ref bm) ∧ bm ≠ builtinsNs ∧ bm ≠ mainGlobals ∧ base.get? bm = some ob ∧ ob.cls = .type "module" ∧ ob.dict = some builtinsNs ∧ ob.data = .plain
theorem BlOk.of {base : Heap} {mg : Str → Option Value} {T : Addr} (h : base.BuiltinsAt mg T) : BlOk base mg := by
  obtain ⟨bm, ob, h1, h2, h3, _, h5⟩ := h
  exact ⟨bm, ob, h1, h2, h3, h5⟩
/-- the running code object and its table -/
def RunC (base : Heap) (H : Hp) (c T : Addr) : Prop := PySem.W.CodeHd base c T ∨ ∃ q, CodeAtH H c q T
section
variable {X : Cx} {pins : List (Addr × Obj)} {σ : L2.St} {H H' : Hp} {s : Shared} {c T : Addr}
theorem inv_grow (I : Inv X pins σ H s) {h' : Heap} {tk : Nat} (kp : ∀ b o, H b = none → s.heap.get? b = some o → h'.get? b = some o) (th : ∀ b o, s.heap.get? b = some o → ∃ o', h'.get? b = some o')
    (old : ∀ b, b < s.heap.objs.size → H' b = H b ∨ ∃ ps more, H b = some (.tbl ps) ∧ H' b = some (.tbl (ps ++ more))) (ok : HOk X.prog X.w H' h') : Inv X pins σ H' { s with heap := h', toks := tk } := by
  have same : ∀ b o, H b = some o → (∀ ps, o ≠ .tbl ps) → H' b = some o := fun b o e n => by
    rcases old b (I.hok.lt e) with z | ⟨ps, _, z, _⟩
    · rw [z]; exact e
    · rw [z] at e; exact absurd (Option.some.inj e).symm (n ps)
  refine I.step (g' := s.gens) (d' := s.drawn) (ch := []) (fun b hb => absurd hb (by simp)) (fun b o _ _ _ e n => kp b o n e) (fun b o _ _ _ e n => ⟨o.slots, kp b o n e⟩) (fun b o _ e n => ?_) (fun b o _ e => th b o e)
    (fun b xs e => same b _ e (fun _ z => by cases z)) (fun b o u e => same b _ e (fun _ z => by cases z)) (fun b ps e => ?_) (fun m hn => ?_) ok I.bare
  · rcases old b (Heap.lt_size e) with z | ⟨ps, _, z, _⟩
    · rw [z]; exact n
    · rw [z] at n; cases n
  · rcases old b (I.hok.lt e) with z | ⟨qs, more, z, z2⟩
    · exact ⟨#[], by rw [z, e]; simp⟩
    · rw [z] at e; cases e; exact ⟨more, z2⟩
  · obtain ⟨ob, es, ep, ho, r⟩ := hn
    exact ⟨ob, es, ep, kp _ ob I.free ho, r⟩
theorem RunC.hd (r : RunC X.base H c T) (I : Inv X pins σ H s) : PySem.W.CodeHd s.heap c T := by
  rcases r with r | ⟨q, ob, r, k⟩
  · exact r.keeps I.bk
  · exact (k.2 _ (I.hok c _ r).1).1
theorem BlOk.at (b : BlOk X.base X.mg) (I : Inv X pins σ H s) {ps : Array Value} (e : H T = some (.tbl ps)) : s.heap.BuiltinsAt X.mg T := by
  obtain ⟨bm, ob, b1, b2, b3, b5, b6⟩ := b
  have q := I.bs bm ob b5
  exact ⟨bm, ob, b1, b2, b3, fun z => (by rw [z, e] at q; cases q.2), q.1, b6⟩
theorem glob_ne (I : Inv X pins σ H s) {ps : Array Value} (e : H T = some (.tbl ps)) : mainGlobals ≠ T := fun z => by
  obtain ⟨o, es, ep, ho, _⟩ := I.mod.glob
  have q := (I.bs _ _ ho).2
  rw [z, e] at q
  cases q
theorem fz_new {ob : Obj} {h : Heap} (e : h.get? c = some ob) : ObjOk X.prog X.w H h c (fz ob) := ⟨e, ⟨ob, e⟩⟩
/-- THE MAKING -/
theorem clo_make {NM : Nat → Nat → Str} {n : Nat} {name : Str} {params : Arguments} {body : FuncBody} {scope : Scope} {pos : Pos} {ln : Nat} {E : Value → Shared → Prop} {Q : Value → Shared → Prop} (I : Inv X pins σ H s) (ec : X.env.code = .ref c) (R : RunC X.base H c T) (B : BlOk X.base X.mg)
    (hn : NM pos.line pos.col = X.env.qual ++ name) (hT : Tb NM (n + 1) H T) (hfree : ∀ y ∈ scope.names, y.2 = .free → ∃ c, X.env.cells.lookup y.1 = some c)
    (h : ∀ (f c' T' : Addr) (H1 : Hp) (s' : Shared), Inv X pins σ H1 s' → Grow NM H H1 → H f = none → FnAtH H1 f ⟨name, X.env.qual ++ name, params, body, scope, cloFrom X.env.cells scope.names [], c'⟩ →
      CodeAtH H1 c' (X.env.qual ++ name) T' → Tb NM n H1 T' → Q (.ref f) s') :
    wpAny (model X.prog X.w) X.A (makeTail name (X.env.qual ++ name) params body scope X.env .none .none none pos ln) Q E s := by
  obtain ⟨ps, e0, tr, k⟩ := hT
  have hT' : s.heap.get? T = some (tabOf ps) := I.hok T _ e0
  have G : s.heap.Ns mainGlobals X.mg := I.mod.glob.keeps I.bk
  cases hc : codeAmong pos ps.toList with
  | some cv =>
    obtain ⟨c', T', ev, e1, e2⟩ := k pos cv hc
    subst ev
    rw [hn] at e1
    refine mk_hit (closure_ok hfree) I.ok.glob G ec (R.hd I) hT' tr hc (B.at I e0) fun ct doc h' tk kp sz => ?_
    have nf : H h'.objs.size = none := I.hok.fresh sz
    have gf := Heap.get?_push_size h' (o := { cls := .type "function", data := .func (CF.fd ⟨name, X.env.qual ++ name, params, body, scope, cloFrom X.env.cells scope.names [], c'⟩ doc ((X.mg "__name__").getD .none) ct) }) rfl
    refine h _ c' T' _ _ (I.laid (a := h'.objs.size) (o := fz _) (fun b u e => Heap.get?_push_of_some _ (kp b u e)) sz (fz_new gf)) (Grow.new nf) nf ⟨_, upd_same, _, _, _, _, _, rfl⟩ ?_ ?_
    · obtain ⟨ob, e3, e4⟩ := e1
      exact ⟨ob, (upd_ne (ne_of_none e3 nf)).trans e3, e4⟩
    · exact e2.ext fun b o e => (upd_ne (ne_of_none e nf)).trans e
  | none =>
    refine mk_tail (closure_ok hfree) I.ok.glob G ec (R.hd I) hT' tr hc (glob_ne I e0) (B.at I e0) fun c' T' ct doc h' tk ex l1 l2 l3 l4 rc hd t1 t2 => ?_
    have nC : H c' = none := I.hok.fresh l1
    have nT : H T' = none := I.hok.fresh l2
    have lt : T < s.heap.objs.size := Heap.lt_size hT'
    have dTC : T ≠ c' := Nat.ne_of_lt (Nat.lt_of_lt_of_le lt l1)
    have dTT : T ≠ T' := Nat.ne_of_lt (Nat.lt_of_lt_of_le lt l2)
    have dCT : c' ≠ T' := by
      obtain ⟨_, _, _, _, _, _, _, _, _, _, _, _, _, _, _, _, _, _, d⟩ := hd
      exact d
    have szs : s.heap.objs.size ≤ h'.objs.size := Nat.le_of_lt (Nat.lt_of_le_of_lt l1 l3)
    have n1 : T' ≠ h'.objs.size := Nat.ne_of_lt l4
    have n2 : c' ≠ h'.objs.size := Nat.ne_of_lt l3
    have n3 : T ≠ h'.objs.size := Nat.ne_of_lt (Nat.lt_of_lt_of_le lt szs)
    have hn' : NameC h' c' (X.env.qual ++ name) := by
      obtain ⟨c2, oc, us, tk2, e2, r⟩ := rc
      cases e2
      exact ⟨oc, us, tk2, r⟩
    obtain ⟨oc, oc1, oc2⟩ := codeOb_of hd hn'
    generalize hF : (⟨name, X.env.qual ++ name, params, body, scope, cloFrom X.env.cells scope.names [], c'⟩ : CF) = F
    generalize ho : (h'.push { cls := .type "function", data := .func (F.fd doc ((X.mg "__name__").getD .none) ct) }) = g
    have kpg : ∀ b u, h'.get? b = some u → g.get? b = some u := fun b u e => by rw [← ho]; exact Heap.get?_push_of_some _ e
    have gf : g.get? h'.objs.size = some { cls := .type "function", data := .func (F.fd doc ((X.mg "__name__").getD .none) ct) } := by rw [← ho]; exact Heap.get?_push_size _ rfl
    obtain ⟨fo, hfo⟩ : ∃ fo : Obj, fo = { cls := .type "function", data := .func (F.fd doc ((X.mg "__name__").getD .none) ct) } := ⟨_, rfl⟩
    rw [← hfo] at gf
    let more : Array Value := #[rawInt pos.line, rawInt pos.col, .ref c']
    let H1 : Hp := upd (upd (upd (upd H T (.tbl (ps ++ more))) c' (fz oc)) T' (.tbl #[])) h'.objs.size (fz fo)
    have aF : H1 h'.objs.size = some (fz fo) := upd_same
    have aT' : H1 T' = some (.tbl #[]) := (upd_ne n1).trans upd_same
    have aC : H1 c' = some (fz oc) := (upd_ne n2).trans ((upd_ne dCT).trans upd_same)
    have aT : H1 T = some (.tbl (ps ++ more)) := (upd_ne n3).trans ((upd_ne dTT).trans ((upd_ne dTC).trans upd_same))
    have aO : ∀ b, b < s.heap.objs.size → b ≠ T → H1 b = H b := fun b l d => (upd_ne (Nat.ne_of_lt (Nat.lt_of_lt_of_le l szs))).trans ((upd_ne (Nat.ne_of_lt (Nat.lt_of_lt_of_le l l2))).trans ((upd_ne (Nat.ne_of_lt (Nat.lt_of_lt_of_le l l1))).trans (upd_ne d)))
    have aN : ∀ b, b ≠ T → b ≠ c' → b ≠ T' → b ≠ h'.objs.size → H1 b = H b := fun b d1 d2 d3 d4 => (upd_ne d4).trans ((upd_ne d3).trans ((upd_ne d2).trans (upd_ne d1)))
    have J : Inv X pins σ H1 { s with heap := g, toks := tk } := by
      refine inv_grow I (fun b o n e => kpg b o (ex b o (fun z => by rw [z, e0] at n; cases n) e)) (fun b o e => ?_) (fun b l => ?_) fun b u e => ?_
      · by_cases z : b = T
        · exact ⟨_, kpg _ _ (by rw [z]; exact t2)⟩
        · exact ⟨o, kpg _ _ (ex b o z e)⟩
      · by_cases z : b = T
        · subst z; exact .inr ⟨ps, more, e0, aT⟩
        · exact .inl (aO b l z)
      · by_cases z1 : b = T
        · subst z1; rw [aT] at e; cases e; exact kpg _ _ t2
        by_cases z2 : b = c'
        · subst z2
          rw [aC] at e
          cases e
          exact fz_new (kpg _ _ oc1)
        by_cases z3 : b = T'
        · subst z3; rw [aT'] at e; cases e; exact kpg _ _ t1
        by_cases z4 : b = h'.objs.size
        · subst z4; rw [aF] at e; cases e; exact fz_new gf
        rw [aN b z1 z2 z3 z4] at e
        have tr_ : ∀ d v, H d = some v → (∀ qs, v ≠ .tbl qs) → H1 d = some v := fun d v q n => by
          rw [aO d (I.hok.lt q) fun z => by rw [z, e0] at q; exact n ps (Option.some.inj q).symm]
          exact q
        refine (I.hok b u e).stay (fun d v hd2 q => kpg d v (ex d v ?_ q)) (fun d q => tr_ d _ q fun qs z => by cases z) fun d xs q => tr_ d _ q fun qs z => by cases z
        rcases hd2 with z | z
        · rw [z]; exact z1
        · intro w; rw [w, e0] at z; cases z
    have gT : ∀ (m : Nat) (U : Addr), Tb NM m H U → Tb NM m H1 U := fun m U => by
      refine Tb.grown (pos := pos) e0 tr aT ?_ aT' fun b o d e => ?_
      · rw [hn]; exact ⟨oc, aC, oc2⟩
      · rw [aO b (I.hok.lt e) d]; exact e
    refine h _ c' T' H1 _ J ⟨fun b o e nt => ?_, gT, fun b e => ?_⟩ (I.hok.fresh szs) (by rw [hF]; exact ⟨fo, aF, _, _, _, _, _, hfo⟩) ⟨oc, aC, oc2⟩ (Tb.nil aT')
    · rw [aO b (I.hok.lt e) fun z => by rw [z, e0] at e; exact nt ps (Option.some.inj e).symm]
      exact e
    · exact upd_no (upd_no (upd_no (upd_no e)))
end


end
section
/-! ### a lambda, a def within a def -/
/-- a new function in hand -/
def tMk (NM : Nat → Nat → Str) (n : Nat) (base : Heap) (c T : Addr) (mk : Addr → CF) : TE := fun _ H Q => Tb NM (n + 1) H T ∧ RunC base H c T ∧
  ∀ (f c' T' : Addr) (H1 : Hp), Grow NM H H1 → H f = none → FnAtH H1 f (mk c') → CodeAtH H1 c' (mk c').qual T' → Tb NM n H1 T' → Q (.ref f) H1
def tDef (NM : Nat → Nat → Str) (n : Nat) (base : Heap) (c T : Addr) (i : Nat) (mk : Addr → CF) : TS := fun D σ H => tMk NM n base c T mk σ H fun v H1 => D.nx (σ.set i (some v)) H1
/-- the maker's cells that a function takes along -/
abbrev taken (X : Cx) (sc : Scope) : List (Str × Addr) := cloFrom X.env.cells sc.names []
section
variable {X : Cx} {NM : Nat → Nat → Str} {n i : Nat} {c T : Addr} {params : Arguments} {scope : Scope} {pos : Pos}
theorem free_has (ok : X.Ok) (hf : ∀ y ∈ scope.names, y.2 = .free → X.env.scope.names.lookup y.1 = some .cell ∨ X.env.scope.names.lookup y.1 = some .free) : ∀ y ∈ scope.names, y.2 = .free → ∃ c, X.env.cells.lookup y.1 = some c :=
  fun y hy e => ok.has _ (hf y hy e)
theorem pe_mk {body : Expr} (ec : X.env.code = .ref c) (B : BlOk X.base X.mg) (hn : NM pos.line pos.col = X.env.qual ++ "<lambda>") (hd : defaultsOf params X.env = ([], []))
    (hf : ∀ y ∈ scope.names, y.2 = .free → X.env.scope.names.lookup y.1 = some .cell ∨ X.env.scope.names.lookup y.1 = some .free) :
    PE X (.Lambda params body scope pos) (tMk NM n X.base c T fun c' => ⟨"<lambda>", X.env.qual ++ "<lambda>", params, .expr body, scope, taken X scope, c'⟩) := by
  refine ⟨fun pins s σ H Q I h => PySem.W.kla_eval hd ?_⟩
  obtain ⟨hT, R, h⟩ := h
  rw [makeFunction_eq]
  simp only [List.zip_nil_right, List.filterMap_nil, List.isEmpty_nil, if_true, pure_bind]
  exact clo_make I ec R B hn hT (free_has I.ok hf) fun f c' T' H1 s' J g nf a1 a2 a3 => ⟨.ref f, H1, J, rfl, h f c' T' H1 g nf a1 a2 a3⟩
theorem ps_mk {name : Str} {body : List Stmt} (ec : X.env.code = .ref c) (B : BlOk X.base X.mg) (hn : NM pos.line pos.col = X.env.qual ++ name)
    (hf : ∀ y ∈ scope.names, y.2 = .free → X.env.scope.names.lookup y.1 = some .cell ∨ X.env.scope.names.lookup y.1 = some .free) (h1 : params.defaults = []) (h2 : params.kw_defaults = []) (h3 : annTrees params none X.env = [])
    (hN : X.N.Nodup) (hi : X.N[i]? = some name) (hx : Loc X.env.scope name) (hw : X.fn name = true ∨ X.env.scope.names.lookup name = some .local) :
    PS X (.FunctionDef name params body [] none [] scope none name pos) (tDef NM n X.base c T i fun c' => ⟨name, X.env.qual ++ name, params, .stmts body, scope, taken X scope, c'⟩) := by
  refine ⟨fun pins s σ H D I h => ?_⟩
  obtain ⟨hT, R, h⟩ := h
  have eq : qualnameIn X.env name name = X.env.qual ++ name := by
    have hk : X.env.kindOf name = some .local ∨ X.env.kindOf name = some .cell := hx
    unfold qualnameIn
    rcases hk with k | k <;> rw [k] <;> first | rfl | exact if_neg (by decide)
  refine PySem.W.nestDef_K h1 h2 h3 ?_
  rw [eq, makeFunction_eq]
  simp only [List.zip_nil_right, List.filterMap_nil, List.isEmpty_nil, if_true, pure_bind]
  refine clo_make I ec R B hn hT (free_has I.ok hf) fun f c' T' H1 s' J g nf a1 a2 a3 => ?_
  exact store_ok J hN hi hx (v := .ref f) rfl (fun s'' J' => ⟨_, H1, J', h f c' T' H1 g nf a1 a2 a3⟩) hw
end
/-! ### what stays of an abstract heap while processes live -/
/-- a cell's content -/
def CellV (v : V) (ob : Obj) : Prop := ∃ u, ob.data = .cell (some u) ∧ L2.RelV v u
def seenV : Value → Option V
  | .none => some .non
  | .bool b => some (.bl b)
  | .int i _ => some (.int i)
  | .str x _ => some (.str x)
  | .bytes b _ => some (.byt b)
  | .float b _ => some (.flt b)
  | .ref a => some (.ref a)
  | .type n => some (.ty n)
  | _ => none
theorem seen_of {v : V} {u : Value} (a : L2.RelV v u) : seenV u = some v := by
  cases v with
  | non => cases a; rfl
  | bl b => cases a; rfl
  | ref b => cases a; rfl
  | ty n => cases a; rfl
  | int i => obtain ⟨t, rfl⟩ := a; rfl
  | str i => obtain ⟨t, rfl⟩ := a; rfl
  | byt i => obtain ⟨t, rfl⟩ := a; rfl
  | flt i => obtain ⟨t, rfl⟩ := a; rfl
theorem relV_one {v v' : V} {u : Value} (a : L2.RelV v u) (b : L2.RelV v' u) : v = v' := Option.some.inj ((seen_of a).symm.trans (seen_of b))
theorem CellV.one {v v' : V} {ob : Obj} (a : CellV v ob) (b : CellV v' ob) : v = v' := by
  obtain ⟨u, e, r⟩ := a
  obtain ⟨u', e', r'⟩ := b
  rw [e] at e'
  cases e'
  exact relV_one r r'
structure Ext (NM : Nat → Nat → Str) (H H' : Hp) : Prop where
  tup : ∀ b xs, H b = some (.tup xs) → H' b = some (.tup xs)
  frz : ∀ b ob, H b = some (fz ob) → ∃ ob', H' b = some (fz ob') ∧ (ob' = ob ∨ ∃ v, CellV v ob ∧ CellV v ob')
  tb : ∀ n T, Tb NM n H T → Tb NM n H' T
  oth : ∀ b o, H b = some o → (∀ xs, o ≠ .lst xs) → (∀ ps, o ≠ .tbl ps) → (∀ ob, o ≠ fz ob) → H' b = some o
section
variable {NM : Nat → Nat → Str} {H H1 H2 : Hp}
theorem Ext.refl (H : Hp) : Ext NM H H := ⟨fun _ _ e => e, fun _ ob e => ⟨ob, e, .inl rfl⟩, fun _ _ t => t, fun _ _ e _ _ _ => e⟩
theorem Ext.trans (a : Ext NM H H1) (b : Ext NM H1 H2) : Ext NM H H2 := by
  refine ⟨fun c xs e => b.tup c xs (a.tup c xs e), fun c ob e => ?_, fun n T t => b.tb n T (a.tb n T t), fun c o e n1 n2 n3 => b.oth c o (a.oth c o e n1 n2 n3) n1 n2 n3⟩
  obtain ⟨o1, e1, k1⟩ := a.frz c ob e
  obtain ⟨o2, e2, k2⟩ := b.frz c o1 e1
  refine ⟨o2, e2, ?_⟩
  rcases k1 with rfl | ⟨v, x1, x2⟩
  · exact k2
  rcases k2 with rfl | ⟨v', y1, y2⟩
  · exact .inr ⟨v, x1, x2⟩
  · rw [x2.one y1] at x1
    exact .inr ⟨v', x1, y2⟩
theorem Grow.ext (g : Grow NM H H1) : Ext NM H H1 := ⟨fun b xs e => g.kp b _ e (fun _ z => by cases z), fun b ob e => ⟨ob, g.kp b _ e (fun _ z => by cases z), .inl rfl⟩, g.tb, fun b o e _ n _ => g.kp b o e n⟩
theorem Ext.new {a : Addr} {o : HO} (n : H a = none) : Ext NM H (upd H a o) := (Grow.new n).ext
/-- a list is changed -/
theorem Ext.lst {a : Addr} {xs : List V} {o : HO} (e : H a = some (.lst xs)) : Ext NM H (upd H a o) := by
  have ne : ∀ b u, H b = some u → (∀ ys, u ≠ .lst ys) → upd H a o b = some u := fun b u q n => (upd_ne (fun z => by rw [z, e] at q; exact n xs (Option.some.inj q).symm)).trans q
  exact ⟨fun b ys q => ne b _ q (fun _ z => by cases z), fun b ob q => ⟨ob, ne b _ q (fun _ z => by cases z), .inl rfl⟩, fun n T t => t.but (fun b ps q => ne b _ q (fun _ z => by cases z)) fun b ob q => ne b _ q (fun _ z => by cases z), fun b u q n1 _ _ => ne b u q n1⟩
theorem FnAtH.ext {f : Addr} {F : CF} (a : FnAtH H f F) (e : Ext NM H H1) : FnAtH H1 f F := by
  obtain ⟨ob, h, od, sl, doc, pm, ct, eo⟩ := a
  obtain ⟨ob', h', k⟩ := e.frz f ob h
  rcases k with rfl | ⟨v, ⟨u, z, _⟩, _⟩
  · exact ⟨_, h', od, sl, doc, pm, ct, eo⟩
  · rw [eo] at z; cases z
theorem CodeAtH.ext {c T : Addr} {q : Str} (a : CodeAtH H c q T) (e : Ext NM H H1) : CodeAtH H1 c q T := by
  obtain ⟨ob, h, ⟨us, eu⟩, k⟩ := a
  obtain ⟨ob', h', r⟩ := e.frz c ob h
  rcases r with rfl | ⟨v, ⟨u, z, _⟩, _⟩
  · exact ⟨_, h', ⟨us, eu⟩, k⟩
  · rw [eu] at z; cases z
/-- a cell that holds v -/
def CellH (H : Hp) (c : Addr) (v : V) : Prop := ∃ ob, H c = some (fz ob) ∧ CellV v ob
theorem CellH.ext {c : Addr} {v : V} (a : CellH H c v) (e : Ext NM H H1) : CellH H1 c v := by
  obtain ⟨ob, h, k⟩ := a
  obtain ⟨ob', h', r⟩ := e.frz c ob h
  rcases r with rfl | ⟨v', x, y⟩
  · exact ⟨_, h', k⟩
  · rw [k.one x]; exact ⟨_, h', y⟩
end


end
section
/-! ### cells that are lent to a call -/
def lendH (cs : List (Addr × Obj)) (H : Hp) : Hp := fun b => match cs.lookup b with
  | some o => some (fz o)
  | none => H b
def backH (cs : List (Addr × Obj)) (H : Hp) : Hp := fun b => if (cs.lookup b).isSome then none else H b
theorem lend_in {cs : List (Addr × Obj)} {H : Hp} {b : Addr} {o : Obj} (e : cs.lookup b = some o) : lendH cs H b = some (fz o) := by unfold lendH; rw [e]
theorem lend_out {cs : List (Addr × Obj)} {H : Hp} {b : Addr} (e : cs.lookup b = none) : lendH cs H b = H b := by unfold lendH; rw [e]
theorem back_in {cs : List (Addr × Obj)} {H : Hp} {b : Addr} {o : Obj} (e : cs.lookup b = some o) : backH cs H b = none := by unfold backH; rw [e]; rfl
theorem back_out {cs : List (Addr × Obj)} {H : Hp} {b : Addr} (e : cs.lookup b = none) : backH cs H b = H b := by unfold backH; rw [e]; rfl
theorem lend_back {cs : List (Addr × Obj)} {H : Hp} (h : ∀ b o, cs.lookup b = some o → H b = some (fz o)) : lendH cs (backH cs H) = H := by
  funext b
  cases e : cs.lookup b with
  | some o => rw [lend_in e, h b o e]
  | none => rw [lend_out e, back_out e]
/-- the cells of the running frame are no things of the ground, nor frames of the callers -/
structure Off (X : Cx) : Prop where
  base : ∀ x c, X.env.cells.lookup x = some c → X.base.get? c = none
  fs : ∀ x c, X.env.cells.lookup x = some c → c ∉ X.fs
theorem Off.own {X : Cx} (ok : X.Ok) (h : ∀ x, X.fn x = true) : Off X := by
  refine ⟨fun x c e => ?_, fun x c e hb => ?_⟩
  · exact Heap.get?_none_of_le (Nat.le_trans ok.bsz (ok.cab x c (h x) e))
  · obtain ⟨_, o, ho, _⟩ := ok.funs.mem hb
    exact absurd (Nat.lt_of_lt_of_le (Heap.lt_size ho) (ok.cab x c (h x) e)) (Nat.lt_irrefl _)
/-- cs are cells of the running frame, as they are in s -/
structure Lent (X : Cx) (s : Shared) (cs : List (Addr × Obj)) : Prop where
  at_ : ∀ b o, cs.lookup b = some o → s.heap.get? b = some o
  own : ∀ b o, cs.lookup b = some o → ∃ x, X.env.cells.lookup x = some b
/-- the cells of a frame are told apart by their names -/
structure CellsOne (env : Env) : Prop where
  inj : ∀ x y c, env.cells.lookup x = some c → env.cells.lookup y = some c → x = y
  has : ∀ x, env.kindOf x = some .cell ∨ env.kindOf x = some .free → ∃ c, env.cells.lookup x = some c
/-- cs hold what the names at the places js hold -/
def LentV (env : Env) (N : List Str) (σ : L2.St) (js : List Nat) (cs : List (Addr × Obj)) : Prop :=
  CellsOne env ∧ ∀ j ∈ js, ∀ x v, N[j]? = some x → σ[j]? = some (some v) → ∃ c ob, env.cells.lookup x = some c ∧ cs.lookup c = some ob ∧ CellV v ob
/-- .. and nothing else is among them -/
def Lv (env : Env) (N : List Str) (σ : L2.St) (js : List Nat) (cs : List (Addr × Obj)) : Prop :=
  LentV env N σ js cs ∧ ∀ b o, cs.lookup b = some o → ∃ j ∈ js, ∃ x v, N[j]? = some x ∧ env.cells.lookup x = some b ∧ σ[j]? = some (some v)
/-- the places whose names are known to hold something -/
def heldJ (σ : L2.St) (js : List Nat) : List Nat := js.filter fun j => (σ[j]?.join).isSome
section
variable {X : Cx} {pins : List (Addr × Obj)} {σ : L2.St} {H H' : Hp} {s s' : Shared} {cs : List (Addr × Obj)}
/-- the cells at the places js, as pairs -/
def cellsOf (X : Cx) (h : Heap) (js : List Nat) : List (Addr × Obj) := js.filterMap fun j => do
  let x ← X.N[j]?
  let c ← X.env.cells.lookup x
  let o ← h.get? c
  return (c, o)
theorem cellsOf_mem {h : Heap} {js : List Nat} {p : Addr × Obj} (hp : p ∈ cellsOf X h js) : h.get? p.1 = some p.2 ∧ ∃ x, X.env.cells.lookup x = some p.1 := by
  unfold cellsOf at hp
  obtain ⟨j, _, e⟩ := List.mem_filterMap.mp hp
  simp only [bind, Option.bind_eq_some_iff, pure, Option.some.injEq] at e
  obtain ⟨x, hx, c, hc, o, ho, e⟩ := e
  cases e
  exact ⟨ho, x, hc⟩
theorem look_mem {l : List (Addr × Obj)} {b : Addr} {o : Obj} (e : l.lookup b = some o) : (b, o) ∈ l := by
  induction l with
  | nil => cases e
  | cons p r ih =>
    rw [List.lookup_cons] at e
    split at e
    · rename_i q
      cases e
      rw [eq_of_beq q]
      exact List.mem_cons_self
    · exact List.mem_cons_of_mem _ (ih e)
theorem mem_look {l : List (Addr × Obj)} {b : Addr} {o : Obj} (m : (b, o) ∈ l) : ∃ o', l.lookup b = some o' := by
  induction l with
  | nil => cases m
  | cons p r ih =>
    rw [List.lookup_cons]
    split
    · exact ⟨_, rfl⟩
    · rename_i q
      rcases List.mem_cons.mp m with e | m
      · subst e; simp at q
      · exact ih m
theorem lent_of (js : List Nat) : Lent X s (cellsOf X s.heap js) := ⟨fun b o e => (cellsOf_mem (look_mem e)).1, fun b o e => (cellsOf_mem (look_mem e)).2⟩
theorem lentV_by (I : Inv X pins σ H s) {js : List Nat} (hk : ∀ j ∈ js, ∀ x, X.N[j]? = some x → X.env.scope.names.lookup x = some .cell ∨ X.env.scope.names.lookup x = some .free)
    (h : ∀ j ∈ js, ∀ x c ob, X.N[j]? = some x → X.env.cells.lookup x = some c → s.heap.get? c = some ob → cs.lookup c = some ob) : LentV X.env X.N σ js cs := by
  refine ⟨⟨I.ok.inj, I.ok.has⟩, fun j hj x v hx hv => ?_⟩
  obtain ⟨m, _, hl⟩ := I.loc
  have k := hk j hj x hx
  obtain ⟨u, r, l⟩ := hl j x v hx hv (k.elim (fun z => .inr (.inl z)) fun z => .inr (.inr z))
  rcases l with ⟨z, _⟩ | ⟨_, c, hc, ob, ho, hd⟩
  · have z' : X.env.scope.names.lookup x = some .local := z
    rcases k with k | k <;> rw [k] at z' <;> cases z'
  · exact ⟨c, ob, hc, h j hj x c ob hx hc ho, u, hd, r⟩
theorem lentV_of (I : Inv X pins σ H s) {js : List Nat} (hk : ∀ j ∈ js, ∀ x, X.N[j]? = some x → X.env.scope.names.lookup x = some .cell ∨ X.env.scope.names.lookup x = some .free) : LentV X.env X.N σ js (cellsOf X s.heap js) := by
  refine lentV_by I hk fun j hj x c ob hx hc ho => ?_
  have mem : (c, ob) ∈ cellsOf X s.heap js := by
    unfold cellsOf
    refine List.mem_filterMap.mpr ⟨j, hj, ?_⟩
    simp [hx, hc, ho]
  obtain ⟨o', e⟩ := mem_look mem
  have q : s.heap.get? c = some o' := (cellsOf_mem (look_mem e)).1
  rw [ho] at q
  cases q
  exact e
theorem cellsOf_from {h : Heap} {js : List Nat} {p : Addr × Obj} (hp : p ∈ cellsOf X h js) : ∃ j ∈ js, ∃ x, X.N[j]? = some x ∧ X.env.cells.lookup x = some p.1 := by
  unfold cellsOf at hp
  obtain ⟨j, hj, e⟩ := List.mem_filterMap.mp hp
  simp only [bind, Option.bind_eq_some_iff, pure, Option.some.injEq] at e
  obtain ⟨x, hx, c, hc, o, ho, e⟩ := e
  cases e
  exact ⟨j, hj, x, hx, hc⟩
theorem lv_of (I : Inv X pins σ H s) {js : List Nat} (hk : ∀ j ∈ js, ∀ x, X.N[j]? = some x → X.env.scope.names.lookup x = some .cell ∨ X.env.scope.names.lookup x = some .free) : Lv X.env X.N σ js (cellsOf X s.heap (heldJ σ js)) := by
  have sub : ∀ j, j ∈ heldJ σ js → j ∈ js ∧ ∃ v, σ[j]? = some (some v) := fun j hj => by
    obtain ⟨h1, h2⟩ := List.mem_filter.mp hj
    refine ⟨h1, ?_⟩
    cases e : σ[j]? with
    | none => rw [e] at h2; cases h2
    | some o => cases o with
      | none => rw [e] at h2; cases h2
      | some v => exact ⟨v, rfl⟩
  obtain ⟨q, L⟩ := lentV_of (js := heldJ σ js) I fun j hj => hk j (sub j hj).1
  refine ⟨⟨q, fun j hj x v hx hv => L j (List.mem_filter.mpr ⟨hj, by rw [hv]; rfl⟩) x v hx hv⟩, fun b o e => ?_⟩
  obtain ⟨j, hj, x, hx, hc⟩ := cellsOf_from (look_mem e)
  obtain ⟨h1, v, h2⟩ := sub j hj
  exact ⟨j, h1, x, v, hx, hc, h2⟩
/-- all the cells of the frame -/
def cellsAll (X : Cx) (h : Heap) : List (Addr × Obj) := X.env.cells.filterMap fun p => if X.env.cells.lookup p.1 = some p.2 then (h.get? p.2).map fun o => (p.2, o) else none
theorem cellsAll_mem {h : Heap} {p : Addr × Obj} (hp : p ∈ cellsAll X h) : h.get? p.1 = some p.2 ∧ ∃ x, X.env.cells.lookup x = some p.1 := by
  obtain ⟨q, _, e⟩ := List.mem_filterMap.mp hp
  split at e
  · rename_i hl
    obtain ⟨o, ho, e⟩ := Option.map_eq_some_iff.mp e
    cases e
    exact ⟨ho, _, hl⟩
  · cases e
theorem cellsAll_has {h : Heap} {x : Str} {c : Addr} {o : Obj} (e : X.env.cells.lookup x = some c) (ho : h.get? c = some o) : (cellsAll X h).lookup c = some o := by
  have mem : (c, o) ∈ cellsAll X h := List.mem_filterMap.mpr ⟨(x, c), PySem.mem_of_lookup e, by rw [if_pos e, ho] <;> rfl⟩
  obtain ⟨o', e'⟩ := mem_look mem
  have q : h.get? c = some o' := (cellsAll_mem (look_mem e')).1
  rw [ho] at q
  cases q
  exact e'
theorem lent_all : Lent X s (cellsAll X s.heap) := ⟨fun b o e => (cellsAll_mem (look_mem e)).1, fun b o e => (cellsAll_mem (look_mem e)).2⟩
theorem lentV_all (I : Inv X pins σ H s) {js : List Nat} (hk : ∀ j ∈ js, ∀ x, X.N[j]? = some x → X.env.scope.names.lookup x = some .cell ∨ X.env.scope.names.lookup x = some .free) : LentV X.env X.N σ js (cellsAll X s.heap) :=
  lentV_by I hk fun _ _ _ _ _ _ hc ho => cellsAll_has hc ho
theorem Lent.free (L : Lent X s cs) (I : Inv X pins σ H s) : ∀ b o, cs.lookup b = some o → H b = none := fun b o e => by
  obtain ⟨x, hx⟩ := L.own b o e
  exact I.freeC x b hx
theorem Lent.off (L : Lent X s cs) (I : Inv X pins σ H s) {b : Addr} {u : HO} (e : H b = some u) : cs.lookup b = none := by
  cases q : cs.lookup b with
  | none => rfl
  | some o => rw [L.free I b o q] at e; cases e
theorem Lent.nofr (L : Lent X s cs) (I : Inv X pins σ H s) (O : Off X) {b : Addr} (hb : b ∈ frs X.stack) : cs.lookup b = none := by
  cases q : cs.lookup b with
  | none => rfl
  | some o =>
    obtain ⟨x, hx⟩ := L.own b o q
    rcases List.mem_cons.mp (I.stkSub b hb) with z | z
    · exact absurd z (I.cne x b hx)
    · exact absurd z (O.fs x b hx)
/-- the frame, with its cells lent -/
theorem env0_lent (I : Inv X pins σ H s) (O : Off X) (L : Lent X s cs) : Env0 X.prog X.w X.K X.mg X.base X.A X.stack s (lendH cs H) := by
  have e := I.env0
  have out : ∀ b u, H b = some u → lendH cs H b = some u := fun b u q => (lend_out (L.off I q)).trans q
  refine ⟨e.frames, e.mod, fun b o hb => ⟨(e.bs b o hb).1, ?_⟩, e.bsz, e.funs, fun b hb => (lend_out (L.nofr I O hb)).trans (e.frf b hb), fun b u q => ?_, e.bare⟩
  · cases q : cs.lookup b with
    | none => rw [lend_out q]; exact (e.bs b o hb).2
    | some o' =>
      obtain ⟨x, hx⟩ := L.own b o' q
      rw [O.base x b hx] at hb
      cases hb
  · cases w : cs.lookup b with
    | some o =>
      rw [lend_in w] at q
      cases q
      exact fz_new (L.at_ b o w)
    | none =>
      rw [lend_out w] at q
      exact (I.hok b u q).stay (fun _ _ _ z => z) (fun d z => out d _ z) fun d xs z => out d _ z
/-- behind the call: the cells are the frame's own again -/
theorem after_lent {v : V} {u : Value} {Q : VK} (I : Inv X pins σ H s) (O : Off X) (L : Lent X s cs) (h : CE X.stack X.prog X.w (lendH cs H) s Q u s') :
    EP X pins σ (fun v H2 => (∀ b o, cs.lookup b = some o → H2 b = none) ∧ Q v (lendH cs H2)) u s' := by
  obtain ⟨v, H', os, bare, un, hok, r, q⟩ := h
  have stay : ∀ b o, cs.lookup b = some o → H' b = some (fz o) := fun b o e => un.frzs b o _ (lend_in e)
  have inn : ∀ b o, cs.lookup b = some o → s'.heap.get? b = some o := fun b o e => (hok b _ (stay b o e)).1
  have none_ : ∀ b, H b = none → cs.lookup b = none → lendH cs H b = none := fun b n e => (lend_out e).trans n
  have some_ : ∀ b w, H b = some w → cs.lookup b = none ∧ lendH cs H b = some w := fun b w e => ⟨L.off I e, (lend_out (L.off I e)).trans e⟩
  have un2 : Un (frs X.stack) [] H (backH cs H') s.heap s'.heap := by
    refine ⟨fun b o e n hb hx => ?_, fun b o e n hb hx => un.slot b o e (none_ b n (L.nofr I O hb)) hb hx, fun b o e n hx => ?_, un.there, fun b xs e => ?_, fun b o w e => ?_, fun b ps e => ?_⟩
    · cases q : cs.lookup b with
      | none => exact un.keep b o e (none_ b n q) hb hx
      | some o' =>
        have z := L.at_ b o' q
        rw [e] at z
        cases z
        exact inn b o q
    · cases q : cs.lookup b with
      | none => rw [back_out q]; exact un.free b o e (none_ b n q) hx
      | some o' => exact back_in q
    · rw [back_out (some_ b _ e).1]; exact un.tups b xs (some_ b _ e).2
    · rw [back_out (some_ b _ e).1]; exact un.frzs b o w (some_ b _ e).2
    · rw [back_out (some_ b _ e).1]; exact un.tbls b ps (some_ b _ e).2
  have keep2 : ∀ b w, H' b = some w → (∀ o, w ≠ fz o) → backH cs H' b = some w := fun b w e n => by
    cases q : cs.lookup b with
    | none => rw [back_out q]; exact e
    | some o => rw [stay b o q] at e; exact absurd (Option.some.inj e).symm (n o)
  have ok2 : HOk X.prog X.w (backH cs H') s'.heap := fun b w e => by
    cases q : cs.lookup b with
    | some o => rw [back_in q] at e; cases e
    | none =>
      rw [back_out q] at e
      exact (hok b w e).stay (fun _ _ _ z => z) (fun d z => keep2 d _ z fun o z => by cases z) fun d xs z => keep2 d _ z fun o z => by cases z
  obtain ⟨hh, g, d, t, os'⟩ := s'
  obtain rfl : os' = s.os := os
  refine ⟨v, backH cs H', I.call (h' := hh) (g' := g) (d' := d) (t' := t) (ch := []) un2 ok2 bare (fun b z => absurd z (by simp)), r, fun b o e => back_in e, ?_⟩
  rw [lend_back stay]
  exact q
end


end
section
/-! ### a function value that may be called, now and later -/
/-- f is a function: one made here, or one of the ground -/
def FnV (K : PySem.W.Frag) (H : Hp) (f : Addr) : Prop := (∃ F, FnAtH H f F) ∨ ∃ (oc : Value) (od : Option Addr) (fd : FuncData) (sl : Array (Option Value)), K.lookup f = some ⟨oc, od, .func fd, sl⟩
theorem FnV.ext {NM : Nat → Nat → Str} {K : PySem.W.Frag} {H H1 : Hp} {f : Addr} (h : FnV K H f) (e : Ext NM H H1) : FnV K H1 f := h.imp (fun ⟨F, a⟩ => ⟨F, a.ext e⟩) id
def Clo (P : Program) (w : World) (K : PySem.W.Frag) (mg : Str → Option Value) (base : Heap) (NM : Nat → Nat → Str) (k : Nat) (f : Addr) (sp : Sp) (H : Hp) : Prop :=
  FnV K H f ∧ ∀ H2, Ext NM H H2 → ∀ (A : Around) (outer : List Env) (s : Shared) (us : List Value) (vs : List V) (Q : VK) (E : XK), Room k A → Env0 P w K mg base A outer s H2 → Vals vs us → sp vs H2 Q E →
    codeAny (model P w) A (.call (.ref f) ⟨us, []⟩) (CR CX0 outer P w H2 s Q E) s
section
variable {P : Program} {w : World} {K : PySem.W.Frag} {mg : Str → Option Value} {base : Heap} {NM : Nat → Nat → Str} {k j : Nat} {f : Addr} {sp sp' : Sp} {H H1 : Hp}
theorem Clo.ext (c : Clo P w K mg base NM k f sp H) (e : Ext NM H H1) : Clo P w K mg base NM k f sp H1 := ⟨c.1.ext e, fun H2 e2 => c.2 H2 (e.trans e2)⟩
theorem Clo.mono (c : Clo P w K mg base NM j f sp H) (h : j ≤ k) : Clo P w K mg base NM k f sp H := ⟨c.1, fun H2 e2 A outer s us vs Q E hr => c.2 H2 e2 A outer s us vs Q E (hr.mono h)⟩
theorem Clo.imp (c : Clo P w K mg base NM k f sp H) (h : ∀ H2, Ext NM H H2 → ∀ vs Q E, sp' vs H2 Q E → sp vs H2 Q E) : Clo P w K mg base NM k f sp' H :=
  ⟨c.1, fun H2 e2 A outer s us vs Q E hr e0 r q => c.2 H2 e2 A outer s us vs Q E hr e0 r (h H2 e2 vs Q E q)⟩
end
theorem fnAtH_at {P : Program} {w : World} {H : Hp} {h : Heap} {f : Addr} {F : CF} (ok : HOk P w H h) (a : FnAtH H f F) : ∃ od sl doc pm ct, h.get? f = some (⟨.type "function", od, .func (F.fd doc pm ct), sl⟩ : Obj) := by
  obtain ⟨ob, e, od, sl, doc, pm, ct, eo⟩ := a
  exact ⟨od, sl, doc, pm, ct, by rw [← eo]; exact (ok f _ e).1⟩
/-- what is wanted behind a call to which cells were lent -/
def Back (cs : List (Addr × Obj)) (Q : VK) : VK := fun v H' => ∀ H2, H' = lendH cs H2 → (∀ b o, cs.lookup b = some o → H2 b = none) → Q v H2
/-- x(..), x a name that holds a function; the cells of the names at js are lent -/
def tClo (P : Program) (w : World) (K : PySem.W.Frag) (mg : Str → Option Value) (base : Heap) (NM : Nat → Nat → Str) (k : Nat) (lv : L2.St → List (Addr × Obj) → Prop) (i : Nat) (t : TA) : TE := fun σ H Q => ∃ f, σ[i]? = some (some (.ref f)) ∧ FnV K H f ∧
  t σ H fun vs H1 => FnV K H1 f ∧ ∀ cs, lv σ cs → (∀ b o, cs.lookup b = some o → H1 b = none) → ∃ sp, Clo P w K mg base NM k f sp (lendH cs H1) ∧ sp vs (lendH cs H1) (Back cs Q) E0
/-- .. without lending -/
def tClo0 (P : Program) (w : World) (K : PySem.W.Frag) (mg : Str → Option Value) (base : Heap) (NM : Nat → Nat → Str) (k : Nat) (i : Nat) (t : TA) : TE := fun σ H Q => ∃ f, σ[i]? = some (some (.ref f)) ∧ FnV K H f ∧
  t σ H fun vs H1 => ∃ sp, Clo P w K mg base NM k f sp H1 ∧ sp vs H1 Q E0
/-- d(..), d a def of the text, with lending -/
def tCallL (lv : L2.St → List (Addr × Obj) → Prop) (sp : Sp) (t : TA) : TE := fun σ H Q => t σ H fun vs H1 => ∀ cs, lv σ cs → (∀ b o, cs.lookup b = some o → H1 b = none) → sp vs (lendH cs H1) (Back cs Q) E0
section
variable {X : Cx} {pins : List (Addr × Obj)} {σ : L2.St} {H : Hp} {s : Shared} {cs : List (Addr × Obj)} {NM : Nat → Nat → Str} {i j k : Nat} {js : List Nat} {x : Str} {e : Expr} {es : List Expr} {t : TA} {p pos : Pos} {f : Addr} {sp : Sp} {Q : VK}
theorem fnAt_by (I : Inv X pins σ H s) (a : FnV X.K H f) : PySem.W.FnAt f s.heap := by
  rcases a with ⟨F, a⟩ | ⟨oc, od, fd, sl, e⟩
  · obtain ⟨od, sl, doc, pm, ct, e⟩ := fnAtH_at I.hok a
    exact ⟨_, od, _, sl, e⟩
  · exact ⟨oc, od, fd, sl, I.kIn _ _ e⟩
/-- the places js are cells of the frame -/
def CellsJ (X : Cx) (js : List Nat) : Prop := ∀ j ∈ js, ∀ x, X.N[j]? = some x → X.env.scope.names.lookup x = some .cell ∨ X.env.scope.names.lookup x = some .free
theorem run_lent {us : List Value} {E : XK} (I : Inv X pins σ H s) (O : Off X) (L : Lent X s cs)
    (h : codeAny (model X.prog X.w) X.A (.call (.ref f) ⟨us, []⟩) (CR CX0 X.stack X.prog X.w (lendH cs H) s (Back cs Q) E) s) :
    wpAny (model X.prog X.w) X.A (call (.ref f) us) (EP X pins σ Q) X.xe s := by
  refine wpAny_call (codeAny_mono h fun r s' hq => ?_)
  cases r with
  | error er => exact (show False from hq).elim
  | ok fl =>
    cases fl with
    | ret u =>
      obtain ⟨v, H2, J, rv, q1, q2⟩ := after_lent (v := .non) I O L hq
      exact ⟨v, H2, J, rv, q2 H2 rfl q1⟩
    | next => exact False.elim hq
    | brk => exact False.elim hq
    | cont => exact False.elim hq
theorem pe_clo (hr : Room j X.A) (hk : k ≤ j) (O : X.Ok → Off X) (hj : CellsJ X js) (hN : X.N[i]? = some x) (hv : Vis X.env.scope x) (ha : PA X (e :: es) t)
    (hd : (x == ("__debug__" : Str)) = false := by decide) (hcd : (x == ("__classdict__" : Str)) = false := by decide)
    (he : starEach (e :: es) X.env = (false, eval e X.env) :: starEach es X.env := by rfl) (hpl : (backTo pos (starEach es X.env)).any (·.1) = false := by rfl) :
    PE X (.Call (.Name x p) (e :: es) [] pos) (tClo X.prog X.w X.K X.mg X.base NM k (fun σ cs => Lv X.env X.N σ js cs) i t) := by
  refine ⟨fun pins s σ H Q I h => ?_⟩
  obtain ⟨f, hs, hf, ht⟩ := h
  refine wpAny_Call_Name_kw (thn ((pe_var (pos := p) hN hv hd hcd).run pins s σ H (fun v H1 => v = .ref f ∧ H1 = H) I ⟨.ref f, hs, rfl, rfl⟩) fun u s1 ⟨v, H1, I1, r1, ev, eH⟩ => ?_)
  subst ev
  rw [eH] at I1
  obtain rfl : u = Value.ref f := r1
  refine PySem.W.callWith_F (first := []) (fnAt_by I1 hf) (thn (ha.run pos pins s1 σ H _ I1 ht) fun us s2 ⟨vs, H2, I2, r, h1, q⟩ => ⟨fnAt_by I2 h1, ?_⟩) he hpl
  have L := lent_of (X := X) (s := s2) (heldJ σ js)
  obtain ⟨sp, c, q⟩ := q _ (lv_of I2 hj) fun b o e => L.free I2 b o e
  exact run_lent I2 (O I2.ok) L (c.2 _ (Ext.refl _) X.A X.stack s2 us vs _ E0 (hr.mono hk) (env0_lent I2 (O I2.ok) L) r q)
theorem lend_nil (H : Hp) : lendH [] H = H := rfl
theorem pe_clo0 (hr : Room j X.A) (hk : k ≤ j) (hN : X.N[i]? = some x) (hv : Vis X.env.scope x) (ha : PA X (e :: es) t)
    (hd : (x == ("__debug__" : Str)) = false := by decide) (hcd : (x == ("__classdict__" : Str)) = false := by decide)
    (he : starEach (e :: es) X.env = (false, eval e X.env) :: starEach es X.env := by rfl) (hpl : (backTo pos (starEach es X.env)).any (·.1) = false := by rfl) :
    PE X (.Call (.Name x p) (e :: es) [] pos) (tClo0 X.prog X.w X.K X.mg X.base NM k i t) := by
  refine ⟨fun pins s σ H Q I h => ?_⟩
  obtain ⟨f, hs, hf, ht⟩ := h
  refine wpAny_Call_Name_kw (thn ((pe_var (pos := p) hN hv hd hcd).run pins s σ H (fun v H1 => v = .ref f ∧ H1 = H) I ⟨.ref f, hs, rfl, rfl⟩) fun u s1 ⟨v, H1, I1, r1, ev, eH⟩ => ?_)
  subst ev
  rw [eH] at I1
  obtain rfl : u = Value.ref f := r1
  refine PySem.W.callWith_F (first := []) (fnAt_by I1 hf) (thn (ha.run pos pins s1 σ H _ I1 ht) fun us s2 ⟨vs, H2, I2, r, sp, c, q⟩ => ⟨fnAt_by I2 c.1, ?_⟩) he hpl
  refine wpAny_call (codeAny_mono (c.2 _ (Ext.refl _) X.A X.stack s2 us vs _ E0 (hr.mono hk) I2.env0 r q) fun r s' hq => ?_)
  cases r with
  | error er => exact (show False from hq).elim
  | ok fl =>
    cases fl with
    | ret u => exact I2.after hq
    | next => exact False.elim hq
    | brk => exact False.elim hq
    | cont => exact False.elim hq
theorem pe_clL (c : Cl X.prog X.w X.K X.mg X.base CX0 k x sp) (hr : Room j X.A) (hk : k ≤ j) (O : X.Ok → Off X) (hj : CellsJ X js) (hg : Gl X x) (ha : PA X (e :: es) t)
    (hdb : (x == ("__debug__" : Str)) = false := by decide) (he : starEach (e :: es) X.env = (false, eval e X.env) :: starEach es X.env := by rfl) (hpl : (backTo pos (starEach es X.env)).any (·.1) = false := by rfl) :
    PE X (.Call (.Name x p) (e :: es) [] pos) (tCallL (fun σ cs => Lv X.env X.N σ js cs) sp t) := by
  obtain ⟨g, fd, ps, F, hm, kp, b⟩ := c.ex
  refine ⟨fun pins s σ H Q I h => ?_⟩
  refine wpAny_Call_Name_kw (ld_glob I hg hm ?_ hdb)
  refine PySem.W.callWith_K (h₀ := X.base) I.ok.mod.kin kp (thn (ha.run pos pins s σ H _ I h) fun us s1 ⟨vs, H1, I1, r, q⟩ => ⟨I1.kIn, ?_⟩) he hpl
  have L := lent_of (X := X) (s := s1) (heldJ σ js)
  have q := q _ (lv_of I1 hj) fun b o e => L.free I1 b o e
  have hl : (us ++ []).length = ps.length := by rw [List.append_nil, ← r.length]; exact F.len _ _ _ _ q
  have bt := b s1 us I1.kIn hl
  rw [List.append_nil] at bt
  exact run_lent I1 (O I1.ok) L (F.run X.A X.stack s1 _ ⟨us, []⟩ us vs _ E0 (hr.mono hk) (env0_lent I1 (O I1.ok) L) bt r q)
end


end
section
/-! ### statements whose return tells what the names hold -/
structure EndX where
  nx : L2.St → Hp → Prop
  rt : L2.St → V → Hp → Prop
  bk : L2.St → Hp → Prop := fun _ _ => False
  ct : L2.St → Hp → Prop := fun _ _ => False
abbrev TX := EndX → L2.St → Hp → Prop
def SX (X : Cx) (pins : List (Addr × Obj)) (D : EndX) (f : Flow) (s' : Shared) : Prop :=
  ∃ σ' H', Inv X pins σ' H' s' ∧ match f with
    | .next => D.nx σ' H'
    | .brk => D.bk σ' H'
    | .cont => D.ct σ' H'
    | .ret u => ∃ v, L2.RelV v u ∧ D.rt σ' v H'
structure PX (X : Cx) (st : Stmt) (t : TX) : Prop where
  run : ∀ pins s σ H D, Inv X pins σ H s → t D σ H → wpAny (model X.prog X.w) X.A (exec st X.env) (SX X pins D) X.xe s
structure PXs (X : Cx) (sts : List Stmt) (t : TX) : Prop where
  run : ∀ pins s σ H D, Inv X pins σ H s → t D σ H → wpAny (model X.prog X.w) X.A (execs sts X.env) (SX X pins D) X.xe s
def xOf (t : TS) : TX := fun D σ H => t { nx := D.nx, rt := fun _ _ => False, bk := D.bk, ct := D.ct } σ H
def xSeq (t u : TX) : TX := fun D σ H => t { D with nx := u D } σ H
def xNext : TX := fun D σ H => D.nx σ H
def xRet (te : TE) : TX := fun D σ H => te σ H fun v H1 => D.rt σ v H1
def xIf (c : TT) (t u : TX) : TX := fun D σ H => c σ H fun b H1 => if b = true then t D σ H1 else u D σ H1
def xWhile (c : TT) (tb : TX) : TX := fun D σ H => ∃ W : Nat → L2.St → Hp → Prop, (∃ m, W m σ H) ∧ ∀ m σ H, W m σ H →
  c σ H fun b H1 => if b = true then ∃ N : L2.St → Hp → Prop, (∀ σ' H', N σ' H' → ∃ m', m' < m ∧ W m' σ' H') ∧ tb { D with nx := N, ct := N, bk := D.nx } σ H1 else D.nx σ H1
section
variable {X : Cx} {st : Stmt} {sts : List Stmt} {t u : TX} {ts : TS} {e : Expr} {te : TE} {tc : TT} {pos : Pos}
theorem px_of (h : PS X st ts) : PX X st (xOf ts) := by
  refine ⟨fun pins s σ H D I q => wpAny_mono (h.run pins s σ H _ I q) (fun f s' z => ?_) fun _ _ z => z⟩
  cases f with
  | ret w => obtain ⟨_, _, _, _, _, z⟩ := z; exact False.elim z
  | next => obtain ⟨σ', H', J, z⟩ := z; exact ⟨σ', H', J, z⟩
  | brk => obtain ⟨σ', H', J, z⟩ := z; exact ⟨σ', H', J, z⟩
  | cont => obtain ⟨σ', H', J, z⟩ := z; exact ⟨σ', H', J, z⟩
theorem pxs_nil : PXs X [] xNext := ⟨fun pins s σ H D I q => wpAny_execs_nil ⟨σ, H, I, q⟩⟩
theorem pxs_cons (a : PX X st t) (b : PXs X sts u) : PXs X (st :: sts) (xSeq t u) := by
  refine ⟨fun pins s σ H D I q => wpAny_execs_cons (wpAny_mono (a.run pins s σ H { D with nx := u D } I q) (fun f s' z => ?_) fun _ _ z => z)⟩
  obtain ⟨σ', H', J, z⟩ := z
  cases f with
  | next => exact b.run pins s' σ' H' D J z
  | ret w => exact ⟨σ', H', J, z⟩
  | brk => exact ⟨σ', H', J, z⟩
  | cont => exact ⟨σ', H', J, z⟩
theorem pxs_one (a : PX X st t) : PXs X [st] t := by
  refine ⟨fun pins s σ H D I q => wpAny_execs_cons (wpAny_mono (a.run pins s σ H D I q) (fun f s' z => ?_) fun _ _ z => z)⟩
  cases f with
  | next => exact wpAny_execs_nil z
  | ret w => exact z
  | brk => exact z
  | cont => exact z
theorem px_ret (h : PE X e te) : PX X (.Return (some e) pos) (xRet te) :=
  ⟨fun pins s σ H D I q => wpAny_Return_some (wpAny_mono (h.run pins s σ H _ I q) (fun w s' ⟨v, H', J, r, z⟩ => ⟨σ, H', J, v, r, z⟩) fun _ _ z => z)⟩
theorem px_if {c : Expr} {a b : List Stmt} (hc : PT X c tc) (ha : PXs X a t) (hb : PXs X b u) : PX X (.If c a b pos) (xIf tc t u) := by
  refine ⟨fun pins s σ H D I q => wpAny_If (wpAny_mono (hc.run pins s σ H _ I q) (fun d s' ⟨H', J, z⟩ => ?_) fun _ _ z => z)⟩
  cases d
  · exact hb.run pins s' σ H' D J z
  · exact ha.run pins s' σ H' D J z
theorem px_while {c : Expr} {a : List Stmt} (hp : PassesOwn (model X.prog X.w) X.A X.env X.xe) (hc : PT X c tc) (ha : PXs X a t) : PX X (.While c a [] pos) (xWhile tc t) := by
  refine ⟨fun pins s σ H D I ⟨W, ⟨m0, w0⟩, turn⟩ => wpAny_While (codeAny_whileLoop (fun n s' => ∃ σ' H', Inv X pins σ' H' s' ∧ W n σ' H') (fun n s1 ⟨σ1, H1, I1, w1⟩ => ?_) m0 ⟨σ, H, I, w0⟩)⟩
  refine wpAny_passesOwn hp (wpAny_mono (hc.run pins s1 σ1 H1 _ I1 (turn n σ1 H1 w1)) (fun b s2 ⟨H2, I2, q2⟩ => ?_) fun _ _ z => z)
  cases b with
  | false =>
    rw [if_neg Bool.false_ne_true]
    exact wpAny_execs_nil ⟨σ1, H2, I2, q2⟩
  | true =>
    obtain ⟨N, hN, q2⟩ := q2
    rw [if_pos rfl]
    have again : ∀ s3 σ3 H3, Inv X pins σ3 H3 s3 → N σ3 H3 → ∃ m, m < n ∧ ∃ σ' H', Inv X pins σ' H' s3 ∧ W m σ' H' := fun s3 σ3 H3 I3 n3 => by
      obtain ⟨m, hm, w3⟩ := hN σ3 H3 n3
      exact ⟨m, hm, σ3, H3, I3, w3⟩
    refine wpAny_passesOwn hp (wpAny_mono (ha.run pins s2 σ1 H2 _ I2 q2) (fun f s3 ⟨σ3, H3, I3, z⟩ => ?_) fun _ _ z => z)
    cases f with
    | next => exact again s3 σ3 H3 I3 z
    | cont => exact again s3 σ3 H3 I3 z
    | brk => exact ⟨σ3, H3, I3, z⟩
    | ret w => exact ⟨σ3, H3, I3, z⟩
end


end
section
/-! ### the frame of a function that has captured cells, and may have cells of its own -/
theorem cells_app : ∀ (ns : List (Str × NameKind)) (n : Nat) (acc : List (Str × Addr)), cellsFrom n ns acc = cellsFrom n ns [] ++ acc
  | [], _, acc => by unfold cellsFrom; rfl
  | (x, kd) :: r, n, acc => by
    unfold cellsFrom
    split
    · rw [cells_app r (n + 1) ((x, n) :: acc), cells_app r (n + 1) [(x, n)], List.append_assoc] <;> rfl
    · exact cells_app r n acc
theorem cells_kind : ∀ (ns : List (Str × NameKind)) (n : Nat) {p : Str × Addr}, p ∈ cellsFrom n ns [] → (p.1, NameKind.cell) ∈ ns
  | [], _, _, h => by unfold cellsFrom at h; cases h
  | (x, kd) :: r, n, p, h => by
    unfold cellsFrom at h
    split at h
    · rename_i hk
      rw [cells_app] at h
      rcases List.mem_append.mp h with h | h
      · exact List.mem_cons_of_mem _ (cells_kind r _ h)
      · have e : p = (x, n) := by simpa using h
        rw [e, show kd = NameKind.cell from eq_of_beq hk]
        exact List.mem_cons_self
    · exact List.mem_cons_of_mem _ (cells_kind r _ h)
theorem look_app {α : Type} {a b : List (Str × α)} {x : Str} {c : α} (h : (a ++ b).lookup x = some c) : a.lookup x = some c ∨ (a.lookup x = none ∧ b.lookup x = some c) := by
  rw [List.lookup_append] at h
  cases e : a.lookup x with
  | some d => rw [e] at h; exact .inl h
  | none => rw [e] at h; exact .inr ⟨rfl, h⟩
section
variable {M : Model} {A : Around} {E : Value → Shared → Prop} {s s0 : Shared} {env : Env} {own cl : List (Str × Addr)}
theorem bind_own (g : Str × Value → PUnit → Sem (ForInStep PUnit)) (hg : ∀ n v u, g (n, v) u = (do storeName env n v; pure (.yield ⟨⟩))) (hk : env.scope.kind = .function) (hc : env.cells = own ++ cl) :
    ∀ (binds : List (Str × Value)) (m cm : Str → Option Value) (s : Shared) (Q : PUnit → Shared → Prop), InCallC s0 env.locals m own cm s →
      (∀ x ∈ binds, env.kindOf x.1 = some .local ∨ (env.kindOf x.1 = some .cell ∧ ∃ c, own.lookup x.1 = some c)) →
      (∀ s', InCallC s0 env.locals (bindL env.kindOf binds m) own (bindC env.kindOf binds cm) s' → Q ⟨⟩ s') → wpAny M A (forIn binds ⟨⟩ g) Q E s := by
  intro binds
  induction binds with
  | nil => intro m cm s Q x _ h; rw [List.forIn_nil]; exact wpAny_pure (h s x)
  | cons p r ih =>
    obtain ⟨n, v⟩ := p
    intro m cm s Q x kinds h
    have rest := fun y hy => kinds y (List.mem_cons_of_mem _ hy)
    rw [List.forIn_cons, hg]
    obtain ⟨⟨⟨h1, tk, es⟩, xns, xkp, xfr⟩, xc, xa, xu⟩ := x
    have lt : ∀ b o, s0.heap.get? b = some o → b < env.locals := fun b o e => Nat.lt_of_lt_of_le (Heap.lt_size e) xfr
    rcases kinds (n, v) List.mem_cons_self with l | ⟨l, c, ec⟩
    · refine wpAny_bind (wpAny_bind (wpAny_storeName_local l xns (fun h' n' sb => wpAny_pure (ih (fun y => if y = n then some v else m y) cm _ Q ?_ rest fun s' x' => h s' ?_)) (by rw [hk]; rfl)))
      · refine ⟨⟨⟨h', tk + 1, by rw [es]⟩, n', fun b o e => sb.extBut b o (Nat.ne_of_lt (lt b o e)) (xkp b o e), xfr⟩, fun y c hc => (xc y c hc).sameBut sb (Nat.ne_of_gt (xu y c (PySem.mem_of_lookup hc))), xa, xu⟩
      · unfold bindL bindC
        have l' : env.kindOf n = some .local := l
        rw [if_pos l', if_pos l']
        exact x'
    · have cu := xu n c (PySem.mem_of_lookup ec)
      have full : env.cells.lookup n = some c := by rw [hc, List.lookup_append, show own.lookup n = some c from ec] <;> rfl
      refine wpAny_bind (wpAny_bind (wpAny_storeName_cell hk l full (xc n c ec) fun h' hc' sb => wpAny_pure (ih m (fun y => if y = n then some v else cm y) _ Q ?_ rest fun s' x' => h s' ?_)))
      · refine ⟨⟨⟨h', tk, by rw [es]⟩, xns.sameBut sb (Nat.ne_of_lt cu), fun b o e => sb.extBut b o (Nat.ne_of_lt (Nat.lt_trans (lt b o e) cu)) (xkp b o e), xfr⟩, fun y d hd => ?_, xa, xu⟩
        by_cases z : y = n
        · subst z
          rw [show own.lookup y = some c from ec] at hd
          cases hd
          rw [if_pos rfl]
          exact hc'
        · rw [if_neg z]
          exact (xc y d hd).sameBut sb fun w => z (name_of_addr xa (PySem.mem_of_lookup hd) (w ▸ PySem.mem_of_lookup ec))
      · have l' : ¬ env.kindOf n = some .local := by
          rw [show env.kindOf n = some .cell from l]
          decide
        unfold bindL bindC
        rw [if_neg l', if_neg l']
        exact x'
theorem new_frame {scope : Scope} {globals : Addr} {binds : List (Str × Value)} {qual : Str} {func : Option Addr} {code : Value} {builtins : Addr} {Q : Env → Shared → Prop} (hk : scope.kind = .function)
    (kinds : ∀ x ∈ binds, scope.names.lookup x.1 = some .local ∨ (scope.names.lookup x.1 = some .cell ∧ ∃ c, (cellsFrom (s.heap.objs.size + 1) scope.names []).lookup x.1 = some c))
    (h : ∀ env, env = newEnv scope s.heap.objs.size globals (cellsFrom (s.heap.objs.size + 1) scope.names [] ++ cl) qual func code none builtins →
      ∀ s', InCallC s s.heap.objs.size (bindL env.kindOf binds fun _ => none) (cellsFrom (s.heap.objs.size + 1) scope.names []) (bindC env.kindOf binds fun _ => none) s' → Q env s') :
    wpAny M A (newFunctionEnv scope globals cl binds qual func code none builtins) Q E s := by
  simp only [newFunctionEnv, Option.isSome_none, Bool.false_eq_true, if_false]
  refine wpAny_bind (wpAny_alloc (wpAny_bind (wpAny_layCells _ (fun x kd cs => by cases e : kd == NameKind.cell <;> simp [e]) _ _ _ _ ?_)))
  have sz : (s.heap.push { cls := .type "frame", data := .dict #[] }).objs.size = s.heap.objs.size + 1 := Heap.size_push ..
  have ok := cellsFrom_ok scope.names (s.heap.push { cls := .type "frame", data := .dict #[] }) (s.heap.objs.size + 1) [] ⟨fun _ _ z => (nomatch z), List.Pairwise.nil⟩ (by rw [sz]; exact Nat.le_refl _)
  rw [sz] at ok
  have e1 : cellsFrom ({ s with heap := s.heap.push { cls := .type "frame", data := .dict #[] } } : Shared).heap.objs.size scope.names cl = cellsFrom (s.heap.objs.size + 1) scope.names [] ++ cl := by
    rw [cells_app]
    show cellsFrom (s.heap.push { cls := .type "frame", data := .dict #[] }).objs.size scope.names [] ++ cl = _
    rw [sz]
  rw [e1]
  refine wpAny_bind (bind_own (s0 := s) (own := cellsFrom (s.heap.objs.size + 1) scope.names []) (cl := cl) (env := newEnv scope s.heap.objs.size globals (cellsFrom (s.heap.objs.size + 1) scope.names [] ++ cl) qual func code none builtins) _ (fun _ _ _ => ?_) hk rfl binds (fun _ => none) (fun _ => none) _ _ ?_ kinds fun s' x => wpAny_pure (h _ ?_ s' x))
  · rfl
  · refine ⟨⟨⟨_, _, rfl⟩, (Heap.Ns.new s.heap (.type "frame")).keeps (pushCells_keeps _ _), fun b o e => pushCells_keeps _ _ b o (Heap.get?_push_of_some _ e), Nat.le_refl _⟩, fun y c hc => (ok.empty y c (PySem.mem_of_lookup hc)).1, ok.apart, fun y c hm => (ok.empty y c hm).2⟩
  · rfl
end


end
section
/-! ### a closure's frame: its names, its context, its entry -/
/-- the names of a function that captures some: its arguments and the captured ones stand first, once each -/
structure FScope (N ps fr : List Str) (sc : Scope) : Prop where
  isFun : sc.kind = .function
  plainC : sc.isCoroutine = false
  plainG : sc.isGenerator = false
  once : N.Nodup
  first : N.take (ps.length + fr.length) = ps ++ fr
  args : ∀ n ∈ ps, sc.names.lookup n = some .local ∨ sc.names.lookup n = some .cell
  outer : ∀ q ∈ sc.names, q.2 = .free → q.1 ∈ fr
  outerK : ∀ n ∈ fr, sc.names.lookup n = some .free
  notCell : ∀ n ∈ fr, (n, NameKind.cell) ∉ sc.names
def fscB (N ps fr : List Str) (sc : Scope) : Bool :=
  decide (sc.kind = .function) && !sc.isCoroutine && !sc.isGenerator && decide N.Nodup && decide (N.take (ps.length + fr.length) = ps ++ fr) &&
  (ps.all fun x => decide (sc.names.lookup x = some .local) || decide (sc.names.lookup x = some .cell)) && (sc.names.all fun y => !decide (y.2 = .free) || decide (y.1 ∈ fr)) &&
  (fr.all fun x => decide (sc.names.lookup x = some .free)) && fr.all fun x => !decide ((x, NameKind.cell) ∈ sc.names)
theorem fscope_by {N ps fr : List Str} {sc : Scope} (h : fscB N ps fr sc = true) : FScope N ps fr sc := by
  unfold fscB at h
  simp only [Bool.and_eq_true, Bool.or_eq_true, Bool.not_eq_true', decide_eq_true_eq, decide_eq_false_iff_not, List.all_eq_true] at h
  obtain ⟨⟨⟨⟨⟨⟨⟨⟨a1, a2⟩, a3⟩, a4⟩, a5⟩, a6⟩, a7⟩, a8⟩, a9⟩ := h
  exact ⟨a1, a2, a3, a4, a5, a6, fun y hy e => (a7 y hy).resolve_left fun z => z e, a8, a9⟩
theorem FScope.nd {N ps fr : List Str} {sc : Scope} (S : FScope N ps fr sc) : N.Nodup := S.once
abbrev envC (F : CF) (f L : Addr) : Env := PySem.W.envX F.qual F.scope L f (.ref F.c) (cellsFrom (L + 1) F.scope.names [] ++ F.cl)
def fcx (CX : CXT) (P : Program) (w : World) (K : PySem.W.Frag) (mg : Str → Option Value) (base : Heap) (N : List Str) (F : CF) (f : Addr) (A : Around) (outer : List Env) (s : Shared) (H : Hp) (E : XK) : Cx where
  prog := P
  w := w
  K := K
  mg := mg
  base := base
  A := A.deeper (envC F f s.heap.objs.size)
  N := N
  s_0 := s
  H_0 := H
  env := envC F f s.heap.objs.size
  outer := outer
  stack := envC F f s.heap.objs.size :: outer
  ex := []
  fn := fun x => decide (F.scope.names.lookup x = some .cell)
  calm := true
  pn := []
  xe := fun e s' => wpAny (model P w) (A.deeper (envC F f s.heap.objs.size)) (leaving (envC F f s.heap.objs.size) e) (fun _ s'' => CX outer H s E e s'') (fun e' s'' => CX outer H s E e' s'') s'
section
variable {CX : CXT} {P : Program} {w : World} {K : PySem.W.Frag} {mg : Str → Option Value} {base : Heap} {N ps fr : List Str} {F : CF} {f : Addr} {A : Around} {outer : List Env} {s s1 : Shared} {H : Hp} {E : XK} {us : List Value} {vs : List V} {ws : List (Option V)}
theorem inv_enter (S : FScope N ps fr F.scope) (hd : A.handled = none) (e0 : Env0 P w K mg base A outer s H) (hl : vs.length = ps.length) (r : Vals vs us) (C : NdefX.CellsAt F.cl fr ws s.heap H)
    (x : InCallC s s.heap.objs.size (bindL (envC F f s.heap.objs.size).kindOf (ps.zip us) fun _ => none) (cellsFrom (s.heap.objs.size + 1) F.scope.names []) (bindC (envC F f s.heap.objs.size).kindOf (ps.zip us) fun _ => none) s1) :
    Inv (fcx CX P w K mg base N F f A outer s H E) [] (NdefX.startF N vs ws) H s1 := by
  have room : ps.length + fr.length ≤ N.length := by
    have got := congrArg List.length S.first
    rw [List.length_take, List.length_append] at got
    omega
  have wsLen := C.len
  have onceP : ps.Nodup := by
    have got := S.once.sublist (List.take_sublist (ps.length + fr.length) N)
    rw [S.first] at got
    exact (List.nodup_append.mp got).1
  obtain ⟨h1, tk, es, hk⟩ := x.done
  have xCell := x.cell
  have xApart := x.apart
  have xUp := x.above
  have xNs := x.toInCall.ns
  subst es
  have freshC : ∀ y c, (cellsFrom (s.heap.objs.size + 1) F.scope.names []).lookup y = some c → s.heap.objs.size < c := fun y c e => xUp y c (PySem.mem_of_lookup e)
  have heldC : ∀ y c, F.cl.lookup y = some c → c < s.heap.objs.size := fun y c e => by
    obtain ⟨_, v, z⟩ := C.all y c e
    exact z.lt
  have cellStay : ∀ {c : Addr} {v : Option Value}, s.heap.IsCell c v → h1.IsCell c v := fun {c v} ⟨o, ho, hd⟩ => ⟨o, hk _ _ ho, hd⟩
  have noEx : ∀ b : Addr, b ∉ (fcx CX P w K mg base N F f A outer s H E).ex := fun b z => absurd (show b ∈ ([] : List Addr) from z) (by simp)
  have takenC : ∀ y ∈ fr, ∀ c, F.cl.lookup y = some c → (cellsFrom (s.heap.objs.size + 1) F.scope.names [] ++ F.cl).lookup y = some c := fun y hy c e => by
    have n : (cellsFrom (s.heap.objs.size + 1) F.scope.names []).lookup y = none := by
      cases got : (cellsFrom (s.heap.objs.size + 1) F.scope.names []).lookup y with
      | none => rfl
      | some d => exact absurd (cells_kind _ _ (PySem.mem_of_lookup got)) (S.notCell y hy)
    rw [List.lookup_append, n]
    exact e
  have madeC : ∀ y c, (cellsFrom (s.heap.objs.size + 1) F.scope.names []).lookup y = some c → (cellsFrom (s.heap.objs.size + 1) F.scope.names [] ++ F.cl).lookup y = some c := fun y c e => by
    rw [List.lookup_append, e] <;> rfl
  refine ⟨⟨e0.mod, S.isFun, rfl, rfl, Nat.le_refl _, fun y z c eN eV => ?_, fun y hy => ?_, fun y c hy e => ?_, fun _ => hd, Around.frames_deeper e0.frames, .inr ⟨rfl, rfl⟩, fun b z => absurd z (noEx b), e0.bs, e0.bsz, fun b _ _ => noEx b, fun b z => absurd z (noEx b), e0.funs, e0.frf⟩,
    rfl, e0.bare, Un.kept hk, ⟨_, xNs, fun i y v eN eV e3 => ?_⟩, fun y c e => ?_, e0.hok.fresh (Nat.le_refl _), fun y c e => ?_, fun p hp => absurd (show p ∈ ([] : List (Addr × Obj)) ++ [] from hp) (by simp), e0.hok.kept hk, ?_⟩
  · rcases look_app eN with a | ⟨_, a⟩ <;> rcases look_app eV with b | ⟨_, b⟩
    · exact name_of_addr xApart (PySem.mem_of_lookup a) (PySem.mem_of_lookup b)
    · exact absurd (Nat.lt_trans (freshC y c a) (heldC z c b)) (Nat.lt_irrefl _)
    · exact absurd (Nat.lt_trans (freshC z c b) (heldC y c a)) (Nat.lt_irrefl _)
    · exact C.inj y z c a b
  · have hy : F.scope.names.lookup y = some .cell ∨ F.scope.names.lookup y = some .free := hy
    rcases hy with hy | hy
    · obtain ⟨c, e⟩ := cell_has (n := s.heap.objs.size + 1) hy
      exact ⟨c, madeC y c e⟩
    · have m := S.outer _ (PySem.mem_of_lookup hy) rfl
      obtain ⟨i, hi⟩ := List.mem_iff_getElem?.mp m
      obtain ⟨c, hc, _⟩ := C.has i y hi
      exact ⟨c, takenC y m c hc⟩
  · have hy : F.scope.names.lookup y = some .cell := of_decide_eq_true hy
    obtain ⟨d, e'⟩ := cell_has (n := s.heap.objs.size + 1) hy
    rw [← Option.some.inj ((madeC y d e').symm.trans e)]
    exact Nat.le_of_lt (freshC y d e')
  · have eN : N[i]? = some y := eN
    unfold NdefX.startF at eV
    by_cases a : i < ps.length
    · have isAt : ps[i]? = some y := by
        have got : (ps ++ fr)[i]? = some y := by
          rw [← S.first, List.getElem?_take_of_lt (by omega)]
          exact eN
        rwa [List.getElem?_append_left a] at got
      rw [List.getElem?_append_left (by rw [List.length_map]; omega), List.getElem?_map] at eV
      have hv : vs[i]? = some v := by
        cases got : vs[i]? with
        | none => rw [got] at eV; cases eV
        | some w => rw [got] at eV; cases eV; rfl
      obtain ⟨u, hu, rv⟩ := r.get hv
      refine ⟨u, rv, ?_⟩
      rcases S.args y (List.mem_of_getElem? isAt) with k | k
      · exact .inl ⟨k, bindL_get onceP isAt hu k⟩
      · obtain ⟨c, e⟩ := cell_has (n := s.heap.objs.size + 1) k
        refine .inr ⟨.inl k, c, madeC y c e, ?_⟩
        have got := xCell y c e
        rw [bindC_get onceP isAt hu (by show F.scope.names.lookup y ≠ _; rw [k]; decide)] at got
        exact got
    · rw [List.getElem?_append_right (by rw [List.length_map]; omega), List.length_map] at eV
      by_cases b : i < ps.length + fr.length
      · have isAt : fr[i - ps.length]? = some y := by
          have got : (ps ++ fr)[i]? = some y := by
            rw [← S.first, List.getElem?_take_of_lt b]
            exact eN
          rwa [List.getElem?_append_right (by omega)] at got
        rw [List.getElem?_append_left (by omega), hl] at eV
        obtain ⟨c, hc, hv⟩ := C.has (i - ps.length) y isAt
        obtain ⟨u, ru, hu⟩ := hv v eV
        exact ⟨u, ru, .inr ⟨.inr (S.outerK y (List.mem_of_getElem? isAt)), c, takenC y (List.mem_of_getElem? isAt) c hc, cellStay hu⟩⟩
      · rw [List.getElem?_append_right (by omega), List.getElem?_replicate] at eV
        split at eV <;> cases eV
  · rcases look_app e with a | ⟨_, a⟩
    · exact ⟨_, xCell y c a⟩
    · obtain ⟨v, z⟩ := (C.all y c a).2
      exact ⟨v, cellStay z⟩
  · rcases look_app e with a | ⟨_, a⟩
    · exact e0.hok.fresh (Nat.le_of_lt (freshC y c a))
    · exact (C.all y c a).1
  · unfold NdefX.startF
    show _ = N.length
    rw [List.length_append, List.length_append, List.length_map, List.length_replicate]
    omega
end


end
section
/-! ### a frame's end: its cells are tracked from now on -/
theorem hok_lent {X : Cx} {pins : List (Addr × Obj)} {σ : L2.St} {H : Hp} {s : Shared} {cs : List (Addr × Obj)} (I : Inv X pins σ H s) (L : Lent X s cs) : HOk X.prog X.w (lendH cs H) s.heap := fun b u q => by
  have out : ∀ b u, H b = some u → lendH cs H b = some u := fun b u q => (lend_out (L.off I q)).trans q
  cases w : cs.lookup b with
  | some o =>
    rw [lend_in w] at q
    cases q
    exact fz_new (L.at_ b o w)
  | none =>
    rw [lend_out w] at q
    exact (I.hok b u q).stay (fun _ _ _ z => z) (fun d z => out d _ z) fun d xs z => out d _ z
/-- how the frame's cells stand in the caller's abstract heap: they are new, or they were tracked and are the frame's for the time of the run -/
structure Taken (X : Cx) (H2 : Hp) : Prop where
  cell : ∀ x c, X.env.cells.lookup x = some c → X.s_0.heap.objs.size ≤ c ∨ (X.H_0 c = none ∧ ∃ ob, H2 c = some (fz ob) ∧ X.s_0.heap.get? c = some ob)
  some_ : ∀ b o, H2 b = some o → X.H_0 b = some o ∨ ∃ x ob, X.env.cells.lookup x = some b ∧ o = fz ob ∧ X.H_0 b = none ∧ X.s_0.heap.get? b = some ob
  none_ : ∀ b, H2 b = none → X.H_0 b = none
theorem leave_ok {X : Cx} {σ : L2.St} {H H2 : Hp} {s' : Shared} {v : V} {u : Value} {Q : VK} (J : Inv X [] σ H s') (O : Off X) (ex : X.ex = []) (T : Taken X H2) (rv : L2.RelV v u)
    (q : ∀ cs, Lent X s' cs → cs = cellsAll X s'.heap → Q v (lendH cs H)) : CE X.outer X.prog X.w H2 X.s_0 Q u s' := by
  have L : Lent X s' (cellsAll X s'.heap) := lent_all
  have un := J.base
  rw [ex] at un
  have lk : ∀ x c ob, X.env.cells.lookup x = some c → X.s_0.heap.get? c = some ob → X.H_0 c = none → s'.heap.get? c = some ob := fun x c ob hx ho hn => un.keep c ob ho hn (O.fs x c hx) (by simp)
  have part : ∀ b o, H2 b = some o → (∀ ob, o ≠ fz ob) → X.H_0 b = some o := fun b o e n => (T.some_ b o e).resolve_right fun ⟨_, ob, _, z, _⟩ => n ob z
  have out : ∀ b w, H b = some w → lendH (cellsAll X s'.heap) H b = some w := fun b w e => (lend_out (L.off J e)).trans e
  refine ⟨v, lendH (cellsAll X s'.heap) H, J.os, J.bare, ⟨fun b o e n hb hx => un.keep b o e (T.none_ b n) hb hx, fun b o e n hb hx => un.slot b o e (T.none_ b n) hb hx, fun b o e n hx => ?_, un.there, fun b xs e => ?_, fun b o w e => ?_, fun b ps e => ?_⟩, hok_lent J L, rv, q _ L rfl⟩
  · have n2 := un.free b o e (T.none_ b n) hx
    cases w : (cellsAll X s'.heap).lookup b with
    | none => rw [lend_out w]; exact n2
    | some o' =>
      obtain ⟨x, hx'⟩ := L.own b o' w
      rcases T.cell x b hx' with z | ⟨_, ob, z, _⟩
      · exact absurd (Nat.lt_of_lt_of_le (Heap.lt_size e) z) (Nat.lt_irrefl _)
      · rw [n] at z; cases z
  · exact out b _ (un.tups b xs (part b _ e fun _ z => by cases z))
  · rcases T.some_ b _ e with z | ⟨x, ob, hx, z, y1, y3⟩
    · exact out b _ (un.frzs b o w z)
    · cases z
      exact lend_in (cellsAll_has hx (lk x b _ hx y3 y1))
  · obtain ⟨more, z⟩ := un.tbls b ps (part b _ e fun _ z => by cases z)
    exact ⟨more, out b _ z⟩
/-- without cells that are tracked -/
theorem Taken.own {X : Cx} (ok : X.Ok) (h : ∀ x, X.fn x = true) : Taken X X.H_0 := ⟨fun x c e => .inl (ok.cab x c (h x) e), fun _ _ e => .inl e, fun _ e => e⟩
/-- THE RULE for a def of the text whose cells live on -/
theorem fn_ofX {CX : CXT} {P : Program} {w : World} {K : PySem.W.Frag} {mg : Str → Option Value} {base : Heap} {k : Nat} {f : Addr} {name qual : Str} {params : Arguments} {body : List Stmt} {scope : Scope} {dV kV doc pm cdv ct oc : Value} {an od : Option Addr}
    {osl : Array (Option Value)} {N ps : List Str} {sp : Sp} {js : List Nat} (lk : K.lookup f = some ⟨oc, od, .func (PySem.W.fnOf name qual params body scope dV kV doc pm an cdv ct), osl⟩) (hcd : PySem.W.codeIn K cdv qual = true) (S : FnScope N ps scope)
    (len : ∀ vs H Q E, sp vs H Q E → vs.length = ps.length) (hj : ∀ j ∈ js, ∀ x, N[j]? = some x → scope.names.lookup x = some .cell)
    (hbody : ∀ (A : Around) (outer : List Env) (s : Shared) (H : Hp) (vs : List V) (Q : VK) (E : XK), Room k (A.deeper (envOfC qual scope s.heap.objs.size f cdv)) → sp vs H Q E →
      ∃ t, PXs (cxOf CX P w K mg base N qual scope f cdv A outer s H E) body t ∧
        t { nx := fun _ H' => Q .non H', rt := fun σ v H' => ∀ cs, LentV (envOfC qual scope s.heap.objs.size f cdv) N σ js cs → (∀ b o, cs.lookup b = some o → H' b = none) → Q v (lendH cs H') } (L2.start N vs) H) :
    FnOk P w K mg base CX (k + 1) f (PySem.W.fnOf name qual params body scope dV kV doc pm an cdv ct) ps sp := by
  refine ⟨len, fun A outer s H args us vs Q E hr e0 hb r hsp => ?_⟩
  have sameLen := len _ _ _ _ hsp
  have textStays : K.In s.heap := e0.mod.kin.keeps fun b o e => (e0.bs b o e).1
  have noLim : s.heap.NoLimit := e0.mod.nolimit.keeps fun b o e => (e0.bs b o e).1
  have argKinds : ∀ y ∈ ps.zip us, scope.names.lookup y.1 = some .local ∨ (scope.names.lookup y.1 = some .cell ∧ ((cellsFrom (s.heap.objs.size + 1) scope.names []).lookup y.1).isSome = true) := fun ⟨n, v⟩ hy =>
    (S.par n (List.of_mem_zip hy).1).imp id fun q => ⟨q, PySem.W.cellsFrom_some _ _ _ (.inl q)⟩
  refine codeAny_call_function hr.depth (textStays _ _ lk) rfl S.co S.gen rfl (PySem.W.codeRec_of textStays hcd) (hb _ _ _ _ (wpAny_newFunctionEnv_cells S.kind argKinds fun env he s1 x => ?_))
  subst he
  refine ⟨noLim.keeps x.toInCall.keep, codeAny_func ?_⟩
  obtain ⟨t, bodyOk, endOk⟩ := hbody A outer s H vs Q E (hr.deeper _) hsp
  have I : Inv (cxOf CX P w K mg base N qual scope f cdv A outer s H E) [] (L2.start N vs) H s1 := inv_start S hr.hd e0 sameLen r x
  refine wpAny_mono (bodyOk.run [] s1 (L2.start N vs) H _ I endOk) (fun fl s' ⟨σ', H', J, z⟩ => ?_) fun e s' hs => hs
  have O : Off (cxOf CX P w K mg base N qual scope f cdv A outer s H E) := .own J.ok fun _ => rfl
  cases fl with
  | ret u =>
    obtain ⟨v, rv, z⟩ := z
    exact leave_ok (H2 := H) J O rfl (.own J.ok fun _ => rfl) rv fun cs L ec => z cs (by rw [ec]; exact lentV_all J fun j hj' x hx => .inl (hj j hj' x hx)) (L.free J)
  | next => exact ⟨V.non, H', J.os, J.bare, J.base, J.hok, rfl, z⟩
  | brk => exact False.elim z
  | cont => exact False.elim z


end
section
/-! ### what a closure captured -/
structure CapH (H : Hp) (F : CF) (fr : List Str) (ws : List V) : Prop where
  len : ws.length = fr.length
  all : ∀ y c, F.cl.lookup y = some c → y ∈ fr
  inj : ∀ x y c, F.cl.lookup x = some c → F.cl.lookup y = some c → x = y
  has : ∀ (i : Nat) (y : Str), fr[i]? = some y → ∃ c v, F.cl.lookup y = some c ∧ ws[i]? = some v ∧ CellH H c v
theorem CapH.ext {NM : Nat → Nat → Str} {H H1 : Hp} {F : CF} {fr : List Str} {ws : List V} (c : CapH H F fr ws) (e : Ext NM H H1) : CapH H1 F fr ws :=
  ⟨c.len, c.all, c.inj, fun i y h => by
    obtain ⟨a, v, h1, h2, h3⟩ := c.has i y h
    exact ⟨a, v, h1, h2, h3.ext e⟩⟩
def isCap (F : CF) (b : Addr) : Bool := F.cl.any fun p => decide (p.2 = b) && decide (F.cl.lookup p.1 = some b)
theorem isCap_iff {F : CF} {b : Addr} : isCap F b = true ↔ ∃ y, F.cl.lookup y = some b := by
  unfold isCap
  rw [List.any_eq_true]
  constructor
  · rintro ⟨p, _, h⟩
    rw [Bool.and_eq_true, decide_eq_true_eq, decide_eq_true_eq] at h
    exact ⟨p.1, h.2⟩
  · rintro ⟨y, h⟩
    exact ⟨(y, b), PySem.mem_of_lookup h, by rw [Bool.and_eq_true, decide_eq_true_eq, decide_eq_true_eq]; exact ⟨rfl, h⟩⟩
/-- the abstract heap without the captured cells: they are the frame's while it runs -/
def takeH (F : CF) (H : Hp) : Hp := fun b => if isCap F b = true then none else H b
theorem take_in {F : CF} {H : Hp} {y : Str} {b : Addr} (h : F.cl.lookup y = some b) : takeH F H b = none := if_pos (isCap_iff.mpr ⟨y, h⟩)
theorem take_out {F : CF} {H : Hp} {b : Addr} (h : ∀ y, F.cl.lookup y ≠ some b) : takeH F H b = H b := if_neg fun z => by
  obtain ⟨y, e⟩ := isCap_iff.mp z
  exact h y e
theorem take_or (F : CF) (H : Hp) (b : Addr) : (∃ y, F.cl.lookup y = some b) ∨ takeH F H b = H b := by
  cases e : isCap F b with
  | true => exact .inl (isCap_iff.mp e)
  | false => exact .inr (if_neg (by rw [e]; exact Bool.false_ne_true))
theorem CapH.at_ {H : Hp} {F : CF} {fr : List Str} {ws : List V} (c : CapH H F fr ws) {y : Str} {b : Addr} (h : F.cl.lookup y = some b) : ∃ v, CellH H b v := by
  obtain ⟨i, hi⟩ := List.mem_iff_getElem?.mp (c.all y b h)
  obtain ⟨b', v, h1, _, h3⟩ := c.has i y hi
  rw [h] at h1
  cases h1
  exact ⟨v, h3⟩
theorem take_some {H : Hp} {F : CF} {fr : List Str} {ws : List V} (c : CapH H F fr ws) {b : Addr} {o : HO} (e : H b = some o) (n : ∀ ob v, o = fz ob → ¬ CellV v ob) : takeH F H b = some o := by
  rcases take_or F H b with ⟨y, h⟩ | h
  · obtain ⟨v, ob, e1, e2⟩ := c.at_ h
    rw [e] at e1
    exact absurd e2 (n ob v (Option.some.inj e1))
  · rw [h]; exact e
theorem Tb.take {NM : Nat → Nat → Str} {H : Hp} {F : CF} {fr : List Str} {ws : List V} (c : CapH H F fr ws) : ∀ {n : Nat} {T : Addr}, Tb NM n H T → Tb NM n (takeH F H) T
  | 0, _, ⟨ps, h⟩ => ⟨ps, take_some c h fun ob v z => by cases z⟩
  | n + 1, _, ⟨ps, h, tr, k⟩ => ⟨ps, take_some c h (fun ob v z => by cases z), tr, fun pos cv ec => by
      obtain ⟨c', T', e1, ⟨ob, e2, e3⟩, e4⟩ := k pos cv ec
      refine ⟨c', T', e1, ⟨ob, take_some c e2 fun o v z => ?_, e3⟩, e4.take c⟩
      cases z
      obtain ⟨⟨us, eu⟩, _⟩ := e3
      rintro ⟨u, z, _⟩
      rw [eu] at z
      cases z⟩
/-- the captured cells lent to a call: all that was known is known again -/
theorem take_lent {NM : Nat → Nat → Str} {H H' : Hp} {F : CF} {fr : List Str} {ws : List V} {cs : List (Addr × Obj)} (c : CapH H F fr ws) (e : Ext NM (takeH F H) H') (out : ∀ b o, cs.lookup b = some o → H' b = none)
    (h : ∀ (i : Nat) (y : Str) (v : V), fr[i]? = some y → ws[i]? = some v → ∃ b ob, F.cl.lookup y = some b ∧ cs.lookup b = some ob ∧ CellV v ob) : Ext NM H (lendH cs H') := by
  have keep : ∀ b o, H' b = some o → lendH cs H' b = some o := fun b o q => by
    cases w : cs.lookup b with
    | none => rw [lend_out w]; exact q
    | some o' => rw [out b o' w] at q; cases q
  refine ⟨fun b xs q => keep b _ (e.tup b xs (take_some c q fun ob v z => by cases z)), fun b ob q => ?_, fun n T t => (e.tb n T (t.take c)).ext keep, fun b o q n1 n2 n3 => keep b o (e.oth b o (take_some c q fun ob v z => absurd z (n3 ob)) n1 n2 n3)⟩
  rcases take_or F H b with ⟨y, hy⟩ | z
  · obtain ⟨i, hi⟩ := List.mem_iff_getElem?.mp (c.all y b hy)
    obtain ⟨b1, v, h1, h2, ob1, h3, h4⟩ := c.has i y hi
    rw [hy] at h1
    cases h1
    rw [q] at h3
    cases h3
    obtain ⟨b2, ob2, g1, g2, g3⟩ := h i y v hi h2
    rw [hy] at g1
    cases g1
    exact ⟨ob2, lend_in g2, .inr ⟨v, h4, g3⟩⟩
  · rw [q] at z
    obtain ⟨ob', k1, k2⟩ := e.frz b ob z
    exact ⟨ob', keep b _ k1, k2⟩
section
variable {P : Program} {w : World} {K : PySem.W.Frag} {mg : Str → Option Value} {base : Heap} {N ps fr : List Str} {F : CF} {f : Addr} {A : Around} {outer : List Env} {s s1 : Shared} {H : Hp} {ws : List V}
theorem env0_take (e : Env0 P w K mg base A outer s H) (c : CapH H F fr ws) : Env0 P w K mg base A outer s (takeH F H) := by
  have ns : ∀ b, H b = none → takeH F H b = none := fun b n => by
    rcases take_or F H b with ⟨y, h⟩ | z
    · exact take_in h
    · rw [z]; exact n
  refine ⟨e.frames, e.mod, fun b o hb => ⟨(e.bs b o hb).1, ns b (e.bs b o hb).2⟩, e.bsz, e.funs, fun b hb => ns b (e.frf b hb), fun b u q => ?_, e.bare⟩
  have q' : H b = some u := by
    rcases take_or F H b with ⟨y, h⟩ | z
    · rw [take_in h] at q; cases q
    · rw [← z]; exact q
  exact (e.hok b u q').stay (fun _ _ _ z => z) (fun d z => take_some c z fun _ _ y => by cases y) fun d xs z => take_some c z fun _ _ y => by cases y
theorem cells_take (e : Env0 P w K mg base A outer s H) (c : CapH H F fr ws) : NdefX.CellsAt F.cl fr (ws.map some) s.heap (takeH F H) := by
  have isc : ∀ b v, CellH H b v → ∃ u, L2.RelV v u ∧ s.heap.IsCell b (some u) := fun b v ⟨ob, h, u, h1, h2⟩ => ⟨u, h2, ob, (e.hok b _ h).1, h1⟩
  refine ⟨by rw [List.length_map]; exact c.len, fun y b h => ⟨take_in h, ?_⟩, c.inj, fun i y h => ?_⟩
  · obtain ⟨v, hv⟩ := c.at_ h
    obtain ⟨u, _, z⟩ := isc b v hv
    exact ⟨_, z⟩
  · obtain ⟨b, v, h1, h2, h3⟩ := c.has i y h
    refine ⟨b, h1, fun v' ev => ?_⟩
    rw [List.getElem?_map, h2] at ev
    have ev : some (some v) = some (some v') := ev
    cases ev
    exact isc b v h3
theorem off_take {CX : CXT} {E : XK} {H3 : Hp} (e : Env0 P w K mg base A outer s H) (c : CapH H F fr ws) : Off (fcx CX P w K mg base N F f A outer s H3 E) := by
  have new : ∀ x b, (cellsFrom (s.heap.objs.size + 1) F.scope.names []).lookup x = some b → s.heap.objs.size ≤ b := fun x b h => by
    have ok := cellsFrom_ok F.scope.names (s.heap.push { cls := .type "frame", data := .dict #[] }) (s.heap.objs.size + 1) [] ⟨fun _ _ z => (nomatch z), List.Pairwise.nil⟩ (by rw [Heap.size_push]; exact Nat.le_refl _)
    rw [Heap.size_push] at ok
    exact Nat.le_of_lt (ok.empty x b (PySem.mem_of_lookup h)).2
  refine ⟨fun x b h => ?_, fun x b h hb => ?_⟩
  · rcases look_app h with h | ⟨_, h⟩
    · exact Heap.get?_none_of_le (Nat.le_trans e.bsz (new x b h))
    · obtain ⟨v, ob, hv, _⟩ := c.at_ h
      show base.get? b = none
      cases q : base.get? b with
      | none => rfl
      | some o => rw [(e.bs b o q).2] at hv; cases hv
  · rcases look_app h with h | ⟨_, h⟩
    · obtain ⟨_, o, ho, _⟩ := e.funs.mem hb
      exact absurd (Nat.lt_of_lt_of_le (Heap.lt_size ho) (new x b h)) (Nat.lt_irrefl _)
    · obtain ⟨v, ob, hv, _⟩ := c.at_ h
      rw [e.frf b hb] at hv
      cases hv
theorem taken_take {CX : CXT} {E : XK} (S : FScope N ps fr F.scope) (e : Env0 P w K mg base A outer s H) (c : CapH H F fr ws) : Taken (fcx CX P w K mg base N F f A outer s (takeH F H) E) H := by
  have new : ∀ x b, (cellsFrom (s.heap.objs.size + 1) F.scope.names []).lookup x = some b → s.heap.objs.size ≤ b := fun x b h => by
    have ok := cellsFrom_ok F.scope.names (s.heap.push { cls := .type "frame", data := .dict #[] }) (s.heap.objs.size + 1) [] ⟨fun _ _ z => (nomatch z), List.Pairwise.nil⟩ (by rw [Heap.size_push]; exact Nat.le_refl _)
    rw [Heap.size_push] at ok
    exact Nat.le_of_lt (ok.empty x b (PySem.mem_of_lookup h)).2
  have capt : ∀ y b, F.cl.lookup y = some b → (∃ x, (cellsFrom (s.heap.objs.size + 1) F.scope.names [] ++ F.cl).lookup x = some b) ∧ takeH F H b = none ∧ ∃ ob, H b = some (fz ob) ∧ s.heap.get? b = some ob := fun y b h => by
    obtain ⟨v, ob, hv, _⟩ := c.at_ h
    refine ⟨⟨y, ?_⟩, take_in h, ob, hv, (e.hok b _ hv).1⟩
    have n : (cellsFrom (s.heap.objs.size + 1) F.scope.names []).lookup y = none := by
      cases q : (cellsFrom (s.heap.objs.size + 1) F.scope.names []).lookup y with
      | none => rfl
      | some d => exact absurd (cells_kind _ _ (PySem.mem_of_lookup q)) (S.notCell y (c.all y b h))
    rw [List.lookup_append, n]
    exact h
  refine ⟨fun x b h => ?_, fun b o h => ?_, fun b h => ?_⟩
  · rcases look_app h with h | ⟨_, h⟩
    · exact .inl (new x b h)
    · obtain ⟨_, h2, h3⟩ := capt x b h
      exact .inr ⟨h2, h3⟩
  · rcases take_or F H b with ⟨y, hy⟩ | z
    · obtain ⟨⟨x, h1⟩, h2, ob, h3, h4⟩ := capt y b hy
      rw [h] at h3
      cases h3
      exact .inr ⟨x, ob, h1, rfl, h2, h4⟩
    · exact .inl (z.trans h)
  · rcases take_or F H b with ⟨y, hy⟩ | z
    · exact take_in hy
    · exact z.trans h
end


end
section
/-! ### THE RULES: a closure keeps its promise, by its body -/
theorem codeRec_by {P : Program} {w : World} {H : Hp} {h : Heap} {c T : Addr} {q : Str} (ok : HOk P w H h) (a : CodeAtH H c q T) : h.CodeRec (.ref c) q := by
  obtain ⟨ob, e, _, k⟩ := a
  obtain ⟨_, oc, us, tk, h1, h2, h3⟩ := k h (ok c _ e).1
  exact ⟨c, oc, us, tk, rfl, h1, h2, h3⟩
section
variable {P : Program} {w : World} {K : PySem.W.Frag} {mg : Str → Option Value} {base : Heap} {NM : Nat → Nat → Str} {N ps fr : List Str} {F : CF} {f T : Addr} {H : Hp} {ws : List V} {js : List Nat} {k : Nat} {sp : Sp}
/-- what a frame's end asks: all its cells lent, the wish holds -/
def Wish (env : Env) (N : List Str) (js : List Nat) (Q : VK) : L2.St → V → Hp → Prop := fun σ v H' => ∀ cs, LentV env N σ js cs → (∀ b o, cs.lookup b = some o → H' b = none) → Q v (lendH cs H')
theorem clo_by {b : List Stmt} (eb : F.body = .stmts b) (S : FScope N ps fr F.scope) (hb : ∀ (doc pm ct : Value) (us : List Value), us.length = ps.length → bindArgs (F.fd doc pm ct) ⟨us, []⟩ = pure (ps.zip us)) (len : ∀ vs H Q E, sp vs H Q E → vs.length = ps.length)
    (hF : FnAtH H f F) (hC : CodeAtH H F.c F.qual T) (C : CapH H F fr ws) (hj : ∀ j ∈ js, ∀ x, N[j]? = some x → F.scope.names.lookup x = some .cell ∨ F.scope.names.lookup x = some .free)
    (hbody : ∀ (A : Around) (outer : List Env) (s : Shared) (H2 : Hp) (vs : List V) (Q : VK) (E : XK), Ext NM H H2 → Room k (A.deeper (envC F f s.heap.objs.size)) → Off (fcx CX0 P w K mg base N F f A outer s (takeH F H2) E) → sp vs H2 Q E →
      ∃ t, PXs (fcx CX0 P w K mg base N F f A outer s (takeH F H2) E) b t ∧
        t { nx := fun _ _ => False, rt := Wish (envC F f s.heap.objs.size) N js Q } (NdefX.startF N vs (ws.map some)) (takeH F H2)) :
    Clo P w K mg base NM (k + 1) f sp H := by
  refine ⟨.inl ⟨F, hF⟩, fun H2 e2 A outer s us vs Q E hr e0 r hsp => ?_⟩
  have sameLen := len _ _ _ _ hsp
  have C2 := C.ext e2
  have noLim : s.heap.NoLimit := e0.mod.nolimit.keeps fun b o e => (e0.bs b o e).1
  obtain ⟨od, sl, doc, pm, ct, ho⟩ := fnAtH_at e0.hok (hF.ext e2)
  refine codeAny_call_function hr.depth ho rfl S.plainC S.plainG eb (codeRec_by e0.hok (hC.ext e2)) ?_
  rw [hb doc pm ct us (by rw [← r.length]; exact sameLen)]
  refine wpAny_pure (new_frame S.isFun (fun ⟨n, v⟩ hy => (S.args n (List.of_mem_zip hy).1).imp id fun q => ⟨q, cell_has q⟩) fun env he s1 x => ?_)
  subst he
  refine ⟨noLim.keeps x.toInCall.keep, codeAny_func ?_⟩
  obtain ⟨t, bodyOk, endOk⟩ := hbody A outer s H2 vs Q E e2 (hr.deeper _) (off_take e0 C2) hsp
  have I : Inv (fcx CX0 P w K mg base N F f A outer s (takeH F H2) E) [] (NdefX.startF N vs (ws.map some)) (takeH F H2) s1 := inv_enter S hr.hd (env0_take e0 C2) sameLen r (cells_take e0 C2) x
  refine wpAny_mono (bodyOk.run [] s1 _ _ _ I endOk) (fun fl s' ⟨σ', H', J, z⟩ => ?_) fun e s' hs => ?_
  · cases fl with
    | ret u =>
      obtain ⟨v, rv, z⟩ := z
      exact leave_ok (H2 := H2) J (off_take e0 C2) rfl (taken_take S e0 C2) rv fun cs L ec => z cs (by rw [ec]; exact lentV_all J hj) (L.free J)
    | next => exact False.elim z
    | brk => exact False.elim z
    | cont => exact False.elim z
  · exact wpAny_mono hs (fun _ _ z => (show False from z).elim) fun _ _ z => (show False from z).elim
theorem clo_lam {e : Expr} (eb : F.body = .expr e) (S : FScope N ps fr F.scope) (hb : ∀ (doc pm ct : Value) (us : List Value), us.length = ps.length → bindArgs (F.fd doc pm ct) ⟨us, []⟩ = pure (ps.zip us)) (len : ∀ vs H Q E, sp vs H Q E → vs.length = ps.length)
    (hF : FnAtH H f F) (hC : CodeAtH H F.c F.qual T) (C : CapH H F fr ws) (hj : ∀ j ∈ js, ∀ x, N[j]? = some x → F.scope.names.lookup x = some .cell ∨ F.scope.names.lookup x = some .free)
    (hbody : ∀ (A : Around) (outer : List Env) (s : Shared) (H2 : Hp) (vs : List V) (Q : VK) (E : XK), Ext NM H H2 → Room k (A.deeper (envC F f s.heap.objs.size)) → Off (fcx CX0 P w K mg base N F f A outer s (takeH F H2) E) → sp vs H2 Q E →
      ∃ t, PE (fcx CX0 P w K mg base N F f A outer s (takeH F H2) E) e t ∧
        t (NdefX.startF N vs (ws.map some)) (takeH F H2) (Wish (envC F f s.heap.objs.size) N js Q (NdefX.startF N vs (ws.map some)))) :
    Clo P w K mg base NM (k + 1) f sp H := by
  refine ⟨.inl ⟨F, hF⟩, fun H2 e2 A outer s us vs Q E hr e0 r hsp => ?_⟩
  have sameLen := len _ _ _ _ hsp
  have C2 := C.ext e2
  have noLim : s.heap.NoLimit := e0.mod.nolimit.keeps fun b o e => (e0.bs b o e).1
  obtain ⟨od, sl, doc, pm, ct, ho⟩ := fnAtH_at e0.hok (hF.ext e2)
  refine PySem.W.kla_callFunE hr.depth ho rfl S.plainC S.plainG eb (codeRec_by e0.hok (hC.ext e2)) ?_
  rw [hb doc pm ct us (by rw [← r.length]; exact sameLen)]
  refine wpAny_pure (new_frame S.isFun (fun ⟨n, v⟩ hy => (S.args n (List.of_mem_zip hy).1).imp id fun q => ⟨q, cell_has q⟩) fun env he s1 x => ?_)
  subst he
  refine ⟨noLim.keeps x.toInCall.keep, PySem.W.kla_codeExpr ?_⟩
  obtain ⟨t, bodyOk, endOk⟩ := hbody A outer s H2 vs Q E e2 (hr.deeper _) (off_take e0 C2) hsp
  have I : Inv (fcx CX0 P w K mg base N F f A outer s (takeH F H2) E) [] (NdefX.startF N vs (ws.map some)) (takeH F H2) s1 := inv_enter S hr.hd (env0_take e0 C2) sameLen r (cells_take e0 C2) x
  refine wpAny_mono (bodyOk.run [] s1 _ _ _ I endOk) (fun u s' ⟨v, H', J, rv, z⟩ => ?_) fun e s' hs => ?_
  · exact leave_ok (H2 := H2) J (off_take e0 C2) rfl (taken_take S e0 C2) rv fun cs L ec => z cs (by rw [ec]; exact lentV_all J hj) (L.free J)
  · exact wpAny_mono hs (fun _ _ z => (show False from z).elim) fun _ _ z => (show False from z).elim
end
/-! ### a function made by the running frame, seen where the frame's cells are lent -/
theorem cap_of {env : Env} {N : List Str} {σ : L2.St} {H : Hp} {cs : List (Addr × Obj)} {sc : Scope} {fr : List Str} {ws : List V} {js ks : List Nat} {F : CF} (ec : F.cl = cloFrom env.cells sc.names []) (LV : LentV env N σ js cs)
    (hf : ∀ y ∈ sc.names, y.2 = .free → env.scope.names.lookup y.1 = some .cell ∨ env.scope.names.lookup y.1 = some .free) (all : ∀ y ∈ sc.names, y.2 = .free → y.1 ∈ fr) (hfr : ∀ y ∈ fr, (y, NameKind.free) ∈ sc.names)
    (hk : ∀ j ∈ ks, j ∈ js) (hN : ks.map (fun j => N[j]?) = fr.map some) (hv : ks.map (fun j => σ[j]?) = ws.map fun v => some (some v)) : CapH (lendH cs H) F fr ws := by
  obtain ⟨ok, LV⟩ := LV
  have has : ∀ y ∈ sc.names, y.2 = .free → ∃ c, env.cells.lookup y.1 = some c := fun y hy e => ok.has _ (hf y hy e)
  have l1 := congrArg List.length hN
  have l2 := congrArg List.length hv
  rw [List.length_map, List.length_map] at l1 l2
  refine ⟨by omega, fun y c e => ?_, fun x y c e1 e2 => ?_, fun i y hi => ?_⟩
  · rw [ec] at e
    rcases cloFrom_mem (PySem.mem_of_lookup e) with z | ⟨z, _⟩
    · cases z
    · exact all _ z rfl
  · rw [ec] at e1 e2
    exact ok.inj x y c (NdefX.clo_cm has e1) (NdefX.clo_cm has e2)
  · have li : i < fr.length := (List.getElem?_eq_some_iff.mp hi).1
    have hj : ks[i]? = some ks[i] := List.getElem?_eq_getElem (by omega)
    have hw : ws[i]? = some ws[i] := List.getElem?_eq_getElem (by omega)
    have a1 : N[ks[i]]? = some y := by
      have q := congrArg (fun l : List (Option Str) => l[i]?) hN
      simp only [List.getElem?_map, hj, hi, Option.map_some] at q
      exact Option.some.inj q
    have a2 : σ[ks[i]]? = some (some ws[i]) := by
      have q := congrArg (fun l : List (Option (Option V)) => l[i]?) hv
      simp only [List.getElem?_map, hj, hw, Option.map_some] at q
      exact Option.some.inj q
    obtain ⟨c, ob, b1, b2, b3⟩ := LV _ (hk _ (List.getElem_mem _)) y _ a1 a2
    refine ⟨c, ws[i], by rw [ec]; exact NdefX.clo_has has (hfr y (List.mem_of_getElem? hi)) b1, hw, ob, lend_in b2, b3⟩
/-! ### without exceptions -/
theorem PXs.nox {X : Cx} {sts : List Stmt} {t : TX} (h : PXs X.nox sts t) : PXs X sts t := by
  refine ⟨fun pins s σ H D I q => wpAny_mono (h.run pins s σ H D (I.wish _) q) (fun f s' ⟨σ', H', J, z⟩ => ⟨σ', H', J.unwish, z⟩) fun _ _ z => False.elim z⟩
section
variable {P : Program} {w : World} {K : PySem.W.Frag} {mg : Str → Option Value} {base : Heap}
/-- a def of the text whose cells live on; its code object is at c -/
theorem okE {x qual : Str} {st : Stmt} {f c : Addr} {fd : FuncData} {N ps : List Str} {k : Nat} {sp : Sp} {js : List Nat} (F : Fun K x qual st f fd) (hc : fd.code = .ref c) (S : FnScope N ps (defScope st)) (len : ∀ vs H Q E, sp vs H Q E → vs.length = ps.length)
    (hj : ∀ j ∈ js, ∀ x, N[j]? = some x → (defScope st).names.lookup x = some .cell)
    (hbody : ∀ (A : Around) (outer : List Env) (s : Shared) (H : Hp) (vs : List V) (Q : VK) (E : XK), Room k (A.deeper (envOfC qual (defScope st) s.heap.objs.size f (.ref c))) → sp vs H Q E →
      ∃ t, PXs (cxOf CX0 P w K mg base N qual (defScope st) f (.ref c) A outer s H E).nox (defBody st) t ∧
        t { nx := fun _ H' => Q .non H', rt := Wish (envOfC qual (defScope st) s.heap.objs.size f (.ref c)) N js Q } (L2.start N vs) H) : FnOk P w K mg base CX0 (k + 1) f fd ps sp := by
  obtain ⟨oc, od, kV, doc, pm, an, cdv, ct, osl, rfl, lk, hcd⟩ := F.ex
  obtain rfl : cdv = .ref c := hc
  refine fn_ofX lk hcd S len hj fun A outer s H vs Q E hr hsp => ?_
  obtain ⟨t, h, q⟩ := hbody A outer s H vs Q E hr hsp
  exact ⟨t, h.nox, q⟩
end


end
section
/-! ### what a call of a process function leaves: all but tables and cells is as it was -/
structure Kp (NM : Nat → Nat → Str) (H H' : Hp) : Prop extends Ext NM H H' where
  all : ∀ b o, H b = some o → (∀ ps, o ≠ .tbl ps) → (∀ ob, o ≠ fz ob) → H' b = some o
section
variable {NM : Nat → Nat → Str} {H H1 H2 : Hp}
instance : Coe (Kp NM H H1) (Ext NM H H1) := ⟨Kp.toExt⟩
theorem Kp.refl (H : Hp) : Kp NM H H := ⟨Ext.refl H, fun _ _ e _ _ => e⟩
theorem Kp.trans (a : Kp NM H H1) (b : Kp NM H1 H2) : Kp NM H H2 := ⟨a.toExt.trans b.toExt, fun c o e n1 n2 => b.all c o (a.all c o e n1 n2) n1 n2⟩
theorem Grow.kpr (g : Grow NM H H1) : Kp NM H H1 := ⟨g.ext, fun b o e n _ => g.kp b o e n⟩
theorem Kp.new {a : Addr} {o : HO} (n : H a = none) : Kp NM H (upd H a o) := (Grow.new n).kpr
end
/-! ### processes -/
inductive Pr (α : Type) where
  | fin (a : α)
  | draw (n : Nat) (k : Nat → Pr α)
  | ask (x : Str) (k : Str → Pr α)
def Pr.bind {α β : Type} : Pr α → (α → Pr β) → Pr β
  | .fin a, g => g a
  | .draw n k, g => .draw n fun i => (k i).bind g
  | .ask x k, g => .ask x fun t => (k t).bind g
def Pr.serve {α β γ : Type} : Pr α → γ → (γ → Str → Pr (γ × Str)) → (γ → α → Pr β) → Pr β
  | .fin a, st, _, fi => fi st a
  | .draw n k, st, an, fi => .draw n fun i => (k i).serve st an fi
  | .ask x k, st, an, fi => (an st x).bind fun r => (k r.2).serve r.1 an fi
/-- a reply is a short text -/
def Short (t : Str) : Prop := t.length ≤ 1000
section
variable (P : Program) (w : World) (K : PySem.W.Frag) (mg : Str → Option Value) (base : Heap) (NM : Nat → Nat → Str)
/-- v is the process p; its functions run within k levels; R: how the value at the end lies -/
def RepPr {α : Type} (R : Hp → V → α → Prop) (k : Nat) : Pr α → Hp → V → Prop
  | .fin a, H, v => ∃ p x, v = .ref p ∧ H p = some (.tup [.str "end", x, .non]) ∧ R H x a
  | .draw n kf, H, v => ∃ p f, v = .ref p ∧ H p = some (.tup [.str "draw", .int (n : Int), .ref f]) ∧
      Clo P w K mg base NM k f (fun vs H2 Q _ => ∃ i : Nat, vs = [.int (i : Int)] ∧ i < n ∧ ∀ v' H', Kp NM H2 H' → RepPr R k (kf i) H' v' → Q v' H') H
  | .ask x kf, H, v => ∃ p f, v = .ref p ∧ H p = some (.tup [.str "ask", .str x, .ref f]) ∧
      Clo P w K mg base NM k f (fun vs H2 Q _ => ∃ t : Str, vs = [.str t] ∧ Short t ∧ ∀ v' H', Kp NM H2 H' → RepPr R k (kf t) H' v' → Q v' H') H
end
section
variable {P : Program} {w : World} {K : PySem.W.Frag} {mg : Str → Option Value} {base : Heap} {NM : Nat → Nat → Str} {α : Type} {R : Hp → V → α → Prop} {j k : Nat} {H H1 : Hp} {v : V}
/-- it stays as the heap grows -/
def StayR (NM : Nat → Nat → Str) (R : Hp → V → α → Prop) : Prop := ∀ H H1 v a, Ext NM H H1 → R H v a → R H1 v a
theorem RepPr.ext (hR : StayR NM R) : ∀ {p : Pr α}, RepPr P w K mg base NM R k p H v → Ext NM H H1 → RepPr P w K mg base NM R k p H1 v
  | .fin a, ⟨p, x, e, h, r⟩, g => ⟨p, x, e, g.tup _ _ h, hR _ _ _ _ g r⟩
  | .draw n kf, ⟨p, f, e, h, c⟩, g => ⟨p, f, e, g.tup _ _ h, c.ext g⟩
  | .ask x kf, ⟨p, f, e, h, c⟩, g => ⟨p, f, e, g.tup _ _ h, c.ext g⟩
theorem RepPr.mono (h : j ≤ k) : ∀ {p : Pr α} {H : Hp} {v : V}, RepPr P w K mg base NM R j p H v → RepPr P w K mg base NM R k p H v
  | .fin a, _, _, q => q
  | .draw n kf, _, _, ⟨p, f, e, h1, c⟩ => ⟨p, f, e, h1, (c.imp fun H2 _ vs Q E ⟨i, h2, h3, h4⟩ => ⟨i, h2, h3, fun v' H' g r => h4 v' H' g (RepPr.mono h r)⟩).mono h⟩
  | .ask x kf, _, _, ⟨p, f, e, h1, c⟩ => ⟨p, f, e, h1, (c.imp fun H2 _ vs Q E ⟨t, h2, h3, h4⟩ => ⟨t, h2, h3, fun v' H' g r => h4 v' H' g (RepPr.mono h r)⟩).mono h⟩
end


end
section
/-! ### places in the text -/
def nthS (b : List Stmt) (i : Nat) : Stmt := b.getD i (.Pass ⟨0, 0, 0, 0⟩)
def noE : Expr := .Name "" ⟨0, 0, 0, 0⟩
def retE (s : Stmt) : Expr := match s with
  | .Return (some e) _ => e
  | _ => noE
def thenS (s : Stmt) : List Stmt := match s with
  | .If _ b _ _ => b
  | _ => []
def elseS (s : Stmt) : List Stmt := match s with
  | .If _ _ b _ => b
  | _ => []
def loopS (s : Stmt) : List Stmt := match s with
  | .While _ b _ _ => b
  | _ => []
def argE (e : Expr) (i : Nat) : Expr := match e with
  | .Call _ as _ _ => as.getD i noE
  | _ => noE
def tupE (e : Expr) (i : Nat) : Expr := match e with
  | .Tuple es _ _ => es.getD i noE
  | _ => noE
def lamE (e : Expr) : Expr := match e with
  | .Lambda _ b _ _ => b
  | _ => noE
def lamSc (e : Expr) : Scope := match e with
  | .Lambda _ _ sc _ => sc
  | _ => { kind := .function, names := [], isGenerator := false, isCoroutine := false }
def lamA (e : Expr) : Arguments := match e with
  | .Lambda a _ _ _ => a
  | _ => ⟨[], [], none, [], [], none, []⟩
def lamP (e : Expr) : Pos := match e with
  | .Lambda _ _ _ p => p
  | _ => ⟨0, 0, 0, 0⟩
def defP (s : Stmt) : Pos := match s with
  | .FunctionDef _ _ _ _ _ _ _ _ _ p => p
  | _ => ⟨0, 0, 0, 0⟩
theorem cellsJ_by {N : List Str} {sc : Scope} {js : List Nat} (h : (js.all fun j => match N[j]? with
    | some x => decide (sc.names.lookup x = some .cell) || decide (sc.names.lookup x = some .free)
    | none => true) = true) : ∀ j ∈ js, ∀ x, N[j]? = some x → sc.names.lookup x = some .cell ∨ sc.names.lookup x = some .free := fun j hj x e => by
  have q := List.all_eq_true.mp h j hj
  rw [e] at q
  have q : (decide (sc.names.lookup x = some .cell) || decide (sc.names.lookup x = some .free)) = true := q
  rw [Bool.or_eq_true, decide_eq_true_eq, decide_eq_true_eq] at q
  exact q
theorem cellsO_by {N : List Str} {sc : Scope} {js : List Nat} (h : (js.all fun j => match N[j]? with
    | some x => decide (sc.names.lookup x = some .cell)
    | none => true) = true) : ∀ j ∈ js, ∀ x, N[j]? = some x → sc.names.lookup x = some .cell := fun j hj x e => by
  have q := List.all_eq_true.mp h j hj
  rw [e] at q
  exact of_decide_eq_true q
/-- the function that a lambda of the text becomes -/
abbrev lamF (e : Expr) (qual : Str) (cl : List (Str × Addr)) (c' : Addr) : CF := ⟨"<lambda>", qual ++ "<lambda>", lamA e, .expr (lamE e), lamSc e, cl, c'⟩
/-- .. and a def within a def -/
abbrev defF (st : Stmt) (name qual : Str) (cl : List (Str × Addr)) (c' : Addr) : CF := ⟨name, qual ++ name, defArgs st, .stmts (defBody st), defScope st, cl, c'⟩
section
variable {X : Cx} {NM : Nat → Nat → Str} {n i : Nat} {c T : Addr}
theorem pe_lamS {e : Expr} (he : e = .Lambda (lamA e) (lamE e) (lamSc e) (lamP e)) (ec : X.env.code = .ref c) (B : BlOk X.base X.mg) (hn : NM (lamP e).line (lamP e).col = X.env.qual ++ "<lambda>") (hd : defaultsOf (lamA e) X.env = ([], []))
    (hf : ∀ y ∈ (lamSc e).names, y.2 = .free → X.env.scope.names.lookup y.1 = some .cell ∨ X.env.scope.names.lookup y.1 = some .free) :
    PE X e (tMk NM n X.base c T (lamF e X.env.qual (taken X (lamSc e)))) := by
  have q := pe_mk (X := X) (NM := NM) (n := n) (T := T) (body := lamE e) (pos := lamP e) ec B hn hd hf
  rw [← he] at q
  exact q
end
theorem lend_ext {NM : Nat → Nat → Str} {H : Hp} {cs : List (Addr × Obj)} (h : ∀ b o, cs.lookup b = some o → H b = none) : Ext NM H (lendH cs H) := by
  have keep : ∀ b u, H b = some u → lendH cs H b = some u := fun b u e => by
    cases w : cs.lookup b with
    | none => exact (lend_out w).trans e
    | some o => rw [h b o w] at e; cases e
  exact ⟨fun b xs e => keep b _ e, fun b ob e => ⟨ob, keep b _ e, .inl rfl⟩, fun n T t => t.ext keep, fun b o e _ _ _ => keep b o e⟩
theorem lend_at {H : Hp} {cs : List (Addr × Obj)} (h : ∀ b o, cs.lookup b = some o → H b = none) {p : Addr} {u : HO} (e : H p = some u) : lendH cs H p = some u := by
  cases w : cs.lookup p with
  | none => exact (lend_out w).trans e
  | some o => rw [h p o w] at e; cases e
theorem Off.top {CX : CXT} {P : Program} {w : World} {K : PySem.W.Frag} {mg : Str → Option Value} {base : Heap} {N : List Str} {qual : Str} {sc : Scope} {f : Addr} {cd : Value} {A : Around} {outer : List Env} {s : Shared} {H : Hp} {E : XK} :
    (cxOf CX P w K mg base N qual sc f cd A outer s H E).nox.Ok → Off (cxOf CX P w K mg base N qual sc f cd A outer s H E).nox := fun ok => .own ok fun _ => rfl
theorem FnAtH.take {H : Hp} {F G : CF} {fr : List Str} {ws : List V} {f : Addr} (c : CapH H F fr ws) (a : FnAtH H f G) : FnAtH (takeH F H) f G := by
  obtain ⟨ob, h, od, sl, doc, pm, ct, eo⟩ := a
  refine ⟨ob, take_some c h fun o v z => ?_, od, sl, doc, pm, ct, eo⟩
  cases z
  rintro ⟨u, z, _⟩
  rw [eo] at z
  cases z
theorem FnV.take {K : PySem.W.Frag} {H : Hp} {F : CF} {fr : List Str} {ws : List V} {f : Addr} (h : FnV K H f) (c : CapH H F fr ws) : FnV K (takeH F H) f := h.imp (fun ⟨G, a⟩ => ⟨G, a.take c⟩) id
theorem CodeAtH.take {H : Hp} {F : CF} {fr : List Str} {ws : List V} {c T : Addr} {q : Str} (cp : CapH H F fr ws) (a : CodeAtH H c q T) : CodeAtH (takeH F H) c q T := by
  obtain ⟨ob, h, ⟨us, eu⟩, k⟩ := a
  refine ⟨ob, take_some cp h fun o v z => ?_, ⟨us, eu⟩, k⟩
  cases z
  rintro ⟨u, z, _⟩
  rw [eu] at z
  cases z
/-- in a closure's frame: what was known where it was called is known where its captured cells are lent -/
theorem ext_lent {NM : Nat → Nat → Str} {H H' : Hp} {F : CF} {N ps fr : List Str} {ws : List V} {σ : L2.St} {js ks : List Nat} {cs : List (Addr × Obj)} {f L : Addr} (S : FScope N ps fr F.scope) (C : CapH H F fr ws) (e : Ext NM (takeH F H) H')
    (out : ∀ b o, cs.lookup b = some o → H' b = none) (LV : LentV (envC F f L) N σ js cs) (hk : ∀ j ∈ ks, j ∈ js) (hN : ks.map (fun j => N[j]?) = fr.map some) (hv : ks.map (fun j => σ[j]?) = ws.map fun v => some (some v)) : Ext NM H (lendH cs H') := by
  refine take_lent C e out fun i y v hy hw => ?_
  have l1 := congrArg List.length hN
  rw [List.length_map, List.length_map] at l1
  have li : i < fr.length := (List.getElem?_eq_some_iff.mp hy).1
  have hj : ks[i]? = some ks[i] := List.getElem?_eq_getElem (by omega)
  have a1 : N[ks[i]]? = some y := by
    have q := congrArg (fun l : List (Option Str) => l[i]?) hN
    simp only [List.getElem?_map, hj, hy, Option.map_some] at q
    exact Option.some.inj q
  have a2 : σ[ks[i]]? = some (some v) := by
    have q := congrArg (fun l : List (Option (Option V)) => l[i]?) hv
    simp only [List.getElem?_map, hj, hw, Option.map_some] at q
    exact Option.some.inj q
  obtain ⟨c, ob, b1, b2, b3⟩ := LV.2 _ (hk _ (List.getElem_mem _)) y v a1 a2
  refine ⟨c, ob, ?_, b2, b3⟩
  rcases look_app b1 with z | ⟨_, z⟩
  · exact absurd (cells_kind _ _ (PySem.mem_of_lookup z)) (S.notCell y (List.mem_of_getElem? hy))
  · exact z
theorem Tb.nocell {NM : Nat → Nat → Str} {H H' : Hp} (e : ∀ b o, H b = some o → (∀ ob v, o = fz ob → ¬ CellV v ob) → H' b = some o) : ∀ {n : Nat} {T : Addr}, Tb NM n H T → Tb NM n H' T
  | 0, _, ⟨ps, h⟩ => ⟨ps, e _ _ h (fun ob v z => by cases z)⟩
  | n + 1, _, ⟨ps, h, tr, k⟩ => ⟨ps, e _ _ h (fun ob v z => by cases z), tr, fun pos cv ec => by
      obtain ⟨c', T', e1, ⟨ob, e2, ⟨us, eu⟩, e3⟩, e4⟩ := k pos cv ec
      refine ⟨c', T', e1, ⟨ob, e _ _ e2 fun o v z => ?_, ⟨us, eu⟩, e3⟩, e4.nocell e⟩
      cases z
      rintro ⟨u, z, _⟩
      rw [eu] at z
      cases z⟩
/-- the same cells lent again -/
theorem relend {NM : Nat → Nat → Str} {env : Env} {N : List Str} {σ : L2.St} {js js' : List Nat} {cs cs' : List (Addr × Obj)} {H : Hp} (a : Lv env N σ js cs) (b : LentV env N σ js' cs') (sub : ∀ j ∈ js, j ∈ js') (out' : ∀ b o, cs'.lookup b = some o → H b = none) :
    Ext NM (lendH cs H) (lendH cs' H) := by
  have like : ∀ d o, cs.lookup d = some o → ∃ ob v, cs'.lookup d = some ob ∧ CellV v o ∧ CellV v ob := fun d o e => by
    obtain ⟨j, hj, x, v, h1, h2, h3⟩ := a.2 d o e
    obtain ⟨c1, o1, g1, g2, g3⟩ := a.1.2 j hj x v h1 h3
    obtain ⟨c2, o2, k1, k2, k3⟩ := b.2 j (sub j hj) x v h1 h3
    rw [h2] at g1 k1
    cases g1
    cases k1
    rw [e] at g2
    cases g2
    exact ⟨o2, v, k2, g3, k3⟩
  have keep : ∀ d u, lendH cs H d = some u → (∀ ob v, u = fz ob → ¬ CellV v ob) → lendH cs' H d = some u := fun d u q n => by
    cases w : cs.lookup d with
    | none => rw [lend_out w] at q; exact lend_at out' q
    | some o =>
      rw [lend_in w] at q
      obtain ⟨_, v, _, h, _⟩ := like d o w
      exact absurd h (n o v (Option.some.inj q).symm)
  refine ⟨fun d xs q => keep d _ q (fun ob v z => by cases z), fun d ob q => ?_, fun n T t => t.nocell keep, fun d u q _ _ n3 => keep d u q fun ob _ z => absurd z (n3 ob)⟩
  cases w : cs.lookup d with
  | none => rw [lend_out w] at q; exact ⟨ob, lend_at out' q, .inl rfl⟩
  | some o =>
    rw [lend_in w] at q
    cases q
    obtain ⟨ob2, v, h1, h2, h3⟩ := like d ob w
    exact ⟨ob2, lend_in h1, .inr ⟨v, h2, h3⟩⟩


end
section
section
variable {NM : Nat → Nat → Str} {H H1 H2 : Hp}
theorem lend_kp {cs : List (Addr × Obj)} (h : ∀ b o, cs.lookup b = some o → H b = none) : Kp NM H (lendH cs H) := ⟨lend_ext h, fun b o e _ _ => lend_at h e⟩
theorem lent_kp {H' : Hp} {F : CF} {N ps fr : List Str} {ws : List V} {σ : L2.St} {js ks : List Nat} {cs : List (Addr × Obj)} {f L : Addr} (S : FScope N ps fr F.scope) (C : CapH H F fr ws) (e : Kp NM (takeH F H) H')
    (out : ∀ b o, cs.lookup b = some o → H' b = none) (LV : LentV (envC F f L) N σ js cs) (hk : ∀ j ∈ ks, j ∈ js) (hN : ks.map (fun j => N[j]?) = fr.map some) (hv : ks.map (fun j => σ[j]?) = ws.map fun v => some (some v)) : Kp NM H (lendH cs H') :=
  ⟨ext_lent S C e.toExt out LV hk hN hv, fun b o q n1 n2 => lend_at out (e.all b o (take_some C q fun ob _ z => absurd z (n2 ob)) n1 n2)⟩
theorem relend_kp {env : Env} {N : List Str} {σ : L2.St} {js js' : List Nat} {cs cs' : List (Addr × Obj)} (a : Lv env N σ js cs) (b : LentV env N σ js' cs') (sub : ∀ j ∈ js, j ∈ js') (out' : ∀ b o, cs'.lookup b = some o → H b = none) :
    Kp NM (lendH cs H) (lendH cs' H) := by
  refine ⟨relend a b sub out', fun d u q _ n2 => ?_⟩
  cases w : cs.lookup d with
  | none => rw [lend_out w] at q; exact lend_at out' q
  | some o => rw [lend_in w] at q; exact absurd (Option.some.inj q).symm (n2 o)
end
/-- a def of the text as a value -/
theorem clo_def {P : Program} {w : World} {K : PySem.W.Frag} {mg : Str → Option Value} {base : Heap} {NM : Nat → Nat → Str} {k : Nat} {x : Str} {st : Stmt} {f : Addr} {fd : FuncData} {ps : List Str} {sp : Sp} {H : Hp} (D : Df K mg x st ps f fd) (h : FnOk P w K mg base CX0 k f fd ps sp) : Clo P w K mg base NM k f sp H := by
  obtain ⟨oc, od, kV, doc, pm, an, cdv, ct, osl, e, lk, _⟩ := D.fn.ex
  refine ⟨.inr ⟨oc, od, _, osl, lk⟩, fun H2 _ A outer s us vs Q E hr e0 r q => ?_⟩
  have KX : K.In s.heap := e0.mod.kin.keeps fun b o e => (e0.bs b o e).1
  have hl : us.length = ps.length := by rw [← r.length]; exact h.len _ _ _ _ q
  have bt := D.bi s us KX (by rw [List.append_nil]; exact hl)
  rw [List.append_nil] at bt
  exact h.run A outer s H2 ⟨us, []⟩ us vs Q E hr e0 bt r q
/-- a def within a def, by its name -/
theorem ps_defS {X : Cx} {NM : Nat → Nat → Str} {n i : Nat} {c T : Addr} {st : Stmt} {name : Str} (he : st = .FunctionDef name (defArgs st) (defBody st) [] none [] (defScope st) none name (defP st)) (ec : X.env.code = .ref c) (B : BlOk X.base X.mg) (hn : NM (defP st).line (defP st).col = X.env.qual ++ name)
    (hf : ∀ y ∈ (defScope st).names, y.2 = .free → X.env.scope.names.lookup y.1 = some .cell ∨ X.env.scope.names.lookup y.1 = some .free) (h1 : (defArgs st).defaults = []) (h2 : (defArgs st).kw_defaults = []) (h3 : annTrees (defArgs st) none X.env = [])
    (hN : X.N.Nodup) (hi : X.N[i]? = some name) (hx : Loc X.env.scope name) (hw : X.fn name = true ∨ X.env.scope.names.lookup name = some .local) : PS X st (tDef NM n X.base c T i (defF st name X.env.qual (taken X (defScope st)))) := by
  have q := ps_mk (X := X) (NM := NM) (n := n) (T := T) (i := i) (name := name) (params := defArgs st) (scope := defScope st) (body := defBody st) (pos := defP st) ec B hn hf h1 h2 h3 hN hi hx hw
  rw [← he] at q
  exact q


end
section
/-! ### the promises -/
/-- the hand: a list of the draws' list and the number of the next draw -/
def Hnd (H : Hp) (a d : Addr) : Prop := ∃ (ds : List Int) (i : Nat), H a = some (.lst [.ref d, .int (i : Int)]) ∧ H d = some (.lst (ds.map V.int)) ∧ (∀ x ∈ ds, 0 ≤ x) ∧ d ≠ a
/-- all but the hand is as it was -/
def Keep (a : Addr) (H H' : Hp) : Prop := ∀ b o, H b = some o → b ≠ a → H' b = some o
theorem Keep.trans {a : Addr} {H H1 H2 : Hp} (h : Keep a H H1) (h' : Keep a H1 H2) : Keep a H H2 := fun b o e n => h' b o (h b o e n) n
theorem Keep.refl (a : Addr) (H : Hp) : Keep a H H := fun _ _ e _ => e
theorem Keep.new {a p : Addr} {H : Hp} {o : HO} (np : H p = none) : Keep a H (upd H p o) := fun b u e _ => by
  rw [upd_ne (ne_of_none e np)]
  exact e
theorem same_new {H : Hp} {p : Addr} {o : HO} (h : H p = none) : Same H (upd H p o) := fun b x e => by
  rw [upd_ne (ne_of_none e h)]
  exact e
theorem Hnd.same {H H' : Hp} {a d : Addr} (h : Hnd H a d) (s : Same H H') : Hnd H' a d := by
  obtain ⟨ds, i, h1, h2, h3, h4⟩ := h
  exact ⟨ds, i, s _ _ h1, s _ _ h2, h3, h4⟩
theorem Hnd.new {H : Hp} {a d p : Addr} {o : HO} (h : Hnd H a d) (np : H p = none) : Hnd (upd H p o) a d := h.same (same_new np)
theorem Hnd.some {H : Hp} {a d : Addr} (h : Hnd H a d) : ∃ o, H a = some o := by
  obtain ⟨ds, i, h1, _⟩ := h
  exact ⟨_, h1⟩
/-- what is new is neither the hand nor the draws -/
theorem Hnd.ne {H : Hp} {a d p : Addr} (h : Hnd H a d) (np : H p = none) : p ≠ a ∧ p ≠ d := by
  obtain ⟨ds, i, h1, h2, _⟩ := h
  exact ⟨(ne_of_none h1 np).symm, (ne_of_none h2 np).symm⟩
/-- an object beside the hand may change -/
theorem Hnd.set {H : Hp} {a d p : Addr} {o : HO} (h : Hnd H a d) (pa : p ≠ a) (pd : p ≠ d) : Hnd (upd H p o) a d := by
  obtain ⟨ds, i, h1, h2, h3, h4⟩ := h
  exact ⟨ds, i, by rw [upd_ne pa.symm]; exact h1, by rw [upd_ne pd.symm]; exact h2, h3, h4⟩
theorem Keep.same {a : Addr} {H H' : Hp} (s : Same H H') : Keep a H H' := fun b o e _ => s b o e
def spDraws (K : PySem.W.Frag) : Sp := fun vs H Q _ => ∃ (a : Addr) (ns : List Int) (many : Nat), vs = [.ref a, .int (many : Int)] ∧ SqL K H a (ns.map V.int) ∧ ns.length ≤ 63 ∧ many ≤ 5000 ∧
  ∀ (p : Addr) (ds : List Int) (H' : Hp), H p = none → Same H H' → H' p = some (.lst (ds.map V.int)) → (∀ x ∈ ds, (0 : Int) ≤ x) → Q (.ref p) H'
def spTake : Sp := fun vs H Q _ => ∃ (a d : Addr) (many : Int), vs = [.ref a, .int many] ∧ 0 < many ∧ Hnd H a d ∧ ∀ r H', 0 ≤ r → r < many → Hnd H' a d → Keep a H H' → Q (.int r) H'
def spString : Sp := fun vs H Q _ => ∃ (a d : Addr) (n : Nat), vs = [.ref a, .int (n : Int)] ∧ n ≤ 5000 ∧ Hnd H a d ∧ ∀ bs H', bs.length = n → Hnd H' a d → Keep a H H' → Q (.str (sb bs)) H'
def spBits : Sp := fun vs H Q _ => ∃ n k : Nat, vs = [.int (n : Int), .int (k : Int)] ∧ n ≤ 5000 ∧ k < 2 ^ n ∧ Q (.str (sb (toB n k))) H
def spNumber : Sp := fun vs H Q _ => ∃ bs : List Bool, vs = [.str (sb bs)] ∧ bs.length ≤ 640 ∧ Q (.int ((val bs : Nat) : Int)) H
def spXor : Sp := fun vs H Q _ => ∃ l m : List Bool, vs = [.str (sb l), .str (sb m)] ∧ l.length = m.length ∧ l.length ≤ 640 ∧ Q (.str (sb (List.zipWith (fun x y => x != y) l m))) H
def spParity : Sp := fun vs H Q _ => ∃ l m : List Bool, vs = [.str (sb l), .str (sb m)] ∧ l.length = m.length ∧ l.length ≤ 640 ∧ Q (.int ((((List.zipWith (fun x y => x && y) l m).count true : Nat) : Int) % 2)) H
def spIsS : Sp := fun vs H Q _ => ∃ x y : Str, vs = [.str x, .str y] ∧ Q (.bl (decide (x = y))) H
def spIsN : Sp := fun vs H Q _ => ∃ x y : Int, vs = [.int x, .int y] ∧ Q (.bl (decide (x = y))) H
def spPair : Sp := fun vs H Q _ => ∃ l m : List Bool, vs = [.str (sb l), .str (sb m)] ∧ l.length = m.length ∧ l.length ≤ 640 ∧ ∀ H', Same H H' → Q (.bl true) H'
def spLaw (K : PySem.W.Frag) : Sp := fun vs H Q _ => ∃ (a : Addr) (ns : List Int), vs = [.ref a] ∧ SqL K H a (ns.map V.int) ∧ ns.length ≤ 63 ∧ ∀ H', Q (.bl true) H'
/-- what was made anew may change: nothing that was there is it -/
theorem Keep.set {a p : Addr} {H H' : Hp} {o : HO} (h : Keep a H H') (np : H p = none) : Keep a H (upd H' p o) := fun b u e n => by
  rw [upd_ne (ne_of_none e np)]
  exact h b u e n
theorem Keep.free {a p : Addr} {H H' : Hp} (h : Keep a H H') (np : H' p = none) (pa : p ≠ a) : H p = none := by
  cases e : H p with
  | none => rfl
  | some o =>
    have := h p o e pa
    rw [np] at this
    cases this
/-- the heap without the hand: what data stand on -/
def off (a : Addr) (H : Hp) : Hp := fun b => if b = a then none else H b
theorem off_ne {a b : Addr} {H : Hp} (h : b ≠ a) : off a H b = H b := if_neg h
theorem off_same (a : Addr) (H : Hp) : Same (off a H) H := fun b o e => by
  unfold off at e
  by_cases h : b = a
  · rw [if_pos h] at e
    cases e
  · rw [if_neg h] at e
    exact e
theorem Keep.off {a : Addr} {H H' : Hp} (k : Keep a H H') : Same (off a H) (off a H') := fun b o e => by
  unfold My.off at e ⊢
  by_cases h : b = a
  · rw [if_pos h] at e
    cases e
  · rw [if_neg h] at e ⊢
    exact k b o e h

def spWhole (K : PySem.W.Frag) : Sp := fun vs H Q _ => ∃ (v : V) (d : PyData) (lo hi : Int), vs = [v, .int lo, .int hi] ∧ Dp K H v d ∧ Q (.bl (whole d lo hi)) H
def spRows (K : PySem.W.Frag) : Sp := fun vs H Q _ => ∃ (v : V) (d : PyData) (n : Nat) (many m : Int), vs = [v, .int many, .int m] ∧ Dp K H v d ∧ Gd n d ∧ many ≤ 4096 ∧ m ≤ 40 ∧ ∀ H', Same H H' → Q (.bl (rowsOk d many m)) H'
def spGen (K : PySem.W.Frag) : Sp := fun vs H Q _ => ∃ (v : V) (d : PyData) (n : Nat), vs = [v] ∧ Dp K H v d ∧ Gd n d ∧ n ≤ 64 ∧ ∀ H', Same H H' → Q (.bl (genOk d)) H'
def spFun (K : PySem.W.Frag) : Sp := fun vs H Q _ => ∃ (v : V) (d : PyData) (n : Nat), vs = [v] ∧ Dp K H v d ∧ Gd n d ∧ n ≤ 64 ∧ ∀ H', Same H H' → Q (.bl (funOk d)) H'
def spCheck (K : PySem.W.Frag) (C : Addr) : Sp := fun vs H Q E => ∃ (v : V) (d : PyData) (n : Nat), vs = [v] ∧ Dp K H v d ∧ Gd n d ∧ n ≤ 64 ∧ ∀ H', Same H H' → (blockOk d = true → Q .non H') ∧ (blockOk d = false → E (.ref C) none H')

theorem for_text {x : Str} {g : TG} {tb : TS} {D : Ends} {σ : L2.St} {H : Hp} (Pv : Nat → L2.St → Hp → Prop) (h0 : Pv 0 σ H)
    (hs : ∀ i c σ H, x.cps[i]? = some c → Pv i σ H → g (.str ⟨#[c]⟩) σ H fun σ2 H2 => tb { D with nx := Pv (i + 1), ct := Pv (i + 1), bk := D.nx } σ2 H2) (hd : ∀ σ H, Pv x.cps.size σ H → D.nx σ H) :
    ∃ W : Nat → Nat → L2.St → Hp → Prop, (∃ m, W 0 m σ H) ∧ ∀ i m σ H, W i m σ H →
      ((Its x).stop i H ∧ D.nx σ H) ∨ ((Its x).go i H ∧ ∃ N : L2.St → Hp → Prop, (∀ σ' H', N σ' H' → ∃ m', m' < m ∧ W (i + 1) m' σ' H') ∧ ∀ y H', (Its x).yld i H y H' → g y σ H' fun σ2 H2 => tb { D with nx := N, ct := N, bk := D.nx } σ2 H2) := by
  refine ⟨fun i m σ H => m = x.cps.size - i ∧ i ≤ x.cps.size ∧ Pv i σ H, ⟨x.cps.size, by omega, Nat.zero_le _, h0⟩, ?_⟩
  rintro i m σ H ⟨rfl, hi, p⟩
  by_cases c : i < x.cps.size
  · refine .inr ⟨c, Pv (i + 1), fun σ' H' p' => ⟨x.cps.size - (i + 1), by omega, rfl, c, p'⟩, ?_⟩
    rintro y H' ⟨rfl, k, hk, rfl⟩
    exact hs i k σ _ hk p
  · have e : i = x.cps.size := by omega
    subst e
    exact .inl ⟨Nat.le_refl _, hd σ H p⟩

theorem ix_nat (n d i : Nat) : HT.sIx n d (some (i : Int)) = min i n := by
  unfold HT.sIx
  show (if (i : Int) < 0 then _ else min (i : Int).toNat n) = _
  rw [if_neg (by omega)]
  rfl
theorem sb_drop_take (l : List Bool) (a b : Nat) : (⟨(((sb l).cps.toList.drop a).take b).toArray⟩ : Str) = sb ((l.drop a).take b) := by
  unfold sb
  rw [List.map_take, List.map_drop]
theorem cut_pre {l : List Bool} {i : Nat} : cutS (sb l) none (some (i : Int)) = sb (l.take i) := by
  unfold cutS
  rw [sb_drop_take, ix_nat, HT.sIx_none, sb_len, List.drop_zero, Nat.sub_zero]
  congr 1
  by_cases h : i ≤ l.length
  · rw [Nat.min_eq_left h]
  · rw [List.take_of_length_le (by omega), List.take_of_length_le (by omega)]
theorem cut_suf {l : List Bool} {i : Nat} : cutS (sb l) (some (i : Int)) none = sb (l.drop i) := by
  unfold cutS
  rw [sb_drop_take, ix_nat, HT.sIx_none, sb_len, List.take_of_length_le (by rw [List.length_drop]; omega)]
  congr 1
  by_cases h : i ≤ l.length
  · rw [Nat.min_eq_left h]
  · rw [Nat.min_eq_right (by omega), List.drop_length, List.drop_of_length_le (by omega)]
theorem cut_one {l : List Bool} {i : Nat} : cutS (sb l) (some (i : Int)) (some ((i : Int) + 1)) = sb ((l.drop i).take 1) := by
  unfold cutS
  rw [show ((i : Int) + 1) = ((i + 1 : Nat) : Int) by omega, sb_drop_take, ix_nat, ix_nat, sb_len]
  congr 1
  by_cases h : i + 1 ≤ l.length
  · rw [Nat.min_eq_left h, Nat.min_eq_left (by omega)]
    congr 1
    omega
  · by_cases h' : i = l.length
    · subst h'
      rw [Nat.min_self, List.drop_length]
      simp
    · rw [Nat.min_eq_right (show l.length ≤ i by omega), List.drop_length, List.drop_eq_nil_of_le (show l.length ≤ i by omega)]
      simp
theorem rep_bits (b : Bool) (n : Nat) : SX.S (List.replicate n [cB b]).flatten = sb (List.replicate n b) := by
  unfold sb
  congr 1
  induction n with
  | zero => rfl
  | succ n ih =>
    rw [List.replicate_succ, List.flatten_cons, ih]
    rfl
theorem val_take (l : List Bool) (i : Nat) (h : i < l.length) : val (l.take (i + 1)) = 2 * val (l.take i) + bit l[i] := by
  rw [List.take_add_one, List.getElem?_eq_getElem h]
  exact val_snoc _ _
theorem val_zeros (n : Nat) : val (List.replicate n false) = 0 := by
  induction n with
  | zero => rfl
  | succ n ih =>
    rw [List.replicate_succ', val_snoc, ih]
    rfl
theorem sb_at {l : List Bool} {i c : Nat} (h : (sb l).cps[i]? = some c) : ∃ h : i < l.length, c = cB l[i] := by
  have e : (l.map cB)[i]? = some c := by
    rw [← h]
    show _ = ((l.map cB).toArray)[i]?
    simp
  rw [List.getElem?_map] at e
  obtain ⟨b, hb, rfl⟩ := Option.map_eq_some_iff.mp e
  obtain ⟨hi, rfl⟩ := List.getElem?_eq_some_iff.mp hb
  exact ⟨hi, rfl⟩

theorem name_ne {d : PyData} {x : Str} : (!PyData.eqv d (.str x)) = !named x d := rfl
theorem whole_int {d : PyData} {lo hi : Int} (h : whole d lo hi = true) : ∃ i, d = .int i ∧ lo ≤ i ∧ i ≤ hi := by
  cases d with
  | int i =>
    have h' : (decide (lo ≤ i) && decide (i ≤ hi)) = true := h
    rw [Bool.and_eq_true, decide_eq_true_eq, decide_eq_true_eq] at h'
    exact ⟨i, rfl, h'⟩
  | _ => cases h
theorem gen_eq {k n m r : PyData} : genOk (.tuple [k, n, m, r]) = (named "generator" k && whole n 1 10 && whole m 1 40 && genRows n m r) := rfl
theorem fun_eq {k n l m t : PyData} : funOk (.tuple [k, n, l, m, t]) = (named "function" k && whole n 1 8 && whole l 1 8 && sumLe n l && whole m 1 40 && funTabs n l m t) := rfl
theorem pow_le {n : Int} {b : Nat} (h0 : 1 ≤ n) (h : n ≤ (b : Int)) : (1 : Int) * 2 ^ n.toNat ≤ ((2 ^ b : Nat) : Int) := by
  have h1 : (2 : Nat) ^ n.toNat ≤ 2 ^ b := Nat.pow_le_pow_right (by decide) (by omega)
  have h2 : ((2 ^ n.toNat : Nat) : Int) ≤ ((2 ^ b : Nat) : Int) := Int.ofNat_le.mpr h1
  rw [Int.natCast_pow] at h2
  rw [Int.one_mul]
  exact h2
theorem dp4 {K : PySem.W.Frag} {H : Hp} {ws : List V} {xs : List PyData} (h : DpAll K H ws xs) (c : ws.length = 4) : ∃ v0 v1 v2 v3 d0 d1 d2 d3, ws = [v0, v1, v2, v3] ∧ xs = [d0, d1, d2, d3] ∧ Dp K H v0 d0 ∧ Dp K H v1 d1 ∧ Dp K H v2 d2 ∧ Dp K H v3 d3 := by
  match xs, ws, c, h with
  | _, [v0, v1, v2, v3], _, .cons h0 (.cons h1 (.cons h2 (.cons h3 .nil))) => exact ⟨_, _, _, _, _, _, _, _, rfl, rfl, h0, h1, h2, h3⟩
theorem dp5 {K : PySem.W.Frag} {H : Hp} {ws : List V} {xs : List PyData} (h : DpAll K H ws xs) (c : ws.length = 5) : ∃ v0 v1 v2 v3 v4 d0 d1 d2 d3 d4, ws = [v0, v1, v2, v3, v4] ∧ xs = [d0, d1, d2, d3, d4] ∧ Dp K H v0 d0 ∧ Dp K H v1 d1 ∧ Dp K H v2 d2 ∧ Dp K H v3 d3 ∧ Dp K H v4 d4 := by
  match xs, ws, c, h with
  | _, [v0, v1, v2, v3, v4], _, .cons h0 (.cons h1 (.cons h2 (.cons h3 (.cons h4 .nil)))) => exact ⟨_, _, _, _, _, _, _, _, _, _, rfl, rfl, h0, h1, h2, h3, h4⟩
theorem join_all : ∀ ys : List Str, (Txt.join "" ys).cps.toList = (ys.map (·.cps.toList)).flatten := by
  intro ys
  have j : ∀ ps : List (List Nat), TL.joinL [] ps = ps.flatten := by
    intro ps
    induction ps with
    | nil => rfl
    | cons x r ih =>
      cases r with
      | nil => exact (List.append_nil x).symm
      | cons y r =>
        show x ++ ([] ++ TL.joinL [] (y :: r)) = x ++ (y :: r).flatten
        rw [ih, List.nil_append]
  have e : ys = (ys.map (·.cps.toList)).map SX.S := by
    rw [List.map_map]
    exact (List.map_id'' (fun x => SX.S_tl x) ys).symm
  have h := SX.join_S [] (ys.map (·.cps.toList))
  rw [← e, j] at h
  exact congrArg (fun z : Str => z.cps.toList) h

def spTable (K : PySem.W.Frag) : Sp := fun vs H Q _ => ∃ (a d : Addr) (n m : Nat), vs = [.ref a, .int (n : Int), .int (m : Int)] ∧ n ≤ 8 ∧ m ≤ 200 ∧ Hnd H a d ∧
  ∀ v rows H', rows.length = 2 ^ n → (∀ r ∈ rows, r.length = m) → Dp K (off a H') v (tabD n m rows) → Hnd H' a d → Keep a H H' → Q v H'
def spFunction (K : PySem.W.Frag) : Sp := fun vs H Q _ => ∃ (a d : Addr) (n l m : Nat), vs = [.ref a, .int (n : Int), .int (l : Int), .int (m : Int)] ∧ n ≤ 8 ∧ l ≤ 8 ∧ m ≤ 200 ∧ Hnd H a d ∧
  ∀ v tabs H', tabs.length = 2 ^ n → (∀ rows ∈ tabs, rows.length = 2 ^ l ∧ ∀ r ∈ rows, r.length = m) → Dp K (off a H') v (funD n l m tabs) → Hnd H' a d → Keep a H H' → Q v H'

/-! ### data of a size -/
def okS (s : Nat) (x : Str) : Prop := PySem.PyData.strOk x = true ∧ x.length ≤ s
def Gz (s : Nat) : Nat → PyData → Prop
  | 0, d => match d with
    | .none => True
    | .bool _ => True
    | .int i => i.natAbs < 10 ^ s
    | .str x => okS s x
    | _ => False
  | n + 1, d => match d with
    | .none => True
    | .bool _ => True
    | .int i => i.natAbs < 10 ^ s
    | .str x => okS s x
    | .list xs => xs.length ≤ s ∧ ∀ x ∈ xs, Gz s n x
    | .tuple xs => xs.length ≤ s ∧ ∀ x ∈ xs, Gz s n x
    | .dict _ => False
theorem gz_str {s n : Nat} {x : Str} : Gz s n (.str x) ↔ okS s x := by
  cases n <;> exact Iff.rfl
theorem gz_int {s n : Nat} {i : Int} : Gz s n (.int i) ↔ i.natAbs < 10 ^ s := by
  cases n <;> exact Iff.rfl
theorem gz_bool {s n : Nat} {b : Bool} : Gz s n (.bool b) := by
  cases n <;> trivial
theorem gz_none {s n : Nat} : Gz s n .none := by
  cases n <;> trivial
theorem gz_tup {s n : Nat} {xs : List PyData} (h : Gz s n (.tuple xs)) : xs.length ≤ s ∧ ∃ m, n = m + 1 ∧ ∀ x ∈ xs, Gz s m x := by
  cases n with
  | zero => exact h.elim
  | succ n => exact ⟨h.1, n, rfl, h.2⟩
theorem gz_gd {s : Nat} (hs : s ≤ 5000) : ∀ {n : Nat} {d : PyData}, Gz s n d → Gd n d
  | 0, .none, h => h
  | 0, .bool _, h => h
  | 0, .int _, h => trivial
  | 0, .str _, h => ⟨h.1, Nat.le_trans h.2 hs⟩
  | n + 1, .none, h => h
  | n + 1, .bool _, h => h
  | n + 1, .int _, h => trivial
  | n + 1, .str _, h => ⟨h.1, Nat.le_trans h.2 hs⟩
  | n + 1, .list xs, h => ⟨Nat.le_trans h.1 hs, fun x hx => gz_gd hs (h.2 x hx)⟩
  | n + 1, .tuple xs, h => ⟨Nat.le_trans h.1 hs, fun x hx => gz_gd hs (h.2 x hx)⟩
theorem gz_up {s t : Nat} (hs : s ≤ t) : ∀ {n m : Nat} {d : PyData}, n ≤ m → Gz s n d → Gz t m d
  | n, m, .none, _, h => gz_none
  | n, m, .bool _, _, h => gz_bool
  | n, m, .int _, _, h => gz_int.mpr (Nat.lt_of_lt_of_le (gz_int.mp h) (Nat.pow_le_pow_right (by decide) hs))
  | n, m, .str _, _, h => gz_str.mpr ⟨(gz_str.mp h).1, Nat.le_trans (gz_str.mp h).2 hs⟩
  | 0, m, .list _, _, h => h.elim
  | 0, m, .tuple _, _, h => h.elim
  | 0, m, .dict _, _, h => h.elim
  | n + 1, m, .dict _, _, h => h.elim
  | n + 1, m + 1, .list xs, hm, h => ⟨Nat.le_trans h.1 hs, fun x hx => gz_up hs (Nat.le_of_succ_le_succ hm) (h.2 x hx)⟩
  | n + 1, m + 1, .tuple xs, hm, h => ⟨Nat.le_trans h.1 hs, fun x hx => gz_up hs (Nat.le_of_succ_le_succ hm) (h.2 x hx)⟩
theorem sqt_off {K : PySem.W.Frag} {H : Hp} {a d p : Addr} {xs : List V} (h : Hnd H a d) (s : SqT K H p xs) : SqT K (off a H) p xs := by
  obtain ⟨ds, i, h1, _⟩ := h
  rcases s with (s | ⟨o, s⟩) | s
  · refine .inl (.inl ?_)
    rw [off_ne fun e => ?_]
    · exact s
    · rw [e, h1] at s
      cases s
  · refine .inl (.inr ⟨o, ?_⟩)
    rw [off_ne fun e => ?_]
    · exact s
    · rw [e, h1] at s
      cases s
  · exact .inr s
theorem sqt_on {K : PySem.W.Frag} {H : Hp} {a p : Addr} {xs : List V} (s : SqT K (off a H) p xs) : SqT K H p xs := same_sqt (off_same a H) s
theorem sql_on {K : PySem.W.Frag} {H : Hp} {a p : Addr} {xs : List V} (s : SqL K (off a H) p xs) : SqL K H p xs := (off_same a H).seq s
/-- a value of data of a size, beside the hand -/
def Ok (K : PySem.W.Frag) (a : Addr) (H : Hp) (s n : Nat) (v : V) : Prop := ∃ D, Dp K (off a H) v D ∧ Gz s n D
theorem Ok.same {K : PySem.W.Frag} {a : Addr} {H H' : Hp} {s n : Nat} {v : V} (h : Ok K a H s n v) (e : Same (off a H) (off a H')) : Ok K a H' s n v := by
  obtain ⟨D, h1, h2⟩ := h
  exact ⟨D, dp_same e D h1, h2⟩
theorem Ok.keep {K : PySem.W.Frag} {a : Addr} {H H' : Hp} {s n : Nat} {v : V} (h : Ok K a H s n v) (e : Keep a H H') : Ok K a H' s n v := h.same e.off
theorem Ok.up {K : PySem.W.Frag} {a : Addr} {H : Hp} {s n t m : Nat} {v : V} (h : Ok K a H s n v) (hs : s ≤ t) (hm : n ≤ m) : Ok K a H t m v := by
  obtain ⟨D, h1, h2⟩ := h
  exact ⟨D, h1, gz_up hs hm h2⟩
theorem same_off {a : Addr} {H H' : Hp} (s : Same H H') : Same (off a H) (off a H') := (Keep.same (a := a) s).off
theorem cutV_all {xs : List V} {lo hi : Option Int} (h1 : HT.sIx xs.length 0 lo = 0) (h2 : HT.sIx xs.length xs.length hi = xs.length) : cutV xs lo hi = xs := by
  unfold cutV
  rw [h1, h2]
  simp
theorem sl_any {K : PySem.W.Frag} {H : Hp} {Q : VK} {lo hi : Option Int} {a : Addr} {xs : List V} (hT : SqT K H a xs) (q : ∀ p H', Same H H' → SqT K H' p (cutV xs lo hi) → Q (.ref p) H') : rSlA K (.ref a) lo hi H Q := by
  refine ⟨a, xs, rfl, hT, fun hw => ?_, fun hw p np => ?_⟩
  · exact q a H (Same.refl H) (by rw [cutV_all hw.1 hw.2]; exact hT)
  · exact q p _ (same_new np) (.inl (.inl upd_same))
theorem sl_anyN {K : PySem.W.Frag} {σ : L2.St} {H : Hp} {Q : VK} {l : Option Int} {a : Addr} {xs : List V} (hT : SqT K H a xs) (q : ∀ p H', Same H H' → SqT K H' p (cutV xs l none) → Q (.ref p) H') : tNoPart σ H fun u H3 => rSlA K (.ref a) l u H3 Q := sl_any hT q
theorem cat_any {K : PySem.W.Frag} {H : Hp} {Q : VK} {a b : Addr} {xs ys : List V} (ha : SqT K H a xs) (hb : SqT K H b ys) (hz : xs.length + ys.length ≤ sizeLine) (q : ∀ p H', Same H H' → SqT K H' p (xs ++ ys) → Q (.ref p) H') : rCatA K (.ref a) (.ref b) H Q := by
  refine ⟨a, b, xs, ys, rfl, rfl, ha, hb, hz, fun e => ?_, fun e1 e2 => ?_, fun e1 e2 p np => ?_⟩
  · subst e
    exact q b H (Same.refl H) hb
  · subst e2
    exact q a H (Same.refl H) (by rw [List.append_nil]; exact ha)
  · exact q p _ (same_new np) (.inl (.inl upd_same))
theorem dps_drop {K : PySem.W.Frag} {H : Hp} : ∀ (i : Nat) {vs : List V} {ds : List PyData}, DpAll K H vs ds → DpAll K H (vs.drop i) (ds.drop i)
  | 0, _, _, h => h
  | i + 1, _, _, .nil => .nil
  | i + 1, _, _, .cons _ t => dps_drop i t
theorem dps_take {K : PySem.W.Frag} {H : Hp} : ∀ (i : Nat) {vs : List V} {ds : List PyData}, DpAll K H vs ds → DpAll K H (vs.take i) (ds.take i)
  | 0, _, _, h => .nil
  | i + 1, _, _, .nil => .nil
  | i + 1, _, _, .cons h t => .cons h (dps_take i t)
theorem dps_app {K : PySem.W.Frag} {H : Hp} : ∀ {vs ws : List V} {ds es : List PyData}, DpAll K H vs ds → DpAll K H ws es → DpAll K H (vs ++ ws) (ds ++ es)
  | _, _, _, _, .nil, h => h
  | _, _, _, _, .cons h t, h' => .cons h (dps_app t h')
/-- the values of a row, all of a size -/
def Oks (K : PySem.W.Frag) (a : Addr) (H : Hp) (s n : Nat) (vs : List V) : Prop := ∃ ds, DpAll K (off a H) vs ds ∧ ∀ d ∈ ds, Gz s n d
theorem Oks.keep {K : PySem.W.Frag} {a : Addr} {H H' : Hp} {s n : Nat} {vs : List V} (h : Oks K a H s n vs) (e : Keep a H H') : Oks K a H' s n vs := by
  obtain ⟨D, h1, h2⟩ := h
  exact ⟨D, dps_same e.off D h1, h2⟩
theorem Oks.up {K : PySem.W.Frag} {a : Addr} {H : Hp} {s n t m : Nat} {vs : List V} (h : Oks K a H s n vs) (hs : s ≤ t) (hm : n ≤ m) : Oks K a H t m vs := by
  obtain ⟨D, h1, h2⟩ := h
  exact ⟨D, h1, fun d hd => gz_up hs hm (h2 d hd)⟩
theorem Oks.app {K : PySem.W.Frag} {a : Addr} {H : Hp} {s n : Nat} {vs ws : List V} (h : Oks K a H s n vs) (h' : Oks K a H s n ws) : Oks K a H s n (vs ++ ws) := by
  obtain ⟨D, h1, h2⟩ := h
  obtain ⟨E, h3, h4⟩ := h'
  refine ⟨D ++ E, dps_app h1 h3, fun d hd => ?_⟩
  rcases List.mem_append.mp hd with z | z
  · exact h2 d z
  · exact h4 d z
theorem Oks.cut {K : PySem.W.Frag} {a : Addr} {H : Hp} {s n : Nat} {vs : List V} (lo hi : Option Int) (h : Oks K a H s n vs) : Oks K a H s n (cutV vs lo hi) := by
  obtain ⟨D, h1, h2⟩ := h
  exact ⟨(D.drop _).take _, dps_take _ (dps_drop _ h1), fun d hd => h2 d (List.mem_of_mem_drop (List.mem_of_mem_take hd))⟩
theorem Oks.one {K : PySem.W.Frag} {a : Addr} {H : Hp} {s n : Nat} {v : V} (h : Ok K a H s n v) : Oks K a H s n [v] := by
  obtain ⟨D, h1, h2⟩ := h
  refine ⟨[D], .cons h1 .nil, fun d hd => ?_⟩
  rw [List.mem_singleton.mp hd]
  exact h2
theorem Oks.get {K : PySem.W.Frag} {a : Addr} {H : Hp} {s n i : Nat} {v : V} {vs : List V} (h : Oks K a H s n vs) (e : vs[i]? = some v) : Ok K a H s n v := by
  obtain ⟨D, h1, h2⟩ := h
  obtain ⟨d, hd, h3⟩ := dp_all_get h1 e
  exact ⟨d, h3, h2 d (List.mem_of_getElem? hd)⟩
theorem Ok.tup {K : PySem.W.Frag} {a d p : Addr} {H : Hp} {s n : Nat} {vs : List V} (hh : Hnd H a d) (hT : SqT K H p vs) (h : Oks K a H s n vs) (hl : vs.length ≤ s) : Ok K a H s (n + 1) (.ref p) := by
  obtain ⟨D, h1, h2⟩ := h
  exact ⟨.tuple D, .tup (sqt_off hh hT) h1, by rw [← dp_all_len h1]; exact hl, h2⟩
theorem Ok.lst {K : PySem.W.Frag} {a p : Addr} {H : Hp} {s n : Nat} {vs : List V} (pa : p ≠ a) (hL : H p = some (.lst vs)) (h : Oks K a H s n vs) (hl : vs.length ≤ s) : Ok K a H s (n + 1) (.ref p) := by
  obtain ⟨D, h1, h2⟩ := h
  exact ⟨.list D, .lst (.inl (.inl (by rw [off_ne pa]; exact hL))) h1, by rw [← dp_all_len h1]; exact hl, h2⟩
theorem Ok.str {K : PySem.W.Frag} {a : Addr} {H : Hp} {s n : Nat} {x : Str} (h : okS s x) : Ok K a H s n (.str x) := ⟨.str x, .str x, gz_str.mpr h⟩
theorem Ok.int {K : PySem.W.Frag} {a : Addr} {H : Hp} {s n : Nat} {i : Int} (h : i.natAbs < 10 ^ s) : Ok K a H s n (.int i) := ⟨.int i, .int i, gz_int.mpr h⟩
theorem Ok.bl {K : PySem.W.Frag} {a : Addr} {H : Hp} {s n : Nat} {b : Bool} : Ok K a H s n (.bl b) := ⟨.bool b, .bl b, gz_bool⟩
theorem Ok.non {K : PySem.W.Frag} {a : Addr} {H : Hp} {s n : Nat} : Ok K a H s n .non := ⟨.none, .non, gz_none⟩
/-! ### signs -/
theorem strOk_iff {x : Str} : PySem.PyData.strOk x = true ↔ ∀ c ∈ x.cps.toList, c < 1114112 := by
  unfold PySem.PyData.strOk
  rw [← Array.all_toList, List.all_eq_true]
  constructor
  · intro h c hc
    exact of_decide_eq_true (h c hc)
  · intro h c hc
    exact decide_eq_true (h c hc)
theorem strOk_app {x y : Str} (hx : PySem.PyData.strOk x = true) (hy : PySem.PyData.strOk y = true) : PySem.PyData.strOk (x ++ y) = true := by
  rw [strOk_iff] at hx hy ⊢
  intro c hc
  have e : (x ++ y).cps.toList = x.cps.toList ++ y.cps.toList := by
    show (x.cps ++ y.cps).toList = _
    simp
  rw [e] at hc
  rcases List.mem_append.mp hc with z | z
  · exact hx c z
  · exact hy c z
theorem strOk_cut {x : Str} {lo hi : Option Int} (hx : PySem.PyData.strOk x = true) : PySem.PyData.strOk (cutS x lo hi) = true := by
  rw [strOk_iff] at hx ⊢
  intro c hc
  exact hx c (List.mem_of_mem_drop (List.mem_of_mem_take hc))
theorem str_app_len (x y : Str) : (x ++ y).length = x.length + y.length := by
  show (x.cps ++ y.cps).size = _
  rw [Array.size_append]
  rfl
theorem cutS_len {x : Str} {lo hi : Option Int} : (cutS x lo hi).length = min (HT.sIx x.length x.length hi - HT.sIx x.length 0 lo) (x.length - HT.sIx x.length 0 lo) := by
  show (List.toArray _).size = _
  rw [List.size_toArray, List.length_take, List.length_drop]
  rfl
theorem cutV_len {x : List V} {lo hi : Option Int} : (cutV x lo hi).length = min (HT.sIx x.length x.length hi - HT.sIx x.length 0 lo) (x.length - HT.sIx x.length 0 lo) := by
  unfold cutV
  rw [List.length_take, List.length_drop]
theorem okS_int {s : Nat} {i : Int} (h : i.natAbs < 10 ^ s) (hs : 0 < s) : okS (s + 1) (Str.ofString (toString i)) := by
  refine ⟨?_, ?_⟩
  · rw [strOk_iff, Str.ofString_eq_toList]
    intro c hc
    obtain ⟨k, _, e⟩ := List.mem_map.mp hc
    rw [← e]
    have := k.valid
    rcases this with h | ⟨_, h⟩
    · show k.val.toNat < _
      have h' : k.val.toNat < 55296 := h
      omega
    · exact h
  · rw [PySem.ofString_length]
    exact int_text_length_le10 hs h
theorem atI_mem {xs : List V} {i : Int} (h0 : 0 ≤ i) (h1 : i < (xs.length : Int)) : ∃ x, atI xs i = some x ∧ x ∈ xs := by
  obtain ⟨k, rfl⟩ : ∃ k : Nat, i = (k : Int) := ⟨i.toNat, by omega⟩
  have hk : k < xs.length := by omega
  exact ⟨xs[k], atI_nat (List.getElem?_eq_getElem hk), List.getElem_mem hk⟩
theorem okS_mono {s t : Nat} {x : Str} (h : okS s x) (e : s ≤ t) : okS t x := ⟨h.1, Nat.le_trans h.2 e⟩
theorem okS_app {s t : Nat} {x y : Str} (hx : okS s x) (hy : okS t y) : okS (s + t) (x ++ y) := ⟨strOk_app hx.1 hy.1, by
  rw [str_app_len]
  have h1 := hx.2
  have h2 := hy.2
  omega⟩
theorem sIx_n (n d k : Nat) : HT.sIx n d (some (k : Int)) = min k n := HT.sIx_nat n d k
theorem okS_pre {s k : Nat} {x : Str} (hx : okS s x) (hk : k ≤ x.length) : okS k (cutS x none (some (k : Int))) := ⟨strOk_cut hx.1, by
  rw [cutS_len, sIx_n, HT.sIx_none]
  omega⟩
theorem okS_suf {s k : Nat} {x : Str} (hx : okS s x) : okS (x.length - k) (cutS x (some (k : Int)) none) := ⟨strOk_cut hx.1, by
  rw [cutS_len, sIx_n, HT.sIx_none]
  omega⟩
theorem Oks.nil {K : PySem.W.Frag} {a : Addr} {H : Hp} {s n : Nat} : Oks K a H s n [] := ⟨[], .nil, fun d hd => nomatch hd⟩
theorem Oks.cons {K : PySem.W.Frag} {a : Addr} {H : Hp} {s n : Nat} {v : V} {vs : List V} (h : Ok K a H s n v) (h' : Oks K a H s n vs) : Oks K a H s n (v :: vs) := (Oks.one h).app h'
theorem Oks.rep {K : PySem.W.Frag} {a : Addr} {H : Hp} {s n : Nat} {v : V} (h : Ok K a H s n v) : ∀ k : Nat, Oks K a H s n (List.replicate k v)
  | 0 => .nil
  | k + 1 => by
    rw [List.replicate_succ]
    exact .cons h (Oks.rep h k)
theorem Ok.small {K : PySem.W.Frag} {a : Addr} {H : Hp} {s n : Nat} {i : Int} (h : i.natAbs < 100) (hs : 2 ≤ s) : Ok K a H s n (.int i) := .int (Nat.lt_of_lt_of_le (show i.natAbs < 10 ^ 2 from h) (Nat.pow_le_pow_right (by decide) hs))
theorem shl_one (n : Nat) : (1 : Int) * 2 ^ ((n : Nat) : Int).toNat = ((2 ^ n : Nat) : Int) := by
  rw [Int.one_mul, Int.toNat_natCast, Int.natCast_pow]
  rfl
theorem two_pow_le {n b : Nat} (h : n ≤ b) : 2 ^ n ≤ 2 ^ b := Nat.pow_le_pow_right (by decide) h
theorem at0 {v : V} {ws : List V} : atI (v :: ws) 0 = some v := atI_nat (j := 0) rfl
theorem all4 {P : PyData → Prop} {a b c d : PyData} (h1 : P a) (h2 : P b) (h3 : P c) (h4 : P d) : ∀ x ∈ [a, b, c, d], P x := by
  intro x hx
  rcases List.mem_cons.mp hx with e | hx
  · exact e ▸ h1
  rcases List.mem_cons.mp hx with e | hx
  · exact e ▸ h2
  rcases List.mem_cons.mp hx with e | hx
  · exact e ▸ h3
  rcases List.mem_cons.mp hx with e | hx
  · exact e ▸ h4
  exact nomatch hx
theorem off_upd {R : Addr} {H : Hp} {o : HO} (a : Addr) : off R (off a (upd H R o)) = off R (off a H) := by
  funext b
  unfold off
  by_cases h : b = R
  · rw [if_pos h, if_pos h]
  · rw [if_neg h, if_neg h]
    by_cases h' : b = a
    · rw [if_pos h', if_pos h']
    · rw [if_neg h', if_neg h', upd_ne h]
theorem off_mono {R : Addr} {H H' : Hp} (s : Same H H') : Same (off R H) (off R H') := fun b o e => by
  unfold off at e ⊢
  by_cases h : b = R
  · rw [if_pos h] at e
    cases e
  · rw [if_neg h] at e ⊢
    exact s b o e

theorem dp_sbs {K : PySem.W.Frag} {H : Hp} : ∀ {vs : List V} {rows : List (List Bool)}, DpAll K H vs (rows.map fun r => PyData.str (sb r)) → vs = rows.map fun r => V.str (sb r)
  | _, [], .nil => rfl
  | _, _ :: _, .cons (.str _) t => by rw [List.map_cons, dp_sbs t]
/-! ### generators, as the document tells them -/
structure Wf (n m : Nat) (rows : List (List Bool)) : Prop where
  n1 : 1 ≤ n
  n2 : n ≤ 10
  m1 : 1 ≤ m
  m2 : m ≤ 40
  len : rows.length = 2 ^ n
  row : ∀ r ∈ rows, r.length = m
theorem bitRow_sb {m : Nat} {r : List Bool} (h : r.length = m) : bitRow (m : Int) (.str (sb r)) = true := by
  show (decide (((sb r).length : Int) = (m : Int)) && (sb r).cps.toList.all _) = true
  rw [sb_len, h, decide_eq_true rfl, Bool.true_and, List.all_eq_true]
  intro c hc
  have e : (sb r).cps.toList = r.map cB := by
    show ((r.map cB).toArray).toList = _
    simp
  rw [e] at hc
  obtain ⟨b, _, rfl⟩ := List.mem_map.mp hc
  cases b <;> rfl
theorem sb_bitRow {m : Int} {d : PyData} (h : bitRow m d = true) : ∃ r : List Bool, d = .str (sb r) ∧ (r.length : Int) = m := by
  cases d with
  | str x =>
    have h' : (decide ((x.length : Int) = m) && x.cps.toList.all (fun c => c == 48 || c == 49)) = true := h
    obtain ⟨h1, h2⟩ := Bool.and_eq_true_iff.mp h'
    have key : ∀ l : List Nat, l.all (fun c => c == 48 || c == 49) = true → ∃ r : List Bool, l = r.map cB := by
      intro l
      induction l with
      | nil => exact fun _ => ⟨[], rfl⟩
      | cons c l ih =>
        intro hl
        rw [List.all_cons, Bool.and_eq_true] at hl
        obtain ⟨r, e⟩ := ih hl.2
        rcases Bool.or_eq_true_iff.mp hl.1 with z | z
        · exact ⟨false :: r, by rw [e, beq_iff_eq.mp z]; rfl⟩
        · exact ⟨true :: r, by rw [e, beq_iff_eq.mp z]; rfl⟩
    obtain ⟨r, e⟩ := key _ h2
    have ex : x = sb r := TL.ext_tl (by
      show x.cps.toList = ((r.map cB).toArray).toList
      rw [e])
    refine ⟨r, by rw [ex], ?_⟩
    have := of_decide_eq_true h1
    rw [ex, sb_len] at this
    exact this
  | _ => cases h
theorem rows_ok {many m : Nat} {rows : List (List Bool)} (h1 : rows.length = many) (h2 : ∀ r ∈ rows, r.length = m) : rowsOk (rowsD rows) (many : Int) (m : Int) = true := by
  show (decide (((rows.map fun r => PyData.str (sb r)).length : Int) = (many : Int)) && (rows.map fun r => PyData.str (sb r)).all (bitRow (m : Int))) = true
  rw [List.length_map, h1, decide_eq_true rfl, Bool.true_and, List.all_eq_true]
  intro x hx
  obtain ⟨r, hr, rfl⟩ := List.mem_map.mp hx
  exact bitRow_sb (h2 r hr)
theorem ok_rowsD {many m : Int} {d : PyData} (h : rowsOk d many m = true) : ∃ rows : List (List Bool), d = rowsD rows ∧ (rows.length : Int) = many ∧ ∀ r ∈ rows, (r.length : Int) = m := by
  cases d with
  | tuple xs =>
    have h' : (decide ((xs.length : Int) = many) && xs.all (bitRow m)) = true := h
    obtain ⟨h1, h2⟩ := Bool.and_eq_true_iff.mp h'
    have key : ∀ l : List PyData, l.all (bitRow m) = true → ∃ rows : List (List Bool), l = rows.map (fun r => .str (sb r)) ∧ ∀ r ∈ rows, (r.length : Int) = m := by
      intro l
      induction l with
      | nil => exact fun _ => ⟨[], rfl, fun r hr => nomatch hr⟩
      | cons c l ih =>
        intro hl
        rw [List.all_cons, Bool.and_eq_true] at hl
        obtain ⟨rows, e, hr⟩ := ih hl.2
        obtain ⟨r, er, hl'⟩ := sb_bitRow hl.1
        refine ⟨r :: rows, by rw [e, er]; rfl, fun x hx => ?_⟩
        rcases List.mem_cons.mp hx with z | z
        · rw [z]
          exact hl'
        · exact hr x z
    obtain ⟨rows, e, hr⟩ := key _ h2
    refine ⟨rows, by rw [e]; rfl, ?_, hr⟩
    have := of_decide_eq_true h1
    rw [e, List.length_map] at this
    exact this
  | _ => cases h
theorem wf_gen {n m : Nat} {rows : List (List Bool)} (h : Wf n m rows) : genOk (tabD n m rows) = true := by
  have e1 : whole (.int (n : Int)) 1 10 = true := by
    show (decide _ && decide _) = true
    rw [decide_eq_true (show (1 : Int) ≤ (n : Int) by have := h.n1; omega), decide_eq_true (show (n : Int) ≤ 10 by have := h.n2; omega)]
    rfl
  have e2 : whole (.int (m : Int)) 1 40 = true := by
    show (decide _ && decide _) = true
    rw [decide_eq_true (show (1 : Int) ≤ (m : Int) by have := h.m1; omega), decide_eq_true (show (m : Int) ≤ 40 by have := h.m2; omega)]
    rfl
  have e3 : genRows (.int (n : Int)) (.int (m : Int)) (rowsD rows) = true := by
    show rowsOk (rowsD rows) (1 * 2 ^ (n : Int).toNat) (m : Int) = true
    rw [shl_one]
    exact rows_ok h.len h.row
  show genOk (.tuple [.str "generator", .int (n : Int), .int (m : Int), rowsD rows]) = true
  rw [gen_eq, e1, e2, e3]
  decide +kernel
theorem named_iff {x : Str} {d : PyData} (h : named x d = true) : d = .str x := by
  cases d with
  | str y =>
    have h' : (y == x) = true := h
    rw [beq_iff_eq.mp h']
  | _ => cases h
theorem gen_wf {d : PyData} (h : genOk d = true) : ∃ (n m : Nat) (rows : List (List Bool)), d = tabD n m rows ∧ Wf n m rows := by
  unfold genOk at h
  split at h
  · rename_i k n m r
    obtain ⟨g3, h4⟩ := Bool.and_eq_true_iff.mp h
    obtain ⟨g2, h3⟩ := Bool.and_eq_true_iff.mp g3
    obtain ⟨h1, h2⟩ := Bool.and_eq_true_iff.mp g2
    obtain ⟨n, rfl, n1, n2⟩ := whole_int h2
    obtain ⟨m, rfl, m1, m2⟩ := whole_int h3
    obtain ⟨n, rfl⟩ : ∃ k : Nat, n = (k : Int) := ⟨n.toNat, by omega⟩
    obtain ⟨m, rfl⟩ : ∃ k : Nat, m = (k : Int) := ⟨m.toNat, by omega⟩
    have h4' : rowsOk r (1 * 2 ^ (n : Int).toNat) (m : Int) = true := h4
    rw [shl_one] at h4'
    obtain ⟨rows, rfl, hl, hr⟩ := ok_rowsD h4'
    refine ⟨n, m, rows, by rw [named_iff h1]; rfl, by omega, by omega, by omega, by omega, by omega, fun r hr' => by have := hr r hr'; omega⟩
  · cases h
theorem fun_no_gen {d : PyData} (h : funOk d = true) : genOk d = false ∧ ∃ ds, d = .tuple (.str "function" :: ds) := by
  unfold funOk at h
  split at h
  · rename_i k n l m t
    have h1 : named "function" k = true := by
      obtain ⟨h, _⟩ := Bool.and_eq_true_iff.mp h
      obtain ⟨h, _⟩ := Bool.and_eq_true_iff.mp h
      obtain ⟨h, _⟩ := Bool.and_eq_true_iff.mp h
      obtain ⟨h, _⟩ := Bool.and_eq_true_iff.mp h
      exact (Bool.and_eq_true_iff.mp h).1
    have e := named_iff h1
    subst e
    exact ⟨gen_no (by show ¬ 5 = 4; decide), _, rfl⟩
  · cases h
theorem wf_block {n m : Nat} {rows : List (List Bool)} (h : Wf n m rows) : blockOk (tabD n m rows) = true := by
  unfold blockOk
  rw [wf_gen h]
  rfl
/-- data of tuples, texts and numbers alone -/
def Pl : Nat → PyData → Prop
  | 0, d => match d with
    | .int _ => True
    | .str x => okT x
    | _ => False
  | n + 1, d => match d with
    | .int _ => True
    | .str x => okT x
    | .tuple xs => xs.length ≤ 5000 ∧ ∀ x ∈ xs, Pl n x
    | _ => False
theorem pl_str {n : Nat} {x : Str} : Pl n (.str x) ↔ okT x := by cases n <;> exact Iff.rfl
theorem pl_int {n : Nat} {i : Int} : Pl n (.int i) := by cases n <;> trivial
theorem pl_tup {n : Nat} {xs : List PyData} (h : Pl n (.tuple xs)) : xs.length ≤ 5000 ∧ ∃ m, n = m + 1 ∧ ∀ x ∈ xs, Pl m x := by
  cases n with
  | zero => exact h.elim
  | succ n => exact ⟨h.1, n, rfl, h.2⟩
theorem pl_gd : ∀ {n : Nat} {d : PyData}, Pl n d → Gd n d
  | 0, .int _, _ => trivial
  | 0, .str _, h => h
  | n + 1, .int _, _ => trivial
  | n + 1, .str _, h => h
  | n + 1, .tuple xs, h => ⟨h.1, fun x hx => pl_gd (h.2 x hx)⟩
theorem dp_offs {K : PySem.W.Frag} {a d : Addr} {H : Hp} (hh : Hnd H a d) : ∀ {n : Nat} {D : PyData} {v : V}, Pl n D → Dp K H v D → Dp K (off a H) v D
  | 0, .int _, _, _, .int i => .int i
  | 0, .str _, _, _, .str x => .str x
  | n + 1, .int _, _, _, .int i => .int i
  | n + 1, .str _, _, _, .str x => .str x
  | n + 1, .tuple xs, _, h, .tup hT hA => .tup (sqt_off hh hT) (go h.2 hA)
where go {n : Nat} : ∀ {xs : List PyData} {vs : List V}, (∀ x ∈ xs, Pl n x) → DpAll K H vs xs → DpAll K (off a H) vs xs
  | [], _, _, .nil => .nil
  | x :: xs, _, h, .cons hv t => .cons (dp_offs hh (h x List.mem_cons_self) hv) (go (fun y hy => h y (List.mem_cons_of_mem _ hy)) t)
theorem okT_sb {r : List Bool} (h : r.length ≤ 5000) : okT (sb r) := by
  refine ⟨?_, by rw [sb_len]; exact h⟩
  unfold PySem.PyData.strOk
  rw [← Array.all_toList, List.all_eq_true]
  intro c hc
  have e : (sb r).cps.toList = r.map cB := by
    show ((r.map cB).toArray).toList = _
    simp
  rw [e] at hc
  obtain ⟨b, _, rfl⟩ := List.mem_map.mp hc
  cases b <;> decide
theorem pl_tab {n m : Nat} {rows : List (List Bool)} (h1 : rows.length ≤ 5000) (h2 : ∀ r ∈ rows, r.length ≤ 5000) : Pl 2 (tabD n m rows) := by
  refine ⟨by show 4 ≤ 5000; decide, fun x hx => ?_⟩
  rcases List.mem_cons.mp hx with e | hx
  · rw [e]
    exact pl_str.mpr ⟨by decide +kernel, by decide +kernel⟩
  rcases List.mem_cons.mp hx with e | hx
  · rw [e]
    exact pl_int
  rcases List.mem_cons.mp hx with e | hx
  · rw [e]
    exact pl_int
  rcases List.mem_cons.mp hx with e | hx
  · rw [e]
    refine ⟨by rw [List.length_map]; exact h1, fun y hy => ?_⟩
    obtain ⟨r, hr, rfl⟩ := List.mem_map.mp hy
    exact pl_str.mpr (okT_sb (h2 r hr))
  exact nomatch hx
theorem Wf.pl {n m : Nat} {rows : List (List Bool)} (h : Wf n m rows) : Pl 2 (tabD n m rows) := by
  have h2 := two_pow_le (b := 10) h.n2
  have h1 := h.len
  exact pl_tab (by omega) fun r hr => by
    have := h.row r hr
    have := h.m2
    omega
/-- where a generator stands -/
theorem dp_tab {K : PySem.W.Frag} {H : Hp} {v : V} {n m : Nat} {rows : List (List Bool)} (h : Dp K H v (tabD n m rows)) : ∃ a r, v = .ref a ∧ SqT K H a [.str "generator", .int (n : Int), .int (m : Int), .ref r] ∧ SqT K H r (rows.map fun r => V.str (sb r)) := by
  cases h with
  | @tup a ws _ hT hA =>
    cases hA with
    | cons h0 hA =>
      cases hA with
      | cons h1 hA =>
        cases hA with
        | cons h2 hA =>
          cases hA with
          | cons h3 hA =>
            cases hA
            cases h0
            cases h1
            cases h2
            cases h3 with
            | @tup r us _ hR hU => exact ⟨a, r, rfl, hT, by rw [← dp_sbs hU]; exact hR⟩
theorem tab_dp {K : PySem.W.Frag} {H : Hp} {a r : Addr} {n m : Nat} {rows : List (List Bool)} (h1 : SqT K H a [.str "generator", .int (n : Int), .int (m : Int), .ref r]) (h2 : SqT K H r (rows.map fun r => V.str (sb r))) : Dp K H (.ref a) (tabD n m rows) :=
  .tup h1 (.cons (.str _) (.cons (.int _) (.cons (.int _) (.cons (.tup h2 (dp_bits rows)) .nil))))

/-! ### data compared with a text or an empty tuple, of any depth -/
def rEqF (K : PySem.W.Frag) : R2 := fun x y H Q => ∃ d e, Dp K H x d ∧ Dp K H y e ∧ d.canLay0 = true ∧ e.canLay0 = true ∧ e.depth ≤ 8 ∧ Q (.bl (PyData.eqv d e)) H
def rNeF (K : PySem.W.Frag) : R2 := fun x y H Q => ∃ d e, Dp K H x d ∧ Dp K H y e ∧ d.canLay0 = true ∧ e.canLay0 = true ∧ e.depth ≤ 8 ∧ Q (.bl (!PyData.eqv d e)) H
/-- a dict that the module's top has written: its keys, and what each holds -/
inductive KeysAre (R : Str → Value → Prop) : List DictEntry → List Str → Prop where
  | nil : KeysAre R [] []
  | cons {e : DictEntry} {k : Str} {t : Tok} {es : List DictEntry} {ks : List Str} (h : e.key = .str k t) (r : R k e.val) (q : KeysAre R es ks) : KeysAre R (e :: es) (k :: ks)
/-- the values of a dict: what is told of each can be said of a value of the proof's own -/
def HasV (R : Str → Value → Prop) : Prop := ∀ z u, R z u → ∃ v, RelV v u
structure DictK (K : PySem.W.Frag) (w : World) (d : Addr) (ks : List Str) (R : Str → Value → Prop) : Prop where
  ex : ∃ es n, KDict K w d es n ∧ KeysAre R es.toList ks
  has : HasV R
theorem keys_isStr {k z : Str} {t : Tok} : (Value.str k t).isStr z = decide (k = z) := by
  show (k == z) = _
  by_cases h : k = z
  · rw [decide_eq_true h, h]
    exact beq_self_eq_true z
  · rw [decide_eq_false h]
    exact beq_eq_false_iff_ne.mpr h
theorem keys_no {R : Str → Value → Prop} {z : Str} : ∀ {es : List DictEntry} {ks : List Str}, KeysAre R es ks → z ∉ ks → es.find? (·.key.isStr z) = none ∧ es.any (·.refKey) = false
  | _, _, .nil, _ => ⟨rfl, rfl⟩
  | _, _, .cons (e := e) (k := k) h r q, hz => by
    obtain ⟨h1, h2⟩ := keys_no q fun m => hz (List.mem_cons_of_mem _ m)
    have hk : e.key.isStr z = false := by
      rw [h, keys_isStr]
      exact decide_eq_false fun m => hz (m ▸ List.mem_cons_self)
    have hr : e.refKey = false := by
      unfold DictEntry.refKey
      rw [h]
    exact ⟨by rw [List.find?_cons, hk]; exact h1, by rw [List.any_cons, hr, h2]; rfl⟩
theorem keys_yes {R : Str → Value → Prop} {z : Str} : ∀ {es : List DictEntry} {ks : List Str}, KeysAre R es ks → z ∈ ks → ∃ e, es.find? (·.key.isStr z) = some e ∧ R z e.val
  | _, _, .cons (e := e) (k := k) h r q, hz => by
    by_cases hk : k = z
    · refine ⟨e, ?_, hk ▸ r⟩
      rw [List.find?_cons, h, keys_isStr, decide_eq_true hk]
    · rcases List.mem_cons.mp hz with m | m
      · exact absurd m.symm hk
      · obtain ⟨e', h1, h2⟩ := keys_yes q m
        refine ⟨e', ?_, h2⟩
        rw [List.find?_cons, h, keys_isStr, decide_eq_false hk]
        exact h1
theorem nsIn_no {K : PySem.W.Frag} {w : World} {d : Addr} {es : Array DictEntry} {n : Nat} {R : Str → Value → Prop} {ks : List Str} {z : Str} (D : KDict K w d es n) (q : KeysAre R es.toList ks) (hz : z ∉ ks) : PySem.W.nsIn K d z = some none := by
  obtain ⟨h1, h2⟩ := keys_no q hz
  unfold PySem.W.nsIn
  rw [D.at_]
  dsimp only
  rw [h1]
  dsimp only
  rw [h2]
  rfl
theorem nsIn_yes {K : PySem.W.Frag} {w : World} {d : Addr} {es : Array DictEntry} {n : Nat} {R : Str → Value → Prop} {ks : List Str} {z : Str} (D : KDict K w d es n) (q : KeysAre R es.toList ks) (hz : z ∈ ks) : ∃ u, PySem.W.nsIn K d z = some (some u) ∧ R z u := by
  obtain ⟨e, h1, h2⟩ := keys_yes q hz
  refine ⟨e.val, ?_, h2⟩
  unfold PySem.W.nsIn
  rw [D.at_]
  dsimp only
  rw [h1]
def rInDk (d : Addr) (ks : List Str) : R2 := fun x y H Q => ∃ z : Str, x = .str z ∧ y = .ref d ∧ Q (.bl (decide (z ∈ ks))) H
def rIxDk (d : Addr) (ks : List Str) (R : Str → Value → Prop) : R2 := fun x y H Q => ∃ z : Str, x = .ref d ∧ y = .str z ∧ z ∈ ks ∧ ∀ v u, RelV v u → R z u → Q v H
section
variable {X : Cx}
theorem op_eqF (K : PySem.W.Frag) (hu : X.A.units + 64 < cLine) (h : X.K = K := by rfl) : OpR X (compareOp .Eq) (rEqF K) := by
  subst h
  intro pins s σ H x y v u Q I rx ry h
  obtain ⟨d, e, hd, he, sd, se, hdep, q⟩ := h
  obtain ⟨as, r1⟩ := Dp.reads I d x v hd rx
  obtain ⟨bs, r2⟩ := Dp.reads I e y u he ry
  exact SeqAt.compareEq_reads r1 r2 sd se (by have := Nat.min_le_right d.depth e.depth; omega) ⟨.bl _, H, I, rfl, q⟩
theorem op_neF (K : PySem.W.Frag) (hu : X.A.units + 64 < cLine) (h : X.K = K := by rfl) : OpR X (compareOp .NotEq) (rNeF K) := by
  subst h
  intro pins s σ H x y v u Q I rx ry h
  obtain ⟨d, e, hd, he, sd, se, hdep, q⟩ := h
  obtain ⟨as, r1⟩ := Dp.reads I d x v hd rx
  obtain ⟨bs, r2⟩ := Dp.reads I e y u he ry
  exact SeqAt.compareNe_reads r1 r2 sd se (by have := Nat.min_le_right d.depth e.depth; omega) ⟨.bl _, H, I, rfl, q⟩
theorem in_dk {d : Addr} {ks : List Str} {R : Str → Value → Prop} (D : DictK X.K X.w d ks R) : OpR X (compareOp .In) (rInDk d ks) := by
  obtain ⟨es, n, kd, ka⟩ := D.ex
  intro pins s σ H x y v u Q I rx ry h
  obtain ⟨z, rfl, rfl, q⟩ := h
  by_cases hz : z ∈ ks
  · obtain ⟨u', e, _⟩ := nsIn_yes kd ka hz
    rw [decide_eq_true hz] at q
    exact op_in_kd kd pins s σ H _ _ v u Q I rx ry ⟨z, some u', rfl, rfl, e, q⟩
  · rw [decide_eq_false hz] at q
    exact op_in_kd kd pins s σ H _ _ v u Q I rx ry ⟨z, none, rfl, rfl, nsIn_no kd ka hz, q⟩
theorem ix_dk {d : Addr} {ks : List Str} {R : Str → Value → Prop} (D : DictK X.K X.w d ks R) : IxR X (rIxDk d ks R) := by
  have hv := D.has
  obtain ⟨es, n, kd, ka⟩ := D.ex
  intro value slice pins s σ H x y v u Q I rx ry h hs
  obtain ⟨z, rfl, rfl, hz, q⟩ := h
  obtain ⟨u', e, r⟩ := nsIn_yes kd ka hz
  obtain ⟨v', rv⟩ := hv z u' r
  exact ix_kdict value slice pins s σ H _ _ v u Q I rx ry ⟨d, z, v', rfl, rfl, ⟨es, n, u', kd.at_, kd.lit, e, rv⟩, q v' u' rv r⟩ hs
/-- a local name that holds one of several defs -/
def tCallH (i : Nat) (R : Addr → Sp → Prop) (t : TA) : TE := fun σ H Q => ∃ f sp, σ[i]? = some (some (.ref f)) ∧ R f sp ∧ t σ H fun vs H1 => sp vs H1 Q (fun _ _ _ => False)
theorem pe_callH {k j i : Nat} {R : Addr → Sp → Prop} {x : Str} {p pos : Pos} {e : Expr} {es : List Expr} {t : TA} (A : ∀ f sp, R f sp → Held X.prog X.w X.K X.mg X.base k f sp) (hr : Room j X.A) (hk : k ≤ j) (hN : X.N[i]? = some x) (hv : Vis X.env.scope x) (ha : PA X (e :: es) t)
    (hdb : (x == ("__debug__" : Str)) = false := by decide) (hcd : (x == ("__classdict__" : Str)) = false := by decide)
    (he : starEach (e :: es) X.env = (false, eval e X.env) :: starEach es X.env := by rfl) (hpl : (backTo pos (starEach es X.env)).any (·.1) = false := by rfl) : PE X (.Call (.Name x p) (e :: es) [] pos) (tCallH i R t) :=
  ⟨fun pins s σ H Q I h => by
    obtain ⟨f, sp, h1, h2, h3⟩ := h
    exact (pe_callA (S := fun f' => if f' = f then some sp else none) (fun f' sp' q => by
      by_cases z : f' = f
      · rw [if_pos z] at q
        rw [z, ← Option.some.inj q]
        exact A f sp h2
      · rw [if_neg z] at q
        cases q) (hr.mono hk) hN hv ha hdb hcd he hpl).run pins s σ H Q I ⟨f, sp, h1, if_pos rfl, h3⟩⟩
end
theorem walk_zipT {K : PySem.W.Frag} {a b : Addr} {xs ys : List V} {n : Nat} (hx : xs.length = n) (hy : ys.length = n) : Walk (RZ.ItzT K a b) n (fun H => SqT K H a xs ∧ SqT K H b ys) (YPair (fun i => xs[i]?) (fun i => ys[i]?)) where
  goes := fun i _ hi q => ⟨xs, ys, xs[i]'(by omega), ys[i]'(by omega), q.1, q.2, List.getElem?_eq_getElem _, List.getElem?_eq_getElem _⟩
  stops := fun _ q => ⟨xs, ys, q.1, q.2, .inl (by omega)⟩
  yields := fun i H v H' _ q y => by
    obtain ⟨T, x, z, h1, h2, h3, h4, h5⟩ := y
    exact ⟨T, x, z, h1, h2, h3, h4 xs q.1, h5 ys q.2⟩
/-! ### facts of data -/
theorem gd_lay {n : Nat} {d : PyData} (h : Gd n d) : d.canLay0 = true := (gd_facts h).1
theorem named_str {x z : Str} : named x (.str z) = decide (z = x) := by
  show (PyData.eqv (.str z) (.str x)) = _
  simp only [PyData.eqv]
  by_cases h : z = x
  · rw [decide_eq_true h, h]
    exact beq_self_eq_true x
  · rw [decide_eq_false h]
    exact beq_eq_false_iff_ne.mpr h
theorem eqv_nil {xs : List PyData} : PyData.eqv (.tuple xs) (.tuple []) = xs.isEmpty := by
  cases xs <;> simp [PyData.eqv, PyData.eqvAll]
theorem str_lay (x : Str) (h : PySem.PyData.strOk x = true := by decide +kernel) : PyData.canLay0 (.str x) = true := by
  unfold PyData.canLay0
  exact h
theorem str_dep (x : Str) : PyData.depth (.str x) ≤ 8 := by
  unfold PyData.depth
  omega
theorem nil_lay : PyData.canLay0 (.tuple []) = true := by decide +kernel
theorem nil_dep : PyData.depth (.tuple []) ≤ 8 := by decide +kernel

/-! ### what a breaker is -/
def numL : List (Str × List (Int × Int)) := [("marks", [(1, 40), (1, 40)]), ("secrets", [(1, 40), (1, 40)]), ("once", [(1, 40)]), ("counter", [(1, 40), (1, 256), (1, 40)]), ("cut", [(1, 40)]), ("next", [(1, 40)]), ("guess", [(1, 40)]), ("bit", []), ("hard", [(1, 10)])]
def numK : List Str := ["marks", "secrets", "once", "counter", "cut", "next", "guess", "bit", "hard"]
def fitK : List Str := ["longer", "tree", "opening", "onetime"]
def numOf (z : Str) : List (Int × Int) := ((numL.find? fun p => decide (p.1 = z)).map (·.2)).getD []
def madeZ (z : Str) : Bool := decide (z ∈ numK) || decide (z ∈ fitK)
def madeD : PyData → Bool
  | .tuple (.str z :: _) => madeZ z
  | _ => false
def numsOk : List PyData → List (Int × Int) → Bool
  | [], [] => true
  | d :: ds, b :: bs => whole d b.1 b.2 && numsOk ds bs
  | _, _ => false
def pairD (b : Int × Int) : PyData := .tuple [.int b.1, .int b.2]
def pairsD (bs : List (Int × Int)) : PyData := .tuple (bs.map pairD)
def genNext : PyData → Bool
  | .tuple [_, .int n, .int m, _] => decide (m = n + 1)
  | _ => false
def genTwice (d q : PyData) : PyData → Bool
  | .tuple [_, .int n, .int m, _] => decide (m = 2 * n) && (decide (n ≤ 8) && (whole d 1 (if 12 - n < 8 then 12 - n else 8) && whole q 1 1000))
  | _ => false
def fitLonger : List PyData → Bool
  | [g, k] => genOk g && (genNext g && whole k 1 20)
  | _ => false
def fitTree : List PyData → Bool
  | [g, d, q] => genOk g && genTwice d q g
  | _ => false
def fitOpening : List PyData → Bool
  | [.str x] => decide ((1 : Int) ≤ (x.length : Int)) && (decide ((x.length : Int) ≤ 40) && rowsOk (.tuple [.str x]) 1 (x.length : Int))
  | _ => false
def fitOnetime : List PyData → Bool
  | [f, l] => genOk f && whole l 1 4
  | _ => false
def fitZ (z : Str) (own : List PyData) : Bool :=
  if z ∈ numK then numsOk own (numOf z) else if z = "longer" then fitLonger own else if z = "tree" then fitTree own else if z = "opening" then fitOpening own else fitOnetime own
def fitsD : PyData → Bool
  | .tuple (.str z :: r) => fitZ z r.dropLast
  | _ => false
def lastD : PyData → PyData
  | .tuple xs => xs.getLastD .none
  | _ => .none
def headIs (x : Str) : PyData → Bool
  | .tuple (k :: _) => named x k
  | _ => false
def partOk : PyData → Bool
  | .str x => decide (x = "0") || decide (x = "1")
  | d => whole d 0 9999
def partsOk : PyData → Bool
  | .tuple xs => xs.all partOk
  | _ => false
def sayOk : List PyData → Bool
  | [p] => partsOk p
  | _ => false
def tossOk : List PyData → Bool
  | [.tuple xs] => decide ((1 : Int) ≤ (xs.length : Int)) && decide ((xs.length : Int) ≤ 64)
  | _ => false
def lookOk : List PyData → Bool
  | [n, _, _] => whole n 0 9999
  | _ => false
def askOk : List PyData → Bool
  | [p, _] => partsOk p
  | _ => false
def looksOk : PyData → Bool
  | .tuple (k :: r) => if named "say" k then sayOk r else if named "toss" k then tossOk r else if named "look" k then lookOk r else named "ask" k && askOk r
  | _ => false
def kidsD : PyData → List PyData
  | .tuple (k :: r) => if named "toss" k then (match r with
    | .tuple xs :: _ => xs
    | _ => []) else r.drop 1
  | _ => []
def okN : Nat → PyData → Bool
  | 0, _ => false
  | n + 1, d => looksOk d && (kidsD d).all (okN n)
def szN : Nat → PyData → Nat
  | 0, _ => 1
  | n + 1, d => 1 + ((kidsD d).map (szN n)).sum
def plainOk (d : PyData) : Bool := okN 60 d && decide (szN 60 d ≤ 2001)
def chk : Nat → PyData → Bool
  | n, d => if madeD d then (match n with
    | 0 => false
    | m + 1 => fitsD d && (!(headIs "onetime" d && madeD (lastD d)) && chk m (lastD d))) else plainOk d
def brOk (d : PyData) : Bool := chk 20 d
/-! ### promises -/
def spD (K : PySem.W.Frag) (g : PyData → Bool) : Sp := fun vs H Q _ => ∃ (v : V) (d : PyData) (n : Nat), vs = [v] ∧ Dp K H v d ∧ Gd n d ∧ ∀ H', Same H H' → Q (.bl (g d)) H'
def spOwn (K : PySem.W.Frag) (g : List PyData → Bool) : Sp := fun vs H Q _ => ∃ (v : V) (ds : List PyData) (n : Nat), vs = [v] ∧ Dp K H v (.tuple ds) ∧ Gd n (.tuple ds) ∧ ∀ H', Same H H' → Q (.bl (g ds)) H'
def spNums (K : PySem.W.Frag) : Sp := fun vs H Q _ => ∃ (v y : V) (ds : List PyData) (bs : List (Int × Int)) (n : Nat), vs = [v, y] ∧ Dp K H v (.tuple ds) ∧ Gd n (.tuple ds) ∧ Dp K H y (pairsD bs) ∧ bs.length ≤ 100 ∧ ∀ H', Same H H' → Q (.bl (numsOk ds bs)) H'
def spKids (K : PySem.W.Frag) : Sp := fun vs H Q _ => ∃ (v : V) (d : PyData) (n : Nat) (G : Hp), vs = [v] ∧ Same G H ∧ Dp K G v d ∧ Gd n d ∧ looksOk d = true ∧ ∀ a us H', Same H H' → SqT K H' a us → DpAll K G us (kidsD d) → Q (.ref a) H'
def spCheckB (K : PySem.W.Frag) (C : Addr) : Sp := fun vs H Q E => ∃ (v : V) (d : PyData) (n : Nat), vs = [v] ∧ Dp K H v d ∧ Gd n d ∧ ∀ H', Same H H' → (brOk d = true → Q .non H') ∧ (brOk d = false → E (.ref C) none H')
/-- what the dicts of the made breakers hold -/
def numR (K : PySem.W.Frag) : Str → Value → Prop := fun z u => ∃ a, u = .ref a ∧ ∀ H, Dp K H (.ref a) (pairsD (numOf z))
def fitR (mg : Str → Option Value) : Str → Value → Prop := fun z u => ∃ f, u = .ref f ∧ ((z = "longer" ∧ mg "fits_longer" = some (.ref f)) ∨ (z = "tree" ∧ mg "fits_tree" = some (.ref f)) ∨ (z = "opening" ∧ mg "fits_opening" = some (.ref f)) ∨ (z = "onetime" ∧ mg "fits_onetime" = some (.ref f)))

/-! ### the written dicts of games -/
def gameK : List Str := ["generator", "function", "permutation", "swaps", "marks", "secrets", "once", "opening", "next", "inverse", "onetime", "hard"]
def leadK : List Str := ["longer", "tree", "marks", "secrets", "once", "opening", "counter", "cut", "onetime", "next", "guess", "bit", "hard"]
def boundK : List Str := ["1 to 8", "1 to 4", "bit"]
def partsL : List (Str × List Str) := [("generator", ["generator", "real"]), ("function", ["function", "real"]), ("permutation", ["1 to 8"]), ("swaps", ["1 to 4", "1 to 4"]), ("marks", ["function", "real"]), ("secrets", ["function", "real", "bit"]),
  ("once", ["generator", "real", "bit"]), ("opening", ["generator", "string", "real", "bit"]), ("next", ["generator", "real"]), ("inverse", ["generator"]), ("onetime", ["generator", "1 to 4"]), ("hard", ["generator"])]
def boundsL : List (Str × (Int × Int)) := [("1 to 8", (1, 8)), ("1 to 4", (1, 4)), ("bit", (0, 1))]
def partsOf (z : Str) : List Str := ((partsL.find? fun p => decide (p.1 = z)).map (·.2)).getD []
def boundOf (z : Str) : Int × Int := ((boundsL.find? fun p => decide (p.1 = z)).map (·.2)).getD (0, 0)
def partR (K : PySem.W.Frag) : Str → Value → Prop := fun z u => ∃ a, u = .ref a ∧ ∀ H, SqT K H a ((partsOf z).map V.str)
def boundR (K : PySem.W.Frag) : Str → Value → Prop := fun z u => ∃ a, u = .ref a ∧ ∀ H, SqT K H a [.int (boundOf z).1, .int (boundOf z).2]
def ruleR (mg : Str → Option Value) : Str → Value → Prop := fun z u => ∃ f, u = .ref f ∧ mg (z ++ "_game") = some (.ref f)
def leadR (mg : Str → Option Value) : Str → Value → Prop := fun z u => ∃ f, u = .ref f ∧ mg ("lead_" ++ z) = some (.ref f)
def rNotDk (d : Addr) (ks : List Str) : R2 := fun x y H Q => ∃ z : Str, x = .str z ∧ y = .ref d ∧ Q (.bl (decide (z ∉ ks))) H
theorem notin_dk {X : Cx} {d : Addr} {ks : List Str} {R : Str → Value → Prop} (D : DictK X.K X.w d ks R) : OpR X (compareOp .NotIn) (rNotDk d ks) := by
  obtain ⟨es, n, kd, ka⟩ := D.ex
  intro pins s σ H x y v u Q I rx ry h
  obtain ⟨z, rfl, rfl, q⟩ := h
  by_cases hz : z ∈ ks
  · obtain ⟨u', e, _⟩ := nsIn_yes kd ka hz
    rw [decide_eq_false (fun n => n hz)] at q
    exact op_notIn_kd kd pins s σ H _ _ v u Q I rx ry ⟨z, some u', rfl, rfl, e, q⟩
  · rw [decide_eq_true hz] at q
    exact op_notIn_kd kd pins s σ H _ _ v u Q I rx ry ⟨z, none, rfl, rfl, nsIn_no kd ka hz, q⟩

structure Cs where
  BadBreaker : Addr
  BadGame : Addr
  BadChoice : Addr
  BreakError : Addr
  NUMBERS : Addr
  FITTING : Addr
  PARTS : Addr
  BOUNDS : Addr
  LEADERS : Addr
  RULES : Addr
  Play : Addr
def topS (i : Nat) : Stmt := PySem.Challenge.pw_breakback_k13_opening_next.main.body.getD i (.Pass ⟨0, 0, 0, 0⟩)
def subS (c : Stmt) (j : Nat) : Stmt := match c with
  | .ClassDef _ _ _ b _ _ _ _ _ _ _ => b.getD j (.Pass ⟨0, 0, 0, 0⟩)
  | _ => .Pass ⟨0, 0, 0, 0⟩
abbrev s_bits : Stmt := topS 1
abbrev s_all_bits : Stmt := topS 2
abbrev s_number_of : Stmt := topS 3
abbrev s_xor : Stmt := topS 4
abbrev s_parity : Stmt := topS 5
abbrev s_is_whole : Stmt := topS 13
abbrev s_are_rows : Stmt := topS 14
abbrev s_is_generator : Stmt := topS 15
abbrev s_is_function : Stmt := topS 16
abbrev s_put_out : Stmt := topS 17
abbrev s_go_down : Stmt := topS 18
abbrev s_are_numbers : Stmt := topS 26
abbrev s_fits_longer : Stmt := topS 27
abbrev s_fits_tree : Stmt := topS 28
abbrev s_fits_opening : Stmt := topS 29
abbrev s_fits_onetime : Stmt := topS 30
abbrev s_is_made : Stmt := topS 32
abbrev s_fits_kind : Stmt := topS 33
abbrev s_is_part : Stmt := topS 34
abbrev s_are_parts : Stmt := topS 35
abbrev s_looks_plain : Stmt := topS 36
abbrev s_directly_within : Stmt := topS 37
abbrev s_is_plain_breaker : Stmt := topS 38
abbrev s_check_breaker : Stmt := topS 39
abbrev s_message_of : Stmt := topS 41
abbrev s_hint : Stmt := topS 42
abbrev s_guess_of : Stmt := topS 43
abbrev s_places_of : Stmt := topS 44
abbrev s_wins_onetime : Stmt := topS 45
abbrev s_end : Stmt := topS 47
abbrev s_draw : Stmt := topS 48
abbrev s_draw_bits : Stmt := topS 49
abbrev s_draw_strings : Stmt := topS 50
abbrev s_ask : Stmt := topS 51
abbrev s_after : Stmt := topS 52
abbrev s_serve : Stmt := topS 53
abbrev s_told : Stmt := topS 54
abbrev s_no_answer : Stmt := topS 55
abbrev s_as_said : Stmt := topS 56
abbrev s_quiet : Stmt := topS 57
abbrev s_verdict : Stmt := topS 59
abbrev s_lead_longer : Stmt := topS 60
abbrev s_lead_tree : Stmt := topS 61
abbrev s_in_tree : Stmt := topS 62
abbrev s_lead_counter : Stmt := topS 63
abbrev s_lead_cut : Stmt := topS 64
abbrev s_lead_marks : Stmt := topS 65
abbrev s_lead_secrets : Stmt := topS 66
abbrev s_lead_once : Stmt := topS 67
abbrev s_lead_opening : Stmt := topS 68
abbrev s_lead_next : Stmt := topS 69
abbrev s_lead_guess : Stmt := topS 70
abbrev s_lead_onetime : Stmt := topS 71
abbrev s_lead_bit : Stmt := topS 72
abbrev s_lead_hard : Stmt := topS 73
abbrev s_guesses : Stmt := topS 74
abbrev s_pick : Stmt := topS 75
abbrev s_correlations : Stmt := topS 76
abbrev s_bit_of : Stmt := topS 79
abbrev s_made_of : Stmt := topS 80
abbrev s_run_plain : Stmt := topS 81
abbrev s_run : Stmt := topS 82
abbrev s_outcome : Stmt := topS 84
abbrev s_said_one : Stmt := topS 85
abbrev s_guesses_bit : Stmt := topS 86
abbrev s_draw_row : Stmt := topS 87
abbrev s_draw_function : Stmt := topS 88
abbrev s_any_function : Stmt := topS 89
abbrev s_value_at : Stmt := topS 90
abbrev s_function_answer : Stmt := topS 91
abbrev s_generator_game : Stmt := topS 92
abbrev s_function_game : Stmt := topS 93
abbrev s_permutation_game : Stmt := topS 94
abbrev s_swaps_game : Stmt := topS 95
abbrev s_swap : Stmt := topS 96
abbrev s_marks_game : Stmt := topS 97
abbrev s_secrets_game : Stmt := topS 98
abbrev s_hide_by : Stmt := topS 99
abbrev s_once_game : Stmt := topS 100
abbrev s_opening_game : Stmt := topS 101
abbrev s_next_game : Stmt := topS 102
abbrev s_inverse_game : Stmt := topS 103
abbrev s_onetime_game : Stmt := topS 104
abbrev s_hard_game : Stmt := topS 105
abbrev s_fits : Stmt := topS 110
abbrev s_check_game : Stmt := topS 111
abbrev s_contest : Stmt := topS 112
abbrev s_init_Play : Stmt := subS (topS 113) 0
abbrev s_play : Stmt := topS 114
abbrev s_law_draws : Stmt := topS 116
abbrev s_law_take : Stmt := topS 117
abbrev s_law_string : Stmt := topS 118
abbrev s_law_parts : Stmt := topS 119
abbrev s_law_breaker : Stmt := topS 120
abbrev s_law_table : Stmt := topS 121
abbrev s_law_made : Stmt := topS 122
abbrev s_law_bits : Stmt := topS 123
abbrev s_law_choice : Stmt := topS 124
abbrev s_law_any : Stmt := topS 125
abbrev s_law_xor : Stmt := topS 126
abbrev s_law_row : Stmt := topS 127
abbrev s_law_start : Stmt := topS 128
abbrev s_law_reply : Stmt := topS 129
abbrev s_law_end : Stmt := topS 130
abbrev s_law_run : Stmt := topS 131
abbrev s_law_same_play : Stmt := topS 132
abbrev s_law_is_played : Stmt := topS 133
abbrev s_law_asked : Stmt := topS 134
abbrev s_law : Stmt := topS 135
theorem sc_bits : FnScope ["length", "number"] ["length", "number"] (defScope s_bits) := ⟨rfl, rfl, rfl, by decide +kernel, rfl, by decide +kernel, by decide +kernel⟩
theorem sc_all_bits : FnScope ["length", "number"] ["length"] (defScope s_all_bits) := ⟨rfl, rfl, rfl, by decide +kernel, rfl, by decide +kernel, by decide +kernel⟩
theorem sc_number_of : FnScope ["string"] ["string"] (defScope s_number_of) := ⟨rfl, rfl, rfl, by decide +kernel, rfl, by decide +kernel, by decide +kernel⟩
theorem sc_xor : FnScope ["first", "second"] ["first", "second"] (defScope s_xor) := ⟨rfl, rfl, rfl, by decide +kernel, rfl, by decide +kernel, by decide +kernel⟩
theorem sc_parity : FnScope ["first", "second", "both"] ["first", "second"] (defScope s_parity) := ⟨rfl, rfl, rfl, by decide +kernel, rfl, by decide +kernel, by decide +kernel⟩
theorem sc_is_whole : FnScope ["value", "low", "high"] ["value", "low", "high"] (defScope s_is_whole) := ⟨rfl, rfl, rfl, by decide +kernel, rfl, by decide +kernel, by decide +kernel⟩
theorem sc_are_rows : FnScope ["value", "many", "m", "row"] ["value", "many", "m"] (defScope s_are_rows) := ⟨rfl, rfl, rfl, by decide +kernel, rfl, by decide +kernel, by decide +kernel⟩
theorem sc_is_generator : FnScope ["value", "kind", "n", "m", "rows"] ["value"] (defScope s_is_generator) := ⟨rfl, rfl, rfl, by decide +kernel, rfl, by decide +kernel, by decide +kernel⟩
theorem sc_is_function : FnScope ["value", "kind", "n", "l", "m", "tables", "rows"] ["value"] (defScope s_is_function) := ⟨rfl, rfl, rfl, by decide +kernel, rfl, by decide +kernel, by decide +kernel⟩
theorem sc_put_out : FnScope ["rows", "state", "k", "out", "_", "row"] ["rows", "state", "k"] (defScope s_put_out) := ⟨rfl, rfl, rfl, by decide +kernel, rfl, by decide +kernel, by decide +kernel⟩
theorem sc_go_down : FnScope ["rows", "label", "path", "n", "bit", "row"] ["rows", "label", "path"] (defScope s_go_down) := ⟨rfl, rfl, rfl, by decide +kernel, rfl, by decide +kernel, by decide +kernel⟩
theorem sc_are_numbers : FnScope ["own", "bounds", "value", "low", "high"] ["own", "bounds"] (defScope s_are_numbers) := ⟨rfl, rfl, rfl, by decide +kernel, rfl, by decide +kernel, by decide +kernel⟩
theorem sc_fits_longer : FnScope ["own", "n", "m"] ["own"] (defScope s_fits_longer) := ⟨rfl, rfl, rfl, by decide +kernel, rfl, by decide +kernel, by decide +kernel⟩
theorem sc_fits_tree : FnScope ["own", "n", "m"] ["own"] (defScope s_fits_tree) := ⟨rfl, rfl, rfl, by decide +kernel, rfl, by decide +kernel, by decide +kernel⟩
theorem sc_fits_opening : FnScope ["own"] ["own"] (defScope s_fits_opening) := ⟨rfl, rfl, rfl, by decide +kernel, rfl, by decide +kernel, by decide +kernel⟩
theorem sc_fits_onetime : FnScope ["own"] ["own"] (defScope s_fits_onetime) := ⟨rfl, rfl, rfl, by decide +kernel, rfl, by decide +kernel, by decide +kernel⟩
theorem sc_is_made : FnScope ["value"] ["value"] (defScope s_is_made) := ⟨rfl, rfl, rfl, by decide +kernel, rfl, by decide +kernel, by decide +kernel⟩
theorem sc_fits_kind : FnScope ["made", "kind", "own", "fits"] ["made"] (defScope s_fits_kind) := ⟨rfl, rfl, rfl, by decide +kernel, rfl, by decide +kernel, by decide +kernel⟩
theorem sc_is_part : FnScope ["value"] ["value"] (defScope s_is_part) := ⟨rfl, rfl, rfl, by decide +kernel, rfl, by decide +kernel, by decide +kernel⟩
theorem sc_are_parts : FnScope ["value", "part"] ["value"] (defScope s_are_parts) := ⟨rfl, rfl, rfl, by decide +kernel, rfl, by decide +kernel, by decide +kernel⟩
theorem sc_looks_plain : FnScope ["value", "kind", "many"] ["value"] (defScope s_looks_plain) := ⟨rfl, rfl, rfl, by decide +kernel, rfl, by decide +kernel, by decide +kernel⟩
theorem sc_directly_within : FnScope ["plain"] ["plain"] (defScope s_directly_within) := ⟨rfl, rfl, rfl, by decide +kernel, rfl, by decide +kernel, by decide +kernel⟩
theorem sc_is_plain_breaker : FnScope ["value", "waiting", "many", "part", "depth", "inner"] ["value"] (defScope s_is_plain_breaker) := ⟨rfl, rfl, rfl, by decide +kernel, rfl, by decide +kernel, by decide +kernel⟩
theorem sc_check_breaker : FnScope ["breaker", "inner", "depth"] ["breaker"] (defScope s_check_breaker) := ⟨rfl, rfl, rfl, by decide +kernel, rfl, by decide +kernel, by decide +kernel⟩
theorem sc_message_of : FnScope ["string", "b", "half"] ["string", "b"] (defScope s_message_of) := ⟨rfl, rfl, rfl, by decide +kernel, rfl, by decide +kernel, by decide +kernel⟩
theorem sc_hint : FnScope ["row", "place"] ["row", "place"] (defScope s_hint) := ⟨rfl, rfl, rfl, by decide +kernel, rfl, by decide +kernel, by decide +kernel⟩
theorem sc_guess_of : FnScope ["said"] ["said"] (defScope s_guess_of) := ⟨rfl, rfl, rfl, by decide +kernel, rfl, by decide +kernel, by decide +kernel⟩
theorem sc_places_of : FnScope ["message", "i", "bit"] ["message"] (defScope s_places_of) := ⟨rfl, rfl, rfl, by decide +kernel, rfl, by decide +kernel, by decide +kernel⟩
theorem sc_wins_onetime : FnScope ["block", "shown", "answered", "said", "_", "n", "rows", "l", "message", "i", "place", "start"] ["block", "shown", "answered", "said"] (defScope s_wins_onetime) := ⟨rfl, rfl, rfl, by decide +kernel, rfl, by decide +kernel, by decide +kernel⟩
theorem sc_end : FnScope ["value"] ["value"] (defScope s_end) := ⟨rfl, rfl, rfl, by decide +kernel, rfl, by decide +kernel, by decide +kernel⟩
theorem sc_draw : FnScope ["many", "then"] ["many", "then"] (defScope s_draw) := ⟨rfl, rfl, rfl, by decide +kernel, rfl, by decide +kernel, by decide +kernel⟩
theorem sc_draw_bits : FnScope ["length", "then"] ["length", "then"] (defScope s_draw_bits) := ⟨rfl, rfl, rfl, by decide +kernel, rfl, by decide +kernel, by decide +kernel⟩
theorem sc_draw_strings : FnScope ["length", "many", "drawn", "then"] ["length", "many", "drawn", "then"] (defScope s_draw_strings) := ⟨rfl, rfl, rfl, by decide +kernel, rfl, by decide +kernel, by decide +kernel⟩
theorem sc_ask : FnScope ["string", "then"] ["string", "then"] (defScope s_ask) := ⟨rfl, rfl, rfl, by decide +kernel, rfl, by decide +kernel, by decide +kernel⟩
theorem sc_after : FnScope ["process", "onward", "kind", "what", "then"] ["process", "onward"] (defScope s_after) := ⟨rfl, rfl, rfl, by decide +kernel, rfl, by decide +kernel, by decide +kernel⟩
theorem sc_serve : FnScope ["process", "state", "answer", "finish", "_", "string", "then", "served", "reply", "kind", "what", "follow"] ["process", "state", "answer", "finish"] (defScope s_serve) := ⟨rfl, rfl, rfl, by decide +kernel, rfl, by decide +kernel, by decide +kernel⟩
theorem sc_told : FnScope ["then", "reply"] ["then", "reply"] (defScope s_told) := ⟨rfl, rfl, rfl, by decide +kernel, rfl, by decide +kernel, by decide +kernel⟩
theorem sc_no_answer : FnScope ["state", "_"] ["state", "_"] (defScope s_no_answer) := ⟨rfl, rfl, rfl, by decide +kernel, rfl, by decide +kernel, by decide +kernel⟩
theorem sc_as_said : FnScope ["_", "said"] ["_", "said"] (defScope s_as_said) := ⟨rfl, rfl, rfl, by decide +kernel, rfl, by decide +kernel, by decide +kernel⟩
theorem sc_quiet : FnScope ["process"] ["process"] (defScope s_quiet) := ⟨rfl, rfl, rfl, by decide +kernel, rfl, by decide +kernel, by decide +kernel⟩
theorem sc_verdict : FnScope ["said", "b"] ["said", "b"] (defScope s_verdict) := ⟨rfl, rfl, rfl, by decide +kernel, rfl, by decide +kernel, by decide +kernel⟩
theorem sc_lead_longer : FnScope ["own", "begin", "challenge", "block", "k", "n", "rows", "state", "last", "with_place"] ["own", "begin", "challenge"] (defScope s_lead_longer) := ⟨rfl, rfl, rfl, by decide +kernel, rfl, by decide +kernel, by decide +kernel⟩
theorem sc_lead_tree : FnScope ["own", "begin", "challenge", "block", "d", "q", "places", "with_place", "j", "t"] ["own", "begin", "challenge"] (defScope s_lead_tree) := ⟨rfl, rfl, rfl, by decide +kernel, rfl, by decide +kernel, by decide +kernel⟩
theorem sc_in_tree : FnScope ["block", "d", "place", "inner", "_", "n", "rows", "j", "t", "row", "answer"] ["block", "d", "place", "inner"] (defScope s_in_tree) := ⟨rfl, rfl, rfl, by decide +kernel, rfl, by decide +kernel, by decide +kernel⟩
theorem sc_lead_counter : FnScope ["own", "begin", "challenge", "l", "c", "_", "with_answers"] ["own", "begin", "challenge"] (defScope s_lead_counter) := ⟨rfl, rfl, rfl, by decide +kernel, rfl, by decide +kernel, by decide +kernel⟩
theorem sc_lead_cut : FnScope ["own", "begin", "challenge"] ["own", "begin", "challenge"] (defScope s_lead_cut) := ⟨rfl, rfl, rfl, by decide +kernel, rfl, by decide +kernel, by decide +kernel⟩
theorem sc_lead_marks : FnScope ["own", "begin", "challenge", "l", "m", "answer", "finish"] ["own", "begin", "challenge"] (defScope s_lead_marks) := ⟨rfl, rfl, rfl, by decide +kernel, rfl, by decide +kernel, by decide +kernel⟩
theorem sc_lead_secrets : FnScope ["own", "begin", "challenge", "l", "m", "with_bit"] ["own", "begin", "challenge"] (defScope s_lead_secrets) := ⟨rfl, rfl, rfl, by decide +kernel, rfl, by decide +kernel, by decide +kernel⟩
theorem sc_lead_once : FnScope ["own", "begin", "challenge", "m", "with_bit"] ["own", "begin", "challenge"] (defScope s_lead_once) := ⟨rfl, rfl, rfl, by decide +kernel, rfl, by decide +kernel, by decide +kernel⟩
theorem sc_lead_opening : FnScope ["own", "begin", "challenge", "r", "with_bit"] ["own", "begin", "challenge"] (defScope s_lead_opening) := ⟨rfl, rfl, rfl, by decide +kernel, rfl, by decide +kernel, by decide +kernel⟩
theorem sc_lead_next : FnScope ["own", "begin", "challenge", "m", "known", "with_rest"] ["own", "begin", "challenge"] (defScope s_lead_next) := ⟨rfl, rfl, rfl, by decide +kernel, rfl, by decide +kernel, by decide +kernel⟩
theorem sc_lead_guess : FnScope ["own", "begin", "challenge", "m", "with_place"] ["own", "begin", "challenge"] (defScope s_lead_guess) := ⟨rfl, rfl, rfl, by decide +kernel, rfl, by decide +kernel, by decide +kernel⟩
theorem sc_lead_onetime : FnScope ["own", "begin", "challenge", "block", "l", "_", "n", "rows", "with_place", "with_strings"] ["own", "begin", "challenge"] (defScope s_lead_onetime) := ⟨rfl, rfl, rfl, by decide +kernel, rfl, by decide +kernel, by decide +kernel⟩
theorem sc_lead_bit : FnScope ["own", "begin", "challenge"] ["own", "begin", "challenge"] (defScope s_lead_bit) := ⟨rfl, rfl, rfl, by decide +kernel, rfl, by decide +kernel, by decide +kernel⟩
theorem sc_lead_hard : FnScope ["own", "begin", "challenge", "n", "begun"] ["own", "begin", "challenge"] (defScope s_lead_hard) := ⟨rfl, rfl, rfl, by decide +kernel, rfl, by decide +kernel, by decide +kernel⟩
theorem sc_guesses : FnScope ["begun", "many", "found", "process", "_", "ways", "then"] ["begun", "many", "found", "process"] (defScope s_guesses) := ⟨rfl, rfl, rfl, by decide +kernel, rfl, by decide +kernel, by decide +kernel⟩
theorem sc_pick : FnScope ["n", "found", "squares", "owners", "worth", "guess", "x", "square", "_"] ["n", "found"] (defScope s_pick) := ⟨rfl, rfl, rfl, by decide +kernel, rfl, by decide +kernel, by decide +kernel⟩
theorem sc_correlations : FnScope ["signs", "half", "low", "high", "a", "b"] ["signs"] (defScope s_correlations) := ⟨rfl, rfl, rfl, by decide +kernel, rfl, by decide +kernel, by decide +kernel⟩
theorem sc_bit_of : FnScope ["seen", "number"] ["seen", "number"] (defScope s_bit_of) := ⟨rfl, rfl, rfl, by decide +kernel, rfl, by decide +kernel, by decide +kernel⟩
theorem sc_made_of : FnScope ["parts", "seen", "part"] ["parts", "seen"] (defScope s_made_of) := ⟨rfl, rfl, rfl, by decide +kernel, rfl, by decide +kernel, by decide +kernel⟩
theorem sc_run_plain : FnScope ["breaker", "seen", "_", "number", "first", "second", "tossed", "follower"] ["breaker", "seen"] (defScope s_run_plain) := ⟨rfl, rfl, rfl, by decide +kernel, rfl, by decide +kernel, by decide +kernel⟩
theorem sc_run : FnScope ["breaker", "challenge", "lead", "inner"] ["breaker", "challenge"] (defScope s_run) := ⟨rfl, rfl, rfl, by decide +kernel, rfl, by decide +kernel, by decide +kernel⟩
theorem sc_outcome : FnScope ["won"] ["won"] (defScope s_outcome) := ⟨rfl, rfl, rfl, by decide +kernel, rfl, by decide +kernel, by decide +kernel⟩
theorem sc_said_one : FnScope ["state", "asked", "said"] ["state", "asked", "said"] (defScope s_said_one) := ⟨rfl, rfl, rfl, by decide +kernel, rfl, by decide +kernel, by decide +kernel⟩
theorem sc_guesses_bit : FnScope ["bit"] ["bit"] (defScope s_guesses_bit) := ⟨rfl, rfl, rfl, by decide +kernel, rfl, by decide +kernel, by decide +kernel⟩
theorem sc_draw_row : FnScope ["block", "real", "then", "_", "n", "m", "rows"] ["block", "real", "then"] (defScope s_draw_row) := ⟨rfl, rfl, rfl, by decide +kernel, rfl, by decide +kernel, by decide +kernel⟩
theorem sc_draw_function : FnScope ["block", "real", "then", "_", "n", "l", "m", "tables"] ["block", "real", "then"] (defScope s_draw_function) := ⟨rfl, rfl, rfl, by decide +kernel, rfl, by decide +kernel, by decide +kernel⟩
theorem sc_any_function : FnScope ["l", "m"] ["l", "m"] (defScope s_any_function) := ⟨rfl, rfl, rfl, by decide +kernel, rfl, by decide +kernel, by decide +kernel⟩
theorem sc_value_at : FnScope ["function", "x", "l", "m", "values", "known"] ["function", "x"] (defScope s_value_at) := ⟨rfl, rfl, rfl, by decide +kernel, rfl, by decide +kernel, by decide +kernel⟩
theorem sc_function_answer : FnScope ["function", "string"] ["function", "string"] (defScope s_function_answer) := ⟨rfl, rfl, rfl, by decide +kernel, rfl, by decide +kernel, by decide +kernel⟩
theorem sc_generator_game : FnScope ["parts", "meet", "block", "real"] ["parts", "meet"] (defScope s_generator_game) := ⟨rfl, rfl, rfl, by decide +kernel, rfl, by decide +kernel, by decide +kernel⟩
theorem sc_function_game : FnScope ["parts", "meet", "block", "real"] ["parts", "meet"] (defScope s_function_game) := ⟨rfl, rfl, rfl, by decide +kernel, rfl, by decide +kernel, by decide +kernel⟩
theorem sc_permutation_game : FnScope ["parts", "meet", "l", "answer"] ["parts", "meet"] (defScope s_permutation_game) := ⟨rfl, rfl, rfl, by decide +kernel, rfl, by decide +kernel, by decide +kernel⟩
theorem sc_swaps_game : FnScope ["parts", "meet", "h", "rounds", "answer"] ["parts", "meet"] (defScope s_swaps_game) := ⟨rfl, rfl, rfl, by decide +kernel, rfl, by decide +kernel, by decide +kernel⟩
theorem sc_swap : FnScope ["functions", "at", "left", "right", "swapped"] ["functions", "at", "left", "right"] (defScope s_swap) := ⟨rfl, rfl, rfl, by decide +kernel, rfl, by decide +kernel, by decide +kernel⟩
theorem sc_marks_game : FnScope ["parts", "meet", "block", "real", "judge"] ["parts", "meet"] (defScope s_marks_game) := ⟨rfl, rfl, rfl, by decide +kernel, rfl, by decide +kernel, by decide +kernel⟩
theorem sc_secrets_game : FnScope ["parts", "meet", "block", "real", "b"] ["parts", "meet"] (defScope s_secrets_game) := ⟨rfl, rfl, rfl, by decide +kernel, rfl, by decide +kernel, by decide +kernel⟩
theorem sc_hide_by : FnScope ["b", "answer"] ["b"] (defScope s_hide_by) := ⟨rfl, rfl, rfl, by decide +kernel, rfl, by decide +kernel, by decide +kernel⟩
theorem sc_once_game : FnScope ["parts", "meet", "block", "real", "b", "m", "answer"] ["parts", "meet"] (defScope s_once_game) := ⟨rfl, rfl, rfl, by decide +kernel, rfl, by decide +kernel, by decide +kernel⟩
theorem sc_opening_game : FnScope ["parts", "meet", "block", "r", "real", "b", "with_row"] ["parts", "meet"] (defScope s_opening_game) := ⟨rfl, rfl, rfl, by decide +kernel, rfl, by decide +kernel, by decide +kernel⟩
theorem sc_next_game : FnScope ["parts", "meet", "block", "real", "with_place"] ["parts", "meet"] (defScope s_next_game) := ⟨rfl, rfl, rfl, by decide +kernel, rfl, by decide +kernel, by decide +kernel⟩
theorem sc_inverse_game : FnScope ["parts", "meet", "_", "n", "rows", "with_row"] ["parts", "meet"] (defScope s_inverse_game) := ⟨rfl, rfl, rfl, by decide +kernel, rfl, by decide +kernel, by decide +kernel⟩
theorem sc_onetime_game : FnScope ["parts", "meet", "block", "l", "_", "n", "rows", "answer_with", "with_strings"] ["parts", "meet"] (defScope s_onetime_game) := ⟨rfl, rfl, rfl, by decide +kernel, rfl, by decide +kernel, by decide +kernel⟩
theorem sc_hard_game : FnScope ["parts", "meet", "_", "n", "rows", "with_strings"] ["parts", "meet"] (defScope s_hard_game) := ⟨rfl, rfl, rfl, by decide +kernel, rfl, by decide +kernel, by decide +kernel⟩
theorem sc_fits : FnScope ["value", "told", "game", "low", "high"] ["value", "told", "game"] (defScope s_fits) := ⟨rfl, rfl, rfl, by decide +kernel, rfl, by decide +kernel, by decide +kernel⟩
theorem sc_check_game : FnScope ["game", "parts", "value", "told"] ["game"] (defScope s_check_game) := ⟨rfl, rfl, rfl, by decide +kernel, rfl, by decide +kernel, by decide +kernel⟩
theorem sc_contest : FnScope ["game", "breaker", "lead", "meet"] ["game", "breaker"] (defScope s_contest) := ⟨rfl, rfl, rfl, by decide +kernel, rfl, by decide +kernel, by decide +kernel⟩
theorem sc_init_Play : FnScope ["self", "outcome", "said", "draws", "asked"] ["self", "outcome", "said", "draws", "asked"] (defScope s_init_Play) := ⟨rfl, rfl, rfl, by decide +kernel, rfl, by decide +kernel, by decide +kernel⟩
theorem sc_play : FnScope ["game", "breaker", "choices", "draws", "process", "_", "many", "then", "choice", "outcome", "said", "asked"] ["game", "breaker", "choices"] (defScope s_play) := ⟨rfl, rfl, rfl, by decide +kernel, rfl, by decide +kernel, by decide +kernel⟩
theorem sc_law_draws : FnScope ["script", "many", "rests", "draws", "k", "cell", "at", "mixed"] ["script", "many"] (defScope s_law_draws) := ⟨rfl, rfl, rfl, by decide +kernel, rfl, by decide +kernel, by decide +kernel⟩
theorem sc_law_take : FnScope ["hand", "many", "at", "draws"] ["hand", "many"] (defScope s_law_take) := ⟨rfl, rfl, rfl, by decide +kernel, rfl, by decide +kernel, by decide +kernel⟩
theorem sc_law_string : FnScope ["hand", "length", "k"] ["hand", "length"] (defScope s_law_string) := ⟨rfl, rfl, rfl, by decide +kernel, rfl, by decide +kernel, by decide +kernel⟩
theorem sc_law_parts : FnScope ["hand", "length", "found", "k", "kind"] ["hand", "length"] (defScope s_law_parts) := ⟨rfl, rfl, rfl, by decide +kernel, rfl, by decide +kernel, by decide +kernel⟩
theorem sc_law_breaker : FnScope ["hand", "depth", "asks", "length", "said", "kind", "size", "first", "many", "k"] ["hand", "depth", "asks", "length", "said"] (defScope s_law_breaker) := ⟨rfl, rfl, rfl, by decide +kernel, rfl, by decide +kernel, by decide +kernel⟩
theorem sc_law_table : FnScope ["hand", "n", "m", "rows", "k"] ["hand", "n", "m"] (defScope s_law_table) := ⟨rfl, rfl, rfl, by decide +kernel, rfl, by decide +kernel, by decide +kernel⟩
theorem sc_law_made : FnScope ["parts", "handed", "found", "part"] ["parts", "handed"] (defScope s_law_made) := ⟨rfl, rfl, rfl, by decide +kernel, rfl, by decide +kernel, by decide +kernel⟩
theorem sc_law_bits : FnScope ["length", "number", "found", "k"] ["length", "number"] (defScope s_law_bits) := ⟨rfl, rfl, rfl, by decide +kernel, rfl, by decide +kernel, by decide +kernel⟩
theorem sc_law_choice : FnScope ["state", "many", "choice"] ["state", "many"] (defScope s_law_choice) := ⟨rfl, rfl, rfl, by decide +kernel, rfl, by decide +kernel, by decide +kernel⟩
theorem sc_law_any : FnScope ["state", "length"] ["state", "length"] (defScope s_law_any) := ⟨rfl, rfl, rfl, by decide +kernel, rfl, by decide +kernel, by decide +kernel⟩
theorem sc_law_xor : FnScope ["first", "second", "k"] ["first", "second"] (defScope s_law_xor) := ⟨rfl, rfl, rfl, by decide +kernel, rfl, by decide +kernel, by decide +kernel⟩
theorem sc_law_row : FnScope ["state", "table", "real"] ["state", "table", "real"] (defScope s_law_row) := ⟨rfl, rfl, rfl, by decide +kernel, rfl, by decide +kernel, by decide +kernel⟩
theorem sc_law_start : FnScope ["game", "state", "found"] ["game", "state"] (defScope s_law_start) := ⟨rfl, rfl, rfl, by decide +kernel, rfl, by decide +kernel, by decide +kernel⟩
theorem sc_law_reply : FnScope ["game", "state", "ask_v"] ["game", "state", "ask_v"] (defScope s_law_reply) := ⟨rfl, rfl, rfl, by decide +kernel, rfl, by decide +kernel, by decide +kernel⟩
theorem sc_law_end : FnScope ["game", "state", "said"] ["game", "state", "said"] (defScope s_law_end) := ⟨rfl, rfl, rfl, by decide +kernel, rfl, by decide +kernel, by decide +kernel⟩
theorem sc_law_run : FnScope ["game", "breaker", "row", "state", "handed", "turn", "ask_v", "answer", "said"] ["game", "breaker", "row"] (defScope s_law_run) := ⟨rfl, rfl, rfl, by decide +kernel, rfl, by decide +kernel, by decide +kernel⟩
theorem sc_law_same_play : FnScope ["told_v", "due", "pair"] ["told_v", "due"] (defScope s_law_same_play) := ⟨rfl, rfl, rfl, by decide +kernel, rfl, by decide +kernel, by decide +kernel⟩
theorem sc_law_is_played : FnScope ["game", "breaker", "hand", "row", "due", "choices", "longer", "less", "part", "k", "pair"] ["game", "breaker", "hand"] (defScope s_law_is_played) := ⟨rfl, rfl, rfl, by decide +kernel, rfl, by decide +kernel, by decide +kernel⟩
theorem sc_law_asked : FnScope ["hand", "m", "table", "real", "breaker"] ["hand"] (defScope s_law_asked) := ⟨rfl, rfl, rfl, by decide +kernel, rfl, by decide +kernel, by decide +kernel⟩
theorem sc_law : FnScope ["script"] ["script"] (defScope s_law) := ⟨rfl, rfl, rfl, by decide +kernel, rfl, by decide +kernel, by decide +kernel⟩
theorem cj_draw_bits : ∀ j ∈ ([0, 1] : List Nat), ∀ x, (["length", "then"] : List Str)[j]? = some x → (defScope s_draw_bits).names.lookup x = some .cell := cellsO_by (by decide +kernel)
theorem cj_draw_strings : ∀ j ∈ ([0, 1, 2, 3] : List Nat), ∀ x, (["length", "many", "drawn", "then"] : List Str)[j]? = some x → (defScope s_draw_strings).names.lookup x = some .cell := cellsO_by (by decide +kernel)
theorem cj_after : ∀ j ∈ ([1, 4] : List Nat), ∀ x, (["process", "onward", "kind", "what", "then"] : List Str)[j]? = some x → (defScope s_after).names.lookup x = some .cell := cellsO_by (by decide +kernel)
theorem cj_serve : ∀ j ∈ ([1, 2, 3, 6, 11] : List Nat), ∀ x, (["process", "state", "answer", "finish", "_", "string", "then", "served", "reply", "kind", "what", "follow"] : List Str)[j]? = some x → (defScope s_serve).names.lookup x = some .cell := cellsO_by (by decide +kernel)
theorem cj_lead_longer : ∀ j ∈ ([1, 4, 6, 7, 8] : List Nat), ∀ x, (["own", "begin", "challenge", "block", "k", "n", "rows", "state", "last", "with_place"] : List Str)[j]? = some x → (defScope s_lead_longer).names.lookup x = some .cell := cellsO_by (by decide +kernel)
theorem cj_lead_tree : ∀ j ∈ ([1, 2, 3, 4, 5, 6] : List Nat), ∀ x, (["own", "begin", "challenge", "block", "d", "q", "places", "with_place", "j", "t"] : List Str)[j]? = some x → (defScope s_lead_tree).names.lookup x = some .cell := cellsO_by (by decide +kernel)
theorem cj_in_tree : ∀ j ∈ ([1, 5, 6, 7, 8, 9] : List Nat), ∀ x, (["block", "d", "place", "inner", "_", "n", "rows", "j", "t", "row", "answer"] : List Str)[j]? = some x → (defScope s_in_tree).names.lookup x = some .cell := cellsO_by (by decide +kernel)
theorem cj_lead_counter : ∀ j ∈ ([1, 3, 4, 6] : List Nat), ∀ x, (["own", "begin", "challenge", "l", "c", "_", "with_answers"] : List Str)[j]? = some x → (defScope s_lead_counter).names.lookup x = some .cell := cellsO_by (by decide +kernel)
theorem cj_lead_marks : ∀ j ∈ ([3, 4] : List Nat), ∀ x, (["own", "begin", "challenge", "l", "m", "answer", "finish"] : List Str)[j]? = some x → (defScope s_lead_marks).names.lookup x = some .cell := cellsO_by (by decide +kernel)
theorem cj_lead_secrets : ∀ j ∈ ([1, 3, 4] : List Nat), ∀ x, (["own", "begin", "challenge", "l", "m", "with_bit"] : List Str)[j]? = some x → (defScope s_lead_secrets).names.lookup x = some .cell := cellsO_by (by decide +kernel)
theorem cj_lead_once : ∀ j ∈ ([1, 2, 3] : List Nat), ∀ x, (["own", "begin", "challenge", "m", "with_bit"] : List Str)[j]? = some x → (defScope s_lead_once).names.lookup x = some .cell := cellsO_by (by decide +kernel)
theorem cj_lead_opening : ∀ j ∈ ([1, 2, 3] : List Nat), ∀ x, (["own", "begin", "challenge", "r", "with_bit"] : List Str)[j]? = some x → (defScope s_lead_opening).names.lookup x = some .cell := cellsO_by (by decide +kernel)
theorem cj_lead_next : ∀ j ∈ ([1, 4] : List Nat), ∀ x, (["own", "begin", "challenge", "m", "known", "with_rest"] : List Str)[j]? = some x → (defScope s_lead_next).names.lookup x = some .cell := cellsO_by (by decide +kernel)
theorem cj_lead_guess : ∀ j ∈ ([1, 2] : List Nat), ∀ x, (["own", "begin", "challenge", "m", "with_place"] : List Str)[j]? = some x → (defScope s_lead_guess).names.lookup x = some .cell := cellsO_by (by decide +kernel)
theorem cj_lead_onetime : ∀ j ∈ ([1, 2, 3, 4, 6, 7, 9] : List Nat), ∀ x, (["own", "begin", "challenge", "block", "l", "_", "n", "rows", "with_place", "with_strings"] : List Str)[j]? = some x → (defScope s_lead_onetime).names.lookup x = some .cell := cellsO_by (by decide +kernel)
theorem cj_lead_bit : ∀ j ∈ ([1, 2] : List Nat), ∀ x, (["own", "begin", "challenge"] : List Str)[j]? = some x → (defScope s_lead_bit).names.lookup x = some .cell := cellsO_by (by decide +kernel)
theorem cj_lead_hard : ∀ j ∈ ([1, 2, 3] : List Nat), ∀ x, (["own", "begin", "challenge", "n", "begun"] : List Str)[j]? = some x → (defScope s_lead_hard).names.lookup x = some .cell := cellsO_by (by decide +kernel)
theorem cj_guesses : ∀ j ∈ ([0, 1, 2, 6] : List Nat), ∀ x, (["begun", "many", "found", "process", "_", "ways", "then"] : List Str)[j]? = some x → (defScope s_guesses).names.lookup x = some .cell := cellsO_by (by decide +kernel)
theorem cj_pick : ∀ j ∈ ([0, 3] : List Nat), ∀ x, (["n", "found", "squares", "owners", "worth", "guess", "x", "square", "_"] : List Str)[j]? = some x → (defScope s_pick).names.lookup x = some .cell := cellsO_by (by decide +kernel)
theorem cj_run_plain : ∀ j ∈ ([1, 6, 7] : List Nat), ∀ x, (["breaker", "seen", "_", "number", "first", "second", "tossed", "follower"] : List Str)[j]? = some x → (defScope s_run_plain).names.lookup x = some .cell := cellsO_by (by decide +kernel)
theorem cj_run : ∀ j ∈ ([3] : List Nat), ∀ x, (["breaker", "challenge", "lead", "inner"] : List Str)[j]? = some x → (defScope s_run).names.lookup x = some .cell := cellsO_by (by decide +kernel)
theorem cj_guesses_bit : ∀ j ∈ ([0] : List Nat), ∀ x, (["bit"] : List Str)[j]? = some x → (defScope s_guesses_bit).names.lookup x = some .cell := cellsO_by (by decide +kernel)
theorem cj_draw_row : ∀ j ∈ ([2, 6] : List Nat), ∀ x, (["block", "real", "then", "_", "n", "m", "rows"] : List Str)[j]? = some x → (defScope s_draw_row).names.lookup x = some .cell := cellsO_by (by decide +kernel)
theorem cj_draw_function : ∀ j ∈ ([2, 5, 6, 7] : List Nat), ∀ x, (["block", "real", "then", "_", "n", "l", "m", "tables"] : List Str)[j]? = some x → (defScope s_draw_function).names.lookup x = some .cell := cellsO_by (by decide +kernel)
theorem cj_value_at : ∀ j ∈ ([1, 2, 3, 4, 5] : List Nat), ∀ x, (["function", "x", "l", "m", "values", "known"] : List Str)[j]? = some x → (defScope s_value_at).names.lookup x = some .cell := cellsO_by (by decide +kernel)
theorem cj_generator_game : ∀ j ∈ ([1] : List Nat), ∀ x, (["parts", "meet", "block", "real"] : List Str)[j]? = some x → (defScope s_generator_game).names.lookup x = some .cell := cellsO_by (by decide +kernel)
theorem cj_function_game : ∀ j ∈ ([1] : List Nat), ∀ x, (["parts", "meet", "block", "real"] : List Str)[j]? = some x → (defScope s_function_game).names.lookup x = some .cell := cellsO_by (by decide +kernel)
theorem cj_permutation_game : ∀ j ∈ ([2] : List Nat), ∀ x, (["parts", "meet", "l", "answer"] : List Str)[j]? = some x → (defScope s_permutation_game).names.lookup x = some .cell := cellsO_by (by decide +kernel)
theorem cj_swaps_game : ∀ j ∈ ([2] : List Nat), ∀ x, (["parts", "meet", "h", "rounds", "answer"] : List Str)[j]? = some x → (defScope s_swaps_game).names.lookup x = some .cell := cellsO_by (by decide +kernel)
theorem cj_swap : ∀ j ∈ ([0, 1, 2, 3] : List Nat), ∀ x, (["functions", "at", "left", "right", "swapped"] : List Str)[j]? = some x → (defScope s_swap).names.lookup x = some .cell := cellsO_by (by decide +kernel)
theorem cj_marks_game : ∀ j ∈ ([1, 4] : List Nat), ∀ x, (["parts", "meet", "block", "real", "judge"] : List Str)[j]? = some x → (defScope s_marks_game).names.lookup x = some .cell := cellsO_by (by decide +kernel)
theorem cj_secrets_game : ∀ j ∈ ([1, 4] : List Nat), ∀ x, (["parts", "meet", "block", "real", "b"] : List Str)[j]? = some x → (defScope s_secrets_game).names.lookup x = some .cell := cellsO_by (by decide +kernel)
theorem cj_hide_by : ∀ j ∈ ([0] : List Nat), ∀ x, (["b", "answer"] : List Str)[j]? = some x → (defScope s_hide_by).names.lookup x = some .cell := cellsO_by (by decide +kernel)
theorem cj_once_game : ∀ j ∈ ([1, 4, 5, 6] : List Nat), ∀ x, (["parts", "meet", "block", "real", "b", "m", "answer"] : List Str)[j]? = some x → (defScope s_once_game).names.lookup x = some .cell := cellsO_by (by decide +kernel)
theorem cj_opening_game : ∀ j ∈ ([1, 3, 5] : List Nat), ∀ x, (["parts", "meet", "block", "r", "real", "b", "with_row"] : List Str)[j]? = some x → (defScope s_opening_game).names.lookup x = some .cell := cellsO_by (by decide +kernel)
theorem cj_next_game : ∀ j ∈ ([1, 2, 3] : List Nat), ∀ x, (["parts", "meet", "block", "real", "with_place"] : List Str)[j]? = some x → (defScope s_next_game).names.lookup x = some .cell := cellsO_by (by decide +kernel)
theorem cj_inverse_game : ∀ j ∈ ([1, 3, 4] : List Nat), ∀ x, (["parts", "meet", "_", "n", "rows", "with_row"] : List Str)[j]? = some x → (defScope s_inverse_game).names.lookup x = some .cell := cellsO_by (by decide +kernel)
theorem cj_onetime_game : ∀ j ∈ ([1, 2, 3, 6, 7] : List Nat), ∀ x, (["parts", "meet", "block", "l", "_", "n", "rows", "answer_with", "with_strings"] : List Str)[j]? = some x → (defScope s_onetime_game).names.lookup x = some .cell := cellsO_by (by decide +kernel)
theorem cj_hard_game : ∀ j ∈ ([1, 4] : List Nat), ∀ x, (["parts", "meet", "_", "n", "rows", "with_strings"] : List Str)[j]? = some x → (defScope s_hard_game).names.lookup x = some .cell := cellsO_by (by decide +kernel)
theorem cj_contest : ∀ j ∈ ([1] : List Nat), ∀ x, (["game", "breaker", "lead", "meet"] : List Str)[j]? = some x → (defScope s_contest).names.lookup x = some .cell := cellsO_by (by decide +kernel)
abbrev n_draw_bits__l0 : Expr := (argE (retE (nthS (defBody s_draw_bits) 0)) 1)
theorem fs_draw_bits__l0 : FScope ["number", "then", "length"] ["number"] ["then", "length"] (lamSc n_draw_bits__l0) := fscope_by (by decide +kernel)
theorem fr_draw_bits__l0 : ∀ y ∈ (lamSc n_draw_bits__l0).names, y.2 = .free → (defScope s_draw_bits).names.lookup y.1 = some .cell ∨ (defScope s_draw_bits).names.lookup y.1 = some .free := by decide +kernel
theorem cj_draw_bits__l0 : ∀ j ∈ ([1, 2] : List Nat), ∀ x, (["number", "then", "length"] : List Str)[j]? = some x → (lamSc n_draw_bits__l0).names.lookup x = some .cell ∨ (lamSc n_draw_bits__l0).names.lookup x = some .free := cellsJ_by (by decide +kernel)
abbrev n_draw_strings__l0 : Expr := (argE (retE (nthS (defBody s_draw_strings) 1)) 1)
theorem fs_draw_strings__l0 : FScope ["string", "length", "many", "drawn", "then"] ["string"] ["length", "many", "drawn", "then"] (lamSc n_draw_strings__l0) := fscope_by (by decide +kernel)
theorem fr_draw_strings__l0 : ∀ y ∈ (lamSc n_draw_strings__l0).names, y.2 = .free → (defScope s_draw_strings).names.lookup y.1 = some .cell ∨ (defScope s_draw_strings).names.lookup y.1 = some .free := by decide +kernel
theorem cj_draw_strings__l0 : ∀ j ∈ ([1, 2, 3, 4] : List Nat), ∀ x, (["string", "length", "many", "drawn", "then"] : List Str)[j]? = some x → (lamSc n_draw_strings__l0).names.lookup x = some .cell ∨ (lamSc n_draw_strings__l0).names.lookup x = some .free := cellsJ_by (by decide +kernel)
abbrev n_after__l0 : Expr := (tupE (retE (nthS (defBody s_after) 2)) 2)
theorem fs_after__l0 : FScope ["reply", "then", "onward"] ["reply"] ["then", "onward"] (lamSc n_after__l0) := fscope_by (by decide +kernel)
theorem fr_after__l0 : ∀ y ∈ (lamSc n_after__l0).names, y.2 = .free → (defScope s_after).names.lookup y.1 = some .cell ∨ (defScope s_after).names.lookup y.1 = some .free := by decide +kernel
theorem cj_after__l0 : ∀ j ∈ ([1, 2] : List Nat), ∀ x, (["reply", "then", "onward"] : List Str)[j]? = some x → (lamSc n_after__l0).names.lookup x = some .cell ∨ (lamSc n_after__l0).names.lookup x = some .free := cellsJ_by (by decide +kernel)
abbrev n_serve__l0 : Expr := (argE (retE (nthS (thenS (nthS (loopS (nthS (defBody s_serve) 0)) 2)) 0)) 1)
theorem fs_serve__l0 : FScope ["given", "then", "answer", "finish"] ["given"] ["then", "answer", "finish"] (lamSc n_serve__l0) := fscope_by (by decide +kernel)
theorem fr_serve__l0 : ∀ y ∈ (lamSc n_serve__l0).names, y.2 = .free → (defScope s_serve).names.lookup y.1 = some .cell ∨ (defScope s_serve).names.lookup y.1 = some .free := by decide +kernel
theorem cj_serve__l0 : ∀ j ∈ ([1, 2, 3] : List Nat), ∀ x, (["given", "then", "answer", "finish"] : List Str)[j]? = some x → (lamSc n_serve__l0).names.lookup x = some .cell ∨ (lamSc n_serve__l0).names.lookup x = some .free := cellsJ_by (by decide +kernel)
abbrev n_serve__l1 : Expr := (argE (retE (nthS (defBody s_serve) 3)) 1)
theorem fs_serve__l1 : FScope ["choice", "follow", "state", "answer", "finish"] ["choice"] ["follow", "state", "answer", "finish"] (lamSc n_serve__l1) := fscope_by (by decide +kernel)
theorem fr_serve__l1 : ∀ y ∈ (lamSc n_serve__l1).names, y.2 = .free → (defScope s_serve).names.lookup y.1 = some .cell ∨ (defScope s_serve).names.lookup y.1 = some .free := by decide +kernel
theorem cj_serve__l1 : ∀ j ∈ ([1, 2, 3, 4] : List Nat), ∀ x, (["choice", "follow", "state", "answer", "finish"] : List Str)[j]? = some x → (lamSc n_serve__l1).names.lookup x = some .cell ∨ (lamSc n_serve__l1).names.lookup x = some .free := cellsJ_by (by decide +kernel)
abbrev n_lead_longer__with_place : Stmt := (nthS (defBody s_lead_longer) 3)
theorem fs_lead_longer__with_place : FScope ["i", "rows", "state", "k", "begin", "last", "rest"] ["i"] ["rows", "state", "k", "begin", "last"] (defScope n_lead_longer__with_place) := fscope_by (by decide +kernel)
theorem fr_lead_longer__with_place : ∀ y ∈ (defScope n_lead_longer__with_place).names, y.2 = .free → (defScope s_lead_longer).names.lookup y.1 = some .cell ∨ (defScope s_lead_longer).names.lookup y.1 = some .free := by decide +kernel
theorem cj_lead_longer__with_place : ∀ j ∈ ([1, 2, 3, 4, 5, 6] : List Nat), ∀ x, (["i", "rows", "state", "k", "begin", "last", "rest"] : List Str)[j]? = some x → (defScope n_lead_longer__with_place).names.lookup x = some .cell ∨ (defScope n_lead_longer__with_place).names.lookup x = some .free := cellsJ_by (by decide +kernel)
abbrev n_lead_longer__with_place__l0 : Expr := (argE (retE (nthS (defBody (nthS (defBody s_lead_longer) 3)) 1)) 1)
theorem fs_lead_longer__with_place__l0 : FScope ["p", "begin", "last", "rest"] ["p"] ["begin", "last", "rest"] (lamSc n_lead_longer__with_place__l0) := fscope_by (by decide +kernel)
theorem fr_lead_longer__with_place__l0 : ∀ y ∈ (lamSc n_lead_longer__with_place__l0).names, y.2 = .free → (defScope n_lead_longer__with_place).names.lookup y.1 = some .cell ∨ (defScope n_lead_longer__with_place).names.lookup y.1 = some .free := by decide +kernel
theorem cj_lead_longer__with_place__l0 : ∀ j ∈ ([1, 2, 3] : List Nat), ∀ x, (["p", "begin", "last", "rest"] : List Str)[j]? = some x → (lamSc n_lead_longer__with_place__l0).names.lookup x = some .cell ∨ (lamSc n_lead_longer__with_place__l0).names.lookup x = some .free := cellsJ_by (by decide +kernel)
abbrev n_lead_tree__with_place : Stmt := (nthS (defBody s_lead_tree) 2)
theorem fs_lead_tree__with_place : FScope ["number", "places", "block", "d", "challenge", "begin", "j", "t"] ["number"] ["places", "block", "d", "challenge", "begin"] (defScope n_lead_tree__with_place) := fscope_by (by decide +kernel)
theorem fr_lead_tree__with_place : ∀ y ∈ (defScope n_lead_tree__with_place).names, y.2 = .free → (defScope s_lead_tree).names.lookup y.1 = some .cell ∨ (defScope s_lead_tree).names.lookup y.1 = some .free := by decide +kernel
theorem cj_lead_tree__with_place : ∀ j ∈ ([1, 2, 3, 4, 5] : List Nat), ∀ x, (["number", "places", "block", "d", "challenge", "begin", "j", "t"] : List Str)[j]? = some x → (defScope n_lead_tree__with_place).names.lookup x = some .cell ∨ (defScope n_lead_tree__with_place).names.lookup x = some .free := cellsJ_by (by decide +kernel)
abbrev n_in_tree__answer : Stmt := (nthS (defBody s_in_tree) 2)
theorem fs_in_tree__answer : FScope ["visited", "x", "d", "j", "n", "rows", "t", "row", "top", "with_labels"] ["visited", "x"] ["d", "j", "n", "rows", "t", "row"] (defScope n_in_tree__answer) := fscope_by (by decide +kernel)
theorem fr_in_tree__answer : ∀ y ∈ (defScope n_in_tree__answer).names, y.2 = .free → (defScope s_in_tree).names.lookup y.1 = some .cell ∨ (defScope s_in_tree).names.lookup y.1 = some .free := by decide +kernel
theorem cj_in_tree__answer : ∀ j ∈ ([0, 1, 2, 3, 4, 5, 6, 7, 8, 9] : List Nat), ∀ x, (["visited", "x", "d", "j", "n", "rows", "t", "row", "top", "with_labels"] : List Str)[j]? = some x → (defScope n_in_tree__answer).names.lookup x = some .cell ∨ (defScope n_in_tree__answer).names.lookup x = some .free := cellsJ_by (by decide +kernel)
abbrev n_in_tree__answer__with_labels : Stmt := (nthS (defBody (nthS (defBody s_in_tree) 2)) 2)
theorem fs_in_tree__answer__with_labels : FScope ["both", "x", "j", "n", "top", "visited", "rows", "label"] ["both"] ["x", "j", "n", "top", "visited", "rows"] (defScope n_in_tree__answer__with_labels) := fscope_by (by decide +kernel)
theorem fr_in_tree__answer__with_labels : ∀ y ∈ (defScope n_in_tree__answer__with_labels).names, y.2 = .free → (defScope n_in_tree__answer).names.lookup y.1 = some .cell ∨ (defScope n_in_tree__answer).names.lookup y.1 = some .free := by decide +kernel
theorem cj_in_tree__answer__with_labels : ∀ j ∈ ([1, 2, 3, 4, 5, 6] : List Nat), ∀ x, (["both", "x", "j", "n", "top", "visited", "rows", "label"] : List Str)[j]? = some x → (defScope n_in_tree__answer__with_labels).names.lookup x = some .cell ∨ (defScope n_in_tree__answer__with_labels).names.lookup x = some .free := cellsJ_by (by decide +kernel)
abbrev n_in_tree__answer__l0 : Expr := (argE (retE (nthS (defBody (nthS (defBody s_in_tree) 2)) 6)) 1)
theorem fs_in_tree__answer__l0 : FScope ["seed", "with_labels", "rows"] ["seed"] ["with_labels", "rows"] (lamSc n_in_tree__answer__l0) := fscope_by (by decide +kernel)
theorem fr_in_tree__answer__l0 : ∀ y ∈ (lamSc n_in_tree__answer__l0).names, y.2 = .free → (defScope n_in_tree__answer).names.lookup y.1 = some .cell ∨ (defScope n_in_tree__answer).names.lookup y.1 = some .free := by decide +kernel
theorem cj_in_tree__answer__l0 : ∀ j ∈ ([1, 2] : List Nat), ∀ x, (["seed", "with_labels", "rows"] : List Str)[j]? = some x → (lamSc n_in_tree__answer__l0).names.lookup x = some .cell ∨ (lamSc n_in_tree__answer__l0).names.lookup x = some .free := cellsJ_by (by decide +kernel)
abbrev n_in_tree__l0 : Expr := (argE (retE (nthS (defBody s_in_tree) 3)) 3)
theorem fs_in_tree__l0 : FScope ["visited", "said"] ["visited", "said"] [] (lamSc n_in_tree__l0) := fscope_by (by decide +kernel)
theorem fr_in_tree__l0 : ∀ y ∈ (lamSc n_in_tree__l0).names, y.2 = .free → (defScope s_in_tree).names.lookup y.1 = some .cell ∨ (defScope s_in_tree).names.lookup y.1 = some .free := by decide +kernel
theorem cj_in_tree__l0 : ∀ j ∈ ([] : List Nat), ∀ x, (["visited", "said"] : List Str)[j]? = some x → (lamSc n_in_tree__l0).names.lookup x = some .cell ∨ (lamSc n_in_tree__l0).names.lookup x = some .free := cellsJ_by (by decide +kernel)
abbrev n_lead_counter__with_answers : Stmt := (nthS (defBody s_lead_counter) 1)
theorem fs_lead_counter__with_answers : FScope ["number", "heard", "c", "begin", "l", "with_answers"] ["number", "heard"] ["c", "begin", "l", "with_answers"] (defScope n_lead_counter__with_answers) := fscope_by (by decide +kernel)
theorem fr_lead_counter__with_answers : ∀ y ∈ (defScope n_lead_counter__with_answers).names, y.2 = .free → (defScope s_lead_counter).names.lookup y.1 = some .cell ∨ (defScope s_lead_counter).names.lookup y.1 = some .free := by decide +kernel
theorem cj_lead_counter__with_answers : ∀ j ∈ ([0, 1, 2, 3, 4, 5] : List Nat), ∀ x, (["number", "heard", "c", "begin", "l", "with_answers"] : List Str)[j]? = some x → (defScope n_lead_counter__with_answers).names.lookup x = some .cell ∨ (defScope n_lead_counter__with_answers).names.lookup x = some .free := cellsJ_by (by decide +kernel)
abbrev n_lead_counter__with_answers__l0 : Expr := (argE (retE (nthS (defBody (nthS (defBody s_lead_counter) 1)) 1)) 1)
theorem fs_lead_counter__with_answers__l0 : FScope ["answer", "with_answers", "number", "heard"] ["answer"] ["with_answers", "number", "heard"] (lamSc n_lead_counter__with_answers__l0) := fscope_by (by decide +kernel)
theorem fr_lead_counter__with_answers__l0 : ∀ y ∈ (lamSc n_lead_counter__with_answers__l0).names, y.2 = .free → (defScope n_lead_counter__with_answers).names.lookup y.1 = some .cell ∨ (defScope n_lead_counter__with_answers).names.lookup y.1 = some .free := by decide +kernel
theorem cj_lead_counter__with_answers__l0 : ∀ j ∈ ([1, 2, 3] : List Nat), ∀ x, (["answer", "with_answers", "number", "heard"] : List Str)[j]? = some x → (lamSc n_lead_counter__with_answers__l0).names.lookup x = some .cell ∨ (lamSc n_lead_counter__with_answers__l0).names.lookup x = some .free := cellsJ_by (by decide +kernel)
abbrev n_lead_marks__answer : Stmt := (nthS (defBody s_lead_marks) 1)
theorem fs_lead_marks__answer : FScope ["asked", "string"] ["asked", "string"] [] (defScope n_lead_marks__answer) := fscope_by (by decide +kernel)
theorem fr_lead_marks__answer : ∀ y ∈ (defScope n_lead_marks__answer).names, y.2 = .free → (defScope s_lead_marks).names.lookup y.1 = some .cell ∨ (defScope s_lead_marks).names.lookup y.1 = some .free := by decide +kernel
theorem cj_lead_marks__answer : ∀ j ∈ ([0, 1] : List Nat), ∀ x, (["asked", "string"] : List Str)[j]? = some x → (defScope n_lead_marks__answer).names.lookup x = some .cell ∨ (defScope n_lead_marks__answer).names.lookup x = some .free := cellsJ_by (by decide +kernel)
abbrev n_lead_marks__answer__l0 : Expr := (argE (retE (nthS (defBody (nthS (defBody s_lead_marks) 1)) 0)) 1)
theorem fs_lead_marks__answer__l0 : FScope ["reply", "asked", "string"] ["reply"] ["asked", "string"] (lamSc n_lead_marks__answer__l0) := fscope_by (by decide +kernel)
theorem fr_lead_marks__answer__l0 : ∀ y ∈ (lamSc n_lead_marks__answer__l0).names, y.2 = .free → (defScope n_lead_marks__answer).names.lookup y.1 = some .cell ∨ (defScope n_lead_marks__answer).names.lookup y.1 = some .free := by decide +kernel
theorem cj_lead_marks__answer__l0 : ∀ j ∈ ([1, 2] : List Nat), ∀ x, (["reply", "asked", "string"] : List Str)[j]? = some x → (lamSc n_lead_marks__answer__l0).names.lookup x = some .cell ∨ (lamSc n_lead_marks__answer__l0).names.lookup x = some .free := cellsJ_by (by decide +kernel)
abbrev n_lead_marks__finish : Stmt := (nthS (defBody s_lead_marks) 2)
theorem fs_lead_marks__finish : FScope ["asked", "said", "l", "m", "x"] ["asked", "said"] ["l", "m"] (defScope n_lead_marks__finish) := fscope_by (by decide +kernel)
theorem fr_lead_marks__finish : ∀ y ∈ (defScope n_lead_marks__finish).names, y.2 = .free → (defScope s_lead_marks).names.lookup y.1 = some .cell ∨ (defScope s_lead_marks).names.lookup y.1 = some .free := by decide +kernel
theorem cj_lead_marks__finish : ∀ j ∈ ([1, 2, 3] : List Nat), ∀ x, (["asked", "said", "l", "m", "x"] : List Str)[j]? = some x → (defScope n_lead_marks__finish).names.lookup x = some .cell ∨ (defScope n_lead_marks__finish).names.lookup x = some .free := cellsJ_by (by decide +kernel)
abbrev n_lead_marks__finish__l0 : Expr := (argE (retE (nthS (defBody (nthS (defBody s_lead_marks) 2)) 2)) 1)
theorem fs_lead_marks__finish__l0 : FScope ["mark", "said", "l"] ["mark"] ["said", "l"] (lamSc n_lead_marks__finish__l0) := fscope_by (by decide +kernel)
theorem fr_lead_marks__finish__l0 : ∀ y ∈ (lamSc n_lead_marks__finish__l0).names, y.2 = .free → (defScope n_lead_marks__finish).names.lookup y.1 = some .cell ∨ (defScope n_lead_marks__finish).names.lookup y.1 = some .free := by decide +kernel
theorem cj_lead_marks__finish__l0 : ∀ j ∈ ([1, 2] : List Nat), ∀ x, (["mark", "said", "l"] : List Str)[j]? = some x → (lamSc n_lead_marks__finish__l0).names.lookup x = some .cell ∨ (lamSc n_lead_marks__finish__l0).names.lookup x = some .free := cellsJ_by (by decide +kernel)
abbrev n_lead_secrets__with_bit : Stmt := (nthS (defBody s_lead_secrets) 1)
theorem fs_lead_secrets__with_bit : FScope ["b", "m", "l", "begin", "answer"] ["b"] ["m", "l", "begin"] (defScope n_lead_secrets__with_bit) := fscope_by (by decide +kernel)
theorem fr_lead_secrets__with_bit : ∀ y ∈ (defScope n_lead_secrets__with_bit).names, y.2 = .free → (defScope s_lead_secrets).names.lookup y.1 = some .cell ∨ (defScope s_lead_secrets).names.lookup y.1 = some .free := by decide +kernel
theorem cj_lead_secrets__with_bit : ∀ j ∈ ([0, 1, 2, 3] : List Nat), ∀ x, (["b", "m", "l", "begin", "answer"] : List Str)[j]? = some x → (defScope n_lead_secrets__with_bit).names.lookup x = some .cell ∨ (defScope n_lead_secrets__with_bit).names.lookup x = some .free := cellsJ_by (by decide +kernel)
abbrev n_lead_secrets__with_bit__answer : Stmt := (nthS (defBody (nthS (defBody s_lead_secrets) 1)) 0)
theorem fs_lead_secrets__with_bit__answer : FScope ["state", "string", "m", "b", "l", "message"] ["state", "string"] ["m", "b", "l"] (defScope n_lead_secrets__with_bit__answer) := fscope_by (by decide +kernel)
theorem fr_lead_secrets__with_bit__answer : ∀ y ∈ (defScope n_lead_secrets__with_bit__answer).names, y.2 = .free → (defScope n_lead_secrets__with_bit).names.lookup y.1 = some .cell ∨ (defScope n_lead_secrets__with_bit).names.lookup y.1 = some .free := by decide +kernel
theorem cj_lead_secrets__with_bit__answer : ∀ j ∈ ([0, 2, 3, 4, 5] : List Nat), ∀ x, (["state", "string", "m", "b", "l", "message"] : List Str)[j]? = some x → (defScope n_lead_secrets__with_bit__answer).names.lookup x = some .cell ∨ (defScope n_lead_secrets__with_bit__answer).names.lookup x = some .free := cellsJ_by (by decide +kernel)
abbrev n_lead_secrets__with_bit__answer__l0 : Expr := (argE (retE (nthS (defBody (nthS (defBody (nthS (defBody s_lead_secrets) 1)) 0)) 2)) 1)
theorem fs_lead_secrets__with_bit__answer__l0 : FScope ["r", "state", "message"] ["r"] ["state", "message"] (lamSc n_lead_secrets__with_bit__answer__l0) := fscope_by (by decide +kernel)
theorem fr_lead_secrets__with_bit__answer__l0 : ∀ y ∈ (lamSc n_lead_secrets__with_bit__answer__l0).names, y.2 = .free → (defScope n_lead_secrets__with_bit__answer).names.lookup y.1 = some .cell ∨ (defScope n_lead_secrets__with_bit__answer).names.lookup y.1 = some .free := by decide +kernel
theorem cj_lead_secrets__with_bit__answer__l0 : ∀ j ∈ ([0, 1, 2] : List Nat), ∀ x, (["r", "state", "message"] : List Str)[j]? = some x → (lamSc n_lead_secrets__with_bit__answer__l0).names.lookup x = some .cell ∨ (lamSc n_lead_secrets__with_bit__answer__l0).names.lookup x = some .free := cellsJ_by (by decide +kernel)
abbrev n_lead_secrets__with_bit__answer__l0__l0 : Expr := (argE (lamE (argE (retE (nthS (defBody (nthS (defBody (nthS (defBody s_lead_secrets) 1)) 0)) 2)) 1)) 1)
theorem fs_lead_secrets__with_bit__answer__l0__l0 : FScope ["pad", "state", "r", "message"] ["pad"] ["state", "r", "message"] (lamSc n_lead_secrets__with_bit__answer__l0__l0) := fscope_by (by decide +kernel)
theorem fr_lead_secrets__with_bit__answer__l0__l0 : ∀ y ∈ (lamSc n_lead_secrets__with_bit__answer__l0__l0).names, y.2 = .free → (lamSc n_lead_secrets__with_bit__answer__l0).names.lookup y.1 = some .cell ∨ (lamSc n_lead_secrets__with_bit__answer__l0).names.lookup y.1 = some .free := by decide +kernel
theorem cj_lead_secrets__with_bit__answer__l0__l0 : ∀ j ∈ ([1, 2, 3] : List Nat), ∀ x, (["pad", "state", "r", "message"] : List Str)[j]? = some x → (lamSc n_lead_secrets__with_bit__answer__l0__l0).names.lookup x = some .cell ∨ (lamSc n_lead_secrets__with_bit__answer__l0__l0).names.lookup x = some .free := cellsJ_by (by decide +kernel)
abbrev n_lead_secrets__with_bit__l0 : Expr := (argE (retE (nthS (defBody (nthS (defBody s_lead_secrets) 1)) 1)) 3)
theorem fs_lead_secrets__with_bit__l0 : FScope ["state", "said", "b"] ["state", "said"] ["b"] (lamSc n_lead_secrets__with_bit__l0) := fscope_by (by decide +kernel)
theorem fr_lead_secrets__with_bit__l0 : ∀ y ∈ (lamSc n_lead_secrets__with_bit__l0).names, y.2 = .free → (defScope n_lead_secrets__with_bit).names.lookup y.1 = some .cell ∨ (defScope n_lead_secrets__with_bit).names.lookup y.1 = some .free := by decide +kernel
theorem cj_lead_secrets__with_bit__l0 : ∀ j ∈ ([2] : List Nat), ∀ x, (["state", "said", "b"] : List Str)[j]? = some x → (lamSc n_lead_secrets__with_bit__l0).names.lookup x = some .cell ∨ (lamSc n_lead_secrets__with_bit__l0).names.lookup x = some .free := cellsJ_by (by decide +kernel)
abbrev n_lead_once__with_bit : Stmt := (nthS (defBody s_lead_once) 1)
theorem fs_lead_once__with_bit : FScope ["b", "m", "challenge", "begin", "answer"] ["b"] ["m", "challenge", "begin"] (defScope n_lead_once__with_bit) := fscope_by (by decide +kernel)
theorem fr_lead_once__with_bit : ∀ y ∈ (defScope n_lead_once__with_bit).names, y.2 = .free → (defScope s_lead_once).names.lookup y.1 = some .cell ∨ (defScope s_lead_once).names.lookup y.1 = some .free := by decide +kernel
theorem cj_lead_once__with_bit : ∀ j ∈ ([0, 1, 2, 3] : List Nat), ∀ x, (["b", "m", "challenge", "begin", "answer"] : List Str)[j]? = some x → (defScope n_lead_once__with_bit).names.lookup x = some .cell ∨ (defScope n_lead_once__with_bit).names.lookup x = some .free := cellsJ_by (by decide +kernel)
abbrev n_lead_once__with_bit__answer : Stmt := (nthS (defBody (nthS (defBody s_lead_once) 1)) 0)
theorem fs_lead_once__with_bit__answer : FScope ["used", "string", "m", "challenge", "b"] ["used", "string"] ["m", "challenge", "b"] (defScope n_lead_once__with_bit__answer) := fscope_by (by decide +kernel)
theorem fr_lead_once__with_bit__answer : ∀ y ∈ (defScope n_lead_once__with_bit__answer).names, y.2 = .free → (defScope n_lead_once__with_bit).names.lookup y.1 = some .cell ∨ (defScope n_lead_once__with_bit).names.lookup y.1 = some .free := by decide +kernel
theorem cj_lead_once__with_bit__answer : ∀ j ∈ ([2, 3, 4] : List Nat), ∀ x, (["used", "string", "m", "challenge", "b"] : List Str)[j]? = some x → (defScope n_lead_once__with_bit__answer).names.lookup x = some .cell ∨ (defScope n_lead_once__with_bit__answer).names.lookup x = some .free := cellsJ_by (by decide +kernel)
abbrev n_lead_once__with_bit__l0 : Expr := (argE (retE (nthS (defBody (nthS (defBody s_lead_once) 1)) 1)) 3)
theorem fs_lead_once__with_bit__l0 : FScope ["used", "said", "b"] ["used", "said"] ["b"] (lamSc n_lead_once__with_bit__l0) := fscope_by (by decide +kernel)
theorem fr_lead_once__with_bit__l0 : ∀ y ∈ (lamSc n_lead_once__with_bit__l0).names, y.2 = .free → (defScope n_lead_once__with_bit).names.lookup y.1 = some .cell ∨ (defScope n_lead_once__with_bit).names.lookup y.1 = some .free := by decide +kernel
theorem cj_lead_once__with_bit__l0 : ∀ j ∈ ([2] : List Nat), ∀ x, (["used", "said", "b"] : List Str)[j]? = some x → (lamSc n_lead_once__with_bit__l0).names.lookup x = some .cell ∨ (lamSc n_lead_once__with_bit__l0).names.lookup x = some .free := cellsJ_by (by decide +kernel)
abbrev n_lead_opening__with_bit : Stmt := (nthS (defBody s_lead_opening) 1)
theorem fs_lead_opening__with_bit : FScope ["b", "challenge", "r", "begin", "handed"] ["b"] ["challenge", "r", "begin"] (defScope n_lead_opening__with_bit) := fscope_by (by decide +kernel)
theorem fr_lead_opening__with_bit : ∀ y ∈ (defScope n_lead_opening__with_bit).names, y.2 = .free → (defScope s_lead_opening).names.lookup y.1 = some .cell ∨ (defScope s_lead_opening).names.lookup y.1 = some .free := by decide +kernel
theorem cj_lead_opening__with_bit : ∀ j ∈ ([0, 1, 2, 3] : List Nat), ∀ x, (["b", "challenge", "r", "begin", "handed"] : List Str)[j]? = some x → (defScope n_lead_opening__with_bit).names.lookup x = some .cell ∨ (defScope n_lead_opening__with_bit).names.lookup x = some .free := cellsJ_by (by decide +kernel)
abbrev n_lead_opening__with_bit__l0 : Expr := (argE (retE (nthS (defBody (nthS (defBody s_lead_opening) 1)) 1)) 1)
theorem fs_lead_opening__with_bit__l0 : FScope ["said", "b"] ["said"] ["b"] (lamSc n_lead_opening__with_bit__l0) := fscope_by (by decide +kernel)
theorem fr_lead_opening__with_bit__l0 : ∀ y ∈ (lamSc n_lead_opening__with_bit__l0).names, y.2 = .free → (defScope n_lead_opening__with_bit).names.lookup y.1 = some .cell ∨ (defScope n_lead_opening__with_bit).names.lookup y.1 = some .free := by decide +kernel
theorem cj_lead_opening__with_bit__l0 : ∀ j ∈ ([1] : List Nat), ∀ x, (["said", "b"] : List Str)[j]? = some x → (lamSc n_lead_opening__with_bit__l0).names.lookup x = some .cell ∨ (lamSc n_lead_opening__with_bit__l0).names.lookup x = some .free := cellsJ_by (by decide +kernel)
abbrev n_lead_next__with_rest : Stmt := (nthS (defBody s_lead_next) 2)
theorem fs_lead_next__with_rest : FScope ["rest", "begin", "known"] ["rest"] ["begin", "known"] (defScope n_lead_next__with_rest) := fscope_by (by decide +kernel)
theorem fr_lead_next__with_rest : ∀ y ∈ (defScope n_lead_next__with_rest).names, y.2 = .free → (defScope s_lead_next).names.lookup y.1 = some .cell ∨ (defScope s_lead_next).names.lookup y.1 = some .free := by decide +kernel
theorem cj_lead_next__with_rest : ∀ j ∈ ([0, 1, 2] : List Nat), ∀ x, (["rest", "begin", "known"] : List Str)[j]? = some x → (defScope n_lead_next__with_rest).names.lookup x = some .cell ∨ (defScope n_lead_next__with_rest).names.lookup x = some .free := cellsJ_by (by decide +kernel)
abbrev n_lead_next__with_rest__l0 : Expr := (argE (retE (nthS (defBody (nthS (defBody s_lead_next) 2)) 0)) 1)
theorem fs_lead_next__with_rest__l0 : FScope ["said", "rest"] ["said"] ["rest"] (lamSc n_lead_next__with_rest__l0) := fscope_by (by decide +kernel)
theorem fr_lead_next__with_rest__l0 : ∀ y ∈ (lamSc n_lead_next__with_rest__l0).names, y.2 = .free → (defScope n_lead_next__with_rest).names.lookup y.1 = some .cell ∨ (defScope n_lead_next__with_rest).names.lookup y.1 = some .free := by decide +kernel
theorem cj_lead_next__with_rest__l0 : ∀ j ∈ ([1] : List Nat), ∀ x, (["said", "rest"] : List Str)[j]? = some x → (lamSc n_lead_next__with_rest__l0).names.lookup x = some .cell ∨ (lamSc n_lead_next__with_rest__l0).names.lookup x = some .free := cellsJ_by (by decide +kernel)
abbrev n_lead_guess__with_place : Stmt := (nthS (defBody s_lead_guess) 1)
theorem fs_lead_guess__with_place : FScope ["i", "challenge", "begin", "handed"] ["i"] ["challenge", "begin"] (defScope n_lead_guess__with_place) := fscope_by (by decide +kernel)
theorem fr_lead_guess__with_place : ∀ y ∈ (defScope n_lead_guess__with_place).names, y.2 = .free → (defScope s_lead_guess).names.lookup y.1 = some .cell ∨ (defScope s_lead_guess).names.lookup y.1 = some .free := by decide +kernel
theorem cj_lead_guess__with_place : ∀ j ∈ ([0, 1, 2] : List Nat), ∀ x, (["i", "challenge", "begin", "handed"] : List Str)[j]? = some x → (defScope n_lead_guess__with_place).names.lookup x = some .cell ∨ (defScope n_lead_guess__with_place).names.lookup x = some .free := cellsJ_by (by decide +kernel)
abbrev n_lead_guess__with_place__l0 : Expr := (argE (retE (nthS (defBody (nthS (defBody s_lead_guess) 1)) 1)) 1)
theorem fs_lead_guess__with_place__l0 : FScope ["said", "challenge", "i"] ["said"] ["challenge", "i"] (lamSc n_lead_guess__with_place__l0) := fscope_by (by decide +kernel)
theorem fr_lead_guess__with_place__l0 : ∀ y ∈ (lamSc n_lead_guess__with_place__l0).names, y.2 = .free → (defScope n_lead_guess__with_place).names.lookup y.1 = some .cell ∨ (defScope n_lead_guess__with_place).names.lookup y.1 = some .free := by decide +kernel
theorem cj_lead_guess__with_place__l0 : ∀ j ∈ ([1, 2] : List Nat), ∀ x, (["said", "challenge", "i"] : List Str)[j]? = some x → (lamSc n_lead_guess__with_place__l0).names.lookup x = some .cell ∨ (lamSc n_lead_guess__with_place__l0).names.lookup x = some .free := cellsJ_by (by decide +kernel)
abbrev n_lead_onetime__with_place : Stmt := (nthS (defBody s_lead_onetime) 2)
theorem fs_lead_onetime__with_place : FScope ["v", "n", "l", "with_strings"] ["v"] ["n", "l", "with_strings"] (defScope n_lead_onetime__with_place) := fscope_by (by decide +kernel)
theorem fr_lead_onetime__with_place : ∀ y ∈ (defScope n_lead_onetime__with_place).names, y.2 = .free → (defScope s_lead_onetime).names.lookup y.1 = some .cell ∨ (defScope s_lead_onetime).names.lookup y.1 = some .free := by decide +kernel
theorem cj_lead_onetime__with_place : ∀ j ∈ ([0, 1, 2, 3] : List Nat), ∀ x, (["v", "n", "l", "with_strings"] : List Str)[j]? = some x → (defScope n_lead_onetime__with_place).names.lookup x = some .cell ∨ (defScope n_lead_onetime__with_place).names.lookup x = some .free := cellsJ_by (by decide +kernel)
abbrev n_lead_onetime__with_place__l0 : Expr := (argE (retE (nthS (defBody (nthS (defBody s_lead_onetime) 2)) 0)) 3)
theorem fs_lead_onetime__with_place__l0 : FScope ["others", "with_strings", "v"] ["others"] ["with_strings", "v"] (lamSc n_lead_onetime__with_place__l0) := fscope_by (by decide +kernel)
theorem fr_lead_onetime__with_place__l0 : ∀ y ∈ (lamSc n_lead_onetime__with_place__l0).names, y.2 = .free → (defScope n_lead_onetime__with_place).names.lookup y.1 = some .cell ∨ (defScope n_lead_onetime__with_place).names.lookup y.1 = some .free := by decide +kernel
theorem cj_lead_onetime__with_place__l0 : ∀ j ∈ ([1, 2] : List Nat), ∀ x, (["others", "with_strings", "v"] : List Str)[j]? = some x → (lamSc n_lead_onetime__with_place__l0).names.lookup x = some .cell ∨ (lamSc n_lead_onetime__with_place__l0).names.lookup x = some .free := cellsJ_by (by decide +kernel)
abbrev n_lead_onetime__with_strings : Stmt := (nthS (defBody s_lead_onetime) 3)
theorem fs_lead_onetime__with_strings : FScope ["v", "strings", "rows", "challenge", "l", "block", "n", "begin", "shown", "answer", "finish"] ["v", "strings"] ["rows", "challenge", "l", "block", "n", "begin"] (defScope n_lead_onetime__with_strings) := fscope_by (by decide +kernel)
theorem fr_lead_onetime__with_strings : ∀ y ∈ (defScope n_lead_onetime__with_strings).names, y.2 = .free → (defScope s_lead_onetime).names.lookup y.1 = some .cell ∨ (defScope s_lead_onetime).names.lookup y.1 = some .free := by decide +kernel
theorem cj_lead_onetime__with_strings : ∀ j ∈ ([0, 1, 2, 3, 4, 5, 6, 7, 8] : List Nat), ∀ x, (["v", "strings", "rows", "challenge", "l", "block", "n", "begin", "shown", "answer", "finish"] : List Str)[j]? = some x → (defScope n_lead_onetime__with_strings).names.lookup x = some .cell ∨ (defScope n_lead_onetime__with_strings).names.lookup x = some .free := cellsJ_by (by decide +kernel)
abbrev n_lead_onetime__with_strings__answer : Stmt := (nthS (defBody (nthS (defBody s_lead_onetime) 3)) 2)
theorem fs_lead_onetime__with_strings__answer : FScope ["answered", "message", "l", "v", "strings", "places"] ["answered", "message"] ["l", "v", "strings"] (defScope n_lead_onetime__with_strings__answer) := fscope_by (by decide +kernel)
theorem fr_lead_onetime__with_strings__answer : ∀ y ∈ (defScope n_lead_onetime__with_strings__answer).names, y.2 = .free → (defScope n_lead_onetime__with_strings).names.lookup y.1 = some .cell ∨ (defScope n_lead_onetime__with_strings).names.lookup y.1 = some .free := by decide +kernel
theorem cj_lead_onetime__with_strings__answer : ∀ j ∈ ([2, 3, 4] : List Nat), ∀ x, (["answered", "message", "l", "v", "strings", "places"] : List Str)[j]? = some x → (defScope n_lead_onetime__with_strings__answer).names.lookup x = some .cell ∨ (defScope n_lead_onetime__with_strings__answer).names.lookup x = some .free := cellsJ_by (by decide +kernel)
abbrev n_lead_onetime__with_strings__finish : Stmt := (nthS (defBody (nthS (defBody s_lead_onetime) 3)) 3)
theorem fs_lead_onetime__with_strings__finish : FScope ["answered", "said", "block", "shown", "v", "l", "n", "start"] ["answered", "said"] ["block", "shown", "v", "l", "n"] (defScope n_lead_onetime__with_strings__finish) := fscope_by (by decide +kernel)
theorem fr_lead_onetime__with_strings__finish : ∀ y ∈ (defScope n_lead_onetime__with_strings__finish).names, y.2 = .free → (defScope n_lead_onetime__with_strings).names.lookup y.1 = some .cell ∨ (defScope n_lead_onetime__with_strings).names.lookup y.1 = some .free := by decide +kernel
theorem cj_lead_onetime__with_strings__finish : ∀ j ∈ ([2, 3, 4, 5, 6] : List Nat), ∀ x, (["answered", "said", "block", "shown", "v", "l", "n", "start"] : List Str)[j]? = some x → (defScope n_lead_onetime__with_strings__finish).names.lookup x = some .cell ∨ (defScope n_lead_onetime__with_strings__finish).names.lookup x = some .free := cellsJ_by (by decide +kernel)
abbrev n_lead_bit__l0 : Expr := (argE (retE (nthS (defBody s_lead_bit) 0)) 1)
theorem fs_lead_bit__l0 : FScope ["c", "begin", "challenge"] ["c"] ["begin", "challenge"] (lamSc n_lead_bit__l0) := fscope_by (by decide +kernel)
theorem fr_lead_bit__l0 : ∀ y ∈ (lamSc n_lead_bit__l0).names, y.2 = .free → (defScope s_lead_bit).names.lookup y.1 = some .cell ∨ (defScope s_lead_bit).names.lookup y.1 = some .free := by decide +kernel
theorem cj_lead_bit__l0 : ∀ j ∈ ([0, 1, 2] : List Nat), ∀ x, (["c", "begin", "challenge"] : List Str)[j]? = some x → (lamSc n_lead_bit__l0).names.lookup x = some .cell ∨ (lamSc n_lead_bit__l0).names.lookup x = some .free := cellsJ_by (by decide +kernel)
abbrev n_lead_bit__l0__l0 : Expr := (argE (lamE (argE (retE (nthS (defBody s_lead_bit) 0)) 1)) 1)
theorem fs_lead_bit__l0__l0 : FScope ["said", "c"] ["said"] ["c"] (lamSc n_lead_bit__l0__l0) := fscope_by (by decide +kernel)
theorem fr_lead_bit__l0__l0 : ∀ y ∈ (lamSc n_lead_bit__l0__l0).names, y.2 = .free → (lamSc n_lead_bit__l0).names.lookup y.1 = some .cell ∨ (lamSc n_lead_bit__l0).names.lookup y.1 = some .free := by decide +kernel
theorem cj_lead_bit__l0__l0 : ∀ j ∈ ([1] : List Nat), ∀ x, (["said", "c"] : List Str)[j]? = some x → (lamSc n_lead_bit__l0__l0).names.lookup x = some .cell ∨ (lamSc n_lead_bit__l0__l0).names.lookup x = some .free := cellsJ_by (by decide +kernel)
abbrev n_lead_hard__begun : Stmt := (nthS (defBody s_lead_hard) 1)
theorem fs_lead_hard__begun : FScope ["number", "begin", "challenge", "n"] ["number"] ["begin", "challenge", "n"] (defScope n_lead_hard__begun) := fscope_by (by decide +kernel)
theorem fr_lead_hard__begun : ∀ y ∈ (defScope n_lead_hard__begun).names, y.2 = .free → (defScope s_lead_hard).names.lookup y.1 = some .cell ∨ (defScope s_lead_hard).names.lookup y.1 = some .free := by decide +kernel
theorem cj_lead_hard__begun : ∀ j ∈ ([1, 2, 3] : List Nat), ∀ x, (["number", "begin", "challenge", "n"] : List Str)[j]? = some x → (defScope n_lead_hard__begun).names.lookup x = some .cell ∨ (defScope n_lead_hard__begun).names.lookup x = some .free := cellsJ_by (by decide +kernel)
abbrev n_lead_hard__l0 : Expr := (argE (retE (nthS (defBody s_lead_hard) 2)) 1)
theorem fs_lead_hard__l0 : FScope ["found", "n"] ["found"] ["n"] (lamSc n_lead_hard__l0) := fscope_by (by decide +kernel)
theorem fr_lead_hard__l0 : ∀ y ∈ (lamSc n_lead_hard__l0).names, y.2 = .free → (defScope s_lead_hard).names.lookup y.1 = some .cell ∨ (defScope s_lead_hard).names.lookup y.1 = some .free := by decide +kernel
theorem cj_lead_hard__l0 : ∀ j ∈ ([1] : List Nat), ∀ x, (["found", "n"] : List Str)[j]? = some x → (lamSc n_lead_hard__l0).names.lookup x = some .cell ∨ (lamSc n_lead_hard__l0).names.lookup x = some .free := cellsJ_by (by decide +kernel)
abbrev n_guesses__l0 : Expr := (argE (retE (nthS (defBody s_guesses) 2)) 1)
theorem fs_guesses__l0 : FScope ["choice", "begun", "many", "found", "then"] ["choice"] ["begun", "many", "found", "then"] (lamSc n_guesses__l0) := fscope_by (by decide +kernel)
theorem fr_guesses__l0 : ∀ y ∈ (lamSc n_guesses__l0).names, y.2 = .free → (defScope s_guesses).names.lookup y.1 = some .cell ∨ (defScope s_guesses).names.lookup y.1 = some .free := by decide +kernel
theorem cj_guesses__l0 : ∀ j ∈ ([1, 2, 3, 4] : List Nat), ∀ x, (["choice", "begun", "many", "found", "then"] : List Str)[j]? = some x → (lamSc n_guesses__l0).names.lookup x = some .cell ∨ (lamSc n_guesses__l0).names.lookup x = some .free := cellsJ_by (by decide +kernel)
abbrev n_pick__l0 : Expr := (argE (retE (nthS (defBody s_pick) 2)) 1)
theorem fs_pick__l0 : FScope ["v", "n", "owners"] ["v"] ["n", "owners"] (lamSc n_pick__l0) := fscope_by (by decide +kernel)
theorem fr_pick__l0 : ∀ y ∈ (lamSc n_pick__l0).names, y.2 = .free → (defScope s_pick).names.lookup y.1 = some .cell ∨ (defScope s_pick).names.lookup y.1 = some .free := by decide +kernel
theorem cj_pick__l0 : ∀ j ∈ ([1, 2] : List Nat), ∀ x, (["v", "n", "owners"] : List Str)[j]? = some x → (lamSc n_pick__l0).names.lookup x = some .cell ∨ (lamSc n_pick__l0).names.lookup x = some .free := cellsJ_by (by decide +kernel)
abbrev n_run_plain__l0 : Expr := (argE (retE (nthS (thenS (nthS (defBody s_run_plain) 2)) 1)) 1)
theorem fs_run_plain__l0 : FScope ["choice", "tossed", "seen"] ["choice"] ["tossed", "seen"] (lamSc n_run_plain__l0) := fscope_by (by decide +kernel)
theorem fr_run_plain__l0 : ∀ y ∈ (lamSc n_run_plain__l0).names, y.2 = .free → (defScope s_run_plain).names.lookup y.1 = some .cell ∨ (defScope s_run_plain).names.lookup y.1 = some .free := by decide +kernel
theorem cj_run_plain__l0 : ∀ j ∈ ([1, 2] : List Nat), ∀ x, (["choice", "tossed", "seen"] : List Str)[j]? = some x → (lamSc n_run_plain__l0).names.lookup x = some .cell ∨ (lamSc n_run_plain__l0).names.lookup x = some .free := cellsJ_by (by decide +kernel)
abbrev n_run_plain__l1 : Expr := (argE (retE (nthS (defBody s_run_plain) 4)) 1)
theorem fs_run_plain__l1 : FScope ["answer", "follower", "seen"] ["answer"] ["follower", "seen"] (lamSc n_run_plain__l1) := fscope_by (by decide +kernel)
theorem fr_run_plain__l1 : ∀ y ∈ (lamSc n_run_plain__l1).names, y.2 = .free → (defScope s_run_plain).names.lookup y.1 = some .cell ∨ (defScope s_run_plain).names.lookup y.1 = some .free := by decide +kernel
theorem cj_run_plain__l1 : ∀ j ∈ ([1, 2] : List Nat), ∀ x, (["answer", "follower", "seen"] : List Str)[j]? = some x → (lamSc n_run_plain__l1).names.lookup x = some .cell ∨ (lamSc n_run_plain__l1).names.lookup x = some .free := cellsJ_by (by decide +kernel)
abbrev n_run__l0 : Expr := (argE (retE (nthS (defBody s_run) 3)) 1)
theorem fs_run__l0 : FScope ["handed", "inner"] ["handed"] ["inner"] (lamSc n_run__l0) := fscope_by (by decide +kernel)
theorem fr_run__l0 : ∀ y ∈ (lamSc n_run__l0).names, y.2 = .free → (defScope s_run).names.lookup y.1 = some .cell ∨ (defScope s_run).names.lookup y.1 = some .free := by decide +kernel
theorem cj_run__l0 : ∀ j ∈ ([1] : List Nat), ∀ x, (["handed", "inner"] : List Str)[j]? = some x → (lamSc n_run__l0).names.lookup x = some .cell ∨ (lamSc n_run__l0).names.lookup x = some .free := cellsJ_by (by decide +kernel)
abbrev n_guesses_bit__l0 : Expr := (retE (nthS (defBody s_guesses_bit) 0))
theorem fs_guesses_bit__l0 : FScope ["state", "asked", "said", "bit"] ["state", "asked", "said"] ["bit"] (lamSc n_guesses_bit__l0) := fscope_by (by decide +kernel)
theorem fr_guesses_bit__l0 : ∀ y ∈ (lamSc n_guesses_bit__l0).names, y.2 = .free → (defScope s_guesses_bit).names.lookup y.1 = some .cell ∨ (defScope s_guesses_bit).names.lookup y.1 = some .free := by decide +kernel
theorem cj_guesses_bit__l0 : ∀ j ∈ ([3] : List Nat), ∀ x, (["state", "asked", "said", "bit"] : List Str)[j]? = some x → (lamSc n_guesses_bit__l0).names.lookup x = some .cell ∨ (lamSc n_guesses_bit__l0).names.lookup x = some .free := cellsJ_by (by decide +kernel)
abbrev n_draw_row__l0 : Expr := (argE (retE (nthS (thenS (nthS (defBody s_draw_row) 1)) 0)) 1)
theorem fs_draw_row__l0 : FScope ["seed", "then", "rows"] ["seed"] ["then", "rows"] (lamSc n_draw_row__l0) := fscope_by (by decide +kernel)
theorem fr_draw_row__l0 : ∀ y ∈ (lamSc n_draw_row__l0).names, y.2 = .free → (defScope s_draw_row).names.lookup y.1 = some .cell ∨ (defScope s_draw_row).names.lookup y.1 = some .free := by decide +kernel
theorem cj_draw_row__l0 : ∀ j ∈ ([1, 2] : List Nat), ∀ x, (["seed", "then", "rows"] : List Str)[j]? = some x → (lamSc n_draw_row__l0).names.lookup x = some .cell ∨ (lamSc n_draw_row__l0).names.lookup x = some .free := cellsJ_by (by decide +kernel)
abbrev n_draw_function__l0 : Expr := (argE (retE (nthS (thenS (nthS (defBody s_draw_function) 1)) 0)) 1)
theorem fs_draw_function__l0 : FScope ["key", "then", "l", "m", "tables"] ["key"] ["then", "l", "m", "tables"] (lamSc n_draw_function__l0) := fscope_by (by decide +kernel)
theorem fr_draw_function__l0 : ∀ y ∈ (lamSc n_draw_function__l0).names, y.2 = .free → (defScope s_draw_function).names.lookup y.1 = some .cell ∨ (defScope s_draw_function).names.lookup y.1 = some .free := by decide +kernel
theorem cj_draw_function__l0 : ∀ j ∈ ([1, 2, 3, 4] : List Nat), ∀ x, (["key", "then", "l", "m", "tables"] : List Str)[j]? = some x → (lamSc n_draw_function__l0).names.lookup x = some .cell ∨ (lamSc n_draw_function__l0).names.lookup x = some .free := cellsJ_by (by decide +kernel)
abbrev n_value_at__l0 : Expr := (argE (retE (nthS (defBody s_value_at) 3)) 1)
theorem fs_value_at__l0 : FScope ["value", "l", "m", "values", "x", "known"] ["value"] ["l", "m", "values", "x", "known"] (lamSc n_value_at__l0) := fscope_by (by decide +kernel)
theorem fr_value_at__l0 : ∀ y ∈ (lamSc n_value_at__l0).names, y.2 = .free → (defScope s_value_at).names.lookup y.1 = some .cell ∨ (defScope s_value_at).names.lookup y.1 = some .free := by decide +kernel
theorem cj_value_at__l0 : ∀ j ∈ ([1, 2, 3, 4, 5] : List Nat), ∀ x, (["value", "l", "m", "values", "x", "known"] : List Str)[j]? = some x → (lamSc n_value_at__l0).names.lookup x = some .cell ∨ (lamSc n_value_at__l0).names.lookup x = some .free := cellsJ_by (by decide +kernel)
abbrev n_generator_game__l0 : Expr := (argE (retE (nthS (defBody s_generator_game) 1)) 2)
theorem fs_generator_game__l0 : FScope ["row", "meet"] ["row"] ["meet"] (lamSc n_generator_game__l0) := fscope_by (by decide +kernel)
theorem fr_generator_game__l0 : ∀ y ∈ (lamSc n_generator_game__l0).names, y.2 = .free → (defScope s_generator_game).names.lookup y.1 = some .cell ∨ (defScope s_generator_game).names.lookup y.1 = some .free := by decide +kernel
theorem cj_generator_game__l0 : ∀ j ∈ ([1] : List Nat), ∀ x, (["row", "meet"] : List Str)[j]? = some x → (lamSc n_generator_game__l0).names.lookup x = some .cell ∨ (lamSc n_generator_game__l0).names.lookup x = some .free := cellsJ_by (by decide +kernel)
abbrev n_function_game__l0 : Expr := (argE (retE (nthS (defBody s_function_game) 1)) 2)
theorem fs_function_game__l0 : FScope ["function", "meet"] ["function"] ["meet"] (lamSc n_function_game__l0) := fscope_by (by decide +kernel)
theorem fr_function_game__l0 : ∀ y ∈ (lamSc n_function_game__l0).names, y.2 = .free → (defScope s_function_game).names.lookup y.1 = some .cell ∨ (defScope s_function_game).names.lookup y.1 = some .free := by decide +kernel
theorem cj_function_game__l0 : ∀ j ∈ ([1] : List Nat), ∀ x, (["function", "meet"] : List Str)[j]? = some x → (lamSc n_function_game__l0).names.lookup x = some .cell ∨ (lamSc n_function_game__l0).names.lookup x = some .free := cellsJ_by (by decide +kernel)
abbrev n_permutation_game__answer : Stmt := (nthS (defBody s_permutation_game) 1)
theorem fs_permutation_game__answer : FScope ["known", "string", "l", "given", "left"] ["known", "string"] ["l"] (defScope n_permutation_game__answer) := fscope_by (by decide +kernel)
theorem fr_permutation_game__answer : ∀ y ∈ (defScope n_permutation_game__answer).names, y.2 = .free → (defScope s_permutation_game).names.lookup y.1 = some .cell ∨ (defScope s_permutation_game).names.lookup y.1 = some .free := by decide +kernel
theorem cj_permutation_game__answer : ∀ j ∈ ([0, 1, 2, 4] : List Nat), ∀ x, (["known", "string", "l", "given", "left"] : List Str)[j]? = some x → (defScope n_permutation_game__answer).names.lookup x = some .cell ∨ (defScope n_permutation_game__answer).names.lookup x = some .free := cellsJ_by (by decide +kernel)
abbrev n_permutation_game__answer__l0 : Expr := (argE (retE (nthS (defBody (nthS (defBody s_permutation_game) 1)) 4)) 1)
theorem fs_permutation_game__answer__l0 : FScope ["number", "string", "known", "left"] ["number"] ["string", "known", "left"] (lamSc n_permutation_game__answer__l0) := fscope_by (by decide +kernel)
theorem fr_permutation_game__answer__l0 : ∀ y ∈ (lamSc n_permutation_game__answer__l0).names, y.2 = .free → (defScope n_permutation_game__answer).names.lookup y.1 = some .cell ∨ (defScope n_permutation_game__answer).names.lookup y.1 = some .free := by decide +kernel
theorem cj_permutation_game__answer__l0 : ∀ j ∈ ([1, 2, 3] : List Nat), ∀ x, (["number", "string", "known", "left"] : List Str)[j]? = some x → (lamSc n_permutation_game__answer__l0).names.lookup x = some .cell ∨ (lamSc n_permutation_game__answer__l0).names.lookup x = some .free := cellsJ_by (by decide +kernel)
abbrev n_swaps_game__answer : Stmt := (nthS (defBody s_swaps_game) 1)
theorem fs_swaps_game__answer : FScope ["functions", "string", "h"] ["functions", "string"] ["h"] (defScope n_swaps_game__answer) := fscope_by (by decide +kernel)
theorem fr_swaps_game__answer : ∀ y ∈ (defScope n_swaps_game__answer).names, y.2 = .free → (defScope s_swaps_game).names.lookup y.1 = some .cell ∨ (defScope s_swaps_game).names.lookup y.1 = some .free := by decide +kernel
theorem cj_swaps_game__answer : ∀ j ∈ ([2] : List Nat), ∀ x, (["functions", "string", "h"] : List Str)[j]? = some x → (defScope n_swaps_game__answer).names.lookup x = some .cell ∨ (defScope n_swaps_game__answer).names.lookup x = some .free := cellsJ_by (by decide +kernel)
abbrev n_swap__swapped : Stmt := (nthS (defBody s_swap) 1)
theorem fs_swap__swapped : FScope ["found", "functions", "at", "right", "left", "function", "value"] ["found"] ["functions", "at", "right", "left"] (defScope n_swap__swapped) := fscope_by (by decide +kernel)
theorem fr_swap__swapped : ∀ y ∈ (defScope n_swap__swapped).names, y.2 = .free → (defScope s_swap).names.lookup y.1 = some .cell ∨ (defScope s_swap).names.lookup y.1 = some .free := by decide +kernel
theorem cj_swap__swapped : ∀ j ∈ ([1, 2, 3, 4] : List Nat), ∀ x, (["found", "functions", "at", "right", "left", "function", "value"] : List Str)[j]? = some x → (defScope n_swap__swapped).names.lookup x = some .cell ∨ (defScope n_swap__swapped).names.lookup x = some .free := cellsJ_by (by decide +kernel)
abbrev n_marks_game__judge : Stmt := (nthS (defBody s_marks_game) 1)
theorem fs_marks_game__judge : FScope ["function", "asked", "said", "l", "m", "x"] ["function", "asked", "said"] [] (defScope n_marks_game__judge) := fscope_by (by decide +kernel)
theorem fr_marks_game__judge : ∀ y ∈ (defScope n_marks_game__judge).names, y.2 = .free → (defScope s_marks_game).names.lookup y.1 = some .cell ∨ (defScope s_marks_game).names.lookup y.1 = some .free := by decide +kernel
theorem cj_marks_game__judge : ∀ j ∈ ([2, 3] : List Nat), ∀ x, (["function", "asked", "said", "l", "m", "x"] : List Str)[j]? = some x → (defScope n_marks_game__judge).names.lookup x = some .cell ∨ (defScope n_marks_game__judge).names.lookup x = some .free := cellsJ_by (by decide +kernel)
abbrev n_marks_game__judge__l0 : Expr := (argE (retE (nthS (defBody (nthS (defBody s_marks_game) 1)) 3)) 1)
theorem fs_marks_game__judge__l0 : FScope ["found", "said", "l"] ["found"] ["said", "l"] (lamSc n_marks_game__judge__l0) := fscope_by (by decide +kernel)
theorem fr_marks_game__judge__l0 : ∀ y ∈ (lamSc n_marks_game__judge__l0).names, y.2 = .free → (defScope n_marks_game__judge).names.lookup y.1 = some .cell ∨ (defScope n_marks_game__judge).names.lookup y.1 = some .free := by decide +kernel
theorem cj_marks_game__judge__l0 : ∀ j ∈ ([1, 2] : List Nat), ∀ x, (["found", "said", "l"] : List Str)[j]? = some x → (lamSc n_marks_game__judge__l0).names.lookup x = some .cell ∨ (lamSc n_marks_game__judge__l0).names.lookup x = some .free := cellsJ_by (by decide +kernel)
abbrev n_marks_game__l0 : Expr := (argE (retE (nthS (defBody s_marks_game) 2)) 2)
theorem fs_marks_game__l0 : FScope ["function", "meet", "judge"] ["function"] ["meet", "judge"] (lamSc n_marks_game__l0) := fscope_by (by decide +kernel)
theorem fr_marks_game__l0 : ∀ y ∈ (lamSc n_marks_game__l0).names, y.2 = .free → (defScope s_marks_game).names.lookup y.1 = some .cell ∨ (defScope s_marks_game).names.lookup y.1 = some .free := by decide +kernel
theorem cj_marks_game__l0 : ∀ j ∈ ([1, 2] : List Nat), ∀ x, (["function", "meet", "judge"] : List Str)[j]? = some x → (lamSc n_marks_game__l0).names.lookup x = some .cell ∨ (lamSc n_marks_game__l0).names.lookup x = some .free := cellsJ_by (by decide +kernel)
abbrev n_secrets_game__l0 : Expr := (argE (retE (nthS (defBody s_secrets_game) 1)) 2)
theorem fs_secrets_game__l0 : FScope ["function", "meet", "b"] ["function"] ["meet", "b"] (lamSc n_secrets_game__l0) := fscope_by (by decide +kernel)
theorem fr_secrets_game__l0 : ∀ y ∈ (lamSc n_secrets_game__l0).names, y.2 = .free → (defScope s_secrets_game).names.lookup y.1 = some .cell ∨ (defScope s_secrets_game).names.lookup y.1 = some .free := by decide +kernel
theorem cj_secrets_game__l0 : ∀ j ∈ ([1, 2] : List Nat), ∀ x, (["function", "meet", "b"] : List Str)[j]? = some x → (lamSc n_secrets_game__l0).names.lookup x = some .cell ∨ (lamSc n_secrets_game__l0).names.lookup x = some .free := cellsJ_by (by decide +kernel)
abbrev n_hide_by__answer : Stmt := (nthS (defBody s_hide_by) 0)
theorem fs_hide_by__answer : FScope ["function", "string", "b", "l", "m", "message", "with_string"] ["function", "string"] ["b"] (defScope n_hide_by__answer) := fscope_by (by decide +kernel)
theorem fr_hide_by__answer : ∀ y ∈ (defScope n_hide_by__answer).names, y.2 = .free → (defScope s_hide_by).names.lookup y.1 = some .cell ∨ (defScope s_hide_by).names.lookup y.1 = some .free := by decide +kernel
theorem cj_hide_by__answer : ∀ j ∈ ([0, 2, 5] : List Nat), ∀ x, (["function", "string", "b", "l", "m", "message", "with_string"] : List Str)[j]? = some x → (defScope n_hide_by__answer).names.lookup x = some .cell ∨ (defScope n_hide_by__answer).names.lookup x = some .free := cellsJ_by (by decide +kernel)
abbrev n_hide_by__answer__with_string : Stmt := (nthS (defBody (nthS (defBody s_hide_by) 0)) 3)
theorem fs_hide_by__answer__with_string : FScope ["r", "function", "message"] ["r"] ["function", "message"] (defScope n_hide_by__answer__with_string) := fscope_by (by decide +kernel)
theorem fr_hide_by__answer__with_string : ∀ y ∈ (defScope n_hide_by__answer__with_string).names, y.2 = .free → (defScope n_hide_by__answer).names.lookup y.1 = some .cell ∨ (defScope n_hide_by__answer).names.lookup y.1 = some .free := by decide +kernel
theorem cj_hide_by__answer__with_string : ∀ j ∈ ([0, 1, 2] : List Nat), ∀ x, (["r", "function", "message"] : List Str)[j]? = some x → (defScope n_hide_by__answer__with_string).names.lookup x = some .cell ∨ (defScope n_hide_by__answer__with_string).names.lookup x = some .free := cellsJ_by (by decide +kernel)
abbrev n_hide_by__answer__with_string__l0 : Expr := (argE (retE (nthS (defBody (nthS (defBody (nthS (defBody s_hide_by) 0)) 3)) 0)) 1)
theorem fs_hide_by__answer__with_string__l0 : FScope ["found", "r", "message"] ["found"] ["r", "message"] (lamSc n_hide_by__answer__with_string__l0) := fscope_by (by decide +kernel)
theorem fr_hide_by__answer__with_string__l0 : ∀ y ∈ (lamSc n_hide_by__answer__with_string__l0).names, y.2 = .free → (defScope n_hide_by__answer__with_string).names.lookup y.1 = some .cell ∨ (defScope n_hide_by__answer__with_string).names.lookup y.1 = some .free := by decide +kernel
theorem cj_hide_by__answer__with_string__l0 : ∀ j ∈ ([1, 2] : List Nat), ∀ x, (["found", "r", "message"] : List Str)[j]? = some x → (lamSc n_hide_by__answer__with_string__l0).names.lookup x = some .cell ∨ (lamSc n_hide_by__answer__with_string__l0).names.lookup x = some .free := cellsJ_by (by decide +kernel)
abbrev n_once_game__answer : Stmt := (nthS (defBody s_once_game) 2)
theorem fs_once_game__answer : FScope ["pad", "string", "m", "b"] ["pad", "string"] ["m", "b"] (defScope n_once_game__answer) := fscope_by (by decide +kernel)
theorem fr_once_game__answer : ∀ y ∈ (defScope n_once_game__answer).names, y.2 = .free → (defScope s_once_game).names.lookup y.1 = some .cell ∨ (defScope s_once_game).names.lookup y.1 = some .free := by decide +kernel
theorem cj_once_game__answer : ∀ j ∈ ([2, 3] : List Nat), ∀ x, (["pad", "string", "m", "b"] : List Str)[j]? = some x → (defScope n_once_game__answer).names.lookup x = some .cell ∨ (defScope n_once_game__answer).names.lookup x = some .free := cellsJ_by (by decide +kernel)
abbrev n_once_game__l0 : Expr := (argE (retE (nthS (defBody s_once_game) 3)) 2)
theorem fs_once_game__l0 : FScope ["row", "meet", "answer"] ["row"] ["meet", "answer"] (lamSc n_once_game__l0) := fscope_by (by decide +kernel)
theorem fr_once_game__l0 : ∀ y ∈ (lamSc n_once_game__l0).names, y.2 = .free → (defScope s_once_game).names.lookup y.1 = some .cell ∨ (defScope s_once_game).names.lookup y.1 = some .free := by decide +kernel
theorem cj_once_game__l0 : ∀ j ∈ ([1, 2] : List Nat), ∀ x, (["row", "meet", "answer"] : List Str)[j]? = some x → (lamSc n_once_game__l0).names.lookup x = some .cell ∨ (lamSc n_once_game__l0).names.lookup x = some .free := cellsJ_by (by decide +kernel)
abbrev n_opening_game__with_row : Stmt := (nthS (defBody s_opening_game) 1)
theorem fs_opening_game__with_row : FScope ["row", "meet", "b", "r"] ["row"] ["meet", "b", "r"] (defScope n_opening_game__with_row) := fscope_by (by decide +kernel)
theorem fr_opening_game__with_row : ∀ y ∈ (defScope n_opening_game__with_row).names, y.2 = .free → (defScope s_opening_game).names.lookup y.1 = some .cell ∨ (defScope s_opening_game).names.lookup y.1 = some .free := by decide +kernel
theorem cj_opening_game__with_row : ∀ j ∈ ([1, 2, 3] : List Nat), ∀ x, (["row", "meet", "b", "r"] : List Str)[j]? = some x → (defScope n_opening_game__with_row).names.lookup x = some .cell ∨ (defScope n_opening_game__with_row).names.lookup x = some .free := cellsJ_by (by decide +kernel)
abbrev n_next_game__with_place : Stmt := (nthS (defBody s_next_game) 1)
theorem fs_next_game__with_place : FScope ["i", "block", "real", "meet"] ["i"] ["block", "real", "meet"] (defScope n_next_game__with_place) := fscope_by (by decide +kernel)
theorem fr_next_game__with_place : ∀ y ∈ (defScope n_next_game__with_place).names, y.2 = .free → (defScope s_next_game).names.lookup y.1 = some .cell ∨ (defScope s_next_game).names.lookup y.1 = some .free := by decide +kernel
theorem cj_next_game__with_place : ∀ j ∈ ([0, 1, 2, 3] : List Nat), ∀ x, (["i", "block", "real", "meet"] : List Str)[j]? = some x → (defScope n_next_game__with_place).names.lookup x = some .cell ∨ (defScope n_next_game__with_place).names.lookup x = some .free := cellsJ_by (by decide +kernel)
abbrev n_next_game__with_place__l0 : Expr := (argE (retE (nthS (defBody (nthS (defBody s_next_game) 1)) 0)) 2)
theorem fs_next_game__with_place__l0 : FScope ["row", "meet", "i"] ["row"] ["meet", "i"] (lamSc n_next_game__with_place__l0) := fscope_by (by decide +kernel)
theorem fr_next_game__with_place__l0 : ∀ y ∈ (lamSc n_next_game__with_place__l0).names, y.2 = .free → (defScope n_next_game__with_place).names.lookup y.1 = some .cell ∨ (defScope n_next_game__with_place).names.lookup y.1 = some .free := by decide +kernel
theorem cj_next_game__with_place__l0 : ∀ j ∈ ([1, 2] : List Nat), ∀ x, (["row", "meet", "i"] : List Str)[j]? = some x → (lamSc n_next_game__with_place__l0).names.lookup x = some .cell ∨ (lamSc n_next_game__with_place__l0).names.lookup x = some .free := cellsJ_by (by decide +kernel)
abbrev n_inverse_game__with_row : Stmt := (nthS (defBody s_inverse_game) 1)
theorem fs_inverse_game__with_row : FScope ["row", "n", "rows", "meet", "judge"] ["row"] ["n", "rows", "meet"] (defScope n_inverse_game__with_row) := fscope_by (by decide +kernel)
theorem fr_inverse_game__with_row : ∀ y ∈ (defScope n_inverse_game__with_row).names, y.2 = .free → (defScope s_inverse_game).names.lookup y.1 = some .cell ∨ (defScope s_inverse_game).names.lookup y.1 = some .free := by decide +kernel
theorem cj_inverse_game__with_row : ∀ j ∈ ([0, 1, 2, 3] : List Nat), ∀ x, (["row", "n", "rows", "meet", "judge"] : List Str)[j]? = some x → (defScope n_inverse_game__with_row).names.lookup x = some .cell ∨ (defScope n_inverse_game__with_row).names.lookup x = some .free := cellsJ_by (by decide +kernel)
abbrev n_inverse_game__with_row__judge : Stmt := (nthS (defBody (nthS (defBody s_inverse_game) 1)) 0)
theorem fs_inverse_game__with_row__judge : FScope ["state", "asked", "said", "n", "rows", "row"] ["state", "asked", "said"] ["n", "rows", "row"] (defScope n_inverse_game__with_row__judge) := fscope_by (by decide +kernel)
theorem fr_inverse_game__with_row__judge : ∀ y ∈ (defScope n_inverse_game__with_row__judge).names, y.2 = .free → (defScope n_inverse_game__with_row).names.lookup y.1 = some .cell ∨ (defScope n_inverse_game__with_row).names.lookup y.1 = some .free := by decide +kernel
theorem cj_inverse_game__with_row__judge : ∀ j ∈ ([3, 4, 5] : List Nat), ∀ x, (["state", "asked", "said", "n", "rows", "row"] : List Str)[j]? = some x → (defScope n_inverse_game__with_row__judge).names.lookup x = some .cell ∨ (defScope n_inverse_game__with_row__judge).names.lookup x = some .free := cellsJ_by (by decide +kernel)
abbrev n_onetime_game__answer_with : Stmt := (nthS (defBody s_onetime_game) 2)
theorem fs_onetime_game__answer_with : FScope ["strings", "l", "answer"] ["strings"] ["l"] (defScope n_onetime_game__answer_with) := fscope_by (by decide +kernel)
theorem fr_onetime_game__answer_with : ∀ y ∈ (defScope n_onetime_game__answer_with).names, y.2 = .free → (defScope s_onetime_game).names.lookup y.1 = some .cell ∨ (defScope s_onetime_game).names.lookup y.1 = some .free := by decide +kernel
theorem cj_onetime_game__answer_with : ∀ j ∈ ([0, 1] : List Nat), ∀ x, (["strings", "l", "answer"] : List Str)[j]? = some x → (defScope n_onetime_game__answer_with).names.lookup x = some .cell ∨ (defScope n_onetime_game__answer_with).names.lookup x = some .free := cellsJ_by (by decide +kernel)
abbrev n_onetime_game__answer_with__answer : Stmt := (nthS (defBody (nthS (defBody s_onetime_game) 2)) 0)
theorem fs_onetime_game__answer_with__answer : FScope ["answered", "message", "l", "strings"] ["answered", "message"] ["l", "strings"] (defScope n_onetime_game__answer_with__answer) := fscope_by (by decide +kernel)
theorem fr_onetime_game__answer_with__answer : ∀ y ∈ (defScope n_onetime_game__answer_with__answer).names, y.2 = .free → (defScope n_onetime_game__answer_with).names.lookup y.1 = some .cell ∨ (defScope n_onetime_game__answer_with).names.lookup y.1 = some .free := by decide +kernel
theorem cj_onetime_game__answer_with__answer : ∀ j ∈ ([2, 3] : List Nat), ∀ x, (["answered", "message", "l", "strings"] : List Str)[j]? = some x → (defScope n_onetime_game__answer_with__answer).names.lookup x = some .cell ∨ (defScope n_onetime_game__answer_with__answer).names.lookup x = some .free := cellsJ_by (by decide +kernel)
abbrev n_onetime_game__with_strings : Stmt := (nthS (defBody s_onetime_game) 3)
theorem fs_onetime_game__with_strings : FScope ["strings", "rows", "block", "meet", "answer_with", "shown", "judge"] ["strings"] ["rows", "block", "meet", "answer_with"] (defScope n_onetime_game__with_strings) := fscope_by (by decide +kernel)
theorem fr_onetime_game__with_strings : ∀ y ∈ (defScope n_onetime_game__with_strings).names, y.2 = .free → (defScope s_onetime_game).names.lookup y.1 = some .cell ∨ (defScope s_onetime_game).names.lookup y.1 = some .free := by decide +kernel
theorem cj_onetime_game__with_strings : ∀ j ∈ ([1, 2, 3, 4, 5] : List Nat), ∀ x, (["strings", "rows", "block", "meet", "answer_with", "shown", "judge"] : List Str)[j]? = some x → (defScope n_onetime_game__with_strings).names.lookup x = some .cell ∨ (defScope n_onetime_game__with_strings).names.lookup x = some .free := cellsJ_by (by decide +kernel)
abbrev n_onetime_game__with_strings__judge : Stmt := (nthS (defBody (nthS (defBody s_onetime_game) 3)) 1)
theorem fs_onetime_game__with_strings__judge : FScope ["answered", "asked", "said", "block", "shown"] ["answered", "asked", "said"] ["block", "shown"] (defScope n_onetime_game__with_strings__judge) := fscope_by (by decide +kernel)
theorem fr_onetime_game__with_strings__judge : ∀ y ∈ (defScope n_onetime_game__with_strings__judge).names, y.2 = .free → (defScope n_onetime_game__with_strings).names.lookup y.1 = some .cell ∨ (defScope n_onetime_game__with_strings).names.lookup y.1 = some .free := by decide +kernel
theorem cj_onetime_game__with_strings__judge : ∀ j ∈ ([3, 4] : List Nat), ∀ x, (["answered", "asked", "said", "block", "shown"] : List Str)[j]? = some x → (defScope n_onetime_game__with_strings__judge).names.lookup x = some .cell ∨ (defScope n_onetime_game__with_strings__judge).names.lookup x = some .free := cellsJ_by (by decide +kernel)
abbrev n_hard_game__with_strings : Stmt := (nthS (defBody s_hard_game) 1)
theorem fs_hard_game__with_strings : FScope ["drawn", "meet", "rows", "x", "r"] ["drawn"] ["meet", "rows"] (defScope n_hard_game__with_strings) := fscope_by (by decide +kernel)
theorem fr_hard_game__with_strings : ∀ y ∈ (defScope n_hard_game__with_strings).names, y.2 = .free → (defScope s_hard_game).names.lookup y.1 = some .cell ∨ (defScope s_hard_game).names.lookup y.1 = some .free := by decide +kernel
theorem cj_hard_game__with_strings : ∀ j ∈ ([1, 2] : List Nat), ∀ x, (["drawn", "meet", "rows", "x", "r"] : List Str)[j]? = some x → (defScope n_hard_game__with_strings).names.lookup x = some .cell ∨ (defScope n_hard_game__with_strings).names.lookup x = some .free := cellsJ_by (by decide +kernel)
abbrev n_contest__meet : Stmt := (nthS (defBody s_contest) 1)
theorem fs_contest__meet : FScope ["challenge", "first", "answer", "judge", "breaker", "note", "finish"] ["challenge", "first", "answer", "judge"] ["breaker"] (defScope n_contest__meet) := fscope_by (by decide +kernel)
theorem fr_contest__meet : ∀ y ∈ (defScope n_contest__meet).names, y.2 = .free → (defScope s_contest).names.lookup y.1 = some .cell ∨ (defScope s_contest).names.lookup y.1 = some .free := by decide +kernel
theorem cj_contest__meet : ∀ j ∈ ([2, 3, 4] : List Nat), ∀ x, (["challenge", "first", "answer", "judge", "breaker", "note", "finish"] : List Str)[j]? = some x → (defScope n_contest__meet).names.lookup x = some .cell ∨ (defScope n_contest__meet).names.lookup x = some .free := cellsJ_by (by decide +kernel)
abbrev n_contest__meet__note : Stmt := (nthS (defBody (nthS (defBody s_contest) 1)) 0)
theorem fs_contest__meet__note : FScope ["held", "string", "answer", "state", "asked"] ["held", "string"] ["answer"] (defScope n_contest__meet__note) := fscope_by (by decide +kernel)
theorem fr_contest__meet__note : ∀ y ∈ (defScope n_contest__meet__note).names, y.2 = .free → (defScope n_contest__meet).names.lookup y.1 = some .cell ∨ (defScope n_contest__meet).names.lookup y.1 = some .free := by decide +kernel
theorem cj_contest__meet__note : ∀ j ∈ ([1, 2, 4] : List Nat), ∀ x, (["held", "string", "answer", "state", "asked"] : List Str)[j]? = some x → (defScope n_contest__meet__note).names.lookup x = some .cell ∨ (defScope n_contest__meet__note).names.lookup x = some .free := cellsJ_by (by decide +kernel)
abbrev n_contest__meet__note__l0 : Expr := (argE (retE (nthS (defBody (nthS (defBody (nthS (defBody s_contest) 1)) 0)) 1)) 1)
theorem fs_contest__meet__note__l0 : FScope ["given", "asked", "string"] ["given"] ["asked", "string"] (lamSc n_contest__meet__note__l0) := fscope_by (by decide +kernel)
theorem fr_contest__meet__note__l0 : ∀ y ∈ (lamSc n_contest__meet__note__l0).names, y.2 = .free → (defScope n_contest__meet__note).names.lookup y.1 = some .cell ∨ (defScope n_contest__meet__note).names.lookup y.1 = some .free := by decide +kernel
theorem cj_contest__meet__note__l0 : ∀ j ∈ ([1, 2] : List Nat), ∀ x, (["given", "asked", "string"] : List Str)[j]? = some x → (lamSc n_contest__meet__note__l0).names.lookup x = some .cell ∨ (lamSc n_contest__meet__note__l0).names.lookup x = some .free := cellsJ_by (by decide +kernel)
abbrev n_contest__meet__finish : Stmt := (nthS (defBody (nthS (defBody s_contest) 1)) 1)
theorem fs_contest__meet__finish : FScope ["held", "said", "judge", "state", "asked"] ["held", "said"] ["judge"] (defScope n_contest__meet__finish) := fscope_by (by decide +kernel)
theorem fr_contest__meet__finish : ∀ y ∈ (defScope n_contest__meet__finish).names, y.2 = .free → (defScope n_contest__meet).names.lookup y.1 = some .cell ∨ (defScope n_contest__meet).names.lookup y.1 = some .free := by decide +kernel
theorem cj_contest__meet__finish : ∀ j ∈ ([1, 2, 4] : List Nat), ∀ x, (["held", "said", "judge", "state", "asked"] : List Str)[j]? = some x → (defScope n_contest__meet__finish).names.lookup x = some .cell ∨ (defScope n_contest__meet__finish).names.lookup x = some .free := cellsJ_by (by decide +kernel)
abbrev n_contest__meet__finish__l0 : Expr := (argE (retE (nthS (defBody (nthS (defBody (nthS (defBody s_contest) 1)) 1)) 1)) 1)
theorem fs_contest__meet__finish__l0 : FScope ["outcome", "said", "asked"] ["outcome"] ["said", "asked"] (lamSc n_contest__meet__finish__l0) := fscope_by (by decide +kernel)
theorem fr_contest__meet__finish__l0 : ∀ y ∈ (lamSc n_contest__meet__finish__l0).names, y.2 = .free → (defScope n_contest__meet__finish).names.lookup y.1 = some .cell ∨ (defScope n_contest__meet__finish).names.lookup y.1 = some .free := by decide +kernel
theorem cj_contest__meet__finish__l0 : ∀ j ∈ ([1, 2] : List Nat), ∀ x, (["outcome", "said", "asked"] : List Str)[j]? = some x → (lamSc n_contest__meet__finish__l0).names.lookup x = some .cell ∨ (lamSc n_contest__meet__finish__l0).names.lookup x = some .free := cellsJ_by (by decide +kernel)
/-- the names of the functions within functions, by their places -/
def nmT : List (Nat × Nat × Str) := [((lamP n_draw_bits__l0).line, (lamP n_draw_bits__l0).col, ("draw_bits.<locals>.<lambda>" : Str)), ((lamP n_draw_strings__l0).line, (lamP n_draw_strings__l0).col, ("draw_strings.<locals>.<lambda>" : Str)), ((lamP n_after__l0).line, (lamP n_after__l0).col, ("after.<locals>.<lambda>" : Str)), ((lamP n_serve__l0).line, (lamP n_serve__l0).col, ("serve.<locals>.<lambda>" : Str)), ((lamP n_serve__l1).line, (lamP n_serve__l1).col, ("serve.<locals>.<lambda>" : Str)), ((defP n_lead_longer__with_place).line, (defP n_lead_longer__with_place).col, ("lead_longer.<locals>.with_place" : Str)), ((lamP n_lead_longer__with_place__l0).line, (lamP n_lead_longer__with_place__l0).col, ("lead_longer.<locals>.with_place.<locals>.<lambda>" : Str)), ((defP n_lead_tree__with_place).line, (defP n_lead_tree__with_place).col, ("lead_tree.<locals>.with_place" : Str)), ((defP n_in_tree__answer).line, (defP n_in_tree__answer).col, ("in_tree.<locals>.answer" : Str)), ((defP n_in_tree__answer__with_labels).line, (defP n_in_tree__answer__with_labels).col, ("in_tree.<locals>.answer.<locals>.with_labels" : Str)), ((lamP n_in_tree__answer__l0).line, (lamP n_in_tree__answer__l0).col, ("in_tree.<locals>.answer.<locals>.<lambda>" : Str)), ((lamP n_in_tree__l0).line, (lamP n_in_tree__l0).col, ("in_tree.<locals>.<lambda>" : Str)), ((defP n_lead_counter__with_answers).line, (defP n_lead_counter__with_answers).col, ("lead_counter.<locals>.with_answers" : Str)), ((lamP n_lead_counter__with_answers__l0).line, (lamP n_lead_counter__with_answers__l0).col, ("lead_counter.<locals>.with_answers.<locals>.<lambda>" : Str)), ((defP n_lead_marks__answer).line, (defP n_lead_marks__answer).col, ("lead_marks.<locals>.answer" : Str)), ((lamP n_lead_marks__answer__l0).line, (lamP n_lead_marks__answer__l0).col, ("lead_marks.<locals>.answer.<locals>.<lambda>" : Str)), ((defP n_lead_marks__finish).line, (defP n_lead_marks__finish).col, ("lead_marks.<locals>.finish" : Str)), ((lamP n_lead_marks__finish__l0).line, (lamP n_lead_marks__finish__l0).col, ("lead_marks.<locals>.finish.<locals>.<lambda>" : Str)), ((defP n_lead_secrets__with_bit).line, (defP n_lead_secrets__with_bit).col, ("lead_secrets.<locals>.with_bit" : Str)), ((defP n_lead_secrets__with_bit__answer).line, (defP n_lead_secrets__with_bit__answer).col, ("lead_secrets.<locals>.with_bit.<locals>.answer" : Str)), ((lamP n_lead_secrets__with_bit__answer__l0).line, (lamP n_lead_secrets__with_bit__answer__l0).col, ("lead_secrets.<locals>.with_bit.<locals>.answer.<locals>.<lambda>" : Str)), ((lamP n_lead_secrets__with_bit__answer__l0__l0).line, (lamP n_lead_secrets__with_bit__answer__l0__l0).col, ("lead_secrets.<locals>.with_bit.<locals>.answer.<locals>.<lambda>.<locals>.<lambda>" : Str)), ((lamP n_lead_secrets__with_bit__l0).line, (lamP n_lead_secrets__with_bit__l0).col, ("lead_secrets.<locals>.with_bit.<locals>.<lambda>" : Str)), ((defP n_lead_once__with_bit).line, (defP n_lead_once__with_bit).col, ("lead_once.<locals>.with_bit" : Str)), ((defP n_lead_once__with_bit__answer).line, (defP n_lead_once__with_bit__answer).col, ("lead_once.<locals>.with_bit.<locals>.answer" : Str)), ((lamP n_lead_once__with_bit__l0).line, (lamP n_lead_once__with_bit__l0).col, ("lead_once.<locals>.with_bit.<locals>.<lambda>" : Str)), ((defP n_lead_opening__with_bit).line, (defP n_lead_opening__with_bit).col, ("lead_opening.<locals>.with_bit" : Str)), ((lamP n_lead_opening__with_bit__l0).line, (lamP n_lead_opening__with_bit__l0).col, ("lead_opening.<locals>.with_bit.<locals>.<lambda>" : Str)), ((defP n_lead_next__with_rest).line, (defP n_lead_next__with_rest).col, ("lead_next.<locals>.with_rest" : Str)), ((lamP n_lead_next__with_rest__l0).line, (lamP n_lead_next__with_rest__l0).col, ("lead_next.<locals>.with_rest.<locals>.<lambda>" : Str)), ((defP n_lead_guess__with_place).line, (defP n_lead_guess__with_place).col, ("lead_guess.<locals>.with_place" : Str)), ((lamP n_lead_guess__with_place__l0).line, (lamP n_lead_guess__with_place__l0).col, ("lead_guess.<locals>.with_place.<locals>.<lambda>" : Str)), ((defP n_lead_onetime__with_place).line, (defP n_lead_onetime__with_place).col, ("lead_onetime.<locals>.with_place" : Str)), ((lamP n_lead_onetime__with_place__l0).line, (lamP n_lead_onetime__with_place__l0).col, ("lead_onetime.<locals>.with_place.<locals>.<lambda>" : Str)), ((defP n_lead_onetime__with_strings).line, (defP n_lead_onetime__with_strings).col, ("lead_onetime.<locals>.with_strings" : Str)), ((defP n_lead_onetime__with_strings__answer).line, (defP n_lead_onetime__with_strings__answer).col, ("lead_onetime.<locals>.with_strings.<locals>.answer" : Str)), ((defP n_lead_onetime__with_strings__finish).line, (defP n_lead_onetime__with_strings__finish).col, ("lead_onetime.<locals>.with_strings.<locals>.finish" : Str)), ((lamP n_lead_bit__l0).line, (lamP n_lead_bit__l0).col, ("lead_bit.<locals>.<lambda>" : Str)), ((lamP n_lead_bit__l0__l0).line, (lamP n_lead_bit__l0__l0).col, ("lead_bit.<locals>.<lambda>.<locals>.<lambda>" : Str)), ((defP n_lead_hard__begun).line, (defP n_lead_hard__begun).col, ("lead_hard.<locals>.begun" : Str)), ((lamP n_lead_hard__l0).line, (lamP n_lead_hard__l0).col, ("lead_hard.<locals>.<lambda>" : Str)), ((lamP n_guesses__l0).line, (lamP n_guesses__l0).col, ("guesses.<locals>.<lambda>" : Str)), ((lamP n_pick__l0).line, (lamP n_pick__l0).col, ("pick.<locals>.<lambda>" : Str)), ((lamP n_run_plain__l0).line, (lamP n_run_plain__l0).col, ("run_plain.<locals>.<lambda>" : Str)), ((lamP n_run_plain__l1).line, (lamP n_run_plain__l1).col, ("run_plain.<locals>.<lambda>" : Str)), ((lamP n_run__l0).line, (lamP n_run__l0).col, ("run.<locals>.<lambda>" : Str)), ((lamP n_guesses_bit__l0).line, (lamP n_guesses_bit__l0).col, ("guesses_bit.<locals>.<lambda>" : Str)), ((lamP n_draw_row__l0).line, (lamP n_draw_row__l0).col, ("draw_row.<locals>.<lambda>" : Str)), ((lamP n_draw_function__l0).line, (lamP n_draw_function__l0).col, ("draw_function.<locals>.<lambda>" : Str)), ((lamP n_value_at__l0).line, (lamP n_value_at__l0).col, ("value_at.<locals>.<lambda>" : Str)), ((lamP n_generator_game__l0).line, (lamP n_generator_game__l0).col, ("generator_game.<locals>.<lambda>" : Str)), ((lamP n_function_game__l0).line, (lamP n_function_game__l0).col, ("function_game.<locals>.<lambda>" : Str)), ((defP n_permutation_game__answer).line, (defP n_permutation_game__answer).col, ("permutation_game.<locals>.answer" : Str)), ((lamP n_permutation_game__answer__l0).line, (lamP n_permutation_game__answer__l0).col, ("permutation_game.<locals>.answer.<locals>.<lambda>" : Str)), ((defP n_swaps_game__answer).line, (defP n_swaps_game__answer).col, ("swaps_game.<locals>.answer" : Str)), ((defP n_swap__swapped).line, (defP n_swap__swapped).col, ("swap.<locals>.swapped" : Str)), ((defP n_marks_game__judge).line, (defP n_marks_game__judge).col, ("marks_game.<locals>.judge" : Str)), ((lamP n_marks_game__judge__l0).line, (lamP n_marks_game__judge__l0).col, ("marks_game.<locals>.judge.<locals>.<lambda>" : Str)), ((lamP n_marks_game__l0).line, (lamP n_marks_game__l0).col, ("marks_game.<locals>.<lambda>" : Str)), ((lamP n_secrets_game__l0).line, (lamP n_secrets_game__l0).col, ("secrets_game.<locals>.<lambda>" : Str)), ((defP n_hide_by__answer).line, (defP n_hide_by__answer).col, ("hide_by.<locals>.answer" : Str)), ((defP n_hide_by__answer__with_string).line, (defP n_hide_by__answer__with_string).col, ("hide_by.<locals>.answer.<locals>.with_string" : Str)), ((lamP n_hide_by__answer__with_string__l0).line, (lamP n_hide_by__answer__with_string__l0).col, ("hide_by.<locals>.answer.<locals>.with_string.<locals>.<lambda>" : Str)), ((defP n_once_game__answer).line, (defP n_once_game__answer).col, ("once_game.<locals>.answer" : Str)), ((lamP n_once_game__l0).line, (lamP n_once_game__l0).col, ("once_game.<locals>.<lambda>" : Str)), ((defP n_opening_game__with_row).line, (defP n_opening_game__with_row).col, ("opening_game.<locals>.with_row" : Str)), ((defP n_next_game__with_place).line, (defP n_next_game__with_place).col, ("next_game.<locals>.with_place" : Str)), ((lamP n_next_game__with_place__l0).line, (lamP n_next_game__with_place__l0).col, ("next_game.<locals>.with_place.<locals>.<lambda>" : Str)), ((defP n_inverse_game__with_row).line, (defP n_inverse_game__with_row).col, ("inverse_game.<locals>.with_row" : Str)), ((defP n_inverse_game__with_row__judge).line, (defP n_inverse_game__with_row__judge).col, ("inverse_game.<locals>.with_row.<locals>.judge" : Str)), ((defP n_onetime_game__answer_with).line, (defP n_onetime_game__answer_with).col, ("onetime_game.<locals>.answer_with" : Str)), ((defP n_onetime_game__answer_with__answer).line, (defP n_onetime_game__answer_with__answer).col, ("onetime_game.<locals>.answer_with.<locals>.answer" : Str)), ((defP n_onetime_game__with_strings).line, (defP n_onetime_game__with_strings).col, ("onetime_game.<locals>.with_strings" : Str)), ((defP n_onetime_game__with_strings__judge).line, (defP n_onetime_game__with_strings__judge).col, ("onetime_game.<locals>.with_strings.<locals>.judge" : Str)), ((defP n_hard_game__with_strings).line, (defP n_hard_game__with_strings).col, ("hard_game.<locals>.with_strings" : Str)), ((defP n_contest__meet).line, (defP n_contest__meet).col, ("contest.<locals>.meet" : Str)), ((defP n_contest__meet__note).line, (defP n_contest__meet__note).col, ("contest.<locals>.meet.<locals>.note" : Str)), ((lamP n_contest__meet__note__l0).line, (lamP n_contest__meet__note__l0).col, ("contest.<locals>.meet.<locals>.note.<locals>.<lambda>" : Str)), ((defP n_contest__meet__finish).line, (defP n_contest__meet__finish).col, ("contest.<locals>.meet.<locals>.finish" : Str)), ((lamP n_contest__meet__finish__l0).line, (lamP n_contest__meet__finish__l0).col, ("contest.<locals>.meet.<locals>.finish.<locals>.<lambda>" : Str))]
def NM (l c : Nat) : Str := ((nmT.find? fun p => p.1 == l && p.2.1 == c).map (·.2.2)).getD ""
theorem nm_draw_bits__l0 : NM (lamP n_draw_bits__l0).line (lamP n_draw_bits__l0).col = (("draw_bits" : Str) ++ ".<locals>.") ++ "<lambda>" := by decide +kernel
theorem nm_draw_strings__l0 : NM (lamP n_draw_strings__l0).line (lamP n_draw_strings__l0).col = (("draw_strings" : Str) ++ ".<locals>.") ++ "<lambda>" := by decide +kernel
theorem nm_after__l0 : NM (lamP n_after__l0).line (lamP n_after__l0).col = (("after" : Str) ++ ".<locals>.") ++ "<lambda>" := by decide +kernel
theorem nm_serve__l0 : NM (lamP n_serve__l0).line (lamP n_serve__l0).col = (("serve" : Str) ++ ".<locals>.") ++ "<lambda>" := by decide +kernel
theorem nm_serve__l1 : NM (lamP n_serve__l1).line (lamP n_serve__l1).col = (("serve" : Str) ++ ".<locals>.") ++ "<lambda>" := by decide +kernel
theorem nm_lead_longer__with_place : NM (defP n_lead_longer__with_place).line (defP n_lead_longer__with_place).col = (("lead_longer" : Str) ++ ".<locals>.") ++ "with_place" := by decide +kernel
theorem nm_lead_longer__with_place__l0 : NM (lamP n_lead_longer__with_place__l0).line (lamP n_lead_longer__with_place__l0).col = (((("lead_longer" : Str) ++ ".<locals>.") ++ "with_place") ++ ".<locals>.") ++ "<lambda>" := by decide +kernel
theorem nm_lead_tree__with_place : NM (defP n_lead_tree__with_place).line (defP n_lead_tree__with_place).col = (("lead_tree" : Str) ++ ".<locals>.") ++ "with_place" := by decide +kernel
theorem nm_in_tree__answer : NM (defP n_in_tree__answer).line (defP n_in_tree__answer).col = (("in_tree" : Str) ++ ".<locals>.") ++ "answer" := by decide +kernel
theorem nm_in_tree__answer__with_labels : NM (defP n_in_tree__answer__with_labels).line (defP n_in_tree__answer__with_labels).col = (((("in_tree" : Str) ++ ".<locals>.") ++ "answer") ++ ".<locals>.") ++ "with_labels" := by decide +kernel
theorem nm_in_tree__answer__l0 : NM (lamP n_in_tree__answer__l0).line (lamP n_in_tree__answer__l0).col = (((("in_tree" : Str) ++ ".<locals>.") ++ "answer") ++ ".<locals>.") ++ "<lambda>" := by decide +kernel
theorem nm_in_tree__l0 : NM (lamP n_in_tree__l0).line (lamP n_in_tree__l0).col = (("in_tree" : Str) ++ ".<locals>.") ++ "<lambda>" := by decide +kernel
theorem nm_lead_counter__with_answers : NM (defP n_lead_counter__with_answers).line (defP n_lead_counter__with_answers).col = (("lead_counter" : Str) ++ ".<locals>.") ++ "with_answers" := by decide +kernel
theorem nm_lead_counter__with_answers__l0 : NM (lamP n_lead_counter__with_answers__l0).line (lamP n_lead_counter__with_answers__l0).col = (((("lead_counter" : Str) ++ ".<locals>.") ++ "with_answers") ++ ".<locals>.") ++ "<lambda>" := by decide +kernel
theorem nm_lead_marks__answer : NM (defP n_lead_marks__answer).line (defP n_lead_marks__answer).col = (("lead_marks" : Str) ++ ".<locals>.") ++ "answer" := by decide +kernel
theorem nm_lead_marks__answer__l0 : NM (lamP n_lead_marks__answer__l0).line (lamP n_lead_marks__answer__l0).col = (((("lead_marks" : Str) ++ ".<locals>.") ++ "answer") ++ ".<locals>.") ++ "<lambda>" := by decide +kernel
theorem nm_lead_marks__finish : NM (defP n_lead_marks__finish).line (defP n_lead_marks__finish).col = (("lead_marks" : Str) ++ ".<locals>.") ++ "finish" := by decide +kernel
theorem nm_lead_marks__finish__l0 : NM (lamP n_lead_marks__finish__l0).line (lamP n_lead_marks__finish__l0).col = (((("lead_marks" : Str) ++ ".<locals>.") ++ "finish") ++ ".<locals>.") ++ "<lambda>" := by decide +kernel
theorem nm_lead_secrets__with_bit : NM (defP n_lead_secrets__with_bit).line (defP n_lead_secrets__with_bit).col = (("lead_secrets" : Str) ++ ".<locals>.") ++ "with_bit" := by decide +kernel
theorem nm_lead_secrets__with_bit__answer : NM (defP n_lead_secrets__with_bit__answer).line (defP n_lead_secrets__with_bit__answer).col = (((("lead_secrets" : Str) ++ ".<locals>.") ++ "with_bit") ++ ".<locals>.") ++ "answer" := by decide +kernel
theorem nm_lead_secrets__with_bit__answer__l0 : NM (lamP n_lead_secrets__with_bit__answer__l0).line (lamP n_lead_secrets__with_bit__answer__l0).col = (((((("lead_secrets" : Str) ++ ".<locals>.") ++ "with_bit") ++ ".<locals>.") ++ "answer") ++ ".<locals>.") ++ "<lambda>" := by decide +kernel
theorem nm_lead_secrets__with_bit__answer__l0__l0 : NM (lamP n_lead_secrets__with_bit__answer__l0__l0).line (lamP n_lead_secrets__with_bit__answer__l0__l0).col = (((((((("lead_secrets" : Str) ++ ".<locals>.") ++ "with_bit") ++ ".<locals>.") ++ "answer") ++ ".<locals>.") ++ "<lambda>") ++ ".<locals>.") ++ "<lambda>" := by decide +kernel
theorem nm_lead_secrets__with_bit__l0 : NM (lamP n_lead_secrets__with_bit__l0).line (lamP n_lead_secrets__with_bit__l0).col = (((("lead_secrets" : Str) ++ ".<locals>.") ++ "with_bit") ++ ".<locals>.") ++ "<lambda>" := by decide +kernel
theorem nm_lead_once__with_bit : NM (defP n_lead_once__with_bit).line (defP n_lead_once__with_bit).col = (("lead_once" : Str) ++ ".<locals>.") ++ "with_bit" := by decide +kernel
theorem nm_lead_once__with_bit__answer : NM (defP n_lead_once__with_bit__answer).line (defP n_lead_once__with_bit__answer).col = (((("lead_once" : Str) ++ ".<locals>.") ++ "with_bit") ++ ".<locals>.") ++ "answer" := by decide +kernel
theorem nm_lead_once__with_bit__l0 : NM (lamP n_lead_once__with_bit__l0).line (lamP n_lead_once__with_bit__l0).col = (((("lead_once" : Str) ++ ".<locals>.") ++ "with_bit") ++ ".<locals>.") ++ "<lambda>" := by decide +kernel
theorem nm_lead_opening__with_bit : NM (defP n_lead_opening__with_bit).line (defP n_lead_opening__with_bit).col = (("lead_opening" : Str) ++ ".<locals>.") ++ "with_bit" := by decide +kernel
theorem nm_lead_opening__with_bit__l0 : NM (lamP n_lead_opening__with_bit__l0).line (lamP n_lead_opening__with_bit__l0).col = (((("lead_opening" : Str) ++ ".<locals>.") ++ "with_bit") ++ ".<locals>.") ++ "<lambda>" := by decide +kernel
theorem nm_lead_next__with_rest : NM (defP n_lead_next__with_rest).line (defP n_lead_next__with_rest).col = (("lead_next" : Str) ++ ".<locals>.") ++ "with_rest" := by decide +kernel
theorem nm_lead_next__with_rest__l0 : NM (lamP n_lead_next__with_rest__l0).line (lamP n_lead_next__with_rest__l0).col = (((("lead_next" : Str) ++ ".<locals>.") ++ "with_rest") ++ ".<locals>.") ++ "<lambda>" := by decide +kernel
theorem nm_lead_guess__with_place : NM (defP n_lead_guess__with_place).line (defP n_lead_guess__with_place).col = (("lead_guess" : Str) ++ ".<locals>.") ++ "with_place" := by decide +kernel
theorem nm_lead_guess__with_place__l0 : NM (lamP n_lead_guess__with_place__l0).line (lamP n_lead_guess__with_place__l0).col = (((("lead_guess" : Str) ++ ".<locals>.") ++ "with_place") ++ ".<locals>.") ++ "<lambda>" := by decide +kernel
theorem nm_lead_onetime__with_place : NM (defP n_lead_onetime__with_place).line (defP n_lead_onetime__with_place).col = (("lead_onetime" : Str) ++ ".<locals>.") ++ "with_place" := by decide +kernel
theorem nm_lead_onetime__with_place__l0 : NM (lamP n_lead_onetime__with_place__l0).line (lamP n_lead_onetime__with_place__l0).col = (((("lead_onetime" : Str) ++ ".<locals>.") ++ "with_place") ++ ".<locals>.") ++ "<lambda>" := by decide +kernel
theorem nm_lead_onetime__with_strings : NM (defP n_lead_onetime__with_strings).line (defP n_lead_onetime__with_strings).col = (("lead_onetime" : Str) ++ ".<locals>.") ++ "with_strings" := by decide +kernel
theorem nm_lead_onetime__with_strings__answer : NM (defP n_lead_onetime__with_strings__answer).line (defP n_lead_onetime__with_strings__answer).col = (((("lead_onetime" : Str) ++ ".<locals>.") ++ "with_strings") ++ ".<locals>.") ++ "answer" := by decide +kernel
theorem nm_lead_onetime__with_strings__finish : NM (defP n_lead_onetime__with_strings__finish).line (defP n_lead_onetime__with_strings__finish).col = (((("lead_onetime" : Str) ++ ".<locals>.") ++ "with_strings") ++ ".<locals>.") ++ "finish" := by decide +kernel
theorem nm_lead_bit__l0 : NM (lamP n_lead_bit__l0).line (lamP n_lead_bit__l0).col = (("lead_bit" : Str) ++ ".<locals>.") ++ "<lambda>" := by decide +kernel
theorem nm_lead_bit__l0__l0 : NM (lamP n_lead_bit__l0__l0).line (lamP n_lead_bit__l0__l0).col = (((("lead_bit" : Str) ++ ".<locals>.") ++ "<lambda>") ++ ".<locals>.") ++ "<lambda>" := by decide +kernel
theorem nm_lead_hard__begun : NM (defP n_lead_hard__begun).line (defP n_lead_hard__begun).col = (("lead_hard" : Str) ++ ".<locals>.") ++ "begun" := by decide +kernel
theorem nm_lead_hard__l0 : NM (lamP n_lead_hard__l0).line (lamP n_lead_hard__l0).col = (("lead_hard" : Str) ++ ".<locals>.") ++ "<lambda>" := by decide +kernel
theorem nm_guesses__l0 : NM (lamP n_guesses__l0).line (lamP n_guesses__l0).col = (("guesses" : Str) ++ ".<locals>.") ++ "<lambda>" := by decide +kernel
theorem nm_pick__l0 : NM (lamP n_pick__l0).line (lamP n_pick__l0).col = (("pick" : Str) ++ ".<locals>.") ++ "<lambda>" := by decide +kernel
theorem nm_run_plain__l0 : NM (lamP n_run_plain__l0).line (lamP n_run_plain__l0).col = (("run_plain" : Str) ++ ".<locals>.") ++ "<lambda>" := by decide +kernel
theorem nm_run_plain__l1 : NM (lamP n_run_plain__l1).line (lamP n_run_plain__l1).col = (("run_plain" : Str) ++ ".<locals>.") ++ "<lambda>" := by decide +kernel
theorem nm_run__l0 : NM (lamP n_run__l0).line (lamP n_run__l0).col = (("run" : Str) ++ ".<locals>.") ++ "<lambda>" := by decide +kernel
theorem nm_guesses_bit__l0 : NM (lamP n_guesses_bit__l0).line (lamP n_guesses_bit__l0).col = (("guesses_bit" : Str) ++ ".<locals>.") ++ "<lambda>" := by decide +kernel
theorem nm_draw_row__l0 : NM (lamP n_draw_row__l0).line (lamP n_draw_row__l0).col = (("draw_row" : Str) ++ ".<locals>.") ++ "<lambda>" := by decide +kernel
theorem nm_draw_function__l0 : NM (lamP n_draw_function__l0).line (lamP n_draw_function__l0).col = (("draw_function" : Str) ++ ".<locals>.") ++ "<lambda>" := by decide +kernel
theorem nm_value_at__l0 : NM (lamP n_value_at__l0).line (lamP n_value_at__l0).col = (("value_at" : Str) ++ ".<locals>.") ++ "<lambda>" := by decide +kernel
theorem nm_generator_game__l0 : NM (lamP n_generator_game__l0).line (lamP n_generator_game__l0).col = (("generator_game" : Str) ++ ".<locals>.") ++ "<lambda>" := by decide +kernel
theorem nm_function_game__l0 : NM (lamP n_function_game__l0).line (lamP n_function_game__l0).col = (("function_game" : Str) ++ ".<locals>.") ++ "<lambda>" := by decide +kernel
theorem nm_permutation_game__answer : NM (defP n_permutation_game__answer).line (defP n_permutation_game__answer).col = (("permutation_game" : Str) ++ ".<locals>.") ++ "answer" := by decide +kernel
theorem nm_permutation_game__answer__l0 : NM (lamP n_permutation_game__answer__l0).line (lamP n_permutation_game__answer__l0).col = (((("permutation_game" : Str) ++ ".<locals>.") ++ "answer") ++ ".<locals>.") ++ "<lambda>" := by decide +kernel
theorem nm_swaps_game__answer : NM (defP n_swaps_game__answer).line (defP n_swaps_game__answer).col = (("swaps_game" : Str) ++ ".<locals>.") ++ "answer" := by decide +kernel
theorem nm_swap__swapped : NM (defP n_swap__swapped).line (defP n_swap__swapped).col = (("swap" : Str) ++ ".<locals>.") ++ "swapped" := by decide +kernel
theorem nm_marks_game__judge : NM (defP n_marks_game__judge).line (defP n_marks_game__judge).col = (("marks_game" : Str) ++ ".<locals>.") ++ "judge" := by decide +kernel
theorem nm_marks_game__judge__l0 : NM (lamP n_marks_game__judge__l0).line (lamP n_marks_game__judge__l0).col = (((("marks_game" : Str) ++ ".<locals>.") ++ "judge") ++ ".<locals>.") ++ "<lambda>" := by decide +kernel
theorem nm_marks_game__l0 : NM (lamP n_marks_game__l0).line (lamP n_marks_game__l0).col = (("marks_game" : Str) ++ ".<locals>.") ++ "<lambda>" := by decide +kernel
theorem nm_secrets_game__l0 : NM (lamP n_secrets_game__l0).line (lamP n_secrets_game__l0).col = (("secrets_game" : Str) ++ ".<locals>.") ++ "<lambda>" := by decide +kernel
theorem nm_hide_by__answer : NM (defP n_hide_by__answer).line (defP n_hide_by__answer).col = (("hide_by" : Str) ++ ".<locals>.") ++ "answer" := by decide +kernel
theorem nm_hide_by__answer__with_string : NM (defP n_hide_by__answer__with_string).line (defP n_hide_by__answer__with_string).col = (((("hide_by" : Str) ++ ".<locals>.") ++ "answer") ++ ".<locals>.") ++ "with_string" := by decide +kernel
theorem nm_hide_by__answer__with_string__l0 : NM (lamP n_hide_by__answer__with_string__l0).line (lamP n_hide_by__answer__with_string__l0).col = (((((("hide_by" : Str) ++ ".<locals>.") ++ "answer") ++ ".<locals>.") ++ "with_string") ++ ".<locals>.") ++ "<lambda>" := by decide +kernel
theorem nm_once_game__answer : NM (defP n_once_game__answer).line (defP n_once_game__answer).col = (("once_game" : Str) ++ ".<locals>.") ++ "answer" := by decide +kernel
theorem nm_once_game__l0 : NM (lamP n_once_game__l0).line (lamP n_once_game__l0).col = (("once_game" : Str) ++ ".<locals>.") ++ "<lambda>" := by decide +kernel
theorem nm_opening_game__with_row : NM (defP n_opening_game__with_row).line (defP n_opening_game__with_row).col = (("opening_game" : Str) ++ ".<locals>.") ++ "with_row" := by decide +kernel
theorem nm_next_game__with_place : NM (defP n_next_game__with_place).line (defP n_next_game__with_place).col = (("next_game" : Str) ++ ".<locals>.") ++ "with_place" := by decide +kernel
theorem nm_next_game__with_place__l0 : NM (lamP n_next_game__with_place__l0).line (lamP n_next_game__with_place__l0).col = (((("next_game" : Str) ++ ".<locals>.") ++ "with_place") ++ ".<locals>.") ++ "<lambda>" := by decide +kernel
theorem nm_inverse_game__with_row : NM (defP n_inverse_game__with_row).line (defP n_inverse_game__with_row).col = (("inverse_game" : Str) ++ ".<locals>.") ++ "with_row" := by decide +kernel
theorem nm_inverse_game__with_row__judge : NM (defP n_inverse_game__with_row__judge).line (defP n_inverse_game__with_row__judge).col = (((("inverse_game" : Str) ++ ".<locals>.") ++ "with_row") ++ ".<locals>.") ++ "judge" := by decide +kernel
theorem nm_onetime_game__answer_with : NM (defP n_onetime_game__answer_with).line (defP n_onetime_game__answer_with).col = (("onetime_game" : Str) ++ ".<locals>.") ++ "answer_with" := by decide +kernel
theorem nm_onetime_game__answer_with__answer : NM (defP n_onetime_game__answer_with__answer).line (defP n_onetime_game__answer_with__answer).col = (((("onetime_game" : Str) ++ ".<locals>.") ++ "answer_with") ++ ".<locals>.") ++ "answer" := by decide +kernel
theorem nm_onetime_game__with_strings : NM (defP n_onetime_game__with_strings).line (defP n_onetime_game__with_strings).col = (("onetime_game" : Str) ++ ".<locals>.") ++ "with_strings" := by decide +kernel
theorem nm_onetime_game__with_strings__judge : NM (defP n_onetime_game__with_strings__judge).line (defP n_onetime_game__with_strings__judge).col = (((("onetime_game" : Str) ++ ".<locals>.") ++ "with_strings") ++ ".<locals>.") ++ "judge" := by decide +kernel
theorem nm_hard_game__with_strings : NM (defP n_hard_game__with_strings).line (defP n_hard_game__with_strings).col = (("hard_game" : Str) ++ ".<locals>.") ++ "with_strings" := by decide +kernel
theorem nm_contest__meet : NM (defP n_contest__meet).line (defP n_contest__meet).col = (("contest" : Str) ++ ".<locals>.") ++ "meet" := by decide +kernel
theorem nm_contest__meet__note : NM (defP n_contest__meet__note).line (defP n_contest__meet__note).col = (((("contest" : Str) ++ ".<locals>.") ++ "meet") ++ ".<locals>.") ++ "note" := by decide +kernel
theorem nm_contest__meet__note__l0 : NM (lamP n_contest__meet__note__l0).line (lamP n_contest__meet__note__l0).col = (((((("contest" : Str) ++ ".<locals>.") ++ "meet") ++ ".<locals>.") ++ "note") ++ ".<locals>.") ++ "<lambda>" := by decide +kernel
theorem nm_contest__meet__finish : NM (defP n_contest__meet__finish).line (defP n_contest__meet__finish).col = (((("contest" : Str) ++ ".<locals>.") ++ "meet") ++ ".<locals>.") ++ "finish" := by decide +kernel
theorem nm_contest__meet__finish__l0 : NM (lamP n_contest__meet__finish__l0).line (lamP n_contest__meet__finish__l0).col = (((((("contest" : Str) ++ ".<locals>.") ++ "meet") ++ ".<locals>.") ++ "finish") ++ ".<locals>.") ++ "<lambda>" := by decide +kernel
structure Txt (K : PySem.W.Frag) (w : World) (mg : Str → Option Value) (cs : Cs) : Prop where
  n_abs : mg "abs" = none
  n_all : mg "all" = none
  n_bool : mg "bool" = none
  n_int : mg "int" = none
  n_isinstance : mg "isinstance" = none
  n_len : mg "len" = none
  n_list : mg "list" = none
  n_range : mg "range" = none
  n_str : mg "str" = none
  n_sum : mg "sum" = none
  n_tuple : mg "tuple" = none
  n_zip : mg "zip" = none
  n_max : mg "max" = none
  n_min : mg "min" = none
  n_ValueError : mg "ValueError" = none
  g_MOST_BITS : ∃ u, mg "MOST_BITS" = some u ∧ RelV (.int 40) u
  g_DEEPEST_PLAIN : ∃ u, mg "DEEPEST_PLAIN" = some u ∧ RelV (.int 60) u
  g_MOST_WITHIN : ∃ u, mg "MOST_WITHIN" = some u ∧ RelV (.int 2000) u
  g_MOST_TOSSED : ∃ u, mg "MOST_TOSSED" = some u ∧ RelV (.int 64) u
  g_LAST_BIT : ∃ u, mg "LAST_BIT" = some u ∧ RelV (.int 9999) u
  g_DEEPEST_MADE : ∃ u, mg "DEEPEST_MADE" = some u ∧ RelV (.int 20) u
  gl_BadBreaker : mg "BadBreaker" = some (.ref cs.BadBreaker)
  gl_BadGame : mg "BadGame" = some (.ref cs.BadGame)
  gl_BadChoice : mg "BadChoice" = some (.ref cs.BadChoice)
  gl_BreakError : mg "BreakError" = some (.ref cs.BreakError)
  gl_NUMBERS : mg "NUMBERS" = some (.ref cs.NUMBERS)
  gl_FITTING : mg "FITTING" = some (.ref cs.FITTING)
  gl_PARTS : mg "PARTS" = some (.ref cs.PARTS)
  gl_BOUNDS : mg "BOUNDS" = some (.ref cs.BOUNDS)
  gl_LEADERS : mg "LEADERS" = some (.ref cs.LEADERS)
  gl_RULES : mg "RULES" = some (.ref cs.RULES)
  gl_Play : mg "Play" = some (.ref cs.Play)
  dk_NUMBERS : DictK K w cs.NUMBERS numK (numR K)
  dk_FITTING : DictK K w cs.FITTING fitK (fitR mg)
  dk_PARTS : DictK K w cs.PARTS gameK (partR K)
  dk_BOUNDS : DictK K w cs.BOUNDS boundK (boundR K)
  dk_LEADERS : DictK K w cs.LEADERS leadK (leadR mg)
  dk_RULES : DictK K w cs.RULES gameK (ruleR mg)
  x_BadBreaker : Exn K mg "BadBreaker" cs.BadBreaker
  x_BadGame : Exn K mg "BadGame" cs.BadGame
  x_BadChoice : Exn K mg "BadChoice" cs.BadChoice
  exm_BadBreaker_BadBreaker : PySem.W.exmOne K (.ref cs.BadBreaker) (.ref cs.BadBreaker) = some true

end
section
/-! ### the dicts of the made breakers, read off the written part -/
def intB (u : Value) (i : Int) : Bool := match u with
  | .int j _ => decide (j = i)
  | _ => false
def tupB2 (K : PySem.W.Frag) (u : Value) (b : Int × Int) : Bool := match u with
  | .ref a => (match K.lookup a with
    | some ⟨.type c, _, .seq its _, _⟩ => decide (c = "tuple") && (match its.toList with
      | [x, y] => intB x b.1 && intB y b.2
      | _ => false)
    | _ => false)
  | _ => false
def allB (K : PySem.W.Frag) : List Value → List (Int × Int) → Bool
  | [], [] => true
  | u :: us, b :: bs => tupB2 K u b && allB K us bs
  | _, _ => false
def tupPB (K : PySem.W.Frag) (u : Value) (bs : List (Int × Int)) : Bool := match u with
  | .ref a => (match K.lookup a with
    | some ⟨.type c, _, .seq its _, _⟩ => decide (c = "tuple") && (decide (its.toList.length ≤ 100) && allB K its.toList bs)
    | _ => false)
  | _ => false
def numB (K : PySem.W.Frag) : List DictEntry → List Str → Bool
  | [], [] => true
  | e :: es, k :: ks => (match e.key with
    | .str x _ => decide (x = k)
    | _ => false) && (tupPB K e.val (numOf k) && numB K es ks)
  | _, _ => false
theorem intB_ok {u : Value} {i : Int} (h : intB u i = true) : RelV (.int i) u := by
  unfold intB at h
  split at h
  · rename_i j t
    rw [of_decide_eq_true h]
    exact ⟨_, rfl⟩
  · cases h
theorem tupB2_ok {K : PySem.W.Frag} {u : Value} {b : Int × Int} (h : tupB2 K u b = true) : ∃ a, u = .ref a ∧ ∀ H, Dp K H (.ref a) (pairD b) := by
  unfold tupB2 at h
  split at h
  · rename_i a
    refine ⟨a, rfl, ?_⟩
    split at h
    · rename_i c dd its n sl e
      rw [Bool.and_eq_true, decide_eq_true_eq] at h
      obtain ⟨rfl, h⟩ := h
      split at h
      · rename_i x y e2
        rw [Bool.and_eq_true] at h
        have hs : its.size ≤ sizeLine := by
          rw [← Array.length_toList, e2]
          show 2 ≤ sizeLine
          decide
        exact fun H => .tup (.inr ⟨_, its, n, e, rfl, rfl, hs, by rw [e2]; exact .cons (intB_ok h.1) (.cons (intB_ok h.2) .nil)⟩) (.cons (.int _) (.cons (.int _) .nil))
      · cases h
    · cases h
  · cases h
theorem allB_ok {K : PySem.W.Frag} : ∀ {us : List Value} {bs : List (Int × Int)}, allB K us bs = true → ∃ vs : List V, Vals vs us ∧ ∀ H, DpAll K H vs (bs.map pairD)
  | [], [], _ => ⟨[], .nil, fun _ => .nil⟩
  | [], _ :: _, h => by cases h
  | _ :: _, [], h => by cases h
  | u :: us, b :: bs, h => by
    have h' : (tupB2 K u b && allB K us bs) = true := h
    rw [Bool.and_eq_true] at h'
    obtain ⟨a, rfl, h1⟩ := tupB2_ok h'.1
    obtain ⟨vs, h2, h3⟩ := allB_ok h'.2
    exact ⟨.ref a :: vs, .cons rfl h2, fun H => .cons (h1 H) (h3 H)⟩
theorem tupPB_ok {K : PySem.W.Frag} {u : Value} {bs : List (Int × Int)} (h : tupPB K u bs = true) : ∃ a, u = .ref a ∧ ∀ H, Dp K H (.ref a) (pairsD bs) := by
  unfold tupPB at h
  split at h
  · rename_i a
    refine ⟨a, rfl, ?_⟩
    split at h
    · rename_i c dd its n sl e
      rw [Bool.and_eq_true, Bool.and_eq_true, decide_eq_true_eq, decide_eq_true_eq] at h
      obtain ⟨rfl, hl, h⟩ := h
      obtain ⟨vs, h2, h3⟩ := allB_ok h
      have hs : its.size ≤ sizeLine := by
        rw [← Array.length_toList, sizeLine_eq]
        omega
      exact fun H => .tup (.inr ⟨_, its, n, e, rfl, rfl, hs, h2⟩) (h3 H)
    · cases h
  · cases h
theorem numB_ok {K : PySem.W.Frag} : ∀ {es : List DictEntry} {ks : List Str}, numB K es ks = true → KeysAre (numR K) es ks
  | [], [], _ => .nil
  | [], _ :: _, h => by cases h
  | _ :: _, [], h => by cases h
  | e :: es, k :: ks, h => by
    have h' : ((match e.key with
      | .str x _ => decide (x = k)
      | _ => false) && (tupPB K e.val (numOf k) && numB K es ks)) = true := h
    rw [Bool.and_eq_true, Bool.and_eq_true] at h'
    obtain ⟨h1, h2, h3⟩ := h'
    obtain ⟨a, ea, ha⟩ := tupPB_ok h2
    split at h1
    · rename_i x t ek
      rw [of_decide_eq_true h1] at ek
      exact .cons ek ⟨a, ea, ha⟩ (numB_ok h3)
    · cases h1
theorem fitB_ok {mg : Str → Option Value} {h1 h2 h3 h4 : Int} {t1 t2 t3 t4 : Tok} {f1 f2 f3 f4 : Addr} {es : Array DictEntry} (e : es.toList = [⟨h1, .str "longer" t1, .ref f1⟩, ⟨h2, .str "tree" t2, .ref f2⟩, ⟨h3, .str "opening" t3, .ref f3⟩, ⟨h4, .str "onetime" t4, .ref f4⟩])
    (m1 : mg "fits_longer" = some (.ref f1)) (m2 : mg "fits_tree" = some (.ref f2)) (m3 : mg "fits_opening" = some (.ref f3)) (m4 : mg "fits_onetime" = some (.ref f4)) : KeysAre (fitR mg) es.toList fitK := by
  rw [e]
  exact .cons rfl ⟨f1, rfl, .inl ⟨rfl, m1⟩⟩ (.cons rfl ⟨f2, rfl, .inr (.inl ⟨rfl, m2⟩)⟩ (.cons rfl ⟨f3, rfl, .inr (.inr (.inl ⟨rfl, m3⟩))⟩ (.cons rfl ⟨f4, rfl, .inr (.inr (.inr ⟨rfl, m4⟩))⟩ .nil)))

theorem nums_len : ∀ {ds : List PyData} {bs : List (Int × Int)}, ds.length ≠ bs.length → numsOk ds bs = false
  | [], [], h => absurd rfl h
  | [], _ :: _, _ => rfl
  | _ :: _, [], _ => rfl
  | d :: ds, b :: bs, h => by
    show (whole d b.1 b.2 && numsOk ds bs) = false
    rw [nums_len fun e => h (congrArg Nat.succ e), Bool.and_false]
theorem dp2 {K : PySem.W.Frag} {H : Hp} {ws : List V} {xs : List PyData} (h : DpAll K H ws xs) (c : ws.length = 2) : ∃ v0 v1 d0 d1, ws = [v0, v1] ∧ xs = [d0, d1] ∧ Dp K H v0 d0 ∧ Dp K H v1 d1 := by
  match xs, ws, c, h with
  | _, [v0, v1], _, .cons h0 (.cons h1 .nil) => exact ⟨_, _, _, _, rfl, rfl, h0, h1⟩
theorem dp1 {K : PySem.W.Frag} {H : Hp} {ws : List V} {xs : List PyData} (h : DpAll K H ws xs) (c : ws.length = 1) : ∃ v0 d0, ws = [v0] ∧ xs = [d0] ∧ Dp K H v0 d0 := by
  match xs, ws, c, h with
  | _, [v0], _, .cons h0 .nil => exact ⟨_, _, rfl, rfl, h0⟩
theorem dp3 {K : PySem.W.Frag} {H : Hp} {ws : List V} {xs : List PyData} (h : DpAll K H ws xs) (c : ws.length = 3) : ∃ v0 v1 v2 d0 d1 d2, ws = [v0, v1, v2] ∧ xs = [d0, d1, d2] ∧ Dp K H v0 d0 ∧ Dp K H v1 d1 ∧ Dp K H v2 d2 := by
  match xs, ws, c, h with
  | _, [v0, v1, v2], _, .cons h0 (.cons h1 (.cons h2 .nil)) => exact ⟨_, _, _, _, _, _, rfl, rfl, h0, h1, h2⟩
theorem dp_cons {K : PySem.W.Frag} {H : Hp} {ws : List V} {x : PyData} {xs : List PyData} (h : DpAll K H ws (x :: xs)) : ∃ v vs, ws = v :: vs ∧ Dp K H v x ∧ DpAll K H vs xs := by
  match ws, h with
  | _, .cons h0 t => exact ⟨_, _, rfl, h0, t⟩
theorem dps_last {K : PySem.W.Frag} {H : Hp} {vs : List V} {ds : List PyData} (h : DpAll K H vs ds) : DpAll K H vs.dropLast ds.dropLast := by
  rw [List.dropLast_eq_take, List.dropLast_eq_take, dp_all_len h]
  exact dps_take _ h
theorem gds_drop {n : Nat} {xs : List PyData} (h : ∀ x ∈ xs, Gd n x) (k : Nat) : ∀ x ∈ xs.drop k, Gd n x := fun x hx => h x (List.mem_of_mem_drop hx)
theorem gds_last {n : Nat} {xs : List PyData} (h : ∀ x ∈ xs, Gd n x) : ∀ x ∈ xs.dropLast, Gd n x := fun x hx => h x (List.mem_of_mem_take (List.dropLast_eq_take ▸ hx))
theorem slA_any {K : PySem.W.Frag} {H : Hp} {a : Addr} {xs : List V} {lo hi : Option Int} {Q : VK} (hT : SqT K H a xs) (k : ∀ p H', Same H H' → SqT K H' p (cutV xs lo hi) → Q (.ref p) H') : rSlA K (.ref a) lo hi H Q := by
  refine ⟨a, xs, rfl, hT, fun h => k a H (Same.refl H) ?_, fun _ p np => k p _ (same_new np) (.inl (.inl upd_same))⟩
  unfold cutV
  rw [h.1, h.2, List.drop_zero, Nat.sub_zero, List.take_length]
  exact hT
theorem cut_mid {v : V} {vs : List V} : cutV (v :: vs) (some 1) (some (-1)) = vs.dropLast := by
  unfold cutV
  have e1 : HT.sIx (v :: vs).length 0 (some 1) = 1 := by
    rw [show (some (1 : Int)) = some ((1 : Nat) : Int) from rfl, HT.sIx_nat, List.length_cons]
    omega
  have e2 : HT.sIx (v :: vs).length (v :: vs).length (some (-1)) = vs.length := by
    show (if (-1 : Int) < 0 then ((-1 : Int) + ((v :: vs).length : Int)).toNat else min (-1 : Int).toNat (v :: vs).length) = _
    rw [if_pos (by decide), List.length_cons]
    omega
  rw [e1, e2, List.dropLast_eq_take]
  rfl
theorem cut_two {v : V} {vs : List V} : cutV (v :: vs) (some 2) none = vs.drop 1 := by
  unfold cutV
  rw [show (some (2 : Int)) = some ((2 : Nat) : Int) from rfl, HT.sIx_nat, HT.sIx_none]
  cases vs with
  | nil => rfl
  | cons x r =>
    rw [List.length_cons, List.length_cons, show min 2 (r.length + 1 + 1) = 2 by omega, show r.length + 1 + 1 - 2 = r.length by omega]
    show r.take r.length = _
    rw [List.take_length]
    rfl
theorem gen_parts {g : PyData} (h : genOk g = true) : ∃ (k r : PyData) (n m : Int), g = .tuple [k, .int n, .int m, r] ∧ 1 ≤ n ∧ n ≤ 10 ∧ 1 ≤ m ∧ m ≤ 40 := by
  unfold genOk at h
  split at h
  · rename_i k n m r
    simp only [Bool.and_eq_true] at h
    obtain ⟨n', rfl, a1, a2⟩ := whole_int h.1.1.2
    obtain ⟨m', rfl, b1, b2⟩ := whole_int h.1.2
    exact ⟨k, r, n', m', rfl, a1, a2, b1, b2⟩
  · cases h
theorem fitLonger_no {ds : List PyData} (h : ds.length ≠ 2) : fitLonger ds = false := by
  unfold fitLonger
  split
  · exact absurd rfl h
  · rfl
theorem fitTree_no {ds : List PyData} (h : ds.length ≠ 3) : fitTree ds = false := by
  unfold fitTree
  split
  · exact absurd rfl h
  · rfl
theorem fitOnetime_no {ds : List PyData} (h : ds.length ≠ 2) : fitOnetime ds = false := by
  unfold fitOnetime
  split
  · exact absurd rfl h
  · rfl
theorem fitOpening_no {ds : List PyData} (h : ds.length ≠ 1) : fitOpening ds = false := by
  unfold fitOpening
  split
  · exact absurd rfl h
  · rfl
theorem at_last {v : V} : ∀ {vs : List V}, vs ≠ [] → vs.getLastD v = v' → atI vs (-1) = some v'
  | vs, h, e => by
    have e2 := List.dropLast_concat_getLast h
    rw [← e2, atI_last]
    rw [← e, List.getLastD_eq_getLast?, List.getLast?_eq_some_getLast h]
    rfl

theorem named_eq {x : Str} {d : PyData} (h : named x d = true) : d = .str x := by
  cases d with
  | str z =>
    rw [named_str] at h
    rw [of_decide_eq_true h]
  | none => exact absurd h (by unfold named; simp [PyData.eqv])
  | bool b => exact absurd h (by unfold named; simp [PyData.eqv])
  | int b => exact absurd h (by unfold named; simp [PyData.eqv])
  | list b => exact absurd h (by unfold named; simp [PyData.eqv])
  | tuple b => exact absurd h (by unfold named; simp [PyData.eqv])
  | dict b => exact absurd h (by unfold named; simp [PyData.eqv])
theorem looks_eq {k : PyData} {r : List PyData} : looksOk (.tuple (k :: r)) = if named "say" k then sayOk r else if named "toss" k then tossOk r else if named "look" k then lookOk r else named "ask" k && askOk r := rfl
theorem sayOk_no {r : List PyData} (h : r.length ≠ 1) : sayOk r = false := by
  unfold sayOk
  split
  · exact absurd rfl h
  · rfl
theorem tossOk_no {r : List PyData} (h : r.length ≠ 1) : tossOk r = false := by
  unfold tossOk
  split
  · exact absurd rfl h
  · rfl
theorem lookOk_no {r : List PyData} (h : r.length ≠ 3) : lookOk r = false := by
  unfold lookOk
  split
  · exact absurd rfl h
  · rfl
theorem askOk_no {r : List PyData} (h : r.length ≠ 2) : askOk r = false := by
  unfold askOk
  split
  · exact absurd rfl h
  · rfl
theorem toss_kids {r : List PyData} (h : tossOk r = true) : ∃ xs, r = [.tuple xs] ∧ 1 ≤ xs.length ∧ xs.length ≤ 64 := by
  unfold tossOk at h
  split at h
  · rename_i xs
    rw [Bool.and_eq_true, decide_eq_true_eq, decide_eq_true_eq] at h
    exact ⟨xs, rfl, by omega, by omega⟩
  · cases h
theorem kids_toss {k : PyData} {xs : List PyData} (h : named "toss" k = true) : kidsD (.tuple [k, .tuple xs]) = xs := by
  show (if named "toss" k then xs else _) = xs
  rw [if_pos h]
theorem kids_other {k : PyData} {r : List PyData} (h : named "toss" k = false) : kidsD (.tuple (k :: r)) = r.drop 1 := by
  show (if named "toss" k then _ else r.drop 1) = r.drop 1
  rw [if_neg (by rw [h]; decide)]
theorem kids_gd {n : Nat} {d x : PyData} (h : Gd n d) (hx : x ∈ kidsD d) : Gd n x := by
  unfold kidsD at hx
  split at hx
  · rename_i k r
    obtain ⟨hl, n', rfl, hg⟩ := gd_tup h
    split at hx
    · split at hx
      · rename_i xs _
        have h1 := hg (.tuple xs) (List.mem_cons_of_mem _ List.mem_cons_self)
        obtain ⟨_, m, rfl, h2⟩ := gd_tup h1
        exact gd_le (h2 x hx) (by omega)
      · cases hx
    · exact gd_up (hg x (List.mem_cons_of_mem _ (List.mem_of_mem_drop hx)))
  · cases hx
theorem kids_len {n : Nat} {d : PyData} (h : Gd n d) : (kidsD d).length ≤ 5000 := by
  unfold kidsD
  split
  · rename_i k r
    obtain ⟨hl, n', rfl, hg⟩ := gd_tup h
    split
    · split
      · rename_i xs _
        have h1 := hg (.tuple xs) (List.mem_cons_of_mem _ List.mem_cons_self)
        exact (gd_tup h1).1
      · exact Nat.zero_le _
    · rw [List.length_drop]
      rw [List.length_cons] at hl
      omega
  · exact Nat.zero_le _
theorem sz_pos (n : Nat) (d : PyData) : 1 ≤ szN n d := by
  cases n with
  | zero => exact Nat.le_refl 1
  | succ n =>
    show 1 ≤ 1 + _
    omega
/-! ### the pile of a walk through a breaker: address, value, data, how deep -/
abbrev Ent : Type := Addr × V × PyData × Nat
def good (xs : List Ent) (many : Nat) : Bool := xs.all (fun x => okN (61 - x.2.2.2) x.2.2.1) && decide (many + (xs.map fun x => szN (61 - x.2.2.2) x.2.2.1).sum ≤ 2001)
theorem good_nil {many : Nat} (h : many ≤ 2001) : good [] many = true := by
  show (true && decide (many + 0 ≤ 2001)) = true
  rw [Bool.true_and, decide_eq_true (by omega)]
theorem good_many {xs : List Ent} {x : Ent} {many : Nat} (h : 2001 < many + 1) : good (xs ++ [x]) many = false := by
  unfold good
  rw [List.map_append, List.sum_append]
  have := sz_pos (61 - x.2.2.2) x.2.2.1
  rw [decide_eq_false (show ¬ many + ((xs.map fun x => szN (61 - x.2.2.2) x.2.2.1).sum + ([x].map fun x => szN (61 - x.2.2.2) x.2.2.1).sum) ≤ 2001 by
    rw [List.map_cons, List.sum_cons]
    omega), Bool.and_false]
theorem good_bad {xs : List Ent} {x : Ent} {many : Nat} (h : okN (61 - x.2.2.2) x.2.2.1 = false) : good (xs ++ [x]) many = false := by
  unfold good
  rw [List.all_append, List.all_cons, h, Bool.false_and, Bool.and_false, Bool.false_and]
theorem okN_deep {k : Nat} {d : PyData} (h : 60 < k) : okN (61 - k) d = false := by
  rw [show 61 - k = 0 by omega]
  rfl
theorem okN_looks {k : Nat} {d : PyData} (h : looksOk d = false) : okN k d = false := by
  cases k with
  | zero => rfl
  | succ k =>
    show (looksOk d && _) = false
    rw [h, Bool.false_and]
theorem good_step {xs es : List Ent} {x : Ent} {many : Nat} (hk : x.2.2.2 ≤ 60) (hl : looksOk x.2.2.1 = true) (he : es.map (fun e => e.2.2) = (kidsD x.2.2.1).map fun d => (d, x.2.2.2 + 1)) :
    good (xs ++ [x]) many = good (xs ++ es) (many + 1) := by
  unfold good
  obtain ⟨p, v, d, k⟩ := x
  dsimp only at hk hl he
  have hn : 61 - k = (60 - k) + 1 := by omega
  have e1 : es.all (fun e => okN (61 - e.2.2.2) e.2.2.1) = (kidsD d).all (okN (60 - k)) := by
    have h1 : es.all (fun e => okN (61 - e.2.2.2) e.2.2.1) = (es.map (fun e => e.2.2)).all (fun e => okN (61 - e.2) e.1) := by
      rw [List.all_map]
      rfl
    rw [h1, he, List.all_map]
    have h2 : 61 - (k + 1) = 60 - k := by omega
    show (kidsD d).all (fun d => okN (61 - (k + 1)) d) = _
    rw [h2]
  have e2 : (es.map (fun e => szN (61 - e.2.2.2) e.2.2.1)).sum = ((kidsD d).map (szN (60 - k))).sum := by
    have h1 : es.map (fun e => szN (61 - e.2.2.2) e.2.2.1) = (es.map (fun e => e.2.2)).map (fun e => szN (61 - e.2) e.1) := by
      rw [List.map_map]
      rfl
    rw [h1, he, List.map_map]
    have h2 : 61 - (k + 1) = 60 - k := by omega
    show ((kidsD d).map (fun d => szN (61 - (k + 1)) d)).sum = _
    rw [h2]
  rw [List.all_append, List.all_append, List.map_append, List.map_append, List.sum_append, List.sum_append, e1, e2]
  have e3 : [(p, v, d, k)].all (fun x => okN (61 - x.2.2.2) x.2.2.1) = (kidsD d).all (okN (60 - k)) := by
    show (okN (61 - k) d && true) = _
    rw [Bool.and_true, hn]
    show (looksOk d && _) = _
    rw [hl, Bool.true_and]
  have e4 : ([(p, v, d, k)].map (fun x => szN (61 - x.2.2.2) x.2.2.1)).sum = 1 + ((kidsD d).map (szN (60 - k))).sum := by
    show szN (61 - k) d + 0 = _
    rw [hn]
    rfl
  rw [e3, e4]
  congr 1
  apply decide_eq_decide.mpr
  omega

theorem made_parts {d : PyData} (h : madeD d = true) : ∃ z r, d = .tuple (.str z :: r) ∧ madeZ z = true := by
  unfold madeD at h
  split at h
  · rename_i z r
    exact ⟨z, r, rfl, h⟩
  · cases h
theorem chk_plain {n : Nat} {d : PyData} (h : madeD d = false) : chk n d = plainOk d := by
  unfold chk
  rw [if_neg (by rw [h]; decide)]
theorem chk_zero {d : PyData} (h : madeD d = true) : chk 0 d = false := by
  unfold chk
  rw [if_pos h]
theorem chk_succ {n : Nat} {d : PyData} (h : madeD d = true) : chk (n + 1) d = (fitsD d && (!(headIs "onetime" d && madeD (lastD d)) && chk n (lastD d))) := by
  rw [chk]
  rw [if_pos h]
theorem dps_at_last {K : PySem.W.Frag} {H : Hp} {ws : List V} {xs : List PyData} (h : DpAll K H ws xs) (hne : ws ≠ []) : ∃ vl, atI ws (-1) = some vl ∧ Dp K H vl (lastD (.tuple xs)) ∧ lastD (.tuple xs) ∈ xs := by
  have hl : 0 < ws.length := List.length_pos_iff.mpr hne
  have e1 : ws[ws.length - 1]? = some (ws[ws.length - 1]'(by omega)) := List.getElem?_eq_getElem _
  obtain ⟨d, h1, h2⟩ := dp_all_get h e1
  have e2 : lastD (.tuple xs) = d := by
    show xs.getLastD .none = d
    rw [List.getLastD_eq_getLast?, List.getLast?_eq_getElem?, ← dp_all_len h, h1]
    rfl
  refine ⟨_, ?_, e2 ▸ h2, e2 ▸ List.mem_of_getElem? h1⟩
  unfold atI ixN
  rw [if_neg (by decide), if_pos (by omega)]
  show ws[((-1 : Int) + (ws.length : Int)).toNat]? = _
  rw [show ((-1 : Int) + (ws.length : Int)).toNat = ws.length - 1 by omega]
  exact e1

theorem sb_size {bs : List Bool} (h : bs.length ≤ 16777216) : (sb bs).length ≤ sizeLine := by
  rw [sb_len, sizeLine_eq]
  exact h
theorem xor_nat (a b : Nat) : Builtin.bitXor (a : Int) (b : Int) = ((a ^^^ b : Nat) : Int) := by
  rw [Bits.bitXor_pp (by omega) (by omega)]
  rfl
theorem val_lt' {l m : List Bool} (h : l.length = m.length) : val m < 2 ^ l.length := by
  rw [h]
  exact val_lt m

section
variable {P : Program} {w : World} {K : PySem.W.Frag} {mg : Str → Option Value} {base : Heap} {cs : Cs}
theorem dig_len {n k : Nat} (h : k < 2 ^ (n + 1)) : (dig k).length ≤ n + 1 := by
  obtain ⟨p, e⟩ := dig_toB n k h
  have := congrArg List.length e
  rw [List.length_map, toB_len, List.length_append, List.length_replicate] at this
  omega
theorem ok_bits {f : Addr} {fd : FuncData} (D : Df K mg "bits" s_bits ["length", "number"] f fd) (T : Txt K w mg cs) : FnOk P w K mg base CX0 1 f fd ["length", "number"] spBits := by
  refine D.fn.ok sc_bits (fun vs H Q E h => ?_) (fun cdv A outer s H vs Q E hr h => ?_)
  · obtain ⟨n, k, rfl, _⟩ := h
    rfl
  · obtain ⟨n, k, rfl, hn, hk, q⟩ := h
    refine ⟨_, (pss_cons (ps_if (pt_cmpR op_eq (pv 0) pe_int (nomark _)) (pss_one (ps_ret pe_str)) pss_nil) (pss_one (ps_ret (pe_m1 PySem.F.slot_str_zfill PySem.F.type_str_zfill mt_zfill (pe_fmtB (pv 1)) (pv 0))))), ?_⟩
    refine ⟨_, rfl, rfl, _, rfl, ite2 (fun c => ?_) (fun c => ?_)⟩
    · have e : (n : Int) = 0 := V.int.inj (of_decide_eq_true c)
      have e : n = 0 := by omega
      subst e
      exact q
    · obtain ⟨m, rfl⟩ : ∃ m, n = m + 1 := by
        cases n with
        | zero => exact absurd (decide_eq_true rfl) c
        | succ m => exact ⟨m, rfl⟩
      refine ⟨_, rfl, k, rfl, ?_, ⟨_, rfl⟩, _, rfl, _, _, rfl, rfl, padOk_of (by omega) (by omega), ?_⟩
      · have := dig_len hk
        omega
      · rw [zfill_dig m k hk]
        exact q

theorem num_val (bs : List Bool) : Two.num (bs.map cB) = val bs := by
  unfold Two.num val
  rw [List.foldl_map]
  congr 1
  funext a b
  cases b
  · show a * 2 + 0 = 2 * a + 0
    omega
  · show a * 2 + 1 = 2 * a + 1
    omega
theorem ok_number {f : Addr} {fd : FuncData} (D : Df K mg "number_of" s_number_of ["string"] f fd) (T : Txt K w mg cs) : FnOk P w K mg base CX0 1 f fd ["string"] spNumber := by
  refine D.fn.ok sc_number_of (fun vs H Q E h => ?_) (fun cdv A outer s H vs Q E hr h => ?_)
  · obtain ⟨bs, rfl, _⟩ := h
    rfl
  · obtain ⟨bs, rfl, hl, q⟩ := h
    refine ⟨_, (pss_cons (ps_if (pt_cmpR op_eq (pv 0) pe_str (nomark _)) (pss_one (ps_ret pe_int)) pss_nil) (pss_one (ps_ret (pe_callTy call_int_bin (by rfl) T.n_int (by decide +kernel) (pa_cons (pv 0) (pa_cons pe_int pa_nil)))))), ?_⟩
    refine ⟨_, rfl, rfl, _, rfl, ite2 (fun c => ?_) (fun c => ?_)⟩
    · have e : sb bs = sb [] := V.str.inj (of_decide_eq_true c)
      have e := sb_inj e
      subst e
      exact q
    · refine ⟨_, rfl, bs.map cB, rfl, ⟨?_, ?_, ?_⟩, ?_⟩
      · intro z
        have e : bs = [] := List.map_eq_nil_iff.mp z
        subst e
        exact c (decide_eq_true rfl)
      · rw [List.length_map]
        exact hl
      · intro x hx
        obtain ⟨b, _, rfl⟩ := List.mem_map.mp hx
        cases b
        · exact .inl rfl
        · exact .inr rfl
      · rw [num_val]
        exact q

theorem ok_xor {f : Addr} {fd : FuncData} (D : Df K mg "xor" s_xor ["first", "second"] f fd) (T : Txt K w mg cs) (c_bits : Cl P w K mg base CX0 1 "bits" spBits) (c_number_of : Cl P w K mg base CX0 1 "number_of" spNumber) : FnOk P w K mg base CX0 2 f fd ["first", "second"] spXor := by
  refine D.fn.ok sc_xor (fun vs H Q E h => ?_) (fun cdv A outer s H vs Q E hr h => ?_)
  · obtain ⟨l, m, rfl, _⟩ := h
    rfl
  · obtain ⟨l, m, rfl, he, hl, q⟩ := h
    refine ⟨_, (pss_one (ps_ret (pe_cl c_bits hr (by first | decide | omega) (by rfl) (pa_cons (pe_callB call_len_str (by rfl) T.n_len (by decide +kernel) (pa_cons (pv 0) pa_nil)) (pa_cons (pe_op op_xor (pe_cl c_number_of hr (by first | decide | omega) (by rfl) (pa_cons (pv 0) pa_nil)) (pe_cl c_number_of hr (by first | decide | omega) (by rfl) (pa_cons (pv 1) pa_nil))) pa_nil))))), ?_⟩
    refine ⟨_, rfl, _, rfl, sb_size (by omega), _, rfl, l, rfl, hl, _, rfl, m, rfl, by omega, _, _, rfl, rfl, l.length, val l ^^^ val m, ?_, by omega, Nat.xor_lt_two_pow (val_lt l) (val_lt' he), ?_⟩
    · show [V.int _, V.int (Builtin.bitXor ((val l : Nat) : Int) ((val m : Nat) : Int))] = _
      rw [sb_len, xor_nat]
    · rw [toB_xor, toB_val l, he, toB_val m]
      exact q

theorem ok_whole {f : Addr} {fd : FuncData} (D : Df K mg "is_whole" s_is_whole ["value", "low", "high"] f fd) (T : Txt K w mg cs) : FnOk P w K mg base CX0 1 f fd ["value", "low", "high"] (spWhole K) := by
  refine D.fn.ok sc_is_whole (fun vs H Q E h => ?_) (fun cdv A outer s H vs Q E hr h => ?_)
  · obtain ⟨v, d, lo, hi, rfl, _⟩ := h
    rfl
  · obtain ⟨v, d, lo, hi, rfl, hd, q⟩ := h
    refine ⟨_, (pss_one (ps_ret (pe_and (pe_callB (isiK K) (by rfl) T.n_isinstance (by decide +kernel) (pa_cons (pv 0) (pa_cons (pe_ty "int" (by rfl) T.n_int (by decide +kernel)) pa_nil))) (pe_and (pe_not (pe_callB (isiK K) (by rfl) T.n_isinstance (by decide +kernel) (pa_cons (pv 0) (pa_cons (pe_ty "bool" (by rfl) T.n_bool (by decide +kernel)) pa_nil)))) (pe_one (pe_chain op_le op_le (pv 1) (pv 0) (pv 2))))))), ?_⟩
    refine ⟨_, rfl, _, _, _, _, _, rfl, .ty "int", dp_ty hd, kit_int d, _, rfl, ?_⟩
    cases d with
    | int i =>
      cases hd
      refine ⟨_, rfl, _, _, _, _, false, rfl, .ty "bool", .base (.int i), kit_ty (by decide +kernel), _, rfl, _, rfl, ?_⟩
      refine ⟨_, rfl, _, rfl, _, _, rfl, rfl, _, rfl, ?_⟩
      by_cases c : lo ≤ i
      · rw [decide_eq_true c]
        refine ⟨_, rfl, _, _, rfl, rfl, ?_⟩
        have e : whole (.int i) lo hi = decide (i ≤ hi) := by
          show (decide (lo ≤ i) && decide (i ≤ hi)) = _
          rw [decide_eq_true c, Bool.true_and]
        rw [e] at q
        exact q
      · rw [decide_eq_false c]
        have e : whole (.int i) lo hi = false := by
          show (decide (lo ≤ i) && decide (i ≤ hi)) = _
          rw [decide_eq_false c, Bool.false_and]
        rw [e] at q
        exact q
    | bool b =>
      cases hd
      exact ⟨_, rfl, _, _, _, _, true, rfl, .ty "bool", .base (.bl b), kit_ty (by decide +kernel), _, rfl, _, rfl, q⟩
    | none => exact q
    | str x => exact q
    | list xs => exact q
    | tuple xs => exact q
    | dict xs => exact q
theorem all_rows {m : Int} {xs : List PyData} (h : xs.all (strLen m) = true) : ∃ ys : List Str, xs = ys.map PyData.str ∧ ∀ y ∈ ys, (y.length : Int) = m := by
  induction xs with
  | nil => exact ⟨[], rfl, fun y hy => (nomatch hy)⟩
  | cons x xs ih =>
    rw [List.all_cons, Bool.and_eq_true] at h
    obtain ⟨ys, e, hy⟩ := ih h.2
    cases x with
    | str z =>
      refine ⟨z :: ys, by rw [e]; rfl, fun y hy' => ?_⟩
      rcases List.mem_cons.mp hy' with r | r
      · subst r
        exact of_decide_eq_true h.1
      · exact hy y r
    | _ => cases h.1
theorem dp_strs {K : PySem.W.Frag} {H : Hp} : ∀ {vs : List V} {ys : List Str}, DpAll K H vs (ys.map PyData.str) → vs = ys.map V.str
  | _, [], .nil => rfl
  | _, y :: ys, .cons (.str _) t => by rw [List.map_cons, dp_strs t]
theorem sum_len {m : Nat} : ∀ {ys : List Str}, (∀ y ∈ ys, (y.length : Int) = (m : Int)) → (ys.map (·.length)).sum = ys.length * m
  | [], _ => by simp
  | y :: ys, h => by
    have h1 := h y List.mem_cons_self
    rw [List.map_cons, List.sum_cons, sum_len fun z hz => h z (List.mem_cons_of_mem _ hz), List.length_cons, Nat.succ_mul]
    omega
theorem all_bits {m : Int} {ys : List Str} (h : ∀ y ∈ ys, (y.length : Int) = m) : (ys.map PyData.str).all (bitRow m) = (Txt.join "" ys).cps.toList.all (fun c => c == 48 || c == 49) := by
  rw [join_all]
  induction ys with
  | nil => rfl
  | cons y ys ih =>
    rw [List.map_cons, List.all_cons, ih fun z hz => h z (List.mem_cons_of_mem _ hz), List.map_cons, List.flatten_cons, List.all_append]
    congr 1
    show (decide ((y.length : Int) = m) && _) = _
    rw [decide_eq_true (h y List.mem_cons_self), Bool.true_and]
theorem not_all {m : Int} {xs : List PyData} (h : xs.all (strLen m) = false) : xs.all (bitRow m) = false := by
  rw [Bool.eq_false_iff] at h ⊢
  intro z
  refine h ?_
  rw [List.all_eq_true] at z ⊢
  intro x hx
  have := z x hx
  cases x with
  | str y =>
    have h2 : (decide ((y.length : Int) = m) && y.cps.toList.all (fun c => c == 48 || c == 49)) = true := this
    exact (Bool.and_eq_true_iff.mp h2).1
  | _ => cases this
theorem ok_rows {f : Addr} {fd : FuncData} (D : Df K mg "are_rows" s_are_rows ["value", "many", "m"] f fd) (T : Txt K w mg cs) : FnOk P w K mg base CX0 1 f fd ["value", "many", "m"] (spRows K) := by
  refine D.fn.ok sc_are_rows (fun vs H Q E h => ?_) (fun cdv A outer s H vs Q E hr h => ?_)
  · obtain ⟨v, d, n, many, m, rfl, _⟩ := h
    rfl
  · obtain ⟨v, d, n, many, m, rfl, hd, hg, hmany, hm, q⟩ := h
    refine ⟨_, (pss_cons (ps_if (PW.pt (pw_or (pt_not (pt_val (pe_callB (isiK K) (by rfl) T.n_isinstance (by decide +kernel) (pa_cons (pv 0) (pa_cons (pe_ty "tuple" (by rfl) T.n_tuple (by decide +kernel)) pa_nil))))) (pw_or1 (pt_cmpR op_ne (pe_callB (lenS K) (by rfl) T.n_len (by decide +kernel) (pa_cons (pv 0) pa_nil)) (pv 1) (nomark _))))) (pss_one (ps_ret pe_bl)) pss_nil) (pss_cons (ps_if (pt_not (pt_val (pe_callB (crAll K rfl) (by rfl) T.n_all (by decide +kernel) (pa_cons (pe_lc (own := [("row", 3)]) (g := gName 3) (tt := tYes) rfl sc_are_rows.nd (pi_tup (pv 0)) (blkOk_by (own := [("row", 3)]) (N := ["value", "many", "m", "row"]) (sc := defScope s_are_rows) (by decide +kernel)) (fun _ _ _ _ _ => (pg_name (i := 3) sc_are_rows.nd rfl (.inl rfl))) (fun _ _ _ _ _ => pts_nil) (fun _ _ _ _ _ => (pe_and (pe_callB (isiK K) (by rfl) T.n_isinstance (by decide +kernel) (pa_cons (pv 3) (pa_cons (pe_ty "str" (by rfl) T.n_str (by decide +kernel)) pa_nil))) (pe_one (pe_cmpR op_eq (pe_callB call_len_str (by rfl) T.n_len (by decide +kernel) (pa_cons (pv 3) pa_nil)) (pv 2) (nomark _)))))) pa_nil)))) (pss_one (ps_ret pe_bl)) pss_nil) (pss_one (ps_ret (pe_cmpR op_eq (pe_m1 PySem.F.slot_str_strip PySem.F.type_str_strip mt_stripChars (pe_m1 PySem.F.slot_str_join PySem.F.type_str_join (mtJoin K) pe_str (pv 0)) pe_str) pe_str (nomark _)))))), ?_⟩
    refine ⟨_, rfl, _, _, _, _, _, rfl, .ty "tuple", dp_ty hd, kit_tup d, _, rfl, ?_⟩
    cases d with
    | tuple xs =>
      cases hd with
      | @tup a ws _ hT hA =>
        obtain ⟨hl, n', rfl, hx⟩ := gd_tup hg
        have hwl := dp_all_len hA
        refine ⟨_, rfl, a, ws, rfl, .inr hT, _, rfl, rfl, _, rfl, ?_⟩
        by_cases c : (ws.length : Int) = many
        · rw [decide_eq_true (show V.int (ws.length : Int) = V.int many by rw [c])]
          -- all([isinstance(row, str) and len(row) == m for row in value])
          refine ⟨_, rfl, a, rfl, ⟨_, hT⟩, fun Dl hD => ?_⟩
          refine lc_tup (xs := ws) (fun i H' => Same H H' ∧ H' Dl = some (.lst ((xs.take i).map fun x => V.bl (strLen m x)))) ?_ ?_ ?_ ?_
          · exact ⟨same_new hD, upd_same⟩
          · rintro i H' _ ⟨s1, _⟩
            exact same_sqt s1 hT
          · rintro i x H' hxi ⟨s1, e1⟩
            obtain ⟨d, hdi, hdx⟩ := dp_all_get hA hxi
            have hdx' := dp_same s1 d hdx
            have hgd := hx d (List.mem_of_getElem? hdi)
            have hi : i < xs.length := (List.getElem?_eq_some_iff.mp hdi).1
            have fin : ∀ b : Bool, strLen m d = b → ∃ acc, H' Dl = some (.lst acc) ∧ acc.length < sizeLine ∧ (Same H (upd H' Dl (.lst (acc ++ [.bl b]))) ∧ upd H' Dl (.lst (acc ++ [.bl b])) Dl = some (.lst ((xs.take (i + 1)).map fun x => V.bl (strLen m x)))) := by
              intro b hb
              refine ⟨_, e1, ?_, fun p o e => ?_, ?_⟩
              · rw [List.length_map, List.length_take]
                exact Nat.lt_of_lt_of_le (show min i xs.length < 10000 by omega) (by decide)
              · rw [upd_ne (ne_of_none e hD)]
                exact s1 p o e
              · rw [upd_same, List.take_add_one, hdi, List.map_append]
                show _ = some (HO.lst (_ ++ [V.bl (strLen m d)]))
                rw [hb]
            refine ⟨rfl, ?_⟩
            refine ⟨_, rfl, _, _, _, _, _, rfl, .ty "str", dp_ty hdx', kit_str d, _, rfl, ?_⟩
            cases d with
            | str z =>
              cases hdx'
              have hz := (gd_str hgd).2
              refine ⟨_, rfl, z, rfl, ?_, _, rfl, rfl, ?_⟩
              · rw [sizeLine_eq]
                omega
              · refine fin _ ?_
                show decide ((z.length : Int) = m) = decide (V.int (z.length : Int) = V.int m)
                by_cases c : (z.length : Int) = m
                · rw [decide_eq_true c, decide_eq_true (congrArg V.int c)]
                · rw [decide_eq_false c, decide_eq_false fun z => c (V.int.inj z)]
            | none => exact fin false rfl
            | bool b => exact fin false rfl
            | int b => exact fin false rfl
            | list b => exact fin false rfl
            | tuple b => exact fin false rfl
            | dict b => exact fin false rfl
          · rintro H' ⟨s1, e1⟩
            have et : (xs.take ws.length).map (fun x => V.bl (strLen m x)) = ((xs.map (strLen m)).map V.bl) := by
              rw [List.take_of_length_le (by omega), List.map_map]
              rfl
            rw [et] at e1
            refine ⟨Dl, _, rfl, .inl (.inl e1), _, rfl, ?_⟩
            have ea : (xs.map (strLen m)).all id = xs.all (strLen m) := by
              rw [List.all_map]
              rfl
            rw [ea]
            cases hc : xs.all (strLen m) with
            | false =>
              have e : rowsOk (.tuple xs) many m = false := by
                show (decide _ && xs.all (bitRow m)) = false
                rw [not_all hc, Bool.and_false]
              have q' := q H' s1
              rw [e] at q'
              exact q'
            | true =>
              obtain ⟨ys, rfl, hy⟩ := all_rows hc
              have ew := dp_strs hA
              subst ew
              have hm0 : ∃ k : Nat, ys = [] ∨ m = (k : Int) := by
                cases ys with
                | nil => exact ⟨0, .inl rfl⟩
                | cons y ys => exact ⟨y.length, .inr (hy y List.mem_cons_self).symm⟩
              have hsum : (ys.map (·.length)).sum ≤ 4096 * 40 := by
                obtain ⟨k, rfl | rfl⟩ := hm0
                · simp
                · rw [sum_len hy]
                  have h1 : ys.length ≤ 4096 := by
                    rw [List.length_map] at c
                    omega
                  have h2 : k ≤ 40 := by omega
                  exact Nat.mul_le_mul h1 h2
              refine ⟨⟨_, rfl⟩, _, rfl, "", a, ys, rfl, rfl, .inr (same_sqt s1 hT), ?_, ⟨_, rfl⟩, _, _, rfl, rfl, ?_, rfl, ?_⟩
              · show _ + _ * 0 ≤ _
                omega
              · have hj : (Txt.join "" ys).length = (ys.map (·.length)).sum := by
                  show (Txt.join "" ys).cps.size = _
                  rw [← Array.length_toList, join_all, List.length_flatten, List.map_map]
                  congr 1
                rw [hj, sizeLine_eq]
                omega
              · rw [strip_all, ← all_bits hy]
                have e : rowsOk (.tuple (ys.map PyData.str)) many m = (ys.map PyData.str).all (bitRow m) := by
                  show (decide (((ys.map PyData.str).length : Int) = many) && _) = _
                  rw [decide_eq_true (by rw [List.length_map] at c ⊢; exact c), Bool.true_and]
                have q' := q H' s1
                rw [e] at q'
                exact q'
        · rw [decide_eq_false (show ¬ V.int (ws.length : Int) = V.int many from fun z => c (V.int.inj z))]
          have e : rowsOk (.tuple xs) many m = false := by
            show (decide ((xs.length : Int) = many) && _) = false
            rw [decide_eq_false (by rw [← hwl]; exact c), Bool.false_and]
          have q' := q H (Same.refl H)
          rw [e] at q'
          exact q'
    | bool b => exact q H (Same.refl H)
    | none => exact q H (Same.refl H)
    | int x => exact q H (Same.refl H)
    | str x => exact q H (Same.refl H)
    | list xs => exact q H (Same.refl H)
    | dict xs => exact q H (Same.refl H)

theorem ok_gen {f : Addr} {fd : FuncData} (D : Df K mg "is_generator" s_is_generator ["value"] f fd) (T : Txt K w mg cs) (c_is_whole : Cl P w K mg base CX0 1 "is_whole" (spWhole K)) (c_are_rows : Cl P w K mg base CX0 1 "are_rows" (spRows K)) : FnOk P w K mg base CX0 2 f fd ["value"] (spD K genOk) := by
  refine D.fn.ok sc_is_generator (fun vs H Q E h => ?_) (fun cdv A outer s H vs Q E hr h => ?_)
  · obtain ⟨v, d, n, rfl, _⟩ := h
    rfl
  · obtain ⟨v, d, n, rfl, hd, hg, q⟩ := h
    refine ⟨_, (pss_cons (ps_if (PW.pt (pw_or (pt_not (pt_val (pe_callB (isiK K) (by rfl) T.n_isinstance (by decide +kernel) (pa_cons (pv 0) (pa_cons (pe_ty "tuple" (by rfl) T.n_tuple (by decide +kernel)) pa_nil))))) (pw_or1 (pt_cmpR op_ne (pe_callB (lenS K) (by rfl) T.n_len (by decide +kernel) (pa_cons (pv 0) pa_nil)) pe_int (nomark _))))) (pss_one (ps_ret pe_bl)) pss_nil) (pss_cons (ps_asg (pv 0) (pg_tup (by rfl) (pgs_cons (pg_name (i := 1) sc_is_generator.nd rfl (.inl rfl)) (pgs_cons (pg_name (i := 2) sc_is_generator.nd rfl (.inl rfl)) (pgs_cons (pg_name (i := 3) sc_is_generator.nd rfl (.inl rfl)) (pgs_cons (pg_name (i := 4) sc_is_generator.nd rfl (.inl rfl)) pgs_nil)))))) (pss_cons (ps_if (PW.pt (pw_or (pt_cmpR (op_neF K hr.units) (pv 1) pe_str (nomark _)) (pw_or (pt_not (pt_val (pe_cl c_is_whole hr (by first | decide | omega) (by rfl) (pa_cons (pv 2) (pa_cons pe_int (pa_cons pe_int pa_nil)))))) (pw_or1 (pt_not (pt_val (pe_cl c_is_whole hr (by first | decide | omega) (by rfl) (pa_cons (pv 3) (pa_cons pe_int (pa_cons (C8.pe_gc (by rfl) T.g_MOST_BITS) pa_nil)))))))))) (pss_one (ps_ret pe_bl)) pss_nil) (pss_one (ps_ret (pe_cl c_are_rows hr (by first | decide | omega) (by rfl) (pa_cons (pv 4) (pa_cons (pe_op op_shl pe_int (pv 2)) (pa_cons (pv 3) pa_nil))))))))), ?_⟩
    refine ⟨_, rfl, _, _, _, _, _, rfl, .ty "tuple", dp_ty hd, kit_tup d, _, rfl, ?_⟩
    cases d with
    | tuple xs =>
      cases hd with
      | @tup a ws _ hT hA =>
        obtain ⟨hl, n', rfl, hx⟩ := gd_tup hg
        have hwl := dp_all_len hA
        refine ⟨_, rfl, a, ws, rfl, .inr hT, rfl, _, rfl, ?_⟩
        by_cases c : ws.length = 4
        · obtain ⟨v0, v1, v2, v3, k, n, m, r, rfl, rfl, h0, h1, h2, h3⟩ := dp4 hA c
          rw [decide_eq_true (show V.int (([v0, v1, v2, v3].length : Nat) : Int) = V.int 4 from rfl)]
          refine ⟨_, rfl, a, _, rfl, hT, rfl, _, _, rfl, _, _, rfl, _, _, rfl, _, _, rfl, rfl, ?_⟩
          have g0 := hx k List.mem_cons_self
          have g3 := hx r (List.mem_cons_of_mem _ (List.mem_cons_of_mem _ (List.mem_cons_of_mem _ List.mem_cons_self)))
          rw [gen_eq] at q
          -- kind != 'generator'
          refine ⟨_, rfl, k, .str "generator", h0, .str _, gd_lay g0, str_lay _, str_dep _, _, rfl, ?_⟩
          rw [name_ne]
          cases ck : named "generator" k with
          | false =>
            rw [ck] at q
            exact q H (Same.refl H)
          | true =>
            rw [ck] at q
            refine ⟨_, rfl, v1, n, 1, 10, rfl, h1, _, rfl, ?_⟩
            cases cn : whole n 1 10 with
            | false =>
              rw [cn] at q
              exact q H (Same.refl H)
            | true =>
              rw [cn] at q
              refine ⟨_, rfl, v2, m, 1, 40, rfl, h2, _, rfl, ?_⟩
              cases cm : whole m 1 40 with
              | false =>
                rw [cm] at q
                exact q H (Same.refl H)
              | true =>
                rw [cm] at q
                obtain ⟨n, rfl, n1, n2⟩ := whole_int cn
                obtain ⟨m, rfl, m1, m2⟩ := whole_int cm
                cases h1
                cases h2
                refine ⟨_, rfl, _, rfl, _, _, rfl, rfl, ⟨by omega, by omega, by decide⟩, _, rfl, v3, r, _, _, _, rfl, h3, g3, ?_, m2, fun H' s' => q H' s'⟩
                exact Int.le_trans (pow_le (b := 10) n1 n2) (by decide)
        · have hne : ((ws.length : Nat) : Int) ≠ 4 := by omega
          rw [decide_eq_false (show ¬ V.int (ws.length : Int) = V.int 4 from fun z => hne (V.int.inj z))]
          have e := gen_no (xs := xs) (by omega)
          have q' := q H (Same.refl H)
          rw [e] at q'
          exact q'
    | bool b => exact q H (Same.refl H)
    | none => exact q H (Same.refl H)
    | int x => exact q H (Same.refl H)
    | str x => exact q H (Same.refl H)
    | list xs => exact q H (Same.refl H)
    | dict xs => exact q H (Same.refl H)

def numsZip (ds : List PyData) (bs : List (Int × Int)) : List Bool := List.zipWith (fun d b => whole d b.1 b.2) ds bs
theorem nums_zip : ∀ {ds : List PyData} {bs : List (Int × Int)}, ds.length = bs.length → numsOk ds bs = (numsZip ds bs).all id
  | [], [], _ => rfl
  | [], _ :: _, h => by cases h
  | _ :: _, [], h => by cases h
  | d :: ds, b :: bs, h => by
    show (whole d b.1 b.2 && numsOk ds bs) = (whole d b.1 b.2 && (numsZip ds bs).all id)
    rw [nums_zip (Nat.succ.inj h)]
theorem pairs_at {K : PySem.W.Frag} {H : Hp} {vs : List V} {bs : List (Int × Int)} {i : Nat} {v : V} (h : DpAll K H vs (bs.map pairD)) (e : vs[i]? = some v) : ∃ b a, bs[i]? = some b ∧ v = .ref a ∧ SqT K H a [.int b.1, .int b.2] := by
  obtain ⟨d, h1, h2⟩ := dp_all_get h e
  rw [List.getElem?_map] at h1
  cases hb : bs[i]? with
  | none =>
    rw [hb] at h1
    cases h1
  | some b =>
    rw [hb] at h1
    have h3 := Option.some.inj h1
    subst h3
    cases h2 with
    | tup hs ha =>
      cases ha with
      | cons h4 h5 =>
        cases h5 with
        | cons h6 h7 =>
          cases h7
          cases h4
          cases h6
          exact ⟨b, _, rfl, rfl, hs⟩
theorem ok_numbers {f : Addr} {fd : FuncData} (D : Df K mg "are_numbers" s_are_numbers ["own", "bounds"] f fd) (T : Txt K w mg cs) (c_is_whole : Cl P w K mg base CX0 1 "is_whole" (spWhole K)) : FnOk P w K mg base CX0 2 f fd ["own", "bounds"] (spNums K) := by
  refine D.fn.ok sc_are_numbers (fun vs H Q E h => ?_) (fun cdv A outer s H vs Q E hr h => ?_)
  · obtain ⟨v, y, ds, bs, n, rfl, _⟩ := h
    rfl
  · obtain ⟨v, y, ds, bs, n, rfl, hv, hg, hy, hbl, q⟩ := h
    refine ⟨_, (pss_cons (ps_if (pt_cmpR op_ne (pe_callB (lenS K) (by rfl) T.n_len (by decide +kernel) (pa_cons (pv 0) pa_nil)) (pe_callB (lenS K) (by rfl) T.n_len (by decide +kernel) (pa_cons (pv 1) pa_nil)) (nomark _)) (pss_one (ps_ret pe_bl)) pss_nil) (pss_one (ps_ret (pe_callB (crAll K rfl) (by rfl) T.n_all (by decide +kernel) (pa_cons (pe_lc (own := [("value", 2), ("low", 3), ("high", 4)]) (g := (gTup K 2 (gCons (gName 2) (gCons (gTup K 2 (gCons (gName 3) (gCons (gName 4) gNil))) gNil)))) (tt := tYes) rfl sc_are_numbers.nd (RZ.pi_zipA (by rfl) T.n_zip (pa_cons (pv 0) (pa_cons (pv 1) pa_nil))) (blkOk_by (own := [("value", 2), ("low", 3), ("high", 4)]) (N := ["own", "bounds", "value", "low", "high"]) (sc := defScope s_are_numbers) (by decide +kernel)) (fun _ _ _ _ _ => (pg_tup (by rfl) (pgs_cons (pg_name (i := 2) sc_are_numbers.nd rfl (.inl rfl)) (pgs_cons (pg_tup (by rfl) (pgs_cons (pg_name (i := 3) sc_are_numbers.nd rfl (.inl rfl)) (pgs_cons (pg_name (i := 4) sc_are_numbers.nd rfl (.inl rfl)) pgs_nil))) pgs_nil)))) (fun _ _ _ _ _ => pts_nil) (fun _ _ _ _ _ => (pe_cl c_is_whole hr (by first | decide | omega) (by rfl) (pa_cons (pv 2) (pa_cons (pv 3) (pa_cons (pv 4) pa_nil)))))) pa_nil))))), ?_⟩
    cases hv with
    | @tup a ws _ hT hA =>
    cases hy with
    | @tup b zs _ hS hB =>
    obtain ⟨hl, n', rfl, hx⟩ := gd_tup hg
    have hwl := dp_all_len hA
    have hzl := dp_all_len hB
    rw [List.length_map] at hzl
    refine ⟨_, rfl, a, ws, rfl, .inr hT, _, rfl, b, zs, rfl, .inr hS, rfl, _, rfl, ?_⟩
    by_cases c : ws.length = zs.length
    · rw [decide_eq_true (show V.int ((ws.length : Nat) : Int) = V.int ((zs.length : Nat) : Int) from congrArg V.int (by omega))]
      refine ⟨_, rfl, _, rfl, a, b, ws, zs, rfl, .inr ⟨hT, hS, fun Dl hD => ?_⟩⟩
      refine lc_it (walk_zipT (n := ws.length) rfl c.symm) (fun i H' => Same H H' ∧ H' Dl = some (.lst (((numsZip ds bs).take i).map V.bl))) ?_ ?_ ?_ ?_
      · exact ⟨same_new hD, upd_same⟩
      · rintro i H' _ ⟨s1, _⟩
        exact ⟨same_sqt s1 hT, same_sqt s1 hS⟩
      · rintro i x H' H2 hi ⟨s1, e1⟩ ⟨t, x1, x2, rfl, nt, rfl, hx1, hx2⟩
        have s2 := s1.trans (same_new (o := .tup [x1, x2]) nt)
        obtain ⟨d, hdi, hdx⟩ := dp_all_get hA hx1
        obtain ⟨bb, pa, hbi, rfl, hpa⟩ := pairs_at hB hx2
        refine ⟨t, [x1, .ref pa], rfl, .inl (.inl upd_same), rfl, x1, _, rfl, .ref pa, _, rfl, ?_⟩
        refine ⟨pa, _, rfl, same_sqt s2 hpa, rfl, _, _, rfl, _, _, rfl, rfl, rfl, rfl, ?_⟩
        refine ⟨_, rfl, _, rfl, _, rfl, x1, d, bb.1, bb.2, rfl, dp_same s2 d hdx, ?_⟩
        have e2 : upd H' t (.tup [x1, .ref pa]) Dl = some (.lst (((numsZip ds bs).take i).map V.bl)) := by
          rw [upd_ne (ne_of_none e1 nt)]
          exact e1
        refine ⟨_, e2, ?_, fun p o e => ?_, ?_⟩
        · rw [List.length_map, List.length_take]
          exact Nat.lt_of_lt_of_le (show min i (numsZip ds bs).length < 10000 by omega) (by decide)
        · rw [upd_ne (ne_of_none e hD)]
          exact s2 p o e
        · rw [upd_same, List.take_add_one]
          have ez : (numsZip ds bs)[i]? = some (whole d bb.1 bb.2) := by
            unfold numsZip
            rw [List.getElem?_zipWith, hdi, hbi]
          rw [ez, List.map_append]
          rfl
      · rintro H' ⟨s1, e1⟩
        have hzn : (numsZip ds bs).length = ws.length := by
          unfold numsZip
          rw [List.length_zipWith]
          omega
        rw [List.take_of_length_le (by omega)] at e1
        refine ⟨Dl, _, rfl, .inl (.inl e1), ?_⟩
        rw [← nums_zip (by omega)]
        exact q H' s1
    · rw [decide_eq_false (show ¬ V.int ((ws.length : Nat) : Int) = V.int ((zs.length : Nat) : Int) from fun z => c (by have := V.int.inj z; omega))]
      have q' := q H (Same.refl H)
      rw [nums_len (by omega)] at q'
      exact q'

theorem ok_longerF {f : Addr} {fd : FuncData} (D : Df K mg "fits_longer" s_fits_longer ["own"] f fd) (T : Txt K w mg cs) (c_is_whole : Cl P w K mg base CX0 1 "is_whole" (spWhole K)) (c_is_generator : Cl P w K mg base CX0 2 "is_generator" (spD K genOk)) : FnOk P w K mg base CX0 3 f fd ["own"] (spOwn K fitLonger) := by
  refine D.fn.ok sc_fits_longer (fun vs H Q E h => ?_) (fun cdv A outer s H vs Q E hr h => ?_)
  · obtain ⟨v, ds, n, rfl, _⟩ := h
    rfl
  · obtain ⟨v, ds, n, rfl, hv, hg, q⟩ := h
    refine ⟨_, (pss_cons (ps_if (PW.pt (pw_or (pt_cmpR op_ne (pe_callB (lenS K) (by rfl) T.n_len (by decide +kernel) (pa_cons (pv 0) pa_nil)) pe_int (nomark _)) (pw_or1 (pt_not (pt_val (pe_cl c_is_generator hr (by first | decide | omega) (by rfl) (pa_cons (pe_ix (ixT K) (pv 0) pe_int (fun _ _ => rfl)) pa_nil))))))) (pss_one (ps_ret pe_bl)) pss_nil) (pss_cons (ps_asg (pe_slice (slTA K) (pe_ix (ixT K) (pv 0) pe_int (fun _ _ => rfl)) (po_some pe_int) (po_some pe_int)) (pg_tup (by rfl) (pgs_cons (pg_name (i := 1) sc_fits_longer.nd rfl (.inl rfl)) (pgs_cons (pg_name (i := 2) sc_fits_longer.nd rfl (.inl rfl)) pgs_nil)))) (pss_one (ps_ret (pe_and (pe_cmpR op_eq (pv 2) (pe_op op_add (pv 1) pe_int) (nomark _)) (pe_one (pe_cl c_is_whole hr (by first | decide | omega) (by rfl) (pa_cons (pe_ix (ixT K) (pv 0) pe_int (fun _ _ => rfl)) (pa_cons pe_int (pa_cons pe_int pa_nil)))))))))), ?_⟩
    cases hv with
    | @tup a ws _ hT hA =>
    obtain ⟨hl, n', rfl, hx⟩ := gd_tup hg
    have hwl := dp_all_len hA
    refine ⟨_, rfl, a, ws, rfl, .inr hT, rfl, _, rfl, ?_⟩
    by_cases c : ws.length = 2
    · obtain ⟨vg, vk, g, k, rfl, rfl, h0, h1⟩ := dp2 hA c
      have g0 := hx g List.mem_cons_self
      rw [decide_eq_true (show V.int (([vg, vk].length : Nat) : Int) = V.int 2 from rfl)]
      refine ⟨_, rfl, a, _, 0, vg, rfl, rfl, hT, rfl, vg, g, n', rfl, h0, g0, fun H1 s1 => ⟨_, rfl, ?_⟩⟩
      have ef : fitLonger [g, k] = (genOk g && (genNext g && whole k 1 20)) := rfl
      cases eg : genOk g with
      | false =>
        rw [ef, eg] at q
        exact q H1 s1
      | true =>
        obtain ⟨kk, r, n, m, rfl, b1, b2, b3, b4⟩ := gen_parts eg
        rw [ef, eg] at q
        cases h0 with
        | @tup ga gs _ gT gA =>
        obtain ⟨v0, v1, v2, v3, d0, d1, d2, d3, rfl, e4, p0, p1, p2, p3⟩ := dp4 gA (dp_all_len gA)
        cases e4
        cases p1
        cases p2
        refine ⟨_, rfl, a, _, 0, .ref ga, rfl, rfl, same_sqt s1 hT, rfl, 1, rfl, 3, rfl, slA_any (same_sqt s1 gT) fun p H2 s2 hc => ?_⟩
        have s12 := s1.trans s2
        refine ⟨p, [.int n, .int m], rfl, hc, rfl, _, _, rfl, _, _, rfl, rfl, ?_⟩
        refine ⟨_, rfl, _, rfl, _, _, rfl, rfl, rfl, _, rfl, ?_⟩
        have q' := fun H' (s' : Same H2 H') => q H' (s12.trans s')
        by_cases cm : m = n + 1
        · rw [decide_eq_true (congrArg V.int cm)]
          refine ⟨_, rfl, a, _, 1, vk, rfl, rfl, same_sqt s12 hT, rfl, vk, k, 1, 20, rfl, dp_same s12 k h1, ?_⟩
          have := q' H2 (Same.refl H2)
          rw [show genNext (.tuple [kk, .int n, .int m, r]) = decide (m = n + 1) from rfl, decide_eq_true cm] at this
          exact this
        · rw [decide_eq_false (fun z => cm (V.int.inj z))]
          have := q' H2 (Same.refl H2)
          rw [show genNext (.tuple [kk, .int n, .int m, r]) = decide (m = n + 1) from rfl, decide_eq_false cm] at this
          exact this
    · have hne : ((ws.length : Nat) : Int) ≠ 2 := by omega
      rw [decide_eq_false (show ¬ V.int (ws.length : Int) = V.int 2 from fun z => hne (V.int.inj z))]
      have q' := q H (Same.refl H)
      rw [fitLonger_no (by omega)] at q'
      exact q'
theorem ok_treeF {f : Addr} {fd : FuncData} (D : Df K mg "fits_tree" s_fits_tree ["own"] f fd) (T : Txt K w mg cs) (c_is_whole : Cl P w K mg base CX0 1 "is_whole" (spWhole K)) (c_is_generator : Cl P w K mg base CX0 2 "is_generator" (spD K genOk)) : FnOk P w K mg base CX0 3 f fd ["own"] (spOwn K fitTree) := by
  refine D.fn.ok sc_fits_tree (fun vs H Q E h => ?_) (fun cdv A outer s H vs Q E hr h => ?_)
  · obtain ⟨v, ds, n, rfl, _⟩ := h
    rfl
  · obtain ⟨v, ds, n, rfl, hv, hg, q⟩ := h
    refine ⟨_, (pss_cons (ps_if (PW.pt (pw_or (pt_cmpR op_ne (pe_callB (lenS K) (by rfl) T.n_len (by decide +kernel) (pa_cons (pv 0) pa_nil)) pe_int (nomark _)) (pw_or1 (pt_not (pt_val (pe_cl c_is_generator hr (by first | decide | omega) (by rfl) (pa_cons (pe_ix (ixT K) (pv 0) pe_int (fun _ _ => rfl)) pa_nil))))))) (pss_one (ps_ret pe_bl)) pss_nil) (pss_cons (ps_asg (pe_slice (slTA K) (pe_ix (ixT K) (pv 0) pe_int (fun _ _ => rfl)) (po_some pe_int) (po_some pe_int)) (pg_tup (by rfl) (pgs_cons (pg_name (i := 1) sc_fits_tree.nd rfl (.inl rfl)) (pgs_cons (pg_name (i := 2) sc_fits_tree.nd rfl (.inl rfl)) pgs_nil)))) (pss_one (ps_ret (pe_and (pe_cmpR op_eq (pv 2) (pe_op op_mul pe_int (pv 1)) (nomark _)) (pe_and (pe_cmpR op_le (pv 1) pe_int (nomark _)) (pe_and (pe_cl c_is_whole hr (by first | decide | omega) (by rfl) (pa_cons (pe_ix (ixT K) (pv 0) pe_int (fun _ _ => rfl)) (pa_cons pe_int (pa_cons (pe_callB (call_min2 rfl) (by rfl) T.n_min (by decide +kernel) (pa_cons pe_int (pa_cons (pe_op op_sub pe_int (pv 1)) pa_nil))) pa_nil)))) (pe_one (pe_cl c_is_whole hr (by first | decide | omega) (by rfl) (pa_cons (pe_ix (ixT K) (pv 0) pe_int (fun _ _ => rfl)) (pa_cons pe_int (pa_cons pe_int pa_nil)))))))))))), ?_⟩
    cases hv with
    | @tup a ws _ hT hA =>
    obtain ⟨hl, n', rfl, hx⟩ := gd_tup hg
    have hwl := dp_all_len hA
    refine ⟨_, rfl, a, ws, rfl, .inr hT, rfl, _, rfl, ?_⟩
    by_cases c : ws.length = 3
    · obtain ⟨vg, vd, vq, g, dd, dq, rfl, rfl, h0, h1, h2⟩ := dp3 hA c
      have g0 := hx g List.mem_cons_self
      rw [decide_eq_true (show V.int (([vg, vd, vq].length : Nat) : Int) = V.int 3 from rfl)]
      refine ⟨_, rfl, a, _, 0, vg, rfl, rfl, hT, rfl, vg, g, n', rfl, h0, g0, fun H1 s1 => ⟨_, rfl, ?_⟩⟩
      have ef : fitTree [g, dd, dq] = (genOk g && genTwice dd dq g) := rfl
      cases eg : genOk g with
      | false =>
        rw [ef, eg] at q
        exact q H1 s1
      | true =>
        obtain ⟨kk, r, n, m, rfl, b1, b2, b3, b4⟩ := gen_parts eg
        rw [ef, eg] at q
        cases h0 with
        | @tup ga gs _ gT gA =>
        obtain ⟨v0, v1, v2, v3, d0, d1, d2, d3, rfl, e4, p0, p1, p2, p3⟩ := dp4 gA (dp_all_len gA)
        cases e4
        cases p1
        cases p2
        refine ⟨_, rfl, a, _, 0, .ref ga, rfl, rfl, same_sqt s1 hT, rfl, 1, rfl, 3, rfl, slA_any (same_sqt s1 gT) fun p H2 s2 hc => ?_⟩
        have s12 := s1.trans s2
        refine ⟨p, [.int n, .int m], rfl, hc, rfl, _, _, rfl, _, _, rfl, rfl, ?_⟩
        have q' := q H2 s12
        rw [show genTwice dd dq (.tuple [kk, .int n, .int m, r]) = (decide (m = 2 * n) && (decide (n ≤ 8) && (whole dd 1 (if 12 - n < 8 then 12 - n else 8) && whole dq 1 1000))) from rfl] at q'
        refine ⟨_, rfl, _, rfl, _, _, rfl, rfl, .inl ⟨by decide, by decide⟩, rfl, _, rfl, ?_⟩
        by_cases cm : m = 2 * n
        · rw [decide_eq_true (congrArg V.int cm)]
          rw [decide_eq_true cm] at q'
          refine ⟨_, rfl, _, _, rfl, rfl, _, rfl, ?_⟩
          by_cases cn : n ≤ 8
          · rw [decide_eq_true cn] at q' ⊢
            refine ⟨_, rfl, a, _, 1, vd, rfl, rfl, same_sqt s12 hT, rfl, _, rfl, _, _, rfl, rfl, _, _, rfl, vd, dd, 1, _, rfl, dp_same s12 dd h1, _, rfl, ?_⟩
            cases cw : whole dd 1 (if 12 - n < 8 then 12 - n else 8) with
            | false =>
              rw [cw] at q'
              exact q'
            | true =>
              rw [cw] at q'
              exact ⟨_, rfl, a, _, 2, vq, rfl, rfl, same_sqt s12 hT, rfl, vq, dq, 1, 1000, rfl, dp_same s12 dq h2, q'⟩
          · rw [decide_eq_false cn] at q' ⊢
            exact q'
        · rw [decide_eq_false (fun z => cm (V.int.inj z))]
          rw [decide_eq_false cm] at q'
          exact q'
    · have hne : ((ws.length : Nat) : Int) ≠ 3 := by omega
      rw [decide_eq_false (show ¬ V.int (ws.length : Int) = V.int 3 from fun z => hne (V.int.inj z))]
      have q' := q H (Same.refl H)
      rw [fitTree_no (by omega)] at q'
      exact q'
theorem ok_onetimeF {f : Addr} {fd : FuncData} (D : Df K mg "fits_onetime" s_fits_onetime ["own"] f fd) (T : Txt K w mg cs) (c_is_whole : Cl P w K mg base CX0 1 "is_whole" (spWhole K)) (c_is_generator : Cl P w K mg base CX0 2 "is_generator" (spD K genOk)) : FnOk P w K mg base CX0 3 f fd ["own"] (spOwn K fitOnetime) := by
  refine D.fn.ok sc_fits_onetime (fun vs H Q E h => ?_) (fun cdv A outer s H vs Q E hr h => ?_)
  · obtain ⟨v, ds, n, rfl, _⟩ := h
    rfl
  · obtain ⟨v, ds, n, rfl, hv, hg, q⟩ := h
    refine ⟨_, (pss_one (ps_ret (pe_and (pe_cmpR op_eq (pe_callB (lenS K) (by rfl) T.n_len (by decide +kernel) (pa_cons (pv 0) pa_nil)) pe_int (nomark _)) (pe_and (pe_cl c_is_generator hr (by first | decide | omega) (by rfl) (pa_cons (pe_ix (ixT K) (pv 0) pe_int (fun _ _ => rfl)) pa_nil)) (pe_one (pe_cl c_is_whole hr (by first | decide | omega) (by rfl) (pa_cons (pe_ix (ixT K) (pv 0) pe_int (fun _ _ => rfl)) (pa_cons pe_int (pa_cons pe_int pa_nil))))))))), ?_⟩
    cases hv with
    | @tup a ws _ hT hA =>
    obtain ⟨hl, n', rfl, hx⟩ := gd_tup hg
    have hwl := dp_all_len hA
    refine ⟨_, rfl, a, ws, rfl, .inr hT, rfl, _, rfl, ?_⟩
    by_cases c : ws.length = 2
    · obtain ⟨vg, vk, g, k, rfl, rfl, h0, h1⟩ := dp2 hA c
      have g0 := hx g List.mem_cons_self
      rw [decide_eq_true (show V.int (([vg, vk].length : Nat) : Int) = V.int 2 from rfl)]
      refine ⟨_, rfl, a, _, 0, vg, rfl, rfl, hT, rfl, vg, g, n', rfl, h0, g0, fun H1 s1 => ⟨_, rfl, ?_⟩⟩
      have ef : fitOnetime [g, k] = (genOk g && whole k 1 4) := rfl
      cases eg : genOk g with
      | false =>
        rw [ef, eg] at q
        exact q H1 s1
      | true =>
        rw [ef, eg] at q
        exact ⟨_, rfl, a, _, 1, vk, rfl, rfl, same_sqt s1 hT, rfl, vk, k, 1, 4, rfl, dp_same s1 k h1, q H1 s1⟩
    · have hne : ((ws.length : Nat) : Int) ≠ 2 := by omega
      rw [decide_eq_false (show ¬ V.int (ws.length : Int) = V.int 2 from fun z => hne (V.int.inj z))]
      have q' := q H (Same.refl H)
      rw [fitOnetime_no (by omega)] at q'
      exact q'
theorem ok_openingF {f : Addr} {fd : FuncData} (D : Df K mg "fits_opening" s_fits_opening ["own"] f fd) (T : Txt K w mg cs) (c_are_rows : Cl P w K mg base CX0 1 "are_rows" (spRows K)) : FnOk P w K mg base CX0 3 f fd ["own"] (spOwn K fitOpening) := by
  refine D.fn.ok sc_fits_opening (fun vs H Q E h => ?_) (fun cdv A outer s H vs Q E hr h => ?_)
  · obtain ⟨v, ds, n, rfl, _⟩ := h
    rfl
  · obtain ⟨v, ds, n, rfl, hv, hg, q⟩ := h
    refine ⟨_, (pss_cons (ps_if (PW.pt (pw_or (pt_cmpR op_ne (pe_callB (lenS K) (by rfl) T.n_len (by decide +kernel) (pa_cons (pv 0) pa_nil)) pe_int (nomark _)) (pw_or1 (pt_not (pt_val (pe_callB (isiK K) (by rfl) T.n_isinstance (by decide +kernel) (pa_cons (pe_ix (ixT K) (pv 0) pe_int (fun _ _ => rfl)) (pa_cons (pe_ty "str" (by rfl) T.n_str (by decide +kernel)) pa_nil)))))))) (pss_one (ps_ret pe_bl)) pss_nil) (pss_one (ps_ret (pe_and (pe_chain op_le op_le pe_int (pe_callB call_len_str (by rfl) T.n_len (by decide +kernel) (pa_cons (pe_ix (ixT K) (pv 0) pe_int (fun _ _ => rfl)) pa_nil)) (C8.pe_gc (by rfl) T.g_MOST_BITS)) (pe_one (pe_cl c_are_rows hr (by first | decide | omega) (by rfl) (pa_cons (pv 0) (pa_cons pe_int (pa_cons (pe_callB call_len_str (by rfl) T.n_len (by decide +kernel) (pa_cons (pe_ix (ixT K) (pv 0) pe_int (fun _ _ => rfl)) pa_nil)) pa_nil))))))))), ?_⟩
    have hv0 := hv
    cases hv with
    | @tup a ws _ hT hA =>
    obtain ⟨hl, n', rfl, hx⟩ := gd_tup hg
    have hwl := dp_all_len hA
    refine ⟨_, rfl, a, ws, rfl, .inr hT, rfl, _, rfl, ?_⟩
    by_cases c : ws.length = 1
    · obtain ⟨vx, x, rfl, rfl, h0⟩ := dp1 hA c
      have g0 := hx x List.mem_cons_self
      rw [decide_eq_true (show V.int (([vx].length : Nat) : Int) = V.int 1 from rfl)]
      refine ⟨_, rfl, a, _, 0, vx, rfl, rfl, hT, rfl, _, _, _, _, _, rfl, .ty "str", dp_ty h0, kit_str x, _, rfl, ?_⟩
      have q0 := q H (Same.refl H)
      cases x with
      | str z =>
        cases h0
        have hz := (gd_str g0).2
        refine ⟨_, rfl, a, _, 0, .str z, rfl, rfl, hT, rfl, z, rfl, by rw [sizeLine_eq]; omega, _, _, rfl, rfl, _, rfl, ?_⟩
        have ef : fitOpening [.str z] = (decide ((1 : Int) ≤ (z.length : Int)) && (decide ((z.length : Int) ≤ 40) && rowsOk (.tuple [.str z]) 1 (z.length : Int))) := rfl
        rw [ef] at q0 q
        by_cases c1 : (1 : Int) ≤ (z.length : Int)
        · rw [decide_eq_true c1] at q0 q ⊢
          refine ⟨_, _, rfl, rfl, _, rfl, ?_⟩
          by_cases c2 : (z.length : Int) ≤ 40
          · rw [decide_eq_true c2] at q0 q ⊢
            exact ⟨_, rfl, _, rfl, a, _, 0, .str z, rfl, rfl, hT, rfl, z, rfl, by rw [sizeLine_eq]; omega, _, _, _, _, _, rfl, hv0, hg, by decide, c2, q⟩
          · rw [decide_eq_false c2] at q0 ⊢
            exact q0
        · rw [decide_eq_false c1] at q0 ⊢
          exact ⟨_, rfl, q0⟩
      | none => exact q0
      | bool b => exact q0
      | int b => exact q0
      | tuple b => exact q0
      | list b => exact q0
      | dict b => exact q0
    · have hne : ((ws.length : Nat) : Int) ≠ 1 := by omega
      rw [decide_eq_false (show ¬ V.int (ws.length : Int) = V.int 1 from fun z => hne (V.int.inj z))]
      have q' := q H (Same.refl H)
      rw [fitOpening_no (by omega)] at q'
      exact q'

theorem at_zero {v : V} {vs : List V} : atI (v :: vs) 0 = some v := atI_nat (j := 0) rfl
theorem dp_nil {K : PySem.W.Frag} {H : Hp} {p : Addr} (e : H p = some (.tup [])) : Dp K H (.ref p) (.tuple []) := .tup (.inl (.inl e)) .nil
theorem ok_made {f : Addr} {fd : FuncData} (D : Df K mg "is_made" s_is_made ["value"] f fd) (T : Txt K w mg cs) : FnOk P w K mg base CX0 1 f fd ["value"] (spD K madeD) := by
  refine D.fn.ok sc_is_made (fun vs H Q E h => ?_) (fun cdv A outer s H vs Q E hr h => ?_)
  · obtain ⟨v, d, n, rfl, _⟩ := h
    rfl
  · obtain ⟨v, d, n, rfl, hd, hg, q⟩ := h
    refine ⟨_, (pss_cons (ps_if (PW.pt (pw_or (pt_not (pt_val (pe_callB (isiK K) (by rfl) T.n_isinstance (by decide +kernel) (pa_cons (pv 0) (pa_cons (pe_ty "tuple" (by rfl) T.n_tuple (by decide +kernel)) pa_nil))))) (pw_or (pt_cmpR (op_eqF K hr.units) (pv 0) (pe_tup pa_nil) (nomark _)) (pw_or1 (pt_not (pt_val (pe_callB (isiK K) (by rfl) T.n_isinstance (by decide +kernel) (pa_cons (pe_ix (ixT K) (pv 0) pe_int (fun _ _ => rfl)) (pa_cons (pe_ty "str" (by rfl) T.n_str (by decide +kernel)) pa_nil))))))))) (pss_one (ps_ret pe_bl)) pss_nil) (pss_one (ps_ret (pe_or (pe_cmpR (in_dk T.dk_NUMBERS) (pe_ix (ixT K) (pv 0) pe_int (fun _ _ => rfl)) (pe_glob (v := .ref cs.NUMBERS) (by rfl) T.gl_NUMBERS rfl) (by rfl)) (pe_one (pe_cmpR (in_dk T.dk_FITTING) (pe_ix (ixT K) (pv 0) pe_int (fun _ _ => rfl)) (pe_glob (v := .ref cs.FITTING) (by rfl) T.gl_FITTING rfl) (by rfl))))))), ?_⟩
    refine ⟨_, rfl, _, _, _, _, _, rfl, .ty "tuple", dp_ty hd, kit_tup d, _, rfl, ?_⟩
    have q0 := q H (Same.refl H)
    cases d with
    | tuple xs =>
      refine ⟨_, rfl, (by show 0 ≤ sizeLine; exact Nat.zero_le _), fun p np => ?_⟩
      have s1 := same_new (o := .tup []) np
      refine ⟨_, _, dp_same s1 _ hd, dp_nil upd_same, gd_lay hg, nil_lay, nil_dep, _, rfl, ?_⟩
      generalize upd H p (.tup []) = H1 at s1
      have q1 := q H1 s1
      rw [eqv_nil]
      cases hd with
      | @tup a ws _ hT hA =>
      replace hT := same_sqt s1 hT
      cases xs with
      | nil => exact q1
      | cons x xs =>
        obtain ⟨v0, vs, rfl, h0, _⟩ := dp_cons hA
        replace h0 := dp_same s1 x h0
        refine ⟨_, rfl, a, _, 0, v0, rfl, rfl, hT, at_zero, _, _, _, _, _, rfl, .ty "str", dp_ty h0, kit_str x, _, rfl, ?_⟩
        cases x with
        | str z =>
          cases h0
          refine ⟨_, rfl, a, _, 0, .str z, rfl, rfl, hT, at_zero, z, rfl, rfl, _, rfl, ?_⟩
          replace q1 : Q (.bl (decide (z ∈ numK) || decide (z ∈ fitK))) H1 := q1
          cases c : decide (z ∈ numK) with
          | true =>
            rw [c] at q1
            exact q1
          | false =>
            rw [c] at q1
            exact ⟨_, rfl, a, _, 0, .str z, rfl, rfl, hT, at_zero, z, rfl, rfl, q1⟩
        | none => exact q1
        | bool b => exact q1
        | int b => exact q1
        | tuple b => exact q1
        | list b => exact q1
        | dict b => exact q1
    | none => exact q0
    | bool b => exact q0
    | int b => exact q0
    | str b => exact q0
    | list b => exact q0
    | dict b => exact q0
theorem num_has {K : PySem.W.Frag} : HasV (numR K) := fun z u ⟨a, e, _⟩ => ⟨.ref a, e⟩
theorem fit_has {mg : Str → Option Value} : HasV (fitR mg) := fun z u ⟨f, e, _⟩ => ⟨.ref f, e⟩
/-- which of the four fits is meant by a name -/
def fitF (mg : Str → Option Value) (K : PySem.W.Frag) (f : Addr) (sp : Sp) : Prop := (mg "fits_longer" = some (.ref f) ∧ sp = spOwn K fitLonger) ∨ (mg "fits_tree" = some (.ref f) ∧ sp = spOwn K fitTree) ∨ (mg "fits_opening" = some (.ref f) ∧ sp = spOwn K fitOpening) ∨ (mg "fits_onetime" = some (.ref f) ∧ sp = spOwn K fitOnetime)
theorem held_of {k : Nat} {x : Str} {sp : Sp} {f : Addr} (c : Cl P w K mg base CX0 k x sp) (e : mg x = some (.ref f)) : Held P w K mg base k f sp := by
  obtain ⟨g, fd, ps, F, hm, kp, b⟩ := c.ex
  have := Option.some.inj (hm.symm.trans e)
  cases this
  exact ⟨fd, ps, F, kp, b⟩
theorem num_len (z : Str) : (numOf z).length ≤ 100 := by
  have h : ∀ p ∈ numL, p.2.length ≤ 100 := by decide
  unfold numOf
  cases e : numL.find? (fun p => decide (p.1 = z)) with
  | none => exact Nat.zero_le _
  | some p => exact h p (List.mem_of_find?_eq_some e)
def spKind (K : PySem.W.Frag) : Sp := fun vs H Q _ => ∃ (v : V) (z : Str) (r : List PyData) (n : Nat), vs = [v] ∧ Dp K H v (.tuple (.str z :: r)) ∧ Gd n (.tuple (.str z :: r)) ∧ madeZ z = true ∧ ∀ H', Same H H' → Q (.bl (fitZ z r.dropLast)) H'
theorem ok_kind {f : Addr} {fd : FuncData} (D : Df K mg "fits_kind" s_fits_kind ["made"] f fd) (T : Txt K w mg cs) (c_are_numbers : Cl P w K mg base CX0 2 "are_numbers" (spNums K))
    (A_fits : ∀ f sp, fitF mg K f sp → Held P w K mg base 3 f sp) : FnOk P w K mg base CX0 4 f fd ["made"] (spKind K) := by
  refine D.fn.ok sc_fits_kind (fun vs H Q E h => ?_) (fun cdv A outer s H vs Q E hr h => ?_)
  · obtain ⟨v, z, r, n, rfl, _⟩ := h
    rfl
  · obtain ⟨v, z, r, n, rfl, hd, hg, hz, q⟩ := h
    refine ⟨_, (pss_cons (ps_par (i := 1) (j := 2) (by rfl) sc_fits_kind.nd rfl rfl (by decide) rfl rfl (pa_cons (pe_ix (ixT K) (pv 0) pe_int (fun _ _ => rfl)) (pa_cons (pe_slice (slTA K) (pv 0) (po_some pe_int) (po_some (pe_un un_neg pe_int))) pa_nil)) (by rfl)) (pss_cons (ps_if (pt_cmpR (in_dk T.dk_NUMBERS) (pv 1) (pe_glob (v := .ref cs.NUMBERS) (by rfl) T.gl_NUMBERS rfl) (by rfl)) (pss_one (ps_ret (pe_cl c_are_numbers hr (by first | decide | omega) (by rfl) (pa_cons (pv 2) (pa_cons (pe_ix (ix_dk T.dk_NUMBERS) (pe_glob (v := .ref cs.NUMBERS) (by rfl) T.gl_NUMBERS rfl) (pv 1) (fun _ _ => rfl)) pa_nil))))) pss_nil) (pss_cons (ps_set (i := 3) sc_fits_kind.nd rfl (.inl rfl) (pe_ix (ix_dk T.dk_FITTING) (pe_glob (v := .ref cs.FITTING) (by rfl) T.gl_FITTING rfl) (pv 1) (fun _ _ => rfl))) (pss_one (ps_ret (pe_callH (i := 3) A_fits hr (by first | decide | omega) (by rfl) (.inl rfl) (pa_cons (pv 2) pa_nil))))))), ?_⟩
    cases hd with
    | @tup a ws _ hT hA =>
    obtain ⟨v0, vs, rfl, h0, hA'⟩ := dp_cons hA
    cases h0
    obtain ⟨hl, n', rfl, hx⟩ := gd_tup hg
    have gl := gds_last fun x h => hx x (List.mem_cons_of_mem _ h)
    refine ⟨_, rfl, a, _, 0, .str z, rfl, rfl, hT, at_zero, _, rfl, 1, rfl, 1, rfl, -1, rfl, slA_any hT fun p H1 s1 hp => ⟨_, _, rfl, ?_⟩⟩
    rw [cut_mid] at hp
    have hown : Dp K H1 (.ref p) (.tuple r.dropLast) := .tup hp (dps_same s1 _ (dps_last hA'))
    have gown : Gd (n' + 1) (.tuple r.dropLast) := ⟨by
      rw [List.length_dropLast]
      rw [List.length_cons] at hl
      omega, gl⟩
    refine ⟨_, rfl, z, rfl, rfl, _, rfl, ?_⟩
    by_cases cn : z ∈ numK
    · rw [decide_eq_true cn]
      refine ⟨_, rfl, _, rfl, z, rfl, rfl, cn, fun u uu ru hu => ?_⟩
      obtain ⟨b, rfl, hb⟩ := hu
      have eu : u = .ref b := by
        cases u <;> first | (cases ru; rfl) | (obtain ⟨_, k⟩ := ru; cases k) | (cases ru)
      subst eu
      refine ⟨_, _, _, numOf z, _, rfl, hown, gown, hb H1, num_len z, fun H2 s2 => ?_⟩
      have q' := q H2 (s1.trans s2)
      unfold fitZ at q'
      rw [if_pos cn] at q'
      exact q'
    · rw [decide_eq_false cn]
      have hf : z ∈ fitK := by
        unfold madeZ at hz
        rw [decide_eq_false cn, Bool.false_or] at hz
        exact of_decide_eq_true hz
      refine ⟨_, rfl, z, rfl, rfl, hf, fun u uu ru hu => ?_⟩
      obtain ⟨g, rfl, hgz⟩ := hu
      have eu : u = .ref g := by
        cases u <;> first | (cases ru; rfl) | (obtain ⟨_, k⟩ := ru; cases k) | (cases ru)
      subst eu
      have q' := fun H2 (s2 : Same H1 H2) => q H2 (s1.trans s2)
      unfold fitZ at q'
      rcases hgz with ⟨rfl, e⟩ | ⟨rfl, e⟩ | ⟨rfl, e⟩ | ⟨rfl, e⟩
      · exact ⟨g, _, rfl, .inl ⟨e, rfl⟩, _, rfl, _, _, _, rfl, hown, gown, q'⟩
      · exact ⟨g, _, rfl, .inr (.inl ⟨e, rfl⟩), _, rfl, _, _, _, rfl, hown, gown, q'⟩
      · exact ⟨g, _, rfl, .inr (.inr (.inl ⟨e, rfl⟩)), _, rfl, _, _, _, rfl, hown, gown, q'⟩
      · exact ⟨g, _, rfl, .inr (.inr (.inr ⟨e, rfl⟩)), _, rfl, _, _, _, rfl, hown, gown, q'⟩
theorem ok_part {f : Addr} {fd : FuncData} (D : Df K mg "is_part" s_is_part ["value"] f fd) (T : Txt K w mg cs) (c_is_whole : Cl P w K mg base CX0 1 "is_whole" (spWhole K)) : FnOk P w K mg base CX0 2 f fd ["value"] (spD K partOk) := by
  refine D.fn.ok sc_is_part (fun vs H Q E h => ?_) (fun cdv A outer s H vs Q E hr h => ?_)
  · obtain ⟨v, d, n, rfl, _⟩ := h
    rfl
  · obtain ⟨v, d, n, rfl, hd, hg, q⟩ := h
    refine ⟨_, (pss_cons (ps_if (pt_val (pe_callB (isiK K) (by rfl) T.n_isinstance (by decide +kernel) (pa_cons (pv 0) (pa_cons (pe_ty "str" (by rfl) T.n_str (by decide +kernel)) pa_nil)))) (pss_one (ps_ret (pe_cmpR op_in_seq (pv 0) (pe_tup (pa_cons pe_str (pa_cons pe_str pa_nil))) (by rfl)))) pss_nil) (pss_one (ps_ret (pe_cl c_is_whole hr (by first | decide | omega) (by rfl) (pa_cons (pv 0) (pa_cons pe_int (pa_cons (C8.pe_gc (by rfl) T.g_LAST_BIT) pa_nil))))))), ?_⟩
    refine ⟨_, rfl, _, _, _, _, _, rfl, .ty "str", dp_ty hd, kit_str d, _, rfl, ?_⟩
    have q0 := q H (Same.refl H)
    have other : partOk d = whole d 0 9999 → isStr d = false → Q (.bl (whole d 0 9999)) H := fun e _ => e ▸ q0
    cases d with
    | str z =>
      cases hd
      refine ⟨_, rfl, (by show 2 ≤ sizeLine; decide), fun p np => ⟨p, _, rfl, .inr (.inl (.inl upd_same)), rfl, rfl, ?_⟩⟩
      have e : inV (.str z) [.str "0", .str "1"] = partOk (.str z) := by
        show ((eqV (.str "0") (.str z) || (eqV (.str "1") (.str z) || false)) : Bool) = (decide (z = "0") || decide (z = "1"))
        rw [Bool.or_false]
        have ee : ∀ y : Str, eqV (.str y) (.str z) = decide (z = y) := fun y => by
          show (y == z) = _
          by_cases h : z = y
          · rw [decide_eq_true h, h]
            exact beq_self_eq_true y
          · rw [decide_eq_false h]
            exact beq_eq_false_iff_ne.mpr fun k => h k.symm
        rw [ee, ee]
      have q' := q _ (same_new (o := .tup [.str "0", .str "1"]) np)
      rw [← e] at q'
      exact q'
    | none => exact ⟨_, rfl, _, _, 0, 9999, rfl, hd, other rfl rfl⟩
    | bool b => exact ⟨_, rfl, _, _, 0, 9999, rfl, hd, other rfl rfl⟩
    | int b => exact ⟨_, rfl, _, _, 0, 9999, rfl, hd, other rfl rfl⟩
    | tuple b => exact ⟨_, rfl, _, _, 0, 9999, rfl, hd, other rfl rfl⟩
    | list b => exact ⟨_, rfl, _, _, 0, 9999, rfl, hd, other rfl rfl⟩
    | dict b => exact ⟨_, rfl, _, _, 0, 9999, rfl, hd, other rfl rfl⟩
theorem ok_parts {f : Addr} {fd : FuncData} (D : Df K mg "are_parts" s_are_parts ["value"] f fd) (T : Txt K w mg cs) (c_is_part : Cl P w K mg base CX0 2 "is_part" (spD K partOk)) : FnOk P w K mg base CX0 3 f fd ["value"] (spD K partsOk) := by
  refine D.fn.ok sc_are_parts (fun vs H Q E h => ?_) (fun cdv A outer s H vs Q E hr h => ?_)
  · obtain ⟨v, d, n, rfl, _⟩ := h
    rfl
  · obtain ⟨v, d, n, rfl, hd, hg, q⟩ := h
    refine ⟨_, (pss_one (ps_ret (pe_and (pe_callB (isiK K) (by rfl) T.n_isinstance (by decide +kernel) (pa_cons (pv 0) (pa_cons (pe_ty "tuple" (by rfl) T.n_tuple (by decide +kernel)) pa_nil))) (pe_one (pe_callB (crAll K rfl) (by rfl) T.n_all (by decide +kernel) (pa_cons (pe_lc (own := [("part", 1)]) (g := gName 1) (tt := tYes) rfl sc_are_parts.nd (pi_tup (pv 0)) (blkOk_by (own := [("part", 1)]) (N := ["value", "part"]) (sc := defScope s_are_parts) (by decide +kernel)) (fun _ _ _ _ _ => (pg_name (i := 1) sc_are_parts.nd rfl (.inl rfl))) (fun _ _ _ _ _ => pts_nil) (fun _ _ _ _ _ => (pe_cl c_is_part hr (by first | decide | omega) (by rfl) (pa_cons (pv 1) pa_nil)))) pa_nil)))))), ?_⟩
    refine ⟨_, rfl, _, _, _, _, _, rfl, .ty "tuple", dp_ty hd, kit_tup d, _, rfl, ?_⟩
    have q0 := q H (Same.refl H)
    cases d with
    | tuple xs =>
      cases hd with
      | @tup a ws _ hT hA =>
      obtain ⟨hl, n', rfl, hx⟩ := gd_tup hg
      have hwl := dp_all_len hA
      refine ⟨_, rfl, a, rfl, ⟨_, hT⟩, fun Dl hD => ?_⟩
      refine lc_tup (xs := ws) (fun i H' => Same H H' ∧ H' Dl = some (.lst ((xs.take i).map fun x => V.bl (partOk x)))) ?_ ?_ ?_ ?_
      · exact ⟨same_new hD, upd_same⟩
      · rintro i H' _ ⟨s1, _⟩
        exact same_sqt s1 hT
      · rintro i x H' hxi ⟨s1, e1⟩
        obtain ⟨d, hdi, hdx⟩ := dp_all_get hA hxi
        have hi : i < xs.length := (List.getElem?_eq_some_iff.mp hdi).1
        refine ⟨rfl, ?_⟩
        refine ⟨_, rfl, x, d, _, rfl, dp_same s1 d hdx, hx d (List.mem_of_getElem? hdi), fun H2 s2 => ?_⟩
        refine ⟨_, s2 _ _ e1, ?_, fun p o e => ?_, ?_⟩
        · rw [List.length_map, List.length_take]
          exact Nat.lt_of_lt_of_le (show min i xs.length < 10000 by omega) (by decide)
        · rw [upd_ne (ne_of_none e hD)]
          exact s2 _ _ (s1 p o e)
        · rw [upd_same, List.take_add_one, hdi, List.map_append]
          rfl
      · rintro H' ⟨s1, e1⟩
        rw [List.take_of_length_le (by omega)] at e1
        have em : (xs.map fun x => V.bl (partOk x)) = (xs.map partOk).map V.bl := by
          rw [List.map_map]
          rfl
        rw [em] at e1
        refine ⟨Dl, _, rfl, .inl (.inl e1), ?_⟩
        have ea : (xs.map partOk).all id = partsOk (.tuple xs) := by
          rw [List.all_map]
          rfl
        rw [ea]
        exact q H' s1
    | none => exact q0
    | bool b => exact q0
    | int b => exact q0
    | str b => exact q0
    | list b => exact q0
    | dict b => exact q0

theorem ok_looks {f : Addr} {fd : FuncData} (D : Df K mg "looks_plain" s_looks_plain ["value"] f fd) (T : Txt K w mg cs) (c_is_whole : Cl P w K mg base CX0 1 "is_whole" (spWhole K)) (c_are_parts : Cl P w K mg base CX0 3 "are_parts" (spD K partsOk)) : FnOk P w K mg base CX0 4 f fd ["value"] (spD K looksOk) := by
  refine D.fn.ok sc_looks_plain (fun vs H Q E h => ?_) (fun cdv A outer s H vs Q E hr h => ?_)
  · obtain ⟨v, d, n, rfl, _⟩ := h
    rfl
  · obtain ⟨v, d, n, rfl, hd, hg, q⟩ := h
    refine ⟨_, (pss_cons (ps_if (PW.pt (pw_or (pt_not (pt_val (pe_callB (isiK K) (by rfl) T.n_isinstance (by decide +kernel) (pa_cons (pv 0) (pa_cons (pe_ty "tuple" (by rfl) T.n_tuple (by decide +kernel)) pa_nil))))) (pw_or1 (pt_cmpR (op_eqF K hr.units) (pv 0) (pe_tup pa_nil) (nomark _))))) (pss_one (ps_ret pe_bl)) pss_nil) (pss_cons (ps_par (i := 1) (j := 2) (by rfl) sc_looks_plain.nd rfl rfl (by decide) rfl rfl (pa_cons (pe_ix (ixT K) (pv 0) pe_int (fun _ _ => rfl)) (pa_cons (pe_callB (lenS K) (by rfl) T.n_len (by decide +kernel) (pa_cons (pv 0) pa_nil)) pa_nil)) (by rfl)) (pss_cons (ps_if (pt_cmpR (op_eqF K hr.units) (pv 1) pe_str (nomark _)) (pss_one (ps_ret (pe_and (pe_cmpR op_eq (pv 2) pe_int (nomark _)) (pe_one (pe_cl c_are_parts hr (by first | decide | omega) (by rfl) (pa_cons (pe_ix (ixT K) (pv 0) pe_int (fun _ _ => rfl)) pa_nil)))))) pss_nil) (pss_cons (ps_if (pt_cmpR (op_eqF K hr.units) (pv 1) pe_str (nomark _)) (pss_one (ps_ret (pe_and (pe_cmpR op_eq (pv 2) pe_int (nomark _)) (pe_and (pe_callB (isiK K) (by rfl) T.n_isinstance (by decide +kernel) (pa_cons (pe_ix (ixT K) (pv 0) pe_int (fun _ _ => rfl)) (pa_cons (pe_ty "tuple" (by rfl) T.n_tuple (by decide +kernel)) pa_nil))) (pe_one (pe_chain op_le op_le pe_int (pe_callB (lenS K) (by rfl) T.n_len (by decide +kernel) (pa_cons (pe_ix (ixT K) (pv 0) pe_int (fun _ _ => rfl)) pa_nil)) (C8.pe_gc (by rfl) T.g_MOST_TOSSED))))))) pss_nil) (pss_cons (ps_if (pt_cmpR (op_eqF K hr.units) (pv 1) pe_str (nomark _)) (pss_one (ps_ret (pe_and (pe_cmpR op_eq (pv 2) pe_int (nomark _)) (pe_one (pe_cl c_is_whole hr (by first | decide | omega) (by rfl) (pa_cons (pe_ix (ixT K) (pv 0) pe_int (fun _ _ => rfl)) (pa_cons pe_int (pa_cons (C8.pe_gc (by rfl) T.g_LAST_BIT) pa_nil)))))))) pss_nil) (pss_one (ps_ret (pe_and (pe_cmpR (op_eqF K hr.units) (pv 1) pe_str (nomark _)) (pe_and (pe_cmpR op_eq (pv 2) pe_int (nomark _)) (pe_one (pe_cl c_are_parts hr (by first | decide | omega) (by rfl) (pa_cons (pe_ix (ixT K) (pv 0) pe_int (fun _ _ => rfl)) pa_nil)))))))))))), ?_⟩
    refine ⟨_, rfl, _, _, _, _, _, rfl, .ty "tuple", dp_ty hd, kit_tup d, _, rfl, ?_⟩
    have q0 := q H (Same.refl H)
    cases d with
    | tuple xs =>
      refine ⟨_, rfl, (by show 0 ≤ sizeLine; exact Nat.zero_le _), fun p np => ?_⟩
      have s1 := same_new (o := .tup []) np
      refine ⟨_, _, dp_same s1 _ hd, dp_nil upd_same, gd_lay hg, nil_lay, nil_dep, _, rfl, ?_⟩
      generalize upd H p (.tup []) = H1 at s1
      replace q := fun H' (s' : Same H1 H') => q H' (s1.trans s')
      have q1 := q H1 (Same.refl H1)
      rw [eqv_nil]
      cases hd with
      | @tup a ws _ hT hA =>
      replace hT := same_sqt s1 hT
      replace hA := dps_same s1 _ hA
      obtain ⟨hl, n', rfl, hx⟩ := gd_tup hg
      cases xs with
      | nil => exact q1
      | cons k r =>
        obtain ⟨v0, vr, rfl, h0, hr'⟩ := dp_cons hA
        have g0 := hx k List.mem_cons_self
        have hwl := dp_all_len hr'
        refine ⟨_, rfl, a, _, 0, v0, rfl, rfl, hT, at_zero, _, rfl, a, _, rfl, .inr hT, _, _, rfl, ?_⟩
        rw [looks_eq] at q1
        simp only [looks_eq] at q
        have lay := gd_lay g0
        refine ⟨_, rfl, k, .str "say", h0, .str _, lay, str_lay _, str_dep _, _, rfl, ?_⟩
        show if named "say" k = true then _ else _
        cases c1 : named "say" k with
        | true =>
          rw [c1] at q1
          simp only [c1] at q
          refine ⟨_, rfl, rfl, _, rfl, ?_⟩
          by_cases c : vr.length = 1
          · obtain ⟨vp, p1, rfl, rfl, hp⟩ := dp1 hr' c
            rw [decide_eq_true (show V.int (([v0, vp].length : Nat) : Int) = V.int 2 from rfl)]
            exact ⟨_, rfl, a, _, 1, vp, rfl, rfl, hT, rfl, vp, p1, _, rfl, hp, hx p1 (List.mem_cons_of_mem _ List.mem_cons_self), q⟩
          · have hne : (((v0 :: vr).length : Nat) : Int) ≠ 2 := by
              rw [List.length_cons]
              omega
            rw [decide_eq_false (show ¬ V.int (((v0 :: vr).length : Nat) : Int) = V.int 2 from fun z => hne (V.int.inj z))]
            rw [if_pos rfl, sayOk_no (by omega)] at q1
            exact q1
        | false =>
          rw [c1] at q1
          simp only [c1] at q
          rw [if_neg (by decide)] at q1
          refine ⟨_, rfl, k, .str "toss", h0, .str _, lay, str_lay _, str_dep _, _, rfl, ?_⟩
          show if named "toss" k = true then _ else _
          cases c2 : named "toss" k with
          | true =>
            rw [c2, if_pos rfl] at q1
            refine ⟨_, rfl, rfl, _, rfl, ?_⟩
            by_cases c : vr.length = 1
            · obtain ⟨vp, p1, rfl, rfl, hp⟩ := dp1 hr' c
              rw [decide_eq_true (show V.int (([v0, vp].length : Nat) : Int) = V.int 2 from rfl)]
              refine ⟨_, rfl, a, _, 1, vp, rfl, rfl, hT, rfl, _, _, _, _, _, rfl, .ty "tuple", dp_ty hp, kit_tup p1, _, rfl, ?_⟩
              cases p1 with
              | tuple ys =>
                cases hp with
                | @tup b ks _ bT bA =>
                have hyl := dp_all_len bA
                refine ⟨_, rfl, a, _, 1, .ref b, rfl, rfl, hT, rfl, b, ks, rfl, .inr bT, _, _, rfl, rfl, _, rfl, ?_⟩
                have e2 : tossOk [.tuple ys] = (decide ((1 : Int) ≤ ((ks.length : Nat) : Int)) && decide (((ks.length : Nat) : Int) ≤ 64)) := by
                  rw [hyl]
                  rfl
                rw [e2] at q1
                by_cases d1 : (1 : Int) ≤ ((ks.length : Nat) : Int)
                · rw [decide_eq_true d1] at q1 ⊢
                  refine ⟨_, _, rfl, rfl, ?_⟩
                  exact q1
                · rw [decide_eq_false d1] at q1 ⊢
                  exact q1
              | none => exact q1
              | bool b => exact q1
              | int b => exact q1
              | str b => exact q1
              | list b => exact q1
              | dict b => exact q1
            · have hne : (((v0 :: vr).length : Nat) : Int) ≠ 2 := by
                rw [List.length_cons]
                omega
              rw [decide_eq_false (show ¬ V.int (((v0 :: vr).length : Nat) : Int) = V.int 2 from fun z => hne (V.int.inj z))]
              rw [tossOk_no (by omega)] at q1
              exact q1
          | false =>
            rw [c2, if_neg (by decide)] at q1
            simp only [c2] at q
            refine ⟨_, rfl, k, .str "look", h0, .str _, lay, str_lay _, str_dep _, _, rfl, ?_⟩
            show if named "look" k = true then _ else _
            cases c3 : named "look" k with
            | true =>
              rw [c3, if_pos rfl] at q1
              refine ⟨_, rfl, rfl, _, rfl, ?_⟩
              by_cases c : vr.length = 3
              · obtain ⟨vn, vx, vy, dn, dx, dy, rfl, rfl, hn, _, _⟩ := dp3 hr' c
                rw [decide_eq_true (show V.int (([v0, vn, vx, vy].length : Nat) : Int) = V.int 4 from rfl)]
                exact ⟨_, rfl, a, _, 1, vn, rfl, rfl, hT, rfl, vn, dn, 0, 9999, rfl, hn, q1⟩
              · have hne : (((v0 :: vr).length : Nat) : Int) ≠ 4 := by
                  rw [List.length_cons]
                  omega
                rw [decide_eq_false (show ¬ V.int (((v0 :: vr).length : Nat) : Int) = V.int 4 from fun z => hne (V.int.inj z))]
                rw [lookOk_no (by omega)] at q1
                exact q1
            | false =>
              rw [c3, if_neg (by decide)] at q1
              simp only [c3] at q
              refine ⟨_, rfl, k, .str "ask", h0, .str _, lay, str_lay _, str_dep _, ?_⟩
              show ∃ c, V.bl (named "ask" k) = _ ∧ _
              cases c4 : named "ask" k with
              | false =>
                rw [c4] at q1
                exact ⟨_, rfl, q1⟩
              | true =>
                rw [c4, Bool.true_and] at q1
                simp only [c4, Bool.true_and] at q
                refine ⟨_, rfl, _, rfl, rfl, _, rfl, ?_⟩
                by_cases c : vr.length = 2
                · obtain ⟨vp, vx, p1, dx, rfl, rfl, hp, _⟩ := dp2 hr' c
                  rw [decide_eq_true (show V.int (([v0, vp, vx].length : Nat) : Int) = V.int 3 from rfl)]
                  exact ⟨_, rfl, a, _, 1, vp, rfl, rfl, hT, rfl, vp, p1, _, rfl, hp, hx p1 (List.mem_cons_of_mem _ List.mem_cons_self), q⟩
                · have hne : (((v0 :: vr).length : Nat) : Int) ≠ 3 := by
                    rw [List.length_cons]
                    omega
                  rw [decide_eq_false (show ¬ V.int (((v0 :: vr).length : Nat) : Int) = V.int 3 from fun z => hne (V.int.inj z))]
                  rw [askOk_no (by omega)] at q1
                  exact q1
    | none => exact q0
    | bool b => exact q0
    | int b => exact q0
    | str b => exact q0
    | list b => exact q0
    | dict b => exact q0
theorem ok_kids {f : Addr} {fd : FuncData} (D : Df K mg "directly_within" s_directly_within ["plain"] f fd) (T : Txt K w mg cs) : FnOk P w K mg base CX0 1 f fd ["plain"] (spKids K) := by
  refine D.fn.ok sc_directly_within (fun vs H Q E h => ?_) (fun cdv A outer s H vs Q E hr h => ?_)
  · obtain ⟨v, d, n, G, rfl, _⟩ := h
    rfl
  · obtain ⟨v, d, n, G, rfl, sG, hd, hg, hk, q⟩ := h
    refine ⟨_, (pss_one (ps_ret (pe_ifExp (pt_cmpR (op_eqF K hr.units) (pe_ix (ixT K) (pv 0) pe_int (fun _ _ => rfl)) pe_str (nomark _)) (pe_ix (ixT K) (pv 0) pe_int (fun _ _ => rfl)) (pe_slice (slTA K) (pv 0) (po_some pe_int) po_none)))), ?_⟩
    cases d with
    | tuple xs =>
      cases xs with
      | nil => cases hk
      | cons k r =>
        cases hd with
        | @tup a ws _ hT hA =>
        obtain ⟨hl, n', rfl, hx⟩ := gd_tup hg
        obtain ⟨v0, vr, rfl, h0, hr'⟩ := dp_cons hA
        replace hT := same_sqt sG hT
        refine ⟨_, rfl, a, _, 0, v0, rfl, rfl, hT, at_zero, k, .str "toss", dp_same sG k h0, .str _, gd_lay (hx k List.mem_cons_self), str_lay _, str_dep _, _, rfl, ?_⟩
        show if named "toss" k = true then _ else _
        cases c : named "toss" k with
        | true =>
          have ek := named_eq c
          rw [looks_eq, c, ek, named_str, decide_eq_false (by decide), if_neg (by decide), if_pos rfl] at hk
          obtain ⟨ys, rfl, _, _⟩ := toss_kids hk
          rw [kids_toss c] at q
          obtain ⟨v1, vs1, rfl, h1, h2⟩ := dp_cons hr'
          cases h2
          cases h1 with
          | @tup b us _ bT bA =>
          exact ⟨_, rfl, a, _, 1, .ref b, rfl, rfl, hT, rfl, q b us H (Same.refl H) (same_sqt sG bT) bA⟩
        | false =>
          rw [kids_other c] at q
          refine ⟨_, rfl, 2, rfl, slA_any hT fun p H1 s1 hp => ?_⟩
          rw [cut_two] at hp
          exact q p _ H1 s1 hp (dps_drop 1 hr')
    | none => cases hk
    | bool b => cases hk
    | int b => cases hk
    | str b => cases hk
    | list b => cases hk
    | dict b => cases hk

theorem last_get {α : Type} (xs : List α) (v : α) : (xs ++ [v])[(xs ++ [v]).length - 1]? = some v := by
  rw [List.length_append, List.length_singleton, Nat.add_sub_cancel, List.getElem?_append_right (Nat.le_refl _), Nat.sub_self]
  rfl
theorem snoc_cases {α : Type} (l : List α) : l = [] ∨ ∃ ys x, l = ys ++ [x] := by
  by_cases h : l = []
  · exact .inl h
  · exact .inr ⟨l.dropLast, l.getLast h, (List.dropLast_concat_getLast h).symm⟩
/-- the pile in the heap -/
structure Pile (K : PySem.W.Frag) (H H' : Hp) (W : Addr) (n : Nat) (xs : List Ent) : Prop where
  lst : H' W = some (.lst (xs.map fun x => V.ref x.1))
  ent : ∀ x ∈ xs, H' x.1 = some (.tup [x.2.1, .int (x.2.2.2 : Int)]) ∧ Dp K H x.2.1 x.2.2.1 ∧ Gd n x.2.2.1
theorem ok_plainB {f : Addr} {fd : FuncData} (D : Df K mg "is_plain_breaker" s_is_plain_breaker ["value"] f fd) (T : Txt K w mg cs) (c_looks_plain : Cl P w K mg base CX0 4 "looks_plain" (spD K looksOk)) (c_directly_within : Cl P w K mg base CX0 1 "directly_within" (spKids K)) : FnOk P w K mg base CX0 5 f fd ["value"] (spD K plainOk) := by
  refine D.fn.ok sc_is_plain_breaker (fun vs H Q E h => ?_) (fun cdv A outer s H vs Q E hr h => ?_)
  · obtain ⟨v, d, n, rfl, _⟩ := h
    rfl
  · obtain ⟨v, d, n, rfl, hd, hg, q⟩ := h
    refine ⟨_, (pss_cons (ps_set (i := 1) sc_is_plain_breaker.nd rfl (.inl rfl) (pe_lst (pa_cons (pe_tup (pa_cons (pv 0) (pa_cons pe_int pa_nil))) pa_nil))) (pss_cons (ps_set (i := 2) sc_is_plain_breaker.nd rfl (.inl rfl) pe_int) (pss_cons (ps_while PassesOwn.never (pt_truth (pv 1) (by intro _; rfl)) (pss_cons (ps_asg (pe_bm0 PySem.F.plainAttrs_list PySem.F.slot_list_pop PySem.F.type_list_pop mt_pop (pv 1)) (pg_tup (by rfl) (pgs_cons (pg_name (i := 3) sc_is_plain_breaker.nd rfl (.inl rfl)) (pgs_cons (pg_name (i := 4) sc_is_plain_breaker.nd rfl (.inr rfl)) pgs_nil)))) (pss_cons (ps_aug (i := 2) sc_is_plain_breaker.nd rfl (.inl rfl) pe_int ip_add) (pss_cons (ps_if (PW.pt (pw_or (pt_cmpR op_gt (pv 2) (pe_op op_add (C8.pe_gc (by rfl) T.g_MOST_WITHIN) pe_int) (nomark _)) (pw_or (pt_cmpR op_gt (pv 4) (C8.pe_gc (by rfl) T.g_DEEPEST_PLAIN) (nomark _)) (pw_or1 (pt_not (pt_val (pe_cl c_looks_plain hr (by first | decide | omega) (by rfl) (pa_cons (pv 3) pa_nil)))))))) (pss_one (ps_ret pe_bl)) pss_nil) (pss_one (ps_expr (pe_bm PySem.F.plainAttrs_list PySem.F.slot_list_extend PySem.F.type_list_extend mt_extend (pv 1) (pa_cons (pe_lc (own := [("inner", 5)]) (g := gName 5) (tt := tYes) rfl sc_is_plain_breaker.nd (pi_tup (pe_cl c_directly_within hr (by first | decide | omega) (by rfl) (pa_cons (pv 3) pa_nil))) (blkOk_by (own := [("inner", 5)]) (N := ["value", "waiting", "many", "part", "depth", "inner"]) (sc := defScope s_is_plain_breaker) (by decide +kernel)) (fun _ _ _ _ _ => (pg_name (i := 5) sc_is_plain_breaker.nd rfl (.inl rfl))) (fun _ _ _ _ _ => pts_nil) (fun _ _ _ _ _ => (pe_tup (pa_cons (pv 5) (pa_cons (pe_op op_add (pv 4) pe_int) pa_nil))))) pa_nil)))))))) (pss_one (ps_ret pe_bl))))), ?_⟩
    -- waiting = [(value, 1)]
    refine ⟨_, rfl, (by show 2 ≤ sizeLine; decide), fun p0 np => ⟨(by show 1 ≤ sizeLine; decide), fun W nW => ?_⟩⟩
    have hW : H W = none := (same_new np).free nW
    have s0 : Same H (upd (upd H p0 (.tup [v, .int 1])) W (.lst [.ref p0])) := (same_new np).trans (same_new nW)
    have pl0 : Pile K H (upd (upd H p0 (.tup [v, .int 1])) W (.lst [.ref p0])) W n [(p0, v, d, 1)] := ⟨upd_same, fun x hx => by
      rw [List.mem_singleton.mp hx]
      refine ⟨?_, hd, hg⟩
      rw [upd_ne (ne_of_none upd_same nW)]
      exact upd_same⟩
    have hgood : plainOk d = good [(p0, v, d, 1)] 0 := by
      unfold plainOk good
      show (okN 60 d && decide (szN 60 d ≤ 2001)) = ((okN 60 d && true) && decide (0 + (szN 60 d + 0) ≤ 2001))
      rw [Bool.and_true, Nat.add_zero, Nat.zero_add]
    generalize upd (upd H p0 (.tup [v, .int 1])) W (.lst [.ref p0]) = H0 at s0 pl0
    clear np nW
    refine ⟨fun m σ H' => ∃ (xs : List Ent) (many : Nat) (y3 y4 y5 : Option V), σ = [some v, some (.ref W), some (.int (many : Int)), y3, y4, y5] ∧ m = 2002 - many ∧ many ≤ 2001 ∧ xs.length ≤ 5000 * many + 1 ∧ Same H H' ∧ Pile K H H' W n xs ∧ plainOk d = good xs many,
      ⟨_, [(p0, v, d, 1)], 0, none, none, none, rfl, rfl, by omega, Nat.le_refl 1, s0, pl0, hgood⟩, ?_⟩
    clear s0 pl0 hgood H0
    rintro m σ H' ⟨xs, many, y3, y4, y5, rfl, hm, hmany, hlen, s1, pl, hgood⟩
    refine ⟨_, rfl, _, .inl ⟨_, .inl (.inl pl.lst), rfl⟩, ?_⟩
    rcases snoc_cases xs with rfl | ⟨ys, ⟨p, vx, dx, k⟩, rfl⟩
    · rw [good_nil hmany] at hgood
      have q' := q H' s1
      rw [hgood] at q'
      exact q'
    · have hne : (!((ys ++ [(p, vx, dx, k)]).map fun x : Ent => V.ref x.1).isEmpty) = true := by
        rw [List.map_append]
        cases (ys.map fun x : Ent => V.ref x.1) <;> rfl
      rw [hne, if_pos rfl]
      obtain ⟨ep, hdx, hgx⟩ := pl.ent (p, vx, dx, k) (List.mem_append_right _ List.mem_cons_self)
      dsimp only at ep hdx hgx
      refine ⟨fun σ H2 => ∃ (xs : List Ent) (y3 y4 y5 : Option V), σ = [some v, some (.ref W), some (.int ((many + 1 : Nat) : Int)), y3, y4, y5] ∧ many + 1 ≤ 2001 ∧ xs.length ≤ 5000 * (many + 1) + 1 ∧ Same H H2 ∧ Pile K H H2 W n xs ∧ plainOk d = good xs (many + 1), ?_, ?_⟩
      · rintro σ H2 ⟨xs, z3, z4, z5, rfl, h1, h2, h3, h4, h5⟩
        exact ⟨2002 - (many + 1), by omega, xs, many + 1, z3, z4, z5, rfl, rfl, h1, h2, h3, h4, h5⟩
      · -- part, depth = waiting.pop()
        have eW := pl.lst
        rw [List.map_append] at eW
        refine ⟨_, rfl, .inl ⟨rfl, _, .inl (.inl eW)⟩, W, _, .ref p, rfl, rfl, eW, ?_, ?_⟩
        · exact last_get _ _
        have edl : (ys.map (fun x : Ent => V.ref x.1) ++ [(p, vx, dx, k)].map fun x : Ent => V.ref x.1).dropLast = ys.map fun x : Ent => V.ref x.1 := List.dropLast_concat
        rw [edl]
        have hpW : p ≠ W := fun z => by
          rw [z, pl.lst] at ep
          cases ep
        have pl2 : Pile K H (upd H' W (.lst (ys.map fun x : Ent => V.ref x.1))) W n ys := ⟨upd_same, fun x hx => by
          obtain ⟨g1, g2, g3⟩ := pl.ent x (List.mem_append_left _ hx)
          refine ⟨?_, g2, g3⟩
          rw [upd_ne (fun z => by rw [z, pl.lst] at g1; cases g1)]
          exact g1⟩
        have s2 : Same H (upd H' W (.lst (ys.map fun x : Ent => V.ref x.1))) := fun b o e => by
          rw [upd_ne (ne_of_none e hW)]
          exact s1 b o e
        have ep2 : upd H' W (.lst (ys.map fun x : Ent => V.ref x.1)) p = some (.tup [vx, .int (k : Int)]) := by
          rw [upd_ne hpW]
          exact ep
        generalize upd H' W (.lst (ys.map fun x : Ent => V.ref x.1)) = H2 at pl2 s2 ep2
        refine ⟨p, [vx, .int (k : Int)], rfl, .inl (.inl ep2), rfl, _, _, rfl, _, _, rfl, rfl, ?_⟩
        -- many += 1
        refine ⟨_, rfl, _, _, rfl, rfl, ?_⟩
        -- the bounds
        refine ⟨_, rfl, _, _, rfl, rfl, _, _, rfl, rfl, _, rfl, ?_⟩
        by_cases c1 : 2001 < many + 1
        · rw [decide_eq_true (show ((many : Int) + 1) > 2000 + 1 by omega)]
          rw [good_many c1] at hgood
          have q' := q H2 s2
          rw [hgood] at q'
          exact q'
        · rw [decide_eq_false (show ¬ ((many : Int) + 1) > 2000 + 1 by omega)]
          refine ⟨_, rfl, _, _, rfl, rfl, _, rfl, ?_⟩
          by_cases c2 : 60 < k
          · rw [decide_eq_true (show (k : Int) > 60 by omega)]
            rw [good_bad (x := (p, vx, dx, k)) (okN_deep c2)] at hgood
            have q' := q H2 s2
            rw [hgood] at q'
            exact q'
          · rw [decide_eq_false (show ¬ (k : Int) > 60 by omega)]
            refine ⟨_, rfl, vx, dx, n, rfl, dp_same s2 dx hdx, hgx, fun H3 s3 => ⟨_, rfl, ?_⟩⟩
            have s23 := s2.trans s3
            cases cl : looksOk dx with
            | false =>
              rw [good_bad (x := (p, vx, dx, k)) (okN_looks cl)] at hgood
              have q' := q H3 s23
              rw [hgood] at q'
              exact q'
            | true =>
              have pl3 : Pile K H H3 W n ys := ⟨s3 _ _ pl2.lst, fun x hx => ⟨s3 _ _ (pl2.ent x hx).1, (pl2.ent x hx).2⟩⟩
              -- waiting.extend
              refine ⟨_, rfl, .inl ⟨rfl, _, .inl (.inl pl3.lst)⟩, ?_⟩
              refine ⟨_, rfl, vx, dx, n, H, rfl, s23, hdx, hgx, cl, fun a us H4 s4 aT aA => ?_⟩
              refine ⟨a, rfl, ⟨_, aT⟩, fun Dl hD => ?_⟩
              have hWl : Dl ≠ W := fun z => by
                have := s4 _ _ pl3.lst
                rw [← z, hD] at this
                cases this
              have hul := dp_all_len aA
              refine lc_tup (xs := us) (fun i H5 => ∃ es : List Ent, es.map (fun e => e.2.2) = ((kidsD dx).take i).map (fun d => (d, k + 1)) ∧ H5 Dl = some (.lst (es.map fun e => V.ref e.1)) ∧ (∀ e ∈ es, H5 e.1 = some (.tup [e.2.1, .int (e.2.2.2 : Int)]) ∧ Dp K H e.2.1 e.2.2.1 ∧ Gd n e.2.2.1) ∧ Same H4 H5) ?_ ?_ ?_ ?_
              · exact ⟨[], rfl, upd_same, fun e he => (nomatch he), same_new hD⟩
              · rintro i H5 _ ⟨_, _, _, _, s5⟩
                exact same_sqt s5 aT
              · rintro i u H5 hu ⟨es, he, eD, hes, s5⟩
                obtain ⟨e, hei, heu⟩ := dp_all_get aA hu
                refine ⟨rfl, ?_⟩
                refine ⟨_, rfl, _, rfl, _, _, rfl, rfl, (by show 2 ≤ sizeLine; decide), fun t nt => ?_⟩
                have eD2 : upd H5 t (.tup [u, .int ((k : Int) + 1)]) Dl = some (.lst (es.map fun e => V.ref e.1)) := by
                  rw [upd_ne (ne_of_none eD nt)]
                  exact eD
                have htD : t ≠ Dl := fun z => by
                  rw [z, eD] at nt
                  cases nt
                refine ⟨_, eD2, ?_, es ++ [(t, u, e, k + 1)], ?_, ?_, ?_, ?_⟩
                · have hle := congrArg List.length he
                  rw [List.length_map, List.length_map, List.length_take] at hle
                  have hkl := kids_len hgx
                  rw [List.length_map]
                  exact Nat.lt_of_lt_of_le (show es.length < 10000 by omega) (by decide)
                · rw [List.map_append, he, List.take_add_one, hei, List.map_append]
                  rfl
                · rw [upd_same, List.map_append]
                  rfl
                · intro x hx
                  rcases List.mem_append.mp hx with h | h
                  · obtain ⟨g1, g2, g3⟩ := hes x h
                    refine ⟨?_, g2, g3⟩
                    have g4 : upd H5 t (.tup [u, .int ((k : Int) + 1)]) x.1 = some (.tup [x.2.1, .int (x.2.2.2 : Int)]) := by
                      rw [upd_ne (ne_of_none g1 nt)]
                      exact g1
                    rw [upd_ne (fun z => by rw [z, eD2] at g4; cases g4)]
                    exact g4
                  · rw [List.mem_singleton.mp h]
                    refine ⟨?_, heu, kids_gd hgx (List.mem_of_getElem? hei)⟩
                    rw [upd_ne htD]
                    exact upd_same
                · intro b o e
                  rw [upd_ne (ne_of_none e hD), upd_ne (ne_of_none (s5 b o e) nt)]
                  exact s5 b o e
              · rintro H5 ⟨es, he, eD, hes, s5⟩
                rw [List.take_of_length_le (by omega)] at he
                have eW5 := s5 _ _ (s4 _ _ pl3.lst)
                have hle := congrArg List.length he
                rw [List.length_map, List.length_map] at hle
                have hkl := kids_len hgx
                have hyl : ys.length ≤ 5000 * many + 1 := by
                  rw [List.length_append] at hlen
                  omega
                refine ⟨W, Dl, _, _, rfl, rfl, eW5, eD, ?_, ?_⟩
                · rw [List.length_map, List.length_map, sizeLine_eq]
                  omega
                · refine ⟨ys ++ es, _, _, _, rfl, by omega, ?_, ?_, ⟨?_, ?_⟩, ?_⟩
                  · rw [List.length_append]
                    omega
                  · intro b o e
                    rw [upd_ne (ne_of_none e hW)]
                    exact s5 b o (s4 b o (s23 b o e))
                  · rw [upd_same, List.map_append]
                  · intro x hx
                    rcases List.mem_append.mp hx with h | h
                    · obtain ⟨g1, g2, g3⟩ := pl3.ent x h
                      refine ⟨?_, g2, g3⟩
                      have g4 := s5 _ _ (s4 _ _ g1)
                      rw [upd_ne (fun z => by rw [z, eW5] at g4; cases g4)]
                      exact g4
                    · obtain ⟨g1, g2, g3⟩ := hes x h
                      refine ⟨?_, g2, g3⟩
                      rw [upd_ne (fun z => by rw [z, eW5] at g1; cases g1)]
                      exact g1
                  · rw [hgood]
                    exact good_step (x := (p, vx, dx, k)) (by show k ≤ 60; omega) cl he

theorem ok_checkB {f : Addr} {fd : FuncData} (D : Df K mg "check_breaker" s_check_breaker ["breaker"] f fd) (T : Txt K w mg cs) (c_is_made : Cl P w K mg base CX0 1 "is_made" (spD K madeD)) (c_fits_kind : Cl P w K mg base CX0 4 "fits_kind" (spKind K))
    (c_is_plain_breaker : Cl P w K mg base CX0 5 "is_plain_breaker" (spD K plainOk)) : FnOk P w K mg base (L2.CX P w) 6 f fd ["breaker"] (spCheckB K cs.BadBreaker) := by
  refine D.fn.okX sc_check_breaker (fun vs H Q E h => ?_) (fun cdv A outer s H vs Q E hr h => ?_)
  · obtain ⟨v, d, n, rfl, _⟩ := h
    rfl
  · obtain ⟨v, d, n, rfl, hd, hg, q⟩ := h
    have tk := takes_of (X := cxOf (L2.CX P w) P w K mg base ["breaker", "inner", "depth"] "check_breaker" (defScope s_check_breaker) f cdv A outer s H E) (E := E) rfl rfl rfl rfl
    refine ⟨_, (pss_cons (ps_set (i := 1) sc_check_breaker.nd rfl (.inl rfl) (pv 0)) (pss_cons (ps_set (i := 2) sc_check_breaker.nd rfl (.inl rfl) pe_int) (pss_cons (ps_while (passes_of rfl) (pt_val (pe_cl c_is_made hr (by first | decide | omega) (by rfl) (pa_cons (pv 1) pa_nil))) (pss_cons (ps_aug (i := 2) sc_check_breaker.nd rfl (.inl rfl) pe_int ip_add) (pss_cons (ps_if (pt_cmpR op_gt (pv 2) (C8.pe_gc (by rfl) T.g_DEEPEST_MADE) (nomark _)) (pss_one (ps_raiseE T.x_BadBreaker rfl tk (by rfl))) pss_nil) (pss_cons (ps_if (pt_not (pt_val (pe_cl c_fits_kind hr (by first | decide | omega) (by rfl) (pa_cons (pv 1) pa_nil)))) (pss_one (ps_raiseE T.x_BadBreaker rfl tk (by rfl))) pss_nil) (pss_cons (ps_if (PW.pt (pw_and (pt_cmpR (op_eqF K hr.units) (pe_ix (ixT K) (pv 1) pe_int (fun _ _ => rfl)) pe_str (nomark _)) (pw_and1 (pt_val (pe_cl c_is_made hr (by first | decide | omega) (by rfl) (pa_cons (pe_ix (ixT K) (pv 1) (pe_un un_neg pe_int) (fun _ _ => rfl)) pa_nil)))))) (pss_one (ps_raiseE T.x_BadBreaker rfl tk (by rfl))) pss_nil) (pss_one (ps_set (i := 1) sc_check_breaker.nd rfl (.inl rfl) (pe_ix (ixT K) (pv 1) (pe_un un_neg pe_int) (fun _ _ => rfl))))))))) (pss_one (ps_if (pt_not (pt_val (pe_cl c_is_plain_breaker hr (by first | decide | omega) (by rfl) (pa_cons (pv 1) pa_nil)))) (pss_one (ps_raiseE T.x_BadBreaker rfl tk (by rfl))) pss_nil))))), ?_⟩
    refine ⟨_, rfl, ?_⟩
    refine ⟨fun m σ H' => ∃ (vi : V) (di : PyData) (depth : Nat), σ = [some v, some vi, some (.int (depth : Int))] ∧ m = 21 - depth ∧ depth ≤ 20 ∧ Same H H' ∧ Dp K H vi di ∧ Gd n di ∧ brOk d = chk (20 - depth) di,
      ⟨_, v, d, 0, rfl, rfl, by omega, Same.refl H, hd, hg, rfl⟩, ?_⟩
    rintro m σ H' ⟨vi, di, depth, rfl, hm, hdep, s1, hdi, hgi, hb⟩
    refine ⟨_, rfl, vi, di, n, rfl, dp_same s1 di hdi, hgi, fun H1 s' => ⟨_, rfl, ?_⟩⟩
    have s2 := s1.trans s'
    clear s1 s'
    cases cm : madeD di with
    | false =>
      rw [chk_plain cm] at hb
      refine ⟨_, rfl, vi, di, n, rfl, dp_same s2 di hdi, hgi, fun H2 s3 => ⟨_, rfl, ?_⟩⟩
      obtain ⟨q1, q2⟩ := q H2 (s2.trans s3)
      cases cp : plainOk di with
      | true =>
        rw [cp] at hb
        exact q1 hb
      | false =>
        rw [cp] at hb
        exact q2 hb
    | true =>
      obtain ⟨z, r, rfl, hz⟩ := made_parts cm
      refine ⟨fun σ H2 => ∃ (vi : V) (di : PyData), σ = [some v, some vi, some (.int ((depth + 1 : Nat) : Int))] ∧ depth + 1 ≤ 20 ∧ Same H H2 ∧ Dp K H vi di ∧ Gd n di ∧ brOk d = chk (20 - (depth + 1)) di, ?_, ?_⟩
      · rintro σ H2 ⟨vi, di, rfl, h1, h2, h3, h4, h5⟩
        exact ⟨21 - (depth + 1), by omega, vi, di, depth + 1, rfl, rfl, h1, h2, h3, h4, h5⟩
      · refine ⟨_, rfl, _, _, rfl, rfl, ?_⟩
        refine ⟨_, rfl, _, _, rfl, rfl, _, rfl, ?_⟩
        by_cases c1 : depth = 20
        · subst c1
          rw [decide_eq_true (show (((20 : Nat) : Int) + 1) > 20 by decide)]
          rw [Nat.sub_self, chk_zero cm] at hb
          exact (q H1 s2).2 hb
        · rw [decide_eq_false (show ¬ ((depth : Int) + 1) > 20 by omega)]
          rw [show 20 - depth = (20 - (depth + 1)) + 1 by omega, chk_succ cm] at hb
          have hfe : fitsD (.tuple (.str z :: r)) = fitZ z r.dropLast := rfl
          rw [hfe] at hb
          refine ⟨_, rfl, vi, z, r, n, rfl, dp_same s2 _ hdi, hgi, hz, fun H2 s' => ⟨_, rfl, ?_⟩⟩
          have s3 := s2.trans s'
          clear s2 s'
          cases cf : fitZ z r.dropLast with
          | false =>
            rw [cf, Bool.false_and] at hb
            exact (q H2 s3).2 hb
          | true =>
            rw [cf, Bool.true_and] at hb
            cases hdi with
            | @tup a ws _ hT hA =>
            obtain ⟨v0, vr, rfl, h0, hr'⟩ := dp_cons hA
            obtain ⟨vl, el, hvl, hmem⟩ := dps_at_last hA (fun z => by cases z)
            have ggl : Gd n (lastD (.tuple (.str z :: r))) := by
              obtain ⟨_, n', rfl, hx⟩ := gd_tup hgi
              exact gd_up (hx _ hmem)
            cases h0
            have hT3 := same_sqt s3 hT
            have hho : headIs "onetime" (.tuple (.str z :: r)) = named "onetime" (.str z) := rfl
            rw [hho] at hb
            refine ⟨_, rfl, a, _, 0, .str z, rfl, rfl, hT3, at_zero, .str z, .str "onetime", .str _, .str _, ?_, str_lay _, str_dep _, _, rfl, ?_⟩
            · obtain ⟨_, n', rfl, hx⟩ := gd_tup hgi
              exact gd_lay (hx _ List.mem_cons_self)
            · show if named "onetime" (.str z) = true then _ else _
              have last : ∀ H3, Same H2 H3 → brOk d = chk (20 - (depth + 1)) (lastD (.tuple (.str z :: r))) → SqT K H3 a (.str z :: vr) → ∃ (vi : V) (di : PyData), [some v, some vl, some (.int ((depth + 1 : Nat) : Int))] = [some v, some vi, some (.int ((depth + 1 : Nat) : Int))] ∧ depth + 1 ≤ 20 ∧ Same H H3 ∧ Dp K H vi di ∧ Gd n di ∧ brOk d = chk (20 - (depth + 1)) di :=
                fun H3 s' hb' _ => ⟨vl, _, rfl, by omega, s3.trans s', hvl, ggl, hb'⟩
              cases co : named "onetime" (.str z) with
              | false =>
                rw [co, Bool.false_and, Bool.not_false, Bool.true_and] at hb
                refine ⟨_, rfl, 1, rfl, a, _, -1, vl, rfl, rfl, hT3, el, ?_⟩
                exact last H2 (Same.refl H2) hb hT3
              | true =>
                rw [co, Bool.true_and] at hb
                refine ⟨_, rfl, 1, rfl, a, _, -1, vl, rfl, rfl, hT3, el, vl, _, n, rfl, dp_same s3 _ hvl, ggl, fun H3 s' => ⟨_, rfl, ?_⟩⟩
                cases cl : madeD (lastD (.tuple (.str z :: r))) with
                | true =>
                  rw [cl] at hb
                  exact (q H3 (s3.trans s')).2 hb
                | false =>
                  rw [cl, Bool.not_false, Bool.true_and] at hb
                  refine ⟨_, rfl, 1, rfl, a, _, -1, vl, rfl, rfl, same_sqt s' hT3, el, ?_⟩
                  exact last H3 s' hb (same_sqt s' hT3)

end

end
section
section
variable {P : Program} {w : World} {K : PySem.W.Frag} {mg : Str → Option Value} {base : Heap} 
def spDraw : Sp := fun vs H Q _ => ∃ a b, vs = [a, b] ∧ ∀ p, H p = none → Q (.ref p) (upd H p (.tup [.str "draw", a, b]))
theorem ok_draw {f : Addr} {fd : FuncData} (D : Df K mg "draw" s_draw ["many", "then"] f fd) : FnOk P w K mg base CX0 1 f fd ["many", "then"] spDraw := by
  refine D.fn.ok sc_draw (fun vs H Q E h => ?_) fun cdv A outer s H vs Q E hr h => ⟨_, (pss_one (ps_ret (pe_tup (pa_cons pe_str (pa_cons (pv 0) (pa_cons (pv 1) pa_nil)))))), ?_⟩
  · obtain ⟨a, b, rfl, _⟩ := h
    rfl
  · obtain ⟨a, b, rfl, q⟩ := h
    exact ⟨a, rfl, b, rfl, by show 3 ≤ sizeLine; decide, q⟩
/-- the strings of length l, by their numbers (for the time being any texts) -/
def spDrawBits (P : Program) (w : World) (K : PySem.W.Frag) (mg : Str → Option Value) (base : Heap) (T0 : Addr) (strB : Nat → Nat → Str) {α : Type} (R : Hp → V → α → Prop) (k_then L : Nat) : Sp := fun vs H Q _ => ∃ (l : Nat) (f : Addr) (g : Nat → Pr α), vs = [.int l, .ref f] ∧ l ≤ 200 ∧ Tb NM 1 H T0 ∧
  Clo P w K mg base NM k_then f (fun vs H2 Q _ => ∃ i : Nat, vs = [.str (strB l i)] ∧ i < 2 ^ l ∧ ∀ v' H', Kp NM H2 H' → RepPr P w K mg base NM R L (g i) H' v' → Q v' H') H ∧
  ∀ v' H', Kp NM H H' → RepPr P w K mg base NM R L (.draw (2 ^ l) g) H' v' → Q v' H'
def spBitsT (strB : Nat → Nat → Str) : Sp := fun vs H Q _ => ∃ l i : Nat, vs = [.int l, .int i] ∧ l ≤ 200 ∧ i < 2 ^ l ∧ Q (.str (strB l i)) H
theorem ok_draw_bits {α : Type} {R : Hp → V → α → Prop} {k_then L : Nat} {strB : Nat → Nat → Str} {f c T0 : Addr} {fd : FuncData} (D : Df K mg "draw_bits" s_draw_bits ["length", "then"] f fd) (hc : fd.code = .ref c) (TB : LamX.TabB base mg c T0)
    (c_draw : Cl P w K mg base CX0 1 "draw" spDraw) (c_bits : Cl P w K mg base CX0 1 "bits" (spBitsT strB)) (hR : StayR NM R) (hL : k_then + 1 ≤ L) (hL1 : 2 ≤ L) :
    FnOk P w K mg base CX0 2 f fd ["length", "then"] (spDrawBits P w K mg base T0 strB R k_then L) := by
  refine okE (js := [0, 1]) D.fn hc sc_draw_bits (fun vs H Q E h => ?_) (by decide +kernel) fun A outer s H vs Q E hr h => have B := BlOk.of TB.bm; ⟨_, (pxs_one (px_ret (pe_cl c_draw hr (by first | decide | omega) (by rfl) (pa_cons (pe_op op_shl pe_int (pv 0)) (pa_cons (pe_lamS (NM := NM) (n := 0) (T := T0) (e := n_draw_bits__l0) rfl rfl B nm_draw_bits__l0 (by rfl) fr_draw_bits__l0) pa_nil))))), ?_⟩
  · obtain ⟨l, f, g, rfl, _⟩ := h
    rfl
  · obtain ⟨l, f', g, rfl, hl, hT, hC, q⟩ := h
    refine ⟨_, rfl, 1, l, rfl, rfl, ⟨by omega, by omega, by decide⟩, hT, .inl TB.code, fun f1 c1 T1 H1 gr n0 a1 a2 a3 => ?_⟩
    refine ⟨_, _, rfl, fun p np cs LV out => ?_⟩
    have e1 : Kp NM H1 (lendH cs (upd H1 p (.tup [.str "draw", .int (1 * 2 ^ (l : Int).toNat), .ref f1]))) := (Kp.new np).trans (lend_kp out)
    refine q _ _ (gr.kpr.trans e1) ⟨p, f1, rfl, ?_, ?_⟩
    · rw [lend_at out upd_same]
      have e2 : (1 : Int) * 2 ^ (l : Int).toNat = ((2 ^ l : Nat) : Int) := by simp
      rw [← e2]
    · have C := cap_of (H := upd H1 p (.tup [.str "draw", .int (1 * 2 ^ (l : Int).toNat), .ref f1])) (F := lamF n_draw_bits__l0 ("draw_bits.<locals>.") _ c1) (ks := [1, 0]) (ws := [.ref f', .int l]) rfl LV fr_draw_bits__l0 (fr := ["then", "length"]) (by decide +kernel) (by decide +kernel) (by decide) rfl rfl
      refine Clo.mono (j := max k_then 1 + 1) (clo_lam (F := lamF n_draw_bits__l0 _ _ c1) (js := [1, 2]) (k := max k_then 1) (ws := [.ref f', .int l]) rfl fs_draw_bits__l0 (fun doc pm ct us hu => match us, hu with | [_], _ => rfl) (fun vs H2 Q E h => ?_) (a1.ext e1.toExt) (a2.ext e1.toExt) C cj_draw_bits__l0 fun A2 outer2 s2 H2 vs Q2 E2 e2 hr O h2 =>
          ⟨_, (pe_clo (i := 1) (k := k_then) (NM := NM) hr (by omega) (fun _ => O) cj_draw_bits__l0 (by rfl) (.inr (.inr (by rfl))) (pa_cons (pe_cl c_bits hr (by first | decide | omega) (by rfl) (pa_cons (pv 2) (pa_cons (pv 0) pa_nil))) pa_nil)), ?_⟩) (by omega)
      · obtain ⟨i, rfl, _⟩ := h
        rfl
      · obtain ⟨i, rfl, hi, q2⟩ := h2
        have C2 := C.ext e2
        have c2 := hC.ext (gr.kpr.toExt.trans (e1.toExt.trans e2))
        have fa := c2.1.take C2
        refine ⟨f', rfl, fa, _, rfl, _, rfl, l, i, rfl, hl, hi, fa, fun cs2 LV2 out2 => ?_⟩
        have e3 := lent_kp (NM := NM) (ks := [1, 2]) fs_draw_bits__l0 C2 (Kp.refl _) out2 LV2.1 (by decide) rfl rfl
        refine ⟨_, c2.ext e3.toExt, i, rfl, hi, fun v' H' e4 r4 H5 e5 o5 cs3 LV3 out3 => ?_⟩
        have e6 := relend_kp (NM := NM) (H := H5) LV2 LV3 (fun _ z => z) out3
        rw [← e5] at e6
        exact q2 _ _ (e3.trans (e4.trans e6)) (r4.ext hR e6.toExt)
section
variable {α β : Type} {R : Hp → V → α → Prop} {R' : Hp → V → β → Prop} {k_then k_onward kk L : Nat}
def spAfter (P : Program) (w : World) (K : PySem.W.Frag) (mg : Str → Option Value) (base : Heap) (T0 : Addr) {α β : Type} (R : Hp → V → α → Prop) (R' : Hp → V → β → Prop) (k_then kk L : Nat) (p : Pr α) : Sp := fun vs H Q _ => ∃ (x : V) (f : Addr) (g : α → Pr β), vs = [x, .ref f] ∧ Tb NM 1 H T0 ∧ RepPr P w K mg base NM R k_then p H x ∧
  Clo P w K mg base NM kk f (fun vs H2 Q _ => ∃ y a, vs = [y] ∧ R H2 y a ∧ ∀ v' H', Kp NM H2 H' → RepPr P w K mg base NM R' L (g a) H' v' → Q v' H') H ∧
  ∀ v' H', Kp NM H H' → RepPr P w K mg base NM R' L (p.bind g) H' v' → Q v' H'
theorem after_draw {f c T0 : Addr} {fd : FuncData} (D : Df K mg "after" s_after ["process", "onward"] f fd) (hc : fd.code = .ref c) (TB : LamX.TabB base mg c T0) (hR : StayR NM R) (hR' : StayR NM R') (hL : max k_then (kk + 1) + 1 ≤ L)
    (n : Nat) (kf : Nat → Pr α) (ih : ∀ i, FnOk P w K mg base CX0 (kk + 1) f fd ["process", "onward"] (spAfter P w K mg base T0 R R' k_then kk L (kf i))) : FnOk P w K mg base CX0 (k_onward + 1) f fd ["process", "onward"] (spAfter P w K mg base T0 R R' k_then kk L (.draw n kf)) := by
  refine okE (js := [1, 4]) D.fn hc sc_after (fun vs H Q E h => ?_) cj_after fun A outer s H vs Q E hr h => have B := BlOk.of TB.bm; ⟨_, (pxs_cons (px_of (ps_asg (pv 0) (pg_tup (by rfl) (pgs_cons (pg_name (i := 2) sc_after.nd rfl (.inl rfl)) (pgs_cons (pg_name (i := 3) sc_after.nd rfl (.inl rfl)) (pgs_cons (pg_name (i := 4) sc_after.nd rfl (.inr rfl)) pgs_nil)))))) (pxs_cons (px_if (pt_cmpR op_eq (pv 2) pe_str (nomark _)) (pxs_one (px_ret (pe_clo0 (i := 1) (k := k_onward) (NM := NM) hr (by omega) (by rfl) (.inr (.inl (by rfl))) (pa_cons (pv 3) pa_nil)))) pxs_nil) (pxs_one (px_ret (pe_tup (pa_cons (pv 2) (pa_cons (pv 3) (pa_cons (pe_lamS (NM := NM) (n := 0) (T := T0) (e := n_after__l0) rfl rfl B nm_after__l0 (by rfl) fr_after__l0) pa_nil)))))))), ?_⟩
  · obtain ⟨x, f, g, rfl, _⟩ := h
    rfl
  · obtain ⟨x, f', g, rfl, hT, ⟨p, ft, rfl, hp, hC⟩, hO, q⟩ := h
    refine ⟨_, rfl, p, _, rfl, .inl (.inl hp), by rfl, _, _, rfl, _, _, rfl, _, _, rfl, rfl, ?_⟩
    refine ⟨_, rfl, rfl, ?_⟩
    refine ⟨false, by simp [show ¬ (("draw" : Str) = "end") by decide +kernel], ?_⟩
    show (if false = true then _ else _)
    rw [if_neg Bool.false_ne_true]
    refine ⟨_, rfl, _, rfl, hT, .inl TB.code, fun f1 c1 T1 H1 gr n0 a1 a2 a3 => ⟨by show 3 ≤ sizeLine; decide, fun p1 np cs LV out => ?_⟩⟩
    have e1 : Kp NM H1 (lendH cs (upd H1 p1 (.tup [.str "draw", .int (n : Int), .ref f1]))) := (Kp.new np).trans (lend_kp out)
    refine q _ _ (gr.kpr.trans e1) ⟨p1, f1, rfl, lend_at out upd_same, ?_⟩
    have C := cap_of (H := upd H1 p1 (.tup [.str "draw", .int (n : Int), .ref f1])) (F := lamF n_after__l0 ("after.<locals>.") _ c1) (ks := [4, 1]) (ws := [.ref ft, .ref f']) rfl LV fr_after__l0 (fr := ["then", "onward"]) (by decide +kernel) (by decide +kernel) (by decide) rfl rfl
    refine Clo.mono (clo_lam (F := lamF n_after__l0 _ _ c1) (js := [1, 2]) (k := max k_then (kk + 1)) (ws := [.ref ft, .ref f']) rfl fs_after__l0 (fun doc pm ct us hu => match us, hu with | [_], _ => rfl) (fun vs H2 Q E h => ?_) (a1.ext e1.toExt) (a2.ext e1.toExt) C cj_after__l0 fun A2 outer2 s2 H2 vs Q2 E2 e2 hr O h2 => ?_) hL
    · obtain ⟨i, rfl, _⟩ := h
      rfl
    · obtain ⟨i, rfl, hi, q2⟩ := h2
      have c_after := D.cl (ih i)
      refine ⟨_, (pe_clL c_after hr (by omega) (fun _ => O) cj_after__l0 (by rfl) (pa_cons (pe_clo (i := 1) (k := k_then) (NM := NM) hr (by omega) (fun _ => O) cj_after__l0 (by rfl) (.inr (.inr (by rfl))) (pa_cons (pv 0) pa_nil)) (pa_cons (pv 2) pa_nil))), ?_⟩
      have e0 := gr.kpr.toExt.trans (e1.toExt.trans e2)
      have C2 := C.ext e2
      have cT := hC.ext e0
      have cO := hO.ext e0
      have fa := cT.1.take C2
      refine ⟨ft, rfl, fa, _, rfl, fa, fun cs2 LV2 out2 => ?_⟩
      have e3 := lent_kp (NM := NM) (ks := [1, 2]) fs_after__l0 C2 (Kp.refl _) out2 LV2.1 (by decide) rfl rfl
      refine ⟨_, cT.ext e3.toExt, i, rfl, hi, fun v' H' e4 r4 H5 e5 o5 => ⟨_, rfl, fun cs3 LV3 out3 => ?_⟩⟩
      have e6 := relend_kp (NM := NM) (H := H5) LV2 LV3.1 (fun _ z => z) out3
      rw [← e5] at e6
      have e7 := e3.trans (e4.trans e6)
      refine ⟨v', f', g, rfl, e7.tb _ _ (e0.tb _ _ hT), r4.ext hR e6.toExt, cO.ext e7.toExt, fun v6 H6 e8 r8 H7 e9 o7 cs4 LV4 out4 => ?_⟩
      have e10 := relend_kp (NM := NM) (H := H7) LV3 LV4 (fun _ z => z) out4
      rw [← e9] at e10
      exact q2 _ _ (e7.trans (e8.trans e10)) (r8.ext hR' e10.toExt)
theorem after_ask {f c T0 : Addr} {fd : FuncData} (D : Df K mg "after" s_after ["process", "onward"] f fd) (hc : fd.code = .ref c) (TB : LamX.TabB base mg c T0) (hR : StayR NM R) (hR' : StayR NM R') (hL : max k_then (kk + 1) + 1 ≤ L)
    (z : Str) (kf : Str → Pr α) (ih : ∀ i, FnOk P w K mg base CX0 (kk + 1) f fd ["process", "onward"] (spAfter P w K mg base T0 R R' k_then kk L (kf i))) : FnOk P w K mg base CX0 (k_onward + 1) f fd ["process", "onward"] (spAfter P w K mg base T0 R R' k_then kk L (.ask z kf)) := by
  refine okE (js := [1, 4]) D.fn hc sc_after (fun vs H Q E h => ?_) cj_after fun A outer s H vs Q E hr h => have B := BlOk.of TB.bm; ⟨_, (pxs_cons (px_of (ps_asg (pv 0) (pg_tup (by rfl) (pgs_cons (pg_name (i := 2) sc_after.nd rfl (.inl rfl)) (pgs_cons (pg_name (i := 3) sc_after.nd rfl (.inl rfl)) (pgs_cons (pg_name (i := 4) sc_after.nd rfl (.inr rfl)) pgs_nil)))))) (pxs_cons (px_if (pt_cmpR op_eq (pv 2) pe_str (nomark _)) (pxs_one (px_ret (pe_clo0 (i := 1) (k := k_onward) (NM := NM) hr (by omega) (by rfl) (.inr (.inl (by rfl))) (pa_cons (pv 3) pa_nil)))) pxs_nil) (pxs_one (px_ret (pe_tup (pa_cons (pv 2) (pa_cons (pv 3) (pa_cons (pe_lamS (NM := NM) (n := 0) (T := T0) (e := n_after__l0) rfl rfl B nm_after__l0 (by rfl) fr_after__l0) pa_nil)))))))), ?_⟩
  · obtain ⟨x, f, g, rfl, _⟩ := h
    rfl
  · obtain ⟨x, f', g, rfl, hT, ⟨p, ft, rfl, hp, hC⟩, hO, q⟩ := h
    refine ⟨_, rfl, p, _, rfl, .inl (.inl hp), by rfl, _, _, rfl, _, _, rfl, _, _, rfl, rfl, ?_⟩
    refine ⟨_, rfl, rfl, ?_⟩
    refine ⟨false, by simp [show ¬ (("ask" : Str) = "end") by decide +kernel], ?_⟩
    show (if false = true then _ else _)
    rw [if_neg Bool.false_ne_true]
    refine ⟨_, rfl, _, rfl, hT, .inl TB.code, fun f1 c1 T1 H1 gr n0 a1 a2 a3 => ⟨by show 3 ≤ sizeLine; decide, fun p1 np cs LV out => ?_⟩⟩
    have e1 : Kp NM H1 (lendH cs (upd H1 p1 (.tup [.str "ask", .str z, .ref f1]))) := (Kp.new np).trans (lend_kp out)
    refine q _ _ (gr.kpr.trans e1) ⟨p1, f1, rfl, lend_at out upd_same, ?_⟩
    have C := cap_of (H := upd H1 p1 (.tup [.str "ask", .str z, .ref f1])) (F := lamF n_after__l0 ("after.<locals>.") _ c1) (ks := [4, 1]) (ws := [.ref ft, .ref f']) rfl LV fr_after__l0 (fr := ["then", "onward"]) (by decide +kernel) (by decide +kernel) (by decide) rfl rfl
    refine Clo.mono (clo_lam (F := lamF n_after__l0 _ _ c1) (js := [1, 2]) (k := max k_then (kk + 1)) (ws := [.ref ft, .ref f']) rfl fs_after__l0 (fun doc pm ct us hu => match us, hu with | [_], _ => rfl) (fun vs H2 Q E h => ?_) (a1.ext e1.toExt) (a2.ext e1.toExt) C cj_after__l0 fun A2 outer2 s2 H2 vs Q2 E2 e2 hr O h2 => ?_) hL
    · obtain ⟨i, rfl, _⟩ := h
      rfl
    · obtain ⟨i, rfl, hi, q2⟩ := h2
      have c_after := D.cl (ih i)
      refine ⟨_, (pe_clL c_after hr (by omega) (fun _ => O) cj_after__l0 (by rfl) (pa_cons (pe_clo (i := 1) (k := k_then) (NM := NM) hr (by omega) (fun _ => O) cj_after__l0 (by rfl) (.inr (.inr (by rfl))) (pa_cons (pv 0) pa_nil)) (pa_cons (pv 2) pa_nil))), ?_⟩
      have e0 := gr.kpr.toExt.trans (e1.toExt.trans e2)
      have C2 := C.ext e2
      have cT := hC.ext e0
      have cO := hO.ext e0
      have fa := cT.1.take C2
      refine ⟨ft, rfl, fa, _, rfl, fa, fun cs2 LV2 out2 => ?_⟩
      have e3 := lent_kp (NM := NM) (ks := [1, 2]) fs_after__l0 C2 (Kp.refl _) out2 LV2.1 (by decide) rfl rfl
      refine ⟨_, cT.ext e3.toExt, i, rfl, hi, fun v' H' e4 r4 H5 e5 o5 => ⟨_, rfl, fun cs3 LV3 out3 => ?_⟩⟩
      have e6 := relend_kp (NM := NM) (H := H5) LV2 LV3.1 (fun _ z => z) out3
      rw [← e5] at e6
      have e7 := e3.trans (e4.trans e6)
      refine ⟨v', f', g, rfl, e7.tb _ _ (e0.tb _ _ hT), r4.ext hR e6.toExt, cO.ext e7.toExt, fun v6 H6 e8 r8 H7 e9 o7 cs4 LV4 out4 => ?_⟩
      have e10 := relend_kp (NM := NM) (H := H7) LV3 LV4 (fun _ z => z) out4
      rw [← e9] at e10
      exact q2 _ _ (e7.trans (e8.trans e10)) (r8.ext hR' e10.toExt)
theorem ok_after {f c T0 : Addr} {fd : FuncData} (D : Df K mg "after" s_after ["process", "onward"] f fd) (hc : fd.code = .ref c) (TB : LamX.TabB base mg c T0) (hR : StayR NM R) (hR' : StayR NM R') (hL : max k_then (k_onward + 1) + 1 ≤ L) :
    ∀ p : Pr α, FnOk P w K mg base CX0 (k_onward + 1) f fd ["process", "onward"] (spAfter P w K mg base T0 R R' k_then k_onward L p) := by
  intro p
  induction p with
  | fin a =>
    refine okE (js := [1, 4]) D.fn hc sc_after (fun vs H Q E h => ?_) cj_after fun A outer s H vs Q E hr h => have B := BlOk.of TB.bm; ⟨_, (pxs_cons (px_of (ps_asg (pv 0) (pg_tup (by rfl) (pgs_cons (pg_name (i := 2) sc_after.nd rfl (.inl rfl)) (pgs_cons (pg_name (i := 3) sc_after.nd rfl (.inl rfl)) (pgs_cons (pg_name (i := 4) sc_after.nd rfl (.inr rfl)) pgs_nil)))))) (pxs_cons (px_if (pt_cmpR op_eq (pv 2) pe_str (nomark _)) (pxs_one (px_ret (pe_clo0 (i := 1) (k := k_onward) (NM := NM) hr (by omega) (by rfl) (.inr (.inl (by rfl))) (pa_cons (pv 3) pa_nil)))) pxs_nil) (pxs_one (px_ret (pe_tup (pa_cons (pv 2) (pa_cons (pv 3) (pa_cons (pe_lamS (NM := NM) (n := 0) (T := T0) (e := n_after__l0) rfl rfl B nm_after__l0 (by rfl) fr_after__l0) pa_nil)))))))), ?_⟩
    · obtain ⟨x, f, g, rfl, _⟩ := h
      rfl
    · obtain ⟨x, f', g, rfl, hT, ⟨p, y, rfl, hp, hy⟩, hO, q⟩ := h
      refine ⟨_, rfl, p, _, rfl, .inl (.inl hp), by rfl, _, _, rfl, _, _, rfl, _, _, rfl, rfl, ?_⟩
      refine ⟨_, rfl, rfl, ?_⟩
      refine ⟨true, by simp, ?_⟩
      show (if true = true then _ else _)
      rw [if_pos rfl]
      refine ⟨f', rfl, hO.1, y, rfl, _, hO, y, a, rfl, hy, fun v' H' e r cs LV out => q _ _ (e.trans (lend_kp out)) (r.ext hR' (lend_kp (NM := NM) out).toExt)⟩
  | draw n kf ih => exact after_draw D hc TB hR hR' hL n kf ih
  | ask z kf ih => exact after_ask D hc TB hR hR' hL z kf ih
/-- a process that has not ended -/
def Pr.live {α : Type} : Pr α → Prop
  | .fin _ => False
  | _ => True
theorem ok_afterL {f c T0 : Addr} {fd : FuncData} (D : Df K mg "after" s_after ["process", "onward"] f fd) (hc : fd.code = .ref c) (TB : LamX.TabB base mg c T0) (hR : StayR NM R) (hR' : StayR NM R') (hL : max k_then (kk + 1) + 1 ≤ L) :
    ∀ p : Pr α, p.live → FnOk P w K mg base CX0 2 f fd ["process", "onward"] (spAfter P w K mg base T0 R R' k_then kk L p)
  | .fin _, h => h.elim
  | .draw n kf, _ => after_draw (k_onward := 1) D hc TB hR hR' hL n kf fun i => ok_after D hc TB hR hR' hL (kf i)
  | .ask z kf, _ => after_ask (k_onward := 1) D hc TB hR hR' hL z kf fun i => ok_after D hc TB hR hR' hL (kf i)
end
end

end
section
section
variable {P : Program} {w : World} {K : PySem.W.Frag} {mg : Str → Option Value} {base : Heap}
def spEnd : Sp := fun vs H Q _ => ∃ a, vs = [a] ∧ ∀ p, H p = none → Q (.ref p) (upd H p (.tup [.str "end", a, .non]))
theorem ok_end {f : Addr} {fd : FuncData} (D : Df K mg "end" s_end ["value"] f fd) : FnOk P w K mg base CX0 1 f fd ["value"] spEnd := by
  refine D.fn.ok sc_end (fun vs H Q E h => ?_) fun cdv A outer s H vs Q E hr h => ⟨_, (pss_one (ps_ret (pe_tup (pa_cons pe_str (pa_cons (pv 0) (pa_cons pe_non pa_nil)))))), ?_⟩
  · obtain ⟨a, rfl, _⟩ := h
    rfl
  · obtain ⟨a, rfl, q⟩ := h
    exact ⟨a, rfl, by show 3 ≤ sizeLine; decide, q⟩
/-- the strings that are made: outcome, said_one, no_answer -/
def spOutcome : Sp := fun vs H Q _ => ∃ b, vs = [.bl b] ∧ ∀ p, H p = none → Q (.ref p) (upd H p (.tup [.str "end", .int (if b then 1 else 0), .non]))
theorem ok_outcome {f : Addr} {fd : FuncData} (D : Df K mg "outcome" s_outcome ["won"] f fd) (c_end : Cl P w K mg base CX0 1 "end" spEnd) : FnOk P w K mg base CX0 2 f fd ["won"] spOutcome := by
  refine D.fn.ok sc_outcome (fun vs H Q E h => ?_) fun cdv A outer s H vs Q E hr h => ⟨_, (pss_one (ps_ret (pe_cl c_end hr (by first | decide | omega) (by rfl) (pa_cons (pe_ifExp (pt_val (pv 0)) pe_int pe_int) pa_nil)))), ?_⟩
  · obtain ⟨a, rfl, _⟩ := h
    rfl
  · obtain ⟨b, rfl, q⟩ := h
    refine ⟨_, rfl, b, rfl, ?_⟩
    cases b
    · exact ⟨_, rfl, q⟩
    · exact ⟨_, rfl, q⟩
end

end
section
section
variable {P : Program} {w : World} {K : PySem.W.Frag} {mg : Str → Option Value} {base : Heap} {k_then k_answer k_finish k_follow : Nat} {sp1 sp2 sp3 sp4 : Sp}
/-- a tuple that is tracked as such, or of the ground -/
def SqX (K : PySem.W.Frag) (H : Hp) (a : Addr) (xs : List V) : Prop :=
  H a = some (.tup xs) ∨ (∃ o, H a = some (.frz o (.tup xs))) ∨ ∃ (o : Obj) (its : Array Value) (n : Nat), K.lookup a = some o ∧ o.cls = .type "tuple" ∧ o.data = .seq its n ∧ its.size ≤ sizeLine ∧ Vals xs its.toList
theorem SqX.sq {K : PySem.W.Frag} {H : Hp} {a : Addr} {xs : List V} (h : SqX K H a xs) : SqT K H a xs := by
  rcases h with h | h | h
  · exact .inl (.inl h)
  · exact .inl (.inr h)
  · exact .inr h
theorem SqX.of {K : PySem.W.Frag} {H : Hp} {a : Addr} {xs : List V} (h : SqT K H a xs) : SqX K H a xs := by
  rcases h with (h | h) | h
  · exact .inl h
  · exact .inr (.inl h)
  · exact .inr (.inr h)
theorem SqX.ext {K : PySem.W.Frag} {H H1 : Hp} {a : Addr} {xs : List V} (h : SqX K H a xs) (e : Ext NM H H1) : SqX K H1 a xs := by
  rcases h with h | ⟨o, h⟩ | h
  · exact .inl (e.tup _ _ h)
  · exact .inr (.inl ⟨o, e.oth _ _ h (fun _ z => by cases z) (fun _ z => by cases z) (fun _ z => by cases z)⟩)
  · exact .inr (.inr h)
theorem SqX.take {K : PySem.W.Frag} {H : Hp} {F : CF} {fr : List Str} {ws : List V} {a : Addr} {xs : List V} (h : SqX K H a xs) (c : CapH H F fr ws) : SqX K (takeH F H) a xs := by
  rcases h with h | ⟨o, h⟩ | h
  · exact .inl (take_some c h fun ob v y => by cases y)
  · exact .inr (.inl ⟨o, take_some c h fun ob v y => by cases y⟩)
  · exact .inr (.inr h)
/-- the row of any seed, or any string: then goes on with it -/
def spDrawRow (P : Program) (w : World) (K : PySem.W.Frag) (mg : Str → Option Value) (base : Heap) (T0 T1 : Addr) (strB : Nat → Nat → Str) {α : Type} (R : Hp → V → α → Prop) (k_then L : Nat) : Sp := fun vs H Q _ =>
  ∃ (b r f : Addr) (y : V) (n m : Nat) (rows : List Str) (real : Bool) (g : Str → Pr α), vs = [.ref b, .bl real, .ref f] ∧ SqT K H b [y, .int n, .int m, .ref r] ∧ SqX K H r (rows.map V.str) ∧ rows.length = 2 ^ n ∧ n ≤ 40 ∧ m ≤ 40 ∧ Tb NM 1 H T0 ∧ Tb NM 1 H T1 ∧
  Clo P w K mg base NM k_then f (fun vs H2 Q _ => ∃ z : Str, vs = [.str z] ∧ (z ∈ rows ∨ ∃ i, i < 2 ^ m ∧ z = strB m i) ∧ ∀ v' H', Kp NM H2 H' → RepPr P w K mg base NM R L (g z) H' v' → Q v' H') H ∧
  ∀ v' H', Kp NM H H' → RepPr P w K mg base NM R L (if real then .draw (2 ^ n) fun i => g (rows.getD i "") else .draw (2 ^ m) fun i => g (strB m i)) H' v' → Q v' H'
theorem ok_draw_row {α : Type} {R : Hp → V → α → Prop} {L : Nat} {strB : Nat → Nat → Str} {f c T0 T1 : Addr} {fd : FuncData} (D : Df K mg "draw_row" s_draw_row ["block", "real", "then"] f fd) (hc : fd.code = .ref c) (TB : LamX.TabB base mg c T0) (c_draw : Cl P w K mg base CX0 1 "draw" spDraw)
    (c_draw_bits : Cl P w K mg base CX0 2 "draw_bits" (spDrawBits P w K mg base T1 strB R k_then L)) (hR : StayR NM R) (hL : k_then + 1 ≤ L) (hL1 : 1 ≤ L) :
    FnOk P w K mg base CX0 3 f fd ["block", "real", "then"] (spDrawRow P w K mg base T0 T1 strB R k_then L) := by
  refine okE (js := [2, 6]) D.fn hc sc_draw_row (fun vs H Q E h => ?_) cj_draw_row fun A outer s H vs Q E hr h => have B := BlOk.of TB.bm; ⟨_, (pxs_cons (px_of (ps_asg (pv 0) (pg_tup (by rfl) (pgs_cons (pg_name (i := 3) sc_draw_row.nd rfl (.inl rfl)) (pgs_cons (pg_name (i := 4) sc_draw_row.nd rfl (.inl rfl)) (pgs_cons (pg_name (i := 5) sc_draw_row.nd rfl (.inl rfl)) (pgs_cons (pg_name (i := 6) sc_draw_row.nd rfl (.inr rfl)) pgs_nil))))))) (pxs_cons (px_if (pt_val (pv 1)) (pxs_one (px_ret (pe_cl c_draw hr (by first | decide | omega) (by rfl) (pa_cons (pe_op op_shl pe_int (pv 4)) (pa_cons (pe_lamS (NM := NM) (n := 0) (T := T0) (e := n_draw_row__l0) rfl rfl B nm_draw_row__l0 (by rfl) fr_draw_row__l0) pa_nil))))) pxs_nil) (pxs_one (px_ret (pe_cl c_draw_bits hr (by first | decide | omega) (by rfl) (pa_cons (pv 5) (pa_cons (pv 2) pa_nil))))))), ?_⟩
  · obtain ⟨b, r, f, y, n, m, rows, real, g, rfl, _⟩ := h
    rfl
  · obtain ⟨b, r, f', y, n, m, rows, real, g, rfl, hb, hrw, hl, hn, hm, hT0, hT1, hC, q⟩ := h
    refine ⟨_, rfl, b, _, rfl, hb, by rfl, _, _, rfl, _, _, rfl, _, _, rfl, _, _, rfl, rfl, ?_⟩
    cases real with
    | false =>
      refine ⟨_, rfl, false, rfl, ?_⟩
      show (if false = true then _ else _)
      rw [if_neg Bool.false_ne_true]
      refine ⟨_, rfl, _, rfl, m, f', fun i => g (strB m i), rfl, by omega, hT1, hC.imp fun H2 _ vs Q E ⟨i, h1, h2, h3⟩ => ⟨strB m i, h1, .inr ⟨i, h2, rfl⟩, h3⟩, fun v' H' e r' cs LV out => ?_⟩
      exact q _ _ (e.trans (lend_kp out)) (r'.ext hR (lend_kp (NM := NM) out).toExt)
    | true =>
      refine ⟨_, rfl, true, rfl, ?_⟩
      show (if true = true then _ else _)
      rw [if_pos rfl]
      refine ⟨_, rfl, 1, n, rfl, rfl, ⟨by omega, by omega, by decide⟩, hT0, .inl TB.code, fun f1 c1 U1 H1 gr n0 a1 a2 a3 => ?_⟩
      refine ⟨_, _, rfl, fun p np cs LV out => ?_⟩
      have e1 : Kp NM H1 (lendH cs (upd H1 p (.tup [.str "draw", .int (1 * 2 ^ (n : Int).toNat), .ref f1]))) := (Kp.new np).trans (lend_kp out)
      refine q _ _ (gr.kpr.trans e1) ⟨p, f1, rfl, ?_, ?_⟩
      · rw [lend_at out upd_same]
        have e2 : (1 : Int) * 2 ^ (n : Int).toNat = ((2 ^ n : Nat) : Int) := by simp
        rw [← e2]
      · have C := cap_of (H := upd H1 p (.tup [.str "draw", .int (1 * 2 ^ (n : Int).toNat), .ref f1])) (F := lamF n_draw_row__l0 ("draw_row.<locals>.") _ c1) (ks := [2, 6]) (ws := [.ref f', .ref r]) rfl LV fr_draw_row__l0 (fr := ["then", "rows"]) (by decide +kernel) (by decide +kernel) (by decide) rfl rfl
        refine Clo.mono (clo_lam (F := lamF n_draw_row__l0 _ _ c1) (js := [1, 2]) (k := k_then) (ws := [.ref f', .ref r]) rfl fs_draw_row__l0 (fun doc pm ct us hu => match us, hu with | [_], _ => rfl) (fun vs H2 Q E h => ?_) (a1.ext e1.toExt) (a2.ext e1.toExt) C cj_draw_row__l0 fun A2 outer2 s2 H2 vs Q2 E2 e2 hr O h2 => ⟨_, (pe_clo (i := 1) (k := k_then) (NM := NM) hr (by omega) (fun _ => O) cj_draw_row__l0 (by rfl) (.inr (.inr (by rfl))) (pa_cons (pe_ix (ixT K) (pv 2) (pv 0) (fun _ _ => rfl)) pa_nil)), ?_⟩) hL
        · obtain ⟨i, rfl, _⟩ := h
          rfl
        · obtain ⟨i, rfl, hi, q2⟩ := h2
          have e0 := gr.kpr.toExt.trans (e1.toExt.trans e2)
          have C2 := C.ext e2
          have cT := hC.ext e0
          have fa := cT.1.take C2
          have li : i < rows.length := by omega
          have ai : atI (rows.map V.str) ((i : Nat) : Int) = some (.str (rows.getD i "")) := by
            have e9 : ixN (rows.map V.str).length ((i : Nat) : Int) = some i := by
              unfold ixN
              rw [if_pos (by omega), if_pos (by rw [List.length_map]; omega)]
              simp
            unfold atI
            rw [e9]
            show (rows.map V.str)[i]? = _
            rw [List.getElem?_map, List.getElem?_eq_getElem li, List.getD_eq_getElem?_getD, List.getElem?_eq_getElem li] <;> rfl
          refine ⟨f', rfl, fa, _, rfl, _, rfl, r, _, i, _, rfl, rfl, ((hrw.ext e0).take C2).sq, ai, fa, fun cs2 LV2 out2 => ?_⟩
          have e3 := lent_kp (NM := NM) (ks := [1, 2]) fs_draw_row__l0 C2 (Kp.refl _) out2 LV2.1 (by decide) rfl rfl
          have mem : rows.getD i "" ∈ rows := by
            rw [List.getD_eq_getElem?_getD, List.getElem?_eq_getElem li]
            exact List.getElem_mem li
          refine ⟨_, cT.ext e3.toExt, _, rfl, .inl mem, fun v' H' e4 r4 H5 e5 o5 cs3 LV3 out3 => ?_⟩
          have e6 := relend_kp (NM := NM) (H := H5) LV2 LV3 (fun _ z => z) out3
          rw [← e5] at e6
          exact q2 _ _ (e3.trans (e4.trans e6)) (r4.ext hR e6.toExt)
end

end
section
section
variable {P : Program} {w : World} {K : PySem.W.Frag} {mg : Str → Option Value} {base : Heap}
/-- one of several promises -/
theorem FnOk.ex {CX : CXT} {k : Nat} {f : Addr} {fd : FuncData} {ps : List Str} {ι : Type} {sp : ι → Sp} (h : ∀ i, FnOk P w K mg base CX k f fd ps (sp i)) : FnOk P w K mg base CX k f fd ps (fun vs H Q E => ∃ i, sp i vs H Q E) :=
  ⟨fun vs H Q E ⟨i, z⟩ => (h i).len vs H Q E z, fun A outer s H args us vs Q E hr e0 hb r ⟨i, z⟩ => (h i).run A outer s H args us vs Q E hr e0 hb r z⟩
def rV : Option Str → V
  | none => .non
  | some t => .str t
variable {α β γ : Type}
/-- what a process goes on as with an answer -/
def tld (no : α) (kf : Str → Pr α) : Option Str → Pr α
  | none => .fin no
  | some t => kf t
/-- its asks answered: by an, what stands at the end by fi -/
def Pr.srv (no : α) : Pr α → γ → (γ → Str → Pr (γ × Option Str)) → (γ → α → Pr β) → Pr β
  | .fin a, st, _, fi => fi st a
  | .draw n k, st, an, fi => .draw n fun i => (k i).srv no st an fi
  | .ask x k, st, an, fi => (an st x).bind fun r => match r.2 with
    | none => fi r.1 no
    | some t => (k t).srv no r.1 an fi
/-- how many asks are answered at once -/
def cnt (no : α) (an : γ → Str → Pr (γ × Option Str)) : Pr α → γ → Nat
  | .fin _, _ => 0
  | .draw _ _, _ => 0
  | .ask x k, st => match an st x with
    | .fin (s, some t) => cnt no an (k t) s + 1
    | .fin (_, none) => 1
    | _ => 0
/-- q lies properly below -/
def Below : Pr α → Pr α → Prop
  | .fin _, _ => False
  | .draw _ k, q => (∃ a, q = .fin a) ∨ ∃ i, q = k i ∨ Below (k i) q
  | .ask _ k, q => (∃ a, q = .fin a) ∨ ∃ t, q = k t ∨ Below (k t) q
theorem Pr.ind {C : Pr α → Prop} (h : ∀ p, (∀ q, Below p q → C q) → C p) : ∀ p, C p ∧ ∀ q, Below p q → C q
  | .fin a => ⟨h _ fun _ z => z.elim, fun _ z => z.elim⟩
  | .draw n k => by
    have b : ∀ q, Below (.draw n k) q → C q := by
      rintro q (⟨a, rfl⟩ | ⟨i, rfl | z⟩)
      · exact h _ fun _ z => z.elim
      · exact (Pr.ind h (k i)).1
      · exact (Pr.ind h (k i)).2 q z
    exact ⟨h _ b, b⟩
  | .ask x k => by
    have b : ∀ q, Below (.ask x k) q → C q := by
      rintro q (⟨a, rfl⟩ | ⟨i, rfl | z⟩)
      · exact h _ fun _ z => z.elim
      · exact (Pr.ind h (k i)).1
      · exact (Pr.ind h (k i)).2 q z
    exact ⟨h _ b, b⟩
theorem below_trans {q r : Pr α} : ∀ {p : Pr α}, Below p q → Below q r → Below p r
  | .fin _, z, _ => z.elim
  | .draw n k, z, w => by
    rcases z with ⟨a, rfl⟩ | ⟨i, rfl | z⟩
    · exact False.elim w
    · exact .inr ⟨i, .inr w⟩
    · exact .inr ⟨i, .inr (below_trans z w)⟩
  | .ask n k, z, w => by
    rcases z with ⟨a, rfl⟩ | ⟨i, rfl | z⟩
    · exact False.elim w
    · exact .inr ⟨i, .inr w⟩
    · exact .inr ⟨i, .inr (below_trans z w)⟩
/-- at most n asks on any way -/
def AskB : Pr α → Nat → Prop
  | .fin _, _ => True
  | .draw m k, n => ∀ i, i < m → AskB (k i) n
  | .ask _ _, 0 => False
  | .ask _ k, n + 1 => ∀ t, AskB (k t) n
/-! ### told -/
def spTold (P : Program) (w : World) (K : PySem.W.Frag) (mg : Str → Option Value) (base : Heap) (R : Hp → V → α → Prop) (NN : Prop) (no : α) (k_then : Nat) : Sp := fun vs H Q _ => ∃ (f : Addr) (o : Option Str) (kf : Str → Pr α), vs = [.ref f, rV o] ∧
  Clo P w K mg base NM k_then f (fun vs H2 Q _ => ∃ t : Str, vs = [.str t] ∧ Short t ∧ ∀ v' H', Kp NM H2 H' → RepPr P w K mg base NM R k_then (kf t) H' v' → Q v' H') H ∧
  (o = none → NN) ∧ (∀ t, o = some t → Short t) ∧ ∀ v' H', Kp NM H H' → RepPr P w K mg base NM R k_then (tld no kf o) H' v' → Q v' H'
theorem ok_told {R : Hp → V → α → Prop} {NN : Prop} {no : α} {k_then : Nat} {f : Addr} {fd : FuncData} (D : Df K mg "told" s_told ["then", "reply"] f fd) (c_end : Cl P w K mg base CX0 1 "end" spEnd) (hno : NN → ∀ H, R H .non no) :
    FnOk P w K mg base CX0 (max k_then 1 + 1) f fd ["then", "reply"] (spTold P w K mg base R NN no k_then) := by
  refine D.fn.ok sc_told (fun vs H Q E h => ?_) fun cdv A outer s H vs Q E hr h => ⟨_, (pss_one (ps_ret (pe_ifExp (pt_cmpR op_isN (pv 1) pe_non (nomark _)) (pe_cl c_end hr (by first | decide | omega) (by rfl) (pa_cons pe_non pa_nil)) (pe_clo0 (i := 0) (k := k_then) (NM := NM) hr (by omega) (by rfl) (.inl (by rfl)) (pa_cons (pv 1) pa_nil))))), ?_⟩
  · obtain ⟨f, o, kf, rfl, _⟩ := h
    rfl
  · obtain ⟨f', o, kf, rfl, hC, h1, h2, q⟩ := h
    cases o with
    | none =>
      refine ⟨_, rfl, rfl, ?_⟩
      refine ⟨true, rfl, ?_⟩
      show (if true = true then _ else _)
      rw [if_pos rfl]
      exact ⟨_, rfl, fun p np => q _ _ (Kp.new np) ⟨p, _, rfl, upd_same, hno (h1 rfl) _⟩⟩
    | some t =>
      refine ⟨_, rfl, rfl, ?_⟩
      refine ⟨false, rfl, ?_⟩
      show (if false = true then _ else _)
      rw [if_neg Bool.false_ne_true]
      exact ⟨f', rfl, hC.1, _, rfl, _, hC, t, rfl, h2 t rfl, q⟩
/-! ### serve -/
section
variable (P : Program) (w : World) (K : PySem.W.Frag) (mg : Str → Option Value) (base : Heap) (R : Hp → V → α → Prop) (R' : Hp → V → β → Prop) (S : Nat → Hp → V → γ → Prop) (NN : Prop)
/-- what an answer ends with -/
def RAns (n : Nat) : Hp → V → γ × Option Str → Prop := fun H v r => ∃ a x, v = .ref a ∧ H a = some (.tup [x, rV r.2]) ∧ S n H x r.1 ∧ (r.2 = none → NN) ∧ ∀ t, r.2 = some t → Short t
def spAnswer (La : Nat) (an : γ → Str → Pr (γ × Option Str)) : Sp := fun vs H Q _ => ∃ st s z n, vs = [st, .str z] ∧ S (n + 1) H st s ∧ ∀ v' H', Kp NM H H' → RepPr P w K mg base NM (RAns S NN n) La (an s z) H' v' → Q v' H'
def spFinish (L : Nat) (fi : γ → α → Pr β) : Sp := fun vs H Q _ => ∃ st s x a n, vs = [st, x] ∧ S n H st s ∧ R H x a ∧ ∀ v' H', Kp NM H H' → RepPr P w K mg base NM R' L (fi s a) H' v' → Q v' H'
def spServe (T0 T1 : Addr) (no : α) (k_then k_answer k_finish La L : Nat) (p : Pr α) : Sp := fun vs H Q _ => ∃ x st fa ff s n an fi, vs = [x, st, .ref fa, .ref ff] ∧ Tb NM 1 H T0 ∧ Tb NM 1 H T1 ∧ RepPr P w K mg base NM R k_then p H x ∧ AskB p n ∧ S n H st s ∧
  Clo P w K mg base NM k_answer fa (spAnswer P w K mg base S NN La an) H ∧ Clo P w K mg base NM k_finish ff (spFinish P w K mg base R R' S L fi) H ∧
  ∀ v' H', Kp NM H H' → RepPr P w K mg base NM R' L (p.srv no s an fi) H' v' → Q v' H'
end
/-- the state stays -/
def StayS (S : Nat → Hp → V → γ → Prop) : Prop := ∀ n H H1 v s, Ext NM H H1 → S n H v s → S n H1 v s
theorem RAns.stay {S : Nat → Hp → V → γ → Prop} {NN : Prop} (hS : StayS S) (n : Nat) : StayR NM (RAns S NN n) := fun H H1 v a e ⟨p, x, h1, h2, h3, h4⟩ => ⟨p, x, h1, e.tup _ _ h2, hS _ _ _ _ _ e h3, h4⟩
theorem cnt_lt {no : α} {an : γ → Str → Pr (γ × Option Str)} {z : Str} {kf : Str → Pr α} {s : γ} {r : γ × Option Str} (h : an s z = .fin r) : cnt no an (tld no kf r.2) r.1 < cnt no an (.ask z kf) s := by
  obtain ⟨s2, o⟩ := r
  cases o with
  | none => simp [cnt, h, tld]
  | some t => simp [cnt, h, tld]
theorem srv_fin {no : α} {an : γ → Str → Pr (γ × Option Str)} {fi : γ → α → Pr β} {z : Str} {kf : Str → Pr α} {s : γ} {r : γ × Option Str} (h : an s z = .fin r) : (tld no kf r.2).srv no r.1 an fi = (Pr.ask z kf).srv no s an fi := by
  obtain ⟨s2, o⟩ := r
  cases o with
  | none => simp [Pr.srv, h, tld, Pr.bind]
  | some t => simp [Pr.srv, h, tld, Pr.bind]
def srvG (no : α) (kf : Str → Pr α) (an : γ → Str → Pr (γ × Option Str)) (fi : γ → α → Pr β) : γ × Option Str → Pr β := fun r => match r.2 with
  | none => fi r.1 no
  | some t => (kf t).srv no r.1 an fi
theorem srv_ask {no : α} {an : γ → Str → Pr (γ × Option Str)} {fi : γ → α → Pr β} {z : Str} {kf : Str → Pr α} {s : γ} : (an s z).bind (srvG no kf an fi) = (Pr.ask z kf).srv no s an fi := by
  rw [Pr.srv]
  rfl
theorem below_tld {no : α} {z : Str} {kf : Str → Pr α} : ∀ o, Below (.ask z kf) (tld no kf o)
  | none => .inl ⟨no, rfl⟩
  | some t => .inr ⟨t, .inl rfl⟩
theorem askB_tld {no : α} {n : Nat} {kf : Str → Pr α} (h : ∀ t, AskB (kf t) n) : ∀ o, AskB (tld no kf o) n
  | none => trivial
  | some t => h t
theorem rep_live {R : Hp → V → α → Prop} {k : Nat} {H : Hp} {v : V} : ∀ {p : Pr α}, RepPr P w K mg base NM R k p H v → p.live → ∃ a kd wt f, v = .ref a ∧ H a = some (.tup [.str kd, wt, f]) ∧ ¬ kd = "end"
  | .fin _, _, l => l.elim
  | .draw n kf, ⟨p, f, e, h, _⟩, _ => ⟨p, _, _, _, e, h, by decide +kernel⟩
  | .ask n kf, ⟨p, f, e, h, _⟩, _ => ⟨p, _, _, _, e, h, by decide +kernel⟩
theorem unlend {cs : List (Addr × Obj)} {H : Hp} {b : Addr} {o : HO} (e : lendH cs H b = some o) (n : ∀ ob, o ≠ fz ob) : H b = some o := by
  cases w : cs.lookup b with
  | none => rwa [lend_out w] at e
  | some ob => rw [lend_in w] at e; exact absurd (Option.some.inj e).symm (n ob)
theorem live_or : ∀ p : Pr α, p.live ∨ ∃ a, p = .fin a
  | .fin a => .inr ⟨a, rfl⟩
  | .draw _ _ => .inl trivial
  | .ask _ _ => .inl trivial
theorem ok_serve {R : Hp → V → α → Prop} {R' : Hp → V → β → Prop} {S : Nat → Hp → V → γ → Prop} {NN : Prop} {no : α} {k_follow k_answer k_finish La L kS : Nat} {f c T0 f2 c2 T1 : Addr} {fd fd2 : FuncData} (D : Df K mg "serve" s_serve ["process", "state", "answer", "finish"] f fd) (hc : fd.code = .ref c) (TB : LamX.TabB base mg c T0)
    (D2 : Df K mg "after" s_after ["process", "onward"] f2 fd2) (hc2 : fd2.code = .ref c2) (TB2 : LamX.TabB base mg c2 T1) (c_draw : Cl P w K mg base CX0 1 "draw" spDraw)
    (c_told : Cl P w K mg base CX0 (max k_follow 1 + 1) "told" (spTold P w K mg base R NN no k_follow)) (hR : StayR NM R) (hR' : StayR NM R') (hS : StayS S)
    (ek : kS = max (max k_answer k_finish) (k_follow + 2)) (hL : max La (kS + 3) + 1 ≤ L) :
    ∀ p : Pr α, FnOk P w K mg base CX0 (kS + 1) f fd ["process", "state", "answer", "finish"] (spServe P w K mg base R R' S NN T0 T1 no k_follow k_answer k_finish La L p) := by
  intro p
  refine (Pr.ind (C := fun p => FnOk P w K mg base CX0 (kS + 1) f fd ["process", "state", "answer", "finish"] (spServe P w K mg base R R' S NN T0 T1 no k_follow k_answer k_finish La L p)) (fun p ih => ?_) p).1
  have c_serve := D.cl (FnOk.ex (ι := {q : Pr α // Below p q}) fun q => ih q.1 q.2)
  have c_after := D2.cl (FnOk.ex (ι := Nat × {q : Pr (γ × Option Str) // q.live}) fun i => ok_afterL (P := P) (w := w) (base := base) (k_then := La) (kk := kS + 2) (L := L) D2 hc2 TB2 (RAns.stay (NN := NN) hS i.1) hR' (by omega) i.2.1 i.2.2)
  refine okE (js := [1, 2, 3, 6, 11]) D.fn hc sc_serve (fun vs H Q E h => ?_) cj_serve fun A outer s H vs Q E hr h => have B := BlOk.of TB.bm; ⟨_, (pxs_cons (px_while PassesOwn.never (pt_cmpR op_eq (pe_ix (ixT K) (pv 0) pe_int (fun _ _ => rfl)) pe_str (nomark _)) (pxs_cons (px_of (ps_asg (pv 0) (pg_tup (by rfl) (pgs_cons (pg_name (i := 4) sc_serve.nd rfl (.inl rfl)) (pgs_cons (pg_name (i := 5) sc_serve.nd rfl (.inl rfl)) (pgs_cons (pg_name (i := 6) sc_serve.nd rfl (.inr rfl)) pgs_nil)))))) (pxs_cons (px_of (ps_set (i := 7) sc_serve.nd rfl (.inl rfl) (pe_clo0 (i := 2) (k := k_answer) (NM := NM) hr (by omega) (by rfl) (.inr (.inl (by rfl))) (pa_cons (pv 1) (pa_cons (pv 5) pa_nil))))) (pxs_cons (px_if (pt_cmpR op_ne (pe_ix (ixT K) (pv 7) pe_int (fun _ _ => rfl)) pe_str (nomark _)) (pxs_one (px_ret (pe_clL c_after hr (by omega) Off.top (fun j hj x e => .inl (cj_serve j hj x e)) (by rfl) (pa_cons (pv 7) (pa_cons (pe_lamS (NM := NM) (n := 0) (T := T0) (e := n_serve__l0) rfl rfl B nm_serve__l0 (by rfl) fr_serve__l0) pa_nil))))) pxs_nil) (pxs_cons (px_of (ps_asg (pe_ix (ixT K) (pv 7) pe_int (fun _ _ => rfl)) (pg_tup (by rfl) (pgs_cons (pg_name (i := 1) sc_serve.nd rfl (.inr rfl)) (pgs_cons (pg_name (i := 8) sc_serve.nd rfl (.inl rfl)) pgs_nil))))) (pxs_one (px_of (ps_set (i := 0) sc_serve.nd rfl (.inl rfl) (pe_cl c_told hr (by first | decide | omega) (by rfl) (pa_cons (pv 6) (pa_cons (pv 8) pa_nil))))))))))) (pxs_cons (px_of (ps_asg (pv 0) (pg_tup (by rfl) (pgs_cons (pg_name (i := 9) sc_serve.nd rfl (.inl rfl)) (pgs_cons (pg_name (i := 10) sc_serve.nd rfl (.inl rfl)) (pgs_cons (pg_name (i := 11) sc_serve.nd rfl (.inr rfl)) pgs_nil)))))) (pxs_cons (px_if (pt_cmpR op_eq (pv 9) pe_str (nomark _)) (pxs_one (px_ret (pe_clo0 (i := 3) (k := k_finish) (NM := NM) hr (by omega) (by rfl) (.inr (.inl (by rfl))) (pa_cons (pv 1) (pa_cons (pv 10) pa_nil))))) pxs_nil) (pxs_one (px_ret (pe_cl c_draw hr (by first | decide | omega) (by rfl) (pa_cons (pv 10) (pa_cons (pe_lamS (NM := NM) (n := 0) (T := T0) (e := n_serve__l1) rfl rfl B nm_serve__l1 (by rfl) fr_serve__l1) pa_nil)))))))), ?_⟩
  · obtain ⟨x, st, fa, ff, s, n, an, fi, rfl, _⟩ := h
    rfl
  · obtain ⟨x, st, fa, ff, s0, n, an, fi, rfl, hT0, hT1, hp, hB, hS0, hA, hF, q⟩ := h
    refine ⟨fun m σ H1 => ∃ p1 s1 n1 x1 st1 a4 a5 a6 a7 a8 a9 a10 a11, σ = [some x1, some st1, some (.ref fa), some (.ref ff), a4, a5, a6, a7, a8, a9, a10, a11] ∧ Kp NM H H1 ∧ (p1 = p ∨ Below p p1) ∧ RepPr P w K mg base NM R k_follow p1 H1 x1 ∧ AskB p1 n1 ∧ S n1 H1 st1 s1 ∧
      p1.srv no s1 an fi = p.srv no s0 an fi ∧ m = cnt no an p1 s1, ⟨_, p, s0, n, x, st, _, _, _, _, _, _, _, _, rfl, Kp.refl _, .inl rfl, hp, hB, hS0, rfl, rfl⟩, ?_⟩
    rintro m σ H1 ⟨p1, s1, n1, x1, st1, a4, a5, a6, a7, a8, a9, a10, a11, rfl, e1, hb, hp1, hB1, hS1, eq, rfl⟩
    have hT0 := e1.toExt.tb _ _ hT0
    have hT1 := e1.toExt.tb _ _ hT1
    have hA := hA.ext e1.toExt
    have hF := hF.ext e1.toExt
    cases p1 with
    | fin a =>
      obtain ⟨p0, y, rfl, hp, hy⟩ := hp1
      refine ⟨_, rfl, p0, _, 0, _, rfl, rfl, .inl (.inl hp), rfl, rfl, false, by simp [show ¬ (("end" : Str) = "ask") by decide +kernel], ?_⟩
      show (if false = true then _ else _)
      rw [if_neg Bool.false_ne_true]
      refine ⟨_, rfl, p0, _, rfl, .inl (.inl hp), by rfl, _, _, rfl, _, _, rfl, _, _, rfl, rfl, ?_⟩
      refine ⟨_, rfl, rfl, true, by simp, ?_⟩
      show (if true = true then _ else _)
      rw [if_pos rfl]
      refine ⟨ff, rfl, hF.1, st1, rfl, y, rfl, _, hF, st1, s1, y, a, n1, rfl, hS1, hy, fun v' H' e r cs LV out => ?_⟩
      have r : RepPr P w K mg base NM R' L (p.srv no s0 an fi) H' v' := by
        rw [← eq]
        exact r
      exact q _ _ (e1.trans (e.trans (lend_kp out))) (r.ext hR' (lend_kp (NM := NM) out).toExt)
    | draw m kf =>
      have bel : ∀ q, Below (.draw m kf) q → Below p q := fun q w => hb.elim (fun e => e ▸ w) (fun z => below_trans z w)
      obtain ⟨p0, ft, rfl, hp, hC⟩ := hp1
      refine ⟨_, rfl, p0, _, 0, _, rfl, rfl, .inl (.inl hp), rfl, rfl, false, by simp [show ¬ (("draw" : Str) = "ask") by decide +kernel], ?_⟩
      show (if false = true then _ else _)
      rw [if_neg Bool.false_ne_true]
      refine ⟨_, rfl, p0, _, rfl, .inl (.inl hp), by rfl, _, _, rfl, _, _, rfl, _, _, rfl, rfl, ?_⟩
      refine ⟨_, rfl, rfl, false, by simp [show ¬ (("draw" : Str) = "end") by decide +kernel], ?_⟩
      show (if false = true then _ else _)
      rw [if_neg Bool.false_ne_true]
      refine ⟨_, rfl, hT0, .inl TB.code, fun f1 c1 U1 H2 gr n0 a1 a2 a3 => ⟨_, _, rfl, fun p2 np cs LV out => ?_⟩⟩
      have e2 : Kp NM H2 (lendH cs (upd H2 p2 (.tup [.str "draw", .int (m : Int), .ref f1]))) := (Kp.new np).trans (lend_kp out)
      refine q _ _ (e1.trans (gr.kpr.trans e2)) ?_
      rw [← eq]
      refine ⟨p2, f1, rfl, lend_at out upd_same, ?_⟩
      have C := cap_of (H := upd H2 p2 (.tup [.str "draw", .int (m : Int), .ref f1])) (F := lamF n_serve__l1 ("serve.<locals>.") _ c1) (ks := [11, 1, 2, 3]) (ws := [.ref ft, st1, .ref fa, .ref ff]) rfl LV fr_serve__l1 (fr := ["follow", "state", "answer", "finish"]) (by decide +kernel) (by decide +kernel) (by decide) rfl rfl
      have hL' : max k_follow (kS + 1) + 1 ≤ L := by omega
      refine Clo.mono (clo_lam (F := lamF n_serve__l1 _ _ c1) (js := [1, 2, 3, 4]) (k := max k_follow (kS + 1)) (ws := [.ref ft, st1, .ref fa, .ref ff]) rfl fs_serve__l1 (fun doc pm ct us hu => match us, hu with | [_], _ => rfl) (fun vs H2 Q E h => ?_) (a1.ext e2.toExt) (a2.ext e2.toExt) C cj_serve__l1 fun A2 outer2 s2 H3 vs Q2 E2 e3 hr O h2 => ⟨_, (pe_clL c_serve hr (by omega) (fun _ => O) cj_serve__l1 (by rfl) (pa_cons (pe_clo (i := 1) (k := k_follow) (NM := NM) hr (by omega) (fun _ => O) cj_serve__l1 (by rfl) (.inr (.inr (by rfl))) (pa_cons (pv 0) pa_nil)) (pa_cons (pv 2) (pa_cons (pv 3) (pa_cons (pv 4) pa_nil))))), ?_⟩) hL'
      · obtain ⟨i, rfl, _⟩ := h
        rfl
      · obtain ⟨i, rfl, hi, q2⟩ := h2
        have e0 := gr.kpr.toExt.trans (e2.toExt.trans e3)
        have C2 := C.ext e3
        have cT := hC.ext e0
        have fa' := cT.1.take C2
        refine ⟨ft, rfl, fa', _, rfl, fa', fun cs2 LV2 out2 => ?_⟩
        have e4 := lent_kp (NM := NM) (ks := [1, 2, 3, 4]) fs_serve__l1 C2 (Kp.refl _) out2 LV2.1 (by decide) rfl rfl
        refine ⟨_, cT.ext e4.toExt, i, rfl, hi, fun v' H' e5 r5 H5 e6 o5 => ⟨_, rfl, _, rfl, _, rfl, fun cs3 LV3 out3 => ?_⟩⟩
        have e7 := relend_kp (NM := NM) (H := H5) LV2 LV3.1 (fun _ z => z) out3
        rw [← e6] at e7
        have e8 := e4.trans (e5.trans e7)
        have e9 := e0.trans e8.toExt
        refine ⟨⟨kf i, bel _ (.inr ⟨i, .inl rfl⟩)⟩, v', st1, fa, ff, s1, n1, an, fi, rfl, e9.tb _ _ hT0, e9.tb _ _ hT1, r5.ext hR e7.toExt, hB1 i hi, hS _ _ _ _ _ e9 hS1, hA.ext e9, hF.ext e9, fun v6 H6 e10 r8 H7 e11 o7 cs4 LV4 out4 => ?_⟩
        have e12 := relend_kp (NM := NM) (H := H7) LV3 LV4 (fun _ z => z) out4
        rw [← e11] at e12
        exact q2 _ _ (e8.trans (e10.trans e12)) (r8.ext hR' e12.toExt)
    | ask z kf =>
      have bel : ∀ q, Below (.ask z kf) q → Below p q := fun q w => hb.elim (fun e => e ▸ w) (fun z => below_trans z w)
      obtain ⟨p0, ft, rfl, hp, hC⟩ := hp1
      cases n1 with
      | zero => exact hB1.elim
      | succ n1 =>
      refine ⟨_, rfl, p0, _, 0, _, rfl, rfl, .inl (.inl hp), rfl, rfl, true, by simp, ?_⟩
      show (if true = true then _ else _)
      rw [if_pos rfl]
      refine ⟨_, fun σ' H' h => h, ?_⟩
      refine ⟨_, rfl, p0, _, rfl, .inl (.inl hp), by rfl, _, _, rfl, _, _, rfl, _, _, rfl, rfl, ?_⟩
      refine ⟨fa, rfl, hA.1, st1, rfl, _, rfl, _, hA, st1, s1, z, n1, rfl, hS1, fun v' H' e2 r2 => ?_⟩
      have e3 := e1.trans e2
      have hT0 := e2.toExt.tb _ _ hT0
      have hT1 := e2.toExt.tb _ _ hT1
      have hA := hA.ext e2.toExt
      have hF := hF.ext e2.toExt
      have hC := hC.ext e2.toExt
      rcases live_or (an s1 z) with live | ⟨r, hr'⟩
      · obtain ⟨p2, kd, wt, f2, rfl, hp2, nd⟩ := rep_live r2 live
        refine ⟨_, rfl, p2, _, 0, _, rfl, rfl, .inl (.inl hp2), rfl, rfl, true, by simp [nd], ?_⟩
        show (if true = true then _ else _)
        rw [if_pos rfl]
        refine ⟨_, rfl, hT0, .inl TB.code, fun f1 c1 U1 H2 gr n0 a1 a2 a3 => fun cs LV out => ?_⟩
        have e4 : Kp NM H' (lendH cs H2) := gr.kpr.trans (lend_kp out)
        have C := cap_of (H := H2) (F := lamF n_serve__l0 ("serve.<locals>.") _ c1) (ks := [6, 2, 3]) (ws := [.ref ft, .ref fa, .ref ff]) rfl LV.1 fr_serve__l0 (fr := ["then", "answer", "finish"]) (by decide +kernel) (by decide +kernel) (by decide) rfl rfl
        refine ⟨⟨n1, ⟨an s1 z, live⟩⟩, .ref p2, f1, srvG no kf an fi, rfl, e4.tb _ _ hT1, r2.ext (RAns.stay hS _) e4.toExt, ?_, fun v6 H6 e6 r6 H7 e7 o7 cs2 LV2 out2 => ?_⟩
        · refine clo_lam (F := lamF n_serve__l0 _ _ c1) (js := [1, 2, 3]) (k := kS + 1) (ws := [.ref ft, .ref fa, .ref ff]) rfl fs_serve__l0 (fun doc pm ct us hu => match us, hu with | [_], _ => rfl) (fun vs H2 Q E h => ?_) (a1.ext (lend_kp (NM := NM) out).toExt) (a2.ext (lend_kp (NM := NM) out).toExt) C cj_serve__l0 fun A2 outer2 s2 H3 vs Q2 E2 e5 hr O h2 => ⟨_, (pe_clL c_serve hr (by omega) (fun _ => O) cj_serve__l0 (by rfl) (pa_cons (pe_clL c_told hr (by omega) (fun _ => O) cj_serve__l0 (by rfl) (pa_cons (pv 1) (pa_cons (pe_ix (ixT K) (pv 0) pe_int (fun _ _ => rfl)) pa_nil))) (pa_cons (pe_ix (ixT K) (pv 0) pe_int (fun _ _ => rfl)) (pa_cons (pv 2) (pa_cons (pv 3) pa_nil))))), ?_⟩
          · obtain ⟨y, a, rfl, _⟩ := h
            rfl
          · obtain ⟨y, a, rfl, ⟨a4, x2, rfl, h1, h2, h3, h4⟩, q2⟩ := h2
            have e0 := e4.toExt.trans e5
            have C2 := C.ext e5
            have cT := hC.ext e0
            have t1 := take_some C2 h1 (fun ob v z => by cases z)
            refine ⟨_, rfl, _, rfl, a4, _, 1, _, rfl, rfl, .inl (.inl t1), rfl, fun cs2 LV2 out2 => ?_⟩
            have e6 := lent_kp (NM := NM) (ks := [1, 2, 3]) fs_serve__l0 C2 (Kp.refl _) out2 LV2.1 (by decide) rfl rfl
            refine ⟨ft, a.2, kf, rfl, cT.ext e6.toExt, h3, h4, fun v' H' e7 r7 H5 e8 o5 => ?_⟩
            have h6 : H5 a4 = some (.tup [x2, rV a.2]) := by
              refine unlend (cs := cs2) ?_ (fun ob z => by cases z)
              rw [← e8]
              exact e7.tup _ _ (e6.tup _ _ h1)
            refine ⟨_, rfl, a4, _, 0, _, rfl, rfl, .inl (.inl h6), rfl, _, rfl, _, rfl, fun cs3 LV3 out3 => ?_⟩
            have e9 := relend_kp (NM := NM) (H := H5) LV2 LV3.1 (fun _ z => z) out3
            rw [← e8] at e9
            have e10 := e6.trans (e7.trans e9)
            have e11 := e0.trans e10.toExt
            refine ⟨⟨tld no kf a.2, bel _ (below_tld _)⟩, v', x2, fa, ff, a.1, n1, an, fi, rfl, e11.tb _ _ hT0, e11.tb _ _ hT1, r7.ext hR e9.toExt, askB_tld hB1 _, hS _ _ _ _ _ e10.toExt h2, hA.ext e11, hF.ext e11, fun v6 H6 e12 r8 H7 e13 o7 cs4 LV4 out4 => ?_⟩
            have e14 := relend_kp (NM := NM) (H := H7) LV3 LV4 (fun _ z => z) out4
            rw [← e13] at e14
            refine q2 _ _ (e10.trans (e12.trans e14)) ?_
            have r9 := r8.ext hR' e14.toExt
            revert r9
            obtain ⟨s3, o⟩ := a
            cases o <;> exact id
        · have e8 := relend_kp (NM := NM) (H := H7) LV LV2 (fun _ z => z) out2
          rw [← e7] at e8
          refine q _ _ (e3.trans (e4.trans (e6.trans e8))) ?_
          rw [← eq, ← srv_ask]
          exact r6.ext hR' e8.toExt
      · rw [hr'] at r2
        obtain ⟨p2, y, rfl, hp2, a2, x2, rfl, h1, h2, h3, h4⟩ := r2
        refine ⟨_, rfl, p2, _, 0, _, rfl, rfl, .inl (.inl hp2), rfl, rfl, false, by simp, ?_⟩
        show (if false = true then _ else _)
        rw [if_neg Bool.false_ne_true]
        refine ⟨_, rfl, p2, _, 1, _, rfl, rfl, .inl (.inl hp2), rfl, ?_⟩
        refine ⟨a2, _, rfl, .inl (.inl h1), by rfl, _, _, rfl, _, _, rfl, rfl, ?_⟩
        refine ⟨_, rfl, _, rfl, ft, r.2, kf, rfl, hC, h3, h4, fun v5 H5 e5 r5 => ?_⟩
        exact ⟨_, cnt_lt hr', tld no kf r.2, r.1, n1, v5, x2, _, _, _, _, _, _, _, _, rfl, e3.trans e5, .inr (bel _ (below_tld _)), r5, askB_tld hB1 _, hS _ _ _ _ _ e5.toExt h2, (srv_fin hr').trans eq, rfl⟩
end

end
section
/-! ### plain breakers as trees, what they do -/
inductive Pa where
  | bit (b : Bool)
  | ref (i : Nat)
inductive Br where
  | say (ps : List Pa)
  | toss (bs : List Br)
  | look (i : Nat) (a b : Br)
  | ask (ps : List Pa) (a : Br)
def paOk : Pa → Prop
  | .bit _ => True
  | .ref i => i ≤ 9999
def okB : Nat → Br → Prop
  | 0, _ => False
  | n + 1, .say ps => ∀ p ∈ ps, paOk p
  | n + 1, .toss bs => bs ≠ [] ∧ ∀ b ∈ bs, okB n b
  | n + 1, .look i a b => i ≤ 9999 ∧ okB n a ∧ okB n b
  | n + 1, .ask ps a => (∀ p ∈ ps, paOk p) ∧ okB n a
def okW (m : Nat) : Nat → Br → Prop
  | 0, _ => False
  | _ + 1, .say ps => ps.length ≤ m
  | n + 1, .toss bs => bs.length ≤ 64 ∧ ∀ b ∈ bs, okW m n b
  | n + 1, .look _ a b => okW m n a ∧ okW m n b
  | n + 1, .ask ps a => ps.length ≤ m ∧ okW m n a
/-- the bit with this number -/
def bitOf (seen : Str) (i : Nat) : Str := if i < seen.length then ⟨#[seen.cps.toList.getD i 0]⟩ else "0"
def paS (seen : Str) : Pa → Str
  | .bit b => sb [b]
  | .ref i => bitOf seen i
def mkS (ps : List Pa) (seen : Str) : Str := Txt.join "" (ps.map (paS seen))
mutual
def runP : Br → Str → Pr Str
  | .say ps, seen => .fin (mkS ps seen)
  | .toss bs, seen => .draw bs.length fun i => (runsP bs seen).getD i (.fin "")
  | .look i a b, seen => if bitOf seen i = "0" then runP a seen else runP b seen
  | .ask ps a, seen => .ask (mkS ps seen) fun t => runP a (seen ++ t)
def runsP : List Br → Str → List (Pr Str)
  | [], _ => []
  | b :: bs, seen => runP b seen :: runsP bs seen
end
theorem runsP_map (seen : Str) : ∀ bs : List Br, runsP bs seen = bs.map fun b => runP b seen
  | [] => by unfold runsP; rfl
  | b :: bs => by
    unfold runsP
    rw [runsP_map seen bs]
    rfl
def paV : Pa → V
  | .bit b => .str (sb [b])
  | .ref i => .int (i : Int)
section
variable (K : PySem.W.Frag) (H : Hp)
mutual
def BrV : Br → V → Prop
  | .say ps, v => ∃ p q, v = .ref p ∧ SqX K H p [.str "say", .ref q] ∧ SqX K H q (ps.map paV)
  | .toss bs, v => ∃ p q vs, v = .ref p ∧ SqX K H p [.str "toss", .ref q] ∧ SqX K H q vs ∧ BrVs bs vs
  | .look i a b, v => ∃ p x y, v = .ref p ∧ SqX K H p [.str "look", .int (i : Int), x, y] ∧ BrV a x ∧ BrV b y
  | .ask ps a, v => ∃ p q x, v = .ref p ∧ SqX K H p [.str "ask", .ref q, x] ∧ SqX K H q (ps.map paV) ∧ BrV a x
def BrVs : List Br → List V → Prop
  | [], vs => vs = []
  | b :: bs, vs => ∃ v r, vs = v :: r ∧ BrV b v ∧ BrVs bs r
end
end
section
variable {K : PySem.W.Frag} {H H1 : Hp}
theorem BrVs.get : ∀ {bs : List Br} {vs : List V}, BrVs K H bs vs → vs.length = bs.length ∧ ∀ (i : Nat) (b : Br), bs[i]? = some b → ∃ v, vs[i]? = some v ∧ BrV K H b v
  | [], vs, h => by
    unfold BrVs at h
    subst h
    exact ⟨rfl, fun i b e => by simp at e⟩
  | b :: bs, vs, h => by
    unfold BrVs at h
    obtain ⟨v, r, rfl, h1, h2⟩ := h
    obtain ⟨k1, k2⟩ := BrVs.get h2
    refine ⟨by simp [k1], fun i c e => ?_⟩
    cases i with
    | zero =>
      have e : some b = some c := e
      cases e
      exact ⟨v, rfl, h1⟩
    | succ i => exact k2 i c e
mutual
theorem BrV.mono (e : ∀ p xs, SqX K H p xs → SqX K H1 p xs) : ∀ (b : Br) {v : V}, BrV K H b v → BrV K H1 b v
  | .say ps, v, h => by
    unfold BrV at h ⊢
    obtain ⟨p, q, h1, h2, h3⟩ := h
    exact ⟨p, q, h1, e _ _ h2, e _ _ h3⟩
  | .toss bs, v, h => by
    unfold BrV at h ⊢
    obtain ⟨p, q, vs, h1, h2, h3, h4⟩ := h
    exact ⟨p, q, vs, h1, e _ _ h2, e _ _ h3, BrVs.mono e bs h4⟩
  | .look i a b, v, h => by
    unfold BrV at h ⊢
    obtain ⟨p, x, y, h1, h2, h3, h4⟩ := h
    exact ⟨p, x, y, h1, e _ _ h2, BrV.mono e a h3, BrV.mono e b h4⟩
  | .ask ps a, v, h => by
    unfold BrV at h ⊢
    obtain ⟨p, q, x, h1, h2, h3, h4⟩ := h
    exact ⟨p, q, x, h1, e _ _ h2, e _ _ h3, BrV.mono e a h4⟩
theorem BrVs.mono (e : ∀ p xs, SqX K H p xs → SqX K H1 p xs) : ∀ (bs : List Br) {vs : List V}, BrVs K H bs vs → BrVs K H1 bs vs
  | [], vs, h => by
    unfold BrVs at h ⊢
    exact h
  | b :: bs, vs, h => by
    unfold BrVs at h ⊢
    obtain ⟨v, r, h1, h2, h3⟩ := h
    exact ⟨v, r, h1, BrV.mono e b h2, BrVs.mono e bs h3⟩
end
theorem BrV.ext {b : Br} {v : V} (h : BrV K H b v) (e : Ext NM H H1) : BrV K H1 b v := BrV.mono (fun _ _ z => z.ext e) b h
theorem BrV.take {F : CF} {fr : List Str} {ws : List V} {b : Br} {v : V} (h : BrV K H b v) (c : CapH H F fr ws) : BrV K (takeH F H) b v := BrV.mono (fun _ _ z => z.take c) b h
theorem BrVs.ext {bs : List Br} {vs : List V} (h : BrVs K H bs vs) (e : Ext NM H H1) : BrVs K H1 bs vs := BrVs.mono (fun _ _ z => z.ext e) bs h
end

section
variable {P : Program} {w : World} {K : PySem.W.Frag} {mg : Str → Option Value} {base : Heap}
def spBitOf : Sp := fun vs H Q _ => ∃ (seen : Str) (i : Nat), vs = [.str seen, .int (i : Int)] ∧ seen.length ≤ 100000 ∧ Q (.str (bitOf seen i)) H
theorem ok_bit_of {cs : Cs} {f : Addr} {fd : FuncData} (D : Df K mg "bit_of" s_bit_of ["seen", "number"] f fd) (T : Txt K w mg cs) : FnOk P w K mg base CX0 1 f fd ["seen", "number"] spBitOf := by
  refine D.fn.ok sc_bit_of (fun vs H Q E h => ?_) fun cdv A outer s H vs Q E hr h => ⟨_, (pss_one (ps_ret (pe_ifExp (pt_cmpR op_lt (pv 1) (pe_callB call_len_str (by rfl) T.n_len (by decide +kernel) (pa_cons (pv 0) pa_nil)) (nomark _)) (pe_ix ix_str (pv 0) (pv 1) (fun _ _ => rfl)) pe_str))), ?_⟩
  · obtain ⟨f, o, rfl, _⟩ := h
    rfl
  · obtain ⟨seen, i, rfl, hl, q⟩ := h
    have hz : seen.length ≤ sizeLine := Nat.le_trans hl (by decide)
    by_cases hi : i < seen.length
    · refine ⟨_, rfl, _, rfl, _, rfl, hz, _, _, rfl, rfl, true, ?_, ?_⟩
      · show V.bl (decide ((i : Int) < (seen.length : Int))) = _
        rw [decide_eq_true (by omega)]
      · show (if true = true then _ else _)
        rw [if_pos rfl]
        have li : i < seen.cps.toList.length := hi
        refine ⟨_, rfl, _, rfl, _, _, seen.cps.toList.getD i 0, rfl, rfl, hz, ?_, ?_⟩
        · have e9 : ixN seen.cps.toList.length ((i : Nat) : Int) = some i := by
            unfold ixN
            rw [if_pos (by omega), if_pos (by omega)]
            simp
          unfold atI
          rw [e9]
          show seen.cps.toList[i]? = _
          rw [List.getD_eq_getElem?_getD, List.getElem?_eq_getElem li] <;> rfl
        · unfold bitOf at q
          rw [if_pos hi] at q
          exact q
    · refine ⟨_, rfl, _, rfl, _, rfl, hz, _, _, rfl, rfl, false, ?_, ?_⟩
      · show V.bl (decide ((i : Int) < (seen.length : Int))) = _
        rw [decide_eq_false (by omega)]
      · show (if false = true then _ else _)
        rw [if_neg Bool.false_ne_true]
        unfold bitOf at q
        rw [if_neg hi] at q
        exact q
theorem bitOf_len (seen : Str) (i : Nat) : (bitOf seen i).length = 1 := by
  unfold bitOf
  split <;> rfl
theorem paS_len (seen : Str) (p : Pa) : (paS seen p).length = 1 := by
  cases p with
  | bit b => cases b <;> rfl
  | ref i => exact bitOf_len seen i
def spMadeOf (K : PySem.W.Frag) : Sp := fun vs H Q _ => ∃ (q : Addr) (seen : Str) (ps : List Pa), vs = [.ref q, .str seen] ∧ SqT K H q (ps.map paV) ∧ ps.length ≤ 1000 ∧ seen.length ≤ 100000 ∧ ∀ H', Same H H' → Q (.str (mkS ps seen)) H'
theorem ok_made_of {cs : Cs} {f : Addr} {fd : FuncData} (D : Df K mg "made_of" s_made_of ["parts", "seen"] f fd) (T : Txt K w mg cs) (c_bit_of : Cl P w K mg base CX0 1 "bit_of" spBitOf) : FnOk P w K mg base CX0 2 f fd ["parts", "seen"] (spMadeOf K) := by
  refine D.fn.ok sc_made_of (fun vs H Q E h => ?_) fun cdv A outer s H vs Q E hr h => ⟨_, (pss_one (ps_ret (pe_m1 PySem.F.slot_str_join PySem.F.type_str_join (mtJoin K) pe_str (pe_lc (own := [("part", 2)]) (g := gName 2) (tt := tYes) rfl sc_made_of.nd (pi_tup (pv 0)) (blkOk_by (own := [("part", 2)]) (N := ["parts", "seen", "part"]) (sc := defScope s_made_of) (by decide +kernel)) (fun _ _ _ _ _ => (pg_name (i := 2) sc_made_of.nd rfl (.inl rfl))) (fun _ _ _ _ _ => pts_nil) (fun _ _ _ _ _ => (pe_ifExp (pt_val (pe_callB (isiK K) (by rfl) T.n_isinstance (by decide +kernel) (pa_cons (pv 2) (pa_cons (pe_ty "str" (by rfl) T.n_str (by decide +kernel)) pa_nil)))) (pv 2) (pe_cl c_bit_of hr (by first | decide | omega) (by rfl) (pa_cons (pv 1) (pa_cons (pv 2) pa_nil))))))))), ?_⟩
  · obtain ⟨f, o, ps, rfl, _⟩ := h
    rfl
  · obtain ⟨q0, seen, ps, rfl, hs, hn, hl, q⟩ := h
    refine ⟨⟨_, rfl⟩, _, rfl, q0, rfl, ⟨_, hs⟩, fun Dl hD => ?_⟩
    refine lc_tup (xs := ps.map paV) (fun i H' => Same H H' ∧ H' Dl = some (.lst ((ps.take i).map fun x => V.str (paS seen x)))) ?_ ?_ ?_ ?_
    · exact ⟨same_new hD, upd_same⟩
    · rintro i H' _ ⟨s1, _⟩
      exact same_sqt s1 hs
    · rintro i x H' hxi ⟨s1, e1⟩
      rw [List.getElem?_map] at hxi
      obtain ⟨p, hp, rfl⟩ := Option.map_eq_some_iff.mp hxi
      have hi : i < ps.length := (List.getElem?_eq_some_iff.mp hp).1
      have fin : ∀ z : Str, paS seen p = z → ∃ acc, H' Dl = some (.lst acc) ∧ acc.length < sizeLine ∧ (Same H (upd H' Dl (.lst (acc ++ [.str z]))) ∧ upd H' Dl (.lst (acc ++ [.str z])) Dl = some (.lst ((ps.take (i + 1)).map fun x => V.str (paS seen x)))) := by
        intro z hz
        refine ⟨_, e1, ?_, fun p o e => ?_, ?_⟩
        · rw [List.length_map, List.length_take]
          exact Nat.lt_of_lt_of_le (show min i ps.length < 10000 by omega) (by decide)
        · rw [upd_ne (ne_of_none e hD)]
          exact s1 p o e
        · rw [upd_same, List.take_add_one, hp, List.map_append]
          show _ = some (HO.lst (_ ++ [V.str (paS seen p)]))
          rw [hz]
      refine ⟨rfl, ?_⟩
      cases p with
      | bit b =>
        refine ⟨_, rfl, _, _, _, _, _, rfl, .ty "str", .base (.str _), kit_str (.str (sb [b])), true, rfl, ?_⟩
        show (if true = true then _ else _)
        rw [if_pos rfl]
        exact ⟨_, rfl, fin _ rfl⟩
      | ref j =>
        refine ⟨_, rfl, _, _, _, _, _, rfl, .ty "str", .base (.int _), kit_str (.int (j : Int)), false, rfl, ?_⟩
        show (if false = true then _ else _)
        rw [if_neg Bool.false_ne_true]
        exact ⟨_, rfl, _, rfl, seen, j, rfl, hl, fin _ rfl⟩
    · rintro H' ⟨s1, e1⟩
      rw [List.length_map, List.take_length] at e1
      refine ⟨_, Dl, ps.map (paS seen), rfl, rfl, .inl (.inl (.inl (by rw [List.map_map]; exact e1))), ?_, q _ s1⟩
      have e : ((ps.map (paS seen)).map (·.length)).sum = ps.length := by
        rw [List.map_map]
        clear e1 hs hn q
        induction ps with
        | nil => rfl
        | cons b bs ih =>
          rw [List.map_cons, List.sum_cons, ih, List.length_cons]
          show (paS seen b).length + _ = _
          rw [paS_len]
          omega
      rw [e]
      show _ + _ * 0 ≤ _
      have : (1000 : Nat) ≤ sizeLine := by decide
      omega
theorem same_kp {H H' : Hp} (s : Same H H') : Kp NM H H' := ⟨⟨fun b _ e => s b _ e, fun b ob e => ⟨ob, s b _ e, .inl rfl⟩, fun _ _ t => t.ext s, fun b o e _ _ _ => s b o e⟩, fun b o e _ _ => s b o e⟩
/-- ask -/
def spAsk : Sp := fun vs H Q _ => ∃ a b, vs = [a, b] ∧ ∀ p, H p = none → Q (.ref p) (upd H p (.tup [.str "ask", a, b]))
theorem ok_ask {f : Addr} {fd : FuncData} (D : Df K mg "ask" s_ask ["string", "then"] f fd) : FnOk P w K mg base CX0 1 f fd ["string", "then"] spAsk := by
  refine D.fn.ok sc_ask (fun vs H Q E h => ?_) fun cdv A outer s H vs Q E hr h => ⟨_, (pss_one (ps_ret (pe_tup (pa_cons pe_str (pa_cons (pv 0) (pa_cons (pv 1) pa_nil)))))), ?_⟩
  · obtain ⟨a, b, rfl, _⟩ := h
    rfl
  · obtain ⟨a, b, rfl, q⟩ := h
    exact ⟨a, rfl, b, rfl, by show 3 ≤ sizeLine; decide, q⟩
theorem joinL_nil : ∀ ps : List (List Nat), TL.joinL [] ps = ps.flatten := by
  intro ps
  induction ps with
  | nil => rfl
  | cons x r ih =>
    cases r with
    | nil => simp [TL.joinL]
    | cons y r =>
      show x ++ ([] ++ TL.joinL [] (y :: r)) = x ++ (y :: r).flatten
      rw [ih, List.nil_append]
theorem mkS_S (ps : List Pa) (seen : Str) : mkS ps seen = SX.S ((ps.map fun p => (paS seen p).cps.toList).flatten) := by
  unfold mkS
  have e : ps.map (paS seen) = (ps.map fun p => (paS seen p).cps.toList).map SX.S := by
    rw [List.map_map]
    refine List.map_congr_left fun p _ => ?_
    show _ = SX.S (paS seen p).cps.toList
    unfold SX.S
    simp
  rw [e]
  refine (SX.join_S [] _).trans ?_
  rw [joinL_nil]
theorem mkS_len (ps : List Pa) (seen : Str) : (mkS ps seen).length = ps.length := by
  rw [mkS_S]
  show (List.toArray _).size = _
  rw [List.size_toArray]
  induction ps with
  | nil => rfl
  | cons p ps ih =>
    rw [List.map_cons, List.flatten_cons, List.length_append, ih, List.length_cons]
    have e : (paS seen p).cps.toList.length = 1 := paS_len seen p
    omega
/-- the value at the end is a text -/
def RStr : Hp → V → Str → Prop := fun _ v a => v = .str a ∧ a.length ≤ 100000
theorem RStr.stay : StayR NM RStr := fun _ _ _ _ _ h => h
def spRun (P : Program) (w : World) (K : PySem.W.Frag) (mg : Str → Option Value) (base : Heap) (T0 : Addr) (L n : Nat) : Sp := fun vs H Q _ => ∃ (b : Br) (v : V) (seen : Str), vs = [v, .str seen] ∧ okB n b ∧ okW 1000 n b ∧ BrV K H b v ∧ Tb NM 1 H T0 ∧ seen.length + 1000 * n ≤ 100000 ∧
  ∀ v' H', Kp NM H H' → RepPr P w K mg base NM RStr L (runP b seen) H' v' → Q v' H'
theorem FnOk.none {CX : CXT} {k : Nat} {f : Addr} {fd : FuncData} {ps : List Str} {sp : Sp} (h : ∀ vs H Q E, ¬ sp vs H Q E) : FnOk P w K mg base CX k f fd ps sp := ⟨fun vs H Q E z => absurd z (h vs H Q E), fun A outer s H args us vs Q E _ _ _ _ z => absurd z (h vs H Q E)⟩
theorem okB_up {m : Nat} : ∀ {n : Nat} {b : Br}, okB n b → okW m n b → okB (n + 1) b ∧ okW m (n + 1) b
  | 0, _, h, _ => h.elim
  | n + 1, .say ps, h, g => ⟨h, g⟩
  | n + 1, .toss bs, h, g => ⟨⟨h.1, fun b hb => (okB_up (h.2 b hb) (g.2 b hb)).1⟩, ⟨g.1, fun b hb => (okB_up (h.2 b hb) (g.2 b hb)).2⟩⟩
  | n + 1, .look i a b, h, g => ⟨⟨h.1, (okB_up h.2.1 g.1).1, (okB_up h.2.2 g.2).1⟩, ⟨(okB_up h.2.1 g.1).2, (okB_up h.2.2 g.2).2⟩⟩
  | n + 1, .ask ps a, h, g => ⟨⟨h.1, (okB_up h.2 g.2).1⟩, ⟨g.1, (okB_up h.2 g.2).2⟩⟩
theorem okB_le {m n k : Nat} {b : Br} (h : okB n b) (g : okW m n b) (l : n ≤ k) : okB k b ∧ okW m k b := by
  induction l with
  | refl => exact ⟨h, g⟩
  | step _ ih => exact okB_up ih.1 ih.2
theorem ok_run_plain {cs : Cs} {f c T0 : Addr} {fd : FuncData} {L : Nat} (D : Df K mg "run_plain" s_run_plain ["breaker", "seen"] f fd) (hc : fd.code = .ref c) (TB : LamX.TabB base mg c T0) (T : Txt K w mg cs) (c_bit_of : Cl P w K mg base CX0 1 "bit_of" spBitOf)
    (c_made_of : Cl P w K mg base CX0 2 "made_of" (spMadeOf K)) (c_end : Cl P w K mg base CX0 1 "end" spEnd) (c_draw : Cl P w K mg base CX0 1 "draw" spDraw) (c_ask : Cl P w K mg base CX0 1 "ask" spAsk) (hL : 4 ≤ L) : ∀ n, FnOk P w K mg base CX0 3 f fd ["breaker", "seen"] (spRun P w K mg base T0 L n) := by
  intro n
  induction n with
  | zero => exact FnOk.none fun vs H Q E ⟨b, v, seen, _, h, _⟩ => h
  | succ n ih =>
    have c_run_plain := D.cl ih
    refine okE (js := [1, 6, 7]) D.fn hc sc_run_plain (fun vs H Q E h => ?_) cj_run_plain fun A outer s H vs Q E hr h => have B := BlOk.of TB.bm; ⟨_, (pxs_cons (px_while PassesOwn.never (pt_cmpR op_eq (pe_ix (ixT K) (pv 0) pe_int (fun _ _ => rfl)) pe_str (nomark _)) (pxs_cons (px_of (ps_asg (pv 0) (pg_tup (by rfl) (pgs_cons (pg_name (i := 2) sc_run_plain.nd rfl (.inl rfl)) (pgs_cons (pg_name (i := 3) sc_run_plain.nd rfl (.inl rfl)) (pgs_cons (pg_name (i := 4) sc_run_plain.nd rfl (.inl rfl)) (pgs_cons (pg_name (i := 5) sc_run_plain.nd rfl (.inl rfl)) pgs_nil))))))) (pxs_one (px_of (ps_set (i := 0) sc_run_plain.nd rfl (.inl rfl) (pe_ifExp (pt_cmpR op_eq (pe_cl c_bit_of hr (by first | decide | omega) (by rfl) (pa_cons (pv 1) (pa_cons (pv 3) pa_nil))) pe_str (nomark _)) (pv 4) (pv 5))))))) (pxs_cons (px_if (pt_cmpR op_eq (pe_ix (ixT K) (pv 0) pe_int (fun _ _ => rfl)) pe_str (nomark _)) (pxs_one (px_ret (pe_cl c_end hr (by first | decide | omega) (by rfl) (pa_cons (pe_cl c_made_of hr (by first | decide | omega) (by rfl) (pa_cons (pe_ix (ixT K) (pv 0) pe_int (fun _ _ => rfl)) (pa_cons (pv 1) pa_nil))) pa_nil)))) pxs_nil) (pxs_cons (px_if (pt_cmpR op_eq (pe_ix (ixT K) (pv 0) pe_int (fun _ _ => rfl)) pe_str (nomark _)) (pxs_cons (px_of (ps_set (i := 6) sc_run_plain.nd rfl (.inr rfl) (pe_ix (ixT K) (pv 0) pe_int (fun _ _ => rfl)))) (pxs_one (px_ret (pe_cl c_draw hr (by first | decide | omega) (by rfl) (pa_cons (pe_callB (lenS K) (by rfl) T.n_len (by decide +kernel) (pa_cons (pv 6) pa_nil)) (pa_cons (pe_lamS (NM := NM) (n := 0) (T := T0) (e := n_run_plain__l0) rfl rfl B nm_run_plain__l0 (by rfl) fr_run_plain__l0) pa_nil)))))) pxs_nil) (pxs_cons (px_of (ps_set (i := 7) sc_run_plain.nd rfl (.inr rfl) (pe_ix (ixT K) (pv 0) pe_int (fun _ _ => rfl)))) (pxs_one (px_ret (pe_cl c_ask hr (by first | decide | omega) (by rfl) (pa_cons (pe_cl c_made_of hr (by first | decide | omega) (by rfl) (pa_cons (pe_ix (ixT K) (pv 0) pe_int (fun _ _ => rfl)) (pa_cons (pv 1) pa_nil))) (pa_cons (pe_lamS (NM := NM) (n := 0) (T := T0) (e := n_run_plain__l1) rfl rfl B nm_run_plain__l1 (by rfl) fr_run_plain__l1) pa_nil))))))))), ?_⟩
    · obtain ⟨x, st, fa, rfl, _⟩ := h
      rfl
    · obtain ⟨b, v, seen, rfl, h1, h2, hb, hT, hl, q⟩ := h
      refine ⟨fun m σ H1 => ∃ b1 v1 a2 a3 a4 a5 a6 a7, σ = [some v1, some (.str seen), a2, a3, a4, a5, a6, a7] ∧ H1 = H ∧ okB m b1 ∧ okW 1000 m b1 ∧ BrV K H b1 v1 ∧ m ≤ n + 1 ∧ runP b1 seen = runP b seen,
        ⟨_, b, v, _, _, _, _, _, _, rfl, rfl, h1, h2, hb, Nat.le_refl _, rfl⟩, ?_⟩
      rintro m σ H1 ⟨b1, v1, a2, a3, a4, a5, a6, a7, rfl, rfl, k1, k2, kb, km, eq⟩
      cases m with
      | zero => exact k1.elim
      | succ m =>
      have lm : m ≤ n := by omega
      cases b1 with
      | say ps =>
        unfold BrV at kb
        obtain ⟨p0, q0, rfl, hp, hq⟩ := kb
        refine ⟨_, rfl, p0, _, 0, _, rfl, rfl, hp.sq, rfl, rfl, false, by simp [show ¬ (("say" : Str) = "look") by decide +kernel], ?_⟩
        show (if false = true then _ else _)
        rw [if_neg Bool.false_ne_true]
        refine ⟨_, rfl, p0, _, 0, _, rfl, rfl, hp.sq, rfl, rfl, true, by simp, ?_⟩
        show (if true = true then _ else _)
        rw [if_pos rfl]
        have hps : ps.length ≤ 1000 := k2
        refine ⟨_, rfl, p0, _, 1, _, rfl, rfl, hp.sq, rfl, _, rfl, q0, seen, ps, rfl, hq.sq, hps, by omega, fun H' sm => ⟨_, rfl, fun p np cs LV out => ?_⟩⟩
        refine q _ _ ((same_kp sm).trans ((Kp.new np).trans (lend_kp out))) ?_
        rw [← eq, runP]
        exact ⟨p, _, rfl, lend_at out upd_same, rfl, by rw [mkS_len]; omega⟩
      | look i x y =>
        unfold BrV at kb
        obtain ⟨p0, vx, vy, rfl, hp, hx, hy⟩ := kb
        refine ⟨_, rfl, p0, _, 0, _, rfl, rfl, hp.sq, rfl, rfl, true, by simp, ?_⟩
        show (if true = true then _ else _)
        rw [if_pos rfl]
        refine ⟨_, fun σ' H' h => h, ?_⟩
        refine ⟨_, rfl, p0, _, rfl, hp.sq, by rfl, _, _, rfl, _, _, rfl, _, _, rfl, _, _, rfl, rfl, ?_⟩
        refine ⟨_, rfl, _, rfl, seen, i, rfl, by omega, rfl, ?_⟩
        rw [runP] at eq
        by_cases c : bitOf seen i = "0"
        · refine ⟨true, by simp [c], ?_⟩
          show (if true = true then _ else _)
          rw [if_pos rfl]
          rw [if_pos c] at eq
          exact ⟨_, rfl, m, Nat.lt_succ_self _, x, vx, _, _, _, _, _, _, rfl, rfl, k1.2.1, k2.1, hx, by omega, eq⟩
        · refine ⟨false, by simp [c], ?_⟩
          show (if false = true then _ else _)
          rw [if_neg Bool.false_ne_true]
          rw [if_neg c] at eq
          exact ⟨_, rfl, m, Nat.lt_succ_self _, y, vy, _, _, _, _, _, _, rfl, rfl, k1.2.2, k2.2, hy, by omega, eq⟩
      | toss bs =>
        unfold BrV at kb
        obtain ⟨p0, q0, vs, rfl, hp, hq, hvs⟩ := kb
        refine ⟨_, rfl, p0, _, 0, _, rfl, rfl, hp.sq, rfl, rfl, false, by simp [show ¬ (("toss" : Str) = "look") by decide +kernel], ?_⟩
        show (if false = true then _ else _)
        rw [if_neg Bool.false_ne_true]
        refine ⟨_, rfl, p0, _, 0, _, rfl, rfl, hp.sq, rfl, rfl, false, by simp [show ¬ (("toss" : Str) = "say") by decide +kernel], ?_⟩
        show (if false = true then _ else _)
        rw [if_neg Bool.false_ne_true]
        refine ⟨_, rfl, p0, _, 0, _, rfl, rfl, hp.sq, rfl, rfl, true, by simp, ?_⟩
        show (if true = true then _ else _)
        rw [if_pos rfl]
        refine ⟨_, rfl, p0, _, 1, _, rfl, rfl, hp.sq, rfl, ?_⟩
        refine ⟨_, rfl, q0, vs, rfl, .inr hq.sq, hT, .inl TB.code, fun f1 c1 U1 H2 gr n0 a1 a2 a3 => ⟨_, _, rfl, fun p2 np cs LV out => ?_⟩⟩
        have e2 : Kp NM H2 (lendH cs (upd H2 p2 (.tup [.str "draw", .int (vs.length : Int), .ref f1]))) := (Kp.new np).trans (lend_kp out)
        refine q _ _ (gr.kpr.trans e2) ?_
        rw [← eq, runP]
        refine ⟨p2, f1, rfl, ?_, ?_⟩
        · rw [lend_at out upd_same, hvs.get.1]
        · have C := cap_of (H := upd H2 p2 (.tup [.str "draw", .int (vs.length : Int), .ref f1])) (F := lamF n_run_plain__l0 ("run_plain.<locals>.") _ c1) (ks := [6, 1]) (ws := [.ref q0, .str seen]) rfl LV fr_run_plain__l0 (fr := ["tossed", "seen"]) (by decide +kernel) (by decide +kernel) (by decide) rfl rfl
          refine Clo.mono (clo_lam (F := lamF n_run_plain__l0 _ _ c1) (js := [1, 2]) (k := 3) (ws := [.ref q0, .str seen]) rfl fs_run_plain__l0 (fun doc pm ct us hu => match us, hu with | [_], _ => rfl) (fun vs H2 Q E h => ?_) (a1.ext e2.toExt) (a2.ext e2.toExt) C cj_run_plain__l0 fun A2 outer2 s2 H3 ws2 Q2 E2 e3 hr O h2 => ⟨_, (pe_clL c_run_plain hr (by omega) (fun _ => O) cj_run_plain__l0 (by rfl) (pa_cons (pe_ix (ixT K) (pv 1) (pv 0) (fun _ _ => rfl)) (pa_cons (pv 2) pa_nil))), ?_⟩) hL
          · obtain ⟨i, rfl, _⟩ := h
            rfl
          · obtain ⟨i, rfl, hi, q2⟩ := h2
            have e0 := gr.kpr.toExt.trans (e2.toExt.trans e3)
            have C2 := C.ext e3
            have hi' : bs[i]? = some bs[i] := List.getElem?_eq_getElem hi
            obtain ⟨g1, g2⟩ := (hvs.ext e0).get
            obtain ⟨vx, g3, g4⟩ := g2 i _ hi'
            have ai : atI vs ((i : Nat) : Int) = some vx := by
              have e9 : ixN vs.length ((i : Nat) : Int) = some i := by
                unfold ixN
                rw [if_pos (by omega), if_pos (by omega)]
                simp
              unfold atI
              rw [e9]
              exact g3
            refine ⟨_, rfl, _, rfl, q0, _, i, _, rfl, rfl, ((hq.ext e0).take C2).sq, ai, _, rfl, fun cs2 LV2 out2 => ?_⟩
            have e4 := lent_kp (NM := NM) (ks := [1, 2]) fs_run_plain__l0 C2 (Kp.refl _) out2 LV2.1 (by decide) rfl rfl
            have o1 := okB_le (k1.2 _ (List.getElem_mem hi)) (k2.2 _ (List.getElem_mem hi)) lm
            refine ⟨bs[i], vx, seen, rfl, o1.1, o1.2, g4.ext e4.toExt, (e0.trans e4.toExt).tb _ _ hT, by omega, fun v6 H6 e6 r6 H7 e7 o7 cs3 LV3 out3 => ?_⟩
            have e8 := relend_kp (NM := NM) (H := H7) LV2 LV3 (fun _ z => z) out3
            rw [← e7] at e8
            refine q2 _ _ (e4.trans (e6.trans e8)) ?_
            have er : (runsP bs seen).getD i (.fin "") = runP bs[i] seen := by
              rw [runsP_map, List.getD_eq_getElem?_getD, List.getElem?_map, hi']
              rfl
            have r9 := r6.ext RStr.stay e8.toExt
            rw [← er] at r9
            exact r9
      | ask ps a =>
        unfold BrV at kb
        obtain ⟨p0, q0, vx, rfl, hp, hq, hx⟩ := kb
        refine ⟨_, rfl, p0, _, 0, _, rfl, rfl, hp.sq, rfl, rfl, false, by simp [show ¬ (("ask" : Str) = "look") by decide +kernel], ?_⟩
        show (if false = true then _ else _)
        rw [if_neg Bool.false_ne_true]
        refine ⟨_, rfl, p0, _, 0, _, rfl, rfl, hp.sq, rfl, rfl, false, by simp [show ¬ (("ask" : Str) = "say") by decide +kernel], ?_⟩
        show (if false = true then _ else _)
        rw [if_neg Bool.false_ne_true]
        refine ⟨_, rfl, p0, _, 0, _, rfl, rfl, hp.sq, rfl, rfl, false, by simp [show ¬ (("ask" : Str) = "toss") by decide +kernel], ?_⟩
        show (if false = true then _ else _)
        rw [if_neg Bool.false_ne_true]
        refine ⟨_, rfl, p0, _, 2, _, rfl, rfl, hp.sq, rfl, ?_⟩
        have hps : ps.length ≤ 1000 := k2.1
        refine ⟨_, rfl, p0, _, 1, _, rfl, rfl, hp.sq, rfl, _, rfl, q0, seen, ps, rfl, hq.sq, hps, by omega, fun H' sm => ⟨(same_kp sm).tb _ _ hT, .inl TB.code, fun f1 c1 U1 H2 gr n0 a1 a2 a3 => ⟨_, _, rfl, fun p2 np cs LV out => ?_⟩⟩⟩
        have e2 : Kp NM H2 (lendH cs (upd H2 p2 (.tup [.str "ask", .str (mkS ps seen), .ref f1]))) := (Kp.new np).trans (lend_kp out)
        refine q _ _ ((same_kp sm).trans (gr.kpr.trans e2)) ?_
        rw [← eq, runP]
        refine ⟨p2, f1, rfl, lend_at out upd_same, ?_⟩
        have C := cap_of (H := upd H2 p2 (.tup [.str "ask", .str (mkS ps seen), .ref f1])) (F := lamF n_run_plain__l1 ("run_plain.<locals>.") _ c1) (ks := [7, 1]) (ws := [vx, .str seen]) rfl LV fr_run_plain__l1 (fr := ["follower", "seen"]) (by decide +kernel) (by decide +kernel) (by decide) rfl rfl
        refine Clo.mono (clo_lam (F := lamF n_run_plain__l1 _ _ c1) (js := [1, 2]) (k := 3) (ws := [vx, .str seen]) rfl fs_run_plain__l1 (fun doc pm ct us hu => match us, hu with | [_], _ => rfl) (fun vs H2 Q E h => ?_) (a1.ext e2.toExt) (a2.ext e2.toExt) C cj_run_plain__l1 fun A2 outer2 s2 H3 ws2 Q2 E2 e3 hr O h2 => ⟨_, (pe_clL c_run_plain hr (by omega) (fun _ => O) cj_run_plain__l1 (by rfl) (pa_cons (pv 1) (pa_cons (pe_op op_add_str (pv 2) (pv 0)) pa_nil))), ?_⟩) hL
        · obtain ⟨i, rfl, _⟩ := h
          rfl
        · obtain ⟨t, rfl, hi, q2⟩ := h2
          have e0 := (same_kp sm).toExt.trans (gr.kpr.toExt.trans (e2.toExt.trans e3))
          have C2 := C.ext e3
          have hi : t.length ≤ 1000 := hi
          have z1 : (100000 : Nat) ≤ sizeLine := by decide
          refine ⟨_, rfl, _, rfl, _, rfl, seen, t, rfl, rfl, by omega, fun cs2 LV2 out2 => ?_⟩
          have e4 := lent_kp (NM := NM) (ks := [1, 2]) fs_run_plain__l1 C2 (Kp.refl _) out2 LV2.1 (by decide) rfl rfl
          have o1 := okB_le k1.2 k2.2 lm
          have al : (seen ++ t).length = seen.length + t.length := str_app_len _ _
          refine ⟨a, vx, seen ++ t, rfl, o1.1, o1.2, hx.ext (e0.trans e4.toExt), (e0.trans e4.toExt).tb _ _ hT, by omega, fun v6 H6 e6 r6 H7 e7 o7 cs3 LV3 out3 => ?_⟩
          have e8 := relend_kp (NM := NM) (H := H7) LV2 LV3 (fun _ z => z) out3
          rw [← e7] at e8
          exact q2 _ _ (e4.trans (e6.trans e8)) (r6.ext RStr.stay e8.toExt)
end

end
section
section
variable {P : Program} {w : World} {K : PySem.W.Frag} {mg : Str → Option Value} {base : Heap}
/-! ### run -/
theorem atI_zero {x : V} {r : List V} : atI (x :: r) 0 = some x := by
  unfold atI ixN
  rw [if_pos (by omega), if_pos (by rw [List.length_cons]; omega)]
  rfl
theorem BrV.head {H : Hp} : ∀ {b : Br} {v : V}, BrV K H b v → ∃ p kd r, v = .ref p ∧ SqX K H p (.str kd :: r) ∧ kd ∉ leadK
  | .say ps, v, h => by
    unfold BrV at h
    obtain ⟨p, q, h1, h2, _⟩ := h
    exact ⟨p, _, _, h1, h2, by decide +kernel⟩
  | .toss bs, v, h => by
    unfold BrV at h
    obtain ⟨p, q, vs, h1, h2, _⟩ := h
    exact ⟨p, _, _, h1, h2, by decide +kernel⟩
  | .look i a b, v, h => by
    unfold BrV at h
    obtain ⟨p, x, y, h1, h2, _⟩ := h
    exact ⟨p, _, _, h1, h2, by decide +kernel⟩
  | .ask ps a, v, h => by
    unfold BrV at h
    obtain ⟨p, q, x, h1, h2, _⟩ := h
    exact ⟨p, _, _, h1, h2, by decide +kernel⟩
theorem ok_run {cs : Cs} {f c T0 T1 : Addr} {fd : FuncData} {k_lead L n : Nat} (D : Df K mg "run" s_run ["breaker", "challenge"] f fd) (hc : fd.code = .ref c) (TB : LamX.TabB base mg c T0) (T : Txt K w mg cs)
    (c_run_plain : Cl P w K mg base CX0 3 "run_plain" (spRun P w K mg base T1 L n)) (hk : k_lead ≤ 3) : FnOk P w K mg base CX0 4 f fd ["breaker", "challenge"] (spRun P w K mg base T1 L n) := by
  have B := BlOk.of TB.bm
  refine okE (js := [3]) D.fn hc sc_run (fun vs H Q E h => ?_) cj_run fun A outer s H vs Q E hr h => ⟨_, (pxs_cons (px_if (pt_cmpR (notin_dk T.dk_LEADERS) (pe_ix (ixT K) (pv 0) pe_int (fun _ _ => rfl)) (pe_glob (v := .ref cs.LEADERS) (by rfl) T.gl_LEADERS rfl) (by rfl)) (pxs_one (px_ret (pe_clL c_run_plain hr (by omega) Off.top (fun j hj x e => .inl (cj_run j hj x e)) (by rfl) (pa_cons (pv 0) (pa_cons (pv 1) pa_nil))))) pxs_nil) (pxs_cons (px_of (ps_set (i := 2) sc_run.nd rfl (.inl rfl) (pe_ix (ix_dk T.dk_LEADERS) (pe_glob (v := .ref cs.LEADERS) (by rfl) T.gl_LEADERS rfl) (pe_ix (ixT K) (pv 0) pe_int (fun _ _ => rfl)) (fun _ _ => rfl)))) (pxs_cons (px_of (ps_set (i := 3) sc_run.nd rfl (.inr rfl) (pe_ix (ixT K) (pv 0) (pe_un un_neg pe_int) (fun _ _ => rfl)))) (pxs_one (px_ret (pe_clo (i := 2) (k := k_lead) (NM := NM) hr (by omega) Off.top (fun j hj x e => .inl (cj_run j hj x e)) (by rfl) (.inl (by rfl)) (pa_cons (pe_slice (slTA K) (pv 0) (po_some pe_int) (po_some (pe_un un_neg pe_int))) (pa_cons (pe_lamS (NM := NM) (n := 0) (T := T0) (e := n_run__l0) rfl rfl B nm_run__l0 (by rfl) fr_run__l0) (pa_cons (pv 1) pa_nil))))))))), ?_⟩
  · obtain ⟨b, v, seen, rfl, _⟩ := h
    rfl
  · obtain ⟨b, v, seen, rfl, h1, h2, hb, hT, hl, q⟩ := h
    obtain ⟨p0, kd, r, rfl, hp, hk⟩ := hb.head
    refine ⟨_, rfl, p0, _, 0, _, rfl, rfl, hp.sq, atI_zero, kd, rfl, rfl, true, by rw [decide_eq_true hk], ?_⟩
    show (if true = true then _ else _)
    rw [if_pos rfl]
    refine ⟨_, rfl, _, rfl, fun cs1 LV1 out1 => ?_⟩
    have e1 : Kp NM H (lendH cs1 H) := lend_kp out1
    refine ⟨b, _, seen, rfl, h1, h2, hb.ext e1.toExt, e1.tb _ _ hT, hl, fun v' H' e r' H5 e5 o5 cs2 LV2 out2 => ?_⟩
    have e6 := relend_kp (NM := NM) (H := H5) LV1 LV2 (fun _ z => z) out2
    rw [← e5] at e6
    exact q _ _ (e1.trans (e.trans e6)) (r'.ext RStr.stay e6.toExt)
/-! ### rules: simple judges and answers -/
/-- what an answer of a game ends with -/
def RGiven {σ : Type} (S : Hp → V → σ → Prop) : Hp → V → σ × Str → Prop := fun H v r => ∃ a x, v = .ref a ∧ H a = some (.tup [x, .str r.2]) ∧ S H x r.1 ∧ Short r.2
def spGive (P : Program) (w : World) (K : PySem.W.Frag) (mg : Str → Option Value) (base : Heap) {σ : Type} (S : Hp → V → σ → Prop) (La : Nat) (an : σ → Str → Pr (σ × Str)) : Sp := fun vs H Q _ => ∃ st s z, vs = [st, .str z] ∧ S H st s ∧ ∀ v' H', Kp NM H H' → RepPr P w K mg base NM (RGiven S) La (an s z) H' v' → Q v' H'
/-- the asks with their answers -/
def RAsked (K : PySem.W.Frag) : Hp → V → List (Str × Str) → Prop := fun H v l => ∃ p xs, v = .ref p ∧ SqX K H p xs ∧ xs.length = l.length ∧ ∀ (i : Nat) (z r : Str), l[i]? = some (z, r) → ∃ q : Addr, xs[i]? = some (V.ref q) ∧ H q = some (.tup [.str z, .str r])
def RInt : Hp → V → Int → Prop := fun _ v a => v = .int a
def spJudge (P : Program) (w : World) (K : PySem.W.Frag) (mg : Str → Option Value) (base : Heap) {σ : Type} (S : Hp → V → σ → Prop) (Lj : Nat) (jd : σ → List (Str × Str) → Str → Pr Int) : Sp := fun vs H Q _ => ∃ st s al l said, vs = [st, al, .str said] ∧ S H st s ∧ RAsked K H al l ∧ said.length ≤ 100000 ∧
  ∀ v' H', Kp NM H H' → RepPr P w K mg base NM RInt Lj (jd s l said) H' v' → Q v' H'
theorem RInt.stay : StayR NM RInt := fun _ _ _ _ _ h => h
theorem RAsked.stay : StayR NM (RAsked K) := fun H H1 v l e ⟨p, xs, h1, h2, h3, h4⟩ => ⟨p, xs, h1, h2.ext e, h3, fun i z r g => by
  obtain ⟨q, k1, k2⟩ := h4 i z r g
  exact ⟨q, k1, e.tup _ _ k2⟩⟩
theorem ok_no_answer {σ : Type} {S : Hp → V → σ → Prop} {La : Nat} (hS : StayR NM S) {f : Addr} {fd : FuncData} (D : Df K mg "no_answer" s_no_answer ["state", "_"] f fd) (c_end : Cl P w K mg base CX0 1 "end" spEnd) : FnOk P w K mg base CX0 2 f fd ["state", "_"] (spGive P w K mg base S La fun s _ => .fin (s, "")) := by
  refine D.fn.ok sc_no_answer (fun vs H Q E h => ?_) fun cdv A outer s H vs Q E hr h => ⟨_, (pss_one (ps_ret (pe_cl c_end hr (by first | decide | omega) (by rfl) (pa_cons (pe_tup (pa_cons (pv 0) (pa_cons pe_str pa_nil))) pa_nil)))), ?_⟩
  · obtain ⟨b, v, seen, rfl, _⟩ := h
    rfl
  · obtain ⟨st, s, z, rfl, h1, q⟩ := h
    refine ⟨_, rfl, by show 2 ≤ sizeLine; decide, fun p np => ⟨_, rfl, fun p2 np2 => ?_⟩⟩
    have e : Kp NM H (upd (upd H p (.tup [st, .str ""])) p2 (.tup [.str "end", .ref p, .non])) := (Kp.new np).trans (Kp.new np2)
    exact q _ _ e ⟨p2, .ref p, rfl, upd_same, p, st, rfl, (Kp.new (NM := NM) np2).tup _ _ upd_same, hS _ _ _ _ e.toExt h1, by show 0 ≤ 1000; decide⟩
theorem ok_said_one {σ : Type} {S : Hp → V → σ → Prop} {Lj : Nat} {f : Addr} {fd : FuncData} (D : Df K mg "said_one" s_said_one ["state", "asked", "said"] f fd) (c_outcome : Cl P w K mg base CX0 2 "outcome" spOutcome) :
    FnOk P w K mg base CX0 3 f fd ["state", "asked", "said"] (spJudge P w K mg base S Lj fun _ _ said => .fin (if said = "1" then 1 else 0)) := by
  refine D.fn.ok sc_said_one (fun vs H Q E h => ?_) fun cdv A outer s H vs Q E hr h => ⟨_, (pss_one (ps_ret (pe_cl c_outcome hr (by first | decide | omega) (by rfl) (pa_cons (pe_cmpR op_eq (pv 2) pe_str (nomark _)) pa_nil)))), ?_⟩
  · obtain ⟨b, v, seen, al, l, rfl, _⟩ := h
    rfl
  · obtain ⟨st, s, al, l, said, rfl, h1, h2, hl, q⟩ := h
    refine ⟨_, rfl, rfl, decide (said = "1"), ?_, fun p np => ?_⟩
    · show [V.bl (decide (V.str said = V.str "1"))] = _
      simp
    · refine q _ _ (Kp.new np) ⟨p, _, rfl, upd_same, ?_⟩
      show V.int (if decide (said = "1") = true then 1 else 0) = .int _
      simp
/-! ### guesses_bit, hint, the games opening and next -/
def guessS (said : Str) : Str := if said = "1" then "1" else "0"
theorem ok_guess_of {f : Addr} {fd : FuncData} (D : Df K mg "guess_of" s_guess_of ["said"] f fd) : FnOk P w K mg base CX0 1 f fd ["said"] (fun vs H Q _ => ∃ said, vs = [.str said] ∧ Q (.str (guessS said)) H) := by
  refine D.fn.ok sc_guess_of (fun vs H Q E h => ?_) fun cdv A outer s H vs Q E hr h => ⟨_, (pss_one (ps_ret (pe_ifExp (pt_cmpR op_eq (pv 0) pe_str (nomark _)) pe_str pe_str))), ?_⟩
  · obtain ⟨said, rfl, _⟩ := h
    rfl
  · obtain ⟨said, rfl, q⟩ := h
    by_cases c : said = "1"
    · unfold guessS at q
      rw [if_pos c] at q
      refine ⟨_, rfl, rfl, true, by simp [c], ?_⟩
      exact q
    · unfold guessS at q
      rw [if_neg c] at q
      refine ⟨_, rfl, rfl, false, by simp [c], ?_⟩
      exact q
def hintB (bs : List Bool) (i : Nat) : List Bool := bs.take i ++ true :: List.replicate (bs.length - 1 - i) false
def spHint : Sp := fun vs H Q _ => ∃ (bs : List Bool) (i : Nat), vs = [.str (sb bs), .int (i : Int)] ∧ i < bs.length ∧ bs.length ≤ 1000 ∧ Q (.str (sb (hintB bs i))) H
theorem ok_hint {cs : Cs} {f : Addr} {fd : FuncData} (D : Df K mg "hint" s_hint ["row", "place"] f fd) (T : Txt K w mg cs) : FnOk P w K mg base CX0 1 f fd ["row", "place"] spHint := by
  refine D.fn.ok sc_hint (fun vs H Q E h => ?_) fun cdv A outer s H vs Q E hr h => ⟨_, (pss_one (ps_ret (pe_op op_add_str (pe_op op_add_str (pe_slice sl_str (pv 0) po_none (po_some (pv 1))) pe_str) (pe_op op_repS pe_str (pe_op op_sub (pe_op op_sub (pe_callB call_len_str (by rfl) T.n_len (by decide +kernel) (pa_cons (pv 0) pa_nil)) pe_int) (pv 1)))))), ?_⟩
  · obtain ⟨bs, i, rfl, _⟩ := h
    rfl
  · obtain ⟨bs, i, rfl, hi, hl, q⟩ := h
    have z1 : (16777216 : Nat) ≤ sizeLine := by decide
    refine ⟨_, rfl, _, rfl, _, rfl, sb bs, rfl, sb_size (by omega), ?_⟩
    rw [cut_pre]
    have l1 : (sb (bs.take i)).length = i := by rw [sb_len, List.length_take]; omega
    refine ⟨sb (bs.take i), sb [true], rfl, rfl, by rw [l1, sb_len]; show i + 1 ≤ _; omega, ?_⟩
    rw [sb_cat]
    refine ⟨_, rfl, sb bs, rfl, sb_size (by omega), _, _, rfl, rfl, _, rfl, _, _, rfl, rfl, ?_⟩
    rw [sb_len]
    have e1 : ((bs.length : Int) - 1 - (i : Int)) = ((bs.length - 1 - i : Nat) : Int) := by omega
    refine ⟨[48], ((bs.length - 1 - i : Nat) : Int), rfl, congrArg V.int e1, ⟨by omega, by rw [Int.toNat_natCast]; show 1 * _ ≤ _; omega, by omega⟩, ?_⟩
    rw [Int.toNat_natCast, show SX.S (List.replicate (bs.length - 1 - i) [48]).flatten = sb (List.replicate (bs.length - 1 - i) false) from rep_bits false _]
    refine ⟨_, _, rfl, rfl, ?_, ?_⟩
    · rw [sb_len, sb_len, List.length_append, List.length_take, List.length_replicate]
      show min i bs.length + 1 + _ ≤ _
      omega
    · rw [sb_cat, List.append_assoc]
      exact q
/-- the judge who asks for this bit -/
def bitJ {σ : Type} (b : Bool) : σ → List (Str × Str) → Str → Pr Int := fun _ _ said => .fin (if guessS said = sb [b] then 1 else 0)
def spGuesses (P : Program) (w : World) (K : PySem.W.Frag) (mg : Str → Option Value) (base : Heap) (T0 : Addr) {σ : Type} (S : Hp → V → σ → Prop) (Lj : Nat) : Sp := fun vs H Q _ => ∃ b : Bool, vs = [.str (sb [b])] ∧ Tb NM 1 H T0 ∧
  ∀ f' H', Kp NM H H' → Clo P w K mg base NM 4 f' (spJudge P w K mg base S Lj (bitJ b)) H' → Q (.ref f') H'
theorem ok_guesses_bit {σ : Type} {S : Hp → V → σ → Prop} {Lj : Nat} {f c T0 : Addr} {fd : FuncData} (D : Df K mg "guesses_bit" s_guesses_bit ["bit"] f fd) (hc : fd.code = .ref c) (TB : LamX.TabB base mg c T0) (c_outcome : Cl P w K mg base CX0 2 "outcome" spOutcome)
    (c_guess_of : Cl P w K mg base CX0 1 "guess_of" (fun vs H Q _ => ∃ said, vs = [.str said] ∧ Q (.str (guessS said)) H)) : FnOk P w K mg base CX0 1 f fd ["bit"] (spGuesses P w K mg base T0 S Lj) := by
  have B := BlOk.of TB.bm
  refine okE (js := [0]) D.fn hc sc_guesses_bit (fun vs H Q E h => ?_) cj_guesses_bit fun A outer s H vs Q E hr h => ⟨_, (pxs_one (px_ret (pe_lamS (NM := NM) (n := 0) (T := T0) (e := n_guesses_bit__l0) rfl rfl B nm_guesses_bit__l0 (by rfl) fr_guesses_bit__l0))), ?_⟩
  · obtain ⟨b, rfl, _⟩ := h
    rfl
  · obtain ⟨b, rfl, hT, q⟩ := h
    refine ⟨hT, .inl TB.code, fun f1 c1 T1 H1 gr n0 a1 a2 a3 cs LV out => ?_⟩
    have e1 : Kp NM H1 (lendH cs H1) := lend_kp out
    refine q _ _ (gr.kpr.trans e1) ?_
    have C := cap_of (H := H1) (F := lamF n_guesses_bit__l0 ("guesses_bit.<locals>.") _ c1) (ks := [0]) (ws := [.str (sb [b])]) rfl LV fr_guesses_bit__l0 (fr := ["bit"]) (by decide +kernel) (by decide +kernel) (by decide) rfl rfl
    refine clo_lam (F := lamF n_guesses_bit__l0 _ _ c1) (js := [3]) (k := 3) (ws := [.str (sb [b])]) rfl fs_guesses_bit__l0 (fun doc pm ct us hu => match us, hu with | [_, _, _], _ => rfl) (fun vs H2 Q E h => ?_) (a1.ext e1.toExt) (a2.ext e1.toExt) C cj_guesses_bit__l0 fun A2 outer2 s2 H3 ws2 Q2 E2 e3 hr O h2 => ⟨_, (pe_cl c_outcome hr (by first | decide | omega) (by rfl) (pa_cons (pe_cmpR op_eq (pe_cl c_guess_of hr (by first | decide | omega) (by rfl) (pa_cons (pv 2) pa_nil)) (pv 3) (nomark _)) pa_nil)), ?_⟩
    · obtain ⟨st, s, al, l, said, rfl, _⟩ := h
      rfl
    · obtain ⟨st, s, al, l, said, rfl, h1, h2, hl, q2⟩ := h2
      have C2 := C.ext e3
      refine ⟨_, rfl, said, rfl, _, rfl, rfl, _, rfl, fun p np cs3 LV3 out3 => ?_⟩
      have e4 := lent_kp (NM := NM) (ks := [3]) fs_guesses_bit__l0 C2 (Kp.new np) out3 LV3 (by decide) rfl rfl
      refine q2 _ _ e4 ⟨p, _, rfl, lend_at out3 upd_same, ?_⟩
      show V.int (if decide (V.str (guessS said) = V.str (sb [b])) = true then 1 else 0) = _
      simp [RInt]
end

end
section
/-! ### what a contest is -/
abbrev Res := Int × Str × List (Str × Str)
def RRes (K : PySem.W.Frag) : Hp → V → Res → Prop := fun H v r => ∃ p al, v = .ref p ∧ H p = some (.tup [.int r.1, .str r.2.1, al]) ∧ RAsked K H al r.2.2
theorem RRes.stay {K : PySem.W.Frag} : StayR NM (RRes K) := fun H H1 v r e ⟨p, al, h1, h2, h3⟩ => ⟨p, al, h1, e.tup _ _ h2, RAsked.stay _ _ _ _ e h3⟩
def noteP {σ : Type} (an : σ → Str → Pr (σ × Str)) : σ × List (Str × Str) → Str → Pr ((σ × List (Str × Str)) × Option Str) := fun h z => (an h.1 z).bind fun g => .fin ((g.1, h.2 ++ [(z, g.2)]), some g.2)
def finishP {σ : Type} (jd : σ → List (Str × Str) → Str → Pr Int) : σ × List (Str × Str) → Str → Pr Res := fun h said => (jd h.1 h.2 said).bind fun o => .fin (o, said, h.2)
def contestP {σ : Type} (br : Br) (ch : Str) (s : σ) (an : σ → Str → Pr (σ × Str)) (jd : σ → List (Str × Str) → Str → Pr Int) : Pr Res := (runP br ch).srv ("" : Str) (s, []) (noteP an) (finishP jd)
section
variable (P : Program) (w : World) (K : PySem.W.Frag) (mg : Str → Option Value) (base : Heap)
def spMeet {σ : Type} (S : Hp → V → σ → Prop) (L : Nat) (br : Br) : Sp := fun vs H Q _ => ∃ ch st s fa fj an jd, vs = [.str ch, st, .ref fa, .ref fj] ∧ S H st s ∧ ch.length ≤ 1000 ∧ Clo P w K mg base NM 10 fa (spGive P w K mg base S 20 an) H ∧ Clo P w K mg base NM 10 fj (spJudge P w K mg base S 20 jd) H ∧
  ∀ v' H', Kp NM H H' → RepPr P w K mg base NM (RRes K) L (contestP br ch s an jd) H' v' → Q v' H'
end
/-! ### blocks as values -/
def bitS (m i : Nat) : Str := sb (toB m i)
def unb (z : Str) : List Bool := z.cps.toList.map fun c => c == 49
theorem unb_sb (l : List Bool) : unb (sb l) = l := by
  unfold unb sb
  rw [List.map_map]
  show List.map _ l = l
  conv => rhs; rw [← List.map_id l]
  refine List.map_congr_left fun b _ => ?_
  cases b <;> rfl
def xorZ (z : Str) (r : List Bool) : Str := sb (List.zipWith (fun x y => x != y) (unb z) r)
/-- a generator as a tuple -/
def GenV (K : PySem.W.Frag) (H : Hp) (b : Addr) (n m : Nat) (rows : List (List Bool)) : Prop := ∃ r, SqX K H b [.str "generator", .int (n : Int), .int (m : Int), .ref r] ∧ SqX K H r (rows.map fun l => V.str (sb l)) ∧ rows.length = 2 ^ n ∧ (∀ l ∈ rows, l.length = m) ∧ n ≤ 40 ∧ m ≤ 40
theorem GenV.ext {K : PySem.W.Frag} {H H1 : Hp} {b : Addr} {n m : Nat} {rows : List (List Bool)} (h : GenV K H b n m rows) (e : Ext NM H H1) : GenV K H1 b n m rows := by
  obtain ⟨r, h1, h2, h3⟩ := h
  exact ⟨r, h1.ext e, h2.ext e, h3⟩
def drawRowP {α : Type} (rows : List (List Bool)) (n m : Nat) (real : Bool) (g : Str → Pr α) : Pr α := if real then .draw (2 ^ n) fun i => g ((rows.map sb).getD i "") else .draw (2 ^ m) fun i => g (bitS m i)
/-! ### the game opening -/
def SNone : Hp → V → Unit → Prop := fun _ v _ => v = .non
theorem SNone.stay : StayR NM SNone := fun _ _ _ _ _ h => h
def noAns : Unit → Str → Pr (Unit × Str) := fun s _ => .fin (s, "")
def oneJ {σ : Type} : σ → List (Str × Str) → Str → Pr Int := fun _ _ said => .fin (if said = "1" then 1 else 0)
def openingP (br : Br) (rows : List (List Bool)) (n m : Nat) (r : List Bool) (real : Bool) (b : Int) : Pr Res := drawRowP rows n m real fun z => contestP br (if b = 1 then xorZ z r else z) () noAns oneJ
section
variable {P : Program} {w : World} {K : PySem.W.Frag} {mg : Str → Option Value} {base : Heap}
def spOpening (P : Program) (w : World) (K : PySem.W.Frag) (mg : Str → Option Value) (base : Heap) (T0 T1 T2 : Addr) (L : Nat) (br : Br) : Sp := fun vs H Q _ => ∃ (pt blk meet : Addr) (n m : Nat) (rows : List (List Bool)) (r : List Bool) (real : Bool) (b : Int),
  vs = [.ref pt, .ref meet] ∧ SqT K H pt [.ref blk, .str (sb r), .bl real, .int b] ∧ GenV K H blk n m rows ∧ r.length = m ∧ Tb NM 1 H T0 ∧ Tb NM 1 H T1 ∧ Tb NM 1 H T2 ∧ Clo P w K mg base NM 13 meet (spMeet P w K mg base SNone L br) H ∧
  ∀ v' H', Kp NM H H' → RepPr P w K mg base NM (RRes K) L (openingP br rows n m r real b) H' v' → Q v' H'
theorem ok_opening_game {f c T0 T1 T2 a_no_answer a_said_one : Addr} {fd fdn fds : FuncData} {k_meet L : Nat} {br : Br} (D : Df K mg "opening_game" s_opening_game ["parts", "meet"] f fd) (hc : fd.code = .ref c) (TB : LamX.TabB base mg c T0) (hk : k_meet = 13)
    (c_xor : Cl P w K mg base CX0 2 "xor" spXor) (c_draw_row : Cl P w K mg base CX0 3 "draw_row" (spDrawRow P w K mg base T1 T2 bitS (RRes K) 14 L)) (Dn : Df K mg "no_answer" s_no_answer ["state", "_"] a_no_answer fdn) (Ds : Df K mg "said_one" s_said_one ["state", "asked", "said"] a_said_one fds)
    (kn : FnOk P w K mg base CX0 2 a_no_answer fdn ["state", "_"] (spGive P w K mg base SNone 20 noAns)) (ks : FnOk P w K mg base CX0 3 a_said_one fds ["state", "asked", "said"] (spJudge P w K mg base SNone 20 oneJ)) :
    FnOk P w K mg base CX0 4 f fd ["parts", "meet"] (spOpening P w K mg base T0 T1 T2 L br) := by
  have B := BlOk.of TB.bm
  have gd_no_answer := Dn.gl
  have gd_said_one := Ds.gl
  refine okE (js := [1, 3, 5]) D.fn hc sc_opening_game (fun vs H Q E h => ?_) cj_opening_game fun A outer s H vs Q E hr h => ⟨_, (pxs_cons (px_of (ps_asg (pv 0) (pg_tup (by rfl) (pgs_cons (pg_name (i := 2) sc_opening_game.nd rfl (.inl rfl)) (pgs_cons (pg_name (i := 3) sc_opening_game.nd rfl (.inr rfl)) (pgs_cons (pg_name (i := 4) sc_opening_game.nd rfl (.inl rfl)) (pgs_cons (pg_name (i := 5) sc_opening_game.nd rfl (.inr rfl)) pgs_nil))))))) (pxs_cons (px_of (ps_defS (NM := NM) (n := 0) (T := T0) (i := 6) (st := n_opening_game__with_row) rfl rfl B nm_opening_game__with_row fr_opening_game__with_row (by rfl) (by rfl) (by rfl) sc_opening_game.nd rfl (.inl rfl) (by first | exact .inl rfl | exact .inr (by rfl) | exact .inl (by decide +kernel)))) (pxs_one (px_ret (pe_clL c_draw_row hr (by omega) Off.top (fun j hj x e => .inl (cj_opening_game j hj x e)) (by rfl) (pa_cons (pv 2) (pa_cons (pv 4) (pa_cons (pv 6) pa_nil)))))))), ?_⟩
  · obtain ⟨pt, blk, meet, n, m, rows, r, real, b, rfl, _⟩ := h
    rfl
  · obtain ⟨pt, blk, meet, n, m, rows, r, real, b, rfl, hp, hg, hr', hT0, hT1, hT2, hM, q⟩ := h
    rw [← hk] at hM
    obtain ⟨rws, g1, g2, g3, g4, g5, g6⟩ := hg
    refine ⟨_, rfl, pt, _, rfl, hp, by rfl, _, _, rfl, _, _, rfl, _, _, rfl, _, _, rfl, rfl, ?_⟩
    refine ⟨hT0, .inl TB.code, fun f1 c1 T3 H1 gr n0 a1 a2 a3 => ⟨_, rfl, _, rfl, _, rfl, fun cs LV out => ?_⟩⟩
    have e1 : Kp NM H (lendH cs H1) := gr.kpr.trans (lend_kp out)
    have C := cap_of (H := H1) (F := defF n_opening_game__with_row "with_row" ("opening_game.<locals>.") _ c1) (ks := [1, 5, 3]) (ws := [.ref meet, .int b, .str (sb r)]) rfl LV.1 fr_opening_game__with_row (fr := ["meet", "b", "r"]) (by decide +kernel) (by decide +kernel) (by decide) rfl rfl
    refine ⟨blk, rws, f1, _, n, m, rows.map sb, real, fun z => contestP br (if b = 1 then xorZ z r else z) () noAns oneJ, rfl, (g1.ext e1.toExt).sq, by rw [List.map_map]; exact g2.ext e1.toExt, by rw [List.length_map]; exact g3, g5, g6, e1.tb _ _ hT1, e1.tb _ _ hT2, ?_, fun v6 H6 e6 r6 H7 e7 o7 cs2 LV2 out2 => ?_⟩
    · refine clo_by (F := defF n_opening_game__with_row "with_row" _ _ c1) (js := [1, 2, 3]) (k := 13) (ws := [.ref meet, .int b, .str (sb r)]) rfl fs_opening_game__with_row (fun doc pm ct us hu => match us, hu with | [_], _ => rfl) (fun vs H2 Q E h => ?_) (a1.ext (lend_kp (NM := NM) out).toExt) (a2.ext (lend_kp (NM := NM) out).toExt) C cj_opening_game__with_row fun A2 outer2 s2 H3 ws2 Q2 E2 e3 hr O h2 => ⟨_, (pxs_one (px_ret (pe_clo (i := 1) (k := k_meet) (NM := NM) hr (by omega) (fun _ => O) cj_opening_game__with_row (by rfl) (.inr (.inr (by rfl))) (pa_cons (pe_ifExp (pt_cmpR op_eq (pv 2) pe_int (nomark _)) (pe_cl c_xor hr (by first | decide | omega) (by rfl) (pa_cons (pv 0) (pa_cons (pv 3) pa_nil))) (pv 0)) (pa_cons pe_non (pa_cons (pe_glob (v := .ref a_no_answer) (by rfl) gd_no_answer rfl) (pa_cons (pe_glob (v := .ref a_said_one) (by rfl) gd_said_one rfl) pa_nil))))))), ?_⟩
      · obtain ⟨z, rfl, _⟩ := h
        rfl
      · obtain ⟨z, rfl, hz, q2⟩ := h2
        have e0 := e1.toExt.trans e3
        have C2 := C.ext e3
        have cM := hM.ext e0
        have fa := cM.1.take C2
        obtain ⟨l, rfl, hl⟩ : ∃ l, z = sb l ∧ l.length = m := by
          rcases hz with hz | ⟨i, hi, rfl⟩
          · obtain ⟨l, h1, rfl⟩ := List.mem_map.mp hz
            exact ⟨l, rfl, g4 l h1⟩
          · exact ⟨_, rfl, toB_len m i⟩
        have key : ∀ ch : Str, ch = (if b = 1 then xorZ (sb l) r else sb l) → ch.length ≤ 1000 := by
          rintro _ rfl
          split
          · unfold xorZ
            rw [unb_sb, sb_len, List.length_zipWith]
            omega
          · rw [sb_len]
            omega
        refine ⟨meet, rfl, fa, _, rfl, rfl, ?_⟩
        by_cases hb : b = 1
        · refine ⟨true, by simp [hb], ?_⟩
          show (if true = true then _ else _)
          rw [if_pos rfl]
          refine ⟨_, rfl, _, rfl, l, r, rfl, by omega, by omega, fa, fun cs3 LV3 out3 => ?_⟩
          have e4 := lent_kp (NM := NM) (ks := [1, 2, 3]) fs_opening_game__with_row C2 (Kp.refl _) out3 LV3.1 (by decide) rfl rfl
          refine ⟨_, cM.ext e4.toExt, _, _, (), a_no_answer, a_said_one, noAns, oneJ, rfl, rfl, key _ (by rw [if_pos hb]; unfold xorZ; rw [unb_sb]), (clo_def Dn kn).mono (by decide), (clo_def Ds ks).mono (by decide), fun v' H' e5 r5 H5 e6 o5 cs4 LV4 out4 => ?_⟩
          have e7 := relend_kp (NM := NM) (H := H5) LV3 LV4 (fun _ z => z) out4
          rw [← e6] at e7
          refine q2 _ _ (e4.trans (e5.trans e7)) ?_
          have r9 := r5.ext RRes.stay e7.toExt
          show RepPr P w K mg base NM (RRes K) L (contestP br (if b = 1 then xorZ (sb l) r else sb l) () noAns oneJ) _ _
          rw [if_pos hb]
          unfold xorZ
          rw [unb_sb]
          exact r9
        · refine ⟨false, by simp [hb], ?_⟩
          show (if false = true then _ else _)
          rw [if_neg Bool.false_ne_true]
          refine ⟨_, rfl, fa, fun cs3 LV3 out3 => ?_⟩
          have e4 := lent_kp (NM := NM) (ks := [1, 2, 3]) fs_opening_game__with_row C2 (Kp.refl _) out3 LV3.1 (by decide) rfl rfl
          refine ⟨_, cM.ext e4.toExt, _, _, (), a_no_answer, a_said_one, noAns, oneJ, rfl, rfl, key _ (by rw [if_neg hb]), (clo_def Dn kn).mono (by decide), (clo_def Ds ks).mono (by decide), fun v' H' e5 r5 H5 e6 o5 cs4 LV4 out4 => ?_⟩
          have e7 := relend_kp (NM := NM) (H := H5) LV3 LV4 (fun _ z => z) out4
          rw [← e6] at e7
          refine q2 _ _ (e4.trans (e5.trans e7)) ?_
          have r9 := r5.ext RRes.stay e7.toExt
          show RepPr P w K mg base NM (RRes K) L (contestP br (if b = 1 then xorZ (sb l) r else sb l) () noAns oneJ) _ _
          rw [if_neg hb]
          exact r9
    · have e8 := relend_kp (NM := NM) (H := H7) LV LV2 (fun _ z => z) out2
      rw [← e7] at e8
      exact q _ _ (e1.trans (e6.trans e8)) (r6.ext RRes.stay e8.toExt)
/-! ### the game next -/
def hintZ (z : Str) (i : Nat) : Str := sb (hintB (unb z) i)
def nextP (br : Br) (rows : List (List Bool)) (n m : Nat) (real : Bool) : Pr Res := .draw m fun i => drawRowP rows n m real fun z => contestP br (hintZ z i) () noAns (bitJ ((unb z).getD i false))
theorem sb_ix {l : List Bool} {i : Nat} (h : i < l.length) : atI (sb l).cps.toList ((i : Nat) : Int) = some (cB (l.getD i false)) := by
  have e : (sb l).cps.toList = l.map cB := by
    show ((l.map cB).toArray).toList = _
    simp
  rw [e]
  have e9 : ixN (l.map cB).length ((i : Nat) : Int) = some i := by
    unfold ixN
    rw [if_pos (by omega), if_pos (by rw [List.length_map]; omega)]
    simp
  unfold atI
  rw [e9]
  show (l.map cB)[i]? = _
  rw [List.getElem?_map, List.getD_eq_getElem?_getD, List.getElem?_eq_getElem h]
  rfl
def spNext (P : Program) (w : World) (K : PySem.W.Frag) (mg : Str → Option Value) (base : Heap) (T0 T1 T2 T3 : Addr) (L : Nat) (br : Br) : Sp := fun vs H Q _ => ∃ (pt blk meet : Addr) (n m : Nat) (rows : List (List Bool)) (real : Bool),
  vs = [.ref pt, .ref meet] ∧ SqT K H pt [.ref blk, .bl real] ∧ GenV K H blk n m rows ∧ Tb NM 2 H T0 ∧ Tb NM 1 H T1 ∧ Tb NM 1 H T2 ∧ Tb NM 1 H T3 ∧ Clo P w K mg base NM 13 meet (spMeet P w K mg base SNone L br) H ∧
  ∀ v' H', Kp NM H H' → RepPr P w K mg base NM (RRes K) L (nextP br rows n m real) H' v' → Q v' H'
theorem ok_next_game {f c T0 T1 T2 T3 a_no_answer : Addr} {fd fdn : FuncData} {k_meet L : Nat} {br : Br} (D : Df K mg "next_game" s_next_game ["parts", "meet"] f fd) (hc : fd.code = .ref c) (TB : LamX.TabB base mg c T0) (hk : k_meet = 13)
    (c_draw : Cl P w K mg base CX0 1 "draw" spDraw) (c_hint : Cl P w K mg base CX0 1 "hint" spHint) (c_guesses_bit : Cl P w K mg base CX0 1 "guesses_bit" (spGuesses P w K mg base T3 SNone 20))
    (c_draw_row : Cl P w K mg base CX0 3 "draw_row" (spDrawRow P w K mg base T1 T2 bitS (RRes K) 14 L)) (Dn : Df K mg "no_answer" s_no_answer ["state", "_"] a_no_answer fdn)
    (kn : FnOk P w K mg base CX0 2 a_no_answer fdn ["state", "_"] (spGive P w K mg base SNone 20 noAns)) (hL : 4 ≤ L) :
    FnOk P w K mg base CX0 2 f fd ["parts", "meet"] (spNext P w K mg base T0 T1 T2 T3 L br) := by
  have B := BlOk.of TB.bm
  have gd_no_answer := Dn.gl
  refine okE (js := [1, 2, 3]) D.fn hc sc_next_game (fun vs H Q E h => ?_) cj_next_game fun A outer s H vs Q E hr h => ⟨_, (pxs_cons (px_of (ps_asg (pv 0) (pg_tup (by rfl) (pgs_cons (pg_name (i := 2) sc_next_game.nd rfl (.inr rfl)) (pgs_cons (pg_name (i := 3) sc_next_game.nd rfl (.inr rfl)) pgs_nil))))) (pxs_cons (px_of (ps_defS (NM := NM) (n := 1) (T := T0) (i := 4) (st := n_next_game__with_place) rfl rfl B nm_next_game__with_place fr_next_game__with_place (by rfl) (by rfl) (by rfl) sc_next_game.nd rfl (.inl rfl) (by first | exact .inl rfl | exact .inr (by rfl) | exact .inl (by decide +kernel)))) (pxs_one (px_ret (pe_cl c_draw hr (by first | decide | omega) (by rfl) (pa_cons (pe_ix (ixT K) (pv 2) pe_int (fun _ _ => rfl)) (pa_cons (pv 4) pa_nil))))))), ?_⟩
  · obtain ⟨pt, blk, meet, n, m, rows, real, rfl, _⟩ := h
    rfl
  · obtain ⟨pt, blk, meet, n, m, rows, real, rfl, hp, hg, hT0, hT1, hT2, hT3, hM, q⟩ := h
    rw [← hk] at hM
    obtain ⟨rws, g1, g2, g3, g4, g5, g6⟩ := hg
    refine ⟨_, rfl, pt, _, rfl, hp, by rfl, _, _, rfl, _, _, rfl, rfl, ?_⟩
    refine ⟨hT0, .inl TB.code, fun f1 c1 T0 H1 gr n0 a1 a2 a3 => ?_⟩
    refine ⟨_, rfl, blk, _, 2, _, rfl, rfl, (g1.ext gr.ext).sq, rfl, _, rfl, _, _, rfl, fun p np cs LV out => ?_⟩
    have e1 : Kp NM H1 (lendH cs (upd H1 p (.tup [.str "draw", .int (m : Int), .ref f1]))) := (Kp.new np).trans (lend_kp out)
    refine q _ _ (gr.kpr.trans e1) ⟨p, f1, rfl, lend_at out upd_same, ?_⟩
    have C := cap_of (H := upd H1 p (.tup [.str "draw", .int (m : Int), .ref f1])) (F := defF n_next_game__with_place "with_place" ("next_game.<locals>.") _ c1) (ks := [2, 3, 1]) (ws := [.ref blk, .bl real, .ref meet]) rfl LV fr_next_game__with_place (fr := ["block", "real", "meet"]) (by decide +kernel) (by decide +kernel) (by decide) rfl rfl
    refine Clo.mono (clo_by (F := defF n_next_game__with_place "with_place" _ _ c1) (js := [0, 1, 2, 3]) (k := 3) (ws := [.ref blk, .bl real, .ref meet]) rfl fs_next_game__with_place (fun doc pm ct us hu => match us, hu with | [_], _ => rfl) (fun vs H2 Q E h => ?_) (a1.ext e1.toExt) (a2.ext e1.toExt) C cj_next_game__with_place fun A2 outer2 s2 H3 ws2 Q2 E2 e3 hr O h2 => ⟨_, (pxs_one (px_ret (pe_clL c_draw_row hr (by omega) (fun _ => O) cj_next_game__with_place (by rfl) (pa_cons (pv 1) (pa_cons (pv 2) (pa_cons (pe_lamS (NM := NM) (n := 0) (T := T0) (e := n_next_game__with_place__l0) rfl rfl B nm_next_game__with_place__l0 (by rfl) fr_next_game__with_place__l0) pa_nil)))))), ?_⟩) hL
    · obtain ⟨i, rfl, _⟩ := h
      rfl
    · obtain ⟨i, rfl, hi, q2⟩ := h2
      have e0 := gr.kpr.toExt.trans (e1.toExt.trans e3)
      have C2 := C.ext e3
      have cM := hM.ext e0
      have hc1 := a2.ext (e1.toExt.trans e3)
      refine ⟨_, rfl, _, rfl, Tb.take C2 ((e1.toExt.trans e3).tb _ _ a3), .inr ⟨_, CodeAtH.take C2 hc1⟩, fun f2 c2 T4 H4 gr2 n2 b1 b2 b3 => fun cs2 LV2 out2 => ?_⟩
      have e4 := lent_kp (NM := NM) (ks := [1, 2, 3]) fs_next_game__with_place C2 gr2.kpr out2 LV2.1 (by decide) rfl rfl
      have e5 := e0.trans e4.toExt
      have C3 := cap_of (H := H4) (F := lamF n_next_game__with_place__l0 (((("next_game" : Str) ++ ".<locals>.") ++ "with_place") ++ ".<locals>.") _ c2) (ks := [3, 0]) (ws := [.ref meet, .int i]) rfl LV2.1 fr_next_game__with_place__l0 (fr := ["meet", "i"]) (by decide +kernel) (by decide +kernel) (by decide) rfl rfl
      refine ⟨blk, rws, f2, _, n, m, rows.map sb, real, fun z => contestP br (hintZ z i) () noAns (bitJ ((unb z).getD i false)), rfl, (g1.ext e5).sq, by rw [List.map_map]; exact g2.ext e5, by rw [List.length_map]; exact g3, g5, g6, e5.tb _ _ hT1, e5.tb _ _ hT2, ?_, fun v6 H6 e6 r6 H7 e7 o7 cs3 LV3 out3 => ?_⟩
      · refine clo_lam (F := lamF n_next_game__with_place__l0 _ _ c2) (js := [1, 2]) (k := 13) (ws := [.ref meet, .int i]) rfl fs_next_game__with_place__l0 (fun doc pm ct us hu => match us, hu with | [_], _ => rfl) (fun vs H2 Q E h => ?_) (b1.ext (lend_kp (NM := NM) out2).toExt) (b2.ext (lend_kp (NM := NM) out2).toExt) C3 cj_next_game__with_place__l0 fun A3 outer3 s3 H8 ws3 Q3 E3 e8 hr O h3 => ⟨_, (pe_clo (i := 1) (k := k_meet) (NM := NM) hr (by omega) (fun _ => O) cj_next_game__with_place__l0 (by rfl) (.inr (.inr (by rfl))) (pa_cons (pe_cl c_hint hr (by first | decide | omega) (by rfl) (pa_cons (pv 0) (pa_cons (pv 2) pa_nil))) (pa_cons pe_non (pa_cons (pe_glob (v := .ref a_no_answer) (by rfl) gd_no_answer rfl) (pa_cons (pe_cl c_guesses_bit hr (by first | decide | omega) (by rfl) (pa_cons (pe_ix ix_str (pv 0) (pv 2) (fun _ _ => rfl)) pa_nil)) pa_nil))))), ?_⟩
        · obtain ⟨z, rfl, _⟩ := h
          rfl
        · obtain ⟨z, rfl, hz, q3⟩ := h3
          have C4 := C3.ext e8
          have e9 := e5.trans e8
          have cM := hM.ext e9
          have fa := cM.1.take C4
          obtain ⟨l, rfl, hl⟩ : ∃ l, z = sb l ∧ l.length = m := by
            rcases hz with hz | ⟨i, hi, rfl⟩
            · obtain ⟨l, h1, rfl⟩ := List.mem_map.mp hz
              exact ⟨l, rfl, g4 l h1⟩
            · exact ⟨_, rfl, toB_len m i⟩
          have hz2 : (unb (sb l)).getD i false = l.getD i false := by rw [unb_sb]
          have hz3 : hintZ (sb l) i = sb (hintB l i) := by
            unfold hintZ
            rw [unb_sb]
          have hlen : (sb (hintB l i)).length ≤ 1000 := by
            rw [sb_len]
            unfold hintB
            rw [List.length_append, List.length_cons, List.length_take, List.length_replicate]
            omega
          refine ⟨meet, rfl, fa, _, rfl, _, rfl, l, i, rfl, by omega, by omega, ?_⟩
          refine ⟨_, rfl, _, rfl, sb l, i, _, rfl, rfl, sb_size (by omega), sb_ix (by omega), l.getD i false, rfl, Tb.take C4 (e9.tb _ _ hT3), fun f' H9 e10 cl => ⟨fa.ext e10.toExt, fun cs4 LV4 out4 => ?_⟩⟩
          have e11 := lent_kp (NM := NM) (ks := [1, 2]) fs_next_game__with_place__l0 C4 e10 out4 LV4.1 (by decide) rfl rfl
          refine ⟨_, cM.ext e11.toExt, _, _, (), a_no_answer, f', noAns, bitJ (l.getD i false), rfl, rfl, hlen, (clo_def Dn kn).mono (by decide), (cl.ext (lend_kp (NM := NM) out4).toExt).mono (by decide), fun v' H' e12 r5 H5 e13 o5 cs5 LV5 out5 => ?_⟩
          have e14 := relend_kp (NM := NM) (H := H5) LV4 LV5 (fun _ z => z) out5
          rw [← e13] at e14
          refine q3 _ _ (e11.trans (e12.trans e14)) ?_
          have r9 := r5.ext RRes.stay e14.toExt
          show RepPr P w K mg base NM (RRes K) L (contestP br (hintZ (sb l) i) () noAns (bitJ ((unb (sb l)).getD i false))) _ _
          rw [hz2, hz3]
          exact r9
      · have e8 := relend_kp (NM := NM) (H := H7) LV2 LV3 (fun _ z => z) out3
        rw [← e7] at e8
        exact q2 _ _ (e4.trans (e6.trans e8)) (r6.ext RRes.stay e8.toExt)
end

end
section
/-! ### functions made behind a call to which cells were lent -/
theorem lent_like {env : Env} {N : List Str} {σ : L2.St} {js : List Nat} {cs : List (Addr × Obj)} (a : Lv env N σ js cs) {d : Addr} {o : Obj} (e : cs.lookup d = some o) : ∃ v, CellV v o := by
  obtain ⟨j, hj, x, v, h1, h2, h3⟩ := a.2 d o e
  obtain ⟨c1, o1, g1, g2, g3⟩ := a.1.2 j hj x v h1 h3
  rw [h2] at g1
  cases g1
  rw [e] at g2
  cases g2
  exact ⟨v, g3⟩
theorem unlend_nc {env : Env} {N : List Str} {σ : L2.St} {js : List Nat} {cs : List (Addr × Obj)} {H : Hp} (a : Lv env N σ js cs) {d : Addr} {u : HO} (q : lendH cs H d = some u) (n : ∀ ob v, u = fz ob → ¬ CellV v ob) : H d = some u := by
  cases w : cs.lookup d with
  | none => rwa [lend_out w] at q
  | some o =>
    obtain ⟨v, hv⟩ := lent_like a w
    rw [lend_in w] at q
    exact absurd hv (n o v (Option.some.inj q).symm)
theorem unlend_tb {NM : Nat → Nat → Str} {env : Env} {N : List Str} {σ : L2.St} {js : List Nat} {cs : List (Addr × Obj)} {H : Hp} (a : Lv env N σ js cs) {n : Nat} {T : Addr} (t : Tb NM n (lendH cs H) T) : Tb NM n H T := t.nocell fun _ _ q n => unlend_nc a q n
theorem unlend_code {env : Env} {N : List Str} {σ : L2.St} {js : List Nat} {cs : List (Addr × Obj)} {H : Hp} (a : Lv env N σ js cs) {c T : Addr} {q : Str} (h : CodeAtH (lendH cs H) c q T) : CodeAtH H c q T := by
  obtain ⟨ob, h, ⟨us, eu⟩, k⟩ := h
  refine ⟨ob, unlend_nc a h fun o v z => ?_, ⟨us, eu⟩, k⟩
  cases z
  rintro ⟨u, z, _⟩
  rw [eu] at z
  cases z
/-- the cells lent again, the heap having grown between -/
theorem relend2 {NM : Nat → Nat → Str} {env : Env} {N : List Str} {σ σ' : L2.St} {js js' : List Nat} {cs cs' : List (Addr × Obj)} {H H1 : Hp} (a : Lv env N σ js cs) (b : LentV env N σ' js' cs') (sub : ∀ j ∈ js, j ∈ js') (same : ∀ j ∈ js, σ[j]? = σ'[j]?) (g : Kp NM H H1)
    (out' : ∀ b o, cs'.lookup b = some o → H1 b = none) : Kp NM (lendH cs H) (lendH cs' H1) := by
  have like : ∀ d o, cs.lookup d = some o → ∃ ob v, cs'.lookup d = some ob ∧ CellV v o ∧ CellV v ob := fun d o e => by
    obtain ⟨j, hj, x, v, h1, h2, h3⟩ := a.2 d o e
    obtain ⟨c1, o1, g1, g2, g3⟩ := a.1.2 j hj x v h1 h3
    obtain ⟨c2, o2, k1, k2, k3⟩ := b.2 j (sub j hj) x v h1 (by rw [← same j hj]; exact h3)
    rw [h2] at g1 k1
    cases g1
    cases k1
    rw [e] at g2
    cases g2
    exact ⟨o2, v, k2, g3, k3⟩
  refine ⟨⟨fun d xs q => ?_, fun d ob q => ?_, fun n T t => (g.tb _ _ (unlend_tb a t)).ext fun _ _ e => lend_at out' e, fun d o q n1 n2 n3 => ?_⟩, fun d o q n2 n3 => ?_⟩
  · exact lend_at out' (g.tup _ _ (unlend_nc a q fun _ _ z => by cases z))
  · cases w : cs.lookup d with
    | none =>
      rw [lend_out w] at q
      obtain ⟨ob', h1, h2⟩ := g.frz _ _ q
      exact ⟨ob', lend_at out' h1, h2⟩
    | some o =>
      rw [lend_in w] at q
      cases q
      obtain ⟨ob2, v, h1, h2, h3⟩ := like d ob w
      exact ⟨ob2, lend_in h1, .inr ⟨v, h2, h3⟩⟩
  · exact lend_at out' (g.oth _ _ (unlend_nc a q fun ob _ z => absurd z (n3 ob)) n1 n2 n3)
  · exact lend_at out' (g.all _ _ (unlend_nc a q fun ob _ z => absurd z (n3 ob)) n2 n3)

/-! ### contest: note -/
/-- what is held: the state of the game, the asks so far -/
def SHeld {σ : Type} (K : PySem.W.Frag) (S : Hp → V → σ → Prop) : Nat → Hp → V → σ × List (Str × Str) → Prop := fun n H v h => ∃ p st al, v = .ref p ∧ H p = some (.tup [st, al]) ∧ S H st h.1 ∧ RAsked K H al h.2 ∧ h.2.length + n ≤ 1000
theorem SHeld.stay {σ : Type} {K : PySem.W.Frag} {S : Hp → V → σ → Prop} (hS : StayR NM S) : StayS (SHeld K S) := fun n H H1 v s e ⟨p, st, al, h1, h2, h3, h4, h5⟩ => ⟨p, st, al, h1, e.tup _ _ h2, hS _ _ _ _ e h3, RAsked.stay _ _ _ _ e h4, h5⟩
theorem RGiven.stay {σ : Type} {S : Hp → V → σ → Prop} (hS : StayR NM S) : StayR NM (RGiven S) := fun H H1 v r e ⟨p, x, h1, h2, h3, h4⟩ => ⟨p, x, h1, e.tup _ _ h2, hS _ _ _ _ e h3, h4⟩
abbrev qMeet : Str := ((("contest" : Str) ++ ".<locals>.") ++ "meet") ++ ".<locals>."
section
variable {P : Program} {w : World} {K : PySem.W.Frag} {mg : Str → Option Value} {base : Heap} {σ : Type} {S : Hp → V → σ → Prop} {T0 T2 c c2 f f2 fa : Addr} {cl : List (Str × Addr)} {fd2 : FuncData} {k_answer : Nat} {an : σ → Str → Pr (σ × Str)} {H : Hp}
theorem clo_note (hS : StayR NM S) (B : BlOk base mg) (D2 : Df K mg "after" s_after ["process", "onward"] f2 fd2) (hc2 : fd2.code = .ref c2) (TB2 : LamX.TabB base mg c2 T2) (c_end : Cl P w K mg base CX0 1 "end" spEnd) (hk : k_answer = 10)
    (hF : FnAtH H f (defF n_contest__meet__note "note" qMeet cl c)) (hC : CodeAtH H c (qMeet ++ "note") T0) (hT0 : Tb NM 1 H T0) (hT2 : Tb NM 1 H T2) (C : CapH H (defF n_contest__meet__note "note" qMeet cl c) ["answer"] [.ref fa]) (hA : Clo P w K mg base NM k_answer fa (spGive P w K mg base S 20 an) H) :
    Clo P w K mg base NM 11 f (spAnswer P w K mg base (SHeld K S) False 21 (noteP an)) H := by
  refine clo_by (F := defF n_contest__meet__note "note" qMeet cl c) (js := [1, 2, 4]) (k := 10) (ws := [.ref fa]) rfl fs_contest__meet__note (fun doc pm ct us hu => match us, hu with | [_, _], _ => rfl) (fun vs H2 Q E h => ?_) hF hC C cj_contest__meet__note fun A2 outer2 s2 H3 ws2 Q2 E2 e3 hr O h2 => ?_
  · obtain ⟨st, s, z, n, rfl, _⟩ := h
    rfl
  · obtain ⟨st, s, z, n, rfl, ⟨p, st0, al, rfl, hp, hs, hl, hn⟩, q2⟩ := h2
    have c_after := D2.cl (ok_after (P := P) (w := w) (base := base) (R := RGiven S) (R' := RAns (SHeld K S) False n) (k_then := 20) (k_onward := 2) (L := 21) D2 hc2 TB2 (RGiven.stay hS) (RAns.stay (SHeld.stay hS) n) (by decide) (an s.1 z))
    obtain ⟨pa, xs, rfl, l1, l2, l3⟩ := hl
    refine ⟨_, (pxs_cons (px_of (ps_asg (pv 0) (pg_tup (by rfl) (pgs_cons (pg_name (i := 3) fs_contest__meet__note.nd rfl (.inl rfl)) (pgs_cons (pg_name (i := 4) fs_contest__meet__note.nd rfl (.inr rfl)) pgs_nil))))) (pxs_one (px_ret (pe_clL c_after hr (by omega) (fun _ => O) cj_contest__meet__note (by rfl) (pa_cons (pe_clo (i := 2) (k := k_answer) (NM := NM) hr (by omega) (fun _ => O) cj_contest__meet__note (by rfl) (.inr (.inr (by rfl))) (pa_cons (pv 3) (pa_cons (pv 1) pa_nil))) (pa_cons (pe_lamS (NM := NM) (n := 0) (T := T0) (e := n_contest__meet__note__l0) rfl rfl B nm_contest__meet__note__l0 (by rfl) fr_contest__meet__note__l0) pa_nil)))))), ?_⟩
    have C2 := C.ext e3
    have cA := hA.ext e3
    have fnv := cA.1.take C2
    have t1 := take_some C2 hp (fun ob v z => by cases z)
    refine ⟨_, rfl, p, _, rfl, .inl (.inl t1), by rfl, _, _, rfl, _, _, rfl, rfl, ?_⟩
    refine ⟨fa, rfl, fnv, _, rfl, _, rfl, fnv, fun cs2 LV2 out2 => ?_⟩
    have e4 := lent_kp (NM := NM) (ks := [2]) fs_contest__meet__note C2 (Kp.refl _) out2 LV2.1 (by decide) rfl rfl
    refine ⟨_, cA.ext e4.toExt, st0, s.1, z, rfl, hS _ _ _ _ e4.toExt hs, fun v' H' e5 r5 H5 e6 o5 => ?_⟩
    have e7 := e4.trans e5
    rw [e6] at e7
    have e8 := e3.trans e7.toExt
    refine ⟨unlend_tb LV2 (e8.tb _ _ hT0), .inr ⟨_, unlend_code LV2 (hC.ext e8)⟩, fun f1 c1 T1 H6 gr n0 a1 a2 a3 => fun cs3 LV3 out3 => ?_⟩
    have e9 := relend2 (NM := NM) LV2 LV3.1 (fun _ z => z) (fun _ _ => rfl) gr.kpr out3
    have e10 := e7.trans e9
    have C3 := cap_of (H := H6) (F := lamF n_contest__meet__note__l0 ((qMeet ++ "note") ++ ".<locals>.") _ c1) (ks := [4, 1]) (ws := [.ref pa, .str z]) rfl LV3.1 fr_contest__meet__note__l0 (fr := ["asked", "string"]) (by decide +kernel) (by decide +kernel) (by decide) rfl rfl
    rw [e6] at r5
    refine ⟨v', f1, fun g => .fin ((g.1, s.2 ++ [(z, g.2)]), some g.2), rfl, (e8.trans e9.toExt).tb _ _ hT2, r5.ext (RGiven.stay hS) e9.toExt, ?_, fun v6 H8 e11 r6 H9 e12 o9 cs4 LV4 out4 => ?_⟩
    · refine clo_lam (F := lamF n_contest__meet__note__l0 _ _ c1) (js := [1, 2]) (k := 1) (ws := [.ref pa, .str z]) rfl fs_contest__meet__note__l0 (fun doc pm ct us hu => match us, hu with | [_], _ => rfl) (fun vs H2 Q E h => ?_) (a1.ext (lend_kp (NM := NM) out3).toExt) (a2.ext (lend_kp (NM := NM) out3).toExt) C3 cj_contest__meet__note__l0 fun A3 outer3 s3 H10 ws3 Q3 E3 e13 hr O h3 => ⟨_, (pe_cl c_end hr (by first | decide | omega) (by rfl) (pa_cons (pe_tup (pa_cons (pe_tup (pa_cons (pe_ix (ixT K) (pv 0) pe_int (fun _ _ => rfl)) (pa_cons (pe_tup (StX.pa_star (pv 1) (pa_cons (pe_tup (pa_cons (pv 2) (pa_cons (pe_ix (ixT K) (pv 0) pe_int (fun _ _ => rfl)) pa_nil))) pa_nil))) pa_nil))) (pa_cons (pe_ix (ixT K) (pv 0) pe_int (fun _ _ => rfl)) pa_nil))) pa_nil)), ?_⟩
      · obtain ⟨y, a, rfl, _⟩ := h
        rfl
      · obtain ⟨y, a, rfl, ⟨a2, x2, rfl, g1, g2, g3⟩, q3⟩ := h3
        have C4 := C3.ext e13
        have e14 := e10.toExt.trans e13
        have t2 := take_some C4 g1 (fun ob v z => by cases z)
        have sq := ((l1.ext e14).take C4).sq
        have hn : s.2.length + (n + 1) ≤ 1000 := hn
        have z1 : (2000 : Nat) ≤ sizeLine := by decide
        refine ⟨_, rfl, a2, _, 0, _, rfl, rfl, .inl (.inl t2), rfl, _, rfl, pa, xs, rfl, .inl sq, _, rfl, _, rfl, a2, _, 1, _, rfl, rfl, .inl (.inl t2), rfl, by show 2 ≤ sizeLine; decide, fun p1 np1 => ⟨by rw [List.length_append, l2]; show s.2.length + 1 ≤ _; omega, fun p2 np2 => ⟨by show 2 ≤ sizeLine; decide, fun p3 np3 =>
          ⟨_, rfl, a2, _, 1, _, rfl, rfl, .inl (.inl ((((Kp.new (NM := NM) np1).trans (Kp.new np2)).trans (Kp.new np3)).tup _ _ t2)), rfl, by show 2 ≤ sizeLine; decide, fun p4 np4 => ⟨_, rfl, fun p5 np5 cs4 LV4 out4 => ?_⟩⟩⟩⟩⟩
        have k5 := Kp.new (NM := NM) (o := .tup [.str "end", .ref p4, .non]) np5
        have k4 := (Kp.new (NM := NM) np4).trans k5
        have k3 := (Kp.new (NM := NM) np3).trans k4
        have k2 := (Kp.new (NM := NM) np2).trans k3
        have k1 := (Kp.new (NM := NM) np1).trans k2
        have e15 := lent_kp (NM := NM) (ks := [1, 2]) fs_contest__meet__note__l0 C4 k1 out4 LV4 (by decide) rfl rfl
        have e16 := e14.trans e15.toExt
        refine q3 _ _ e15 ⟨p5, .ref p4, rfl, lend_at out4 upd_same, p4, .ref p3, rfl, lend_at out4 (k5.tup _ _ upd_same), ⟨p3, x2, .ref p2, rfl, lend_at out4 (k4.tup _ _ upd_same), hS _ _ _ _ e15.toExt g2, ⟨p2, xs ++ [.ref p1], rfl, .inl (lend_at out4 (k3.tup _ _ upd_same)), ?_, fun i z' r' hi => ?_⟩, ?_⟩, ⟨fun z => (nomatch z), fun t e => ?_⟩⟩
        · rw [List.length_append, List.length_append, l2]
          rfl
        · by_cases c : i < s.2.length
          · rw [List.getElem?_append_left c] at hi
            obtain ⟨q, w1, w2⟩ := l3 i z' r' hi
            exact ⟨q, by rw [List.getElem?_append_left (by omega)]; exact w1, e16.tup _ _ w2⟩
          · rw [List.getElem?_append_right (by omega)] at hi
            have ci : i - s.2.length = 0 := by
              cases h : i - s.2.length with
              | zero => rfl
              | succ j => rw [h] at hi; cases hi
            rw [ci] at hi
            cases hi
            exact ⟨p1, by rw [List.getElem?_append_right (by omega), l2, ci]; rfl, lend_at out4 (k2.tup _ _ upd_same)⟩
        · show (s.2 ++ [(z, a.2)]).length + n ≤ 1000
          rw [List.length_append]
          show s.2.length + 1 + n ≤ _
          omega
        · cases e
          exact g3
    · have e13 := relend_kp (NM := NM) (H := H9) LV3 LV4 (fun _ z => z) out4
      rw [← e12] at e13
      exact q2 _ _ (e10.trans (e11.trans e13)) (r6.ext (RAns.stay (SHeld.stay hS) n) e13.toExt)
end

end
section
/-! ### contest: finish, meet -/
section
variable {P : Program} {w : World} {K : PySem.W.Frag} {mg : Str → Option Value} {base : Heap} {σ : Type} {S : Hp → V → σ → Prop} {T0 T2 c c2 f f2 fj : Addr} {cl : List (Str × Addr)} {fd2 : FuncData} {k_judge L : Nat} {jd : σ → List (Str × Str) → Str → Pr Int} {H : Hp}
theorem clo_finish (hS : StayR NM S) (B : BlOk base mg) (D2 : Df K mg "after" s_after ["process", "onward"] f2 fd2) (hc2 : fd2.code = .ref c2) (TB2 : LamX.TabB base mg c2 T2) (c_end : Cl P w K mg base CX0 1 "end" spEnd) (hk : k_judge = 10) (hL : 21 ≤ L)
    (hF : FnAtH H f (defF n_contest__meet__finish "finish" qMeet cl c)) (hC : CodeAtH H c (qMeet ++ "finish") T0) (hT0 : Tb NM 1 H T0) (hT2 : Tb NM 1 H T2) (C : CapH H (defF n_contest__meet__finish "finish" qMeet cl c) ["judge"] [.ref fj]) (hJ : Clo P w K mg base NM k_judge fj (spJudge P w K mg base S 20 jd) H) :
    Clo P w K mg base NM 11 f (spFinish P w K mg base RStr (RRes K) (SHeld K S) L (finishP jd)) H := by
  refine clo_by (F := defF n_contest__meet__finish "finish" qMeet cl c) (js := [1, 2, 4]) (k := 10) (ws := [.ref fj]) rfl fs_contest__meet__finish (fun doc pm ct us hu => match us, hu with | [_, _], _ => rfl) (fun vs H2 Q E h => ?_) hF hC C cj_contest__meet__finish fun A2 outer2 s2 H3 ws2 Q2 E2 e3 hr O h2 => ?_
  · obtain ⟨st, s, x, a, n, rfl, _⟩ := h
    rfl
  · obtain ⟨st, s, x, a, n, rfl, ⟨p, st0, al, rfl, hp, hs, hl, hn⟩, ⟨rfl, ha⟩, q2⟩ := h2
    have c_after := D2.cl (ok_after (P := P) (w := w) (base := base) (R := RInt) (R' := RRes K) (k_then := 20) (k_onward := 2) (L := L) D2 hc2 TB2 RInt.stay RRes.stay (by show 21 ≤ L; omega) (jd s.1 s.2 a))
    refine ⟨_, (pxs_cons (px_of (ps_asg (pv 0) (pg_tup (by rfl) (pgs_cons (pg_name (i := 3) fs_contest__meet__finish.nd rfl (.inl rfl)) (pgs_cons (pg_name (i := 4) fs_contest__meet__finish.nd rfl (.inr rfl)) pgs_nil))))) (pxs_one (px_ret (pe_clL c_after hr (by omega) (fun _ => O) cj_contest__meet__finish (by rfl) (pa_cons (pe_clo (i := 2) (k := k_judge) (NM := NM) hr (by omega) (fun _ => O) cj_contest__meet__finish (by rfl) (.inr (.inr (by rfl))) (pa_cons (pv 3) (pa_cons (pv 4) (pa_cons (pv 1) pa_nil)))) (pa_cons (pe_lamS (NM := NM) (n := 0) (T := T0) (e := n_contest__meet__finish__l0) rfl rfl B nm_contest__meet__finish__l0 (by rfl) fr_contest__meet__finish__l0) pa_nil)))))), ?_⟩
    have C2 := C.ext e3
    have cJ := hJ.ext e3
    have fnv := cJ.1.take C2
    have t1 := take_some C2 hp (fun ob v z => by cases z)
    refine ⟨_, rfl, p, _, rfl, .inl (.inl t1), by rfl, _, _, rfl, _, _, rfl, rfl, ?_⟩
    refine ⟨fj, rfl, fnv, _, rfl, _, rfl, _, rfl, fnv, fun cs2 LV2 out2 => ?_⟩
    have e4 := lent_kp (NM := NM) (ks := [2]) fs_contest__meet__finish C2 (Kp.refl _) out2 LV2.1 (by decide) rfl rfl
    refine ⟨_, cJ.ext e4.toExt, st0, s.1, al, s.2, a, rfl, hS _ _ _ _ e4.toExt hs, RAsked.stay _ _ _ _ e4.toExt hl, ha, fun v' H' e5 r5 H5 e6 o5 => ?_⟩
    have e7 := e4.trans e5
    rw [e6] at e7
    have e8 := e3.trans e7.toExt
    refine ⟨unlend_tb LV2 (e8.tb _ _ hT0), .inr ⟨_, unlend_code LV2 (hC.ext e8)⟩, fun f1 c1 T1 H6 gr n0 a1 a2 a3 => fun cs3 LV3 out3 => ?_⟩
    have e9 := relend2 (NM := NM) LV2 LV3.1 (fun _ z => z) (fun _ _ => rfl) gr.kpr out3
    have e10 := e7.trans e9
    have C3 := cap_of (H := H6) (F := lamF n_contest__meet__finish__l0 ((qMeet ++ "finish") ++ ".<locals>.") _ c1) (ks := [1, 4]) (ws := [.str a, al]) rfl LV3.1 fr_contest__meet__finish__l0 (fr := ["said", "asked"]) (by decide +kernel) (by decide +kernel) (by decide) rfl rfl
    rw [e6] at r5
    refine ⟨v', f1, fun o => .fin (o, a, s.2), rfl, (e8.trans e9.toExt).tb _ _ hT2, r5.ext RInt.stay e9.toExt, ?_, fun v6 H8 e11 r6 H9 e12 o9 cs4 LV4 out4 => ?_⟩
    · refine clo_lam (F := lamF n_contest__meet__finish__l0 _ _ c1) (js := [1, 2]) (k := 1) (ws := [.str a, al]) rfl fs_contest__meet__finish__l0 (fun doc pm ct us hu => match us, hu with | [_], _ => rfl) (fun vs H2 Q E h => ?_) (a1.ext (lend_kp (NM := NM) out3).toExt) (a2.ext (lend_kp (NM := NM) out3).toExt) C3 cj_contest__meet__finish__l0 fun A3 outer3 s3 H10 ws3 Q3 E3 e13 hr O h3 => ⟨_, (pe_cl c_end hr (by first | decide | omega) (by rfl) (pa_cons (pe_tup (pa_cons (pv 0) (pa_cons (pv 1) (pa_cons (pv 2) pa_nil)))) pa_nil)), ?_⟩
      · obtain ⟨y, a, rfl, _⟩ := h
        rfl
      · obtain ⟨y, o, rfl, rfl, q3⟩ := h3
        have C4 := C3.ext e13
        have e14 := e10.toExt.trans e13
        refine ⟨_, rfl, _, rfl, _, rfl, by show 3 ≤ sizeLine; decide, fun p1 np1 => ⟨_, rfl, fun p2 np2 cs4 LV4 out4 => ?_⟩⟩
        have k2 := Kp.new (NM := NM) (o := .tup [.str "end", .ref p1, .non]) np2
        have e15 := lent_kp (NM := NM) (ks := [1, 2]) fs_contest__meet__finish__l0 C4 ((Kp.new (NM := NM) np1).trans k2) out4 LV4 (by decide) rfl rfl
        exact q3 _ _ e15 ⟨p2, .ref p1, rfl, lend_at out4 upd_same, p1, al, rfl, lend_at out4 (k2.tup _ _ upd_same), RAsked.stay _ _ _ _ (e14.trans e15.toExt) hl⟩
    · have e13 := relend_kp (NM := NM) (H := H9) LV3 LV4 (fun _ z => z) out4
      rw [← e12] at e13
      exact q2 _ _ (e10.trans (e11.trans e13)) (r6.ext RRes.stay e13.toExt)
end
theorem askB_mono {α : Type} : ∀ {p : Pr α} {n m : Nat}, AskB p n → n ≤ m → AskB p m
  | .fin _, _, _, _, _ => trivial
  | .draw k kf, n, m, h, l => fun i hi => askB_mono (h i hi) l
  | .ask z kf, 0, _, h, _ => h.elim
  | .ask z kf, n + 1, 0, _, l => absurd l (by omega)
  | .ask z kf, n + 1, m + 1, h, l => fun t => askB_mono (h t) (by omega)
theorem askB_run : ∀ {n : Nat} {b : Br} {seen : Str}, okB n b → AskB (runP b seen) n
  | 0, _, _, h => h.elim
  | n + 1, .say ps, seen, h => by
    rw [runP]
    trivial
  | n + 1, .look i a b, seen, h => by
    rw [runP]
    split
    · exact askB_mono (askB_run h.2.1) (Nat.le_succ n)
    · exact askB_mono (askB_run h.2.2) (Nat.le_succ n)
  | n + 1, .toss bs, seen, h => by
    rw [runP]
    intro i hi
    show AskB ((runsP bs seen).getD i (.fin "")) (n + 1)
    rw [runsP_map, List.getD_eq_getElem?_getD, List.getElem?_map, List.getElem?_eq_getElem hi]
    exact askB_mono (askB_run (h.2 _ (List.getElem_mem hi))) (Nat.le_succ n)
  | n + 1, .ask ps a, seen, h => by
    rw [runP]
    intro t
    exact askB_run h.2
abbrev qContest : Str := ("contest" : Str) ++ ".<locals>."
section
variable {P : Program} {w : World} {K : PySem.W.Frag} {mg : Str → Option Value} {base : Heap} {σ : Type} {S : Hp → V → σ → Prop} {T0 T1 T2 T3 c c2 f f2 : Addr} {cl : List (Str × Addr)} {fd2 : FuncData} {L n : Nat} {br : Br} {bv : V} {H : Hp}
theorem clo_meet (hS : StayR NM S) (B : BlOk base mg) (D2 : Df K mg "after" s_after ["process", "onward"] f2 fd2) (hc2 : fd2.code = .ref c2) (TB2 : LamX.TabB base mg c2 T2) (c_end : Cl P w K mg base CX0 1 "end" spEnd) (hL : 21 ≤ L)
    (c_run : Cl P w K mg base CX0 4 "run" (spRun P w K mg base T3 4 n)) (c_serve : Cl P w K mg base CX0 12 "serve" (fun vs H Q E => ∃ p : Pr Str, spServe P w K mg base RStr (RRes K) (SHeld K S) False T1 T2 "" 4 11 11 21 L p vs H Q E))
    (hF : FnAtH H f (defF n_contest__meet "meet" qContest cl c)) (hC : CodeAtH H c (qContest ++ "meet") T0) (hT0 : Tb NM 2 H T0) (hT1 : Tb NM 1 H T1) (hT2 : Tb NM 1 H T2) (hT3 : Tb NM 1 H T3) (C : CapH H (defF n_contest__meet "meet" qContest cl c) ["breaker"] [bv])
    (hb : BrV K H br bv) (h1 : okB n br) (h2 : okW 1000 n br) (hn : n ≤ 90) : Clo P w K mg base NM 13 f (spMeet P w K mg base S L br) H := by
  refine clo_by (F := defF n_contest__meet "meet" qContest cl c) (js := [2, 3, 4]) (k := 12) (ws := [bv]) rfl fs_contest__meet (fun doc pm ct us hu => match us, hu with | [_, _, _, _], _ => rfl) (fun vs H2 Q E h => ?_) hF hC C cj_contest__meet fun A2 outer2 s2 H3 ws2 Q2 E2 e3 hr O h3 => ⟨_, (pxs_cons (px_of (ps_defS (NM := NM) (n := 1) (T := T0) (i := 5) (st := n_contest__meet__note) rfl rfl B nm_contest__meet__note fr_contest__meet__note (by rfl) (by rfl) (by rfl) fs_contest__meet.nd rfl (.inl rfl) (by first | exact .inl rfl | exact .inr (by rfl) | exact .inl (by decide +kernel)))) (pxs_cons (px_of (ps_defS (NM := NM) (n := 1) (T := T0) (i := 6) (st := n_contest__meet__finish) rfl rfl B nm_contest__meet__finish fr_contest__meet__finish (by rfl) (by rfl) (by rfl) fs_contest__meet.nd rfl (.inl rfl) (by first | exact .inl rfl | exact .inr (by rfl) | exact .inl (by decide +kernel)))) (pxs_one (px_ret (pe_clL c_serve hr (by omega) (fun _ => O) cj_contest__meet (by rfl) (pa_cons (pe_clL c_run hr (by omega) (fun _ => O) cj_contest__meet (by rfl) (pa_cons (pv 4) (pa_cons (pv 0) pa_nil))) (pa_cons (pe_tup (pa_cons (pv 1) (pa_cons (pe_tup pa_nil) pa_nil))) (pa_cons (pv 5) (pa_cons (pv 6) pa_nil))))))))), ?_⟩
  · obtain ⟨ch, st, s, fa, fj, an, jd, rfl, _⟩ := h
    rfl
  · obtain ⟨ch, st, s, fa, fj, an, jd, rfl, hs, hl, hA, hJ, q2⟩ := h3
    have C2 := C.ext e3
    refine ⟨Tb.take C2 (e3.tb _ _ hT0), .inr ⟨_, CodeAtH.take C2 (hC.ext e3)⟩, fun f1 c1 Tn H5 gr1 n1 a1 a2 a3 => ?_⟩
    refine ⟨gr1.tb _ _ (Tb.take C2 (e3.tb _ _ hT0)), .inr ⟨_, (CodeAtH.take C2 (hC.ext e3)).ext gr1.ext⟩, fun g1 d1 Tf H6 gr2 n2 b1 b2 b3 => ?_⟩
    refine ⟨_, rfl, _, rfl, fun cs2 LV2 out2 => ?_⟩
    have e4 := lent_kp (NM := NM) (ks := [4]) fs_contest__meet C2 (gr1.kpr.trans gr2.kpr) out2 LV2.1 (by decide) rfl rfl
    have e34 := e3.trans e4.toExt
    refine ⟨br, bv, ch, rfl, h1, h2, hb.ext e34, e34.tb _ _ hT3, by omega, fun v' H' e5 r5 H7 e6 o5 => ?_⟩
    refine ⟨_, rfl, by show 0 ≤ sizeLine; decide, fun p1 np1 => ⟨by show 2 ≤ sizeLine; decide, fun p2 np2 => ⟨_, rfl, _, rfl, fun cs3 LV3 out3 => ?_⟩⟩⟩
    have e7 := relend2 (NM := NM) LV2 LV3.1 (fun _ z => z) (fun _ _ => rfl) ((Kp.new np1).trans (Kp.new np2)) out3
    rw [e6] at e5 r5
    have k1 := (lend_kp (NM := NM) out2).trans (e5.trans e7)
    have k2 := gr2.ext.trans k1.toExt
    have e8 := e4.trans (e5.trans e7)
    have e9 := e3.trans e8.toExt
    have Cn := cap_of (H := upd (upd H7 p1 (.tup [])) p2 (.tup [st, .ref p1])) (F := defF n_contest__meet__note "note" qMeet _ c1) (ks := [2]) (ws := [.ref fa]) rfl LV3.1 fr_contest__meet__note (fr := ["answer"]) (by decide +kernel) (by decide +kernel) (by decide) rfl rfl
    have Cf := cap_of (H := upd (upd H7 p1 (.tup [])) p2 (.tup [st, .ref p1])) (F := defF n_contest__meet__finish "finish" qMeet _ d1) (ks := [3]) (ws := [.ref fj]) rfl LV3.1 fr_contest__meet__finish (fr := ["judge"]) (by decide +kernel) (by decide +kernel) (by decide) rfl rfl
    refine ⟨runP br ch, v', .ref p2, f1, g1, (s, []), n, noteP an, finishP jd, rfl, e9.tb _ _ hT1, e9.tb _ _ hT2, r5.ext RStr.stay e7.toExt, askB_run h1, ⟨p2, st, .ref p1, rfl, lend_at out3 upd_same, hS _ _ _ _ e8.toExt hs, ⟨p1, [], rfl, .inl (lend_at out3 ((Kp.new (NM := NM) np2).tup _ _ upd_same)), rfl, fun i z r h => by simp at h⟩, by show 0 + n ≤ 1000; omega⟩, ?_, ?_, fun v6 H9 e11 r6 H10 e12 o9 cs4 LV4 out4 => ?_⟩
    · exact clo_note hS B D2 hc2 TB2 c_end rfl (a1.ext k2) (a2.ext k2) (k2.tb _ _ a3) (e9.tb _ _ hT2) Cn (hA.ext e8.toExt)
    · exact clo_finish hS B D2 hc2 TB2 c_end rfl hL (b1.ext k1.toExt) (b2.ext k1.toExt) (k1.tb _ _ b3) (e9.tb _ _ hT2) Cf (hJ.ext e8.toExt)
    · have e13 := relend_kp (NM := NM) (H := H10) LV3 LV4 (fun _ z => z) out4
      rw [← e12] at e13
      exact q2 _ _ (e8.trans (e11.trans e13)) (r6.ext RRes.stay e13.toExt)
theorem cutV_tail {x : V} {xs : List V} : cutV (x :: xs) (some 1) none = xs := by
  unfold cutV
  have e := ix_nat (x :: xs).length 0 1
  have e : HT.sIx (x :: xs).length 0 (some (1 : Int)) = min 1 (x :: xs).length := e
  rw [e, HT.sIx_none, List.length_cons, Nat.min_eq_left (by omega), List.take_of_length_le (by rw [List.length_drop, List.length_cons]; omega)]
  rfl
def spContest (P : Program) (w : World) (K : PySem.W.Frag) (mg : Str → Option Value) (base : Heap) {σ : Type} (S : Hp → V → σ → Prop) (T0 T1 T2 T3 : Addr) (L n : Nat) (z : Str) (spLead : Sp) : Sp := fun vs H Q _ => ∃ (g : Addr) (bv : V) (br : Br) (xs : List V) (PP : Pr Res), vs = [.ref g, bv] ∧ SqX K H g (.str z :: xs) ∧ xs.length ≤ 10 ∧
  BrV K H br bv ∧ okB n br ∧ okW 1000 n br ∧ Tb NM 3 H T0 ∧ Tb NM 1 H T1 ∧ Tb NM 1 H T2 ∧ Tb NM 1 H T3 ∧
  (∀ H1 pt meet Q1, Kp NM H H1 → SqT K H1 pt xs → Clo P w K mg base NM 13 meet (spMeet P w K mg base S L br) H1 → (∀ v' H', Kp NM H1 H' → RepPr P w K mg base NM (RRes K) L PP H' v' → Q1 v' H') → spLead [.ref pt, .ref meet] H1 Q1 E0) ∧
  ∀ v' H', Kp NM H H' → RepPr P w K mg base NM (RRes K) L PP H' v' → Q v' H'
theorem ok_contest {cs : Cs} {fd fdl : FuncData} {a_lead : Addr} {x z : Str} {stl : Stmt} {psl : List Str} {spLead : Sp} {k_lead : Nat} (D : Df K mg "contest" s_contest ["game", "breaker"] f fd) (hc : fd.code = .ref c) (TB : LamX.TabB base mg c T0) (T : Txt K w mg cs) (hS : StayR NM S)
    (D2 : Df K mg "after" s_after ["process", "onward"] f2 fd2) (hc2 : fd2.code = .ref c2) (TB2 : LamX.TabB base mg c2 T2) (c_end : Cl P w K mg base CX0 1 "end" spEnd) (hL : 21 ≤ L) (hn : n ≤ 90)
    (c_run : Cl P w K mg base CX0 4 "run" (spRun P w K mg base T3 4 n)) (c_serve : Cl P w K mg base CX0 12 "serve" (fun vs H Q E => ∃ p : Pr Str, spServe P w K mg base RStr (RRes K) (SHeld K S) False T1 T2 "" 4 11 11 21 L p vs H Q E))
    (Dl : Df K mg x stl psl a_lead fdl) (hl : FnOk P w K mg base CX0 k_lead a_lead fdl psl spLead) (hx : z ++ "_game" = x) (hz : z ∈ gameK) : FnOk P w K mg base CX0 (k_lead + 1) f fd ["game", "breaker"] (spContest P w K mg base S T0 T1 T2 T3 L n z spLead) := by
  have B := BlOk.of TB.bm
  refine okE (js := [1]) D.fn hc sc_contest (fun vs H Q E h => ?_) cj_contest fun A outer s H vs Q E hr h => ⟨_, (pxs_cons (px_of (ps_set (i := 2) sc_contest.nd rfl (.inl rfl) (pe_ix (ix_dk T.dk_RULES) (pe_glob (v := .ref cs.RULES) (by rfl) T.gl_RULES rfl) (pe_ix (ixT K) (pv 0) pe_int (fun _ _ => rfl)) (fun _ _ => rfl)))) (pxs_cons (px_of (ps_defS (NM := NM) (n := 2) (T := T0) (i := 3) (st := n_contest__meet) rfl rfl B nm_contest__meet fr_contest__meet (by rfl) (by rfl) (by rfl) sc_contest.nd rfl (.inl rfl) (by first | exact .inl rfl | exact .inr (by rfl) | exact .inl (by decide +kernel)))) (pxs_one (px_ret (pe_clo (i := 2) (k := k_lead) (NM := NM) hr (by omega) Off.top (fun j hj x e => .inl (cj_contest j hj x e)) (by rfl) (.inl (by rfl)) (pa_cons (pe_slice (slTA K) (pv 0) (po_some pe_int) po_none) (pa_cons (pv 3) pa_nil))))))), ?_⟩
  · obtain ⟨g, bv, br, xs, PP, rfl, _⟩ := h
    rfl
  · obtain ⟨g, bv, br, xs, PP, rfl, hg, hxl, hb, h1, h2, hT0, hT1, hT2, hT3, hlead, q⟩ := h
    refine ⟨_, rfl, g, _, 0, _, rfl, rfl, hg.sq, atI_zero, z, rfl, rfl, hz, fun v u rv hR => ?_⟩
    obtain ⟨f', rfl, hm⟩ := hR
    rw [hx, Dl.gl] at hm
    obtain rfl : a_lead = f' := Value.ref.inj (Option.some.inj hm)
    obtain rfl : v = .ref a_lead := relV_one rv rfl
    refine ⟨hT0, .inl TB.code, fun f1 c1 Tm H1 gr n0 a1 a2 a3 => ?_⟩
    have cl := clo_def (P := P) (w := w) (base := base) (NM := NM) (H := H1) Dl hl
    refine ⟨_, rfl, cl.1, _, rfl, 1, rfl, ?_⟩
    simp only [tNoPart]
    refine slA_any (lo := some 1) (hi := none) (hg.ext gr.ext).sq fun p2 H2 sm hp => ?_
    refine ⟨_, rfl, (clo_def (P := P) (w := w) (base := base) (NM := NM) (H := H2) Dl hl).1, fun cs2 LV2 out2 => ⟨_, clo_def Dl hl, ?_⟩⟩
    rw [cutV_tail] at hp
    have k1 : Kp NM H1 (lendH cs2 H2) := (same_kp sm).trans (lend_kp out2)
    have e1 := gr.kpr.trans k1
    have sq2 : SqT K (lendH cs2 H2) p2 xs := by
      rcases hp with (hp | ⟨o, hp⟩) | hp
      · exact .inl (.inl (lend_at out2 hp))
      · exact .inl (.inr ⟨o, lend_at out2 hp⟩)
      · exact .inr hp
    have C := cap_of (H := H2) (F := defF n_contest__meet "meet" qContest _ c1) (ks := [1]) (ws := [bv]) rfl LV2.1 fr_contest__meet (fr := ["breaker"]) (by decide +kernel) (by decide +kernel) (by decide) rfl rfl
    refine hlead _ p2 f1 _ e1 sq2 ?_ fun v' H' e5 r5 H5 e6 o5 cs3 LV3 out3 => ?_
    · exact clo_meet hS B D2 hc2 TB2 c_end hL c_run c_serve (a1.ext k1.toExt) (a2.ext k1.toExt) (k1.tb _ _ a3) (e1.tb _ _ hT1) (e1.tb _ _ hT2) (e1.tb _ _ hT3) C (hb.ext e1.toExt) h1 h2 hn
    · have e7 := relend_kp (NM := NM) (H := H5) LV2 LV3 (fun _ z => z) out3
      rw [← e6] at e7
      exact q _ _ (e1.trans (e5.trans e7)) (r5.ext RRes.stay e7.toExt)
end

end
section
/-! ### fits, check_game -/
def fitD (told : Str) (d : PyData) (m : Int) : Bool := if told ∈ boundK then whole d (boundOf told).1 (boundOf told).2 else if told = "generator" then genOk d else if told = "function" then funOk d else if told = "real" then isBool d else rowsOk (.tuple [d]) 1 m
def toldK : List Str := ["1 to 8", "1 to 4", "bit", "generator", "function", "real", "string"]
/-- the length that a string of a game must have -/
def lenOf : PyData → Int
  | .tuple (_ :: .tuple (_ :: _ :: .int m :: _) :: _) => m
  | _ => 0
def hasLen : PyData → Prop
  | .tuple (_ :: .tuple (_ :: _ :: .int m :: _) :: _) => m ≤ 40
  | _ => False
def spFits (K : PySem.W.Frag) : Sp := fun vs H Q _ => ∃ (v gv : V) (d D : PyData) (told : Str) (n : Nat), vs = [v, .str told, gv] ∧ Dp K H v d ∧ Gd n d ∧ n ≤ 62 ∧ Dp K H gv D ∧ told ∈ toldK ∧ (told = "string" → hasLen D) ∧ ∀ H', Same H H' → Q (.bl (fitD told d (lenOf D))) H'
def gameFit (D : PyData) : Prop := ∃ z ds, D = .tuple (.str z :: ds) ∧ z ∈ gameK ∧ ds.length = (partsOf z).length ∧ (("string" : Str) ∈ partsOf z → hasLen D) ∧ ∀ (i : Nat) (told : Str) (d : PyData), (partsOf z)[i]? = some told → ds[i]? = some d → fitD told d (lenOf D) = true
def spCheckGame (K : PySem.W.Frag) : Sp := fun vs H Q _ => ∃ (v : V) (D : PyData) (n : Nat), vs = [v] ∧ Dp K H v D ∧ Gd n D ∧ n ≤ 62 ∧ gameFit D ∧ ∀ H', Same H H' → Q .non H'

section
variable {P : Program} {w : World} {K : PySem.W.Frag} {mg : Str → Option Value} {base : Heap} {cs : Cs}
theorem ok_fun {f : Addr} {fd : FuncData} (D : Df K mg "is_function" s_is_function ["value"] f fd) (T : Txt K w mg cs) (c_is_whole : Cl P w K mg base CX0 1 "is_whole" (spWhole K)) (c_are_rows : Cl P w K mg base CX0 1 "are_rows" (spRows K)) : FnOk P w K mg base CX0 2 f fd ["value"] (spFun K) := by
  refine D.fn.ok sc_is_function (fun vs H Q E h => ?_) (fun cdv A outer s H vs Q E hr h => ?_)
  · obtain ⟨v, d, n, rfl, _⟩ := h
    rfl
  · obtain ⟨v, d, n, rfl, hd, hg, hn64, q⟩ := h
    refine ⟨_, (pss_cons (ps_if (PW.pt (pw_or (pt_not (pt_val (pe_callB (isiK K) (by rfl) T.n_isinstance (by decide +kernel) (pa_cons (pv 0) (pa_cons (pe_ty "tuple" (by rfl) T.n_tuple (by decide +kernel)) pa_nil))))) (pw_or1 (pt_cmpR op_ne (pe_callB (lenS K) (by rfl) T.n_len (by decide +kernel) (pa_cons (pv 0) pa_nil)) pe_int (nomark _))))) (pss_one (ps_ret pe_bl)) pss_nil) (pss_cons (ps_asg (pv 0) (pg_tup (by rfl) (pgs_cons (pg_name (i := 1) sc_is_function.nd rfl (.inl rfl)) (pgs_cons (pg_name (i := 2) sc_is_function.nd rfl (.inl rfl)) (pgs_cons (pg_name (i := 3) sc_is_function.nd rfl (.inr rfl)) (pgs_cons (pg_name (i := 4) sc_is_function.nd rfl (.inr rfl)) (pgs_cons (pg_name (i := 5) sc_is_function.nd rfl (.inl rfl)) pgs_nil))))))) (pss_cons (ps_if (PW.pt (pw_or (pt_cmpR (op_neD hr.units) (pv 1) pe_str (nomark _)) (pw_or (pt_not (pt_val (pe_cl c_is_whole hr (by first | decide | omega) (by rfl) (pa_cons (pv 2) (pa_cons pe_int (pa_cons pe_int pa_nil)))))) (pw_or (pt_not (pt_val (pe_cl c_is_whole hr (by first | decide | omega) (by rfl) (pa_cons (pv 3) (pa_cons pe_int (pa_cons pe_int pa_nil)))))) (pw_or1 (pt_cmpR op_gt (pe_op op_add (pv 2) (pv 3)) pe_int (nomark _))))))) (pss_one (ps_ret pe_bl)) pss_nil) (pss_cons (ps_if (PW.pt (pw_or (pt_not (pt_val (pe_cl c_is_whole hr (by first | decide | omega) (by rfl) (pa_cons (pv 4) (pa_cons pe_int (pa_cons (C8.pe_gc (by rfl) T.g_MOST_BITS) pa_nil)))))) (pw_or (pt_not (pt_val (pe_callB (isiK K) (by rfl) T.n_isinstance (by decide +kernel) (pa_cons (pv 5) (pa_cons (pe_ty "tuple" (by rfl) T.n_tuple (by decide +kernel)) pa_nil))))) (pw_or1 (pt_cmpR op_ne (pe_callB (lenS K) (by rfl) T.n_len (by decide +kernel) (pa_cons (pv 5) pa_nil)) (pe_op op_shl pe_int (pv 2)) (nomark _)))))) (pss_one (ps_ret pe_bl)) pss_nil) (pss_one (ps_ret (pe_callB (crAll K rfl) (by rfl) T.n_all (by decide +kernel) (pa_cons (pe_lc (own := [("rows", 6)]) (g := gName 6) (tt := tYes) rfl sc_is_function.nd (pi_tup (pv 5)) (blkOk_by (own := [("rows", 6)]) (N := ["value", "kind", "n", "l", "m", "tables", "rows"]) (sc := defScope s_is_function) (by decide +kernel)) (fun _ _ _ _ _ => (pg_name (i := 6) sc_is_function.nd rfl (.inl rfl))) (fun _ _ _ _ _ => pts_nil) (fun _ _ _ _ _ => (pe_cl c_are_rows hr (by first | decide | omega) (by rfl) (pa_cons (pv 6) (pa_cons (pe_op op_shl pe_int (pv 3)) (pa_cons (pv 4) pa_nil)))))) pa_nil)))))))), ?_⟩
    refine ⟨_, rfl, _, _, _, _, _, rfl, .ty "tuple", dp_ty hd, kit_tup d, _, rfl, ?_⟩
    cases d with
    | tuple xs =>
      cases hd with
      | @tup a ws _ hT hA =>
        obtain ⟨hl, n', rfl, hx⟩ := gd_tup hg
        have hwl := dp_all_len hA
        refine ⟨_, rfl, a, ws, rfl, .inr hT, rfl, _, rfl, ?_⟩
        by_cases c : ws.length = 5
        · obtain ⟨v0, v1, v2, v3, v4, k, n, l, m, t, rfl, rfl, h0, h1, h2, h3, h4⟩ := dp5 hA c
          rw [decide_eq_true (show V.int (([v0, v1, v2, v3, v4].length : Nat) : Int) = V.int 5 from rfl)]
          refine ⟨_, rfl, a, _, rfl, hT, rfl, _, _, rfl, _, _, rfl, _, _, rfl, _, _, rfl, _, _, rfl, rfl, ?_⟩
          have g0 := hx k List.mem_cons_self
          have g4 := hx t (List.mem_cons_of_mem _ (List.mem_cons_of_mem _ (List.mem_cons_of_mem _ (List.mem_cons_of_mem _ List.mem_cons_self))))
          clear hx hA hT hwl hl c
          rw [fun_eq] at q
          -- kind != 'function'
          refine ⟨_, rfl, k, .str "function", h0, .str _, gd_shaped g0 (by omega), by decide +kernel, _, rfl, ?_⟩
          rw [name_ne]
          cases ck : named "function" k with
          | false =>
            rw [ck] at q
            exact q H (Same.refl H)
          | true =>
            rw [ck] at q
            refine ⟨_, rfl, v1, n, 1, 8, rfl, h1, _, rfl, ?_⟩
            cases cn : whole n 1 8 with
            | false =>
              rw [cn] at q
              exact q H (Same.refl H)
            | true =>
              rw [cn] at q
              refine ⟨_, rfl, v2, l, 1, 8, rfl, h2, _, rfl, ?_⟩
              cases cl : whole l 1 8 with
              | false =>
                rw [cl] at q
                exact q H (Same.refl H)
              | true =>
                rw [cl] at q
                obtain ⟨n, rfl, n1, n2⟩ := whole_int cn
                obtain ⟨l, rfl, l1, l2⟩ := whole_int cl
                cases h1
                cases h2
                refine ⟨_, rfl, _, rfl, _, _, rfl, rfl, _, _, rfl, rfl, _, rfl, ?_⟩
                by_cases cs : n + l ≤ 12
                · rw [decide_eq_false (show ¬ (12 : Int) < n + l by omega)]
                  have e : sumLe (.int n) (.int l) = true := decide_eq_true cs
                  rw [e] at q
                  refine ⟨_, rfl, v3, m, 1, 40, rfl, h3, _, rfl, ?_⟩
                  cases cm : whole m 1 40 with
                  | false =>
                    rw [cm] at q
                    exact q H (Same.refl H)
                  | true =>
                    rw [cm] at q
                    obtain ⟨m, rfl, m1, m2⟩ := whole_int cm
                    cases h3
                    -- isinstance(tables, tuple), len(tables)
                    refine ⟨_, rfl, _, _, _, _, _, rfl, .ty "tuple", dp_ty h4, kit_tup t, _, rfl, ?_⟩
                    cases t with
                    | tuple ts =>
                      cases h4 with
                      | @tup b us _ hT hA =>
                        obtain ⟨hl, n'', rfl, hx⟩ := gd_tup g4
                        have hwl := dp_all_len hA
                        have q2 : ∀ H' : Hp, Same H H' → Q (.bl (decide ((ts.length : Int) = 1 * 2 ^ n.toNat) && ts.all (fun r => rowsOk r (1 * 2 ^ l.toNat) m))) H' := fun H' s' => q H' s'
                        clear q
                        refine ⟨_, rfl, b, us, rfl, .inr hT, _, rfl, _, _, rfl, rfl, ⟨by omega, by omega, by decide⟩, rfl, _, rfl, ?_⟩
                        by_cases c : ((us.length : Nat) : Int) = 1 * 2 ^ n.toNat
                        · rw [decide_eq_true (show V.int ((us.length : Nat) : Int) = V.int (1 * 2 ^ n.toNat) from congrArg V.int c)]
                          refine ⟨_, rfl, b, rfl, ⟨_, hT⟩, fun Dl hD => ?_⟩
                          refine lc_tup (xs := us) (fun i H' => Same H H' ∧ H' Dl = some (.lst ((ts.take i).map fun r => V.bl (rowsOk r (1 * 2 ^ l.toNat) m)))) ?_ ?_ ?_ ?_
                          · exact ⟨same_new hD, upd_same⟩
                          · rintro i H' _ ⟨s1, _⟩
                            exact same_sqt s1 hT
                          · rintro i x H' hxi ⟨s1, e1⟩
                            obtain ⟨d, hdi, hdx⟩ := dp_all_get hA hxi
                            have hi : i < ts.length := (List.getElem?_eq_some_iff.mp hdi).1
                            refine ⟨rfl, ?_⟩
                            refine ⟨_, rfl, _, rfl, _, _, rfl, rfl, ⟨by omega, by omega, by decide⟩, _, rfl, x, d, _, _, _, rfl, dp_same s1 d hdx, hx d (List.mem_of_getElem? hdi), ?_, m2, fun H2 s2 => ?_⟩
                            · exact Int.le_trans (pow_le (b := 8) l1 l2) (by decide)
                            · refine ⟨_, s2 _ _ e1, ?_, fun p o e => ?_, ?_⟩
                              · rw [List.length_map, List.length_take]
                                exact Nat.lt_of_lt_of_le (show min i ts.length < 10000 by omega) (by decide)
                              · rw [upd_ne (ne_of_none e hD)]
                                exact s2 _ _ (s1 p o e)
                              · rw [upd_same, List.take_add_one, hdi, List.map_append]
                                rfl
                          · rintro H' ⟨s1, e1⟩
                            have et : (ts.take us.length).map (fun r => V.bl (rowsOk r (1 * 2 ^ l.toNat) m)) = ((ts.map (fun r => rowsOk r (1 * 2 ^ l.toNat) m)).map V.bl) := by
                              rw [List.take_of_length_le (by omega), List.map_map]
                              rfl
                            rw [et] at e1
                            refine ⟨Dl, _, rfl, .inl (.inl e1), ?_⟩
                            have ea : (ts.map (fun r => rowsOk r (1 * 2 ^ l.toNat) m)).all id = ts.all (fun r => rowsOk r (1 * 2 ^ l.toNat) m) := by
                              rw [List.all_map]
                              rfl
                            rw [ea]
                            have q3 := q2 H' s1
                            rw [decide_eq_true (by rw [← hwl]; exact c), Bool.true_and] at q3
                            exact q3
                        · rw [decide_eq_false (show ¬ V.int ((us.length : Nat) : Int) = V.int (1 * 2 ^ n.toNat) from fun z => c (V.int.inj z))]
                          have q3 := q2 H (Same.refl H)
                          rw [decide_eq_false (by rw [← hwl]; exact c), Bool.false_and] at q3
                          exact q3
                    | bool b => exact q H (Same.refl H)
                    | none => exact q H (Same.refl H)
                    | int x => exact q H (Same.refl H)
                    | str x => exact q H (Same.refl H)
                    | list xs => exact q H (Same.refl H)
                    | dict xs => exact q H (Same.refl H)
                · rw [decide_eq_true (show (12 : Int) < n + l by omega)]
                  have e : sumLe (.int n) (.int l) = false := decide_eq_false cs
                  rw [e] at q
                  exact q H (Same.refl H)
        · have hne : ((ws.length : Nat) : Int) ≠ 5 := by omega
          rw [decide_eq_false (show ¬ V.int (ws.length : Int) = V.int 5 from fun z => hne (V.int.inj z))]
          have e := fun_no (xs := xs) (by omega)
          have q' := q H (Same.refl H)
          rw [e] at q'
          exact q'
    | bool b => exact q H (Same.refl H)
    | none => exact q H (Same.refl H)
    | int x => exact q H (Same.refl H)
    | str x => exact q H (Same.refl H)
    | list xs => exact q H (Same.refl H)
    | dict xs => exact q H (Same.refl H)

theorem len_get {H : Hp} {v : V} {D : PyData} (h : Dp K H v D) (hh : hasLen D) : ∃ g b vs ws m, v = .ref g ∧ SqT K H g vs ∧ atI vs 1 = some (.ref b) ∧ SqT K H b ws ∧ atI ws 2 = some (.int m) ∧ lenOf D = m ∧ m ≤ 40 := by
  unfold hasLen at hh
  split at hh
  · rename_i z k x m r r'
    cases h with
    | tup hs ha =>
      obtain ⟨v0, vs, rfl, _, ha⟩ := dp_cons ha
      obtain ⟨v1, vs, rfl, h1, ha⟩ := dp_cons ha
      cases h1 with
      | tup hb hc =>
        obtain ⟨u0, us, rfl, _, hc⟩ := dp_cons hc
        obtain ⟨u1, us, rfl, _, hc⟩ := dp_cons hc
        obtain ⟨u2, us, rfl, h2, hc⟩ := dp_cons hc
        cases h2
        refine ⟨_, _, _, _, m, rfl, hs, ?_, hb, ?_, rfl, hh⟩
        · exact atI_nat (j := 1) rfl
        · exact atI_nat (j := 2) rfl
  · exact hh.elim
theorem ok_fits {f : Addr} {fd : FuncData} (D : Df K mg "fits" s_fits ["value", "told", "game"] f fd) (T : Txt K w mg cs) (c_is_whole : Cl P w K mg base CX0 1 "is_whole" (spWhole K)) (c_are_rows : Cl P w K mg base CX0 1 "are_rows" (spRows K)) (c_is_generator : Cl P w K mg base CX0 2 "is_generator" (spGen K)) (c_is_function : Cl P w K mg base CX0 2 "is_function" (spFun K)) :
    FnOk P w K mg base CX0 3 f fd ["value", "told", "game"] (spFits K) := by
  refine D.fn.ok sc_fits (fun vs H Q E h => ?_) fun cdv A outer s H vs Q E hr h => ⟨_, (pss_cons (ps_if (pt_cmpR (in_dk T.dk_BOUNDS) (pv 1) (pe_glob (v := .ref cs.BOUNDS) (by rfl) T.gl_BOUNDS rfl) (by rfl)) (pss_cons (ps_asg (pe_ix (ix_dk T.dk_BOUNDS) (pe_glob (v := .ref cs.BOUNDS) (by rfl) T.gl_BOUNDS rfl) (pv 1) (fun _ _ => rfl)) (pg_tup (by rfl) (pgs_cons (pg_name (i := 3) sc_fits.nd rfl (.inl rfl)) (pgs_cons (pg_name (i := 4) sc_fits.nd rfl (.inl rfl)) pgs_nil)))) (pss_one (ps_ret (pe_cl c_is_whole hr (by first | decide | omega) (by rfl) (pa_cons (pv 0) (pa_cons (pv 3) (pa_cons (pv 4) pa_nil))))))) pss_nil) (pss_cons (ps_if (pt_cmpR op_eq (pv 1) pe_str (nomark _)) (pss_one (ps_ret (pe_cl c_is_generator hr (by first | decide | omega) (by rfl) (pa_cons (pv 0) pa_nil)))) pss_nil) (pss_cons (ps_if (pt_cmpR op_eq (pv 1) pe_str (nomark _)) (pss_one (ps_ret (pe_cl c_is_function hr (by first | decide | omega) (by rfl) (pa_cons (pv 0) pa_nil)))) pss_nil) (pss_cons (ps_if (pt_cmpR op_eq (pv 1) pe_str (nomark _)) (pss_one (ps_ret (pe_callB (isiK K) (by rfl) T.n_isinstance (by decide +kernel) (pa_cons (pv 0) (pa_cons (pe_ty "bool" (by rfl) T.n_bool (by decide +kernel)) pa_nil))))) pss_nil) (pss_one (ps_ret (pe_cl c_are_rows hr (by first | decide | omega) (by rfl) (pa_cons (pe_tup (pa_cons (pv 0) pa_nil)) (pa_cons pe_int (pa_cons (pe_ix (ixT K) (pe_ix (ixT K) (pv 2) pe_int (fun _ _ => rfl)) pe_int (fun _ _ => rfl)) pa_nil)))))))))), ?_⟩
  · obtain ⟨v, gv, d, D, told, n, rfl, _⟩ := h
    rfl
  · obtain ⟨v, gv, d, D, told, n, rfl, hd, hg, hn, hD, ht, hs, q⟩ := h
    by_cases c1 : told ∈ boundK
    · refine ⟨_, rfl, told, rfl, rfl, true, by rw [decide_eq_true c1], ?_⟩
      show (if true = true then _ else _)
      rw [if_pos rfl]
      refine ⟨_, rfl, told, rfl, rfl, c1, fun v' u rv hR => ?_⟩
      obtain ⟨a, rfl, ha⟩ := hR
      obtain rfl : v' = .ref a := relV_one rv rfl
      refine ⟨a, _, rfl, ha _, by rfl, _, _, rfl, _, _, rfl, rfl, ?_⟩
      refine ⟨_, rfl, _, rfl, _, rfl, v, d, _, _, rfl, hd, ?_⟩
      have q := q H fun _ _ e => e
      unfold fitD at q
      rw [if_pos c1] at q
      exact q
    · refine ⟨_, rfl, told, rfl, rfl, false, by rw [decide_eq_false c1], ?_⟩
      show (if false = true then _ else _)
      rw [if_neg Bool.false_ne_true]
      unfold fitD at q
      rw [if_neg c1] at q
      by_cases c2 : told = "generator"
      · rw [if_pos c2] at q
        refine ⟨_, rfl, rfl, true, by simp [c2], ?_⟩
        show (if true = true then _ else _)
        rw [if_pos rfl]
        exact ⟨_, rfl, v, d, n, rfl, hd, hg, by omega, q⟩
      · rw [if_neg c2] at q
        refine ⟨_, rfl, rfl, false, by simp [c2], ?_⟩
        show (if false = true then _ else _)
        rw [if_neg Bool.false_ne_true]
        by_cases c3 : told = "function"
        · rw [if_pos c3] at q
          refine ⟨_, rfl, rfl, true, by simp [c3], ?_⟩
          show (if true = true then _ else _)
          rw [if_pos rfl]
          exact ⟨_, rfl, v, d, n, rfl, hd, hg, by omega, q⟩
        · rw [if_neg c3] at q
          refine ⟨_, rfl, rfl, false, by simp [c3], ?_⟩
          show (if false = true then _ else _)
          rw [if_neg Bool.false_ne_true]
          by_cases c4 : told = "real"
          · rw [if_pos c4] at q
            refine ⟨_, rfl, rfl, true, by simp [c4], ?_⟩
            show (if true = true then _ else _)
            rw [if_pos rfl]
            exact ⟨_, rfl, _, _, _, _, _, rfl, .ty "bool", dp_ty hd, kit_bool d, q _ fun _ _ e => e⟩
          · rw [if_neg c4] at q
            refine ⟨_, rfl, rfl, false, by simp [c4], ?_⟩
            show (if false = true then _ else _)
            rw [if_neg Bool.false_ne_true]
            have c5 : told = "string" := by
              simp only [toldK, List.mem_cons, List.not_mem_nil, or_false] at ht
              simp only [boundK, List.mem_cons, List.not_mem_nil, or_false, not_or] at c1
              rcases ht with h | h | h | h | h | h | h
              · exact absurd h c1.1
              · exact absurd h c1.2.1
              · exact absurd h c1.2.2
              · exact absurd h c2
              · exact absurd h c3
              · exact absurd h c4
              · exact h
            have hh := hs c5
            refine ⟨_, rfl, by show 1 ≤ sizeLine; decide, fun p np => ?_⟩
            obtain ⟨g, b, ws, us, m, rfl, k1, k2, k3, k4, k5, k6⟩ := len_get hD hh
            have sm : Same H (upd H p (.tup [v])) := same_new np
            rw [k5] at q
            refine ⟨_, rfl, g, ws, 1, _, rfl, rfl, same_sqt sm k1, k2, b, us, 2, _, rfl, rfl, same_sqt sm k3, k4, ?_⟩
            refine ⟨.ref p, .tuple [d], n + 1, 1, m, rfl, .tup (.inl (.inl upd_same)) (.cons (dp_same sm _ hd) .nil), ⟨by show 1 ≤ 5000; decide, fun x hx => ?_⟩, by omega, k6, fun H' s2 => q _ fun a o e => s2 _ _ (sm _ _ e)⟩
            rw [List.mem_singleton.mp hx]
            exact hg
theorem parts_told {z told : Str} (hz : z ∈ gameK) (h : told ∈ partsOf z) : told ∈ toldK := by
  have q : gameK.all (fun z => (partsOf z).all fun t => decide (t ∈ toldK)) = true := by decide +kernel
  exact of_decide_eq_true (List.all_eq_true.mp (List.all_eq_true.mp q z hz) told h)
theorem ok_check_game {f : Addr} {fd : FuncData} (D : Df K mg "check_game" s_check_game ["game"] f fd) (T : Txt K w mg cs) (c_fits : Cl P w K mg base CX0 3 "fits" (spFits K)) : FnOk P w K mg base (L2.CX P w) 4 f fd ["game"] (spCheckGame K) := by
  refine D.fn.okX sc_check_game (fun vs H Q E h => ?_) (fun cdv A outer s H vs Q E hr h => ?_)
  · obtain ⟨v, d, n, rfl, _⟩ := h
    rfl
  · obtain ⟨v, D, n, rfl, hd, hg, hn, ⟨z, ds, rfl, hz, hl, hs, hfit⟩, q⟩ := h
    have tk := takes_of (X := cxOf (L2.CX P w) P w K mg base ["game", "parts", "value", "told"] "check_game" (defScope s_check_game) f cdv A outer s H E) (E := E) rfl rfl rfl rfl
    refine ⟨_, (pss_cons (ps_if (PW.pt (pw_or (pt_not (pt_val (pe_callB (isiK K) (by rfl) T.n_isinstance (by decide +kernel) (pa_cons (pv 0) (pa_cons (pe_ty "tuple" (by rfl) T.n_tuple (by decide +kernel)) pa_nil))))) (pw_or (pt_cmpR (op_eqF K hr.units) (pv 0) (pe_tup pa_nil) (nomark _)) (pw_or (pt_not (pt_val (pe_callB (isiK K) (by rfl) T.n_isinstance (by decide +kernel) (pa_cons (pe_ix (ixT K) (pv 0) pe_int (fun _ _ => rfl)) (pa_cons (pe_ty "str" (by rfl) T.n_str (by decide +kernel)) pa_nil))))) (pw_or1 (pt_cmpR (notin_dk T.dk_PARTS) (pe_ix (ixT K) (pv 0) pe_int (fun _ _ => rfl)) (pe_glob (v := .ref cs.PARTS) (by rfl) T.gl_PARTS rfl) (by rfl))))))) (pss_one (ps_raiseE T.x_BadGame rfl tk (by rfl))) pss_nil) (pss_cons (ps_set (i := 1) sc_check_game.nd rfl (.inl rfl) (pe_ix (ix_dk T.dk_PARTS) (pe_glob (v := .ref cs.PARTS) (by rfl) T.gl_PARTS rfl) (pe_ix (ixT K) (pv 0) pe_int (fun _ _ => rfl)) (fun _ _ => rfl))) (pss_cons (ps_if (pt_cmpR op_ne (pe_callB (lenS K) (by rfl) T.n_len (by decide +kernel) (pa_cons (pv 0) pa_nil)) (pe_op op_add pe_int (pe_callB (lenS K) (by rfl) T.n_len (by decide +kernel) (pa_cons (pv 1) pa_nil))) (nomark _)) (pss_one (ps_raiseE T.x_BadGame rfl tk (by rfl))) pss_nil) (pss_one (ps_for (passes_of rfl) rfl (RZ.pi_zipA (by rfl) T.n_zip (pa_cons (pe_slice (slTA K) (pv 0) (po_some pe_int) po_none) (pa_cons (pv 1) pa_nil))) (pg_tup (by rfl) (pgs_cons (pg_name (i := 2) sc_check_game.nd rfl (.inl rfl)) (pgs_cons (pg_name (i := 3) sc_check_game.nd rfl (.inl rfl)) pgs_nil))) (pss_one (ps_if (pt_not (pt_val (pe_cl c_fits hr (by first | decide | omega) (by rfl) (pa_cons (pv 2) (pa_cons (pv 3) (pa_cons (pv 0) pa_nil)))))) (pss_one (ps_raiseE T.x_BadGame rfl tk (by rfl))) pss_nil))))))), ?_⟩
    cases hd with
    | @tup g ws _ hT hB =>
    obtain ⟨v0, vs, rfl, h0, hA⟩ := dp_cons hB
    clear hB
    cases h0
    have hvl := dp_all_len hA
    have hd : Dp K H (.ref g) (.tuple (.str z :: ds)) := .tup hT (.cons (.str z) hA)
    refine ⟨_, rfl, _, _, _, _, _, rfl, .ty "tuple", dp_ty hd, kit_tup _, true, rfl, ?_⟩
    show (if false = true then _ else _)
    rw [if_neg Bool.false_ne_true]
    refine ⟨_, rfl, Nat.zero_le _, fun p0 np0 => ?_⟩
    have s0 : Same H (upd H p0 (.tup [])) := same_new np0
    refine ⟨_, .tuple [], dp_same s0 _ hd, .tup (.inl (.inl upd_same)) .nil, gd_lay hg, nil_lay, nil_dep, false, by rw [eqv_nil] <;> rfl, ?_⟩
    show (if false = true then _ else _)
    rw [if_neg Bool.false_ne_true]
    have hT0 := same_sqt s0 hT
    refine ⟨_, rfl, g, _, 0, _, rfl, rfl, hT0, atI_zero, _, _, _, _, _, rfl, .ty "str", .base (.str z), kit_str (.str z), true, rfl, ?_⟩
    show (if false = true then _ else _)
    rw [if_neg Bool.false_ne_true]
    refine ⟨_, rfl, g, _, 0, _, rfl, rfl, hT0, atI_zero, z, rfl, rfl, false, by rw [decide_eq_false (fun n => n hz)], ?_⟩
    show (if false = true then _ else _)
    rw [if_neg Bool.false_ne_true]
    refine ⟨_, rfl, g, _, 0, _, rfl, rfl, hT0, atI_zero, z, rfl, rfl, hz, fun v' u rv hR => ?_⟩
    obtain ⟨pa, rfl, hpa⟩ := hR
    obtain rfl : v' = .ref pa := relV_one rv rfl
    refine ⟨_, rfl, g, _, rfl, .inr hT0, _, rfl, pa, _, rfl, .inr (hpa _), _, _, rfl, rfl, rfl, false, ?_, ?_⟩
    · rw [List.length_map]
      show V.bl (!decide (V.int ((vs.length + 1 : Nat) : Int) = V.int (1 + ((partsOf z).length : Int)))) = _
      rw [decide_eq_true (congrArg V.int (by omega))]
      rfl
    show (if false = true then _ else _)
    rw [if_neg Bool.false_ne_true]
    refine ⟨_, rfl, 1, rfl, ?_⟩
    simp only [tNoPart]
    refine slA_any (lo := some 1) (hi := none) hT0 fun p2 H2 sm hp => ?_
    rw [cutV_tail] at hp
    have s2 : Same H H2 := s0.trans sm
    refine ⟨_, rfl, p2, pa, vs, _, rfl, .inr ⟨hp, hpa _, ?_⟩⟩
    refine for_it (D := { nx := fun _ H' => Q .non H', rt := Q }) (walk_zipT (xs := vs) (ys := (partsOf z).map V.str) (n := vs.length) rfl (by rw [List.length_map, hvl, hl])) (fun i σ H' => ∃ a2 a3, σ = [some (.ref g), some (.ref pa), a2, a3] ∧ Same H2 H') ⟨_, _, rfl, Same.refl H2⟩ ?_ ?_ ?_
    · rintro i σ H' _ ⟨a2, a3, rfl, s3⟩
      exact ⟨same_sqt s3 hp, hpa _⟩
    · rintro i x σ H' H3 hi ⟨a2, a3, rfl, s3⟩ ⟨t, x1, x2, rfl, nt, rfl, hx1, hx2⟩
      have s4 := s3.trans (same_new (o := .tup [x1, x2]) nt)
      obtain ⟨d, hdi, hdx⟩ := dp_all_get hA hx1
      have hx2 : ((partsOf z).map V.str)[i]? = some x2 := hx2
      rw [List.getElem?_map] at hx2
      obtain ⟨told, ht, rfl⟩ := Option.map_eq_some_iff.mp hx2
      obtain ⟨_, n', rfl, hgx⟩ := gd_tup hg
      have htk : told ∈ toldK := parts_told hz (List.mem_of_getElem? ht)
      refine ⟨t, [x1, .str told], rfl, .inl (.inl upd_same), rfl, x1, _, rfl, .str told, _, rfl, rfl, ?_⟩
      refine ⟨_, rfl, _, rfl, _, rfl, x1, .ref g, d, _, told, n', rfl, dp_same (s2.trans s4) d hdx, hgx d (List.mem_cons_of_mem _ (List.mem_of_getElem? hdi)), by omega, dp_same (s2.trans s4) _ hd, htk, fun e => hs (e ▸ List.mem_of_getElem? ht), fun H4 s5 => ⟨_, rfl, ?_⟩⟩
      rw [hfit i told d ht hdi]
      exact ⟨_, _, rfl, s4.trans s5⟩
    · rintro σ H' ⟨a2, a3, rfl, s3⟩
      exact q H' (s2.trans s3)
end

end
section
/-! ### a list or a tuple -/
def rIxA (K : PySem.W.Frag) : R2 := fun x y H Q => ∃ p xs i v, x = .ref p ∧ y = .int i ∧ (SqL K H p xs ∨ SqT K H p xs) ∧ atI xs i = some v ∧ Q v H
theorem ixA {X : Cx} (K : PySem.W.Frag) (h : X.K = K := by rfl) : IxR X (rIxA K) := by
  subst h
  intro value slice pins s σ H x y v u Q I rx ry hq hs
  obtain ⟨p, xs, i, v', h1, h2, h3, h4, h5⟩ := hq
  rcases h3 with h3 | h3
  · exact ixL X.K rfl value slice pins s σ H x y v u Q I rx ry ⟨p, xs, i, v', h1, h2, h3, h4, h5⟩ hs
  · exact ixT X.K rfl value slice pins s σ H x y v u Q I rx ry ⟨p, xs, i, v', h1, h2, h3, h4, h5⟩ hs
section
variable {P : Program} {w : World} {K : PySem.W.Frag} {mg : Str → Option Value} {base : Heap} {cs : Cs}
/-! ### Play -/
structure PlayC (K : PySem.W.Frag) (C : Addr) : Prop where
  cls : Cls K C
  n1 : NoAttr K C "outcome"
  n2 : NoAttr K C "said"
  n3 : NoAttr K C "draws"
  n4 : NoAttr K C "asked"
def playF (o s d a : V) : List (Str × V) := [("outcome", o), ("said", s), ("draws", d), ("asked", a)]
def spInitPlay (C : Addr) : Sp := fun vs H Q _ => ∃ (x dx : Addr) (o s d a : V), vs = [.ref x, o, s, d, a] ∧ H x = some (.ins C dx []) ∧ ∀ H', H' x = some (.ins C dx (playF o s d a)) → (∀ b, b ≠ x → H' b = H b) → Q .non H'
theorem ok_init_play {C : Addr} {f : Addr} {fd : FuncData} (F : Fun K "__init__" "Play.__init__" s_init_Play f fd) (PC : PlayC K C) : FnOk P w K mg base CX0 1 f fd ["self", "outcome", "said", "draws", "asked"] (spInitPlay C) := by
  refine F.ok sc_init_Play (fun vs H Q E h => ?_) fun cdv A outer s H vs Q E hr h => ⟨_, (pss_cons (ps_fld (pv 0) (pv 1) (by rfl)) (pss_cons (ps_fld (pv 0) (pv 2) (by rfl)) (pss_cons (ps_fld (pv 0) (pv 3) (by rfl)) (pss_one (ps_fld (pv 0) (pv 4) (by rfl)))))), ?_⟩
  · obtain ⟨x, dx, o, s, d, a, rfl, _⟩ := h
    rfl
  · obtain ⟨x, dx, o, s, d, a, rfl, hx, q⟩ := h
    refine ⟨_, rfl, _, rfl, x, C, dx, _, rfl, hx, PC.cls, PC.n1, by decide, ?_⟩
    refine ⟨_, rfl, _, rfl, x, C, dx, _, rfl, upd_same, PC.cls, PC.n2, by show 1 < 1000; decide, ?_⟩
    refine ⟨_, rfl, _, rfl, x, C, dx, _, rfl, upd_same, PC.cls, PC.n3, by show 2 < 1000; decide, ?_⟩
    refine ⟨_, rfl, _, rfl, x, C, dx, _, rfl, upd_same, PC.cls, PC.n4, by show 3 < 1000; decide, ?_⟩
    refine q _ upd_same fun b hb => ?_
    rw [upd_ne hb, upd_ne hb, upd_ne hb, upd_ne hb]
/-! ### play -/
/-- a process followed with these choices: what was drawn, how it ends -/
def rn (c : Nat → Nat) : Pr Res → Nat → List (Nat × Nat) × Res
  | .fin a, _ => ([], a)
  | .draw m kf, k => ((c k, m) :: (rn c (kf (c k)) (k + 1)).1, (rn c (kf (c k)) (k + 1)).2)
  | .ask _ _, _ => ([], (0, "", []))
/-- the choices are in their ranges, nothing is asked -/
def InR (c : Nat → Nat) : Pr Res → Nat → Prop
  | .fin _, _ => True
  | .draw m kf, k => c k < m ∧ InR c (kf (c k)) (k + 1)
  | .ask _ _, _ => False
def RDraws (H : Hp) (dl : Addr) (l : List (Nat × Nat)) : Prop := ∃ xs, H dl = some (.lst xs) ∧ xs.length = l.length ∧ ∀ (i c m : Nat), l[i]? = some (c, m) → ∃ t : Addr, xs[i]? = some (V.ref t) ∧ H t = some (.tup [.int (c : Int), .int (m : Int)])
def RAskL (H : Hp) (al : Addr) (l : List (Str × Str)) : Prop := ∃ xs, H al = some (.lst xs) ∧ xs.length = l.length ∧ ∀ (i : Nat) (z r : Str), l[i]? = some (z, r) → ∃ q : Addr, xs[i]? = some (V.ref q) ∧ H q = some (.tup [.str z, .str r])
/-- the object that play answers -/
def RPlay (C : Addr) (H : Hp) (x : Addr) (r : List (Nat × Nat) × Res) : Prop := ∃ dx dl al, H x = some (.ins C dx (playF (.int r.2.1) (.str r.2.2.1) (.ref dl) (.ref al))) ∧ RDraws H dl r.1 ∧ RAskL H al r.2.2.2
theorem Kp.set {H H1 : Hp} {dl : Addr} {xs : List V} {o : HO} (e : Kp NM H H1) (n : H dl = none) (h : H1 dl = some (.lst xs)) : Kp NM H (upd H1 dl o) :=
  ⟨e.toExt.trans (Ext.lst h), fun b u q n1 n2 => by rw [upd_ne (ne_of_none q n)]; exact e.all b u q n1 n2⟩
theorem SqL.kp {H H1 : Hp} (e : Kp NM H H1) {a : Addr} {xs : List V} (h : SqL K H a xs) : SqL K H1 a xs := by
  rcases h with (h | ⟨o, h⟩) | h
  · exact .inl (.inl (e.all _ _ h (fun _ z => by cases z) (fun _ z => by cases z)))
  · exact .inl (.inr ⟨o, e.all _ _ h (fun _ z => by cases z) (fun _ z => by cases z)⟩)
  · exact .inr h
theorem SqT.kp {H H1 : Hp} (e : Kp NM H H1) {a : Addr} {xs : List V} (h : SqT K H a xs) : SqT K H1 a xs := by
  rcases h with (h | ⟨o, h⟩) | h
  · exact .inl (.inl (e.all _ _ h (fun _ z => by cases z) (fun _ z => by cases z)))
  · exact .inl (.inr ⟨o, e.all _ _ h (fun _ z => by cases z) (fun _ z => by cases z)⟩)
  · exact .inr h
theorem RDraws.ext {H H1 : Hp} {dl : Addr} {l : List (Nat × Nat)} (h : RDraws H dl l) (e : Kp NM H H1) : RDraws H1 dl l := by
  obtain ⟨xs, h1, h2, h3⟩ := h
  refine ⟨xs, e.all _ _ h1 (fun _ z => by cases z) (fun _ z => by cases z), h2, fun i c m g => ?_⟩
  obtain ⟨t, k1, k2⟩ := h3 i c m g
  exact ⟨t, k1, e.tup _ _ k2⟩
/-- one more draw -/
theorem RDraws.more {H : Hp} {dl p : Addr} {l : List (Nat × Nat)} {c m : Nat} (h : RDraws H dl l) (np : H p = none) : ∃ xs, upd H p (.tup [.int (c : Int), .int (m : Int)]) dl = some (.lst xs) ∧ xs.length = l.length ∧
    RDraws (upd (upd H p (.tup [.int (c : Int), .int (m : Int)])) dl (.lst (xs ++ [.ref p]))) dl (l ++ [(c, m)]) := by
  obtain ⟨xs, h1, h2, h3⟩ := h
  have ne : dl ≠ p := ne_of_none h1 np
  refine ⟨xs, (upd_ne ne).trans h1, h2, xs ++ [.ref p], upd_same, by rw [List.length_append, List.length_append, h2]; rfl, fun i c' m' g => ?_⟩
  by_cases hi : i < l.length
  · rw [List.getElem?_append_left hi] at g
    obtain ⟨t, k1, k2⟩ := h3 i c' m' g
    refine ⟨t, by rw [List.getElem?_append_left (by omega)]; exact k1, ?_⟩
    have n1 : t ≠ dl := fun z => by rw [z, h1] at k2; cases k2
    rw [upd_ne n1, upd_ne (ne_of_none k2 np)]
    exact k2
  · rw [List.getElem?_append_right (by omega)] at g
    have ci : i - l.length = 0 := by
      cases h : i - l.length with
      | zero => rfl
      | succ j => rw [h] at g; cases g
    rw [ci] at g
    cases g
    exact ⟨p, by rw [List.getElem?_append_right (by omega), h2, ci] <;> rfl, by rw [upd_ne ne.symm]; exact upd_same⟩
def spPlay (P : Program) (w : World) (K : PySem.W.Frag) (mg : Str → Option Value) (base : Heap) {σ : Type} (S : Hp → V → σ → Prop) (T0 T1 T2 T3 : Addr) (L n : Nat) (z : Str) (spLead : Sp) (C : Addr) : Sp := fun vs H Q _ =>
  ∃ (g ca : Addr) (bv : V) (br : Br) (xs : List V) (PP : Pr Res) (D Db : PyData) (nD nb : Nat) (ci : List Int) (c : Nat → Nat), vs = [.ref g, bv, .ref ca] ∧ SqX K H g (.str z :: xs) ∧ xs.length ≤ 10 ∧ BrV K H br bv ∧ okB n br ∧ okW 1000 n br ∧
  Tb NM 3 H T0 ∧ Tb NM 1 H T1 ∧ Tb NM 1 H T2 ∧ Tb NM 1 H T3 ∧
  (∀ H1 pt meet Q1, Kp NM H H1 → SqT K H1 pt xs → Clo P w K mg base NM 13 meet (spMeet P w K mg base S L br) H1 → (∀ v' H', Kp NM H1 H' → RepPr P w K mg base NM (RRes K) L PP H' v' → Q1 v' H') → spLead [.ref pt, .ref meet] H1 Q1 E0) ∧
  Dp K H (.ref g) D ∧ Gd nD D ∧ nD ≤ 62 ∧ gameFit D ∧ Dp K H bv Db ∧ Gd nb Db ∧ brOk Db = true ∧ (SqL K H ca (ci.map V.int) ∨ SqT K H ca (ci.map V.int)) ∧ InR c PP 0 ∧ (rn c PP 0).1.length ≤ 1000 ∧ (∀ k, k < (rn c PP 0).1.length → ci.getD k 0 = (c k : Int)) ∧
  ∀ x H', Kp NM H H' → RPlay C H' x (rn c PP 0) → Q (.ref x) H'
theorem ok_play {f T0 T1 T2 T3 : Addr} {fd : FuncData} {σ : Type} {S : Hp → V → σ → Prop} {z : Str} {spLead : Sp} {k_then L n kC : Nat} (D : Df K mg "play" s_play ["game", "breaker", "choices"] f fd) (T : Txt K w mg cs) (c_check_game : Cl P w K mg base (L2.CX P w) 4 "check_game" (spCheckGame K))
    (c_check_breaker : Cl P w K mg base (L2.CX P w) 6 "check_breaker" (spCheckB K cs.BadBreaker)) (c_is_whole : Cl P w K mg base CX0 1 "is_whole" (spWhole K)) (c_contest : Cl P w K mg base CX0 kC "contest" (spContest P w K mg base S T0 T1 T2 T3 L n z spLead))
    (m_Play : C8.Mak P w K mg base 1 "Play" cs.Play (spInitPlay cs.Play) []) (hk : k_then = L) (hkC : kC ≤ 39) (hL : L ≤ 39) : FnOk P w K mg base (L2.CX P w) 40 f fd ["game", "breaker", "choices"] (spPlay P w K mg base S T0 T1 T2 T3 L n z spLead cs.Play) := by
  refine D.fn.okX sc_play (fun vs H Q E h => ?_) (fun cdv A outer s H vs Q E hr h => ?_)
  · obtain ⟨g, ca, bv, br, xs, PP, D, Db, nD, nb, ci, c, rfl, _⟩ := h
    rfl
  · obtain ⟨g, ca, bv, br, xs, PP, D, Db, nD, nb, ci, c, rfl, hg, hxl, hb, b1, b2, hT0, hT1, hT2, hT3, hlead, hD, gD, lD, fD, hDb, gDb, ok, hca, hin, hlen, hci, q⟩ := h
    have tk := takes_of (X := cxOf (L2.CX P w) P w K mg base ["game", "breaker", "choices", "draws", "process", "_", "many", "then", "choice", "outcome", "said", "asked"] "play" (defScope s_play) f cdv A outer s H E) (E := E) rfl rfl rfl rfl
    refine ⟨_, (pss_cons (ps_expr (pe_clX c_check_game hr (by first | decide | omega) (by rfl) tk (pa_cons (pv 0) pa_nil))) (pss_cons (ps_expr (pe_clX c_check_breaker hr (by first | decide | omega) (by rfl) tk (pa_cons (pv 1) pa_nil))) (pss_cons (ps_set (i := 3) sc_play.nd rfl (.inl rfl) (pe_lst pa_nil)) (pss_cons (ps_set (i := 4) sc_play.nd rfl (.inl rfl) (pe_cl c_contest hr (by first | decide | omega) (by rfl) (pa_cons (pv 0) (pa_cons (pv 1) pa_nil)))) (pss_cons (ps_while (passes_of rfl) (pt_cmpR op_eq (pe_ix (ixT K) (pv 4) pe_int (fun _ _ => rfl)) pe_str (nomark _)) (pss_cons (ps_asg (pv 4) (pg_tup (by rfl) (pgs_cons (pg_name (i := 5) sc_play.nd rfl (.inl rfl)) (pgs_cons (pg_name (i := 6) sc_play.nd rfl (.inl rfl)) (pgs_cons (pg_name (i := 7) sc_play.nd rfl (.inl rfl)) pgs_nil))))) (pss_cons (ps_set (i := 8) sc_play.nd rfl (.inl rfl) (pe_ifExp (pt_cmpR op_lt (pe_callB (lenS K) (by rfl) T.n_len (by decide +kernel) (pa_cons (pv 3) pa_nil)) (pe_callB (lenS K) (by rfl) T.n_len (by decide +kernel) (pa_cons (pv 2) pa_nil)) (nomark _)) (pe_ix (ixA K) (pv 2) (pe_callB (lenS K) (by rfl) T.n_len (by decide +kernel) (pa_cons (pv 3) pa_nil)) (fun _ _ => rfl)) pe_int)) (pss_cons (ps_if (pt_not (pt_val (pe_cl c_is_whole hr (by first | decide | omega) (by rfl) (pa_cons (pv 8) (pa_cons pe_int (pa_cons (pe_op op_sub (pv 6) pe_int) pa_nil)))))) (pss_one (ps_raiseE T.x_BadChoice rfl tk (by rfl))) pss_nil) (pss_cons (ps_expr (pe_bm PySem.F.plainAttrs_list PySem.F.slot_list_append PySem.F.type_list_append mt_append (pv 3) (pa_cons (pe_tup (pa_cons (pv 8) (pa_cons (pv 6) pa_nil))) pa_nil))) (pss_one (ps_set (i := 4) sc_play.nd rfl (.inl rfl) (pe_clo0 (i := 7) (k := k_then) (NM := NM) hr (by omega) (by rfl) (.inl (by rfl)) (pa_cons (pv 8) pa_nil))))))))) (pss_cons (ps_asg (pe_ix (ixT K) (pv 4) pe_int (fun _ _ => rfl)) (pg_tup (by rfl) (pgs_cons (pg_name (i := 9) sc_play.nd rfl (.inl rfl)) (pgs_cons (pg_name (i := 10) sc_play.nd rfl (.inl rfl)) (pgs_cons (pg_name (i := 11) sc_play.nd rfl (.inl rfl)) pgs_nil))))) (pss_one (ps_ret (C8.pe_mk m_Play hr (by first | decide | omega) (by rfl) (pa_cons (pv 9) (pa_cons (pv 10) (pa_cons (pv 3) (pa_cons (pe_callTy (listOf K) (by rfl) T.n_list (by decide +kernel) (pa_cons (pv 11) pa_nil)) pa_nil))))))))))))), ?_⟩
    subst hk
    refine ⟨_, rfl, .ref g, D, nD, rfl, hD, gD, lD, fD, fun H1 s1 => ?_⟩
    refine ⟨_, rfl, bv, Db, nb, rfl, dp_same s1 _ hDb, gDb, fun H2 s2 => ⟨fun _ => ?_, fun e => absurd (ok.symm.trans e) (by decide)⟩⟩
    have s12 := s1.trans s2
    refine ⟨Nat.zero_le _, fun dl ndl => ?_⟩
    have nH : H dl = none := s12.free ndl
    have k3 : Kp NM H (upd H2 dl (.lst [])) := (same_kp s12).trans (Kp.new ndl)
    refine ⟨_, rfl, _, rfl, g, bv, br, xs, PP, rfl, hg.ext k3.toExt, hxl, hb.ext k3.toExt, b1, b2, k3.tb _ _ hT0, k3.tb _ _ hT1, k3.tb _ _ hT2, k3.tb _ _ hT3, fun H1 pt meet Q1 e => hlead H1 pt meet Q1 (k3.trans e), fun v' H4 e4 r4 => ?_⟩
    have k4 := k3.trans e4
    have d4 : RDraws H4 dl [] := ⟨[], e4.all _ _ upd_same (fun _ z => by cases z) (fun _ z => by cases z), rfl, fun i c m h => by simp at h⟩
    refine ⟨fun m σ H1 => ∃ P1 x pre a5 a6 a7 a8 a9 a10 a11, σ = [some (.ref g), some bv, some (.ref ca), some (.ref dl), some x, a5, a6, a7, a8, a9, a10, a11] ∧ Kp NM H H1 ∧ RepPr P w K mg base NM (RRes K) k_then P1 H1 x ∧ RDraws H1 dl pre ∧ InR c P1 pre.length ∧
      pre ++ (rn c P1 pre.length).1 = (rn c PP 0).1 ∧ (rn c P1 pre.length).2 = (rn c PP 0).2 ∧ m = (rn c P1 pre.length).1.length, ⟨_, PP, v', [], _, _, _, _, _, _, _, rfl, k4, r4, d4, hin, rfl, rfl, rfl⟩, ?_⟩
    rintro m σ H5 ⟨P1, x, pre, a5, a6, a7, a8, a9, a10, a11, rfl, k5, r5, d5, i5, q1, q2, rfl⟩
    cases P1 with
    | ask _ _ => exact i5.elim
    | fin a =>
      obtain ⟨p0, y, rfl, hp, hy⟩ := r5
      refine ⟨_, rfl, p0, _, 0, _, rfl, rfl, .inl (.inl hp), rfl, rfl, false, by simp [show ¬ (("end" : Str) = "draw") by decide +kernel], ?_⟩
      show (if false = true then _ else _)
      rw [if_neg Bool.false_ne_true]
      obtain ⟨pr, al, rfl, hr1, hr2⟩ := hy
      refine ⟨_, rfl, p0, _, 1, _, rfl, rfl, .inl (.inl hp), rfl, ?_⟩
      refine ⟨pr, _, rfl, .inl (.inl hr1), by rfl, _, _, rfl, _, _, rfl, _, _, rfl, rfl, ?_⟩
      obtain ⟨pa, ys, rfl, l1, l2, l3⟩ := hr2
      refine ⟨_, rfl, _, rfl, _, rfl, _, rfl, pa, ys, rfl, .inr l1.sq, fun ll nll => fun x dx nx ndx nex => ⟨x, dx, _, _, _, _, rfl, upd_same, fun H' hx hoth => ⟨rfl, ?_⟩⟩⟩
      have nx2 : upd (upd H5 ll (.lst ys)) dx (.own x) x = none := by rw [upd_ne nex.symm]; exact nx
      have sm : Same (upd (upd H5 ll (.lst ys)) dx (.own x)) H' := fun b o e => by
        have n : b ≠ x := ne_of_none e nx2
        rw [hoth b n, upd_ne n]
        exact e
      have k6 : Kp NM H5 H' := ((Kp.new nll).trans (Kp.new ndx)).trans (same_kp sm)
      have er : rn c PP 0 = (pre, a) := Prod.ext (by rw [← q1]; exact List.append_nil _) q2.symm
      refine q x H' (k5.trans k6) ?_
      rw [er]
      refine ⟨dx, dl, ll, hx, d5.ext k6, ys, ?_, l2, fun i z r h => ?_⟩
      · exact ((Kp.new (NM := NM) ndx).trans (same_kp sm)).all _ _ upd_same (fun _ z => by cases z) (fun _ z => by cases z)
      · obtain ⟨q, w1, w2⟩ := l3 i z r h
        exact ⟨q, w1, k6.tup _ _ w2⟩
    | draw m kf =>
      obtain ⟨p0, ft, rfl, hp, hC⟩ := r5
      refine ⟨_, rfl, p0, _, 0, _, rfl, rfl, .inl (.inl hp), rfl, rfl, true, by simp, ?_⟩
      show (if true = true then _ else _)
      rw [if_pos rfl]
      refine ⟨_, fun σ' H' h => h, ?_⟩
      refine ⟨_, rfl, p0, _, rfl, .inl (.inl hp), by rfl, _, _, rfl, _, _, rfl, _, _, rfl, rfl, ?_⟩
      obtain ⟨dxs, dd1, dd2, dd3⟩ := id d5
      have hca5 := hca.imp (SqL.kp k5) (SqT.kp k5)
      have hlt : pre.length < (rn c PP 0).1.length := by
        rw [← q1, List.length_append]
        show _ < _ + (_ + 1)
        omega
      have hck := hci _ hlt
      have hz : (1000 : Nat) < sizeLine := by decide
      obtain ⟨hcm, i5⟩ := i5
      have hw : whole (.int (c pre.length : Int)) 0 ((m : Int) - 1) = true := by
        show (decide ((0 : Int) ≤ (c pre.length : Int)) && decide ((c pre.length : Int) ≤ (m : Int) - 1)) = true
        rw [decide_eq_true (by omega), decide_eq_true (by omega)]
        rfl
      by_cases hk : pre.length < ci.length
      · refine ⟨_, rfl, dl, dxs, rfl, .inl (.inl (.inl dd1)), _, rfl, ca, ci.map V.int, rfl, hca5, _, _, rfl, rfl, true, ?_, ?_⟩
        · show V.bl (decide ((dxs.length : Int) < ((ci.map V.int).length : Int))) = _
          rw [List.length_map, dd2, decide_eq_true (by omega)]
        show (if true = true then _ else _)
        rw [if_pos rfl]
        have hcv : (ci.map V.int)[dxs.length]? = some (.int (c pre.length : Int)) := by
          rw [dd2, List.getElem?_map, List.getElem?_eq_getElem hk]
          rw [List.getD_eq_getElem?_getD, List.getElem?_eq_getElem hk] at hck
          exact congrArg (fun z => some (V.int z)) hck
        refine ⟨_, rfl, _, rfl, dl, dxs, rfl, .inl (.inl (.inl dd1)), ca, ci.map V.int, _, _, rfl, rfl, hca5, atI_nat hcv, ?_⟩
        refine ⟨_, rfl, _, rfl, _, _, rfl, rfl, .int (c pre.length : Int), .int (c pre.length : Int), 0, _, rfl, .int _, true, ?_, ?_⟩
        · show V.bl (whole (.int (c pre.length : Int)) 0 ((m : Int) - 1)) = _
          rw [hw]
        show (if false = true then _ else _)
        rw [if_neg Bool.false_ne_true]
        refine ⟨_, rfl, .inl ⟨rfl, _, .inl (.inl dd1)⟩, _, rfl, _, rfl, by show 2 ≤ sizeLine; decide, fun p np => ?_⟩
        obtain ⟨xs', e1, e2, e3⟩ := d5.more (c := c pre.length) (m := m) np
        refine ⟨dl, xs', _, rfl, rfl, e1, by omega, ?_⟩
        have e6 := (Kp.new (NM := NM) (o := .tup [.int (c pre.length : Int), .int (m : Int)]) np).toExt.trans (Ext.lst (o := .lst (xs' ++ [.ref p])) e1)
        have cT := hC.ext e6
        refine ⟨ft, rfl, cT.1, _, rfl, _, cT, c pre.length, rfl, hcm, fun v' H8 e8 r8 => ?_⟩
        have el : (pre ++ [(c pre.length, m)]).length = pre.length + 1 := by rw [List.length_append]; rfl
        exact ⟨_, Nat.lt_succ_self _, kf (c pre.length), v', pre ++ [(c pre.length, m)], _, _, _, _, _, _, _, rfl, ((k5.trans (Kp.new np)).set nH e1).trans e8, r8, e3.ext e8, by rw [el]; exact i5, by rw [el, List.append_assoc]; exact q1, by rw [el]; exact q2, by rw [el]⟩
      · refine ⟨_, rfl, dl, dxs, rfl, .inl (.inl (.inl dd1)), _, rfl, ca, ci.map V.int, rfl, hca5, _, _, rfl, rfl, false, ?_, ?_⟩
        · show V.bl (decide ((dxs.length : Int) < ((ci.map V.int).length : Int))) = _
          rw [List.length_map, dd2, decide_eq_false (by omega)]
        show (if false = true then _ else _)
        rw [if_neg Bool.false_ne_true]
        have c0 : c pre.length = 0 := by
          rw [List.getD_eq_getElem?_getD, List.getElem?_eq_none (by omega)] at hck
          have hck : (0 : Int) = (c pre.length : Int) := hck
          omega
        refine Eq.mpr (congrArg (fun v => gName 8 v _ _ _) (show V.int 0 = V.int (c pre.length : Int) by rw [c0] <;> rfl)) ?_
        refine ⟨_, rfl, _, rfl, _, _, rfl, rfl, .int (c pre.length : Int), .int (c pre.length : Int), 0, _, rfl, .int _, true, ?_, ?_⟩
        · show V.bl (whole (.int (c pre.length : Int)) 0 ((m : Int) - 1)) = _
          rw [hw]
        show (if false = true then _ else _)
        rw [if_neg Bool.false_ne_true]
        refine ⟨_, rfl, .inl ⟨rfl, _, .inl (.inl dd1)⟩, _, rfl, _, rfl, by show 2 ≤ sizeLine; decide, fun p np => ?_⟩
        obtain ⟨xs', e1, e2, e3⟩ := d5.more (c := c pre.length) (m := m) np
        refine ⟨dl, xs', _, rfl, rfl, e1, by omega, ?_⟩
        have e6 := (Kp.new (NM := NM) (o := .tup [.int (c pre.length : Int), .int (m : Int)]) np).toExt.trans (Ext.lst (o := .lst (xs' ++ [.ref p])) e1)
        have cT := hC.ext e6
        refine ⟨ft, rfl, cT.1, _, rfl, _, cT, c pre.length, rfl, hcm, fun v' H8 e8 r8 => ?_⟩
        have el : (pre ++ [(c pre.length, m)]).length = pre.length + 1 := by rw [List.length_append]; rfl
        exact ⟨_, Nat.lt_succ_self _, kf (c pre.length), v', pre ++ [(c pre.length, m)], _, _, _, _, _, _, _, rfl, ((k5.trans (Kp.new np)).set nH e1).trans e8, r8, e3.ext e8, by rw [el]; exact i5, by rw [el, List.append_assoc]; exact q1, by rw [el]; exact q2, by rw [el]⟩
end

end
section
/-! ### the most asks -/
def askB (d : PyData) : Nat := if headIs "ask" d then 1 else 0
def paN : Nat → PyData → Nat
  | 0, _ => 0
  | n + 1, d => askB d + ((kidsD d).map (paN n)).foldl max 0
def item (i : Nat) : PyData → PyData
  | .tuple xs => xs.getD i .none
  | _ => .none
def intOf : PyData → Int
  | .int i => i
  | _ => 0
/-- how the program counts, so many made ones allowed -/
def progM : Nat → PyData → Int
  | 0, d => if headIs "counter" d then intOf (item 2 d) else if madeD d then 0 else (paN 60 d : Int)
  | n + 1, d => if headIs "marks" d then 1 + progM n (lastD d) else if headIs "secrets" d then progM n (lastD d) else if headIs "counter" d then intOf (item 2 d) else if madeD d then 0 else (paN 60 d : Int)
theorem fold_max (l : List Nat) : ∀ m a : Nat, l.foldl max (max m a) = max (l.foldl max m) a := by
  induction l with
  | nil => intro m a; rfl
  | cons x l ih =>
    intro m a
    rw [List.foldl_cons, List.foldl_cons, show max (max m a) x = max (max m x) a by omega, ih]
theorem fold_add (a : Nat) (l : List Nat) : ∀ b : Nat, a + l.foldl max b = (l.map (a + ·)).foldl max (a + b) := by
  induction l with
  | nil => intro b; rfl
  | cons x l ih =>
    intro b
    rw [List.foldl_cons, List.map_cons, List.foldl_cons, ih, show a + max b x = max (a + b) (a + x) by omega]
theorem fold_pop (most a : Nat) (ys ks : List Nat) : (ys ++ [a + ks.foldl max 0]).foldl max most = (ys ++ ks.map (a + ·)).foldl max (max most a) := by
  rw [List.foldl_append, List.foldl_append, fold_max, List.foldl_cons, List.foldl_nil, fold_add, Nat.add_zero]
  rw [show max (ys.foldl max most) a = max a (ys.foldl max most) by omega, fold_max]
  omega
abbrev Ent2 : Type := Addr × V × PyData × Nat × Nat
def valE (x : Ent2) : Nat := x.2.2.2.1 + paN (61 - x.2.2.2.2) x.2.2.1
def szE (xs : List Ent2) : Nat := (xs.map fun x => szN (61 - x.2.2.2.2) x.2.2.1).sum
theorem szE_app (xs ys : List Ent2) : szE (xs ++ ys) = szE xs + szE ys := by
  unfold szE
  rw [List.map_append, List.sum_append]
theorem szE_len : ∀ xs : List Ent2, xs.length ≤ szE xs
  | [] => Nat.le_refl 0
  | x :: xs => by
    have h1 := szE_len xs
    have h2 := sz_pos (61 - x.2.2.2.2) x.2.2.1
    show xs.length + 1 ≤ szN (61 - x.2.2.2.2) x.2.2.1 + szE xs
    omega
theorem ents_vals {es : List Ent2} {ds : List PyData} {a k : Nat} (h : es.map (fun e => e.2.2) = ds.map fun d => (d, a, k + 1)) : es.map valE = (ds.map (paN (60 - k))).map (a + ·) ∧ szE es = (ds.map (szN (60 - k))).sum := by
  constructor
  · have h1 : es.map valE = (es.map (fun e => e.2.2)).map (fun e => e.2.1 + paN (61 - e.2.2) e.1) := by
      rw [List.map_map]
      rfl
    rw [h1, h, List.map_map, List.map_map]
    have h2 : 61 - (k + 1) = 60 - k := by omega
    show ds.map (fun d => a + paN (61 - (k + 1)) d) = _
    rw [h2]
    rfl
  · unfold szE
    have h1 : es.map (fun x => szN (61 - x.2.2.2.2) x.2.2.1) = (es.map (fun e => e.2.2)).map (fun e => szN (61 - e.2.2) e.1) := by
      rw [List.map_map]
      rfl
    rw [h1, h, List.map_map]
    have h2 : 61 - (k + 1) = 60 - k := by omega
    show (ds.map (fun d => szN (61 - (k + 1)) d)).sum = _
    rw [h2]
theorem okN_kids {k : Nat} {d : PyData} (hk : k ≤ 60) (h : okN (61 - k) d = true) : looksOk d = true ∧ ∀ e ∈ kidsD d, okN (60 - k) e = true := by
  rw [show 61 - k = (60 - k) + 1 by omega] at h
  have h' : (looksOk d && (kidsD d).all (okN (60 - k))) = true := h
  rw [Bool.and_eq_true, List.all_eq_true] at h'
  exact h'
theorem okN_pos {n : Nat} {d : PyData} (h : okN n d = true) : 1 ≤ n := by
  cases n with
  | zero => cases h
  | succ n => omega
theorem looks_head {d : PyData} (h : looksOk d = true) : ∃ k r, d = .tuple (k :: r) := by
  unfold looksOk at h
  split at h
  · exact ⟨_, _, rfl⟩
  · cases h

theorem chk_head {n : Nat} {d : PyData} (h : chk n d = true) : ∃ z r, d = .tuple (.str z :: r) := by
  cases c : madeD d with
  | true =>
    obtain ⟨z, r, rfl, _⟩ := made_parts c
    exact ⟨z, r, rfl⟩
  | false =>
    rw [chk_plain c] at h
    unfold plainOk at h
    rw [Bool.and_eq_true] at h
    have h1 : (looksOk d && _) = true := h.1
    rw [Bool.and_eq_true] at h1
    obtain ⟨k, r, rfl⟩ := looks_head h1.1
    have h2 := h1.1
    rw [looks_eq] at h2
    cases c1 : named "say" k with
    | true => exact ⟨_, r, by rw [named_eq c1]⟩
    | false =>
      rw [c1, if_neg (by decide)] at h2
      cases c2 : named "toss" k with
      | true => exact ⟨_, r, by rw [named_eq c2]⟩
      | false =>
        rw [c2, if_neg (by decide)] at h2
        cases c3 : named "look" k with
        | true => exact ⟨_, r, by rw [named_eq c3]⟩
        | false =>
          rw [c3, if_neg (by decide), Bool.and_eq_true] at h2
          exact ⟨_, r, by rw [named_eq h2.1]⟩
theorem head_str {x z : Str} {r : List PyData} : headIs x (.tuple (.str z :: r)) = decide (z = x) := named_str
/-- one step of the count, at a name -/
theorem progM_marks {n : Nat} {r : List PyData} : progM (n + 1) (.tuple (.str "marks" :: r)) = 1 + progM n (lastD (.tuple (.str "marks" :: r))) := by
  rw [progM, head_str, decide_eq_true rfl, if_pos rfl]
theorem progM_secrets {n : Nat} {r : List PyData} : progM (n + 1) (.tuple (.str "secrets" :: r)) = progM n (lastD (.tuple (.str "secrets" :: r))) := by
  rw [progM, head_str, head_str, decide_eq_false (by decide), decide_eq_true rfl, if_neg (by decide), if_pos rfl]
theorem progM_other {n : Nat} {z : Str} {r : List PyData} (h1 : z ≠ "marks") (h2 : z ≠ "secrets") : progM n (.tuple (.str z :: r)) = if z = "counter" then intOf (item 2 (.tuple (.str z :: r))) else if madeD (.tuple (.str z :: r)) then 0 else (paN 60 (.tuple (.str z :: r)) : Int) := by
  cases n with
  | zero =>
    rw [progM, head_str]
    by_cases c : z = "counter"
    · rw [decide_eq_true c, if_pos c, if_pos rfl]
    · rw [decide_eq_false c, if_neg c, if_neg (by decide)]
  | succ n =>
    rw [progM, head_str, head_str, head_str, decide_eq_false h1, decide_eq_false h2, if_neg (by decide), if_neg (by decide)]
    by_cases c : z = "counter"
    · rw [decide_eq_true c, if_pos c, if_pos rfl]
    · rw [decide_eq_false c, if_neg c, if_neg (by decide)]
theorem made_num {z : Str} {r : List PyData} (h : z ∈ numK) : madeD (.tuple (.str z :: r)) = true := by
  show (decide (z ∈ numK) || decide (z ∈ fitK)) = true
  rw [decide_eq_true h, Bool.true_or]
theorem chk_made {n : Nat} {z : Str} {r : List PyData} (hz : madeD (.tuple (.str z :: r)) = true) (h : chk n (.tuple (.str z :: r)) = true) : ∃ m, n = m + 1 ∧ fitZ z r.dropLast = true ∧ chk m (lastD (.tuple (.str z :: r))) = true := by
  cases n with
  | zero =>
    rw [chk_zero hz] at h
    cases h
  | succ m =>
    rw [chk_succ hz, Bool.and_eq_true, Bool.and_eq_true] at h
    exact ⟨m, rfl, h.1, h.2.2⟩
theorem counter_parts {r : List PyData} (h : fitZ "counter" r.dropLast = true) : ∃ l c m x, r = [.int l, .int c, .int m, x] ∧ 1 ≤ c ∧ c ≤ 256 := by
  have h' : numsOk r.dropLast [(1, 40), (1, 256), (1, 40)] = true := h
  have hl : r.dropLast.length = 3 := by
    by_cases c : r.dropLast.length = [((1 : Int), (40 : Int)), (1, 256), (1, 40)].length
    · exact c
    · rw [nums_len c] at h'
      cases h'
  rw [List.length_dropLast] at hl
  match r, hl with
  | [a, b, c, x], _ =>
    have h2 : (whole a 1 40 && (whole b 1 256 && (whole c 1 40 && true))) = true := h'
    simp only [Bool.and_eq_true] at h2
    obtain ⟨l, rfl, _⟩ := whole_int h2.1
    obtain ⟨c', rfl, c1, c2⟩ := whole_int h2.2.1
    obtain ⟨m, rfl, _⟩ := whole_int h2.2.2.1
    exact ⟨l, c', m, x, rfl, c1, c2⟩

def bsz : Nat → Nat
  | 0 => 0
  | n + 1 => 1 + 3 * bsz n
/-- tuples, texts, whole numbers, none large -/
def Pz : Nat → PyData → Prop
  | 0, d => match d with
    | .int i => i.natAbs < 10 ^ 100
    | .str x => okS 100 x
    | _ => False
  | n + 1, d => match d with
    | .int i => i.natAbs < 10 ^ 100
    | .str x => okS 100 x
    | .tuple xs => xs.length ≤ 100 ∧ ∀ x ∈ xs, Pz n x
    | _ => False
theorem pz_str {n : Nat} {x : Str} : Pz n (.str x) ↔ okS 100 x := by cases n <;> exact Iff.rfl
theorem pz_int {n : Nat} {i : Int} (h : i.natAbs ≤ 5000) : Pz n (.int i) := by
  have h' : i.natAbs < 10 ^ 100 := Nat.lt_of_le_of_lt h (by decide)
  cases n <;> exact h'
theorem pz_pl : ∀ {n : Nat} {d : PyData}, Pz n d → Pl n d
  | 0, .int _, _ => trivial
  | 0, .str _, h => ⟨h.1, Nat.le_trans h.2 (by decide)⟩
  | n + 1, .int _, _ => trivial
  | n + 1, .str _, h => ⟨h.1, Nat.le_trans h.2 (by decide)⟩
  | n + 1, .tuple xs, h => ⟨Nat.le_trans h.1 (by decide), fun x hx => pz_pl (h.2 x hx)⟩
theorem pz_gz : ∀ {n : Nat} {d : PyData}, Pz n d → Gz 100 n d
  | 0, .int _, h => h
  | 0, .str _, h => h
  | n + 1, .int _, h => h
  | n + 1, .str _, h => h
  | n + 1, .tuple xs, h => ⟨h.1, fun x hx => pz_gz (h.2 x hx)⟩
theorem pz_up : ∀ {n : Nat} {d : PyData}, Pz n d → Pz (n + 1) d
  | 0, .int _, h => h
  | 0, .str _, h => h
  | n + 1, .int _, h => h
  | n + 1, .str _, h => h
  | n + 1, .tuple xs, h => ⟨h.1, fun x hx => pz_up (h.2 x hx)⟩
theorem pz_le {n m : Nat} {d : PyData} (h : Pz n d) (hm : n ≤ m) : Pz m d := by
  induction hm with
  | refl => exact h
  | step _ ih => exact pz_up ih
theorem Wf.pz {n m : Nat} {rows : List (List Bool)} (h : Wf n m rows) (hn : n ≤ 4) : Pz 2 (tabD n m rows) := by
  have hp : 2 ^ n ≤ 16 := two_pow_le (b := 4) hn
  have h1 := h.len
  have h2 := h.m2
  refine ⟨(by show 4 ≤ 100; decide), fun x hx => ?_⟩
  rcases List.mem_cons.mp hx with e | hx
  · rw [e]
    exact pz_str.mpr ⟨by decide +kernel, by decide +kernel⟩
  rcases List.mem_cons.mp hx with e | hx
  · rw [e]
    exact pz_int (by omega)
  rcases List.mem_cons.mp hx with e | hx
  · rw [e]
    exact pz_int (by omega)
  · rw [List.mem_singleton.mp hx]
    refine ⟨by rw [List.length_map]; omega, fun y hy => ?_⟩
    obtain ⟨r, hr, rfl⟩ := List.mem_map.mp hy
    refine pz_str.mpr ⟨(okT_sb (by have := h.row r hr; omega)).1, ?_⟩
    rw [sb_len, h.row r hr]
    omega
/-- a plain breaker, so deep and so large at most, on a heap -/
def PG (K : PySem.W.Frag) (G : Hp) (j : Nat) (v : V) : Prop := ∃ D, Dp K G v D ∧ Pz (3 * j) D ∧ okN j D = true ∧ szN j D ≤ bsz j
def PB (K : PySem.W.Frag) (a : Addr) (H : Hp) (j : Nat) (v : V) : Prop := PG K (off a H) j v
theorem PG.same {K : PySem.W.Frag} {G G' : Hp} {j : Nat} {v : V} (h : PG K G j v) (k : Same G G') : PG K G' j v := by
  obtain ⟨D, h1, h2⟩ := h
  exact ⟨D, dp_same k D h1, h2⟩
theorem PB.keep {K : PySem.W.Frag} {a : Addr} {H H' : Hp} {j : Nat} {v : V} (h : PB K a H j v) (k : Keep a H H') : PB K a H' j v := PG.same h k.off
theorem pg_all {K : PySem.W.Frag} {G : Hp} {j : Nat} : ∀ {ws : List V}, (∀ v ∈ ws, PG K G j v) → ∃ ds, DpAll K G ws ds ∧ ∀ x ∈ ds, Pz (3 * j) x ∧ okN j x = true ∧ szN j x ≤ bsz j
  | [], _ => ⟨[], .nil, fun x hx => (nomatch hx)⟩
  | v :: ws, h => by
    obtain ⟨D, h1, h2⟩ := h v List.mem_cons_self
    obtain ⟨ds, g1, g2⟩ := pg_all fun x hx => h x (List.mem_cons_of_mem _ hx)
    refine ⟨D :: ds, .cons h1 g1, fun x hx => ?_⟩
    rcases List.mem_cons.mp hx with e | hx
    · exact e ▸ h2
    · exact g2 x hx
theorem sqt_offL {K : PySem.W.Frag} {L p : Addr} {H : Hp} {xs ys : List V} (e : H L = some (.lst ys)) (s : SqT K H p xs) : SqT K (off L H) p xs := by
  rcases s with (h | ⟨o, h⟩) | h
  · have hp : p ≠ L := fun z => by
      rw [z, e] at h
      cases h
    exact .inl (.inl (by rw [off_ne hp]; exact h))
  · have hp : p ≠ L := fun z => by
      rw [z, e] at h
      cases h
    exact .inl (.inr ⟨o, by rw [off_ne hp]; exact h⟩)
  · exact .inr h
mutual
theorem dp_offL {K : PySem.W.Frag} {L : Addr} {H : Hp} {ys : List V} (e : H L = some (.lst ys)) : ∀ (D : PyData) {n : Nat} {v : V}, Pl n D → Dp K H v D → Dp K (off L H) v D
  | .int _, _, _, _, .int i => .int i
  | .str _, _, _, _, .str x => .str x
  | .tuple xs, _, _, h, .tup hs ha => .tup (sqt_offL e hs) (dps_offL e xs (by
      obtain ⟨_, m, _, hx⟩ := pl_tup h
      exact fun x hx' => ⟨m, hx x hx'⟩) ha)
  | .none, n, _, h, _ => by cases n <;> exact h.elim
  | .bool _, n, _, h, _ => by cases n <;> exact h.elim
  | .list _, n, _, h, _ => by cases n <;> exact h.elim
  | .dict _, n, _, h, _ => by cases n <;> exact h.elim
theorem dps_offL {K : PySem.W.Frag} {L : Addr} {H : Hp} {ys : List V} (e : H L = some (.lst ys)) : ∀ (ds : List PyData) {vs : List V}, (∀ x ∈ ds, ∃ n, Pl n x) → DpAll K H vs ds → DpAll K (off L H) vs ds
  | [], _, _, .nil => .nil
  | d :: ds, _, h, .cons h1 t => by
    obtain ⟨n, hn⟩ := h d List.mem_cons_self
    exact .cons (dp_offL e d hn h1) (dps_offL e ds (fun x hx => h x (List.mem_cons_of_mem _ hx)) t)
end
theorem PG.offL {K : PySem.W.Frag} {G : Hp} {L : Addr} {ys : List V} {j : Nat} {v : V} (h : PG K G j v) (e : G L = some (.lst ys)) : PG K (off L G) j v := by
  obtain ⟨D, h1, h2, h3⟩ := h
  exact ⟨D, dp_offL e D (pz_pl h2) h1, h2, h3⟩
theorem pl_up : ∀ {n : Nat} {d : PyData}, Pl n d → Pl (n + 1) d
  | 0, .int _, h => h
  | 0, .str _, h => h
  | n + 1, .int _, h => h
  | n + 1, .str _, h => h
  | n + 1, .tuple xs, h => ⟨h.1, fun x hx => pl_up (h.2 x hx)⟩
theorem pl_le {n m : Nat} {d : PyData} (h : Pl n d) (hm : n ≤ m) : Pl m d := by
  induction hm with
  | refl => exact h
  | step _ ih => exact pl_up ih
def spParts8 (K : PySem.W.Frag) : Sp := fun vs H Q _ => ∃ (a d : Addr) (len : Nat), vs = [.ref a, .int (len : Int)] ∧ len ≤ 100 ∧ Hnd H a d ∧ ∀ (p : Addr) (ds : List V × List PyData) (H' : Hp), DpAll K (fun _ => none) ds.1 ds.2 → H' p = some (.tup ds.1) → p ≠ a → (∀ x ∈ ds.2, partOk x = true ∧ Pz 0 x) → ds.2.length ≤ 100 → Hnd H' a d → Keep a H H' → Q (.ref p) H'
def spBr (K : PySem.W.Frag) (j : Nat) : Sp := fun vs H Q _ => ∃ (a d : Addr) (dep asks len said : Nat), vs = [.ref a, .int (dep : Int), .int (asks : Int), .int (len : Int), .int (said : Int)] ∧ dep ≤ j ∧ len ≤ 90 ∧ said ≤ 90 ∧ Hnd H a d ∧ ∀ v H', PB K a H' (dep + 1) v → Hnd H' a d → Keep a H H' → Q v H'
def spBrB (K : PySem.W.Frag) (j : Nat) : Sp := fun vs H Q E => 1 ≤ j ∧ spBr K (j - 1) vs H Q E
theorem dps_none {K : PySem.W.Frag} {H : Hp} {vs : List V} {ds : List PyData} (h : DpAll K (fun _ => none) vs ds) : DpAll K H vs ds := dps_same (fun _ _ e => by cases e) ds h
theorem dp_new {K : PySem.W.Frag} {a p : Addr} {H : Hp} {vs : List V} {ds : List PyData} (pa : p ≠ a) (e : H p = some (.tup vs)) (h : DpAll K (off a H) vs ds) : Dp K (off a H) (.ref p) (.tuple ds) := .tup (.inl (.inl (by rw [off_ne pa]; exact e))) h
theorem parts_all {ds : List PyData} (h : ∀ x ∈ ds, partOk x = true ∧ Pz 0 x) : partsOk (.tuple ds) = true := by
  show ds.all partOk = true
  rw [List.all_eq_true]
  exact fun x hx => (h x hx).1
theorem gd_any {n : Nat} {d : PyData} (h : Gd 0 d) : Gd n d := gd_le h (Nat.zero_le _)
theorem pz_parts {ds : List PyData} {n : Nat} (h : ∀ x ∈ ds, partOk x = true ∧ Pz 0 x) (hl : ds.length ≤ 100) : Pz (n + 1) (.tuple ds) := ⟨hl, fun x hx => pz_le (h x hx).2 (Nat.zero_le _)⟩
theorem pz_word {x : Str} (h : PySem.PyData.strOk x = true := by decide +kernel) (h2 : x.length ≤ 100 := by decide +kernel) {n : Nat} : Pz n (.str x) := pz_str.mpr ⟨h, h2⟩
theorem kids_say {r : List PyData} : kidsD (.tuple (.str "say" :: r)) = r.drop 1 := kids_other (by rw [named_str]; decide)
theorem kids_look {r : List PyData} : kidsD (.tuple (.str "look" :: r)) = r.drop 1 := kids_other (by rw [named_str]; decide)
theorem kids_ask {r : List PyData} : kidsD (.tuple (.str "ask" :: r)) = r.drop 1 := kids_other (by rw [named_str]; decide)
theorem looks_say {r : List PyData} : looksOk (.tuple (.str "say" :: r)) = sayOk r := by
  rw [looks_eq, named_str, if_pos (by decide)]
theorem looks_toss {r : List PyData} : looksOk (.tuple (.str "toss" :: r)) = tossOk r := by
  rw [looks_eq, named_str, named_str, if_neg (by decide), if_pos (by decide)]
theorem looks_look {r : List PyData} : looksOk (.tuple (.str "look" :: r)) = lookOk r := by
  rw [looks_eq, named_str, named_str, named_str, if_neg (by decide), if_neg (by decide), if_pos (by decide)]
theorem looks_ask {r : List PyData} : looksOk (.tuple (.str "ask" :: r)) = askOk r := by
  rw [looks_eq, named_str, named_str, named_str, named_str, if_neg (by decide), if_neg (by decide), if_neg (by decide), decide_eq_true rfl, Bool.true_and]
theorem ok_say {j : Nat} {ds : List PyData} (h : partsOk (.tuple ds) = true) : okN (j + 1) (.tuple [.str "say", .tuple ds]) = true ∧ szN (j + 1) (.tuple [.str "say", .tuple ds]) = 1 := by
  constructor
  · show (looksOk _ && (kidsD _).all _) = true
    rw [looks_say, kids_say, show sayOk [.tuple ds] = partsOk (.tuple ds) from rfl, h]
    rfl
  · show 1 + _ = 1
    rw [kids_say]
    rfl
theorem ok_look {j : Nat} {i : Int} {x y : PyData} (h0 : 0 ≤ i) (h1 : i ≤ 9999) (hx : okN j x = true) (hy : okN j y = true) : okN (j + 1) (.tuple [.str "look", .int i, x, y]) = true ∧ szN (j + 1) (.tuple [.str "look", .int i, x, y]) = 1 + (szN j x + szN j y) := by
  constructor
  · show (looksOk _ && (kidsD _).all _) = true
    rw [looks_look, kids_look, show lookOk [.int i, x, y] = (decide (0 ≤ i) && decide (i ≤ 9999)) from rfl, decide_eq_true h0, decide_eq_true h1]
    show (okN j x && (okN j y && true)) = true
    rw [hx, hy]
    rfl
  · show 1 + _ = _
    rw [kids_look]
    show 1 + (szN j x + (szN j y + 0)) = _
    omega
theorem ok_askD {j : Nat} {ds : List PyData} {x : PyData} (h : partsOk (.tuple ds) = true) (hx : okN j x = true) : okN (j + 1) (.tuple [.str "ask", .tuple ds, x]) = true ∧ szN (j + 1) (.tuple [.str "ask", .tuple ds, x]) = 1 + szN j x := by
  constructor
  · show (looksOk _ && (kidsD _).all _) = true
    rw [looks_ask, kids_ask, show askOk [.tuple ds, x] = partsOk (.tuple ds) from rfl, h]
    show (okN j x && true) = true
    rw [hx]
    rfl
  · show 1 + _ = _
    rw [kids_ask]
    show 1 + (szN j x + 0) = _
    omega
theorem ok_toss {j : Nat} {xs : List PyData} (h1 : 1 ≤ xs.length) (h2 : xs.length ≤ 64) (hx : ∀ x ∈ xs, okN j x = true) : okN (j + 1) (.tuple [.str "toss", .tuple xs]) = true ∧ szN (j + 1) (.tuple [.str "toss", .tuple xs]) = 1 + (xs.map (szN j)).sum := by
  have hn : named "toss" (.str "toss") = true := by rw [named_str]; decide
  constructor
  · show (looksOk _ && (kidsD _).all _) = true
    rw [looks_toss, kids_toss hn, show tossOk [.tuple xs] = (decide ((1 : Int) ≤ (xs.length : Int)) && decide ((xs.length : Int) ≤ 64)) from rfl, decide_eq_true (by omega), decide_eq_true (by omega), List.all_eq_true.mpr hx]
    rfl
  · show 1 + _ = _
    rw [kids_toss hn]
theorem sum_le {α : Type} {f : α → Nat} {m : Nat} : ∀ {l : List α}, (∀ x ∈ l, f x ≤ m) → (l.map f).sum ≤ l.length * m
  | [], _ => Nat.zero_le _
  | x :: l, h => by
    rw [List.map_cons, List.sum_cons, List.length_cons, Nat.succ_mul]
    have h1 := h x List.mem_cons_self
    have h2 := sum_le fun y hy => h y (List.mem_cons_of_mem x hy)
    omega

def paD : Pa → PyData
  | .bit b => .str (sb [b])
  | .ref i => .int (i : Int)
def psD (ps : List Pa) : PyData := .tuple (ps.map paD)
mutual
def brD : Br → PyData
  | .say ps => .tuple [.str "say", psD ps]
  | .toss bs => .tuple [.str "toss", .tuple (brsD bs)]
  | .look i a b => .tuple [.str "look", .int (i : Int), brD a, brD b]
  | .ask ps a => .tuple [.str "ask", psD ps, brD a]
def brsD : List Br → List PyData
  | [] => []
  | b :: bs => brD b :: brsD bs
end
theorem named_inv {x : Str} {k : PyData} (h : named x k = true) : k = .str x := by
  unfold named at h
  cases k with
  | str z =>
    simp only [PyData.eqv] at h
    rw [eq_of_beq h]
  | _ => simp only [PyData.eqv] at h; cases h
theorem part_inv {d : PyData} (h : partOk d = true) : ∃ p, d = paD p ∧ paOk p := by
  cases d with
  | str x =>
    have h : (decide (x = "0") || decide (x = "1")) = true := h
    rcases Bool.or_eq_true_iff.mp h with e | e
    · have e := of_decide_eq_true e
      subst e
      exact ⟨.bit false, by show PyData.str "0" = .str (sb [false]); congr 1, trivial⟩
    · have e := of_decide_eq_true e
      subst e
      exact ⟨.bit true, by show PyData.str "1" = .str (sb [true]); congr 1, trivial⟩
  | int i =>
    have h : (decide (0 ≤ i) && decide (i ≤ 9999)) = true := h
    obtain ⟨h1, h2⟩ := Bool.and_eq_true_iff.mp h
    have h1 := of_decide_eq_true h1
    have h2 := of_decide_eq_true h2
    refine ⟨.ref i.toNat, ?_, ?_⟩
    · show PyData.int i = .int ((i.toNat : Nat) : Int)
      rw [show ((i.toNat : Nat) : Int) = i by omega]
    · show i.toNat ≤ 9999
      omega
  | _ => cases h
theorem parts_inv {p : PyData} (h : partsOk p = true) : ∃ ps, p = psD ps ∧ ∀ q ∈ ps, paOk q := by
  cases p with
  | tuple xs =>
    have h : xs.all partOk = true := h
    induction xs with
    | nil => exact ⟨[], rfl, fun _ h => nomatch h⟩
    | cons x xs ih =>
      rw [List.all_cons, Bool.and_eq_true] at h
      obtain ⟨q, rfl, hq⟩ := part_inv h.1
      obtain ⟨ps, e, hp⟩ := ih h.2 h.2
      injection e with e
      subst e
      refine ⟨q :: ps, rfl, fun y hy => ?_⟩
      rcases List.mem_cons.mp hy with z | z
      · rw [z]
        exact hq
      · exact hp y z
  | _ => cases h
theorem brs_view {n : Nat} (ih : ∀ D, okN n D = true → ∃ b, D = brD b ∧ okB n b) : ∀ xs : List PyData, xs.all (okN n) = true → ∃ bs, xs = brsD bs ∧ ∀ b ∈ bs, okB n b
  | [], _ => ⟨[], rfl, fun _ h => nomatch h⟩
  | x :: xs, h => by
    rw [List.all_cons, Bool.and_eq_true] at h
    obtain ⟨b, rfl, hb⟩ := ih x h.1
    obtain ⟨bs, rfl, hbs⟩ := brs_view ih xs h.2
    refine ⟨b :: bs, rfl, fun y hy => ?_⟩
    rcases List.mem_cons.mp hy with z | z
    · rw [z]
      exact hb
    · exact hbs y z
theorem br_view : ∀ (n : Nat) (D : PyData), okN n D = true → ∃ b, D = brD b ∧ okB n b
  | 0, D, h => by cases h
  | n + 1, D, h => by
    obtain ⟨h1, h2⟩ := Bool.and_eq_true_iff.mp (show (looksOk D && (kidsD D).all (okN n)) = true from h)
    cases D with
    | tuple xs =>
      cases xs with
      | nil => cases h1
      | cons k r =>
        have h1 : (if named "say" k then sayOk r else if named "toss" k then tossOk r else if named "look" k then lookOk r else named "ask" k && askOk r) = true := h1
        by_cases c1 : named "say" k = true
        · rw [if_pos c1] at h1
          obtain rfl := named_inv c1
          match r, h1 with
          | [p], h1 =>
            obtain ⟨ps, rfl, hp⟩ := parts_inv h1
            exact ⟨.say ps, rfl, hp⟩
        · rw [if_neg c1] at h1
          by_cases c2 : named "toss" k = true
          · rw [if_pos c2] at h1
            have ek := named_inv c2
            match r, h1 with
            | [.tuple xs], h1 =>
              have hk : kidsD (.tuple [k, .tuple xs]) = xs := by
                show (if named "toss" k then xs else _) = xs
                rw [if_pos c2]
              rw [hk] at h2
              obtain ⟨bs, rfl, hb⟩ := brs_view (br_view n) xs h2
              obtain ⟨l1, _⟩ := Bool.and_eq_true_iff.mp (show (decide ((1 : Int) ≤ ((brsD bs).length : Int)) && decide (((brsD bs).length : Int) ≤ 64)) = true from h1)
              have l1 := of_decide_eq_true l1
              subst ek
              refine ⟨.toss bs, rfl, fun e => ?_, hb⟩
              subst e
              exact absurd l1 (by decide)
          · rw [if_neg c2] at h1
            have hk : kidsD (.tuple (k :: r)) = r.drop 1 := by
              show (if named "toss" k then _ else r.drop 1) = r.drop 1
              rw [if_neg c2]
            rw [hk] at h2
            by_cases c3 : named "look" k = true
            · rw [if_pos c3] at h1
              obtain rfl := named_inv c3
              match r, h1, h2 with
              | [m, x, y], h1, h2 =>
                have h2 : (okN n x && (okN n y && true)) = true := h2
                rw [Bool.and_true, Bool.and_eq_true] at h2
                obtain ⟨a, rfl, ha⟩ := br_view n x h2.1
                obtain ⟨b, rfl, hb⟩ := br_view n y h2.2
                have h1 : whole m 0 9999 = true := h1
                cases m with
                | int i =>
                  obtain ⟨p, e, hp⟩ := part_inv (d := .int i) h1
                  cases p with
                  | ref j =>
                    injection e with e
                    subst e
                    exact ⟨.look j a b, rfl, hp, ha, hb⟩
                  | bit _ => cases e
                | _ => cases h1
            · rw [if_neg c3] at h1
              obtain ⟨c4, h1⟩ := Bool.and_eq_true_iff.mp h1
              obtain rfl := named_inv c4
              match r, h1, h2 with
              | [p, x], h1, h2 =>
                have h3 : (okN n x && true) = true := h2
                rw [Bool.and_true] at h3
                obtain ⟨ps, rfl, hp⟩ := parts_inv h1
                obtain ⟨a, rfl, ha⟩ := br_view n x h3
                exact ⟨.ask ps a, rfl, hp, ha⟩
    | _ => cases h1
theorem brsD_len : ∀ bs : List Br, (brsD bs).length = bs.length
  | [] => rfl
  | b :: bs => congrArg Nat.succ (brsD_len bs)
theorem brsD_map : ∀ bs : List Br, brsD bs = bs.map brD
  | [] => rfl
  | b :: bs => congrArg (brD b :: ·) (brsD_map bs)
theorem brsD_at : ∀ {bs : List Br} {i : Nat} {d : PyData}, (brsD bs)[i]? = some d → ∃ b, bs[i]? = some b ∧ d = brD b
  | [], i, d, h => by cases i <;> cases h
  | b :: bs, 0, d, h => ⟨b, rfl, (Option.some.inj h).symm⟩
  | b :: bs, i + 1, d, h => brsD_at (bs := bs) (i := i) h

mutual
def nB : Br → Nat
  | .say _ => 1
  | .toss bs => 1 + nBs bs
  | .look _ a b => 1 + (nB a + nB b)
  | .ask _ a => 1 + nB a
def nBs : List Br → Nat
  | [] => 0
  | b :: bs => nB b + nBs bs
end

theorem pz_tup {n : Nat} {xs : List PyData} (h : Pz n (.tuple xs)) : xs.length ≤ 100 ∧ ∃ m, n = m + 1 ∧ ∀ x ∈ xs, Pz m x := by
  cases n with
  | zero => exact h.elim
  | succ m => exact ⟨h.1, m, rfl, h.2⟩
theorem okW_of : ∀ {n k : Nat} {b : Br}, okB n b → okN n (brD b) = true → Pz k (brD b) → okW 100 n b
  | 0, _, _, h, _, _ => h.elim
  | n + 1, k, .say ps, h, g, z => by
    obtain ⟨_, k1, rfl, z1⟩ := pz_tup z
    obtain ⟨l, _⟩ := pz_tup (z1 (psD ps) (by simp))
    rw [List.length_map] at l
    exact l
  | n + 1, k, .toss bs, h, g, z => by
    obtain ⟨g1, g2⟩ := Bool.and_eq_true_iff.mp (show (looksOk (.tuple [.str "toss", .tuple (brsD bs)]) && (kidsD (.tuple [.str "toss", .tuple (brsD bs)])).all (okN n)) = true from g)
    rw [looks_toss] at g1
    rw [kids_toss (by rw [named_str]; decide), List.all_eq_true] at g2
    obtain ⟨_, g3⟩ := Bool.and_eq_true_iff.mp (show (decide ((1 : Int) ≤ ((brsD bs).length : Int)) && decide (((brsD bs).length : Int) ≤ 64)) = true from g1)
    have g3 := of_decide_eq_true g3
    rw [brsD_len] at g3
    obtain ⟨_, k1, rfl, z1⟩ := pz_tup z
    obtain ⟨_, k2, rfl, z2⟩ := pz_tup (z1 (.tuple (brsD bs)) (by simp))
    refine ⟨by omega, fun b hb => ?_⟩
    have hm : brD b ∈ brsD bs := by
      rw [brsD_map]
      exact List.mem_map.mpr ⟨b, hb, rfl⟩
    exact okW_of (h.2 b hb) (g2 _ hm) (z2 _ hm)
  | n + 1, k, .look i a b, h, g, z => by
    obtain ⟨_, g2⟩ := Bool.and_eq_true_iff.mp (show (looksOk (.tuple [.str "look", .int (i : Int), brD a, brD b]) && (kidsD (.tuple [.str "look", .int (i : Int), brD a, brD b])).all (okN n)) = true from g)
    rw [kids_look] at g2
    have g2 : (okN n (brD a) && (okN n (brD b) && true)) = true := g2
    rw [Bool.and_true, Bool.and_eq_true] at g2
    obtain ⟨_, k1, rfl, z1⟩ := pz_tup z
    exact ⟨okW_of h.2.1 g2.1 (z1 _ (by simp)), okW_of h.2.2 g2.2 (z1 _ (by simp))⟩
  | n + 1, k, .ask ps a, h, g, z => by
    obtain ⟨_, g2⟩ := Bool.and_eq_true_iff.mp (show (looksOk (.tuple [.str "ask", psD ps, brD a]) && (kidsD (.tuple [.str "ask", psD ps, brD a])).all (okN n)) = true from g)
    rw [kids_ask] at g2
    have g2 : (okN n (brD a) && true) = true := g2
    rw [Bool.and_true] at g2
    obtain ⟨_, k1, rfl, z1⟩ := pz_tup z
    obtain ⟨l, _⟩ := pz_tup (z1 (psD ps) (by simp))
    rw [List.length_map] at l
    exact ⟨l, okW_of h.2 g2 (z1 _ (by simp))⟩

theorem paD_ok {p : Pa} (h : paOk p) : partOk (paD p) = true := by
  cases p with
  | bit b => cases b <;> decide +kernel
  | ref i =>
    have h : i ≤ 9999 := h
    show (decide ((0 : Int) ≤ (i : Int)) && decide ((i : Int) ≤ 9999)) = true
    rw [decide_eq_true (by omega), decide_eq_true (by omega)]
    rfl
theorem psD_ok {ps : List Pa} (h : ∀ p ∈ ps, paOk p) : partsOk (psD ps) = true := by
  show (ps.map paD).all partOk = true
  rw [List.all_eq_true]
  intro x hx
  obtain ⟨p, hp, rfl⟩ := List.mem_map.mp hx
  exact paD_ok (h p hp)
theorem nBs_sum : ∀ bs : List Br, nBs bs = (bs.map nB).sum
  | [] => rfl
  | b :: bs => by
    rw [List.map_cons, List.sum_cons, ← nBs_sum bs]
    rfl
theorem br_ok {m : Nat} : ∀ {n : Nat} {b : Br}, okB n b → okW m n b → okN n (brD b) = true ∧ szN n (brD b) = nB b
  | 0, _, h, _ => h.elim
  | n + 1, .say ps, h, g => ok_say (psD_ok h)
  | n + 1, .toss bs, h, g => by
    have hl : 1 ≤ (brsD bs).length := by
      rw [brsD_len]
      cases bs with
      | nil => exact absurd rfl h.1
      | cons _ _ => exact Nat.succ_le_succ (Nat.zero_le _)
    have k := ok_toss (j := n) hl (by rw [brsD_len]; exact g.1) (fun x hx => by
      rw [brsD_map] at hx
      obtain ⟨b, hb, rfl⟩ := List.mem_map.mp hx
      exact (br_ok (h.2 b hb) (g.2 b hb)).1)
    refine ⟨k.1, k.2.trans ?_⟩
    show 1 + _ = 1 + nBs bs
    rw [nBs_sum, brsD_map, List.map_map]
    refine congrArg (fun z => 1 + List.sum z) (List.map_congr_left fun b hb => ?_)
    exact (br_ok (h.2 b hb) (g.2 b hb)).2
  | n + 1, .look i a b, h, g => by
    have h0 : i ≤ 9999 := h.1
    have h1 := br_ok h.2.1 g.1
    have h2 := br_ok h.2.2 g.2
    have k := ok_look (j := n) (i := (i : Int)) (by omega) (by omega) h1.1 h2.1
    refine ⟨k.1, k.2.trans ?_⟩
    rw [h1.2, h2.2]
    rfl
  | n + 1, .ask ps a, h, g => by
    have h1 := br_ok h.2 g.2
    have k := ok_askD (j := n) (psD_ok h.1) h1.1
    refine ⟨k.1, k.2.trans ?_⟩
    rw [h1.2]
    rfl
theorem br_made : ∀ b : Br, madeD (brD b) = false
  | .say _ => by
    show madeZ "say" = false
    decide +kernel
  | .toss _ => by
    show madeZ "toss" = false
    decide +kernel
  | .look _ _ _ => by
    show madeZ "look" = false
    decide +kernel
  | .ask _ _ => by
    show madeZ "ask" = false
    decide +kernel
theorem br_brOk {m n : Nat} {b : Br} (h : okB n b) (g : okW m n b) (hn : n ≤ 60) (hs : nB b ≤ 2001) : brOk (brD b) = true := by
  obtain ⟨h, g⟩ := okB_le h g hn
  obtain ⟨k1, k2⟩ := br_ok h g
  show chk 20 (brD b) = true
  rw [chk_plain (br_made b)]
  show (okN 60 (brD b) && decide (szN 60 (brD b) ≤ 2001)) = true
  rw [k1, k2, decide_eq_true hs]
  rfl

theorem toB_front : ∀ (i k : Nat), toB (i + 1) k = (k / 2 ^ i % 2 == 1) :: toB i k
  | 0, k => by
    show [k % 2 == 1] = [k / 1 % 2 == 1]
    rw [Nat.div_one]
  | i + 1, k => by
    show toB (i + 1) (k / 2) ++ [k % 2 == 1] = _
    rw [toB_front i]
    show (k / 2 / 2 ^ i % 2 == 1) :: (toB i (k / 2) ++ [k % 2 == 1]) = (k / 2 ^ (i + 1) % 2 == 1) :: toB (i + 1) k
    rw [Nat.div_div_eq_div_mul, ← Nat.pow_succ']
    rfl
def spBitsS : Sp := fun vs H Q _ => ∃ n k : Nat, vs = [.int (n : Int), .int (k : Int)] ∧ n ≤ 20 ∧ Q (.str (sb (toB n k))) H

theorem str_bit (k : Nat) : Str.ofString (toString ((k : Int) % 2)) = sb [k % 2 == 1] := by
  have h : ((k : Int) % 2) = ((k % 2 : Nat) : Int) := by omega
  rw [h]
  rcases Nat.mod_two_eq_zero_or_one k with z | z <;> rw [z] <;> decide +kernel

section
variable {P : Program} {w : World} {K : PySem.W.Frag} {mg : Str → Option Value} {base : Heap} {cs : Cs}
theorem map_int_set (rs : List Int) (j : Nat) (x : Int) : (rs.map V.int).set j (.int x) = (rs.set j x).map V.int := by
  rw [List.map_set]
theorem at_int {rs : List Int} {j : Nat} {z : Int} (h : rs[j]? = some z) : atI (rs.map V.int) ((j : Nat) : Int) = some (.int z) := atI_nat (by
  rw [List.getElem?_map, h]
  rfl)
theorem ok_draws {f : Addr} {fd : FuncData} (D : Df K mg "_law_draws" s_law_draws ["script", "many"] f fd) (T : Txt K w mg cs) : FnOk P w K mg base CX0 1 f fd ["script", "many"] (spDraws K) := by
  refine D.fn.ok sc_law_draws (fun vs H Q E h => ?_) (fun cdv A outer s H vs Q E hr h => ?_)
  · obtain ⟨a, ns, many, rfl, _⟩ := h
    rfl
  · obtain ⟨a, ns, many, rfl, hS, hl, hm, q⟩ := h
    refine ⟨_, (pss_cons (ps_setLc (i := 2) (own := [("cell", 5)]) (g := gName 5) (tt := tYes) rfl sc_law_draws.nd rfl rfl (sw_true rfl rfl rfl (by decide +kernel)) (pi_list (pv 0)) (blkOk_by (own := [("cell", 5)]) (N := ["script", "many", "rests", "draws", "k", "cell", "at", "mixed"]) (sc := defScope s_law_draws) (by decide +kernel)) (fun _ _ _ _ _ => (pg_name (i := 5) sc_law_draws.nd rfl (.inl rfl))) (fun _ _ _ _ _ => pts_nil) (fun _ _ _ _ _ => (pe_callB call_abs (by rfl) T.n_abs (by decide +kernel) (pa_cons (pe_callTy call_int1 (by rfl) T.n_int (by decide +kernel) (pa_cons (pv 5) pa_nil)) pa_nil)))) (pss_cons (ps_set (i := 3) sc_law_draws.nd rfl (.inl rfl) (pe_lst pa_nil)) (pss_cons (ps_for PassesOwn.never rfl (pi_range1 (by rfl) T.n_range (pa_cons (pv 1) pa_nil)) (pg_name (i := 4) sc_law_draws.nd rfl (.inl rfl)) (pss_cons (ps_set (i := 5) sc_law_draws.nd rfl (.inl rfl) (pv 4)) (C8.pss_cut (ps_if (pt_cmpR op_gt (pe_callB (lenS K) (by rfl) T.n_len (by decide +kernel) (pa_cons (pv 0) pa_nil)) pe_int (nomark _)) (pss_cons (ps_set (i := 6) sc_law_draws.nd rfl (.inl rfl) (pe_op op_mod (pv 4) (pe_callB (lenS K) (by rfl) T.n_len (by decide +kernel) (pa_cons (pv 0) pa_nil)))) (pss_cons (ps_set (i := 5) sc_law_draws.nd rfl (.inl rfl) (pe_callTy call_int1 (by rfl) T.n_int (by decide +kernel) (pa_cons (pe_ix (ixL K) (pv 0) (pv 6) (fun _ _ => rfl)) pa_nil))) (pss_one (ps_if (PW.pt (pw_and (pt_cmpR op_ge (pv 5) (pe_op op_pow pe_int pe_int) (nomark _)) (pw_and1 (pt_cmpR op_gt (pe_ix (ixL K) (pv 2) (pv 6) (fun _ _ => rfl)) pe_int (nomark _))))) (pss_cons (ps_expr (pe_bm PySem.F.plainAttrs_list PySem.F.slot_list_append PySem.F.type_list_append mt_append (pv 3) (pa_cons (pe_op op_mod (pe_callTy call_int1 (by rfl) T.n_int (by decide +kernel) (pa_cons (pe_ix (ixL K) (pv 2) (pv 6) (fun _ _ => rfl)) pa_nil)) pe_int) pa_nil))) (pss_cons (ps_asg (pe_op op_fdiv (pe_callTy call_int1 (by rfl) T.n_int (by decide +kernel) (pa_cons (pe_ix (ixL K) (pv 2) (pv 6) (fun _ _ => rfl)) pa_nil)) pe_int) (pg_sub (pv 2) (pv 6) set_list)) (pss_one ps_continue))) pss_nil)))) pss_nil) (pss_cons (ps_set (i := 7) sc_law_draws.nd rfl (.inl rfl) (pe_op op_mod (pe_callTy call_int1 (by rfl) T.n_int (by decide +kernel) (pa_cons (pe_op op_add (pe_op op_add (pe_op op_mul (pv 5) pe_int) (pe_op op_mul (pv 4) pe_int)) pe_int) pa_nil)) pe_int)) (pss_cons (ps_set (i := 7) sc_law_draws.nd rfl (.inl rfl) (pe_op op_mod (pe_callTy call_int1 (by rfl) T.n_int (by decide +kernel) (pa_cons (pe_op op_add (pe_op op_fdiv (pe_op op_mul (pv 7) (pv 7)) pe_int) (pv 7)) pa_nil)) pe_int)) (pss_one (ps_expr (pe_bm PySem.F.plainAttrs_list PySem.F.slot_list_append PySem.F.type_list_append mt_append (pv 3) (pa_cons (pe_op op_mod (pe_callTy call_int1 (by rfl) T.n_int (by decide +kernel) (pa_cons (pe_op op_add (pe_op op_fdiv (pe_op op_mul (pv 7) (pv 7)) pe_int) (pe_op op_mul (pv 4) pe_int)) pa_nil)) pe_int) pa_nil))))))))) (pss_one (ps_ret (pv 3)))))), ?_⟩
    -- rests
    refine ⟨_, rfl, a, rfl, ⟨_, hS⟩, fun R hR => ?_⟩
    refine lc_list (xs := ns.map V.int) (fun i H' => ∃ rs : List Int, rs.length = i ∧ (∀ x ∈ rs, 0 ≤ x) ∧ Same H H' ∧ H' R = some (.lst (rs.map V.int))) ?_ ?_ ?_ ?_
    · exact ⟨[], rfl, fun x hx => (nomatch hx), same_new hR, upd_same⟩
    · rintro i H' _ ⟨rs, _, _, hs, _⟩
      exact hs.seq hS
    · rintro i x H' hx ⟨rs, hn, h0, hs, hr'⟩
      obtain ⟨z, hz⟩ : ∃ z, x = V.int z := by
        rw [List.getElem?_map] at hx
        cases e : ns[i]? with
        | none =>
          rw [e] at hx
          cases hx
        | some z =>
          rw [e] at hx
          exact ⟨z, (Option.some.inj hx).symm⟩
      subst hz
      have hi : i < ns.length := by
        have := (List.getElem?_eq_some_iff.mp hx).1
        rw [List.length_map] at this
        exact this
      refine ⟨rfl, ?_⟩
      refine ⟨_, rfl, .inl ⟨_, rfl, _, rfl, _, hr', ?_, ?_⟩⟩
      · rw [List.length_map]
        exact small1000 (by omega)
      · refine ⟨rs ++ [if z < 0 then -z else z], by rw [List.length_append, hn]; rfl, ?_, ?_, ?_⟩
        · intro y hy
          rcases List.mem_append.mp hy with hy | hy
          · exact h0 y hy
          · rw [List.mem_singleton.mp hy]
            split <;> omega
        · intro b o e
          rw [upd_ne (ne_of_none e hR)]
          exact hs b o e
        · rw [upd_same, List.map_append]
          rfl
    · rintro H1 ⟨rs, hn, h0, s1, e1⟩
      rw [List.length_map] at hn
      -- draws = []
      refine ⟨Nat.zero_le _, fun L hL => ?_⟩
      have nRL : R ≠ L := ne_of_none e1 hL
      have hL0 : H L = none := s1.free hL
      -- the loop
      refine ⟨_, rfl, _, rfl, by omega, by omega, for_range (lo := 0) (n := many) (fun i σ H' => ∃ (rs ds : List Int) (y4 y5 y6 y7 : Option V), σ = [some (.ref a), some (.int (many : Int)), some (.ref R), some (.ref L), y4, y5, y6, y7] ∧
        rs.length = ns.length ∧ (∀ x ∈ rs, 0 ≤ x) ∧ ds.length = i ∧ (∀ x ∈ ds, 0 ≤ x) ∧ Same H H' ∧ H' R = some (.lst (rs.map V.int)) ∧ H' L = some (.lst (ds.map V.int))) ?_ ?_ ?_⟩
      · refine ⟨rs, [], none, none, none, none, rfl, hn, h0, rfl, fun x hx => (nomatch hx), s1.trans (same_new hL), ?_, upd_same⟩
        rw [upd_ne nRL]
        exact e1
      · clear e1 hn h0 rs s1 hL
        rintro i σ H' hi ⟨rs, ds, y4, y5, y6, y7, rfl, hn, h0, hd, hd0, s1, e1, e2⟩
        have hSL : SqL K H' a (ns.map V.int) := s1.seq hS
        -- what the rest of the turn asks: a number is put behind the draws
        have put : ∀ (x : Int) (σ' : L2.St) (H2 : Hp) (rs' : List Int), 0 ≤ x → rs'.length = ns.length → (∀ x ∈ rs', 0 ≤ x) → Same H H2 → H2 R = some (.lst (rs'.map V.int)) → H2 L = some (.lst ((ds ++ [x]).map V.int)) →
            (∃ y4 y5 y6 y7 : Option V, σ' = [some (.ref a), some (.int (many : Int)), some (.ref R), some (.ref L), y4, y5, y6, y7]) →
            (fun (i : Nat) (σ : L2.St) (H' : Hp) => ∃ (rs ds : List Int) (y4 y5 y6 y7 : Option V), σ = [some (.ref a), some (.int (many : Int)), some (.ref R), some (.ref L), y4, y5, y6, y7] ∧
              rs.length = ns.length ∧ (∀ x ∈ rs, 0 ≤ x) ∧ ds.length = i ∧ (∀ x ∈ ds, 0 ≤ x) ∧ Same H H' ∧ H' R = some (.lst (rs.map V.int)) ∧ H' L = some (.lst (ds.map V.int))) (i + 1) σ' H2 := by
          rintro x σ' H2 rs' hx g1 g2 g3 g4 g5 ⟨z4, z5, z6, z7, rfl⟩
          refine ⟨rs', ds ++ [x], z4, z5, z6, z7, rfl, g1, g2, by rw [List.length_append, hd]; rfl, ?_, g3, g4, g5⟩
          intro y hy
          rcases List.mem_append.mp hy with hy | hy
          · exact hd0 y hy
          · rw [List.mem_singleton.mp hy]
            exact hx
        have app : ∀ (x : Int), upd H' L (.lst (ds.map V.int ++ [.int x])) R = some (.lst (rs.map V.int)) ∧ Same H (upd H' L (.lst (ds.map V.int ++ [.int x]))) ∧ upd H' L (.lst (ds.map V.int ++ [.int x])) L = some (.lst ((ds ++ [x]).map V.int)) := by
          intro x
          refine ⟨by rw [upd_ne nRL]; exact e1, fun b u e => ?_, ?_⟩
          · rw [upd_ne (ne_of_none e hL0)]
            exact s1 b u e
          · rw [upd_same, List.map_append]
            rfl
        have hsz : (ds.map V.int).length < sizeLine := by
          rw [List.length_map]
          exact Nat.lt_of_lt_of_le (show ds.length < 10000 by omega) (by decide)
        -- cell = k
        refine ⟨_, rfl, ?_⟩
        refine ⟨fun σ2 H2 => H2 = H' ∧ ∃ (c : Int) (y6 : Option V), σ2 = [some (.ref a), some (.int (many : Int)), some (.ref R), some (.ref L), some (.int (0 + (i : Int))), some (.int c), y6, y7], ?_, ?_⟩
        · -- if len(script) > 0
          refine ⟨_, rfl, a, _, rfl, .inl hSL, _, _, rfl, rfl, _, rfl, ite2 (fun c => ?_) (fun c => ?_)⟩
          · have hp : 0 < ns.length := by
              have c' : (0 : Int) < (((ns.map V.int).length : Nat) : Int) := of_decide_eq_true c
              rw [List.length_map] at c'
              omega
            -- at = k % len(script)
            refine ⟨_, rfl, _, rfl, a, _, rfl, .inl hSL, _, _, rfl, rfl, ?_, ?_⟩
            · rw [List.length_map]
              omega
            · obtain ⟨j, hj, hjl⟩ : ∃ j : Nat, (0 + (i : Int)) % (((ns.map V.int).length : Nat) : Int) = (j : Int) ∧ j < ns.length := by
                rw [List.length_map]
                have h1 := Int.emod_nonneg (0 + (i : Int)) (b := (ns.length : Int)) (by omega)
                have h2 := Int.emod_lt_of_pos (0 + (i : Int)) (b := (ns.length : Int)) (by omega)
                exact ⟨((0 + (i : Int)) % (ns.length : Int)).toNat, by omega, by omega⟩
              show gName 6 (V.int ((0 + (i : Int)) % (((ns.map V.int).length : Nat) : Int))) _ _ _
              rw [hj]
              have hx : (ns.map V.int)[j]? = some (.int ns[j]) := by
                rw [List.getElem?_map, List.getElem?_eq_getElem hjl]
                rfl
              have hjr : j < rs.length := by omega
              have hy : (rs.map V.int)[j]? = some (.int rs[j]) := by
                rw [List.getElem?_map, List.getElem?_eq_getElem hjr]
                rfl
              -- cell = int(script[at])
              refine ⟨_, rfl, _, rfl, a, _, (j : Int), _, rfl, rfl, hSL, atI_nat hx, .inl ⟨_, rfl, ?_⟩⟩
              -- if cell >= 10 ** 18 and rests[at] > 0
              refine ⟨_, rfl, _, _, rfl, rfl, ⟨by decide, by decide, by decide⟩, _, _, rfl, rfl, _, rfl, ite2 (fun c => ?_) (fun c => ?_)⟩
              · refine ⟨_, rfl, _, rfl, R, _, (j : Int), _, rfl, rfl, .inl (.inl e1), atI_nat hy, _, _, rfl, rfl, _, rfl, ite2 (fun c => ?_) (fun c => ?_)⟩
                · have hr0 : 0 ≤ rs[j] := h0 _ (List.getElem_mem hjr)
                  -- draws.append(int(rests[at]) % 1000003)
                  refine ⟨_, rfl, .inl ⟨rfl, _, .inl (.inl e2)⟩, _, rfl, _, rfl, R, _, (j : Int), _, rfl, rfl, .inl (.inl e1), atI_nat hy, .inl ⟨_, rfl, _, _, rfl, rfl, (by show (0 : Int) < 1000003; decide), L, _, _, rfl, rfl, e2, hsz, ?_⟩⟩
                  obtain ⟨p1, p2, p3⟩ := app (rs[j] % 1000003)
                  -- rests[at] = int(rests[at]) // 1000003
                  refine ⟨_, rfl, _, rfl, R, _, (j : Int), _, rfl, rfl, .inl (.inl p1), atI_nat hy, .inl ⟨_, rfl, _, _, rfl, rfl, ⟨by decide, by decide⟩, _, rfl, _, rfl, R, _, (j : Int), j, rfl, rfl, p1, ?_, ?_⟩⟩
                  · unfold ixN
                    rw [if_pos (by omega), if_pos (by rw [List.length_map]; omega)]
                    rfl
                  · refine put (rs[j] % 1000003) _ _ (rs.set j (rs[j] / 1000003)) (by omega) (by rw [List.length_set]; exact hn) ?_ ?_ ?_ ?_ ⟨_, _, _, _, rfl⟩
                    · intro y hy'
                      rcases List.mem_or_eq_of_mem_set hy' with z | z
                      · exact h0 y z
                      · rw [z]
                        omega
                    · intro b u e
                      rw [upd_ne (ne_of_none e hR)]
                      exact p2 b u e
                    · rw [upd_same, List.map_set]
                    · rw [upd_ne nRL.symm]
                      exact p3
                · exact ⟨rfl, _, _, rfl⟩
              · exact ⟨rfl, _, _, rfl⟩
          · exact ⟨rfl, _, _, rfl⟩
        · rintro σ2 H2 ⟨rfl, c, z6, rfl⟩
          -- mixed, twice
          refine ⟨_, rfl, _, _, rfl, rfl, .inr ⟨by decide, by decide⟩, _, rfl, _, _, rfl, rfl, .inr ⟨by decide, by decide⟩, _, _, rfl, rfl, _, _, rfl, rfl, .inl ⟨_, rfl, _, _, rfl, rfl, (by show (0 : Int) < 2147483647; decide), ?_⟩⟩
          refine ⟨_, rfl, _, rfl, _, _, rfl, rfl, .inl ⟨?_, ?_⟩, _, _, rfl, rfl, ⟨by decide, by decide⟩, _, rfl, _, _, rfl, rfl, .inl ⟨_, rfl, _, _, rfl, rfl, (by show (0 : Int) < 2147483629; decide), ?_⟩⟩
          · omega
          · omega
          -- draws.append
          refine ⟨_, rfl, .inl ⟨rfl, _, .inl (.inl e2)⟩, _, rfl, _, rfl, _, _, rfl, rfl, .inl ⟨?_, ?_⟩, _, _, rfl, rfl, ⟨by decide, by decide⟩, _, rfl, _, _, rfl, rfl, .inr ⟨by decide, by decide⟩, _, _, rfl, rfl, .inl ⟨_, rfl, _, _, rfl, rfl, (by show (0 : Int) < 2147483629; decide), L, _, _, rfl, rfl, e2, hsz, ?_⟩⟩
          · omega
          · omega
          refine put _ _ _ rs ?_ hn h0 (app _).2.1 (app _).1 (app _).2.2 ⟨_, _, _, _, rfl⟩
          exact Int.emod_nonneg _ (by decide)
      · rintro σ H2 ⟨rs, ds, y4, y5, y6, y7, rfl, hn, h0, hd, hd0, s2, e1, e2⟩
        exact ⟨_, rfl, q L ds H2 hL0 s2 e2 hd0⟩

theorem ok_take {f : Addr} {fd : FuncData} (D : Df K mg "_law_take" s_law_take ["hand", "many"] f fd) (T : Txt K w mg cs) : FnOk P w K mg base CX0 1 f fd ["hand", "many"] spTake := by
  refine D.fn.ok sc_law_take (fun vs H Q E h => ?_) (fun cdv A outer s H vs Q E hr h => ?_)
  · obtain ⟨a, d, many, rfl, _⟩ := h
    rfl
  · obtain ⟨a, d, many, rfl, hm, ⟨ds, i, h1, h2, h3, h4⟩, q⟩ := h
    refine ⟨_, (pss_cons (ps_set (i := 2) sc_law_take.nd rfl (.inl rfl) (pe_ix (ixL K) (pv 0) pe_int (fun _ _ => rfl))) (pss_cons (ps_asg (pe_op op_add (pv 2) pe_int) (pg_sub (pv 0) pe_int set_list)) (pss_cons (ps_set (i := 3) sc_law_take.nd rfl (.inl rfl) (pe_ix (ixL K) (pv 0) pe_int (fun _ _ => rfl))) (pss_cons (ps_if (pt_cmpR op_ge (pv 2) (pe_callB (lenS K) (by rfl) T.n_len (by decide +kernel) (pa_cons (pv 3) pa_nil)) (nomark _)) (pss_one (ps_ret pe_int)) pss_nil) (pss_one (ps_ret (pe_op op_mod (pe_op op_fdiv (pe_callTy call_int1 (by rfl) T.n_int (by decide +kernel) (pa_cons (pe_ix (ixL K) (pv 3) (pv 2) (fun _ _ => rfl)) pa_nil)) pe_int) (pv 1)))))))), ?_⟩
    have s1 : Same H H := Same.refl H
    -- at = hand[1]
    refine ⟨_, rfl, a, _, 1, .int (i : Int), rfl, rfl, .inl (.inl h1), rfl, ?_⟩
    -- hand[1] = at + 1
    refine ⟨_, rfl, _, _, rfl, rfl, _, rfl, a, _, 1, 1, rfl, rfl, h1, rfl, ?_⟩
    -- draws = hand[0]
    refine ⟨_, rfl, a, _, 0, .ref d, rfl, rfl, .inl (.inl upd_same), rfl, ?_⟩
    have hd : (upd H a (.lst [.ref d, .int ((i : Int) + 1)])) d = some (.lst (ds.map V.int)) := by
      rw [upd_ne h4]
      exact h2
    have hn : Hnd (upd H a (.lst [.ref d, .int ((i : Int) + 1)])) a d := ⟨ds, i + 1, upd_same, hd, h3, h4⟩
    have hk : Keep a H (upd H a (.lst [.ref d, .int ((i : Int) + 1)])) := fun b o e n => by
      rw [upd_ne n]
      exact e
    -- at >= len(draws)
    refine ⟨_, rfl, _, rfl, d, _, rfl, .inl (.inl (.inl hd)), _, _, rfl, rfl, _, rfl, ite2 (fun c => ?_) (fun c => ?_)⟩
    · exact q 0 _ (Int.le_refl 0) hm hn hk
    · have hi : i < ds.length := by
        have c' : ¬ (((ds.map V.int).length : Int) ≤ (i : Int)) := fun z => c (decide_eq_true z)
        rw [List.length_map] at c'
        omega
      have hx : (ds.map V.int)[i]? = some (.int ds[i]) := by
        rw [List.getElem?_map, List.getElem?_eq_getElem hi]
        rfl
      have h0 := h3 ds[i] (List.getElem_mem hi)
      refine ⟨_, rfl, _, rfl, d, _, (i : Int), .int ds[i], rfl, rfl, .inl (.inl hd), atI_nat hx, .inl ⟨_, rfl, ?_⟩⟩
      refine ⟨_, _, rfl, rfl, ⟨by decide, by decide⟩, _, rfl, _, _, rfl, rfl, hm, ?_⟩
      exact q _ _ (Int.emod_nonneg _ (by omega)) (Int.emod_lt_of_pos _ hm) hn hk

theorem join_bits (bs : List Bool) : Txt.join "" (bs.map fun b => sb [b]) = sb bs := by
  have e : bs.map (fun b => sb [b]) = (bs.map fun b => [cB b]).map SX.S := by
    rw [List.map_map]
    rfl
  have j : ∀ ps : List (List Nat), TL.joinL [] ps = ps.flatten := by
    intro ps
    induction ps with
    | nil => rfl
    | cons x r ih =>
      cases r with
      | nil => exact (List.append_nil x).symm
      | cons y r =>
        show x ++ ([] ++ TL.joinL [] (y :: r)) = x ++ (y :: r).flatten
        rw [ih, List.nil_append]
  rw [e]
  refine (SX.join_S [] _).trans ?_
  rw [j]
  unfold sb
  congr 1
  clear e j
  induction bs with
  | nil => rfl
  | cons b bs ih =>
    rw [List.map_cons, List.flatten_cons, ih]
    rfl
theorem ok_string {f : Addr} {fd : FuncData} (D : Df K mg "_law_string" s_law_string ["hand", "length"] f fd) (T : Txt K w mg cs) (c_law_take : Cl P w K mg base CX0 1 "_law_take" spTake) : FnOk P w K mg base CX0 2 f fd ["hand", "length"] spString := by
  refine D.fn.ok sc_law_string (fun vs H Q E h => ?_) (fun cdv A outer s H vs Q E hr h => ?_)
  · obtain ⟨a, d, n, rfl, _⟩ := h
    rfl
  · obtain ⟨a, d, n, rfl, hn, hh, q⟩ := h
    refine ⟨_, (pss_one (ps_ret (pe_m1 PySem.F.slot_str_join PySem.F.type_str_join (mtJoin K) pe_str (pe_lc (own := [("k", 2)]) (g := gName 2) (tt := tYes) rfl sc_law_string.nd (pi_range1 (by rfl) T.n_range (pa_cons (pv 1) pa_nil)) (blkOk_by (own := [("k", 2)]) (N := ["hand", "length", "k"]) (sc := defScope s_law_string) (by decide +kernel)) (fun _ _ _ _ _ => (pg_name (i := 2) sc_law_string.nd rfl (.inl rfl))) (fun _ _ _ _ _ => pts_nil) (fun _ _ _ _ _ => (pe_ix (ixL K) (pe_lst (pa_cons pe_str (pa_cons pe_str pa_nil))) (pe_cl c_law_take hr (by first | decide | omega) (by rfl) (pa_cons (pv 0) (pa_cons pe_int pa_nil))) (fun _ _ => rfl))))))), ?_⟩
    refine ⟨⟨_, rfl⟩, _, rfl, _, rfl, by omega, by omega, fun Dl hD => ?_⟩
    obtain ⟨nDa, nDd⟩ := hh.ne hD
    refine lc_range (lo := 0) (n := n) (fun i H' => ∃ bs : List Bool, bs.length = i ∧ Hnd H' a d ∧ Keep a H H' ∧ H' Dl = some (.lst (bs.map fun b => V.str (sb [b])))) ?_ ?_ ?_
    · exact ⟨[], rfl, hh.new hD, Keep.new hD, upd_same⟩
    · rintro i H' hi ⟨bs, hl, h1, h2, h3⟩
      refine ⟨rfl, ?_⟩
      -- the list ['0', '1'], then the draw
      refine ⟨by decide, fun p np => ?_⟩
      obtain ⟨npa, npd⟩ := h1.ne np
      refine ⟨_, rfl, a, d, 2, rfl, by decide, h1.new np, fun r H2 hr0 hr2 hh2 hk2 => ?_⟩
      have e2 : H2 Dl = some (.lst (bs.map fun b => V.str (sb [b]))) := hk2 _ _ (by rw [upd_ne (ne_of_none h3 np)]; exact h3) nDa
      have hb : ∃ b : Bool, atI [V.str "0", V.str "1"] r = some (V.str (sb [b])) := by
        have er : r = 0 ∨ r = 1 := by omega
        rcases er with e | e <;> subst e
        · exact ⟨false, rfl⟩
        · exact ⟨true, rfl⟩
      obtain ⟨b, hb⟩ := hb
      refine ⟨p, _, r, _, rfl, rfl, .inl (.inl (hk2 _ _ upd_same npa)), hb, _, e2, ?_, ?_⟩
      · rw [List.length_map]
        exact Nat.lt_of_lt_of_le (show bs.length < 10000 by omega) (by decide)
      · refine ⟨bs ++ [b], by rw [List.length_append, hl]; rfl, hh2.set nDa nDd, ((h2.trans (Keep.new np)).trans hk2).set hD, ?_⟩
        rw [upd_same, List.map_append]
        rfl
    · rintro H' ⟨bs, hl, h1, h2, h3⟩
      refine ⟨_, Dl, bs.map (fun b => sb [b]), rfl, rfl, .inl (.inl (.inl (by rw [List.map_map]; exact h3))), ?_, ?_⟩
      · have e : ((bs.map fun b => sb [b]).map (·.length)).sum = bs.length := by
          rw [List.map_map]
          clear h3 hl
          induction bs with
          | nil => rfl
          | cons b bs ih =>
            rw [List.map_cons, List.sum_cons, ih, List.length_cons]
            show 1 + _ = _
            omega
        rw [e]
        show _ + _ * 0 ≤ _
        omega
      · rw [join_bits]
        exact q bs H' hl h1 h2

theorem ok_table {f : Addr} {fd : FuncData} (D : Df K mg "_law_table" s_law_table ["hand", "n", "m"] f fd) (T : Txt K w mg cs) (c_law_string : Cl P w K mg base CX0 2 "_law_string" spString) : FnOk P w K mg base CX0 3 f fd ["hand", "n", "m"] (spTable K) := by
  refine D.fn.ok sc_law_table (fun vs H Q E h => ?_) (fun cdv A outer s H vs Q E hr h => ?_)
  · obtain ⟨a, d, n, m, rfl, _⟩ := h
    rfl
  · obtain ⟨a, d, n, m, rfl, hn, hm, hh, q⟩ := h
    refine ⟨_, (pss_cons (ps_setLc (i := 3) (own := [("k", 4)]) (g := gName 4) (tt := tYes) rfl sc_law_table.nd rfl rfl (sw_true rfl rfl rfl (by decide +kernel)) (pi_range1 (by rfl) T.n_range (pa_cons (pe_op op_shl pe_int (pv 1)) pa_nil)) (blkOk_by (own := [("k", 4)]) (N := ["hand", "n", "m", "rows", "k"]) (sc := defScope s_law_table) (by decide +kernel)) (fun _ _ _ _ _ => (pg_name (i := 4) sc_law_table.nd rfl (.inl rfl))) (fun _ _ _ _ _ => pts_nil) (fun _ _ _ _ _ => (pe_cl c_law_string hr (by first | decide | omega) (by rfl) (pa_cons (pv 0) (pa_cons (pv 2) pa_nil))))) (pss_one (ps_ret (pe_tup (pa_cons pe_str (pa_cons (pv 1) (pa_cons (pv 2) (pa_cons (pe_callTy (tupOf K) (by rfl) T.n_tuple (by decide +kernel) (pa_cons (pv 3) pa_nil)) pa_nil)))))))), ?_⟩
    have hp : 2 ^ n ≤ 256 := two_pow_le (b := 8) hn
    refine ⟨_, rfl, _, _, rfl, rfl, ⟨by omega, by omega, by decide⟩, _, rfl, ?_⟩
    rw [shl_one]
    generalize hN : 2 ^ n = N at hp ⊢
    refine ⟨by omega, by omega, fun Dl hD => ?_⟩
    obtain ⟨nDa, nDd⟩ := hh.ne hD
    refine lc_range (lo := 0) (n := _) (fun i H' => ∃ rows : List (List Bool), rows.length = i ∧ (∀ r ∈ rows, r.length = m) ∧ Hnd H' a d ∧ Keep a H H' ∧ H' Dl = some (.lst (rows.map fun r => V.str (sb r)))) ?_ ?_ ?_
    · exact ⟨[], rfl, fun r hr => (nomatch hr), hh.new hD, Keep.new hD, upd_same⟩
    · rintro i H' hi ⟨rows, hl, hr, h1, h2, h3⟩
      refine ⟨rfl, ?_⟩
      refine ⟨_, rfl, _, rfl, a, d, m, rfl, by omega, h1, fun bs H2 hb hh2 hk2 => ⟨_, hk2 _ _ h3 nDa, ?_, ?_⟩⟩
      · rw [List.length_map]
        exact Nat.lt_of_lt_of_le (show rows.length < 10000 by omega) (by decide)
      · refine ⟨rows ++ [bs], by rw [List.length_append, hl]; rfl, ?_, hh2.set nDa nDd, (h2.trans hk2).set hD, ?_⟩
        · intro r hr'
          rcases List.mem_append.mp hr' with z | z
          · exact hr r z
          · rw [List.mem_singleton.mp z]
            exact hb
        · rw [upd_same, List.map_append]
          rfl
    · rintro H' ⟨rows, hl, hr, h1, h2, h3⟩
      have hl2 : rows.length = 2 ^ n := by
        rw [hl, hN]
        omega
      refine ⟨_, rfl, _, rfl, _, rfl, Dl, _, rfl, .inl ⟨.inl (.inl h3), fun l hl' => ⟨(by show 4 ≤ sizeLine; decide), fun p np => ?_⟩⟩⟩
      have hl1 := h1.ne hl'
      have h1' := h1.new (o := .tup (rows.map fun r => V.str (sb r))) hl'
      have hp1 := h1'.ne np
      refine q _ rows _ hl2 hr ?_ (h1'.new np) ((h2.trans (Keep.new hl')).trans (Keep.new np))
      have e1 : off a (upd (upd H' l (.tup (rows.map fun r => V.str (sb r)))) p (.tup [.str "generator", .int (n : Int), .int (m : Int), .ref l])) p = some (.tup [.str "generator", .int (n : Int), .int (m : Int), .ref l]) := by
        rw [off_ne hp1.1, upd_same]
      have e2 : off a (upd (upd H' l (.tup (rows.map fun r => V.str (sb r)))) p (.tup [.str "generator", .int (n : Int), .int (m : Int), .ref l])) l = some (.tup (rows.map fun r => V.str (sb r))) := by
        rw [off_ne hl1.1, upd_ne (ne_of_none upd_same np), upd_same]
      exact .tup (.inl (.inl e1)) (.cons (.str _) (.cons (.int _) (.cons (.int _) (.cons (.tup (.inl (.inl e2)) (dp_bits rows)) .nil))))

theorem ok_lawparts {f : Addr} {fd : FuncData} (D : Df K mg "_law_parts" s_law_parts ["hand", "length"] f fd) (T : Txt K w mg cs) (c_law_take : Cl P w K mg base CX0 1 "_law_take" spTake) : FnOk P w K mg base CX0 2 f fd ["hand", "length"] (spParts8 K) := by
  refine D.fn.ok sc_law_parts (fun vs H Q E h => ?_) (fun cdv A outer s H vs Q E hr h => ?_)
  · obtain ⟨a, d, len, rfl, _⟩ := h
    rfl
  · obtain ⟨a, d, len, rfl, hlen, hh, q⟩ := h
    refine ⟨_, (pss_cons (ps_set (i := 2) sc_law_parts.nd rfl (.inl rfl) (pe_lst pa_nil)) (pss_cons (ps_for PassesOwn.never rfl (pi_range1 (by rfl) T.n_range (pa_cons (pv 1) pa_nil)) (pg_name (i := 3) sc_law_parts.nd rfl (.inl rfl)) (pss_cons (ps_set (i := 4) sc_law_parts.nd rfl (.inl rfl) (pe_cl c_law_take hr (by first | decide | omega) (by rfl) (pa_cons (pv 0) (pa_cons pe_int pa_nil)))) (pss_one (ps_if (pt_cmpR op_lt (pv 4) pe_int (nomark _)) (pss_one (ps_expr (pe_bm PySem.F.plainAttrs_list PySem.F.slot_list_append PySem.F.type_list_append mt_append (pv 2) (pa_cons (pe_ix (ixL K) (pe_lst (pa_cons pe_str (pa_cons pe_str pa_nil))) (pv 4) (fun _ _ => rfl)) pa_nil)))) (pss_one (ps_expr (pe_bm PySem.F.plainAttrs_list PySem.F.slot_list_append PySem.F.type_list_append mt_append (pv 2) (pa_cons (pe_cl c_law_take hr (by first | decide | omega) (by rfl) (pa_cons (pv 0) (pa_cons pe_int pa_nil))) pa_nil)))))))) (pss_one (ps_ret (pe_callTy (tupOf K) (by rfl) T.n_tuple (by decide +kernel) (pa_cons (pv 2) pa_nil)))))), ?_⟩
    refine ⟨Nat.zero_le _, fun L nL => ?_⟩
    have hL := hh.ne nL
    refine ⟨_, rfl, _, rfl, by omega, by omega, for_range (lo := 0) (n := len) (fun i σ H' => ∃ (ws : List V) (ds : List PyData) (y3 y4 : Option V), σ = [some (.ref a), some (.int (len : Int)), some (.ref L), y3, y4] ∧ ws.length = i ∧ DpAll K (fun _ => none) ws ds ∧
      (∀ x ∈ ds, partOk x = true ∧ Pz 0 x) ∧ H' L = some (.lst ws) ∧ Hnd H' a d ∧ Keep a H H') ?_ ?_ ?_⟩
    · exact ⟨[], [], none, none, rfl, rfl, .nil, fun x hx => (nomatch hx), upd_same, hh.new nL, Keep.new nL⟩
    · rintro i σ H' hi ⟨ws, ds, y3, y4, rfl, hl, hA, hx, eL, h1, k1⟩
      refine ⟨_, rfl, a, d, 5, rfl, by decide, h1, fun r H1 l1 u1 n1 kk1 => ?_⟩
      have eL1 := kk1 _ _ eL hL.1
      have hsz : ws.length < sizeLine := Nat.lt_of_lt_of_le (show ws.length < 10000 by omega) (by decide)
      refine ⟨_, rfl, _, _, rfl, rfl, _, rfl, ite2 (fun c => ?_) (fun c => ?_)⟩
      · have hr2 : r < 2 := of_decide_eq_true c
        refine ⟨_, rfl, .inl ⟨rfl, _, .inl (.inl eL1)⟩, ?_⟩
        refine ⟨by decide, fun p np => ?_⟩
        have npL : p ≠ L := (ne_of_none eL1 np).symm
        obtain ⟨z, hz, hzp⟩ : ∃ z : Str, atI [V.str "0", V.str "1"] r = some (V.str z) ∧ (z = "0" ∨ z = "1") := by
          have er : r = 0 ∨ r = 1 := by omega
          rcases er with e | e <;> subst e
          · exact ⟨"0", rfl, .inl rfl⟩
          · exact ⟨"1", rfl, .inr rfl⟩
        refine ⟨_, rfl, p, _, r, .str z, rfl, rfl, .inl (.inl upd_same), hz, L, _, _, rfl, rfl, by rw [upd_ne npL.symm]; exact eL1, hsz, ?_⟩
        refine ⟨ws ++ [.str z], ds ++ [.str z], _, _, rfl, by rw [List.length_append, hl]; rfl, dpAll_snoc hA (.str z), ?_, upd_same, (n1.new np).set hL.1 hL.2, ((k1.trans kk1).trans (Keep.new np)).set nL⟩
        intro x hx'
        rcases List.mem_append.mp hx' with h | h
        · exact hx x h
        · rw [List.mem_singleton.mp h]
          rcases hzp with rfl | rfl <;> exact ⟨by decide, pz_str (n := 0) |>.mpr ⟨by decide +kernel, by decide +kernel⟩⟩
      · refine ⟨_, rfl, .inl ⟨rfl, _, .inl (.inl eL1)⟩, _, rfl, a, d, 9, rfl, by decide, n1, fun r2 H2 l2 u2 n2 kk2 => ⟨L, _, _, rfl, rfl, kk2 _ _ eL1 hL.1, hsz, ?_⟩⟩
        refine ⟨ws ++ [.int r2], ds ++ [.int r2], _, _, rfl, by rw [List.length_append, hl]; rfl, dpAll_snoc hA (.int r2), ?_, upd_same, n2.set hL.1 hL.2, ((k1.trans kk1).trans kk2).set nL⟩
        intro x hx'
        rcases List.mem_append.mp hx' with h | h
        · exact hx x h
        · rw [List.mem_singleton.mp h]
          refine ⟨?_, pz_int (n := 0) (by omega)⟩
          show (decide (0 ≤ r2) && decide (r2 ≤ 9999)) = true
          rw [decide_eq_true l2, decide_eq_true (by omega)]
          rfl
    · rintro σ H' ⟨ws, ds, y3, y4, rfl, hl, hA, hx, eL, h1, k1⟩
      refine ⟨_, rfl, L, _, rfl, .inl ⟨.inl (.inl eL), fun p np => ?_⟩⟩
      have hpa := (h1.ne np).1
      have hdl := dp_all_len hA
      exact q p (ws, ds) _ hA upd_same hpa hx (by show ds.length ≤ 100; omega) (h1.new np) (k1.trans (Keep.new np))
theorem br_say {a d p t : Addr} {H : Hp} {j : Nat} {ws : List V} {ds : List PyData} (pa : p ≠ a) (ta : t ≠ a) (ep : H p = some (.tup [.str "say", .ref t])) (et : H t = some (.tup ws)) (hA : DpAll K (fun _ => none) ws ds) (hx : ∀ x ∈ ds, partOk x = true ∧ Pz 0 x) (hl : ds.length ≤ 100) : PB K a H (j + 1) (.ref p) := by
  have h := ok_say (j := j) (parts_all hx)
  refine ⟨_, dp_new pa ep (.cons (.str _) (.cons (dp_new ta et (dps_none hA)) .nil)), ⟨(by show 2 ≤ 100; decide), fun x hx' => ?_⟩, h.1, ?_⟩
  · rcases List.mem_cons.mp hx' with e | hx'
    · rw [e]
      exact pz_word
    · rw [List.mem_singleton.mp hx']
      exact pz_parts hx hl
  · rw [h.2]
    show 1 ≤ 1 + 3 * bsz j
    omega
theorem br_step {f : Addr} {fd : FuncData} (D : Df K mg "_law_breaker" s_law_breaker ["hand", "depth", "asks", "length", "said"] f fd) (T : Txt K w mg cs) (j : Nat) (c_law_take : Cl P w K mg base CX0 1 "_law_take" spTake) (c_law_parts : Cl P w K mg base CX0 2 "_law_parts" (spParts8 K))
    (c_law_breaker : Cl P w K mg base CX0 (j + 2) "_law_breaker" (spBrB K j)) : FnOk P w K mg base CX0 (j + 3) f fd ["hand", "depth", "asks", "length", "said"] (spBr K j) := by
  refine D.fn.ok sc_law_breaker (fun vs H Q E h => ?_) (fun cdv A outer s H vs Q E hr h => ?_)
  · obtain ⟨a, d, dep, asks, len, said, rfl, _⟩ := h
    rfl
  · obtain ⟨a, d, dep, asks, len, said, rfl, hdep, hlen, hsaid, hh, q⟩ := h
    refine ⟨_, (pss_cons (ps_set (i := 5) sc_law_breaker.nd rfl (.inl rfl) (pe_cl c_law_take hr (by first | decide | omega) (by rfl) (pa_cons (pv 0) (pa_cons pe_int pa_nil)))) (pss_cons (ps_if (PW.pt (pw_or (pt_cmpR op_eq (pv 1) pe_int (nomark _)) (pw_or1 (pt_cmpR op_eq (pv 5) pe_int (nomark _))))) (pss_cons (ps_set (i := 6) sc_law_breaker.nd rfl (.inl rfl) (pv 4)) (C8.pss_cut (ps_if (pt_cmpR op_eq (pe_cl c_law_take hr (by first | decide | omega) (by rfl) (pa_cons (pv 0) (pa_cons pe_int pa_nil))) pe_int (nomark _)) (pss_one (ps_set (i := 6) sc_law_breaker.nd rfl (.inl rfl) (pe_cl c_law_take hr (by first | decide | omega) (by rfl) (pa_cons (pv 0) (pa_cons pe_int pa_nil))))) pss_nil) (pss_one (ps_ret (pe_tup (pa_cons pe_str (pa_cons (pe_cl c_law_parts hr (by first | decide | omega) (by rfl) (pa_cons (pv 0) (pa_cons (pv 6) pa_nil))) pa_nil))))))) pss_nil) (pss_cons (ps_if (PW.pt (pw_or (pt_cmpR op_lt (pv 5) pe_int (nomark _)) (pw_or1 (PW.pt (pw_and (pt_cmpR op_eq (pv 5) pe_int (nomark _)) (pw_and1 (pt_cmpR op_eq (pv 2) pe_int (nomark _)))))))) (pss_cons (ps_set (i := 7) sc_law_breaker.nd rfl (.inl rfl) (pe_cl c_law_breaker hr (by first | decide | omega) (by rfl) (pa_cons (pv 0) (pa_cons (pe_op op_sub (pv 1) pe_int) (pa_cons (pv 2) (pa_cons (pv 3) (pa_cons (pv 4) pa_nil))))))) (pss_one (ps_ret (pe_tup (pa_cons pe_str (pa_cons (pe_cl c_law_take hr (by first | decide | omega) (by rfl) (pa_cons (pv 0) (pa_cons pe_int pa_nil))) (pa_cons (pv 7) (pa_cons (pe_cl c_law_breaker hr (by first | decide | omega) (by rfl) (pa_cons (pv 0) (pa_cons (pe_op op_sub (pv 1) pe_int) (pa_cons (pv 2) (pa_cons (pv 3) (pa_cons (pv 4) pa_nil)))))) pa_nil)))))))) pss_nil) (pss_cons (ps_if (pt_cmpR op_eq (pv 5) pe_int (nomark _)) (pss_cons (ps_set (i := 8) sc_law_breaker.nd rfl (.inl rfl) (pe_op op_add pe_int (pe_cl c_law_take hr (by first | decide | omega) (by rfl) (pa_cons (pv 0) (pa_cons pe_int pa_nil))))) (pss_one (ps_ret (pe_tup (pa_cons pe_str (pa_cons (pe_callTy (tupOf K) (by rfl) T.n_tuple (by decide +kernel) (pa_cons (pe_lc (own := [("k", 9)]) (g := gName 9) (tt := tYes) rfl sc_law_breaker.nd (pi_range1 (by rfl) T.n_range (pa_cons (pv 8) pa_nil)) (blkOk_by (own := [("k", 9)]) (N := ["hand", "depth", "asks", "length", "said", "kind", "size", "first", "many", "k"]) (sc := defScope s_law_breaker) (by decide +kernel)) (fun _ _ _ _ _ => (pg_name (i := 9) sc_law_breaker.nd rfl (.inl rfl))) (fun _ _ _ _ _ => pts_nil) (fun _ _ _ _ _ => (pe_cl c_law_breaker hr (by first | decide | omega) (by rfl) (pa_cons (pv 0) (pa_cons (pe_op op_sub (pv 1) pe_int) (pa_cons (pv 2) (pa_cons (pv 3) (pa_cons (pv 4) pa_nil)))))))) pa_nil)) pa_nil)))))) pss_nil) (pss_cons (ps_if (pt_cmpR op_eq (pv 2) pe_int (nomark _)) (pss_one (ps_ret (pe_tup (pa_cons pe_str (pa_cons (pe_cl c_law_parts hr (by first | decide | omega) (by rfl) (pa_cons (pv 0) (pa_cons (pv 4) pa_nil))) pa_nil))))) pss_nil) (pss_cons (ps_set (i := 6) sc_law_breaker.nd rfl (.inl rfl) (pv 3)) (C8.pss_cut (ps_if (pt_cmpR op_eq (pe_cl c_law_take hr (by first | decide | omega) (by rfl) (pa_cons (pv 0) (pa_cons pe_int pa_nil))) pe_int (nomark _)) (pss_one (ps_set (i := 6) sc_law_breaker.nd rfl (.inl rfl) (pe_cl c_law_take hr (by first | decide | omega) (by rfl) (pa_cons (pv 0) (pa_cons pe_int pa_nil))))) pss_nil) (pss_one (ps_ret (pe_tup (pa_cons pe_str (pa_cons (pe_cl c_law_parts hr (by first | decide | omega) (by rfl) (pa_cons (pv 0) (pa_cons (pv 6) pa_nil))) (pa_cons (pe_cl c_law_breaker hr (by first | decide | omega) (by rfl) (pa_cons (pv 0) (pa_cons (pe_op op_sub (pv 1) pe_int) (pa_cons (pe_op op_sub (pv 2) pe_int) (pa_cons (pv 3) (pa_cons (pv 4) pa_nil)))))) pa_nil))))))))))))), ?_⟩
    refine ⟨_, rfl, a, d, 6, rfl, by decide, hh, fun kind H1 l1 u1 n1 k1 => ?_⟩
    -- a say of so many parts
    have say : ∀ (H2 : Hp) (p : Addr) (dd : List V × List PyData) (H3 : Hp), Keep a H H2 → DpAll K (fun _ => none) dd.1 dd.2 → H3 p = some (.tup dd.1) → p ≠ a → (∀ x ∈ dd.2, partOk x = true ∧ Pz 0 x) → dd.2.length ≤ 100 → Hnd H3 a d → Keep a H2 H3 →
        ∀ p', H3 p' = none → Q (.ref p') (upd H3 p' (.tup [.str "say", .ref p])) := by
      intro H2 p dd H3 k2 hA ep pa hx hl n3 k3 p' np
      have hp' := (n3.ne np).1
      refine q _ _ (br_say (d := d) (t := p) hp' pa upd_same (by rw [upd_ne (ne_of_none ep np)]; exact ep) hA hx hl) (n3.new np) ((k2.trans k3).trans (Keep.new np))
    refine ⟨_, rfl, rfl, _, rfl, ?_⟩
    refine dite (dep = 0) (fun hd0 => ?a1) (fun hd0 => ?b1)
    case' a1 => rw [decide_eq_true (show V.int (dep : Int) = V.int 0 by rw [hd0]; rfl)]
    case' b1 =>
      rw [decide_eq_false (show ¬ V.int (dep : Int) = V.int 0 from fun z => hd0 (by have := V.int.inj z; omega))]
      refine ⟨_, rfl, rfl, _, rfl, ?_⟩
      refine dite (kind = 0) (fun hk0 => ?a2) (fun hk0 => ?b2)
    case' a2 => rw [decide_eq_true (congrArg V.int hk0)]
    case b2 =>
      rw [decide_eq_false (fun z => hk0 (V.int.inj z))]
      obtain ⟨jj, rfl⟩ : ∃ jj, dep = jj + 1 := ⟨dep - 1, by omega⟩
      have rec1 : ((jj + 1 : Nat) : Int) - 1 = (jj : Int) := by omega
      refine ⟨_, rfl, _, _, rfl, rfl, _, rfl, ?_⟩
      refine dite (kind < 3) (fun h3 => ?l1) (fun h3 => ?c1)
      case' l1 => rw [decide_eq_true h3]
      case' c1 =>
        rw [decide_eq_false h3]
        refine ⟨_, rfl, rfl, _, rfl, ?_⟩
        refine dite (kind = 5) (fun h5 => ?c2) (fun h5 => ?r1)
      case' c2 =>
        rw [decide_eq_true (congrArg V.int h5)]
        refine ⟨_, rfl, rfl, _, rfl, ?_⟩
        refine dite (asks = 0) (fun ha0 => ?l2) (fun ha0 => ?r2)
      case' l2 => rw [decide_eq_true (show V.int (asks : Int) = V.int 0 by rw [ha0]; rfl)]
      case' r2 => rw [decide_eq_false (show ¬ V.int (asks : Int) = V.int 0 from fun z => ha0 (by have := V.int.inj z; omega))]
      case' r1 => rw [decide_eq_false (fun z => h5 (V.int.inj z))]
      -- look
      case l1 =>
        refine ⟨_, rfl, _, rfl, _, _, rfl, rfl, _, rfl, _, rfl, _, rfl, by omega, a, d, jj, asks, len, said, ?_, by omega, hlen, hsaid, n1, fun v1 H2 p1 n2 k2 => ?_⟩
        · show [V.ref a, V.int (((jj + 1 : Nat) : Int) - 1), _, _, _] = _
          rw [rec1]
        refine ⟨_, rfl, a, d, 9, rfl, by decide, n2, fun r H3 l3 u3 n3 k3 => ⟨_, rfl, _, rfl, _, rfl, _, _, rfl, rfl, _, rfl, _, rfl, _, rfl, by omega, a, d, jj, asks, len, said, ?_, by omega, hlen, hsaid, n3, fun v2 H4 p2 n4 k4 => ?_⟩⟩
        · show [V.ref a, V.int (((jj + 1 : Nat) : Int) - 1), _, _, _] = _
          rw [rec1]
        refine ⟨(by show 4 ≤ sizeLine; decide), fun p np => ?_⟩
        have pa := (n4.ne np).1
        have g1 := (p1.keep (k3.trans k4)).keep (Keep.new (o := .tup [.str "look", .int r, v1, v2]) np)
        have g2 := p2.keep (Keep.new (o := .tup [.str "look", .int r, v1, v2]) np)
        refine q _ _ ?_ (n4.new np) ((((k1.trans k2).trans k3).trans k4).trans (Keep.new np))
        obtain ⟨D1, a1, b1, c1, e1⟩ := g1
        obtain ⟨D2, a2, b2, c2, e2⟩ := g2
        have hk := ok_look (i := r) (by omega) (by omega) c1 c2
        refine ⟨_, dp_new pa upd_same (.cons (.str _) (.cons (.int _) (.cons a1 (.cons a2 .nil)))), ⟨(by show 4 ≤ 100; decide), fun x hx => ?_⟩, hk.1, ?_⟩
        · rcases List.mem_cons.mp hx with e | hx
          · exact e ▸ pz_word
          rcases List.mem_cons.mp hx with e | hx
          · (rw [e]; exact pz_int (by omega))
          rcases List.mem_cons.mp hx with e | hx
          · exact e ▸ pz_le b1 (by show 3 * (jj + 1) ≤ 3 * (jj + 1) + 2; omega)
          · rw [List.mem_singleton.mp hx]
            exact pz_le b2 (by show 3 * (jj + 1) ≤ 3 * (jj + 1) + 2; omega)
        · rw [hk.2]
          show _ ≤ 1 + 3 * bsz (jj + 1)
          omega
      case l2 =>
        refine ⟨_, rfl, _, rfl, _, _, rfl, rfl, _, rfl, _, rfl, _, rfl, by omega, a, d, jj, asks, len, said, ?_, by omega, hlen, hsaid, n1, fun v1 H2 p1 n2 k2 => ?_⟩
        · show [V.ref a, V.int (((jj + 1 : Nat) : Int) - 1), _, _, _] = _
          rw [rec1]
        refine ⟨_, rfl, a, d, 9, rfl, by decide, n2, fun r H3 l3 u3 n3 k3 => ⟨_, rfl, _, rfl, _, rfl, _, _, rfl, rfl, _, rfl, _, rfl, _, rfl, by omega, a, d, jj, asks, len, said, ?_, by omega, hlen, hsaid, n3, fun v2 H4 p2 n4 k4 => ?_⟩⟩
        · show [V.ref a, V.int (((jj + 1 : Nat) : Int) - 1), _, _, _] = _
          rw [rec1]
        refine ⟨(by show 4 ≤ sizeLine; decide), fun p np => ?_⟩
        have pa := (n4.ne np).1
        have g1 := (p1.keep (k3.trans k4)).keep (Keep.new (o := .tup [.str "look", .int r, v1, v2]) np)
        have g2 := p2.keep (Keep.new (o := .tup [.str "look", .int r, v1, v2]) np)
        refine q _ _ ?_ (n4.new np) ((((k1.trans k2).trans k3).trans k4).trans (Keep.new np))
        obtain ⟨D1, a1, b1, c1, e1⟩ := g1
        obtain ⟨D2, a2, b2, c2, e2⟩ := g2
        have hk := ok_look (i := r) (by omega) (by omega) c1 c2
        refine ⟨_, dp_new pa upd_same (.cons (.str _) (.cons (.int _) (.cons a1 (.cons a2 .nil)))), ⟨(by show 4 ≤ 100; decide), fun x hx => ?_⟩, hk.1, ?_⟩
        · rcases List.mem_cons.mp hx with e | hx
          · exact e ▸ pz_word
          rcases List.mem_cons.mp hx with e | hx
          · (rw [e]; exact pz_int (by omega))
          rcases List.mem_cons.mp hx with e | hx
          · exact e ▸ pz_le b1 (by show 3 * (jj + 1) ≤ 3 * (jj + 1) + 2; omega)
          · rw [List.mem_singleton.mp hx]
            exact pz_le b2 (by show 3 * (jj + 1) ≤ 3 * (jj + 1) + 2; omega)
        · rw [hk.2]
          show _ ≤ 1 + 3 * bsz (jj + 1)
          omega
      -- the rest
      all_goals
        refine ⟨_, rfl, rfl, _, rfl, ?_⟩
        by_cases hk3 : kind = 3
        · rw [decide_eq_true (congrArg V.int hk3)]
          refine ⟨_, rfl, a, d, 3, rfl, by decide, n1, fun r H2 l2 u2 n2 k2 => ⟨_, _, rfl, rfl, ?_⟩⟩
          obtain ⟨many, em, m1, m2⟩ : ∃ n : Nat, (1 : Int) + r = (n : Int) ∧ 1 ≤ n ∧ n ≤ 3 := ⟨(1 + r).toNat, by omega, by omega, by omega⟩
          show gName 8 (V.int (1 + r)) _ _ _
          rw [em]
          refine ⟨_, rfl, _, rfl, by omega, by omega, fun Dl hD => ?_⟩
          obtain ⟨nDa, nDd⟩ := n2.ne hD
          have k12 := k1.trans k2
          have hDo := k12.free hD nDa
          refine lc_range (lo := 0) (n := many) (fun i H' => ∃ ws : List V, ws.length = i ∧ (∀ v ∈ ws, PG K (off Dl (off a H')) (jj + 1) v) ∧ Hnd H' a d ∧ Keep a H H' ∧ H' Dl = some (.lst ws)) ?_ ?_ ?_
          · exact ⟨[], rfl, fun v hv => (nomatch hv), n2.new hD, k12.trans (Keep.new hD), upd_same⟩
          · rintro i H' hi ⟨ws, hl, hw, g1, g2, g3⟩
            refine ⟨rfl, ?_⟩
            refine ⟨_, rfl, _, rfl, _, _, rfl, rfl, _, rfl, _, rfl, _, rfl, by omega, a, d, jj, asks, len, said, ?_, by omega, hlen, hsaid, g1, fun v1 H3 p1 n3 k3 => ⟨_, k3 _ _ g3 nDa, ?_, ?_⟩⟩
            · show [V.ref a, V.int (((jj + 1 : Nat) : Int) - 1), _, _, _] = _
              rw [rec1]
            · exact Nat.lt_of_lt_of_le (show ws.length < 10000 by omega) (by decide)
            · refine ⟨ws ++ [v1], by rw [List.length_append, hl]; rfl, fun x hx => ?_, n3.set nDa nDd, (g2.trans k3).set hDo, upd_same⟩
              rw [off_upd]
              rcases List.mem_append.mp hx with h | h
              · exact (hw x h).same (off_mono k3.off)
              · rw [List.mem_singleton.mp h]
                refine PG.offL (ys := ws) p1 ?_
                rw [off_ne nDa]
                exact k3 _ _ g3 nDa
          · rintro H' ⟨ws, hl, hw, g1, g2, g3⟩
            refine ⟨Dl, _, rfl, .inl ⟨.inl (.inl g3), fun t nt => ⟨(by show 2 ≤ sizeLine; decide), fun p np => ?_⟩⟩⟩
            have h1' := g1.new (o := .tup ws) nt
            have ta := (g1.ne nt).1
            have pa := (h1'.ne np).1
            have kk : Keep a H' (upd (upd H' t (.tup ws)) p (.tup [.str "toss", .ref t])) := (Keep.new nt).trans (Keep.new np)
            refine q _ _ ?_ (h1'.new np) (g2.trans kk)
            obtain ⟨ds, hA, hx⟩ := pg_all fun v hv => (hw v hv).same fun b o e => kk.off b o (off_same Dl _ b o e)
            have hwl := dp_all_len hA
            have hlen2 : ws.length = many := hl
            have hk := ok_toss (j := jj + 1) (xs := ds) (by omega) (by omega) (fun x h => (hx x h).2.1)
            have et : upd (upd H' t (.tup ws)) p (.tup [.str "toss", .ref t]) t = some (.tup ws) := by
              rw [upd_ne (ne_of_none upd_same np)]
              exact upd_same
            refine ⟨_, dp_new pa upd_same (.cons (.str _) (.cons (dp_new ta et hA) .nil)), ⟨(by show 2 ≤ 100; decide), fun x hx' => ?_⟩, hk.1, ?_⟩
            · rcases List.mem_cons.mp hx' with e | hx'
              · exact e ▸ pz_word
              · rw [List.mem_singleton.mp hx']
                exact ⟨by omega, fun y hy => pz_le (hx y hy).1 (by show 3 * (jj + 1) ≤ 3 * (jj + 1) + 1; omega)⟩
            · rw [hk.2]
              have := sum_le (f := szN (jj + 1)) (m := bsz (jj + 1)) fun x h => (hx x h).2.2
              have h3 : ds.length * bsz (jj + 1) ≤ 3 * bsz (jj + 1) := Nat.mul_le_mul_right _ (by omega)
              show _ ≤ 1 + 3 * bsz (jj + 1)
              omega
        · rw [decide_eq_false (fun z => hk3 (V.int.inj z))]
          refine ⟨_, rfl, rfl, _, rfl, ?_⟩
          by_cases ha : asks = 0
          · rw [decide_eq_true (show V.int (asks : Int) = V.int 0 by rw [ha]; rfl)]
            exact ⟨_, rfl, _, rfl, a, d, said, rfl, by omega, n1, fun p ds H3 hA ep pa hx hl n3 k3 => ⟨(by show 2 ≤ sizeLine; decide), fun p' np => say H1 p ds H3 k1 hA ep pa hx hl n3 k3 p' np⟩⟩
          · rw [decide_eq_false (show ¬ V.int (asks : Int) = V.int 0 from fun z => ha (by have := V.int.inj z; omega))]
            refine ⟨_, rfl, ?_⟩
            refine ⟨fun σ2 H2 => ∃ sz : Nat, σ2 = [some (.ref a), some (.int ((jj + 1 : Nat) : Int)), some (.int (asks : Int)), some (.int (len : Int)), some (.int (said : Int)), some (.int kind), some (.int (sz : Int)), none, none, none] ∧ sz ≤ 90 ∧ Hnd H2 a d ∧ Keep a H H2, ?_, ?_⟩
            · refine ⟨_, rfl, a, d, 9, rfl, by decide, n1, fun r H2 l2 u2 n2 k2 => ⟨rfl, _, rfl, ?_⟩⟩
              by_cases c : r = 0
              · rw [decide_eq_true (congrArg V.int c)]
                refine ⟨_, rfl, a, d, 4, rfl, by decide, n2, fun r2 H3 l3 u3 n3 k3 => ⟨r2.toNat, ?_, by omega, n3, (k1.trans k2).trans k3⟩⟩
                have e : r2 = ((r2.toNat : Nat) : Int) := by omega
                show [_, _, _, _, _, _, some (V.int r2), _, _, _] = _
                rw [← e]
              · rw [decide_eq_false (fun z => c (V.int.inj z))]
                exact ⟨len, rfl, hlen, n2, k1.trans k2⟩
            · rintro σ2 H2 ⟨sz, rfl, hsz, n2, k2⟩
              refine ⟨_, rfl, _, rfl, a, d, sz, rfl, by omega, n2, fun p ds H3 hA ep pa hx hl n3 k3 => ?_⟩
              obtain ⟨as', ea⟩ : ∃ k, asks = k + 1 := ⟨asks - 1, by omega⟩
              subst ea
              refine ⟨_, rfl, _, rfl, _, _, rfl, rfl, _, rfl, _, _, rfl, rfl, _, rfl, _, rfl, by omega, a, d, jj, as', len, said, ?_, by omega, hlen, hsaid, n3, fun v1 H4 p1 n4 k4 => ?_⟩
              · show [V.ref a, V.int (((jj + 1 : Nat) : Int) - 1), V.int (((as' + 1 : Nat) : Int) - 1), _, _] = _
                rw [rec1, show ((as' + 1 : Nat) : Int) - 1 = (as' : Int) by omega]
              refine ⟨(by show 3 ≤ sizeLine; decide), fun p' np => ?_⟩
              have pa' := (n4.ne np).1
              have ep4 := k4 _ _ ep pa
              obtain ⟨D1, a1, b1, c1, e1⟩ := p1.keep (Keep.new (o := .tup [.str "ask", .ref p, v1]) np)
              have hk := ok_askD (j := jj + 1) (parts_all hx) c1
              refine q _ _ ?_ (n4.new np) (((k2.trans k3).trans k4).trans (Keep.new np))
              refine ⟨_, dp_new pa' upd_same (.cons (.str _) (.cons (dp_new pa (by rw [upd_ne (ne_of_none ep4 np)]; exact ep4) (dps_none hA)) (.cons a1 .nil))), ⟨(by show 3 ≤ 100; decide), fun x hx' => ?_⟩, hk.1, ?_⟩
              · rcases List.mem_cons.mp hx' with e | hx'
                · exact e ▸ pz_word
                rcases List.mem_cons.mp hx' with e | hx'
                · exact e ▸ pz_parts hx hl
                · rw [List.mem_singleton.mp hx']
                  exact pz_le b1 (by show 3 * (jj + 1) ≤ 3 * (jj + 1) + 2; omega)
              · rw [hk.2]
                show _ ≤ 1 + 3 * bsz (jj + 1)
                omega
    -- say
    all_goals
      refine ⟨_, rfl, ?_⟩
      refine ⟨fun σ2 H2 => ∃ sz : Nat, σ2 = [some (.ref a), some (.int (dep : Int)), some (.int (asks : Int)), some (.int (len : Int)), some (.int (said : Int)), some (.int kind), some (.int (sz : Int)), none, none, none] ∧ sz ≤ 90 ∧ Hnd H2 a d ∧ Keep a H H2, ?_, ?_⟩
      · refine ⟨_, rfl, a, d, 9, rfl, by decide, n1, fun r H2 l2 u2 n2 k2 => ⟨rfl, _, rfl, ?_⟩⟩
        by_cases c : r = 0
        · rw [decide_eq_true (congrArg V.int c)]
          refine ⟨_, rfl, a, d, 4, rfl, by decide, n2, fun r2 H3 l3 u3 n3 k3 => ⟨r2.toNat, ?_, by omega, n3, (k1.trans k2).trans k3⟩⟩
          have e : r2 = ((r2.toNat : Nat) : Int) := by omega
          show [_, _, _, _, _, _, some (V.int r2), _, _, _] = _
          rw [← e]
        · rw [decide_eq_false (fun z => c (V.int.inj z))]
          exact ⟨said, rfl, hsaid, n2, k1.trans k2⟩
      · rintro σ2 H2 ⟨sz, rfl, hsz, n2, k2⟩
        exact ⟨_, rfl, _, rfl, a, d, sz, rfl, by omega, n2, fun p ds H3 hA ep pa hx hl n3 k3 => ⟨(by show 2 ≤ sizeLine; decide), fun p' np => say H2 p ds H3 k2 hA ep pa hx hl n3 k3 p' np⟩⟩
theorem no_br {f : Addr} {fd : FuncData} (k : Nat) : FnOk P w K mg base CX0 k f fd ["hand", "depth", "asks", "length", "said"] (spBrB K 0) :=
  ⟨fun _ _ _ _ h => absurd h.1 (by decide), fun _ _ _ _ _ _ _ _ _ _ _ _ _ h => absurd h.1 (by decide)⟩
theorem ok_br {f : Addr} {fd : FuncData} (D : Df K mg "_law_breaker" s_law_breaker ["hand", "depth", "asks", "length", "said"] f fd) (T : Txt K w mg cs) (c_law_take : Cl P w K mg base CX0 1 "_law_take" spTake) (c_law_parts : Cl P w K mg base CX0 2 "_law_parts" (spParts8 K)) :
    ∀ j : Nat, FnOk P w K mg base CX0 (j + 3) f fd ["hand", "depth", "asks", "length", "said"] (spBr K j)
  | 0 => br_step D T 0 c_law_take c_law_parts (D.cl (no_br _))
  | j + 1 => br_step D T (j + 1) c_law_take c_law_parts (D.cl ((ok_br D T c_law_take c_law_parts j).imp fun _ _ _ _ h => h.2))

theorem ok_lawbitsS {f : Addr} {fd : FuncData} (D : Df K mg "_law_bits" s_law_bits ["length", "number"] f fd) (T : Txt K w mg cs) : FnOk P w K mg base CX0 1 f fd ["length", "number"] spBitsS := by
  refine D.fn.ok sc_law_bits (fun vs H Q E h => ?_) (fun cdv A outer s H vs Q E hr h => ?_)
  · obtain ⟨n, k, rfl, _⟩ := h
    rfl
  · obtain ⟨n, k, rfl, hn, q⟩ := h
    refine ⟨_, (pss_cons (ps_set (i := 2) sc_law_bits.nd rfl (.inl rfl) pe_str) (pss_cons (ps_for PassesOwn.never rfl (pi_range1 (by rfl) T.n_range (pa_cons (pv 0) pa_nil)) (pg_name (i := 3) sc_law_bits.nd rfl (.inl rfl)) (pss_one (ps_set (i := 2) sc_law_bits.nd rfl (.inl rfl) (pe_op op_add_str (pe_callTy call_str_int (by rfl) T.n_str (by decide +kernel) (pa_cons (pe_op op_sub (pe_op op_fdiv (pv 1) (pe_op op_shl pe_int (pv 3))) (pe_op op_mul (pe_op op_fdiv (pv 1) (pe_op op_shl pe_int (pv 3))) pe_int)) pa_nil)) (pv 2))))) (pss_one (ps_ret (pv 2))))), ?_⟩
    refine ⟨_, rfl, _, rfl, by omega, by omega, for_range (lo := 0) (n := n) (fun i σ H' => ∃ (y : Option V), σ = [some (.int (n : Int)), some (.int (k : Int)), some (.str (sb (toB i k))), y] ∧ i ≤ n ∧ H' = H) ?_ ?_ ?_⟩
    · exact ⟨none, rfl, Nat.zero_le _, rfl⟩
    · rintro i σ H' hi ⟨y, rfl, hin, rfl⟩
      rw [show ((0 : Int) + (i : Int)) = (i : Int) from Int.zero_add _]
      have hp : 2 ^ i ≤ 2 ^ 20 := two_pow_le (by omega)
      have hp0 : 0 < 2 ^ i := Nat.two_pow_pos i
      have e1 : (1 : Int) * 2 ^ (i : Int).toNat = ((2 ^ i : Nat) : Int) := shl_one i
      have e2 : (2 : Int) * 2 ^ (i : Int).toNat = ((2 ^ (i + 1) : Nat) : Int) := by
        rw [Int.toNat_natCast, Nat.pow_succ', Int.natCast_mul, Int.natCast_pow]
        rfl
      have hp1 : 2 ^ (i + 1) ≤ 2 ^ 21 := two_pow_le (by omega)
      have hp10 : 0 < 2 ^ (i + 1) := Nat.two_pow_pos (i + 1)
      refine ⟨_, rfl, _, rfl, _, _, rfl, rfl, ⟨by omega, by omega, by decide⟩, ?_⟩
      have ev : (k : Int) / (1 * 2 ^ (i : Int).toNat) - (k : Int) / (2 * 2 ^ (i : Int).toNat) * 2 = ((k / 2 ^ i : Nat) : Int) % 2 := by
        rw [e1, e2, ← Int.natCast_ediv, ← Int.natCast_ediv, Nat.pow_succ, ← Nat.div_div_eq_div_mul]
        omega
      have hd : ∀ {j : Nat}, j ≤ 21 → CDiv (k : Int) ((2 ^ j : Nat) : Int) := fun {j} hj => by
        have h1 : 2 ^ j ≤ 2 ^ 21 := two_pow_le hj
        have h2 : 0 < 2 ^ j := Nat.two_pow_pos j
        have h3 : ((2 ^ j : Nat) : Int) < 1073741824 := by omega
        exact ⟨by omega, h3⟩
      refine ⟨_, _, rfl, rfl, ?_, _, rfl, _, rfl, _, _, rfl, rfl, ⟨by omega, by omega, by decide⟩, _, _, rfl, rfl, ?_, _, _, rfl, rfl, .inr ⟨by decide, by decide⟩, _, _, rfl, rfl, ?_⟩
      · show CDiv _ (1 * 2 ^ (i : Int).toNat)
        rw [e1]
        exact hd (by omega)
      · show CDiv _ (2 * 2 ^ (i : Int).toNat)
        rw [e2]
        exact hd (by omega)
      dsimp only
      rw [ev]
      refine ⟨_, rfl, ?_, _, rfl, _, _, rfl, rfl, ?_, ?_⟩
      · have h2 : (((k / 2 ^ i : Nat) : Int) % 2).natAbs < 2 := by omega
        have : (((k / 2 ^ i : Nat) : Int) % 2).natAbs.log2 ≤ (((k / 2 ^ i : Nat) : Int) % 2).natAbs := Nat.log2_le_self _
        omega
      · rw [str_bit, sb_len, sb_len, toB_len, sizeLine_eq]
        show 1 + i ≤ 16777216
        omega
      · rw [str_bit, sb_cat, show [k / 2 ^ i % 2 == 1] ++ toB i k = toB (i + 1) k from (toB_front i k).symm]
        exact ⟨_, rfl, by omega, rfl⟩
    · rintro σ H' ⟨y, rfl, hin, rfl⟩
      exact ⟨_, rfl, q⟩

end

end
section
/-! ### the law's machine -/
theorem u1 {n : Nat} (h : n + 64 < cLine) : n + 1 < cLine := by omega
theorem mkS_snoc (ps : List Pa) (p : Pa) (seen : Str) : mkS (ps ++ [p]) seen = mkS ps seen ++ paS seen p := by
  rw [mkS_S, mkS_S, List.map_append, List.flatten_append]
  show SX.S (_ ++ ([(paS seen p).cps.toList].flatten)) = _
  rw [List.flatten_cons, List.flatten_nil, List.append_nil]
  have e : paS seen p = SX.S (paS seen p).cps.toList := by
    unfold SX.S
    simp
  conv => rhs; rw [e]
  exact (SX.S_cat _ _).symm
section
variable {P : Program} {w : World} {K : PySem.W.Frag} {mg : Str → Option Value} {base : Heap} {cs : Cs}
def spLMade (K : PySem.W.Frag) : Sp := fun vs H Q _ => ∃ (q : Addr) (seen : Str) (ps : List Pa), vs = [.ref q, .str seen] ∧ SqT K H q (ps.map paV) ∧ ps.length ≤ 1000 ∧ seen.length ≤ 100000 ∧ Q (.str (mkS ps seen)) H
theorem ok_law_made {f : Addr} {fd : FuncData} (D : Df K mg "_law_made" s_law_made ["parts", "handed"] f fd) (T : Txt K w mg cs) : FnOk P w K mg base CX0 1 f fd ["parts", "handed"] (spLMade K) := by
  refine D.fn.ok sc_law_made (fun vs H Q E h => ?_) (fun cdv A outer s H vs Q E hr h => ?_)
  · obtain ⟨q, seen, ps, rfl, _⟩ := h
    rfl
  · obtain ⟨q0, seen, ps, rfl, hq, hn, hl, q⟩ := h
    refine ⟨_, (pss_cons (ps_set (i := 2) sc_law_made.nd rfl (.inl rfl) pe_str) (pss_cons (ps_for PassesOwn.never rfl (pi_tup (pv 0)) (pg_name (i := 3) sc_law_made.nd rfl (.inl rfl)) (pss_one (ps_if (pt_val (pe_callB (isiK K) (by rfl) T.n_isinstance (by decide +kernel) (pa_cons (pv 3) (pa_cons (pe_ty "str" (by rfl) T.n_str (by decide +kernel)) pa_nil)))) (pss_one (ps_set (i := 2) sc_law_made.nd rfl (.inl rfl) (pe_op op_add_str (pv 2) (pv 3)))) (pss_one (ps_if (pt_cmpR op_lt (pv 3) (pe_callB call_len_str (by rfl) T.n_len (by decide +kernel) (pa_cons (pv 1) pa_nil)) (nomark _)) (pss_one (ps_set (i := 2) sc_law_made.nd rfl (.inl rfl) (pe_op op_add_str (pv 2) (pe_ix ix_str (pv 1) (pv 3) (fun _ _ => rfl))))) (pss_one (ps_set (i := 2) sc_law_made.nd rfl (.inl rfl) (pe_op op_add_str (pv 2) pe_str)))))))) (pss_one (ps_ret (pv 2))))), ?_⟩
    refine ⟨_, rfl, q0, rfl, ⟨_, hq⟩, ?_⟩
    refine for_tup (xs := ps.map paV) (fun i σ H' => ∃ y, σ = [some (.ref q0), some (.str seen), some (.str (mkS (ps.take i) seen)), y] ∧ H' = H) ⟨_, rfl, rfl⟩ ?_ ?_ ?_
    · rintro i σ H' _ ⟨y, rfl, rfl⟩
      exact hq
    · rintro i x σ H' hx ⟨y, rfl, rfl⟩
      rw [List.getElem?_map] at hx
      obtain ⟨p, hp, rfl⟩ := Option.map_eq_some_iff.mp hx
      have hi : i < ps.length := (List.getElem?_eq_some_iff.mp hp).1
      have ml : (mkS (ps.take i) seen).length = i := by rw [mkS_len, List.length_take]; omega
      have hz : (200000 : Nat) ≤ sizeLine := by decide
      have nx : mkS (ps.take (i + 1)) seen = mkS (ps.take i) seen ++ paS seen p := by
        rw [List.take_add_one, hp]
        exact mkS_snoc _ _ _
      cases p with
      | bit b =>
        refine ⟨_, rfl, _, _, _, _, _, rfl, .ty "str", .base (.str _), kit_str (.str (sb [b])), true, rfl, ?_⟩
        show (if true = true then _ else _)
        rw [if_pos rfl]
        refine ⟨_, rfl, _, rfl, _, _, rfl, rfl, by rw [ml, sb_len]; show i + 1 ≤ _; omega, ?_⟩
        exact ⟨_, by rw [nx]; rfl, rfl⟩
      | ref j =>
        refine ⟨_, rfl, _, _, _, _, _, rfl, .ty "str", .base (.int _), kit_str (.int (j : Int)), false, rfl, ?_⟩
        show (if false = true then _ else _)
        rw [if_neg Bool.false_ne_true]
        have nx : mkS (ps.take (i + 1)) seen = mkS (ps.take i) seen ++ bitOf seen j := nx
        by_cases hj : j < seen.length
        · refine ⟨_, rfl, _, rfl, seen, rfl, by omega, _, _, rfl, rfl, true, ?_, ?_⟩
          · show V.bl (decide ((j : Int) < (seen.length : Int))) = _
            rw [decide_eq_true (by omega)]
          show (if true = true then _ else _)
          rw [if_pos rfl]
          have li : j < seen.cps.toList.length := hj
          refine ⟨_, rfl, _, rfl, _, rfl, seen, j, seen.cps.toList.getD j 0, rfl, rfl, by omega, atI_nat (by rw [List.getD_eq_getElem?_getD, List.getElem?_eq_getElem li]; rfl), _, _, rfl, rfl, by rw [ml]; show i + 1 ≤ _; omega, ?_⟩
          unfold bitOf at nx
          rw [if_pos hj] at nx
          exact ⟨_, by rw [nx]; rfl, rfl⟩
        · refine ⟨_, rfl, _, rfl, seen, rfl, by omega, _, _, rfl, rfl, false, ?_, ?_⟩
          · show V.bl (decide ((j : Int) < (seen.length : Int))) = _
            rw [decide_eq_false (by omega)]
          show (if false = true then _ else _)
          rw [if_neg Bool.false_ne_true]
          refine ⟨_, rfl, _, _, rfl, rfl, by rw [ml]; show i + 1 ≤ _; omega, ?_⟩
          unfold bitOf at nx
          rw [if_neg hj] at nx
          exact ⟨_, by rw [nx]; rfl, rfl⟩
    · rintro σ H' ⟨y, rfl, rfl⟩
      rw [List.length_map, List.take_length]
      exact ⟨_, rfl, q⟩
/-! ### the state of the machine -/
structure LS where
  rw : Addr
  dl : Addr
  al : Addr
  kn : Addr
  pl : Addr
  row : List Nat
  draws : List (Nat × Nat)
  asked : List (Str × Str)
  key : Int
  text : Str
abbrev dictLS (s : LS) : List (Key × V) := [(.inr "row", .ref s.rw), (.inr "draws", .ref s.dl), (.inr "asked", .ref s.al), (.inr "known", .ref s.kn), (.inr "key", .int s.key), (.inr "text", .str s.text), (.inr "places", .ref s.pl)]
structure LSt (K : PySem.W.Frag) (H : Hp) (st : Addr) (s : LS) : Prop where
  d : H st = some (.dK (dictLS s))
  r : SqL K H s.rw (s.row.map fun x : Nat => V.int (x : Int))
  dr : RDraws H s.dl s.draws
  as : RAskL H s.al s.asked
  n1 : s.dl ≠ s.al
  n2 : s.rw ≠ s.dl
  n3 : s.rw ≠ s.al
/-- all stays but these -/
def Kx (as : List Addr) (H H' : Hp) : Prop := ∀ b o, H b = some o → b ∉ as → H' b = some o
theorem Kx.trans {as : List Addr} {H H1 H2 : Hp} (a : Kx as H H1) (b : Kx as H1 H2) : Kx as H H2 := fun c o e n => b c o (a c o e n) n
theorem Kx.refl (as : List Addr) (H : Hp) : Kx as H H := fun _ _ e _ => e
/-- the choice for so many -/
def pick (row : List Nat) (k m : Nat) : Nat := row.getD k 0 % m
def spChoice (K : PySem.W.Frag) : Sp := fun vs H Q _ => ∃ (st : Addr) (s : LS) (m : Nat), vs = [.ref st, .int (m : Int)] ∧ LSt K H st s ∧ 1 ≤ m ∧ m ≤ 1000000 ∧ s.draws.length ≤ 5000 ∧
  ∀ H', LSt K H' st { s with draws := s.draws ++ [(pick s.row s.draws.length m, m)] } → Kx [s.dl] H H' → Q (.int ((pick s.row s.draws.length m : Nat) : Int)) H'
theorem LSt.more {H : Hp} {st p : Addr} {s : LS} {c m : Nat} (h : LSt K H st s) (np : H p = none) : ∃ xs, upd H p (.tup [.int (c : Int), .int (m : Int)]) s.dl = some (.lst xs) ∧ xs.length = s.draws.length ∧
    LSt K (upd (upd H p (.tup [.int (c : Int), .int (m : Int)])) s.dl (.lst (xs ++ [.ref p]))) st { s with draws := s.draws ++ [(c, m)] } ∧ Kx [s.dl] H (upd (upd H p (.tup [.int (c : Int), .int (m : Int)])) s.dl (.lst (xs ++ [.ref p]))) := by
  obtain ⟨xs, e1, e2, e3⟩ := h.dr.more (c := c) (m := m) np
  have dl1 : ∃ ys, H s.dl = some (.lst ys) := by
    obtain ⟨ys, h1, _⟩ := h.dr
    exact ⟨ys, h1⟩
  obtain ⟨ys, dl1⟩ := dl1
  have keep : ∀ b o, H b = some o → b ≠ s.dl → upd (upd H p (.tup [.int (c : Int), .int (m : Int)])) s.dl (.lst (xs ++ [.ref p])) b = some o := fun b o e n => by
    rw [upd_ne n, upd_ne (ne_of_none e np)]
    exact e
  refine ⟨xs, e1, e2, ⟨keep _ _ h.d (fun z => ?_), ?_, e3, ?_, h.n1, h.n2, h.n3⟩, fun b o e n => keep b o e fun z => n (by rw [z]; exact List.mem_singleton.mpr rfl)⟩
  · have q := h.d
    rw [z, dl1] at q
    cases q
  · rcases h.r with (g | ⟨o, g⟩) | g
    · exact .inl (.inl (keep _ _ g h.n2))
    · exact .inl (.inr ⟨o, keep _ _ g h.n2⟩)
    · exact .inr g
  · obtain ⟨zs, g1, g2, g3⟩ := h.as
    refine ⟨zs, keep _ _ g1 h.n1.symm, g2, fun i z r q => ?_⟩
    obtain ⟨t, w1, w2⟩ := g3 i z r q
    exact ⟨t, w1, keep _ _ w2 fun z => by rw [z, dl1] at w2; cases w2⟩
theorem ok_choice {f : Addr} {fd : FuncData} (D : Df K mg "_law_choice" s_law_choice ["state", "many"] f fd) (T : Txt K w mg cs) : FnOk P w K mg base CX0 1 f fd ["state", "many"] (spChoice K) := by
  refine D.fn.ok sc_law_choice (fun vs H Q E h => ?_) (fun cdv A outer s H vs Q E hr h => ?_)
  · obtain ⟨st, s, m, rfl, _⟩ := h
    rfl
  · obtain ⟨st, s, m, rfl, hs, hm, hm2, hd, q⟩ := h
    refine ⟨_, (pss_cons (ps_set (i := 2) sc_law_choice.nd rfl (.inl rfl) pe_int) (pss_cons (ps_if (pt_cmpR op_lt (pe_callB (lenS K) (by rfl) T.n_len (by decide +kernel) (pa_cons (pe_dget (u1 hr.units) (pv 0) pe_str (fun _ _ => rfl)) pa_nil)) (pe_callB (lenS K) (by rfl) T.n_len (by decide +kernel) (pa_cons (pe_dget (u1 hr.units) (pv 0) pe_str (fun _ _ => rfl)) pa_nil)) (nomark _)) (pss_one (ps_set (i := 2) sc_law_choice.nd rfl (.inl rfl) (pe_op op_mod (pe_callTy call_int1 (by rfl) T.n_int (by decide +kernel) (pa_cons (pe_ix (ixL K) (pe_dget (u1 hr.units) (pv 0) pe_str (fun _ _ => rfl)) (pe_callB (lenS K) (by rfl) T.n_len (by decide +kernel) (pa_cons (pe_dget (u1 hr.units) (pv 0) pe_str (fun _ _ => rfl)) pa_nil)) (fun _ _ => rfl)) pa_nil)) (pv 1)))) pss_nil) (pss_cons (ps_expr (pe_bm PySem.F.plainAttrs_list PySem.F.slot_list_append PySem.F.type_list_append mt_append (pe_dget (u1 hr.units) (pv 0) pe_str (fun _ _ => rfl)) (pa_cons (pe_tup (pa_cons (pv 2) (pa_cons (pv 1) pa_nil))) pa_nil))) (pss_one (ps_ret (pv 2)))))), ?_⟩
    obtain ⟨dxs, dd1, dd2, dd3⟩ := id hs.dr
    have gd : DGet H st (.str "draws") (some (.ref s.dl)) := DGet.k (k := .inr "draws") hs.d
    have gr : DGet H st (.str "row") (some (.ref s.rw)) := DGet.k (k := .inr "row") hs.d
    have hz : (5000 : Nat) < sizeLine := by decide
    have go : ∀ σ2 : L2.St, σ2 = [some (.ref st), some (.int (m : Int)), some (.int ((pick s.row s.draws.length m : Nat) : Int))] → (tSeq (tDrop (tBM K "list" rAppend (tDGet (tVar 0) (tC (V.str (Str.ofString "draws")))) (tCons (tTup (tCons (tVar 2) (tCons (tVar 1) tNil))) tNil))) (tRet (tVar 2)))
        { nx := fun x H' => Q V.non H', rt := Q } σ2 H := by
      rintro _ rfl
      refine ⟨_, rfl, st, _, rfl, gd, .inl ⟨rfl, _, .inl (.inl dd1)⟩, _, rfl, _, rfl, by show 2 ≤ sizeLine; decide, fun p np => ?_⟩
      obtain ⟨xs, e1, e2, e3, e4⟩ := hs.more (c := pick s.row s.draws.length m) (m := m) np
      exact ⟨s.dl, xs, _, rfl, rfl, e1, by omega, _, rfl, q _ e3 e4⟩
    by_cases hk : s.draws.length < s.row.length
    · refine ⟨_, rfl, st, _, rfl, gd, s.dl, dxs, rfl, .inl (.inl (.inl dd1)), _, rfl, st, _, rfl, gr, s.rw, _, rfl, .inl hs.r, _, _, rfl, rfl, true, ?_, ?_⟩
      · show V.bl (decide ((dxs.length : Int) < ((s.row.map fun x : Nat => V.int (x : Int)).length : Int))) = _
        rw [List.length_map, dd2, decide_eq_true (by omega)]
      show (if true = true then _ else _)
      rw [if_pos rfl]
      have hcv : (s.row.map fun x : Nat => V.int (x : Int))[dxs.length]? = some (.int ((s.row.getD s.draws.length 0 : Nat) : Int)) := by
        rw [dd2, List.getElem?_map, List.getElem?_eq_getElem hk, List.getD_eq_getElem?_getD, List.getElem?_eq_getElem hk]
        rfl
      refine ⟨_, rfl, st, _, rfl, gr, _, rfl, st, _, rfl, gd, s.dl, dxs, rfl, .inl (.inl (.inl dd1)), s.rw, _, _, _, rfl, rfl, hs.r, atI_nat hcv, .inl ⟨_, rfl, _, rfl, _, _, rfl, rfl, by omega, ?_⟩⟩
      refine go _ ?_
      have e : ((s.row.getD s.draws.length 0 : Nat) : Int) % (m : Int) = ((pick s.row s.draws.length m : Nat) : Int) := by
        unfold pick
        exact (Int.natCast_emod _ _).symm
      show _ = [some (V.ref st), some (V.int (m : Int)), some (V.int ((pick s.row s.draws.length m : Nat) : Int))]
      rw [← e]
      rfl
    · refine ⟨_, rfl, st, _, rfl, gd, s.dl, dxs, rfl, .inl (.inl (.inl dd1)), _, rfl, st, _, rfl, gr, s.rw, _, rfl, .inl hs.r, _, _, rfl, rfl, false, ?_, ?_⟩
      · show V.bl (decide ((dxs.length : Int) < ((s.row.map fun x : Nat => V.int (x : Int)).length : Int))) = _
        rw [List.length_map, dd2, decide_eq_false (by omega)]
      show (if false = true then _ else _)
      rw [if_neg Bool.false_ne_true]
      refine go _ ?_
      have e : pick s.row s.draws.length m = 0 := by
        unfold pick
        rw [List.getD_eq_getElem?_getD, List.getElem?_eq_none (by omega)]
        exact Nat.zero_mod m
      rw [e]
      rfl
def spAny (K : PySem.W.Frag) : Sp := fun vs H Q _ => ∃ (st : Addr) (s : LS) (m : Nat), vs = [.ref st, .int (m : Int)] ∧ LSt K H st s ∧ m ≤ 19 ∧ s.draws.length ≤ 5000 ∧
  ∀ H', LSt K H' st { s with draws := s.draws ++ [(pick s.row s.draws.length (2 ^ m), 2 ^ m)] } → Kx [s.dl] H H' → Q (.str (bitS m (pick s.row s.draws.length (2 ^ m)))) H'
theorem pow_small {m : Nat} (h : m ≤ 19) : 2 ^ m ≤ 1000000 ∧ 1 ≤ 2 ^ m := ⟨Nat.le_trans (Nat.pow_le_pow_right (by decide) h) (by decide), Nat.one_le_two_pow⟩
theorem ok_any {f : Addr} {fd : FuncData} (D : Df K mg "_law_any" s_law_any ["state", "length"] f fd) (T : Txt K w mg cs) (c_law_bits : Cl P w K mg base CX0 1 "_law_bits" spBitsS) (c_law_choice : Cl P w K mg base CX0 1 "_law_choice" (spChoice K)) : FnOk P w K mg base CX0 2 f fd ["state", "length"] (spAny K) := by
  refine D.fn.ok sc_law_any (fun vs H Q E h => ?_) (fun cdv A outer s H vs Q E hr h => ?_)
  · obtain ⟨st, s, m, rfl, _⟩ := h
    rfl
  · obtain ⟨st, s, m, rfl, hs, hm, hd, q⟩ := h
    refine ⟨_, (pss_one (ps_ret (pe_cl c_law_bits hr (by first | decide | omega) (by rfl) (pa_cons (pv 1) (pa_cons (pe_cl c_law_choice hr (by first | decide | omega) (by rfl) (pa_cons (pv 0) (pa_cons (pe_op op_shl pe_int (pv 1)) pa_nil))) pa_nil))))), ?_⟩
    obtain ⟨p1, p2⟩ := pow_small hm
    have e2 : (1 : Int) * 2 ^ (m : Int).toNat = ((2 ^ m : Nat) : Int) := by simp
    refine ⟨_, rfl, _, rfl, _, rfl, 1, m, rfl, rfl, ⟨by omega, by omega, by decide⟩, ?_⟩
    dsimp only
    rw [e2]
    exact ⟨st, s, 2 ^ m, rfl, hs, p2, p1, hd, fun H' h1 h2 => ⟨m, _, rfl, by omega, q H' h1 h2⟩⟩
def spLXor : Sp := fun vs H Q _ => ∃ l r : List Bool, vs = [.str (sb l), .str (sb r)] ∧ l.length = r.length ∧ l.length ≤ 640 ∧ ∀ H', Same H H' → Q (.str (sb (List.zipWith (fun x y => x != y) l r))) H'
theorem ok_law_xor {f : Addr} {fd : FuncData} (D : Df K mg "_law_xor" s_law_xor ["first", "second"] f fd) (T : Txt K w mg cs) : FnOk P w K mg base CX0 1 f fd ["first", "second"] spLXor := by
  refine D.fn.ok sc_law_xor (fun vs H Q E h => ?_) (fun cdv A outer s H vs Q E hr h => ?_)
  · obtain ⟨l, r, rfl, _⟩ := h
    rfl
  · obtain ⟨l, r, rfl, hl, hn, q⟩ := h
    refine ⟨_, (pss_one (ps_ret (pe_m1 PySem.F.slot_str_join PySem.F.type_str_join (mtJoin K) pe_str (pe_lc (own := [("k", 2)]) (g := gName 2) (tt := tYes) rfl sc_law_xor.nd (pi_range1 (by rfl) T.n_range (pa_cons (pe_callB call_len_str (by rfl) T.n_len (by decide +kernel) (pa_cons (pv 0) pa_nil)) pa_nil)) (blkOk_by (own := [("k", 2)]) (N := ["first", "second", "k"]) (sc := defScope s_law_xor) (by decide +kernel)) (fun _ _ _ _ _ => (pg_name (i := 2) sc_law_xor.nd rfl (.inl rfl))) (fun _ _ _ _ _ => pts_nil) (fun _ _ _ _ _ => (pe_ix (ixL K) (pe_lst (pa_cons pe_str (pa_cons pe_str pa_nil))) (pe_callTy call_int1 (by rfl) T.n_int (by decide +kernel) (pa_cons (pe_cmpR op_ne (pe_ix ix_str (pv 0) (pv 2) (fun _ _ => rfl)) (pe_ix ix_str (pv 1) (pv 2) (fun _ _ => rfl)) (nomark _)) pa_nil)) (fun _ _ => rfl))))))), ?_⟩
    have zl : (List.zipWith (fun x y => x != y) l r).length = l.length := by rw [List.length_zipWith]; omega
    refine ⟨⟨_, rfl⟩, _, rfl, sb l, rfl, sb_size (by omega), _, rfl, by rw [sb_len]; omega, by rw [sb_len]; omega, fun Dl hD => ?_⟩
    rw [sb_len]
    refine lc_range (lo := 0) (n := l.length) (fun i H' => Same H H' ∧ H' Dl = some (.lst (((List.zipWith (fun x y => x != y) l r).take i).map fun b => V.str (sb [b])))) ?_ ?_ ?_
    · exact ⟨same_new hD, upd_same⟩
    · rintro i H' hi ⟨s1, e1⟩
      have z0 : ((0 : Int) + (i : Int)) = ((i : Nat) : Int) := Int.zero_add _
      rw [z0]
      refine ⟨rfl, ?_⟩
      refine ⟨by decide, fun p np => ?_⟩
      refine ⟨_, rfl, _, rfl, sb l, i, _, rfl, rfl, sb_size (by omega), sb_ix hi, _, rfl, _, rfl, sb r, i, _, rfl, rfl, sb_size (by omega), sb_ix (by omega), rfl, .inr ⟨_, rfl, ?_⟩⟩
      have hz : (List.zipWith (fun x y => x != y) l r)[i]? = some (l.getD i false != r.getD i false) := by
        rw [List.getElem?_zipWith, List.getElem?_eq_getElem hi, List.getElem?_eq_getElem (by omega), List.getD_eq_getElem?_getD, List.getElem?_eq_getElem hi, List.getD_eq_getElem?_getD, List.getElem?_eq_getElem (by omega)]
        rfl
      revert hz
      generalize l.getD i false = x
      generalize r.getD i false = y
      intro hz
      have hv : (if (!decide (V.str ⟨#[cB x]⟩ = V.str ⟨#[cB y]⟩)) = true then (1 : Int) else 0) = (if (x != y) = true then (1 : Int) else 0) := by
        cases x <;> cases y <;> simp [cB]
      rw [hv]
      have ha : atI [V.str "0", V.str "1"] (if (x != y) = true then (1 : Int) else 0) = some (.str (sb [x != y])) := by
        cases x <;> cases y <;> rfl
      refine ⟨p, _, _, _, rfl, rfl, .inl (.inl upd_same), ha, _, (upd_ne (ne_of_none e1 np)).trans e1, ?_, ?_, ?_⟩
      · rw [List.length_map, List.length_take]
        have : (1000 : Nat) < sizeLine := by decide
        omega
      · intro b o e
        rw [upd_ne (ne_of_none e hD), upd_ne (ne_of_none (s1 b o e) np)]
        exact s1 b o e
      · rw [upd_same, List.take_add_one, hz, List.map_append]
        rfl
    · rintro H' ⟨s1, e1⟩
      rw [List.take_of_length_le (by omega)] at e1
      refine ⟨_, Dl, (List.zipWith (fun x y => x != y) l r).map (fun b => sb [b]), rfl, rfl, .inl (.inl (.inl (by rw [List.map_map]; exact e1))), ?_, ?_⟩
      · have e : ∀ bs : List Bool, ((bs.map fun b => sb [b]).map (·.length)).sum = bs.length := by
          intro bs
          rw [List.map_map]
          induction bs with
          | nil => rfl
          | cons b bs ih =>
            rw [List.map_cons, List.sum_cons, ih, List.length_cons]
            show 1 + _ = _
            omega
        rw [e]
        show _ + _ * 0 ≤ _
        omega
      · rw [join_bits]
        exact q H' s1
end

end
section
/-! ### a game of the law, its beginning, its end -/
structure Gm where
  nx : Bool
  n : Nat
  m : Nat
  rows : List (List Bool)
  real : Bool
  r : List Bool
  b : Int
structure GmOk (G : Gm) : Prop where
  n19 : G.n ≤ 19
  m1 : 1 ≤ G.m
  m19 : G.m ≤ 19
  rl : G.nx = false → G.r.length = G.m
def GmV (K : PySem.W.Frag) (H : Hp) (g : Addr) (G : Gm) : Prop := ∃ blk, GenV K H blk G.n G.m G.rows ∧ SqX K H g (if G.nx then [.str "next", .ref blk, .bl G.real] else [.str "opening", .ref blk, .str (sb G.r), .bl G.real, .int G.b])
def rowM (G : Gm) : Nat := if G.real then 2 ^ G.n else 2 ^ G.m
def rowZ (G : Gm) (x : Nat) : List Bool := if G.real then G.rows.getD x [] else toB G.m x
theorem SqX.kx {K : PySem.W.Frag} {H H' : Hp} {as : List Addr} {a : Addr} {xs : List V} (h : SqX K H a xs) (k : Kx as H H') (n : ∀ b ∈ as, ∃ o, H b = some o ∧ (∀ ys, o ≠ .tup ys) ∧ ∀ u ys, o ≠ .frz u (.tup ys)) : SqX K H' a xs := by
  rcases h with h | ⟨o, h⟩ | h
  · exact .inl (k _ _ h fun m => by
      obtain ⟨o, e, n1, _⟩ := n _ m
      rw [h] at e
      exact n1 xs (Option.some.inj e).symm)
  · exact .inr (.inl ⟨o, k _ _ h fun m => by
      obtain ⟨o', e, _, n1⟩ := n _ m
      rw [h] at e
      exact n1 _ _ (Option.some.inj e).symm⟩)
  · exact .inr (.inr h)
theorem LSt.dl_lst {K : PySem.W.Frag} {H : Hp} {st : Addr} {s : LS} (h : LSt K H st s) : ∃ o, H s.dl = some o ∧ (∀ ys, o ≠ .tup ys) ∧ ∀ u ys, o ≠ .frz u (.tup ys) := by
  obtain ⟨xs, e, _⟩ := h.dr
  exact ⟨_, e, fun _ z => (by cases z), fun _ _ z => (by cases z)⟩
theorem LSt.st_d {K : PySem.W.Frag} {H : Hp} {st : Addr} {s : LS} (h : LSt K H st s) : ∃ o, H st = some o ∧ (∀ ys, o ≠ .tup ys) ∧ ∀ u ys, o ≠ .frz u (.tup ys) := ⟨_, h.d, fun _ z => (by cases z), fun _ _ z => (by cases z)⟩
theorem GenV.kx {K : PySem.W.Frag} {H H' : Hp} {as : List Addr} {b : Addr} {n m : Nat} {rows : List (List Bool)} (h : GenV K H b n m rows) (k : Kx as H H') (c : ∀ b ∈ as, ∃ o, H b = some o ∧ (∀ ys, o ≠ .tup ys) ∧ ∀ u ys, o ≠ .frz u (.tup ys)) : GenV K H' b n m rows := by
  obtain ⟨r, h1, h2, h3⟩ := h
  exact ⟨r, h1.kx k c, h2.kx k c, h3⟩
section
variable {P : Program} {w : World} {K : PySem.W.Frag} {mg : Str → Option Value} {base : Heap} {cs : Cs}
def spLRow (K : PySem.W.Frag) : Sp := fun vs H Q _ => ∃ (st blk : Addr) (s : LS) (G : Gm), vs = [.ref st, .ref blk, .bl G.real] ∧ LSt K H st s ∧ GenV K H blk G.n G.m G.rows ∧ GmOk G ∧ s.draws.length ≤ 5000 ∧
  ∀ H', LSt K H' st { s with draws := s.draws ++ [(pick s.row s.draws.length (rowM G), rowM G)] } → Kx [s.dl] H H' → Q (.str (sb (rowZ G (pick s.row s.draws.length (rowM G))))) H'
theorem ok_law_row {f : Addr} {fd : FuncData} (D : Df K mg "_law_row" s_law_row ["state", "table", "real"] f fd) (T : Txt K w mg cs) (c_law_choice : Cl P w K mg base CX0 1 "_law_choice" (spChoice K)) (c_law_any : Cl P w K mg base CX0 2 "_law_any" (spAny K)) : FnOk P w K mg base CX0 3 f fd ["state", "table", "real"] (spLRow K) := by
  refine D.fn.ok sc_law_row (fun vs H Q E h => ?_) (fun cdv A outer s H vs Q E hr h => ?_)
  · obtain ⟨st, blk, s, G, rfl, _⟩ := h
    rfl
  · obtain ⟨st, blk, s, G, rfl, hs, hg, ok, hd, q⟩ := h
    refine ⟨_, (pss_cons (ps_if (pt_val (pv 2)) (pss_one (ps_ret (pe_ix (ixT K) (pe_ix (ixT K) (pv 1) pe_int (fun _ _ => rfl)) (pe_cl c_law_choice hr (by first | decide | omega) (by rfl) (pa_cons (pv 0) (pa_cons (pe_op op_shl pe_int (pe_ix (ixT K) (pv 1) pe_int (fun _ _ => rfl))) pa_nil))) (fun _ _ => rfl)))) pss_nil) (pss_one (ps_ret (pe_cl c_law_any hr (by first | decide | omega) (by rfl) (pa_cons (pv 0) (pa_cons (pe_ix (ixT K) (pv 1) pe_int (fun _ _ => rfl)) pa_nil)))))), ?_⟩
    obtain ⟨rws, g1, g2, g3, g4, g5, g6⟩ := id hg
    obtain ⟨n19, m1, m19, rl⟩ := ok
    cases er : G.real with
    | true =>
      unfold rowM rowZ at q
      rw [er] at q
      obtain ⟨p1, p2⟩ := pow_small n19
      have e2 : (1 : Int) * 2 ^ (G.n : Int).toNat = ((2 ^ G.n : Nat) : Int) := by simp
      refine ⟨_, rfl, true, rfl, ?_⟩
      show (if true = true then _ else _)
      rw [if_pos rfl]
      refine ⟨_, rfl, blk, _, 3, _, rfl, rfl, g1.sq, rfl, _, rfl, _, rfl, blk, _, 1, _, rfl, rfl, g1.sq, rfl, 1, G.n, rfl, rfl, ⟨by omega, by omega, by decide⟩, ?_⟩
      dsimp only
      rw [e2]
      refine ⟨st, s, 2 ^ G.n, rfl, hs, p2, p1, hd, fun H' h1 h2 => ?_⟩
      have hx : pick s.row s.draws.length (2 ^ G.n) < G.rows.length := by
        rw [g3]
        exact Nat.mod_lt _ (by omega)
      refine ⟨rws, _, _, _, rfl, rfl, (g2.kx h2 fun b hb => by rw [List.mem_singleton.mp hb]; exact hs.dl_lst).sq, atI_nat (v := .str (sb (G.rows.getD (pick s.row s.draws.length (2 ^ G.n)) []))) ?_, q H' h1 h2⟩
      rw [List.getElem?_map, List.getElem?_eq_getElem hx, List.getD_eq_getElem?_getD, List.getElem?_eq_getElem hx]
      rfl
    | false =>
      unfold rowM rowZ at q
      rw [er] at q
      refine ⟨_, rfl, false, rfl, ?_⟩
      show (if false = true then _ else _)
      rw [if_neg Bool.false_ne_true]
      exact ⟨_, rfl, _, rfl, blk, _, 2, _, rfl, rfl, g1.sq, rfl, st, s, G.m, rfl, hs, m19, hd, fun H' h1 h2 => q H' h1 h2⟩
theorem ok_reply {f : Addr} {fd : FuncData} (D : Df K mg "_law_reply" s_law_reply ["game", "state", "ask_v"] f fd) (T : Txt K w mg cs) : FnOk P w K mg base CX0 1 f fd ["game", "state", "ask_v"] (fun vs H Q _ => ∃ a b c, vs = [a, b, c] ∧ Q (.str "") H) := by
  refine D.fn.ok sc_law_reply (fun vs H Q E h => ?_) (fun cdv A outer s H vs Q E hr h => ?_)
  · obtain ⟨a, b, c, rfl, _⟩ := h
    rfl
  · obtain ⟨a, b, c, rfl, q⟩ := h
    exact ⟨_, (pss_one (ps_ret pe_str)), q⟩
/-- what the law draws at the beginning, the key, the text, what is handed -/
def startD (row : List Nat) (G : Gm) : List (Nat × Nat) := if G.nx then [(pick row 0 G.m, G.m), (pick row 1 (rowM G), rowM G)] else [(pick row 0 (rowM G), rowM G)]
def startK (row : List Nat) (G : Gm) : Int := if G.nx then ((pick row 0 G.m : Nat) : Int) else 0
def startT (row : List Nat) (G : Gm) : List Bool := if G.nx then rowZ G (pick row 1 (rowM G)) else []
def startH (row : List Nat) (G : Gm) : List Bool := if G.nx then hintB (rowZ G (pick row 1 (rowM G))) (pick row 0 G.m) else if G.b = 1 then List.zipWith (fun x y => x != y) (rowZ G (pick row 0 (rowM G))) G.r else rowZ G (pick row 0 (rowM G))
def spStart (K : PySem.W.Frag) : Sp := fun vs H Q _ => ∃ (g st : Addr) (s : LS) (G : Gm), vs = [.ref g, .ref st] ∧ GmV K H g G ∧ GmOk G ∧ LSt K H st s ∧ s.draws = [] ∧ s.key = 0 ∧ s.text = sb [] ∧
  ∀ H', LSt K H' st { s with draws := startD s.row G, key := startK s.row G, text := sb (startT s.row G) } → Kx [st, s.dl] H H' → Q (.str (sb (startH s.row G))) H'
theorem LSt.put {H : Hp} {st : Addr} {s : LS} (h : LSt K H st s) (k : Int) (t : Str) : LSt K (upd H st (.dK (dictLS { s with key := k, text := t }))) st { s with key := k, text := t } ∧ Kx [st] H (upd H st (.dK (dictLS { s with key := k, text := t }))) := by
  have keep : ∀ b o, H b = some o → b ≠ st → upd H st (.dK (dictLS { s with key := k, text := t })) b = some o := fun b o e n => (upd_ne n).trans e
  have nd : ∀ b xs, H b = some (.lst xs) → b ≠ st := fun b xs e z => by
    have q := h.d
    rw [← z, e] at q
    cases q
  have nt : ∀ b xs, H b = some (.tup xs) → b ≠ st := fun b xs e z => by
    have q := h.d
    rw [← z, e] at q
    cases q
  refine ⟨⟨upd_same, ?_, ?_, ?_, h.n1, h.n2, h.n3⟩, fun b o e n => keep b o e fun z => n (by rw [z]; exact List.mem_singleton.mpr rfl)⟩
  · rcases h.r with (g | ⟨o, g⟩) | g
    · exact .inl (.inl (keep _ _ g (nd _ _ g)))
    · exact .inl (.inr ⟨o, keep _ _ g fun z => by
        have q := h.d
        rw [← z] at q
        have g : H s.rw = _ := g
        rw [g] at q
        cases q⟩)
    · exact .inr g
  · obtain ⟨xs, e1, e2, e3⟩ := h.dr
    refine ⟨xs, keep _ _ e1 (nd _ _ e1), e2, fun i c m q => ?_⟩
    obtain ⟨t, w1, w2⟩ := e3 i c m q
    exact ⟨t, w1, keep _ _ w2 (nt _ _ w2)⟩
  · obtain ⟨xs, e1, e2, e3⟩ := h.as
    refine ⟨xs, keep _ _ e1 (nd _ _ e1), e2, fun i c m q => ?_⟩
    obtain ⟨t, w1, w2⟩ := e3 i c m q
    exact ⟨t, w1, keep _ _ w2 (nt _ _ w2)⟩
theorem Kx.more {as bs : List Addr} {H H' : Hp} (k : Kx as H H') (s : ∀ a ∈ as, a ∈ bs) : Kx bs H H' := fun b o e n => k b o e fun m => n (s b m)
theorem LSt.same {H H' : Hp} {st : Addr} {s : LS} (h : LSt K H st s) (e : Same H H') : LSt K H' st s := by
  refine ⟨e _ _ h.d, e.seq h.r, ?_, ?_, h.n1, h.n2, h.n3⟩
  · obtain ⟨xs, e1, e2, e3⟩ := h.dr
    refine ⟨xs, e _ _ e1, e2, fun i c m q => ?_⟩
    obtain ⟨t, w1, w2⟩ := e3 i c m q
    exact ⟨t, w1, e _ _ w2⟩
  · obtain ⟨xs, e1, e2, e3⟩ := h.as
    refine ⟨xs, e _ _ e1, e2, fun i c m q => ?_⟩
    obtain ⟨t, w1, w2⟩ := e3 i c m q
    exact ⟨t, w1, e _ _ w2⟩
theorem ok_start {f : Addr} {fd : FuncData} (D : Df K mg "_law_start" s_law_start ["game", "state"] f fd) (T : Txt K w mg cs) (c_law_choice : Cl P w K mg base CX0 1 "_law_choice" (spChoice K)) (c_law_row : Cl P w K mg base CX0 3 "_law_row" (spLRow K)) (c_law_xor : Cl P w K mg base CX0 1 "_law_xor" spLXor) :
    FnOk P w K mg base CX0 4 f fd ["game", "state"] (spStart K) := by
  refine D.fn.ok sc_law_start (fun vs H Q E h => ?_) (fun cdv A outer s H vs Q E hr h => ?_)
  · obtain ⟨g, st, s, G, rfl, _⟩ := h
    rfl
  · obtain ⟨g, st, s, G, rfl, ⟨blk, hg, hq⟩, ok, hs, hd, hk, ht, q⟩ := h
    refine ⟨_, (pss_cons (ps_if (pt_cmpR op_eq (pe_ix (ixT K) (pv 0) pe_int (fun _ _ => rfl)) pe_str (nomark _)) (pss_cons (ps_set (i := 2) sc_law_start.nd rfl (.inl rfl) (pe_cl c_law_row hr (by first | decide | omega) (by rfl) (pa_cons (pv 1) (pa_cons (pe_ix (ixT K) (pv 0) pe_int (fun _ _ => rfl)) (pa_cons (pe_ix (ixT K) (pv 0) pe_int (fun _ _ => rfl)) pa_nil))))) (pss_cons (ps_if (pt_cmpR op_eq (pe_ix (ixT K) (pv 0) pe_int (fun _ _ => rfl)) pe_int (nomark _)) (pss_one (ps_set (i := 2) sc_law_start.nd rfl (.inl rfl) (pe_cl c_law_xor hr (by first | decide | omega) (by rfl) (pa_cons (pv 2) (pa_cons (pe_ix (ixT K) (pv 0) pe_int (fun _ _ => rfl)) pa_nil))))) pss_nil) (pss_one (ps_ret (pv 2))))) pss_nil) (pss_cons (ps_if (pt_cmpR op_eq (pe_ix (ixT K) (pv 0) pe_int (fun _ _ => rfl)) pe_str (nomark _)) (pss_cons (ps_dput (u1 hr.units) (pv 1) pe_str (pe_cl c_law_choice hr (by first | decide | omega) (by rfl) (pa_cons (pv 1) (pa_cons (pe_ix (ixT K) (pe_ix (ixT K) (pv 0) pe_int (fun _ _ => rfl)) pe_int (fun _ _ => rfl)) pa_nil))) (by rfl)) (pss_cons (ps_dput (u1 hr.units) (pv 1) pe_str (pe_cl c_law_row hr (by first | decide | omega) (by rfl) (pa_cons (pv 1) (pa_cons (pe_ix (ixT K) (pv 0) pe_int (fun _ _ => rfl)) (pa_cons (pe_ix (ixT K) (pv 0) pe_int (fun _ _ => rfl)) pa_nil)))) (by rfl)) (pss_one (ps_ret (pe_op op_add_str (pe_op op_add_str (pe_slice sl_str (pe_dget (u1 hr.units) (pv 1) pe_str (fun _ _ => rfl)) po_none (po_some (pe_dget (u1 hr.units) (pv 1) pe_str (fun _ _ => rfl)))) pe_str) (pe_op op_repS pe_str (pe_op op_sub (pe_op op_sub (pe_ix (ixT K) (pe_ix (ixT K) (pv 0) pe_int (fun _ _ => rfl)) pe_int (fun _ _ => rfl)) pe_int) (pe_dget (u1 hr.units) (pv 1) pe_str (fun _ _ => rfl))))))))) pss_nil) (pss_one (ps_ret pe_str)))), ?_⟩
    have hd0 : s.draws.length ≤ 5000 := by rw [hd]; exact Nat.zero_le _
    have zl : ∀ x, x < rowM G → (rowZ G x).length = G.m := by
      obtain ⟨_, _, _, g3, g4, _⟩ := hg
      intro x hx
      unfold rowM at hx
      unfold rowZ
      split
      · rename_i hr
        rw [if_pos hr] at hx
        rw [List.getD_eq_getElem?_getD, List.getElem?_eq_getElem (by omega)]
        exact g4 _ (List.getElem_mem _)
      · exact toB_len _ _
    have rp : 0 < rowM G := by
      unfold rowM
      split <;> exact Nat.two_pow_pos _
    cases en : G.nx with
    | false =>
      rw [en] at hq
      have hq : SqX K H g [.str "opening", .ref blk, .str (sb G.r), .bl G.real, .int G.b] := hq
      refine ⟨_, rfl, g, _, 0, _, rfl, rfl, hq.sq, rfl, rfl, true, by simp, ?_⟩
      show (if true = true then _ else _)
      rw [if_pos rfl]
      refine ⟨_, rfl, _, rfl, g, _, 1, _, rfl, rfl, hq.sq, rfl, _, rfl, g, _, 3, _, rfl, rfl, hq.sq, rfl, st, blk, s, G, rfl, hs, hg, ok, hd0, fun H1 h1 k1 => ?_⟩
      have k1' : Kx [st, s.dl] H H1 := k1.more (by simp)
      have hq1 := hq.kx k1 fun b hb => by rw [List.mem_singleton.mp hb]; exact hs.dl_lst
      have dz : s.draws.length = 0 := by rw [hd]; rfl
      rw [dz] at h1 ⊢
      have hx : pick s.row 0 (rowM G) < rowM G := Nat.mod_lt _ rp
      unfold startD startK startT startH at q
      simp only [en, Bool.false_eq_true, if_false] at q
      have h1 : LSt K H1 st { s with draws := [(pick s.row 0 (rowM G), rowM G)], key := 0, text := sb [] } := by
        rw [hd] at h1
        have e : ({ s with draws := [] ++ [(pick s.row 0 (rowM G), rowM G)] } : LS) = { s with draws := [(pick s.row 0 (rowM G), rowM G)], key := 0, text := sb [] } := by
          rw [← hk, ← ht]
          rfl
        rw [e] at h1
        exact h1
      refine ⟨_, rfl, g, _, 4, _, rfl, rfl, hq1.sq, rfl, rfl, ?_⟩
      by_cases hb : G.b = 1
      · rw [if_pos hb] at q
        refine ⟨true, by simp [hb], ?_⟩
        show (if true = true then _ else _)
        rw [if_pos rfl]
        refine ⟨_, rfl, _, rfl, g, _, 2, _, rfl, rfl, hq1.sq, rfl, _, _, rfl, ?_, ?_, fun H2 s2 => ?_⟩
        · rw [zl _ hx, ok.rl en]
        · rw [zl _ hx]
          have := ok.m19
          omega
        · exact ⟨_, rfl, q _ (h1.same s2) (k1'.trans fun b o e _ => s2 b o e)⟩
      · rw [if_neg hb] at q
        refine ⟨false, by simp [hb], ?_⟩
        show (if false = true then _ else _)
        rw [if_neg Bool.false_ne_true]
        exact ⟨_, rfl, q _ h1 k1'⟩
    | true =>
      rw [en] at hq
      have hq : SqX K H g [.str "next", .ref blk, .bl G.real] := hq
      refine ⟨_, rfl, g, _, 0, _, rfl, rfl, hq.sq, rfl, rfl, false, by simp [show ¬ (("next" : Str) = "opening") by decide +kernel], ?_⟩
      show (if false = true then _ else _)
      rw [if_neg Bool.false_ne_true]
      refine ⟨_, rfl, g, _, 0, _, rfl, rfl, hq.sq, rfl, rfl, true, by simp, ?_⟩
      show (if true = true then _ else _)
      rw [if_pos rfl]
      obtain ⟨rws, g1, g2, g3, g4, g5, g6⟩ := id hg
      have dz : s.draws.length = 0 := by rw [hd]; rfl
      have m19 := ok.m19
      refine ⟨_, rfl, _, rfl, g, _, 1, _, rfl, rfl, hq.sq, rfl, blk, _, 2, _, rfl, rfl, g1.sq, rfl, st, s, G.m, rfl, hs, ok.m1, by omega, hd0, fun H1 h1 k1 => ?_⟩
      rw [dz, hd] at h1
      rw [dz]
      obtain ⟨h2, k2⟩ := h1.put ((pick s.row 0 G.m : Nat) : Int) s.text
      refine ⟨_, rfl, st, _, rfl, DPut.k (k := .inr "key") h1.d (by show 7 < sizeLine; decide), ?_⟩
      have k12 : Kx [st, s.dl] H (upd H1 st (.dK (dictLS { s with draws := [] ++ [(pick s.row 0 G.m, G.m)], key := ((pick s.row 0 G.m : Nat) : Int), text := s.text }))) := (k1.more (by simp)).trans (k2.more (by simp))
      have nt : ∀ b ∈ [st, s.dl], ∃ o, H b = some o ∧ (∀ ys, o ≠ .tup ys) ∧ ∀ u ys, o ≠ .frz u (.tup ys) := fun b hb => by
        rcases List.mem_cons.mp hb with e | hb
        · rw [e]; exact hs.st_d
        · rw [List.mem_singleton.mp hb]; exact hs.dl_lst
      have hq2 := hq.kx k12 nt
      have hg2 := hg.kx k12 nt
      refine ⟨_, rfl, _, rfl, g, _, 1, _, rfl, rfl, hq2.sq, rfl, _, rfl, g, _, 2, _, rfl, rfl, hq2.sq, rfl, st, blk, _, G, rfl, h2, hg2, ok, (by show 1 ≤ 5000; decide), fun H3 h3 k3 => ?_⟩
      have h3 : LSt K H3 st { s with draws := [(pick s.row 0 G.m, G.m), (pick s.row 1 (rowM G), rowM G)], key := ((pick s.row 0 G.m : Nat) : Int), text := s.text } := h3
      obtain ⟨h4, k4⟩ := h3.put ((pick s.row 0 G.m : Nat) : Int) (sb (rowZ G (pick s.row 1 (rowM G))))
      refine ⟨_, rfl, st, upd H3 st (.dK (dictLS { s with draws := [(pick s.row 0 G.m, G.m), (pick s.row 1 (rowM G), rowM G)], key := ((pick s.row 0 G.m : Nat) : Int), text := sb (rowZ G (pick s.row 1 (rowM G))) })), rfl, DPut.k (k := .inr "text") h3.d (by show 7 < sizeLine; decide), ?_⟩
      have k14 := (k12.trans (k3.more (by simp))).trans (k4.more (bs := [st, s.dl]) (by simp))
      have hq4 := hq.kx k14 nt
      obtain ⟨rws4, g14, _⟩ := hg.kx k14 nt
      have hx : pick s.row 1 (rowM G) < rowM G := Nat.mod_lt _ rp
      have hl := zl _ hx
      have hi : pick s.row 0 G.m < G.m := Nat.mod_lt _ ok.m1
      unfold startD startK startT startH at q
      simp only [en, if_true] at q
      have h4 : LSt K (upd H3 st (.dK (dictLS { s with draws := [(pick s.row 0 G.m, G.m), (pick s.row 1 (rowM G), rowM G)], key := ((pick s.row 0 G.m : Nat) : Int), text := sb (rowZ G (pick s.row 1 (rowM G))) }))) st { s with draws := [(pick s.row 0 G.m, G.m), (pick s.row 1 (rowM G), rowM G)], key := ((pick s.row 0 G.m : Nat) : Int), text := sb (rowZ G (pick s.row 1 (rowM G))) } := h4
      replace q := q _ h4 k14
      replace hq4 := hq4.sq
      replace g14 := g14.sq
      have gt := DGet.k (k := .inr "text") h4.d
      have gk := DGet.k (k := .inr "key") h4.d
      have gt : DGet (upd H3 st (.dK (dictLS { s with draws := [(pick s.row 0 G.m, G.m), (pick s.row 1 (rowM G), rowM G)], key := ((pick s.row 0 G.m : Nat) : Int), text := sb (rowZ G (pick s.row 1 (rowM G))) }))) st (.str "text") (some (.str (sb (rowZ G (pick s.row 1 (rowM G)))))) := gt
      have gk : DGet (upd H3 st (.dK (dictLS { s with draws := [(pick s.row 0 G.m, G.m), (pick s.row 1 (rowM G), rowM G)], key := ((pick s.row 0 G.m : Nat) : Int), text := sb (rowZ G (pick s.row 1 (rowM G))) }))) st (.str "key") (some (.int ((pick s.row 0 G.m : Nat) : Int))) := gk
      clear h4 k14 k4
      generalize upd H3 st (.dK (dictLS { s with draws := [(pick s.row 0 G.m, G.m), (pick s.row 1 (rowM G), rowM G)], key := ((pick s.row 0 G.m : Nat) : Int), text := sb (rowZ G (pick s.row 1 (rowM G))) })) = H4 at *
      revert q gt gk hl hi
      generalize pick s.row 0 G.m = i
      generalize rowZ G (pick s.row 1 (rowM G)) = z
      intro hl hi q gt gk
      have zs : (16777216 : Nat) ≤ sizeLine := by decide
      refine ⟨_, rfl, st, _, rfl, gt, _, rfl, st, _, rfl, gk, _, rfl, sb z, rfl, sb_size (by omega), ?_⟩
      rw [cut_pre]
      have l1 : (sb (z.take i)).length = i := by rw [sb_len, List.length_take]; omega
      refine ⟨sb (z.take i), sb [true], rfl, rfl, by rw [l1, sb_len]; show i + 1 ≤ _; omega, ?_⟩
      rw [sb_cat]
      refine ⟨_, rfl, g, _, 1, _, rfl, rfl, hq4, rfl, blk, _, 2, _, rfl, rfl, g14, rfl, _, _, rfl, rfl, _, rfl, st, _, rfl, gk, _, _, rfl, rfl, ?_⟩
      have e1 : ((G.m : Int) - 1 - (i : Int)) = ((z.length - 1 - i : Nat) : Int) := by omega
      refine ⟨[48], ((z.length - 1 - i : Nat) : Int), rfl, congrArg V.int e1, ⟨by omega, by rw [Int.toNat_natCast]; show 1 * _ ≤ _; omega, by omega⟩, ?_⟩
      rw [Int.toNat_natCast, show SX.S (List.replicate (z.length - 1 - i) [48]).flatten = sb (List.replicate (z.length - 1 - i) false) from rep_bits false _]
      refine ⟨_, _, rfl, rfl, ?_, ?_⟩
      · rw [sb_len, sb_len, List.length_append, List.length_take, List.length_replicate]
        show min i z.length + 1 + _ ≤ _
        omega
      · rw [sb_cat, List.append_assoc]
        exact q
end

end
section
def endV (G : Gm) (i : Nat) (t : List Bool) (said : Str) : Int := if G.nx then (if decide (said = "1") = t.getD i false then 1 else 0) else if said = "1" then 1 else 0
/-- a process followed with a row -/
def rr (row : List Nat) : Pr Res → Nat → List (Nat × Nat) × Res
  | .fin a, _ => ([], a)
  | .draw m kf, k => ((pick row k m, m) :: (rr row (kf (pick row k m)) (k + 1)).1, (rr row (kf (pick row k m)) (k + 1)).2)
  | .ask _ _, _ => ([], (0, "", []))
theorem mkS_nil (seen : Str) : mkS [] seen = "" := by
  rw [mkS_S]
  rfl
theorem str_nil_app (x : Str) : ("" : Str) ++ x = x := by
  have e : x = SX.S x.cps.toList := by
    unfold SX.S
    simp
  have e0 : ("" : Str) = SX.S [] := by decide +kernel
  rw [e, e0, SX.S_cat]
  rfl
theorem str_app_nil (x : Str) : x ++ ("" : Str) = x := by
  have e : x = SX.S x.cps.toList := by
    unfold SX.S
    simp
  have e0 : ("" : Str) = SX.S [] := by decide +kernel
  rw [e, e0, SX.S_cat, List.append_nil]
theorem mkS_one (p : Pa) (seen : Str) : mkS [p] seen = paS seen p := by
  have e := mkS_snoc [] p seen
  rw [mkS_nil, str_nil_app] at e
  exact e
theorem bitOf_sb (l : List Bool) (i : Nat) : bitOf (sb l) i = sb [l.getD i false] := by
  unfold bitOf
  by_cases h : i < (sb l).length
  · rw [if_pos h]
    rw [sb_len] at h
    have e := sb_ix h
    have e2 : (sb l).cps.toList.getD i 0 = cB (l.getD i false) := by
      have e3 : (sb l).cps.toList = l.map cB := by
        show ((l.map cB).toArray).toList = _
        simp
      rw [e3, List.getD_eq_getElem?_getD, List.getElem?_map, List.getD_eq_getElem?_getD, List.getElem?_eq_getElem h]
      rfl
    rw [e2]
    rfl
  · rw [if_neg h]
    rw [sb_len] at h
    rw [List.getD_eq_getElem?_getD, List.getElem?_eq_none (by omega)]
    rfl
def procP (br : Br) (G : Gm) : Pr Res := if G.nx then nextP br G.rows G.n G.m G.real else openingP br G.rows G.n G.m G.r G.real G.b
def startI (row : List Nat) (G : Gm) : Nat := if G.nx then pick row 0 G.m else 0
def jdOf (G : Gm) (i : Nat) (t : List Bool) : Unit → List (Str × Str) → Str → Pr Int := fun _ _ said => .fin (endV G i t said)
theorem rr_row {row : List Nat} {G : Gm} {g : Str → Pr Res} {k : Nat} : rr row (drawRowP G.rows G.n G.m G.real g) k = ((pick row k (rowM G), rowM G) :: (rr row (g (sb (rowZ G (pick row k (rowM G))))) (k + 1)).1, (rr row (g (sb (rowZ G (pick row k (rowM G))))) (k + 1)).2) := by
  unfold drawRowP rowM rowZ
  cases G.real with
  | true =>
    have e : ∀ x, (G.rows.map sb).getD x "" = sb (G.rows.getD x []) := fun x => by
      rw [List.getD_eq_getElem?_getD, List.getElem?_map, List.getD_eq_getElem?_getD]
      cases G.rows[x]? with
      | none => decide +kernel
      | some z => rfl
    show rr row (.draw (2 ^ G.n) fun i => g ((G.rows.map sb).getD i "")) k = _
    rw [rr]
    simp only [e, if_true]
  | false =>
    show rr row (.draw (2 ^ G.m) fun i => g (bitS G.m i)) k = _
    rw [rr]
    rfl
theorem jd_one {G : Gm} {i : Nat} {t : List Bool} (h : G.nx = false) : jdOf G i t = oneJ := by
  funext a b said
  unfold jdOf oneJ endV
  rw [h]
  rfl
theorem jd_bit {G : Gm} {i : Nat} {t : List Bool} (h : G.nx = true) : jdOf G i t = bitJ (t.getD i false) := by
  funext a b said
  unfold jdOf bitJ endV guessS
  rw [h]
  have h1 : sb [true] = "1" := by decide +kernel
  have h0 : sb [false] = "0" := by decide +kernel
  have h2 : ¬ (("0" : Str) = "1") := by decide +kernel
  have h3 : ¬ (("1" : Str) = "0") := by decide +kernel
  cases t.getD i false <;> by_cases c : said = "1" <;> simp [c, h1, h0, h2, h3]
theorem start_ok (row : List Nat) (G : Gm) (br : Br) : rr row (procP br G) 0 =
    (startD row G ++ (rr row (contestP br (sb (startH row G)) () noAns (jdOf G (startI row G) (startT row G))) (startD row G).length).1, (rr row (contestP br (sb (startH row G)) () noAns (jdOf G (startI row G) (startT row G))) (startD row G).length).2) := by
  unfold procP startD startH startI startT
  cases h : G.nx with
  | false =>
    simp only [Bool.false_eq_true, if_false]
    unfold openingP
    rw [rr_row, jd_one h]
    by_cases hb : G.b = 1
    · simp only [hb, if_true]
      unfold xorZ
      rw [unb_sb]
      rfl
    · simp only [hb, if_false]
      rfl
  | true =>
    simp only [if_true]
    unfold nextP
    rw [rr, rr_row, jd_bit h]
    unfold hintZ
    rw [unb_sb]
    rfl
section
variable {P : Program} {w : World} {K : PySem.W.Frag} {mg : Str → Option Value} {base : Heap} {cs : Cs}
def spLEnd (K : PySem.W.Frag) : Sp := fun vs H Q _ => ∃ (g st : Addr) (s : LS) (G : Gm) (i : Nat) (t : List Bool) (said : Str), vs = [.ref g, .ref st, .str said] ∧ GmV K H g G ∧ LSt K H st s ∧ s.key = (i : Int) ∧ s.text = sb t ∧ (G.nx = true → i < t.length) ∧ t.length ≤ 1000 ∧ Q (.int (endV G i t said)) H
theorem ok_end13 {f : Addr} {fd : FuncData} (D : Df K mg "_law_end" s_law_end ["game", "state", "said"] f fd) (T : Txt K w mg cs) : FnOk P w K mg base CX0 1 f fd ["game", "state", "said"] (spLEnd K) := by
  refine D.fn.ok sc_law_end (fun vs H Q E h => ?_) (fun cdv A outer s H vs Q E hr h => ?_)
  · obtain ⟨g, st, s, G, i, t, said, rfl, _⟩ := h
    rfl
  · obtain ⟨g, st, s, G, i, t, said, rfl, ⟨blk, _, hq⟩, hs, hk, ht, hi, hl, q⟩ := h
    refine ⟨_, (pss_cons (ps_if (pt_cmpR op_eq (pe_ix (ixT K) (pv 0) pe_int (fun _ _ => rfl)) pe_str (nomark _)) (pss_one (ps_ret (pe_callTy call_int1 (by rfl) T.n_int (by decide +kernel) (pa_cons (pe_cmpR op_eq (pe_cmpR op_eq (pv 2) pe_str (nomark _)) (pe_cmpR op_eq (pe_ix ix_str (pe_dget (u1 hr.units) (pv 1) pe_str (fun _ _ => rfl)) (pe_dget (u1 hr.units) (pv 1) pe_str (fun _ _ => rfl)) (fun _ _ => rfl)) pe_str (nomark _)) (nomark _)) pa_nil)))) pss_nil) (pss_one (ps_ret (pe_callTy call_int1 (by rfl) T.n_int (by decide +kernel) (pa_cons (pe_cmpR op_eq (pv 2) pe_str (nomark _)) pa_nil))))), ?_⟩
    have gt : DGet H st (.str "text") (some (.str s.text)) := DGet.k (k := .inr "text") hs.d
    have gk : DGet H st (.str "key") (some (.int s.key)) := DGet.k (k := .inr "key") hs.d
    rw [ht] at gt
    rw [hk] at gk
    unfold endV at q
    cases en : G.nx with
    | false =>
      rw [en] at hq q
      have hq : SqX K H g [.str "opening", .ref blk, .str (sb G.r), .bl G.real, .int G.b] := hq
      refine ⟨_, rfl, g, _, 0, _, rfl, rfl, hq.sq, rfl, rfl, false, by simp [show ¬ (("opening" : Str) = "next") by decide +kernel], ?_⟩
      show (if false = true then _ else _)
      rw [if_neg Bool.false_ne_true]
      refine ⟨_, rfl, rfl, .inr ⟨_, rfl, ?_⟩⟩
      have e : (if decide (V.str said = V.str "1") = true then (1 : Int) else 0) = if said = "1" then 1 else 0 := by simp
      show Q (.int (if decide (V.str said = V.str "1") = true then (1 : Int) else 0)) H
      rw [e]
      exact q
    | true =>
      rw [en] at hq q
      have hq : SqX K H g [.str "next", .ref blk, .bl G.real] := hq
      refine ⟨_, rfl, g, _, 0, _, rfl, rfl, hq.sq, rfl, rfl, true, by simp, ?_⟩
      show (if true = true then _ else _)
      rw [if_pos rfl]
      refine ⟨_, rfl, rfl, _, rfl, st, _, rfl, gt, _, rfl, st, _, rfl, gk, sb t, i, _, rfl, rfl, sb_size (by omega), sb_ix (hi en), rfl, rfl, .inr ⟨_, rfl, ?_⟩⟩
      have e1 : ∀ b : Bool, decide (V.str ⟨#[cB b]⟩ = V.str "1") = b := fun b => by cases b <;> decide +kernel
      show Q (.int (if decide (V.bl (decide (V.str said = V.str "1")) = V.bl (decide (V.str ⟨#[cB (t.getD i false)]⟩ = V.str "1"))) = true then (1 : Int) else 0)) H
      rw [e1]
      have e : (if decide (V.bl (decide (V.str said = V.str "1")) = V.bl (t.getD i false)) = true then (1 : Int) else 0) = if decide (said = "1") = t.getD i false then 1 else 0 := by simp
      rw [e]
      exact q
end

end
section
/-- what is left of the game from here on -/
def restP (b : Br) (h : List Bool) (as : List (Str × Str)) (jd : Unit → List (Str × Str) → Str → Pr Int) : Pr Res := (runP b (sb h)).srv ("" : Str) ((), as) (noteP noAns) (finishP jd)
section
variable {h : List Bool} {as : List (Str × Str)} {jd : Unit → List (Str × Str) → Str → Pr Int} {row : List Nat} {k : Nat}
theorem rest_say {ps : List Pa} : restP (.say ps) h as jd = finishP jd ((), as) (mkS ps (sb h)) := by
  unfold restP
  rw [runP]
  rfl
theorem rest_toss {bs : List Br} (hb : bs ≠ []) : ∃ b, bs[pick row k bs.length]? = some b ∧ rr row (restP (.toss bs) h as jd) k = ((pick row k bs.length, bs.length) :: (rr row (restP b h as jd) (k + 1)).1, (rr row (restP b h as jd) (k + 1)).2) := by
  have hx : pick row k bs.length < bs.length := Nat.mod_lt _ (by
    cases bs with
    | nil => exact absurd rfl hb
    | cons _ _ => exact Nat.succ_pos _)
  refine ⟨bs[pick row k bs.length], List.getElem?_eq_getElem hx, ?_⟩
  have e : restP (.toss bs) h as jd = .draw bs.length fun i => ((runsP bs (sb h)).getD i (.fin "")).srv ("" : Str) ((), as) (noteP noAns) (finishP jd) := by
    unfold restP
    rw [runP]
    rfl
  rw [e, rr]
  have e2 : (runsP bs (sb h)).getD (pick row k bs.length) (.fin "") = runP bs[pick row k bs.length] (sb h) := by
    rw [runsP_map, List.getD_eq_getElem?_getD, List.getElem?_map, List.getElem?_eq_getElem hx]
    rfl
  simp only [e2]
  rfl
theorem rest_look {j : Nat} {a b : Br} : restP (.look j a b) h as jd = if h.getD j false = true then restP b h as jd else restP a h as jd := by
  unfold restP
  rw [runP, bitOf_sb]
  cases h.getD j false with
  | false =>
    rw [if_pos (show sb [false] = "0" by decide +kernel)]
    rfl
  | true =>
    rw [if_neg (show ¬ sb [true] = "0" by decide +kernel)]
    rfl
theorem rest_ask {ps : List Pa} {a : Br} : restP (.ask ps a) h as jd = restP a h (as ++ [(mkS ps (sb h), ("" : Str))]) jd := by
  unfold restP
  rw [runP]
  rw [← srv_ask]
  show (runP a (sb h ++ ("" : Str))).srv ("" : Str) ((), as ++ [(mkS ps (sb h), ("" : Str))]) (noteP noAns) (finishP jd) = _
  rw [str_app_nil]
end
theorem start_len {K : PySem.W.Frag} {H : Hp} {g : Addr} {G : Gm} (h : GmV K H g G) (ok : GmOk G) (row : List Nat) : (startT row G).length ≤ 1000 ∧ (G.nx = true → startI row G < (startT row G).length) ∧ (startH row G).length ≤ 1000 ∧ (startD row G).length ≤ 10 := by
  obtain ⟨blk, ⟨r, _, _, g3, g4, _⟩, _⟩ := h
  have zl : ∀ x, x < rowM G → (rowZ G x).length = G.m := by
    intro x hx
    unfold rowM at hx
    unfold rowZ
    split
    · rename_i hr
      rw [if_pos hr] at hx
      rw [List.getD_eq_getElem?_getD, List.getElem?_eq_getElem (by omega)]
      exact g4 _ (List.getElem_mem _)
    · exact toB_len _ _
  have rp : 0 < rowM G := by
    unfold rowM
    split <;> exact Nat.two_pow_pos _
  have z0 := zl _ (Nat.mod_lt (row.getD 0 0) rp)
  have z1 := zl _ (Nat.mod_lt (row.getD 1 0) rp)
  have hm := ok.m19
  have hi : pick row 0 G.m < G.m := Nat.mod_lt _ ok.m1
  have z0 : (rowZ G (pick row 0 (rowM G))).length = G.m := z0
  have z1 : (rowZ G (pick row 1 (rowM G))).length = G.m := z1
  unfold startT startI startH startD
  cases en : G.nx with
  | false =>
    simp only [Bool.false_eq_true, if_false]
    refine ⟨Nat.zero_le _, fun z => z.elim, ?_, by show 1 ≤ 10; decide⟩
    split
    · rw [List.length_zipWith]
      omega
    · omega
  | true =>
    simp only [if_true]
    refine ⟨by omega, fun _ => by omega, ?_, by show 2 ≤ 10; decide⟩
    unfold hintB
    rw [List.length_append, List.length_cons, List.length_take, List.length_replicate]
    omega
theorem GmV.same {K : PySem.W.Frag} {H H' : Hp} {g : Addr} {G : Gm} (h : GmV K H g G) (e : Same H H') : GmV K H' g G := by
  obtain ⟨blk, ⟨r, h1, h2, h3⟩, h4⟩ := h
  have m : ∀ {a : Addr} {xs : List V}, SqX K H a xs → SqX K H' a xs := fun z => .of (same_sqt e z.sq)
  exact ⟨blk, ⟨r, m h1, m h2, h3⟩, m h4⟩
theorem BrV.same {K : PySem.W.Frag} {H H' : Hp} {b : Br} {v : V} (h : BrV K H b v) (e : Same H H') : BrV K H' b v := BrV.mono (fun _ _ z => .of (same_sqt e z.sq)) b h
theorem LSt.moreA {K : PySem.W.Frag} {H : Hp} {st p : Addr} {s : LS} {c m : Str} (h : LSt K H st s) (np : H p = none) : ∃ xs, upd H p (.tup [.str c, .str m]) s.al = some (.lst xs) ∧ xs.length = s.asked.length ∧
    LSt K (upd (upd H p (.tup [.str c, .str m])) s.al (.lst (xs ++ [.ref p]))) st { s with asked := s.asked ++ [(c, m)] } ∧ Kx [s.al] H (upd (upd H p (.tup [.str c, .str m])) s.al (.lst (xs ++ [.ref p]))) := by
  obtain ⟨xs, e1, e2, e3⟩ := id h.as
  have npa : p ≠ s.al := fun z => by rw [z, e1] at np; cases np
  have keep : ∀ b o, H b = some o → b ≠ s.al → upd (upd H p (.tup [.str c, .str m])) s.al (.lst (xs ++ [.ref p])) b = some o := fun b o e n => by
    rw [upd_ne n, upd_ne (ne_of_none e np)]
    exact e
  refine ⟨xs, (upd_ne (ne_of_none e1 np)).trans e1, e2, ⟨keep _ _ h.d (fun z => ?_), ?_, ?_, ⟨xs ++ [.ref p], upd_same, by rw [List.length_append, List.length_append, e2]; rfl, fun i z r q => ?_⟩, h.n1, h.n2, h.n3⟩, fun b o e n => keep b o e fun z => n (by rw [z]; exact List.mem_singleton.mpr rfl)⟩
  · have q := h.d
    rw [z, e1] at q
    cases q
  · rcases h.r with (g | ⟨o, g⟩) | g
    · exact .inl (.inl (keep _ _ g h.n3))
    · exact .inl (.inr ⟨o, keep _ _ g h.n3⟩)
    · exact .inr g
  · obtain ⟨zs, g1, g2, g3⟩ := h.dr
    refine ⟨zs, keep _ _ g1 h.n1, g2, fun i z r q => ?_⟩
    obtain ⟨t, w1, w2⟩ := g3 i z r q
    exact ⟨t, w1, keep _ _ w2 fun z => by rw [z, e1] at w2; cases w2⟩
  · by_cases hi : i < s.asked.length
    · rw [List.getElem?_append_left hi] at q
      obtain ⟨t, w1, w2⟩ := e3 i z r q
      exact ⟨t, by rw [List.getElem?_append_left (by omega)]; exact w1, keep _ _ w2 fun z => by rw [z, e1] at w2; cases w2⟩
    · rw [List.getElem?_append_right (by omega)] at q
      have ci : i - s.asked.length = 0 := by
        cases h : i - s.asked.length with
        | zero => rfl
        | succ j => rw [h] at q; cases q
      rw [ci] at q
      cases q
      exact ⟨p, by rw [List.getElem?_append_right (by omega), e2, ci] <;> rfl, by rw [upd_ne npa]; exact upd_same⟩
theorem LSt.al_lst {K : PySem.W.Frag} {H : Hp} {st : Addr} {s : LS} (h : LSt K H st s) : ∃ o, H s.al = some o ∧ (∀ ys, o ≠ .tup ys) ∧ ∀ u ys, o ≠ .frz u (.tup ys) := by
  obtain ⟨xs, e, _⟩ := h.as
  exact ⟨_, e, fun _ z => (by cases z), fun _ _ z => (by cases z)⟩
theorem Same.kx {H H1 H2 : Hp} {a : Addr} (s : Same H H1) (k : Kx [a] H1 H2) (n : H a = none) : Same H H2 := fun b o e => k b o (s b o e) fun m => by
  rw [List.mem_singleton.mp m, n] at e
  cases e
section
variable {P : Program} {w : World} {K : PySem.W.Frag} {mg : Str → Option Value} {base : Heap} {cs : Cs}
def spLRun (K : PySem.W.Frag) : Sp := fun vs H Q _ => ∃ (g ra : Addr) (bv : V) (br : Br) (G : Gm) (row : List Nat) (n : Nat), vs = [.ref g, bv, .ref ra] ∧ GmV K H g G ∧ GmOk G ∧ BrV K H br bv ∧ okB n br ∧ okW 1000 n br ∧ n ≤ 90 ∧ H ra = some (.lst (row.map fun x : Nat => V.int (x : Int))) ∧
  ∀ rl dl al H', Same H H' → H' rl = some (.lst [.int (rr row (procP br G) 0).2.1, .str (rr row (procP br G) 0).2.2.1, .ref dl, .ref al]) → RDraws H' dl (rr row (procP br G) 0).1 → RAskL H' al (rr row (procP br G) 0).2.2.2 → rl ≠ dl → rl ≠ al → H rl = none → H dl = none → H al = none → Q (.ref rl) H'
theorem ok_law_run {f : Addr} {fd : FuncData} (D : Df K mg "_law_run" s_law_run ["game", "breaker", "row"] f fd) (T : Txt K w mg cs) (c_law_start : Cl P w K mg base CX0 4 "_law_start" (spStart K)) (c_law_choice : Cl P w K mg base CX0 1 "_law_choice" (spChoice K)) (c_law_made : Cl P w K mg base CX0 1 "_law_made" (spLMade K))
    (c_law_reply : Cl P w K mg base CX0 1 "_law_reply" (fun vs H Q _ => ∃ a b c, vs = [a, b, c] ∧ Q (.str "") H)) (c_law_end : Cl P w K mg base CX0 1 "_law_end" (spLEnd K)) : FnOk P w K mg base CX0 5 f fd ["game", "breaker", "row"] (spLRun K) := by
  refine D.fn.ok sc_law_run (fun vs H Q E h => ?_) (fun cdv A outer s H vs Q E hr h => ?_)
  · obtain ⟨g, ra, bv, br, G, row, n, rfl, _⟩ := h
    rfl
  · obtain ⟨g, ra, bv, br, G, row, n, rfl, hg, ok, hb, b1, b2, hn, hrow, q⟩ := h
    refine ⟨_, (pss_cons (ps_set (i := 3) sc_law_run.nd rfl (.inl rfl) (pe_disp (pps_cons pe_str (pv 2) (pps_cons pe_str (pe_lst pa_nil) (pps_cons pe_str (pe_lst pa_nil) (pps_cons pe_str pe_dnewK (pps_cons pe_str pe_int (pps_cons pe_str pe_str (pps_cons pe_str (pe_lst pa_nil) pps_nil))))))) (by rfl) (by rfl) (by decide) (by decide))) (pss_cons (ps_set (i := 4) sc_law_run.nd rfl (.inl rfl) (pe_cl c_law_start hr (by first | decide | omega) (by rfl) (pa_cons (pv 0) (pa_cons (pv 3) pa_nil)))) (pss_cons (ps_for PassesOwn.never rfl (pi_range1 (by rfl) T.n_range (pa_cons pe_int pa_nil)) (pg_name (i := 5) sc_law_run.nd rfl (.inl rfl)) (pss_cons (ps_if (pt_cmpR op_eq (pe_ix (ixT K) (pv 1) pe_int (fun _ _ => rfl)) pe_str (nomark _)) (pss_one ps_break) pss_nil) (pss_one (ps_if (pt_cmpR op_eq (pe_ix (ixT K) (pv 1) pe_int (fun _ _ => rfl)) pe_str (nomark _)) (pss_one (ps_set (i := 1) sc_law_run.nd rfl (.inl rfl) (pe_ix (ixT K) (pe_ix (ixT K) (pv 1) pe_int (fun _ _ => rfl)) (pe_cl c_law_choice hr (by first | decide | omega) (by rfl) (pa_cons (pv 3) (pa_cons (pe_callB (lenS K) (by rfl) T.n_len (by decide +kernel) (pa_cons (pe_ix (ixT K) (pv 1) pe_int (fun _ _ => rfl)) pa_nil)) pa_nil))) (fun _ _ => rfl)))) (pss_one (ps_if (pt_cmpR op_eq (pe_ix (ixT K) (pv 1) pe_int (fun _ _ => rfl)) pe_str (nomark _)) (pss_one (ps_set (i := 1) sc_law_run.nd rfl (.inl rfl) (pe_ix (ixT K) (pv 1) (pe_op op_add pe_int (pe_callTy call_int1 (by rfl) T.n_int (by decide +kernel) (pa_cons (pe_cmpR op_eq (pe_cl c_law_made hr (by first | decide | omega) (by rfl) (pa_cons (pe_tup (pa_cons (pe_ix (ixT K) (pv 1) pe_int (fun _ _ => rfl)) pa_nil)) (pa_cons (pv 4) pa_nil))) pe_str (nomark _)) pa_nil))) (fun _ _ => rfl)))) (pss_cons (ps_set (i := 6) sc_law_run.nd rfl (.inl rfl) (pe_cl c_law_made hr (by first | decide | omega) (by rfl) (pa_cons (pe_ix (ixT K) (pv 1) pe_int (fun _ _ => rfl)) (pa_cons (pv 4) pa_nil)))) (pss_cons (ps_set (i := 7) sc_law_run.nd rfl (.inl rfl) (pe_cl c_law_reply hr (by first | decide | omega) (by rfl) (pa_cons (pv 0) (pa_cons (pv 3) (pa_cons (pv 6) pa_nil))))) (pss_cons (ps_expr (pe_bm PySem.F.plainAttrs_list PySem.F.slot_list_append PySem.F.type_list_append mt_append (pe_dget (u1 hr.units) (pv 3) pe_str (fun _ _ => rfl)) (pa_cons (pe_tup (pa_cons (pv 6) (pa_cons (pv 7) pa_nil))) pa_nil))) (pss_cons (ps_set (i := 4) sc_law_run.nd rfl (.inl rfl) (pe_op op_add_str (pv 4) (pv 7))) (pss_one (ps_set (i := 1) sc_law_run.nd rfl (.inl rfl) (pe_ix (ixT K) (pv 1) pe_int (fun _ _ => rfl)))))))))))))) (pss_cons (ps_set (i := 8) sc_law_run.nd rfl (.inl rfl) (pe_cl c_law_made hr (by first | decide | omega) (by rfl) (pa_cons (pe_ix (ixT K) (pv 1) pe_int (fun _ _ => rfl)) (pa_cons (pv 4) pa_nil)))) (pss_one (ps_ret (pe_lst (pa_cons (pe_cl c_law_end hr (by first | decide | omega) (by rfl) (pa_cons (pv 0) (pa_cons (pv 3) (pa_cons (pv 8) pa_nil)))) (pa_cons (pv 8) (pa_cons (pe_dget (u1 hr.units) (pv 3) pe_str (fun _ _ => rfl)) (pa_cons (pe_dget (u1 hr.units) (pv 3) pe_str (fun _ _ => rfl)) pa_nil))))))))))), ?_⟩
    refine fun st nst => ?_
    refine ⟨_, rfl, Nat.zero_le _, fun dl ndl => ⟨Nat.zero_le _, fun al nal => fun kn nkn => ⟨Nat.zero_le _, fun pl npl => ?_⟩⟩⟩
    have s0 : Same (upd H st (.dK [])) (upd (upd (upd (upd (upd H st (.dK [])) dl (.lst [])) al (.lst [])) kn (.dK [])) pl (.lst [])) := (((same_new ndl).trans (same_new nal)).trans (same_new nkn)).trans (same_new npl)
    have sH : Same H (upd (upd (upd (upd (upd H st (.dK [])) dl (.lst [])) al (.lst [])) kn (.dK [])) pl (.lst [])) := (same_new nst).trans s0
    have edl : upd (upd (upd (upd (upd H st (.dK [])) dl (.lst [])) al (.lst [])) kn (.dK [])) pl (.lst []) dl = some (.lst []) := (((same_new nal).trans (same_new nkn)).trans (same_new npl)) _ _ upd_same
    have eal : upd (upd (upd (upd (upd H st (.dK [])) dl (.lst [])) al (.lst [])) kn (.dK [])) pl (.lst []) al = some (.lst []) := ((same_new nkn).trans (same_new npl)) _ _ upd_same
    have nd : H dl = none := (same_new nst).free ndl
    have na : H al = none := ((same_new nst).trans (same_new ndl)).free nal
    have nda : dl ≠ al := ne_of_none upd_same nal
    refine ⟨s0 _ _ upd_same, dictLS ⟨ra, dl, al, kn, pl, row, [], [], 0, ""⟩, rfl, by show 7 ≤ 15; decide, ?_⟩
    have est := s0 _ _ upd_same
    revert s0 sH edl eal est
    generalize upd (upd (upd (upd (upd H st (.dK [])) dl (.lst [])) al (.lst [])) kn (.dK [])) pl (.lst []) = G0
    intro s0 sH edl eal est
    clear s0
    have hs : LSt K (upd G0 st (.dK (dictLS ⟨ra, dl, al, kn, pl, row, [], [], 0, ""⟩))) st ⟨ra, dl, al, kn, pl, row, [], [], 0, ""⟩ := by
      have ne : ∀ b xs, G0 b = some (.lst xs) → b ≠ st := fun b xs e z => by
        rw [z, est] at e
        cases e
      refine ⟨upd_same, .inl (.inl ((upd_ne (ne _ _ (sH _ _ hrow))).trans (sH _ _ hrow))), ⟨[], (upd_ne (ne _ _ edl)).trans edl, rfl, fun i c m q => by simp at q⟩, ⟨[], (upd_ne (ne _ _ eal)).trans eal, rfl, fun i c m q => by simp at q⟩, nda, ?_, ?_⟩
      · exact fun z => by
          have z : ra = dl := z
          rw [z, nd] at hrow
          cases hrow
      · exact fun z => by
          have z : ra = al := z
          rw [z, na] at hrow
          cases hrow
    have sH1 : Same H (upd G0 st (.dK (dictLS ⟨ra, dl, al, kn, pl, row, [], [], 0, ""⟩))) := fun b o e => by
      rw [upd_ne (ne_of_none e nst)]
      exact sH b o e
    show gName 3 _ _ (upd G0 st (.dK (dictLS ⟨ra, dl, al, kn, pl, row, [], [], 0, ""⟩))) _
    revert hs sH1
    generalize upd G0 st (.dK (dictLS ⟨ra, dl, al, kn, pl, row, [], [], 0, ""⟩)) = G1
    intro hs sH1
    clear sH edl eal est
    have hg1 : GmV K G1 g G := hg.same sH1
    refine ⟨_, rfl, _, rfl, g, st, _, G, rfl, hg1, ok, hs, rfl, rfl, show ("" : Str) = sb [] by decide +kernel, fun H2 h2 k2 => ?_⟩
    have sH2 : Same H H2 := fun b o e => k2 b o (sH1 b o e) fun m => by
      rcases List.mem_cons.mp m with z | m
      · rw [z, nst] at e; cases e
      · rw [List.mem_singleton.mp m, nd] at e; cases e
    have eI : startK row G = ((startI row G : Nat) : Int) := by
      unfold startK startI
      split <;> rfl
    have hT : (startT row G).length ≤ 1000 ∧ (G.nx = true → startI row G < (startT row G).length) ∧ (startH row G).length ≤ 1000 ∧ (startD row G).length ≤ 10 := start_len hg ok row
    have e0 := start_ok row G br
    generalize hTD : (rr row (procP br G) 0).1 = TD at q
    generalize hTR : (rr row (procP br G) 0).2 = TR at q
    rw [e0] at hTD hTR
    refine ⟨_, rfl, by decide, by decide, for_range (lo := 0) (n := 100) (fun i σ H' => ∃ b1 v1 hb s1 nn y5 y6 y7 y8, σ = [some (.ref g), some v1, some (.ref ra), some (.ref st), some (.str (sb hb)), y5, y6, y7, y8] ∧ Same H H' ∧ LSt K H' st s1 ∧ BrV K H' b1 v1 ∧ okB nn b1 ∧ okW 1000 nn b1 ∧ nn + i ≤ n ∧ hb.length ≤ 1000 ∧
      s1.row = row ∧ s1.dl = dl ∧ s1.al = al ∧ s1.key = ((startI row G : Nat) : Int) ∧ s1.text = sb (startT row G) ∧ s1.draws ++ (rr row (restP b1 hb s1.asked (jdOf G (startI row G) (startT row G))) s1.draws.length).1 = TD ∧
      (rr row (restP b1 hb s1.asked (jdOf G (startI row G) (startT row G))) s1.draws.length).2 = TR ∧ s1.draws.length ≤ 10 + i ∧ s1.asked.length ≤ i) ?_ ?_ ?_⟩
    · exact ⟨br, bv, startH row G, _, n, _, _, _, _, rfl, sH2, h2, hb.same sH2, b1, b2, by omega, hT.2.2.1, rfl, rfl, rfl, eI, rfl, hTD, hTR, by show (startD row G).length ≤ 10 + 0; omega, by show 0 ≤ 0; omega⟩
    · rintro i σ H3 hi ⟨c1, v1, hd, s1, nn, y5, y6, y7, y8, rfl, s3, h3, hb3, o1, o2, hnn, hl, f1, f2, f3, f4, f5, f6, f7, f8, f9⟩
      cases nn with
      | zero => exact o1.elim
      | succ nn =>
      have ntd : ∀ b ∈ [s1.dl], ∃ o, H3 b = some o ∧ (∀ ys, o ≠ .tup ys) ∧ ∀ u ys, o ≠ .frz u (.tup ys) := fun b hb => by rw [List.mem_singleton.mp hb]; exact h3.dl_lst
      have hlz : (sb hd).length ≤ 100000 := by rw [sb_len]; omega
      cases c1 with
      | say ps =>
        unfold BrV at hb3
        obtain ⟨p0, q0, rfl, hp, hq⟩ := hb3
        refine ⟨_, rfl, p0, _, 0, _, rfl, rfl, hp.sq, rfl, rfl, true, by simp, ?_⟩
        show (if true = true then _ else _)
        rw [if_pos rfl]
        have gd : DGet H3 st (.str "draws") (some (.ref s1.dl)) := DGet.k (k := .inr "draws") h3.d
        have ga : DGet H3 st (.str "asked") (some (.ref s1.al)) := DGet.k (k := .inr "asked") h3.d
        refine ⟨_, rfl, p0, _, 1, _, rfl, rfl, hp.sq, rfl, _, rfl, q0, sb hd, ps, rfl, hq.sq, o2, hlz, ?_⟩
        refine ⟨_, rfl, _, rfl, _, rfl, g, st, s1, G, startI row G, startT row G, _, rfl, hg.same s3, h3, f4, f5, hT.2.1, hT.1, _, rfl, _, rfl, st, _, rfl, gd, _, rfl, st, _, rfl, ga, by show 4 ≤ sizeLine; decide, fun rl nrl => ?_⟩
        rw [rest_say] at f6 f7
        have f6 : s1.draws ++ [] = TD := f6
        rw [List.append_nil] at f6
        have f7 : (endV G (startI row G) (startT row G) (mkS ps (sb hd)), mkS ps (sb hd), s1.asked) = TR := f7
        rw [← f6, ← f7] at q
        have sn : Same H3 (upd H3 rl (.lst [.int (endV G (startI row G) (startT row G) (mkS ps (sb hd))), .str (mkS ps (sb hd)), .ref s1.dl, .ref s1.al])) := same_new nrl
        obtain ⟨_, _, dd, da, _, _, _⟩ := h3.same sn
        obtain ⟨dxs, dd1, _⟩ := h3.dr
        obtain ⟨axs, da1, _⟩ := h3.as
        exact q rl s1.dl s1.al _ (s3.trans sn) upd_same dd da (fun z => by rw [z, dd1] at nrl; cases nrl) (fun z => by rw [z, da1] at nrl; cases nrl) (s3.free nrl) (by rw [f2]; exact nd) (by rw [f3]; exact na)
      | toss bs =>
        unfold BrV at hb3
        obtain ⟨p0, q0, vs, rfl, hp, hq, hvs⟩ := hb3
        refine ⟨_, rfl, p0, _, 0, _, rfl, rfl, hp.sq, rfl, rfl, false, by simp [show ¬ (("toss" : Str) = "say") by decide +kernel], ?_⟩
        show (if false = true then _ else _)
        rw [if_neg Bool.false_ne_true]
        refine ⟨_, rfl, p0, _, 0, _, rfl, rfl, hp.sq, rfl, rfl, true, by simp, ?_⟩
        show (if true = true then _ else _)
        rw [if_pos rfl]
        obtain ⟨g1, g2⟩ := hvs.get
        have bl : bs.length ≤ 64 := o2.1
        have bl1 : 1 ≤ vs.length := by
          rw [g1]
          cases bs with
          | nil => exact absurd rfl o1.1
          | cons _ _ => exact Nat.succ_le_succ (Nat.zero_le _)
        refine ⟨_, rfl, p0, _, 1, _, rfl, rfl, hp.sq, rfl, _, rfl, _, rfl, p0, _, 1, _, rfl, rfl, hp.sq, rfl, q0, vs, rfl, .inr hq.sq, st, s1, vs.length, rfl, h3, bl1, by omega, by omega, fun H4 h4 k4 => ?_⟩
        rw [g1, f1] at h4 ⊢
        obtain ⟨b, e1, e2⟩ := rest_toss (h := hd) (as := s1.asked) (jd := jdOf G (startI row G) (startT row G)) (row := row) (k := s1.draws.length) o1.1
        obtain ⟨vx, e3, e4⟩ := g2 _ b e1
        rw [e2] at f6 f7
        have hmem : b ∈ bs := List.mem_of_getElem? e1
        refine ⟨q0, vs, _, _, rfl, rfl, (hq.kx k4 ntd).sq, atI_nat e3, ?_⟩
        refine ⟨b, vx, hd, _, nn, _, _, _, _, rfl, Same.kx s3 k4 (by rw [f2]; exact nd), h4, BrV.mono (fun _ _ z => z.kx k4 ntd) b e4, o1.2 b hmem, o2.2 b hmem, by omega, hl, rfl, f2, f3, f4, f5, ?_, ?_, ?_, by show s1.asked.length ≤ i + 1; omega⟩
        · show (s1.draws ++ [(pick row s1.draws.length bs.length, bs.length)]) ++ (rr row (restP b hd s1.asked _) (s1.draws ++ [_]).length).1 = TD
          rw [List.length_append, List.append_assoc]
          exact f6
        · show (rr row (restP b hd s1.asked _) (s1.draws ++ [_]).length).2 = TR
          rw [List.length_append]
          exact f7
        · show (s1.draws ++ [_]).length ≤ _
          rw [List.length_append]
          show s1.draws.length + 1 ≤ _
          omega
      | look j x y =>
        unfold BrV at hb3
        obtain ⟨p0, vx, vy, rfl, hp, hx, hy⟩ := hb3
        refine ⟨_, rfl, p0, _, 0, _, rfl, rfl, hp.sq, rfl, rfl, false, by simp [show ¬ (("look" : Str) = "say") by decide +kernel], ?_⟩
        show (if false = true then _ else _)
        rw [if_neg Bool.false_ne_true]
        refine ⟨_, rfl, p0, _, 0, _, rfl, rfl, hp.sq, rfl, rfl, false, by simp [show ¬ (("look" : Str) = "toss") by decide +kernel], ?_⟩
        show (if false = true then _ else _)
        rw [if_neg Bool.false_ne_true]
        refine ⟨_, rfl, p0, _, 0, _, rfl, rfl, hp.sq, rfl, rfl, true, by simp, ?_⟩
        show (if true = true then _ else _)
        rw [if_pos rfl]
        refine ⟨_, rfl, _, rfl, p0, _, 1, _, rfl, rfl, hp.sq, rfl, by show 1 ≤ sizeLine; decide, fun p np => ?_⟩
        refine ⟨_, rfl, p, sb hd, [.ref j], rfl, .inl (.inl upd_same), by show 1 ≤ 1000; decide, hlz, rfl, .inr ⟨_, rfl, ?_⟩⟩
        have e : decide (V.str (mkS [.ref j] (sb hd)) = V.str "1") = hd.getD j false := by
          rw [mkS_one]
          show decide (V.str (bitOf (sb hd) j) = V.str "1") = _
          rw [bitOf_sb]
          cases hd.getD j false <;> decide +kernel
        rw [e]
        rw [rest_look] at f6 f7
        have sn : Same H3 (upd H3 p (.tup [.int (j : Int)])) := same_new np
        have hp2 := same_sqt sn hp.sq
        cases hv : hd.getD j false with
        | false =>
          rw [hv, if_neg Bool.false_ne_true] at f6 f7
          refine ⟨_, _, rfl, rfl, p0, _, _, _, rfl, rfl, hp2, rfl, ?_⟩
          exact ⟨x, vx, hd, s1, nn, _, _, _, _, rfl, s3.trans sn, h3.same sn, hx.same sn, o1.2.1, o2.1, by omega, hl, f1, f2, f3, f4, f5, f6, f7, by omega, by omega⟩
        | true =>
          rw [hv, if_pos rfl] at f6 f7
          refine ⟨_, _, rfl, rfl, p0, _, _, _, rfl, rfl, hp2, rfl, ?_⟩
          exact ⟨y, vy, hd, s1, nn, _, _, _, _, rfl, s3.trans sn, h3.same sn, hy.same sn, o1.2.2, o2.2, by omega, hl, f1, f2, f3, f4, f5, f6, f7, by omega, by omega⟩
      | ask ps a =>
        unfold BrV at hb3
        obtain ⟨p0, q0, vx, rfl, hp, hq, hx⟩ := hb3
        refine ⟨_, rfl, p0, _, 0, _, rfl, rfl, hp.sq, rfl, rfl, false, by simp [show ¬ (("ask" : Str) = "say") by decide +kernel], ?_⟩
        show (if false = true then _ else _)
        rw [if_neg Bool.false_ne_true]
        refine ⟨_, rfl, p0, _, 0, _, rfl, rfl, hp.sq, rfl, rfl, false, by simp [show ¬ (("ask" : Str) = "toss") by decide +kernel], ?_⟩
        show (if false = true then _ else _)
        rw [if_neg Bool.false_ne_true]
        refine ⟨_, rfl, p0, _, 0, _, rfl, rfl, hp.sq, rfl, rfl, false, by simp [show ¬ (("ask" : Str) = "look") by decide +kernel], ?_⟩
        show (if false = true then _ else _)
        rw [if_neg Bool.false_ne_true]
        obtain ⟨axs, da1, da2, da3⟩ := id h3.as
        have ga : DGet H3 st (.str "asked") (some (.ref s1.al)) := DGet.k (k := .inr "asked") h3.d
        have zs : (1000 : Nat) < sizeLine := by decide
        refine ⟨_, rfl, p0, _, 1, _, rfl, rfl, hp.sq, rfl, _, rfl, q0, sb hd, ps, rfl, hq.sq, o2.1, hlz, ?_⟩
        refine ⟨_, rfl, _, rfl, _, rfl, _, _, _, rfl, ?_⟩
        refine ⟨_, rfl, st, _, rfl, ga, .inl ⟨rfl, _, .inl (.inl da1)⟩, _, rfl, _, rfl, by show 2 ≤ sizeLine; decide, fun p np => ?_⟩
        obtain ⟨xs', e1, e2, h4, k4⟩ := h3.moreA (c := mkS ps (sb hd)) (m := "") np
        have nta : ∀ b ∈ [s1.al], ∃ o, H3 b = some o ∧ (∀ ys, o ≠ .tup ys) ∧ ∀ u ys, o ≠ .frz u (.tup ys) := fun b hb => by rw [List.mem_singleton.mp hb]; exact h3.al_lst
        refine ⟨s1.al, xs', _, rfl, rfl, e1, by omega, ?_⟩
        refine ⟨_, rfl, _, rfl, _, _, rfl, rfl, by rw [sb_len]; show hd.length + 0 ≤ _; omega, ?_⟩
        rw [str_app_nil]
        refine ⟨_, rfl, p0, _, 2, _, rfl, rfl, (hp.kx k4 nta).sq, rfl, ?_⟩
        rw [rest_ask] at f6 f7
        exact ⟨a, vx, hd, _, nn, _, _, _, _, rfl, Same.kx s3 k4 (by rw [f3]; exact na), h4, BrV.mono (fun _ _ z => z.kx k4 nta) a hx, o1.2, o2.2, by omega, hl, f1, f2, f3, f4, f5, f6, f7, by show s1.draws.length ≤ _; omega, by show (s1.asked ++ [_]).length ≤ _; rw [List.length_append]; show s1.asked.length + 1 ≤ _; omega⟩
    · rintro σ H3 ⟨c1, v1, hd, s1, nn, y5, y6, y7, y8, rfl, s3, h3, hb3, o1, o2, hnn, _⟩
      cases nn with
      | zero => exact o1.elim
      | succ nn => exact absurd hnn (by omega)
end

end
section
/-! ### games and breakers as data -/
structure GmOk2 (G : Gm) : Prop extends GmOk G where
  n1 : 1 ≤ G.n
  n10 : G.n ≤ 10
  b01 : G.b = 0 ∨ G.b = 1
def gmD (G : Gm) : PyData := if G.nx then .tuple [.str "next", tabD G.n G.m G.rows, .bool G.real] else .tuple [.str "opening", tabD G.n G.m G.rows, .str (sb G.r), .bool G.real, .int G.b]
section
variable {K : PySem.W.Frag} {H : Hp}
theorem GenV.dp {b : Addr} {n m : Nat} {rows : List (List Bool)} (h : GenV K H b n m rows) : Dp K H (.ref b) (tabD n m rows) := by
  obtain ⟨r, h1, h2, _⟩ := h
  exact .tup h1.sq (.cons (.str _) (.cons (.int _) (.cons (.int _) (.cons (.tup h2.sq (dp_bits rows)) .nil))))
theorem GmV.dp {g : Addr} {G : Gm} (h : GmV K H g G) : Dp K H (.ref g) (gmD G) := by
  obtain ⟨blk, h1, h2⟩ := h
  unfold gmD
  cases en : G.nx with
  | false =>
    rw [en] at h2
    exact .tup h2.sq (.cons (.str _) (.cons h1.dp (.cons (.str _) (.cons (.bl _) (.cons (.int _) .nil)))))
  | true =>
    rw [en] at h2
    exact .tup h2.sq (.cons (.str _) (.cons h1.dp (.cons (.bl _) .nil)))
theorem GenV.wf {b : Addr} {n m : Nat} {rows : List (List Bool)} (h : GenV K H b n m rows) (n1 : 1 ≤ n) (n2 : n ≤ 10) (m1 : 1 ≤ m) : Wf n m rows := by
  obtain ⟨r, _, _, h3, h4, _, h6⟩ := h
  exact ⟨n1, n2, m1, h6, h3, h4⟩
theorem fit_bit0 (m : Int) : fitD "bit" (.int 0) m = true := by
  unfold fitD
  rw [if_pos (by decide +kernel)]
  decide +kernel
theorem fit_bit1 (m : Int) : fitD "bit" (.int 1) m = true := by
  unfold fitD
  rw [if_pos (by decide +kernel)]
  decide +kernel
theorem parts_next : partsOf "next" = (["generator", "real"] : List Str) := by decide +kernel
theorem parts_opening : partsOf "opening" = (["generator", "string", "real", "bit"] : List Str) := by decide +kernel
theorem gm_gd {g : Addr} {G : Gm} (h : GmV K H g G) (ok : GmOk2 G) : Gd 62 (gmD G) ∧ gameFit (gmD G) := by
  obtain ⟨blk, h1, h2⟩ := h
  have wf := h1.wf ok.n1 ok.n10 ok.m1
  have ho := wf_gen wf
  have hp : 2 ^ G.n ≤ 1024 := two_pow_le (b := 10) ok.n10
  have gt : Gd 61 (tabD G.n G.m G.rows) := by
    refine ⟨by show 4 ≤ 5000; decide, fun x hx => ?_⟩
    rcases List.mem_cons.mp hx with e | hx
    · rw [e]
      exact ⟨by decide +kernel, by decide +kernel⟩
    rcases List.mem_cons.mp hx with e | hx
    · rw [e]
      trivial
    rcases List.mem_cons.mp hx with e | hx
    · rw [e]
      trivial
    · rw [List.mem_singleton.mp hx]
      refine ⟨by rw [List.length_map, wf.len]; omega, fun y hy => ?_⟩
      obtain ⟨r, hr, rfl⟩ := List.mem_map.mp hy
      exact okT_sb (by have := wf.row r hr; have := wf.m2; omega)
  have hm := ok.m19
  have hr : G.nx = false → okT (sb G.r) := fun e => okT_sb (by have := ok.rl e; omega)
  unfold gmD
  cases en : G.nx with
  | true =>
    simp only [if_true]
    refine ⟨⟨by show 3 ≤ 5000; decide, fun x hx => ?_⟩, "next", [tabD G.n G.m G.rows, .bool G.real], rfl, by decide +kernel, by rw [parts_next] <;> rfl, fun h => absurd h (by decide +kernel), fun i told d ht hd => ?_⟩
    · rcases List.mem_cons.mp hx with e | hx
      · rw [e]
        exact ⟨by decide +kernel, by decide +kernel⟩
      rcases List.mem_cons.mp hx with e | hx
      · rw [e]
        exact gt
      · rw [List.mem_singleton.mp hx]
        trivial
    · have hpn := parts_next
      rw [hpn] at ht
      match i with
      | 0 =>
        cases ht
        cases hd
        exact ho
      | 1 =>
        cases ht
        cases hd
        rfl
      | i + 2 => simp at ht
  | false =>
    simp only [Bool.false_eq_true, if_false]
    have hl : (G.r.length : Int) = (G.m : Int) := by rw [ok.rl en]
    refine ⟨⟨by show 5 ≤ 5000; decide, fun x hx => ?_⟩, "opening", [tabD G.n G.m G.rows, .str (sb G.r), .bool G.real, .int G.b], rfl, by decide +kernel, by rw [parts_opening] <;> rfl, fun _ => (by show (G.m : Int) ≤ 40; omega), fun i told d ht hd => ?_⟩
    · rcases List.mem_cons.mp hx with e | hx
      · rw [e]
        exact ⟨by decide +kernel, by decide +kernel⟩
      rcases List.mem_cons.mp hx with e | hx
      · rw [e]
        exact gt
      rcases List.mem_cons.mp hx with e | hx
      · rw [e]
        exact hr en
      rcases List.mem_cons.mp hx with e | hx
      · rw [e]
        trivial
      · rw [List.mem_singleton.mp hx]
        trivial
    · have hpn := parts_opening
      rw [hpn] at ht
      match i with
      | 0 =>
        cases ht
        cases hd
        exact ho
      | 1 =>
        cases ht
        cases hd
        show (decide ((1 : Int) = 1) && ([PyData.str (sb G.r)].all (bitRow (G.m : Int)))) = true
        rw [List.all_cons, bitRow_sb (ok.rl en)]
        rfl
      | 2 =>
        cases ht
        cases hd
        rfl
      | 3 =>
        cases ht
        cases hd
        rcases ok.b01 with e | e <;> rw [e]
        · exact fit_bit0 _
        · exact fit_bit1 _
      | i + 4 => simp at ht
mutual
theorem BrV.dp : ∀ (b : Br) {v : V}, BrV K H b v → Dp K H v (brD b)
  | .say ps, v, h => by
    unfold BrV at h
    obtain ⟨p, q, rfl, h1, h2⟩ := h
    exact .tup h1.sq (.cons (.str _) (.cons (.tup h2.sq (dp_ps ps)) .nil))
  | .toss bs, v, h => by
    unfold BrV at h
    obtain ⟨p, q, vs, rfl, h1, h2, h3⟩ := h
    exact .tup h1.sq (.cons (.str _) (.cons (.tup h2.sq (BrVs.dp bs h3)) .nil))
  | .look i a b, v, h => by
    unfold BrV at h
    obtain ⟨p, x, y, rfl, h1, h2, h3⟩ := h
    exact .tup h1.sq (.cons (.str _) (.cons (.int _) (.cons (BrV.dp a h2) (.cons (BrV.dp b h3) .nil))))
  | .ask ps a, v, h => by
    unfold BrV at h
    obtain ⟨p, q, x, rfl, h1, h2, h3⟩ := h
    exact .tup h1.sq (.cons (.str _) (.cons (.tup h2.sq (dp_ps ps)) (.cons (BrV.dp a h3) .nil)))
theorem BrVs.dp : ∀ (bs : List Br) {vs : List V}, BrVs K H bs vs → DpAll K H vs (brsD bs)
  | [], vs, h => by
    unfold BrVs at h
    subst h
    exact .nil
  | b :: bs, vs, h => by
    unfold BrVs at h
    obtain ⟨v, r, rfl, h1, h2⟩ := h
    exact .cons (BrV.dp b h1) (BrVs.dp bs h2)
theorem dp_ps : ∀ ps : List Pa, DpAll K H (ps.map paV) (ps.map paD)
  | [] => .nil
  | .bit b :: ps => .cons (.str _) (dp_ps ps)
  | .ref i :: ps => .cons (.int _) (dp_ps ps)
end
end
theorem gd_ps {n : Nat} {ps : List Pa} (h : ps.length ≤ 1000) : Gd (n + 1) (psD ps) := by
  refine ⟨by rw [List.length_map]; omega, fun x hx => ?_⟩
  obtain ⟨p, _, rfl⟩ := List.mem_map.mp hx
  cases p with
  | bit b =>
    have z := okT_sb (r := [b]) (by show 1 ≤ 5000; decide)
    cases n <;> exact z
  | ref i => cases n <;> trivial
theorem gd_brD : ∀ {n : Nat} {b : Br}, okB n b → okW 1000 n b → Gd (3 * n) (brD b)
  | 0, _, h, _ => h.elim
  | n + 1, .say ps, h, g => by
    have g : ps.length ≤ 1000 := g
    refine ⟨by show 2 ≤ 5000; decide, fun x hx => ?_⟩
    rcases List.mem_cons.mp hx with e | hx
    · rw [e]
      exact ⟨by decide +kernel, by decide +kernel⟩
    · rw [List.mem_singleton.mp hx]
      exact gd_ps (n := 3 * n + 1) g
  | n + 1, .toss bs, h, g => by
    refine ⟨by show 2 ≤ 5000; decide, fun x hx => ?_⟩
    rcases List.mem_cons.mp hx with e | hx
    · rw [e]
      exact ⟨by decide +kernel, by decide +kernel⟩
    · rw [List.mem_singleton.mp hx, brsD_map]
      have g1 : bs.length ≤ 64 := g.1
      refine ⟨by rw [List.length_map]; omega, fun y hy => ?_⟩
      obtain ⟨b, hb, rfl⟩ := List.mem_map.mp hy
      exact gd_le (gd_brD (h.2 b hb) (g.2 b hb)) (by have : Nat.mul 3 n = 3 * n := rfl; omega)
  | n + 1, .look i a b, h, g => by
    refine ⟨by show 4 ≤ 5000; decide, fun x hx => ?_⟩
    rcases List.mem_cons.mp hx with e | hx
    · rw [e]
      exact ⟨by decide +kernel, by decide +kernel⟩
    rcases List.mem_cons.mp hx with e | hx
    · rw [e]
      trivial
    rcases List.mem_cons.mp hx with e | hx
    · rw [e]
      exact gd_le (gd_brD h.2.1 g.1) (by have : Nat.mul 3 n = 3 * n := rfl; omega)
    · rw [List.mem_singleton.mp hx]
      exact gd_le (gd_brD h.2.2 g.2) (by have : Nat.mul 3 n = 3 * n := rfl; omega)
  | n + 1, .ask ps a, h, g => by
    have g1 : ps.length ≤ 1000 := g.1
    refine ⟨by show 3 ≤ 5000; decide, fun x hx => ?_⟩
    rcases List.mem_cons.mp hx with e | hx
    · rw [e]
      exact ⟨by decide +kernel, by decide +kernel⟩
    rcases List.mem_cons.mp hx with e | hx
    · rw [e]
      exact gd_ps (n := 3 * n + 1) g1
    · rw [List.mem_singleton.mp hx]
      exact gd_le (gd_brD h.2 g.2) (by have : Nat.mul 3 n = 3 * n := rfl; omega)

end
section
/-! ### the same game played anew -/
def Plain : Pr Res → Prop
  | .fin _ => True
  | .draw m kf => 1 ≤ m ∧ ∀ i, i < m → Plain (kf i)
  | .ask _ _ => False
theorem rn_rr {row : List Nat} {c : Nat → Nat} : ∀ {P : Pr Res} {k : Nat}, Plain P → (∀ i, i < (rr row P k).1.length → c (k + i) = ((rr row P k).1.getD i (0, 0)).1) → rn c P k = rr row P k ∧ InR c P k
  | .fin a, k, _, _ => ⟨rfl, trivial⟩
  | .ask _ _, k, h, _ => h.elim
  | .draw m kf, k, h, hc => by
    have e0 : c k = pick row k m := by
      have q := hc 0 (by rw [rr]; exact Nat.succ_pos _)
      rw [rr] at q
      exact q
    have lt : pick row k m < m := Nat.mod_lt _ h.1
    have ih := rn_rr (row := row) (c := c) (P := kf (pick row k m)) (k := k + 1) (h.2 _ lt) fun i hi => by
      have q := hc (i + 1) (by rw [rr]; exact Nat.succ_lt_succ hi)
      rw [rr] at q
      rw [show k + 1 + i = k + (i + 1) by omega]
      exact q
    refine ⟨?_, ?_⟩
    · rw [rn, rr, e0, ih.1]
    · rw [InR, e0]
      exact ⟨lt, ih.2⟩
theorem rr_again {row row2 : List Nat} : ∀ {P : Pr Res} {k t : Nat}, Plain P → (∀ i, row2.getD (k + i) 0 = if i < t then ((rr row P k).1.getD i (0, 0)).1 else 0) → ∀ i, i < (rr row2 P k).1.length → ((rr row2 P k).1.getD i (0, 0)).1 = row2.getD (k + i) 0
  | .fin a, k, t, _, _, i, hi => absurd hi (Nat.not_lt_zero _)
  | .ask _ _, k, t, h, _, _, _ => h.elim
  | .draw m kf, k, t, h, hr, i, hi => by
    have p2 : pick row2 k m = row2.getD k 0 ∧ ∀ j, row2.getD (k + 1 + j) 0 = if j < t - 1 then ((rr row (kf (pick row2 k m)) (k + 1)).1.getD j (0, 0)).1 else 0 := by
      have q0 := hr 0
      rw [Nat.add_zero] at q0
      cases t with
      | zero =>
        have q0 : row2.getD k 0 = 0 := q0
        refine ⟨by unfold pick; rw [q0]; exact Nat.zero_mod m, fun j => ?_⟩
        have q := hr (j + 1)
        rw [show k + (j + 1) = k + 1 + j by omega] at q
        rw [q, if_neg (by omega), if_neg (by omega)]
      | succ t =>
        rw [if_pos (Nat.succ_pos t), rr] at q0
        have q0 : row2.getD k 0 = pick row k m := q0
        have e : pick row2 k m = pick row k m := by
          unfold pick
          rw [q0]
          unfold pick
          exact Nat.mod_mod _ _
        refine ⟨e.trans q0.symm, fun j => ?_⟩
        have q := hr (j + 1)
        rw [show k + (j + 1) = k + 1 + j by omega, rr] at q
        rw [q, e]
        by_cases c : j < t
        · rw [if_pos (by omega), if_pos (by omega)]
          rfl
        · rw [if_neg (by omega), if_neg (by omega)]
    have lt : pick row2 k m < m := Nat.mod_lt _ h.1
    rw [rr] at hi ⊢
    cases i with
    | zero => exact p2.1
    | succ i =>
      have ih := rr_again (row := row) (row2 := row2) (P := kf (pick row2 k m)) (k := k + 1) (t := t - 1) (h.2 _ lt) p2.2 i (Nat.lt_of_succ_lt_succ hi)
      rw [show k + (i + 1) = k + 1 + i by omega]
      exact ih
/-- bits out of parts -/
def paB (h : List Bool) : Pa → Bool
  | .bit b => b
  | .ref i => h.getD i false
theorem mkS_sb (ps : List Pa) (h : List Bool) : mkS ps (sb h) = sb (ps.map (paB h)) := by
  unfold mkS
  have e : ps.map (paS (sb h)) = (ps.map (paB h)).map fun b => sb [b] := by
    rw [List.map_map]
    refine List.map_congr_left fun p _ => ?_
    cases p with
    | bit b => rfl
    | ref i => exact bitOf_sb h i
  rw [e, join_bits]
def AskOk (l : List (Str × Str)) : Prop := ∀ e ∈ l, ∃ bs : List Bool, e = (sb bs, ("" : Str)) ∧ bs.length ≤ 1000
/-- judges that end at once -/
def FinJ (jd : Unit → List (Str × Str) → Str → Pr Int) : Prop := ∀ a as z, ∃ v, jd a as z = .fin v
theorem rest_facts {jd : Unit → List (Str × Str) → Str → Pr Int} (hj : FinJ jd) : ∀ {n : Nat} {b : Br} {h : List Bool} {as : List (Str × Str)}, okB n b → okW 1000 n b → Plain (restP b h as jd) ∧
    ∀ row k, (rr row (restP b h as jd) k).1.length ≤ n ∧ (AskOk as → AskOk (rr row (restP b h as jd) k).2.2.2) ∧ (rr row (restP b h as jd) k).2.2.2.length ≤ as.length + n
  | 0, _, _, _, h, _ => h.elim
  | n + 1, .say ps, h, as, o, w => by
    rw [rest_say]
    obtain ⟨v, e⟩ := hj () as (mkS ps (sb h))
    have e2 : finishP jd ((), as) (mkS ps (sb h)) = .fin (v, mkS ps (sb h), as) := by
      show (jd () as (mkS ps (sb h))).bind _ = _
      rw [e]
      rfl
    rw [e2]
    exact ⟨trivial, fun row k => ⟨Nat.zero_le _, fun z => z, Nat.le_add_right _ _⟩⟩
  | n + 1, .look j x y, h, as, o, w => by
    rw [rest_look]
    split
    · obtain ⟨i1, i2⟩ := rest_facts hj (h := h) (as := as) o.2.2 w.2
      exact ⟨i1, fun row k => ⟨Nat.le_succ_of_le (i2 row k).1, (i2 row k).2.1, Nat.le_succ_of_le (i2 row k).2.2⟩⟩
    · obtain ⟨i1, i2⟩ := rest_facts hj (h := h) (as := as) o.2.1 w.1
      exact ⟨i1, fun row k => ⟨Nat.le_succ_of_le (i2 row k).1, (i2 row k).2.1, Nat.le_succ_of_le (i2 row k).2.2⟩⟩
  | n + 1, .ask ps a, h, as, o, w => by
    rw [rest_ask, mkS_sb]
    obtain ⟨i1, i2⟩ := rest_facts hj (h := h) (as := as ++ [(sb (ps.map (paB h)), ("" : Str))]) o.2 w.2
    refine ⟨i1, fun row k => ⟨Nat.le_succ_of_le (i2 row k).1, fun z => (i2 row k).2.1 fun e he => ?_, ?_⟩⟩
    · rcases List.mem_append.mp he with q | q
      · exact z e q
      · exact ⟨_, List.mem_singleton.mp q, by rw [List.length_map]; exact w.1⟩
    · have q := (i2 row k).2.2
      rw [List.length_append] at q
      have q : _ ≤ as.length + 1 + n := q
      omega
  | n + 1, .toss bs, h, as, o, w => by
    have e : restP (.toss bs) h as jd = .draw bs.length fun i => ((runsP bs (sb h)).getD i (.fin "")).srv ("" : Str) ((), as) (noteP noAns) (finishP jd) := by
      unfold restP
      rw [runP]
      rfl
    have e2 : ∀ i (hi : i < bs.length), ((runsP bs (sb h)).getD i (.fin "")).srv ("" : Str) ((), as) (noteP noAns) (finishP jd) = restP bs[i] h as jd := fun i hi => by
      rw [runsP_map, List.getD_eq_getElem?_getD, List.getElem?_map, List.getElem?_eq_getElem hi]
      rfl
    have l1 : 1 ≤ bs.length := by
      cases bs with
      | nil => exact absurd rfl o.1
      | cons _ _ => exact Nat.succ_le_succ (Nat.zero_le _)
    refine ⟨?_, fun row k => ?_⟩
    · rw [e]
      refine ⟨l1, fun i hi => ?_⟩
      have z := (rest_facts hj (h := h) (as := as) (o.2 _ (List.getElem_mem hi)) (w.2 _ (List.getElem_mem hi))).1
      rw [← e2 i hi] at z
      exact z
    · obtain ⟨b, g1, g2⟩ := rest_toss (h := h) (as := as) (jd := jd) (row := row) (k := k) o.1
      have hm := List.mem_of_getElem? g1
      obtain ⟨i1, i2⟩ := rest_facts hj (h := h) (as := as) (o.2 _ hm) (w.2 _ hm)
      rw [g2]
      exact ⟨Nat.succ_le_succ (i2 row (k + 1)).1, (i2 row (k + 1)).2.1, Nat.le_succ_of_le (i2 row (k + 1)).2.2⟩
theorem fin_one : FinJ oneJ := fun _ _ _ => ⟨_, rfl⟩
theorem fin_bit (b : Bool) : FinJ (bitJ b) := fun _ _ _ => ⟨_, rfl⟩
theorem fin_of (G : Gm) (i : Nat) (t : List Bool) : FinJ (jdOf G i t) := fun _ _ _ => ⟨_, rfl⟩
theorem plain_row {rows : List (List Bool)} {n m : Nat} {real : Bool} {g : Str → Pr Res} (h : ∀ l, Plain (g (sb l))) : Plain (drawRowP rows n m real g) := by
  unfold drawRowP
  cases real with
  | true =>
    refine ⟨Nat.one_le_two_pow, fun i _ => ?_⟩
    have e : (rows.map sb).getD i "" = sb (rows.getD i []) := by
      rw [List.getD_eq_getElem?_getD, List.getElem?_map, List.getD_eq_getElem?_getD]
      cases rows[i]? with
      | none => decide +kernel
      | some z => rfl
    show Plain (g ((rows.map sb).getD i ""))
    rw [e]
    exact h _
  | false => exact ⟨Nat.one_le_two_pow, fun i _ => h _⟩
theorem proc_facts {n : Nat} {br : Br} {G : Gm} (ok : GmOk G) (o : okB n br) (w : okW 1000 n br) : Plain (procP br G) ∧ ∀ row, (rr row (procP br G) 0).1.length ≤ n + 2 ∧ AskOk (rr row (procP br G) 0).2.2.2 ∧ (rr row (procP br G) 0).2.2.2.length ≤ n := by
  constructor
  · unfold procP
    cases G.nx with
    | false =>
      show Plain (openingP br G.rows G.n G.m G.r G.real G.b)
      refine plain_row fun l => ?_
      by_cases hb : G.b = 1
      · rw [if_pos hb]
        unfold xorZ
        exact (rest_facts fin_one o w).1
      · rw [if_neg hb]
        exact (rest_facts fin_one o w).1
    | true =>
      refine ⟨ok.m1, fun i _ => plain_row fun l => ?_⟩
      unfold hintZ
      exact (rest_facts (fin_bit _) o w).1
  · intro row
    rw [start_ok]
    obtain ⟨i1, i2, i3⟩ := (rest_facts (fin_of G (startI row G) (startT row G)) (h := startH row G) (as := []) o w).2 row (startD row G).length
    refine ⟨?_, i2 (fun e he => (nomatch he)), ?_⟩
    · show (startD row G ++ (rr row (restP br (startH row G) [] _) (startD row G).length).1).length ≤ _
      rw [List.length_append]
      have hd : (startD row G).length ≤ 2 := by
        unfold startD
        split
        · exact Nat.le_refl 2
        · exact Nat.le_succ 1
      omega
    · have i3 : _ ≤ 0 + n := i3
      rw [Nat.zero_add] at i3
      exact i3

end
section
structure TbA where
  tc : Addr
  ts : Addr
  ta : Addr
  tp : Addr
  to_ : Addr
  tr : Addr
  tb : Addr
  tn : Addr
  tg : Addr
structure TabsOk (H : Hp) (t : TbA) : Prop where
  c : Tb NM 3 H t.tc
  s : Tb NM 1 H t.ts
  a : Tb NM 1 H t.ta
  p : Tb NM 1 H t.tp
  o : Tb NM 1 H t.to_
  r : Tb NM 1 H t.tr
  b : Tb NM 1 H t.tb
  n : Tb NM 2 H t.tn
  g : Tb NM 1 H t.tg
theorem TabsOk.mono {H H' : Hp} {t : TbA} (h : TabsOk H t) (e : ∀ n T, Tb NM n H T → Tb NM n H' T) : TabsOk H' t := ⟨e _ _ h.c, e _ _ h.s, e _ _ h.a, e _ _ h.p, e _ _ h.o, e _ _ h.r, e _ _ h.b, e _ _ h.n, e _ _ h.g⟩
section
variable {P : Program} {w : World} {K : PySem.W.Frag} {mg : Str → Option Value} {base : Heap} {cs : Cs}
def spPlayL (K : PySem.W.Frag) (t : TbA) (n : Nat) (C : Addr) : Sp := fun vs H Q _ => ∃ (g ca : Addr) (bv : V) (br : Br) (G : Gm) (ci : List Int) (row : List Nat), vs = [.ref g, bv, .ref ca] ∧ TabsOk H t ∧ GmV K H g G ∧ GmOk2 G ∧ BrV K H br bv ∧ okB n br ∧ okW 1000 n br ∧ n ≤ 20 ∧ nB br ≤ 2001 ∧
  (SqL K H ca (ci.map V.int) ∨ SqT K H ca (ci.map V.int)) ∧ (∀ k, k < (rr row (procP br G) 0).1.length → ci.getD k 0 = ((((rr row (procP br G) 0).1.getD k (0, 0)).1 : Nat) : Int)) ∧ ∀ x H', Kp NM H H' → RPlay C H' x (rr row (procP br G) 0) → Q (.ref x) H'
theorem play_law {CX : CXT} {k : Nat} {f : Addr} {fd : FuncData} {t : TbA} {n L : Nat} {C : Addr}
    (h1 : FnOk P w K mg base CX k f fd ["game", "breaker", "choices"] (spPlay P w K mg base SNone t.tc t.ts t.ta t.tp L n "opening" (fun vs H Q E => ∃ br, spOpening P w K mg base t.to_ t.tr t.tb L br vs H Q E) C))
    (h2 : FnOk P w K mg base CX k f fd ["game", "breaker", "choices"] (spPlay P w K mg base SNone t.tc t.ts t.ta t.tp L n "next" (fun vs H Q E => ∃ br, spNext P w K mg base t.tn t.tr t.tb t.tg L br vs H Q E) C)) :
    FnOk P w K mg base CX k f fd ["game", "breaker", "choices"] (spPlayL K t n C) := by
  refine ⟨fun vs H Q E ⟨g, ca, bv, br, G, ci, row, e, _⟩ => by rw [e]; rfl, fun A outer s H args us vs Q E hr e0 hb r h => ?_⟩
  obtain ⟨g, ca, bv, br, G, ci, row, rfl, tt, hg, ok, hbr, b1, b2, hn, hN, hca, hci, q⟩ := h
  have hdp := hg.dp
  obtain ⟨gd, gf⟩ := gm_gd hg ok
  obtain ⟨pl, pf⟩ := proc_facts ok.toGmOk b1 b2
  obtain ⟨pf1, pf2, pf3⟩ := pf row
  obtain ⟨c, hc⟩ : ∃ c : Nat → Nat, c = fun k => ((rr row (procP br G) 0).1.getD k (0, 0)).1 := ⟨_, rfl⟩
  obtain ⟨r1, r2⟩ := rn_rr (c := c) (k := 0) pl fun i _ => by rw [hc, Nat.zero_add]
  have hok := br_brOk b1 b2 (by omega) hN
  obtain ⟨blk, g1, g2⟩ := id hg
  cases en : G.nx with
  | false =>
    rw [en] at g2
    have g2 : SqX K H g [.str "opening", .ref blk, .str (sb G.r), .bl G.real, .int G.b] := g2
    refine h1.run A outer s H args us _ Q E hr e0 hb r ⟨g, ca, bv, br, _, procP br G, gmD G, brD br, 62, 3 * n, ci, c, rfl, g2, by show 4 ≤ 10; decide, hbr, b1, b2, tt.c, tt.s, tt.a, tt.p, fun H1 pt meet Q1 e hp hm hq => ?_, hdp, gd, by decide, gf, hbr.dp, gd_brD b1 b2, hok, hca, r2, by rw [r1]; omega, fun k hk => ?_, fun x H' e h => ?_⟩
    · refine ⟨br, pt, blk, meet, G.n, G.m, G.rows, G.r, G.real, G.b, rfl, hp, g1.ext e.toExt, ok.rl en, e.tb _ _ tt.o, e.tb _ _ tt.r, e.tb _ _ tt.b, hm, ?_⟩
      have ep : procP br G = openingP br G.rows G.n G.m G.r G.real G.b := by
        unfold procP
        rw [en]
        rfl
      rw [← ep]
      exact hq
    · rw [r1] at hk
      rw [hci k hk, hc]
    · rw [r1] at h
      exact q x H' e h
  | true =>
    rw [en] at g2
    have g2 : SqX K H g [.str "next", .ref blk, .bl G.real] := g2
    refine h2.run A outer s H args us _ Q E hr e0 hb r ⟨g, ca, bv, br, _, procP br G, gmD G, brD br, 62, 3 * n, ci, c, rfl, g2, by show 2 ≤ 10; decide, hbr, b1, b2, tt.c, tt.s, tt.a, tt.p, fun H1 pt meet Q1 e hp hm hq => ?_, hdp, gd, by decide, gf, hbr.dp, gd_brD b1 b2, hok, hca, r2, by rw [r1]; omega, fun k hk => ?_, fun x H' e h => ?_⟩
    · refine ⟨br, pt, blk, meet, G.n, G.m, G.rows, G.real, rfl, hp, g1.ext e.toExt, e.tb _ _ tt.n, e.tb _ _ tt.r, e.tb _ _ tt.b, e.tb _ _ tt.g, hm, ?_⟩
      have ep : procP br G = nextP br G.rows G.n G.m G.real := by
        unfold procP
        rw [en]
        rfl
      rw [← ep]
      exact hq
    · rw [r1] at hk
      rw [hci k hk, hc]
    · rw [r1] at h
      exact q x H' e h
end

end
section
/-- what is asked of the class Play by isinstance -/
structure PlayI (K : PySem.W.Frag) (C : Addr) : Prop where
  ha : PySem.W.findIn K (.ref C) "__class__" = some (some (.builtin "object.__class__"))
  hn : PySem.W.specialIn K (.builtin "object.__class__") "__get__" = some (some (.builtin "getset_descriptor.__get__"))
  htk : PySem.W.takesIn K (.builtin "object.__class__") = some true
  hm : PySem.W.mroIn K C (.type "object") = some true
  kit : PySem.W.kitOne K (.ref C) (.ref C) = some true
def drD (l : List (Nat × Nat)) : PyData := .list (l.map fun p => .tuple [.int (p.1 : Int), .int (p.2 : Int)])
def asD (l : List (Str × Str)) : PyData := .list (l.map fun p => .tuple [.str p.1, .str p.2])
theorem dpAll_get {K : PySem.W.Frag} {H : Hp} : ∀ {vs : List V} {ds : List PyData}, vs.length = ds.length → (∀ (i : Nat) v d, vs[i]? = some v → ds[i]? = some d → Dp K H v d) → DpAll K H vs ds
  | [], [], _, _ => .nil
  | [], _ :: _, h, _ => by cases h
  | _ :: _, [], h, _ => by cases h
  | v :: vs, d :: ds, h, g => .cons (g 0 v d rfl rfl) (dpAll_get (Nat.succ.inj h) fun i v d h1 h2 => g (i + 1) v d h1 h2)
theorem RDraws.dp {K : PySem.W.Frag} {H : Hp} {dl : Addr} {l : List (Nat × Nat)} (h : RDraws H dl l) : Dp K H (.ref dl) (drD l) := by
  obtain ⟨xs, e1, e2, e3⟩ := h
  refine .lst (.inl (.inl e1)) (dpAll_get (by rw [List.length_map]; exact e2) fun i v d h1 h2 => ?_)
  rw [List.getElem?_map] at h2
  obtain ⟨⟨c, m⟩, h3, rfl⟩ := Option.map_eq_some_iff.mp h2
  obtain ⟨t, k1, k2⟩ := e3 i c m h3
  rw [h1] at k1
  obtain rfl := Option.some.inj k1
  exact .tup (.inl (.inl k2)) (.cons (.int _) (.cons (.int _) .nil))
theorem RAskL.dp {K : PySem.W.Frag} {H : Hp} {dl : Addr} {l : List (Str × Str)} (h : RAskL H dl l) : Dp K H (.ref dl) (asD l) := by
  obtain ⟨xs, e1, e2, e3⟩ := h
  refine .lst (.inl (.inl e1)) (dpAll_get (by rw [List.length_map]; exact e2) fun i v d h1 h2 => ?_)
  rw [List.getElem?_map] at h2
  obtain ⟨⟨c, m⟩, h3, rfl⟩ := Option.map_eq_some_iff.mp h2
  obtain ⟨t, k1, k2⟩ := e3 i c m h3
  rw [h1] at k1
  obtain rfl := Option.some.inj k1
  exact .tup (.inl (.inl k2)) (.cons (.str _) (.cons (.str _) .nil))
theorem dr_gd {l : List (Nat × Nat)} (h : l.length ≤ 100) : Gd 3 (drD l) := by
  refine ⟨by rw [List.length_map]; omega, fun x hx => ?_⟩
  obtain ⟨p, _, rfl⟩ := List.mem_map.mp hx
  refine ⟨by show 2 ≤ 5000; decide, fun y hy => ?_⟩
  rcases List.mem_cons.mp hy with e | hy
  · rw [e]
    trivial
  · rw [List.mem_singleton.mp hy]
    trivial
theorem as_gd {l : List (Str × Str)} (h : l.length ≤ 100) (ok : AskOk l) : Gd 3 (asD l) := by
  refine ⟨by rw [List.length_map]; omega, fun x hx => ?_⟩
  obtain ⟨p, hp, rfl⟩ := List.mem_map.mp hx
  obtain ⟨bs, rfl, hb⟩ := ok p hp
  refine ⟨by show 2 ≤ 5000; decide, fun y hy => ?_⟩
  rcases List.mem_cons.mp hy with e | hy
  · rw [e]
    exact okT_sb (by omega)
  · rw [List.mem_singleton.mp hy]
    exact (show okT ("" : Str) from ⟨by decide +kernel, by decide +kernel⟩)
section
variable {P : Program} {w : World} {K : PySem.W.Frag} {mg : Str → Option Value} {base : Heap} {cs : Cs}
def RDue (H : Hp) (due : Addr) (r : List (Nat × Nat) × Res) : Prop := ∃ dl al, H due = some (.lst [.int r.2.1, .str r.2.2.1, .ref dl, .ref al]) ∧ RDraws H dl r.1 ∧ RAskL H al r.2.2.2
def spSame (C : Addr) : Sp := fun vs H Q _ => ∃ (x due : Addr) (r : List (Nat × Nat) × Res), vs = [.ref x, .ref due] ∧ RPlay C H x r ∧ RDue H due r ∧ AskOk r.2.2.2 ∧ r.1.length ≤ 100 ∧ r.2.2.2.length ≤ 100 ∧ Q (.bl true) H
theorem ok_same {f : Addr} {fd : FuncData} (D : Df K mg "_law_same_play" s_law_same_play ["told_v", "due"] f fd) (T : Txt K w mg cs) (PC : PlayC K cs.Play) (PI : PlayI K cs.Play) : FnOk P w K mg base CX0 1 f fd ["told_v", "due"] (spSame cs.Play) := by
  refine D.fn.ok sc_law_same_play (fun vs H Q E h => ?_) (fun cdv A outer s H vs Q E hr h => ?_)
  · obtain ⟨x, due, r, rfl, _⟩ := h
    rfl
  · obtain ⟨x, due, r, rfl, ⟨dx, dl, al, hx, hd, ha⟩, ⟨dl2, al2, hdue, hd2, ha2⟩, ha3, l1, l2, q⟩ := h
    refine ⟨_, (pss_cons (ps_if (pt_not (pt_val (pe_callB (isiK K) (by rfl) T.n_isinstance (by decide +kernel) (pa_cons (pv 0) (pa_cons (pe_glob (v := .ref cs.Play) (by rfl) T.gl_Play rfl) pa_nil))))) (pss_one (ps_ret pe_bl)) pss_nil) (pss_cons (ps_if (PW.pt (pw_or (pt_not (pt_val (pe_callB (isiK K) (by rfl) T.n_isinstance (by decide +kernel) (pa_cons (pe_fld (pv 0) (by rfl)) (pa_cons (pe_ty "int" (by rfl) T.n_int (by decide +kernel)) pa_nil))))) (pw_or (pt_val (pe_callB (isiK K) (by rfl) T.n_isinstance (by decide +kernel) (pa_cons (pe_fld (pv 0) (by rfl)) (pa_cons (pe_ty "bool" (by rfl) T.n_bool (by decide +kernel)) pa_nil)))) (pw_or1 (pt_cmpR op_ne (pe_fld (pv 0) (by rfl)) (pe_ix (ixL K) (pv 1) pe_int (fun _ _ => rfl)) (nomark _)))))) (pss_one (ps_ret pe_bl)) pss_nil) (pss_cons (ps_if (PW.pt (pw_or (pt_not (pt_val (pe_callB (isiK K) (by rfl) T.n_isinstance (by decide +kernel) (pa_cons (pe_fld (pv 0) (by rfl)) (pa_cons (pe_ty "str" (by rfl) T.n_str (by decide +kernel)) pa_nil))))) (pw_or1 (pt_cmpR op_ne (pe_fld (pv 0) (by rfl)) (pe_ix (ixL K) (pv 1) pe_int (fun _ _ => rfl)) (nomark _))))) (pss_one (ps_ret pe_bl)) pss_nil) (pss_cons (ps_if (PW.pt (pw_or (pt_not (pt_val (pe_callB (isiK K) (by rfl) T.n_isinstance (by decide +kernel) (pa_cons (pe_fld (pv 0) (by rfl)) (pa_cons (pe_ty "list" (by rfl) T.n_list (by decide +kernel)) pa_nil))))) (pw_or1 (pt_cmpR (op_neF K hr.units) (pe_fld (pv 0) (by rfl)) (pe_ix (ixL K) (pv 1) pe_int (fun _ _ => rfl)) (nomark _))))) (pss_one (ps_ret pe_bl)) pss_nil) (pss_cons (ps_for PassesOwn.never rfl (pi_list (pe_fld (pv 0) (by rfl))) (pg_name (i := 2) sc_law_same_play.nd rfl (.inl rfl)) (pss_cons (ps_if (PW.pt (pw_or (pt_not (pt_val (pe_callB (isiK K) (by rfl) T.n_isinstance (by decide +kernel) (pa_cons (pv 2) (pa_cons (pe_ty "tuple" (by rfl) T.n_tuple (by decide +kernel)) pa_nil))))) (pw_or (pt_not (pt_val (pe_callB (isiK K) (by rfl) T.n_isinstance (by decide +kernel) (pa_cons (pe_ix (ixT K) (pv 2) pe_int (fun _ _ => rfl)) (pa_cons (pe_ty "int" (by rfl) T.n_int (by decide +kernel)) pa_nil))))) (pw_or1 (pt_not (pt_val (pe_callB (isiK K) (by rfl) T.n_isinstance (by decide +kernel) (pa_cons (pe_ix (ixT K) (pv 2) pe_int (fun _ _ => rfl)) (pa_cons (pe_ty "int" (by rfl) T.n_int (by decide +kernel)) pa_nil))))))))) (pss_one (ps_ret pe_bl)) pss_nil) (pss_one (ps_if (PW.pt (pw_or (pt_val (pe_callB (isiK K) (by rfl) T.n_isinstance (by decide +kernel) (pa_cons (pe_ix (ixT K) (pv 2) pe_int (fun _ _ => rfl)) (pa_cons (pe_ty "bool" (by rfl) T.n_bool (by decide +kernel)) pa_nil)))) (pw_or1 (pt_val (pe_callB (isiK K) (by rfl) T.n_isinstance (by decide +kernel) (pa_cons (pe_ix (ixT K) (pv 2) pe_int (fun _ _ => rfl)) (pa_cons (pe_ty "bool" (by rfl) T.n_bool (by decide +kernel)) pa_nil))))))) (pss_one (ps_ret pe_bl)) pss_nil)))) (pss_one (ps_ret (pe_and (pe_callB (isiK K) (by rfl) T.n_isinstance (by decide +kernel) (pa_cons (pe_fld (pv 0) (by rfl)) (pa_cons (pe_ty "list" (by rfl) T.n_list (by decide +kernel)) pa_nil))) (pe_one (pe_cmpR (op_eqF K hr.units) (pe_fld (pv 0) (by rfl)) (pe_ix (ixL K) (pv 1) pe_int (fun _ _ => rfl)) (nomark _))))))))))), ?_⟩
    refine ⟨_, rfl, _, _, _, _, _, rfl, .own cs.Play, .base (.ins hx PC.cls PI.ha PI.hn PI.htk PI.hm), PI.kit, true, rfl, ?_⟩
    show (if false = true then _ else _)
    rw [if_neg Bool.false_ne_true]
    obtain ⟨dxs, e1, e2, e3⟩ := id hd
    have ff : (if false = true then True else True) := by rw [if_neg Bool.false_ne_true]; trivial
    -- outcome
    refine ⟨_, rfl, x, cs.Play, dx, _, _, rfl, hx, PC.cls, PC.n1, rfl, _, _, _, _, _, rfl, .ty "int", .base (.int _), kit_int (.int r.2.1), true, rfl, ?_⟩
    show (if false = true then _ else _)
    rw [if_neg Bool.false_ne_true]
    refine ⟨_, rfl, x, cs.Play, dx, _, _, rfl, hx, PC.cls, PC.n1, rfl, _, _, _, _, _, rfl, .ty "bool", .base (.int _), kit_bool (.int r.2.1), false, rfl, ?_⟩
    show (if false = true then _ else _)
    rw [if_neg Bool.false_ne_true]
    refine ⟨_, rfl, x, cs.Play, dx, _, _, rfl, hx, PC.cls, PC.n1, rfl, _, rfl, due, _, 0, _, rfl, rfl, .inl (.inl hdue), rfl, rfl, false, by simp, ?_⟩
    show (if false = true then _ else _)
    rw [if_neg Bool.false_ne_true]
    -- said
    refine ⟨_, rfl, x, cs.Play, dx, _, _, rfl, hx, PC.cls, PC.n2, rfl, _, _, _, _, _, rfl, .ty "str", .base (.str _), kit_str (.str r.2.2.1), true, rfl, ?_⟩
    show (if false = true then _ else _)
    rw [if_neg Bool.false_ne_true]
    refine ⟨_, rfl, x, cs.Play, dx, _, _, rfl, hx, PC.cls, PC.n2, rfl, _, rfl, due, _, 1, _, rfl, rfl, .inl (.inl hdue), rfl, rfl, false, by simp, ?_⟩
    show (if false = true then _ else _)
    rw [if_neg Bool.false_ne_true]
    -- draws
    have kl : PySem.W.kitOne K (.type "list") (.type "list") = some true := kit_ty (by decide +kernel)
    refine ⟨_, rfl, x, cs.Play, dx, _, _, rfl, hx, PC.cls, PC.n3, rfl, _, _, _, _, _, rfl, .ty "list", .base (.lst e1), kl, true, rfl, ?_⟩
    show (if false = true then _ else _)
    rw [if_neg Bool.false_ne_true]
    refine ⟨_, rfl, x, cs.Play, dx, _, _, rfl, hx, PC.cls, PC.n3, rfl, _, rfl, due, _, 2, _, rfl, rfl, .inl (.inl hdue), rfl, drD r.1, drD r.1, hd.dp, hd2.dp, gd_lay (dr_gd l1), gd_lay (dr_gd l1), Nat.le_trans (gd_facts (dr_gd l1)).2 (by decide), false, ?_, ?_⟩
    · rw [PySem.SeqAt.eqv_refl _ (gd_lay (dr_gd l1))]
      rfl
    show (if false = true then _ else _)
    rw [if_neg Bool.false_ne_true]
    -- the pairs
    refine ⟨_, rfl, x, cs.Play, dx, _, _, rfl, hx, PC.cls, PC.n3, rfl, dl, rfl, ⟨_, .inl (.inl e1)⟩, ?_⟩
    refine for_list (xs := dxs) (fun i σ H' => ∃ y, σ = [some (.ref x), some (.ref due), y] ∧ H' = H) ⟨_, rfl, rfl⟩ ?_ ?_ ?_
    · rintro i σ H' _ ⟨y, rfl, rfl⟩
      exact .inl (.inl e1)
    · rintro i v σ H' hv ⟨y, rfl, rfl⟩
      have hi : i < r.1.length := by rw [← e2]; exact (List.getElem?_eq_some_iff.mp hv).1
      obtain ⟨t, k1, k2⟩ := e3 i (r.1[i]).1 (r.1[i]).2 (List.getElem?_eq_getElem hi)
      rw [hv] at k1
      obtain rfl := Option.some.inj k1
      refine ⟨_, rfl, _, _, _, _, _, rfl, .ty "tuple", .base (.tup k2), kit_ty (by decide +kernel), true, rfl, ?_⟩
      show (if false = true then _ else _)
      rw [if_neg Bool.false_ne_true]
      refine ⟨_, rfl, t, _, 0, _, rfl, rfl, .inl (.inl k2), rfl, _, _, _, _, _, rfl, .ty "int", .base (.int _), kit_int (.int 0), true, rfl, ?_⟩
      show (if false = true then _ else _)
      rw [if_neg Bool.false_ne_true]
      refine ⟨_, rfl, t, _, 1, _, rfl, rfl, .inl (.inl k2), rfl, _, _, _, _, _, rfl, .ty "int", .base (.int _), kit_int (.int 0), true, rfl, ?_⟩
      show (if false = true then _ else _)
      rw [if_neg Bool.false_ne_true]
      refine ⟨_, rfl, t, _, 0, _, rfl, rfl, .inl (.inl k2), rfl, _, _, _, _, _, rfl, .ty "bool", .base (.int _), kit_bool (.int 0), false, rfl, ?_⟩
      show (if false = true then _ else _)
      rw [if_neg Bool.false_ne_true]
      refine ⟨_, rfl, t, _, 1, _, rfl, rfl, .inl (.inl k2), rfl, _, _, _, _, _, rfl, .ty "bool", .base (.int _), kit_bool (.int 0), false, rfl, ?_⟩
      show (if false = true then _ else _)
      rw [if_neg Bool.false_ne_true]
      exact ⟨_, rfl, rfl⟩
    · rintro σ H' ⟨y, rfl, rfl⟩
      obtain ⟨axs, g1, g2, g3⟩ := id ha
      refine ⟨_, rfl, x, cs.Play, dx, _, _, rfl, hx, PC.cls, PC.n4, rfl, _, _, _, _, _, rfl, .ty "list", .base (.lst g1), kl, true, rfl, ?_⟩
      show (if true = true then _ else _)
      rw [if_pos rfl]
      refine ⟨_, rfl, x, cs.Play, dx, _, _, rfl, hx, PC.cls, PC.n4, rfl, _, rfl, due, _, 3, _, rfl, rfl, .inl (.inl hdue), rfl, asD r.2.2.2, asD r.2.2.2, ha.dp, ha2.dp, gd_lay (as_gd l2 ha3), gd_lay (as_gd l2 ha3), Nat.le_trans (gd_facts (as_gd l2 ha3)).2 (by decide), ?_⟩
      rw [PySem.SeqAt.eqv_refl _ (gd_lay (as_gd l2 ha3))]
      exact q
end

end
section
theorem pe_ckX0 {k j : Nat} {x : Str} {sp : Sp} {X : Cx} {p pos : Pos} {kws : List Keyword} {tk : TA} {ks : List Str} {gV : List V → List V → List V} (c : Ck X.prog X.w X.K X.mg X.base (L2.CX X.prog X.w) k 0 x ks gV sp) (hr : Room j X.A) (hk : k ≤ j) (hg : Gl X x) (hkw : PK X kws tk)
    (hall : (backToKw pos (keywordEach kws X.env)).all (·.1.isSome) = true := by rfl) (hks : (backToKw pos (keywordEach kws X.env)).filterMap (·.1) = ks := by rfl)
    (hdb : (x == ("__debug__" : Str)) = false := by decide)
    (hpl : ((backTo pos (starEach [] X.env)).any (·.1) || (backToKw pos (keywordEach kws X.env)).any (·.1.isNone)) = false := by rfl) :
    PE X (.Call (.Name x p) [] kws pos) (tCallN 0 ks.length sp gV E0 tNil tk) := by
  obtain ⟨f, fd, ps, g, F, hm, kp, b⟩ := c.ex
  exact pe_callN0 F (hr.mono hk) hg hm kp b (fun pins σ H s e s' I c => passAt (W := fun _ _ _ _ => False) takes0 σ pins H s e s' I c) hkw hall hks hdb hpl

section
variable {P : Program} {w : World} {K : PySem.W.Frag} {mg : Str → Option Value} {base : Heap} {cs : Cs}
theorem Hnd.kp {H H' : Hp} {a d : Addr} (h : Hnd H a d) (e : Kp NM H H') : Hnd H' a d := by
  obtain ⟨ds, i, h1, h2, h3, h4⟩ := h
  exact ⟨ds, i, e.all _ _ h1 (fun _ z => by cases z) (fun _ z => by cases z), e.all _ _ h2 (fun _ z => by cases z) (fun _ z => by cases z), h3, h4⟩
/-- all but the hand and the tables stays -/
structure KT (a : Addr) (H H' : Hp) : Prop where
  tb : ∀ n T, Tb NM n H T → Tb NM n H' T
  all : ∀ b o, H b = some o → b ≠ a → (∀ ps, o ≠ .tbl ps) → (∀ ob, o ≠ fz ob) → H' b = some o
theorem KT.trans {a : Addr} {H H1 H2 : Hp} (x : KT a H H1) (y : KT a H1 H2) : KT a H H2 := ⟨fun n T t => y.tb n T (x.tb n T t), fun b o e n1 n2 n3 => y.all b o (x.all b o e n1 n2 n3) n1 n2 n3⟩
theorem Kp.kt {a : Addr} {H H' : Hp} (k : Kp NM H H') : KT a H H' := ⟨k.tb, fun b o e _ n2 n3 => k.all b o e n2 n3⟩
theorem Keep.kt {a : Addr} {H H' : Hp} {xs : List V} (k : Keep a H H') (e : H a = some (.lst xs)) : KT a H H' :=
  ⟨fun n T t => t.but (fun b ps q => k b _ q (fun z => by rw [z, e] at q; cases q)) (fun b ob q => k b _ q (fun z => by rw [z, e] at q; cases q)), fun b o q n1 _ _ => k b o q n1⟩
theorem KT.sqx {a p : Addr} {H H' : Hp} {xs ys : List V} (k : KT a H H') (e : H a = some (.lst ys)) (h : SqX K H p xs) : SqX K H' p xs := by
  rcases h with h | ⟨o, h⟩ | h
  · exact .inl (k.all _ _ h (fun z => by rw [z, e] at h; cases h) (fun _ z => by cases z) (fun _ z => by cases z))
  · exact .inr (.inl ⟨o, k.all _ _ h (fun z => by rw [z, e] at h; cases h) (fun _ z => by cases z) (fun _ z => by cases z)⟩)
  · exact .inr (.inr h)
/-- the facts that the law carries along -/
structure Fx (K : PySem.W.Frag) (H : Hp) (a d : Addr) (t : TbA) (g : Addr) (G : Gm) (bv : V) (br : Br) : Prop where
  hn : Hnd H a d
  tt : TabsOk H t
  gm : GmV K H g G
  bb : BrV K H br bv
theorem Fx.kt {H H' : Hp} {a d g : Addr} {t : TbA} {G : Gm} {bv : V} {br : Br} (h : Fx K H a d t g G bv br) (k : KT a H H') (hn : Hnd H' a d) : Fx K H' a d t g G bv br := by
  obtain ⟨ds, i, e, _⟩ := h.hn
  obtain ⟨blk, ⟨r, h1, h2, h3⟩, h4⟩ := h.gm
  exact ⟨hn, h.tt.mono k.tb, ⟨blk, ⟨r, k.sqx e h1, k.sqx e h2, h3⟩, k.sqx e h4⟩, BrV.mono (fun _ _ z => k.sqx e z) br h.bb⟩
theorem Fx.kp {H H' : Hp} {a d g : Addr} {t : TbA} {G : Gm} {bv : V} {br : Br} (h : Fx K H a d t g G bv br) (k : Kp NM H H') : Fx K H' a d t g G bv br := h.kt k.kt (h.hn.kp k)
/-- what the law's machine answered, away from the hand -/
structure Due (H : Hp) (a due : Addr) (r : List (Nat × Nat) × Res) (dl al : Addr) : Prop where
  n1 : due ≠ a
  n2 : dl ≠ a
  n3 : al ≠ a
  l : H due = some (.lst [.int r.2.1, .str r.2.2.1, .ref dl, .ref al])
  d : RDraws H dl r.1
  s : RAskL H al r.2.2.2
theorem Due.kt {H H' : Hp} {a due dl al : Addr} {r : List (Nat × Nat) × Res} {xs : List V} (h : Due H a due r dl al) (k : KT a H H') (e : H a = some (.lst xs)) : Due H' a due r dl al := by
  have nl : ∀ b ys, H b = some (.lst ys) → b ≠ a → H' b = some (.lst ys) := fun b ys q n => k.all b _ q n (fun _ z => by cases z) (fun _ z => by cases z)
  have nt : ∀ b ys, H b = some (.tup ys) → H' b = some (.tup ys) := fun b ys q => k.all b _ q (fun z => by rw [z, e] at q; cases q) (fun _ z => by cases z) (fun _ z => by cases z)
  refine ⟨h.n1, h.n2, h.n3, nl _ _ h.l h.n1, ?_, ?_⟩
  · obtain ⟨ys, e1, e2, e3⟩ := h.d
    refine ⟨ys, nl _ _ e1 h.n2, e2, fun i c m q => ?_⟩
    obtain ⟨t, w1, w2⟩ := e3 i c m q
    exact ⟨t, w1, nt _ _ w2⟩
  · obtain ⟨ys, e1, e2, e3⟩ := h.s
    refine ⟨ys, nl _ _ e1 h.n3, e2, fun i c m q => ?_⟩
    obtain ⟨t, w1, w2⟩ := e3 i c m q
    exact ⟨t, w1, nt _ _ w2⟩
theorem Due.of {H : Hp} {a due dl al : Addr} {r : List (Nat × Nat) × Res} (h : Due H a due r dl al) : RDue H due r := ⟨dl, al, h.l, h.d, h.s⟩
def spPlayed (K : PySem.W.Frag) (t : TbA) (n : Nat) : Sp := fun vs H Q _ => ∃ (g a d : Addr) (bv : V) (br : Br) (G : Gm), vs = [.ref g, bv, .ref a] ∧ Fx K H a d t g G bv br ∧ GmOk2 G ∧ okB n br ∧ okW 1000 n br ∧ n ≤ 20 ∧ nB br ≤ 2001 ∧ ∀ H', KT a H H' → Hnd H' a d → Q (.bl true) H'
theorem cutV_take {xs : List V} {j : Nat} (h : j ≤ xs.length) : cutV xs none (some (j : Int)) = xs.take j := by
  unfold cutV
  rw [HT.sIx_none, ix_nat, Nat.min_eq_left h, List.drop_zero, Nat.sub_zero]
theorem ok_played {f : Addr} {fd : FuncData} {t : TbA} {n : Nat} (D : Df K mg "_law_is_played" s_law_is_played ["game", "breaker", "hand"] f fd) (T : Txt K w mg cs) (c_law_take : Cl P w K mg base CX0 1 "_law_take" spTake) (c_law_run : Cl P w K mg base CX0 5 "_law_run" (spLRun K)) (c_law_same_play : Cl P w K mg base CX0 1 "_law_same_play" (spSame cs.Play))
    (c_play : Cl P w K mg base (L2.CX P w) 40 "play" (spPlayL K t n cs.Play)) (k_play : Ck P w K mg base (L2.CX P w) 40 0 "play" ["choices", "breaker", "game"] (fun _ zs => zs.reverse) (spPlayL K t n cs.Play)) : FnOk P w K mg base CX0 41 f fd ["game", "breaker", "hand"] (spPlayed K t n) := by
  refine D.fn.ok sc_law_is_played (fun vs H Q E h => ?_) (fun cdv A outer s H vs Q E hr h => ?_)
  · obtain ⟨g, a, d, bv, br, G, rfl, _⟩ := h
    rfl
  · obtain ⟨g, a, d, bv, br, G, rfl, fx, ok, b1, b2, hn, hN, q⟩ := h
    refine ⟨_, (pss_cons (ps_setLc (i := 3) (own := [("k", 9)]) (g := gName 9) (tt := tYes) rfl sc_law_is_played.nd rfl rfl (sw_true rfl rfl rfl (by decide +kernel)) (pi_range1 (by rfl) T.n_range (pa_cons pe_int pa_nil)) (blkOk_by (own := [("k", 9)]) (N := ["game", "breaker", "hand", "row", "due", "choices", "longer", "less", "part", "k", "pair"]) (sc := defScope s_law_is_played) (by decide +kernel)) (fun _ _ _ _ _ => (pg_name (i := 9) sc_law_is_played.nd rfl (.inl rfl))) (fun _ _ _ _ _ => pts_nil) (fun _ _ _ _ _ => (pe_cl c_law_take hr (by first | decide | omega) (by rfl) (pa_cons (pv 2) (pa_cons pe_int pa_nil))))) (pss_cons (ps_set (i := 4) sc_law_is_played.nd rfl (.inl rfl) (pe_cl c_law_run hr (by first | decide | omega) (by rfl) (pa_cons (pv 0) (pa_cons (pv 1) (pa_cons (pv 3) pa_nil))))) (pss_cons (ps_setLc (i := 5) (own := [("pair", 10)]) (g := gName 10) (tt := tYes) rfl sc_law_is_played.nd rfl rfl (sw_true rfl rfl rfl (by decide +kernel)) (pi_list (pe_ix (ixL K) (pv 4) pe_int (fun _ _ => rfl))) (blkOk_by (own := [("pair", 10)]) (N := ["game", "breaker", "hand", "row", "due", "choices", "longer", "less", "part", "k", "pair"]) (sc := defScope s_law_is_played) (by decide +kernel)) (fun _ _ _ _ _ => (pg_name (i := 10) sc_law_is_played.nd rfl (.inl rfl))) (fun _ _ _ _ _ => pts_nil) (fun _ _ _ _ _ => (pe_ix (ixT K) (pv 10) pe_int (fun _ _ => rfl)))) (pss_cons (ps_if (pt_not (pt_val (pe_cl c_law_same_play hr (by first | decide | omega) (by rfl) (pa_cons (pe_clX c_play hr (by first | decide | omega) (by rfl) takes0 (pa_cons (pv 0) (pa_cons (pv 1) (pa_cons (pv 5) pa_nil)))) (pa_cons (pv 4) pa_nil))))) (pss_one (ps_ret pe_bl)) pss_nil) (pss_cons (ps_if (pt_cmpR (op_neF K hr.units) (pv 5) (pe_lc (own := [("pair", 10)]) (g := gName 10) (tt := tYes) rfl sc_law_is_played.nd (pi_list (pe_ix (ixL K) (pv 4) pe_int (fun _ _ => rfl))) (blkOk_by (own := [("pair", 10)]) (N := ["game", "breaker", "hand", "row", "due", "choices", "longer", "less", "part", "k", "pair"]) (sc := defScope s_law_is_played) (by decide +kernel)) (fun _ _ _ _ _ => (pg_name (i := 10) sc_law_is_played.nd rfl (.inl rfl))) (fun _ _ _ _ _ => pts_nil) (fun _ _ _ _ _ => (pe_ix (ixT K) (pv 10) pe_int (fun _ _ => rfl)))) (nomark _)) (pss_one (ps_ret pe_bl)) pss_nil) (pss_cons (ps_set (i := 6) sc_law_is_played.nd rfl (.inl rfl) (pe_op op_cat (pv 5) (pe_lst (pa_cons (pe_op op_sub (pe_op op_sub pe_int pe_int) (pe_cl c_law_take hr (by first | decide | omega) (by rfl) (pa_cons (pv 2) (pa_cons pe_int pa_nil)))) (pa_cons (pe_op op_pow pe_int pe_int) pa_nil))))) (pss_cons (ps_if (pt_not (pt_val (pe_cl c_law_same_play hr (by first | decide | omega) (by rfl) (pa_cons (pe_ckX0 k_play hr (by first | decide | omega) (by rfl) (pk_cons (pe_callTy (tupOf K) (by rfl) T.n_tuple (by decide +kernel) (pa_cons (pv 6) pa_nil)) (pk_cons (pv 1) (pk_cons (pv 0) pk_nil)))) (pa_cons (pv 4) pa_nil))))) (pss_one (ps_ret pe_bl)) pss_nil) (pss_cons (ps_set (i := 7) sc_law_is_played.nd rfl (.inl rfl) (pe_slice (slL K) (pv 5) po_none (po_some (pe_cl c_law_take hr (by first | decide | omega) (by rfl) (pa_cons (pv 2) (pa_cons (pe_op op_add (pe_callB (lenS K) (by rfl) T.n_len (by decide +kernel) (pa_cons (pv 5) pa_nil)) pe_int) pa_nil)))))) (pss_cons (ps_set (i := 8) sc_law_is_played.nd rfl (.inl rfl) (pe_cl c_law_run hr (by first | decide | omega) (by rfl) (pa_cons (pv 0) (pa_cons (pv 1) (pa_cons (pv 7) pa_nil))))) (pss_cons (ps_if (pt_not (pt_val (pe_cl c_law_same_play hr (by first | decide | omega) (by rfl) (pa_cons (pe_clX c_play hr (by first | decide | omega) (by rfl) takes0 (pa_cons (pv 0) (pa_cons (pv 1) (pa_cons (pe_callTy (tupOf K) (by rfl) T.n_tuple (by decide +kernel) (pa_cons (pv 7) pa_nil)) pa_nil)))) (pa_cons (pv 8) pa_nil))))) (pss_one (ps_ret pe_bl)) pss_nil) (pss_cons (ps_if (pt_not (pt_val (pe_cl c_law_same_play hr (by first | decide | omega) (by rfl) (pa_cons (pe_clX c_play hr (by first | decide | omega) (by rfl) takes0 (pa_cons (pv 0) (pa_cons (pv 1) (pa_cons (pv 7) pa_nil)))) (pa_cons (pv 8) pa_nil))))) (pss_one (ps_ret pe_bl)) pss_nil) (pss_one (ps_ret (pe_cl c_law_same_play hr (by first | decide | omega) (by rfl) (pa_cons (pe_clX c_play hr (by first | decide | omega) (by rfl) takes0 (pa_cons (pv 0) (pa_cons (pv 1) (pa_cons (pv 5) pa_nil)))) (pa_cons (pv 4) pa_nil)))))))))))))))), ?_⟩
    have b10 : (100000 : Nat) < sizeLine := by decide
    refine ⟨_, rfl, by decide, by decide, fun Dl hD => ?_⟩
    refine lc_range (lo := 0) (n := 30) (fun i H' => ∃ rs : List Nat, rs.length = i ∧ Hnd H' a d ∧ Keep a H H' ∧ H' Dl = some (.lst (rs.map fun x : Nat => V.int (x : Int)))) ?_ ?_ ?_
    · exact ⟨[], rfl, fx.hn.new hD, Keep.new hD, upd_same⟩
    · rintro i H' hi ⟨rs, l1, h1, k1, e1⟩
      have nD := fx.hn.ne hD
      refine ⟨rfl, ?_⟩
      refine ⟨_, rfl, a, d, 1000003, rfl, by decide, h1, fun r H2 r0 r1 h2 k2 => ?_⟩
      obtain ⟨x, rfl⟩ : ∃ x : Nat, r = (x : Int) := ⟨r.toNat, by omega⟩
      refine ⟨_, k2 _ _ e1 nD.1, by rw [List.length_map]; omega, rs ++ [x], by rw [List.length_append, l1]; rfl, h2.set nD.1 nD.2, (k1.trans k2).set hD, ?_⟩
      rw [upd_same, List.map_append]
      rfl
    rintro H1 ⟨rs, l1, h1, k1, e1⟩
    obtain ⟨ds0, i0, ea, _⟩ := fx.hn
    have kt1 := k1.kt ea
    have fx1 := fx.kt kt1 h1
    obtain ⟨pl, pf⟩ := proc_facts ok.toGmOk b1 b2
    refine ⟨_, rfl, _, rfl, _, rfl, g, Dl, bv, br, G, rs, n, rfl, fx1.gm, ok.toGmOk, fx1.bb, b1, b2, by omega, e1, fun rl dl al H2 s2 e2 d2 a2 _ _ nrl ndl nal => ?_⟩
    obtain ⟨pf1, pf2, pf3⟩ := pf rs
    have pf1 : (rr rs (procP br G) 0).1.length ≤ 22 := by omega
    have pf3 : (rr rs (procP br G) 0).2.2.2.length ≤ 100 := by omega
    obtain ⟨ds1, i1, ea1, _⟩ := id h1
    have na : ∀ b, H1 b = none → b ≠ a := fun b e z => by rw [z, ea1] at e; cases e
    have kt2 : KT a H1 H2 := (same_kp s2).kt
    have fx2 := fx1.kp (same_kp s2)
    have due2 : Due H2 a rl (rr rs (procP br G) 0) dl al := ⟨na _ nrl, na _ ndl, na _ nal, e2, d2, a2⟩
    clear e2 d2 a2
    -- the list of the choices
    have firsts : ∀ (x0 x1 x2 x3 x5 x6 x7 x8 x9 x10 : Option V) (H : Hp) (Q : VK), Due H a rl (rr rs (procP br G) 0) dl al → (∀ Cl H', Same H H' → H Cl = none → H' Cl = some (.lst ((rr rs (procP br G) 0).1.map fun p => V.int (p.1 : Int))) → Q (.ref Cl) H') →
        tLc (iList K (tOp (rIxL K) (tVar 4) (tC (.int 2)))) (gName 10) tYes (tOp (rIxT K) (tVar 10) (tC (.int 0))) [10] [x0, x1, x2, x3, some (.ref rl), x5, x6, x7, x8, x9, x10] H Q := by
      intro x0 x1 x2 x3 x5 x6 x7 x8 x9 x10 H Q due hq
      obtain ⟨dxs, f1, f2, f3⟩ := due.d
      refine ⟨_, rfl, rl, _, 2, _, rfl, rfl, .inl (.inl due.l), rfl, dl, rfl, ⟨_, .inl (.inl f1)⟩, fun Cl nC => ?_⟩
      refine lc_list (xs := dxs) (fun i H' => Same H H' ∧ H' Cl = some (.lst (((rr rs (procP br G) 0).1.take i).map fun p => V.int (p.1 : Int)))) ?_ ?_ ?_ ?_
      · exact ⟨same_new nC, upd_same⟩
      · rintro i H' _ ⟨s1, _⟩
        exact .inl (.inl (s1 _ _ f1))
      · rintro i v H' hv ⟨s1, e1⟩
        have hi : i < (rr rs (procP br G) 0).1.length := by rw [← f2]; exact (List.getElem?_eq_some_iff.mp hv).1
        obtain ⟨t', w1, w2⟩ := f3 i _ _ (List.getElem?_eq_getElem hi)
        rw [hv] at w1
        obtain rfl := Option.some.inj w1
        refine ⟨rfl, ?_⟩
        refine ⟨_, rfl, t', _, 0, _, rfl, rfl, .inl (.inl (s1 _ _ w2)), rfl, _, e1, by rw [List.length_map, List.length_take]; omega, fun b o e => ?_, ?_⟩
        · rw [upd_ne (ne_of_none e nC)]
          exact s1 b o e
        · rw [upd_same, List.take_add_one, List.getElem?_eq_getElem hi, List.map_append]
          rfl
      · rintro H' ⟨s1, e1⟩
        rw [f2, List.take_length] at e1
        exact hq Cl H' s1 nC e1
    simp only [gName, tSeq, tAsg]
    refine firsts _ _ _ _ _ _ _ _ _ _ H2 _ due2 fun Cl H3 s3 nC3 e3 => ?_
    have lD : ∀ {H : Hp}, H Cl = some (.lst ((rr rs (procP br G) 0).1.map fun p => V.int (p.1 : Int))) → H Cl = some (.lst (((rr rs (procP br G) 0).1.map fun p => (p.1 : Int)).map V.int)) := fun e => by
      rw [List.map_map]
      exact e
    have hci : ∀ k, k < (rr rs (procP br G) 0).1.length → ((rr rs (procP br G) 0).1.map fun p => (p.1 : Int)).getD k 0 = ((((rr rs (procP br G) 0).1.getD k (0, 0)).1 : Nat) : Int) := fun k hk => by
      rw [List.getD_eq_getElem?_getD, List.getElem?_map, List.getD_eq_getElem?_getD, List.getElem?_eq_getElem hk]
      rfl
    have fx3 := fx2.kp (same_kp s3)
    have ea2 := s2 _ _ ea1
    have due3 := due2.kt (same_kp s3).kt ea2
    have ea3 := s3 _ _ ea2
    have nca : Cl ≠ a := fun z => by rw [z, ea2] at nC3; cases nC3
    -- the first play
    refine ⟨_, rfl, _, rfl, _, rfl, g, Cl, bv, br, G, _, rs, rfl, fx3.tt, fx3.gm, ok, fx3.bb, b1, b2, hn, hN, .inl (.inl (.inl (lD e3))), hci, fun x4 H4 k4 p4 => ?_⟩
    have due4 := due3.kt k4.kt ea3
    refine ⟨_, rfl, x4, rl, _, rfl, p4, due4.of, pf2, by omega, pf3, _, rfl, ?_⟩
    show (if false = true then _ else _)
    rw [if_neg Bool.false_ne_true]
    have fx4 := fx3.kp k4
    have e4 := k4.all _ _ e3 (fun _ z => by cases z) (fun _ z => by cases z)
    obtain ⟨ds4, i4, ea4, _⟩ := id fx4.hn
    -- choices are as they were
    refine ⟨_, rfl, ?_⟩
    refine firsts _ _ _ _ _ _ _ _ _ _ H4 _ due4 fun Cl2 H5 s5 nC5 e5 => ?_
    have e5' := s5 _ _ e4
    have gdc : Gd 3 (.list ((rr rs (procP br G) 0).1.map fun p => PyData.int (p.1 : Int))) := by
      refine ⟨by rw [List.length_map]; omega, fun x hx => ?_⟩
      obtain ⟨p, _, rfl⟩ := List.mem_map.mp hx
      trivial
    have dpc : ∀ {H : Hp} {c : Addr}, H c = some (.lst ((rr rs (procP br G) 0).1.map fun p => V.int (p.1 : Int))) → Dp K H (.ref c) (.list ((rr rs (procP br G) 0).1.map fun p => PyData.int (p.1 : Int))) := fun e => by
      refine .lst (.inl (.inl e)) (dpAll_get (by rw [List.length_map, List.length_map]) fun i v d h1 h2 => ?_)
      rw [List.getElem?_map] at h1 h2
      obtain ⟨p, h3, rfl⟩ := Option.map_eq_some_iff.mp h1
      rw [h3] at h2
      cases h2
      exact .int _
    refine ⟨_, _, dpc e5', dpc e5, gd_lay gdc, gd_lay gdc, Nat.le_trans (gd_facts gdc).2 (by decide), false, ?_, ?_⟩
    · rw [PySem.SeqAt.eqv_refl _ (gd_lay gdc)]
      rfl
    show (if false = true then _ else _)
    rw [if_neg Bool.false_ne_true]
    have fx5 := fx4.kp (same_kp s5)
    have due5 := due4.kt (same_kp s5).kt ea4
    have ea5 := s5 _ _ ea4
    -- longer
    refine ⟨_, rfl, _, _, rfl, rfl, _, rfl, a, d, 9, rfl, by decide, fx5.hn, fun y H6 y0 y1 h6 k6 => ?_⟩
    have kt6 := k6.kt ea5
    have fx6 := fx5.kt kt6 h6
    have due6 := due5.kt kt6 ea5
    have e6 := k6 _ _ e5' nca
    obtain ⟨ds6, i6, ea6, _⟩ := id h6
    refine ⟨_, _, rfl, rfl, _, _, rfl, rfl, ⟨by decide, by decide, by decide⟩, by show 2 ≤ sizeLine; decide, fun Ll nL => ?_⟩
    refine ⟨Cl, Ll, _, _, rfl, rfl, (upd_ne (ne_of_none e6 nL)).trans e6, upd_same, by rw [List.length_map]; show _ + 2 ≤ _; omega, fun Lg nG => ?_⟩
    dsimp only
    generalize hext : ((0 : Int) - 1 - y) = y'
    generalize hten : ((10 : Int) ^ (9 : Int).toNat) = ten
    have nG' : upd H6 Ll (.lst [.int y', .int ten]) Lg = none := by
      rw [← hext, ← hten]
      exact nG
    have s7 : Same H6 (upd (upd H6 Ll (.lst [.int y', .int ten])) Lg (.lst (((rr rs (procP br G) 0).1.map fun p => V.int (p.1 : Int)) ++ [.int y', .int ten]))) := (same_new nL).trans (same_new nG')
    have e7 : upd (upd H6 Ll (.lst [.int y', .int ten])) Lg (.lst (((rr rs (procP br G) 0).1.map fun p => V.int (p.1 : Int)) ++ [.int y', .int ten])) Lg = some (.lst ((((rr rs (procP br G) 0).1.map fun p => (p.1 : Int)) ++ [y', ten]).map V.int)) := by
      rw [upd_same, List.map_append, List.map_map]
      rfl
    revert s7 e7
    generalize upd (upd H6 Ll (.lst [.int y', .int ten])) Lg (.lst (((rr rs (procP br G) 0).1.map fun p => V.int (p.1 : Int)) ++ [.int y', .int ten])) = H7
    intro s7 e7
    have fx7 := fx6.kp (same_kp s7)
    have due7 := due6.kt (same_kp s7).kt ea6
    have ea7 := s7 _ _ ea6
    have e7c := s7 _ _ e6
    refine ⟨_, rfl, Lg, _, rfl, .inl ⟨.inl (.inl e7), fun Tg nT => ?_⟩⟩
    have s8 : Same H7 (upd H7 Tg (.tup ((((rr rs (procP br G) 0).1.map fun p => (p.1 : Int)) ++ [y', ten]).map V.int))) := same_new nT
    have fx8 := fx7.kp (same_kp s8)
    have due8 := due7.kt (same_kp s8).kt ea7
    have ea8 := s8 _ _ ea7
    have e8c := s8 _ _ e7c
    refine ⟨_, rfl, _, rfl, rfl, rfl, g, Tg, bv, br, G, _, rs, rfl, fx8.tt, fx8.gm, ok, fx8.bb, b1, b2, hn, hN, .inr (.inl (.inl upd_same)), fun k hk => ?_, fun x9 H9 k9 p9 => ?_⟩
    · rw [← hci k hk, List.getD_eq_getElem?_getD, List.getElem?_append_left (by rw [List.length_map]; exact hk), ← List.getD_eq_getElem?_getD]
    have due9 := due8.kt k9.kt ea8
    refine ⟨_, rfl, x9, rl, _, rfl, p9, due9.of, pf2, by omega, pf3, _, rfl, ?_⟩
    show (if false = true then _ else _)
    rw [if_neg Bool.false_ne_true]
    have fx9 := fx8.kp k9
    have e9 := k9.all _ _ e8c (fun _ z => by cases z) (fun _ z => by cases z)
    have ea9 := k9.all _ _ ea8 (fun _ z => by cases z) (fun _ z => by cases z)
    -- less
    refine ⟨_, rfl, ?_⟩
    simp only [tNoPart]
    refine ⟨_, rfl, _, rfl, Cl, _, rfl, .inl (.inl (.inl e9)), _, _, rfl, rfl, a, d, _, rfl, by omega, fx9.hn, fun y2 H10 y20 y21 h10 k10 => ?_⟩
    obtain ⟨j, rfl⟩ : ∃ j : Nat, y2 = (j : Int) := ⟨y2.toNat, by omega⟩
    have kt10 := k10.kt ea9
    have fx10 := fx9.kt kt10 h10
    have due10 := due9.kt kt10 ea9
    have e10 := k10 _ _ e9 nca
    obtain ⟨ds10, i10, ea10, _⟩ := id h10
    rw [List.length_map] at y21
    refine ⟨_, rfl, Cl, _, rfl, .inl (.inl e10), fun Le nE => ?_⟩
    rw [cutV_take (by rw [List.length_map]; omega)]
    obtain ⟨row2, hrow2⟩ : ∃ row2 : List Nat, row2 = ((rr rs (procP br G) 0).1.map (·.1)).take j := ⟨_, rfl⟩
    have er2 : ((rr rs (procP br G) 0).1.map fun p => V.int (p.1 : Int)).take j = row2.map fun x : Nat => V.int (x : Int) := by
      rw [hrow2, List.map_take, List.map_map]
      rfl
    rw [er2]
    have hg2 : ∀ i, row2.getD (0 + i) 0 = if i < j then ((rr rs (procP br G) 0).1.getD i (0, 0)).1 else 0 := fun i => by
      rw [Nat.zero_add, hrow2, List.getD_eq_getElem?_getD, List.getElem?_take]
      split
      · rw [List.getElem?_map, List.getD_eq_getElem?_getD]
        cases (rr rs (procP br G) 0).1[i]? <;> rfl
      · rfl
    have again := rr_again (row := rs) (row2 := row2) (k := 0) (t := j) pl hg2
    have s11 : Same H10 (upd H10 Le (.lst (row2.map fun x : Nat => V.int (x : Int)))) := same_new nE
    have e11 : upd H10 Le (.lst (row2.map fun x : Nat => V.int (x : Int))) Le = some (.lst (row2.map fun x : Nat => V.int (x : Int))) := upd_same
    revert s11 e11
    generalize upd H10 Le (.lst (row2.map fun x : Nat => V.int (x : Int))) = H11
    intro s11 e11
    have fx11 := fx10.kp (same_kp s11)
    have due11 := due10.kt (same_kp s11).kt ea10
    have ea11 := s11 _ _ ea10
    have e11c := s11 _ _ e10
    refine ⟨_, rfl, _, rfl, _, rfl, g, Le, bv, br, G, row2, n, rfl, fx11.gm, ok.toGmOk, fx11.bb, b1, b2, by omega, e11, fun rl2 dl2 al2 H12 s12 e12 d12 a12 _ _ nrl2 ndl2 nal2 => ?_⟩
    obtain ⟨pg1, pg2, pg3⟩ := pf row2
    have na11 : ∀ b, H11 b = none → b ≠ a := fun b e z => by rw [z, ea11] at e; cases e
    have fx12 := fx11.kp (same_kp s12)
    have due12 := due11.kt (same_kp s12).kt ea11
    have ea12 := s12 _ _ ea11
    have e12c := s12 _ _ e11c
    have e12l := s12 _ _ e11
    have dup12 : Due H12 a rl2 (rr row2 (procP br G) 0) dl2 al2 := ⟨na11 _ nrl2, na11 _ ndl2, na11 _ nal2, e12, d12, a12⟩
    clear e12 d12 a12
    have li : ∀ {H : Hp} {c : Addr}, H c = some (.lst (row2.map fun x : Nat => V.int (x : Int))) → H c = some (.lst ((row2.map fun x : Nat => (x : Int)).map V.int)) := fun e => by
      rw [List.map_map]
      exact e
    have hci2 : ∀ k, k < (rr row2 (procP br G) 0).1.length → (row2.map fun x : Nat => (x : Int)).getD k 0 = ((((rr row2 (procP br G) 0).1.getD k (0, 0)).1 : Nat) : Int) := fun k hk => by
      rw [again k hk, Nat.zero_add, List.getD_eq_getElem?_getD, List.getElem?_map, List.getD_eq_getElem?_getD]
      cases row2[k]? <;> rfl
    refine ⟨_, rfl, _, rfl, _, rfl, Le, _, rfl, .inl ⟨.inl (.inl e12l), fun Tl nTl => ?_⟩⟩
    have s13 : Same H12 (upd H12 Tl (.tup (row2.map fun x : Nat => V.int (x : Int)))) := same_new nTl
    have e13t : upd H12 Tl (.tup (row2.map fun x : Nat => V.int (x : Int))) Tl = some (.tup ((row2.map fun x : Nat => (x : Int)).map V.int)) := by
      rw [upd_same, List.map_map]
      rfl
    have fx13 := fx12.kp (same_kp s13)
    have due13 := due12.kt (same_kp s13).kt ea12
    have dup13 := dup12.kt (same_kp s13).kt ea12
    have ea13 := s13 _ _ ea12
    have e13c := s13 _ _ e12c
    have e13l := s13 _ _ e12l
    refine ⟨g, Tl, bv, br, G, _, row2, rfl, fx13.tt, fx13.gm, ok, fx13.bb, b1, b2, hn, hN, .inr (.inl (.inl e13t)), hci2, fun x14 H14 k14 p14 => ?_⟩
    have dup14 := dup13.kt k14.kt ea13
    refine ⟨_, rfl, x14, rl2, _, rfl, p14, dup14.of, pg2, by omega, by omega, _, rfl, ?_⟩
    show (if false = true then _ else _)
    rw [if_neg Bool.false_ne_true]
    have fx14 := fx13.kp k14
    have due14 := due13.kt k14.kt ea13
    have ea14 := k14.all _ _ ea13 (fun _ z => by cases z) (fun _ z => by cases z)
    have e14c := k14.all _ _ e13c (fun _ z => by cases z) (fun _ z => by cases z)
    have e14l := k14.all _ _ e13l (fun _ z => by cases z) (fun _ z => by cases z)
    refine ⟨_, rfl, _, rfl, _, rfl, g, Le, bv, br, G, _, row2, rfl, fx14.tt, fx14.gm, ok, fx14.bb, b1, b2, hn, hN, .inl (.inl (.inl (li e14l))), hci2, fun x15 H15 k15 p15 => ?_⟩
    have dup15 := dup14.kt k15.kt ea14
    refine ⟨_, rfl, x15, rl2, _, rfl, p15, dup15.of, pg2, by omega, by omega, _, rfl, ?_⟩
    show (if false = true then _ else _)
    rw [if_neg Bool.false_ne_true]
    have fx15 := fx14.kp k15
    have due15 := due14.kt k15.kt ea14
    have ea15 := k15.all _ _ ea14 (fun _ z => by cases z) (fun _ z => by cases z)
    have e15c := k15.all _ _ e14c (fun _ z => by cases z) (fun _ z => by cases z)
    refine ⟨_, rfl, _, rfl, _, rfl, g, Cl, bv, br, G, _, rs, rfl, fx15.tt, fx15.gm, ok, fx15.bb, b1, b2, hn, hN, .inl (.inl (.inl (lD e15c))), hci, fun x16 H16 k16 p16 => ?_⟩
    have due16 := due15.kt k16.kt ea15
    refine ⟨_, rfl, x16, rl, _, rfl, p16, due16.of, pf2, by omega, pf3, ?_⟩
    refine q H16 ?_ (fx15.kp k16).hn
    exact (((((((((((((((kt1.trans kt2).trans (same_kp s3).kt).trans k4.kt).trans (same_kp s5).kt).trans kt6).trans (same_kp s7).kt).trans (same_kp s8).kt).trans k9.kt).trans kt10).trans (same_kp s11).kt).trans (same_kp s12).kt).trans (same_kp s13).kt).trans k14.kt).trans k15.kt).trans k16.kt)
end

end
section
section
variable {K : PySem.W.Frag} {G : Hp}
theorem ps_of : ∀ {ps : List Pa} {ws : List V}, DpAll K G ws (ps.map paD) → ws = ps.map paV
  | [], _, .nil => rfl
  | .bit b :: ps, _, .cons (.str _) t => by rw [ps_of t]; rfl
  | .ref i :: ps, _, .cons (.int _) t => by rw [ps_of t]; rfl
mutual
theorem brV_of : ∀ (b : Br) {v : V}, Dp K G v (brD b) → BrV K G b v
  | .say ps, _, .tup hs ha => by
    unfold BrV
    obtain ⟨v0, vs, rfl, h0, ha⟩ := dp_cons ha
    obtain ⟨v1, vs, rfl, h1, ha⟩ := dp_cons ha
    cases ha
    cases h0
    cases h1 with
    | @tup q ws _ hq hw => exact ⟨_, q, rfl, .of hs, by rw [← ps_of hw]; exact .of hq⟩
  | .toss bs, _, .tup hs ha => by
    unfold BrV
    obtain ⟨v0, vs, rfl, h0, ha⟩ := dp_cons ha
    obtain ⟨v1, vs, rfl, h1, ha⟩ := dp_cons ha
    cases ha
    cases h0
    cases h1 with
    | @tup q ws _ hq hw => exact ⟨_, q, ws, rfl, .of hs, .of hq, brVs_of bs hw⟩
  | .look i a b, _, .tup hs ha => by
    unfold BrV
    obtain ⟨v0, vs, rfl, h0, ha⟩ := dp_cons ha
    obtain ⟨v1, vs, rfl, h1, ha⟩ := dp_cons ha
    obtain ⟨v2, vs, rfl, h2, ha⟩ := dp_cons ha
    obtain ⟨v3, vs, rfl, h3, ha⟩ := dp_cons ha
    cases ha
    cases h0
    cases h1
    exact ⟨_, v2, v3, rfl, .of hs, brV_of a h2, brV_of b h3⟩
  | .ask ps a, _, .tup hs ha => by
    unfold BrV
    obtain ⟨v0, vs, rfl, h0, ha⟩ := dp_cons ha
    obtain ⟨v1, vs, rfl, h1, ha⟩ := dp_cons ha
    obtain ⟨v2, vs, rfl, h2, ha⟩ := dp_cons ha
    cases ha
    cases h0
    cases h1 with
    | @tup q ws _ hq hw => exact ⟨_, q, v2, rfl, .of hs, by rw [← ps_of hw]; exact .of hq, brV_of a h2⟩
theorem brVs_of : ∀ (bs : List Br) {vs : List V}, DpAll K G vs (brsD bs) → BrVs K G bs vs
  | [], _, .nil => by
    unfold BrVs
    rfl
  | b :: bs, _, .cons h t => by
    unfold BrVs
    exact ⟨_, _, rfl, brV_of b h, brVs_of bs t⟩
end
end
theorem BrV.off {K : PySem.W.Frag} {H : Hp} {a : Addr} {b : Br} {v : V} (h : BrV K (off a H) b v) : BrV K H b v := BrV.mono (fun _ _ z => .of (same_sqt (off_same a H) z.sq)) b h
section
variable {P : Program} {w : World} {K : PySem.W.Frag} {mg : Str → Option Value} {base : Heap} {cs : Cs}
theorem okW_le {m k : Nat} (hm : m ≤ k) : ∀ {n : Nat} {b : Br}, okW m n b → okW k n b
  | 0, _, h => h.elim
  | n + 1, .say ps, h => Nat.le_trans (show ps.length ≤ m from h) hm
  | n + 1, .toss bs, h => ⟨h.1, fun b hb => okW_le hm (h.2 b hb)⟩
  | n + 1, .look i a b, h => ⟨okW_le hm h.1, okW_le hm h.2⟩
  | n + 1, .ask ps a, h => ⟨Nat.le_trans h.1 hm, okW_le hm h.2⟩
theorem Keep.ktn {H H' : Hp} {a d : Addr} (k : Keep a H H') (h : Hnd H a d) : KT a H H' := by
  obtain ⟨ds, i, e, _⟩ := h
  exact k.kt e
theorem GenV.kt {H H' : Hp} {a d blk : Addr} {n m : Nat} {rows : List (List Bool)} (g : GenV K H blk n m rows) (k : KT a H H') (h : Hnd H a d) : GenV K H' blk n m rows := by
  obtain ⟨ds, i, e, _⟩ := h
  obtain ⟨r, h1, h2, h3⟩ := g
  exact ⟨r, k.sqx e h1, k.sqx e h2, h3⟩
theorem BrV.kt {H H' : Hp} {a d : Addr} {b : Br} {v : V} (g : BrV K H b v) (k : KT a H H') (h : Hnd H a d) : BrV K H' b v := by
  obtain ⟨ds, i, e, _⟩ := h
  exact BrV.mono (fun _ _ z => k.sqx e z) b g
theorem bsz4 : bsz 4 ≤ 2001 := by decide
/-- a drawn breaker -/
theorem drawn_br {H : Hp} {a : Addr} {v : V} (h : PB K a H 4 v) : ∃ b, BrV K H b v ∧ okB 4 b ∧ okW 1000 4 b ∧ nB b ≤ 2001 := by
  obtain ⟨D, h1, h2, h3, h4⟩ := h
  obtain ⟨b, rfl, ok⟩ := br_view 4 D h3
  have wd := okW_of ok h3 h2
  have wd2 := okW_le (show 100 ≤ 1000 by decide) wd
  refine ⟨b, (brV_of b h1).off, ok, wd2, ?_⟩
  rw [← (br_ok ok wd).2]
  exact Nat.le_trans h4 bsz4
def spAsked (t : TbA) : Sp := fun vs H Q _ => ∃ (a d : Addr), vs = [.ref a] ∧ Hnd H a d ∧ TabsOk H t ∧ ∀ H', Q (.bl true) H'
theorem ok_asked {f : Addr} {fd : FuncData} {t : TbA} (D : Df K mg "_law_asked" s_law_asked ["hand"] f fd) (T : Txt K w mg cs) (c_law_take : Cl P w K mg base CX0 1 "_law_take" spTake) (c_law_string : Cl P w K mg base CX0 2 "_law_string" spString) (c_law_table : Cl P w K mg base CX0 3 "_law_table" (spTable K)) (c_law_parts : Cl P w K mg base CX0 2 "_law_parts" (spParts8 K))
    (c_law_breaker : Cl P w K mg base CX0 6 "_law_breaker" (spBr K 3)) (c_law_is_played : Cl P w K mg base CX0 41 "_law_is_played" (spPlayed K t 4)) : FnOk P w K mg base CX0 42 f fd ["hand"] (spAsked t) := by
  refine D.fn.ok sc_law_asked (fun vs H Q E h => ?_) (fun cdv A outer s H vs Q E hr h => ?_)
  · obtain ⟨a, d, rfl, _⟩ := h
    rfl
  · obtain ⟨a, d, rfl, hn, tt, q⟩ := h
    refine ⟨_, (pss_cons (ps_set (i := 1) sc_law_asked.nd rfl (.inl rfl) (pe_op op_add pe_int (pe_cl c_law_take hr (by first | decide | omega) (by rfl) (pa_cons (pv 0) (pa_cons pe_int pa_nil))))) (pss_cons (ps_set (i := 2) sc_law_asked.nd rfl (.inl rfl) (pe_cl c_law_table hr (by first | decide | omega) (by rfl) (pa_cons (pv 0) (pa_cons (pe_op op_add pe_int (pe_cl c_law_take hr (by first | decide | omega) (by rfl) (pa_cons (pv 0) (pa_cons pe_int pa_nil)))) (pa_cons (pv 1) pa_nil))))) (pss_cons (ps_for PassesOwn.never rfl (pi_list (pe_lst (pa_cons pe_bl (pa_cons pe_bl pa_nil)))) (pg_name (i := 3) sc_law_asked.nd rfl (.inl rfl)) (pss_cons (ps_set (i := 4) sc_law_asked.nd rfl (.inl rfl) (pe_cl c_law_breaker hr (by first | decide | omega) (by rfl) (pa_cons (pv 0) (pa_cons pe_int (pa_cons pe_int (pa_cons pe_int (pa_cons pe_int pa_nil))))))) (pss_cons (ps_if (pt_not (pt_val (pe_cl c_law_is_played hr (by first | decide | omega) (by rfl) (pa_cons (pe_tup (pa_cons pe_str (pa_cons (pv 2) (pa_cons (pe_cl c_law_string hr (by first | decide | omega) (by rfl) (pa_cons (pv 0) (pa_cons (pv 1) pa_nil))) (pa_cons (pv 3) (pa_cons (pe_cl c_law_take hr (by first | decide | omega) (by rfl) (pa_cons (pv 0) (pa_cons pe_int pa_nil))) pa_nil)))))) (pa_cons (pv 4) (pa_cons (pv 0) pa_nil)))))) (pss_one (ps_ret pe_bl)) pss_nil) (pss_cons (ps_set (i := 4) sc_law_asked.nd rfl (.inl rfl) (pe_ix (ixL K) (pe_lst (pa_cons (pv 4) (pa_cons (pe_tup (pa_cons pe_str (pa_cons (pe_cl c_law_parts hr (by first | decide | omega) (by rfl) (pa_cons (pv 0) (pa_cons pe_int pa_nil))) pa_nil))) pa_nil))) (pe_cl c_law_take hr (by first | decide | omega) (by rfl) (pa_cons (pv 0) (pa_cons pe_int pa_nil))) (fun _ _ => rfl))) (pss_one (ps_if (pt_not (pt_val (pe_cl c_law_is_played hr (by first | decide | omega) (by rfl) (pa_cons (pe_tup (pa_cons pe_str (pa_cons (pv 2) (pa_cons (pv 3) pa_nil)))) (pa_cons (pv 4) (pa_cons (pv 0) pa_nil)))))) (pss_one (ps_ret pe_bl)) pss_nil)))))) (pss_one (ps_ret pe_bl))))), ?_⟩
    refine ⟨_, rfl, a, d, 4, rfl, by decide, hn, fun r H1 r0 r1 h1 k1 => ⟨_, _, rfl, rfl, ?_⟩⟩
    obtain ⟨m, rfl⟩ : ∃ m : Nat, r = (m : Int) := ⟨r.toNat, by omega⟩
    dsimp only
    rw [show (1 : Int) + (m : Int) = ((1 + m : Nat) : Int) by omega]
    have t1 := tt.mono (k1.ktn hn).tb
    refine ⟨_, rfl, _, rfl, a, d, 3, rfl, by decide, h1, fun r2 H2 r20 r21 h2 k2 => ⟨_, _, rfl, rfl, ?_⟩⟩
    obtain ⟨n, rfl⟩ : ∃ n : Nat, r2 = (n : Int) := ⟨r2.toNat, by omega⟩
    dsimp only
    rw [show (1 : Int) + (n : Int) = ((1 + n : Nat) : Int) by omega]
    have t2 := t1.mono (k2.ktn h1).tb
    refine ⟨_, rfl, a, d, 1 + n, 1 + m, rfl, by omega, by omega, h2, fun tv rows H3 hr1 hr2 hdp h3 k3 => ?_⟩
    have t3 := t2.mono (k3.ktn h2).tb
    obtain ⟨blk, rr0, rfl, g1, g2⟩ := dp_tab hdp
    have gv : GenV K H3 blk (1 + n) (1 + m) rows := ⟨rr0, .of (same_sqt (off_same a H3) g1), .of (same_sqt (off_same a H3) g2), hr1, hr2, by omega, by omega⟩
    refine ⟨by show 2 ≤ sizeLine; decide, fun Rl nR => ⟨Rl, rfl, ⟨_, .inl (.inl upd_same)⟩, ?_⟩⟩
    have nRa : Rl ≠ a := (h3.ne nR).1
    refine for_list (xs := [V.bl true, V.bl false]) (fun i σ H' => ∃ y3 y4, σ = [some (.ref a), some (.int ((1 + m : Nat) : Int)), some (.ref blk), y3, y4] ∧ Hnd H' a d ∧ TabsOk H' t ∧ GenV K H' blk (1 + n) (1 + m) rows ∧ H' Rl = some (.lst [V.bl true, V.bl false])) ?_ ?_ ?_ ?_
    · have sR : Same H3 (upd H3 Rl (.lst [V.bl true, V.bl false])) := same_new nR
      exact ⟨_, _, rfl, h3.same sR, t3.mono (same_kp sR).tb, gv.kt (same_kp sR).kt h3, upd_same⟩
    · rintro i σ H' _ ⟨y3, y4, rfl, _, _, _, e⟩
      exact .inl (.inl e)
    · rintro i x σ H4 hx ⟨y3, y4, rfl, h4, t4, g4, e4⟩
      obtain ⟨real, rfl⟩ : ∃ real : Bool, x = .bl real := by
        match i, hx with
        | 0, hx => exact ⟨true, (Option.some.inj hx).symm⟩
        | 1, hx => exact ⟨false, (Option.some.inj hx).symm⟩
        | i + 2, hx => simp at hx
      refine ⟨_, rfl, a, d, 3, 1, 1, 1, rfl, by decide, by decide, by decide, h4, fun v H5 pb h5 k5 => ?_⟩
      obtain ⟨b, bb, b1, b2, bN⟩ := drawn_br pb
      have kt5 := k5.ktn h4
      have t5 := t4.mono kt5.tb
      have g5 := g4.kt kt5 h4
      have e5 := k5 _ _ e4 nRa
      -- opening
      refine ⟨_, rfl, _, rfl, _, rfl, a, d, 1 + m, rfl, by omega, h5, fun bs H6 hbs h6 k6 => ?_⟩
      have kt6 := k6.ktn h5
      have t6 := t5.mono kt6.tb
      have g6 := g5.kt kt6 h5
      have bb6 := bb.kt kt6 h5
      have e6 := k6 _ _ e5 nRa
      refine ⟨_, rfl, _, rfl, a, d, 2, rfl, by decide, h6, fun q2 H7 q20 q21 h7 k7 => ?_⟩
      have kt7 := k7.ktn h6
      have t7 := t6.mono kt7.tb
      have g7 := g6.kt kt7 h6
      have bb7 := bb6.kt kt7 h6
      have e7 := k7 _ _ e6 nRa
      refine ⟨by show 5 ≤ sizeLine; decide, fun gp ng => ?_⟩
      have s8 : Same H7 (upd H7 gp (.tup [.str "opening", .ref blk, .str (sb bs), .bl real, .int q2])) := same_new ng
      have h8 := h7.same s8
      have g8 := g7.kt (same_kp s8).kt h7
      have okG : GmOk2 ⟨false, 1 + n, 1 + m, rows, real, bs, q2⟩ := ⟨⟨by show 1 + n ≤ 19; omega, by show 1 ≤ 1 + m; omega, by show 1 + m ≤ 19; omega, fun _ => hbs⟩, by show 1 ≤ 1 + n; omega, by show 1 + n ≤ 10; omega, by show q2 = 0 ∨ q2 = 1; omega⟩
      refine ⟨_, rfl, _, rfl, gp, a, d, v, b, ⟨false, 1 + n, 1 + m, rows, real, bs, q2⟩, rfl, ⟨h8, t7.mono (same_kp s8).tb, ⟨blk, g8, .inl upd_same⟩, bb7.kt (same_kp s8).kt h7⟩, okG, b1, b2, by decide, bN, fun H9 kt9 h9 => ⟨_, rfl, ?_⟩⟩
      show (if false = true then _ else _)
      rw [if_neg Bool.false_ne_true]
      have t9 := (t7.mono (same_kp s8).tb).mono kt9.tb
      have g9 := g8.kt kt9 h8
      have bb9 := (bb7.kt (same_kp s8).kt h7).kt kt9 h8
      have e9 := kt9.all _ _ (s8 _ _ e7) nRa (fun _ z => by cases z) (fun _ z => by cases z)
      -- another breaker
      refine ⟨_, rfl, _, rfl, a, d, 1, rfl, by decide, h9, fun pp ds H10 hpa epp ppa hok hdl h10 k10 => ?_⟩
      have kt10 := k10.ktn h9
      have t10 := t9.mono kt10.tb
      have g10 := g9.kt kt10 h9
      have bb10 := bb9.kt kt10 h9
      have e10 := k10 _ _ e9 nRa
      refine ⟨by show 2 ≤ sizeLine; decide, fun sp nsp => ⟨by show 2 ≤ sizeLine; decide, fun bl nbl => ?_⟩⟩
      have s11 : Same H10 (upd (upd H10 sp (.tup [.str "say", .ref pp])) bl (.lst [v, .ref sp])) := (same_new nsp).trans (same_new nbl)
      have e11p := s11 _ _ epp
      have e11s : upd (upd H10 sp (.tup [.str "say", .ref pp])) bl (.lst [v, .ref sp]) sp = some (.tup [.str "say", .ref pp]) := (same_new nbl) _ _ upd_same
      have e11b : upd (upd H10 sp (.tup [.str "say", .ref pp])) bl (.lst [v, .ref sp]) bl = some (.lst [v, .ref sp]) := upd_same
      have nbla : bl ≠ a := (h10.new (o := .tup [.str "say", .ref pp]) nsp).ne nbl |>.1
      revert s11 e11p e11s e11b
      generalize upd (upd H10 sp (.tup [.str "say", .ref pp])) bl (.lst [v, .ref sp]) = H11
      intro s11 e11p e11s e11b
      have h11 := h10.same s11
      have t11 := t10.mono (same_kp s11).tb
      have g11 := g10.kt (same_kp s11).kt h10
      have bb11 := bb10.kt (same_kp s11).kt h10
      have e11 := s11 _ _ e10
      obtain ⟨ps, eps, hps⟩ := parts_inv (p := .tuple ds.2) (List.all_eq_true.mpr fun x hx => (hok x hx).1)
      have eds : ds.2 = ps.map paD := PyData.tuple.inj eps
      have ews : ds.1 = ps.map paV := by
        have hpa2 := hpa
        rw [eds] at hpa2
        exact ps_of hpa2
      have lps : ps.length ≤ 1000 := by
        have l := congrArg List.length eds
        rw [List.length_map] at l
        omega
      have bs11 : BrV K H11 (.say ps) (.ref sp) := by
        unfold BrV
        exact ⟨sp, pp, rfl, .inl e11s, by rw [← ews]; exact .inl e11p⟩
      refine ⟨_, rfl, a, d, 2, rfl, by decide, h11, fun q3 H12 q30 q31 h12 k12 => ?_⟩
      have kt12 := k12.ktn h11
      have t12 := t11.mono kt12.tb
      have g12 := g11.kt kt12 h11
      have e12 := k12 _ _ e11 nRa
      obtain ⟨v2, br2, ev2, bb12, o1, o2, o3⟩ : ∃ v2 br2, atI [v, .ref sp] q3 = some v2 ∧ BrV K H12 br2 v2 ∧ okB 4 br2 ∧ okW 1000 4 br2 ∧ nB br2 ≤ 2001 := by
        have e : q3 = 0 ∨ q3 = 1 := by omega
        rcases e with rfl | rfl
        · exact ⟨v, b, rfl, bb11.kt kt12 h11, b1, b2, bN⟩
        · exact ⟨.ref sp, .say ps, rfl, bs11.kt kt12 h11, hps, lps, by show 1 ≤ 2001; decide⟩
      refine ⟨bl, _, _, v2, rfl, rfl, .inl (.inl (k12 _ _ e11b nbla)), ev2, ?_⟩
      -- next
      refine ⟨_, rfl, _, rfl, by show 3 ≤ sizeLine; decide, fun gn nn => ?_⟩
      have s13 : Same H12 (upd H12 gn (.tup [.str "next", .ref blk, .bl real])) := same_new nn
      have h13 := h12.same s13
      have g13 := g12.kt (same_kp s13).kt h12
      have okN : GmOk2 ⟨true, 1 + n, 1 + m, rows, real, [], 0⟩ := ⟨⟨by show 1 + n ≤ 19; omega, by show 1 ≤ 1 + m; omega, by show 1 + m ≤ 19; omega, fun z => by cases z⟩, by show 1 ≤ 1 + n; omega, by show 1 + n ≤ 10; omega, .inl rfl⟩
      refine ⟨_, rfl, _, rfl, gn, a, d, v2, br2, ⟨true, 1 + n, 1 + m, rows, real, [], 0⟩, rfl, ⟨h13, t12.mono (same_kp s13).tb, ⟨blk, g13, .inl upd_same⟩, bb12.kt (same_kp s13).kt h12⟩, okN, o1, o2, by decide, o3, fun H14 kt14 h14 => ⟨_, rfl, ?_⟩⟩
      show (if false = true then _ else _)
      rw [if_neg Bool.false_ne_true]
      exact ⟨_, _, rfl, h14, (t12.mono (same_kp s13).tb).mono kt14.tb, g13.kt kt14 h13, kt14.all _ _ (s13 _ _ e12) nRa (fun _ z => by cases z) (fun _ z => by cases z)⟩
    · rintro σ H4 ⟨y3, y4, rfl, h4, t4, g4, e4⟩
      exact q _
end

end
section
section
variable {P : Program} {w : World} {K : PySem.W.Frag} {mg : Str → Option Value} {base : Heap} {cs : Cs}
def spLawT (K : PySem.W.Frag) (t : TbA) : Sp := fun vs H Q _ => ∃ (a : Addr) (ns : List Int), vs = [.ref a] ∧ SqL K H a (ns.map V.int) ∧ ns.length ≤ 63 ∧ TabsOk H t ∧ ∀ H', Q (.bl true) H'
theorem ok_law13 {f : Addr} {fd : FuncData} {t : TbA} (F : Fun K "law" "law" s_law f fd) (T : Txt K w mg cs) (c_law_draws : Cl P w K mg base CX0 1 "_law_draws" (spDraws K)) (c_law_asked : Cl P w K mg base CX0 42 "_law_asked" (spAsked t)) : FnOk P w K mg base CX0 43 f fd ["script"] (spLawT K t) := by
  refine F.ok sc_law (fun vs H Q E h => ?_) (fun cdv A outer s H vs Q E hr h => ?_)
  · obtain ⟨a, ns, rfl, _⟩ := h
    rfl
  · obtain ⟨a, ns, rfl, hS, hl, tt, q⟩ := h
    refine ⟨_, (pss_one (ps_try_many (Wout := fun _ _ _ _ => False) rfl rfl takes0 (fun W pn xe tk _ => (pss_one (ps_ret (pe_cl c_law_asked hr (by first | decide | omega) (by rfl) (pa_cons (pe_lst (pa_cons (pe_cl c_law_draws hr (by first | decide | omega) (by rfl) (pa_cons (pv 0) (pa_cons pe_int pa_nil))) (pa_cons pe_int pa_nil))) pa_nil))))) (HdsOk.cons ⟨rfl, by decide, .inl T.gl_BreakError⟩ (fun a oe cls d pn hz hf => (pss_one (ps_ret pe_bl))) HdsOk.nil))), ?_⟩
    refine ⟨_, rfl, a, ns, 360, rfl, hS, hl, by decide, fun p ds H1 np s1 e1 h0 => ⟨by show 2 ≤ sizeLine; decide, fun hp nhp => ?_⟩⟩
    have s2 : Same H1 (upd H1 hp (.lst [.ref p, .int 0])) := same_new nhp
    exact ⟨hp, p, rfl, ⟨ds, 0, upd_same, s2 _ _ e1, h0, ne_of_none e1 nhp⟩, (tt.mono (same_kp s1).tb).mono (same_kp s2).tb, q⟩
end

end
section
section
variable {P : Program} {w : World} {K : PySem.W.Frag} {mg : Str → Option Value} {base : Heap} {cs : Cs}
theorem kb2 {x qual : Str} {st : Stmt} {f : Addr} {fd : FuncData} {ps ks : List Str} (F : Fun K x qual st f fd)
    (h : ∀ (kV doc pm : Value) (an : Option Addr) (cdv ct : Value) (us ws : List Value), us.length = 0 → ws.length = ks.length → bindArgs (PySem.W.fnOf x qual (defArgs st) (defBody st) (defScope st) .none kV doc pm an cdv ct) ⟨us, ks.zip ws⟩ = pure (ps.zip ws.reverse)) :
    KBn K fd ps 0 ks (fun _ ws => ws.reverse) (fun _ zs => zs.reverse) := Fun.kb F 0 h (fun _ r => Vals.rev r)
theorem mk_law {t : TbA} {tu : Addr} {f1 f2 f3 f4 f5 f6 f7 f8 f9 f10 f11 f12 f13 f14 f15 f16 f17 f18 f19 f20 f21 f22 f23 f24 f25 f26 f27 f28 f29 f30 f31 f32 f33 f34 f35 f36 f37 f38 f39 f40 f41 f42 f43 f44 f45 f46 f47 f48 f49 f50 f51 f52 f53 f54 f55 f56 f57 f58 f59 f60 f61 f62 f63 f64 f : Addr} {d1 d2 d3 d4 d5 d6 d7 d8 d9 d10 d11 d12 d13 d14 d15 d16 d17 d18 d19 d20 d21 d22 d23 d24 d25 d26 d27 d28 d29 d30 d31 d32 d33 d34 d35 d36 d37 d38 d39 d40 d41 d42 d43 d44 d45 d46 d47 d48 d49 d50 d51 d52 d53 d54 d55 d56 d57 d58 d59 d60 d61 d62 d63 d64 fd : FuncData} {c_contest c_serve c_after c_run_plain c_opening_game c_draw_row c_draw_bits c_next_game c_guesses_bit c_run : Addr} (T : Txt K w mg cs) (PC : PlayC K cs.Play) (PI : PlayI K cs.Play)
    (D_draw : Df K mg "draw" s_draw ["many", "then"] f1 d1)
    (D_end : Df K mg "end" s_end ["value"] f2 d2)
    (D_ask : Df K mg "ask" s_ask ["string", "then"] f3 d3)
    (D_bits : Df K mg "bits" s_bits ["length", "number"] f4 d4)
    (D_draw_bits : Df K mg "draw_bits" s_draw_bits ["length", "then"] f5 d5)
    (hc_draw_bits : d5.code = .ref c_draw_bits) (TB_draw_bits : LamX.TabB base mg c_draw_bits t.tb)
    (D_draw_row : Df K mg "draw_row" s_draw_row ["block", "real", "then"] f6 d6)
    (hc_draw_row : d6.code = .ref c_draw_row) (TB_draw_row : LamX.TabB base mg c_draw_row t.tr)
    (D_after : Df K mg "after" s_after ["process", "onward"] f7 d7)
    (hc_after : d7.code = .ref c_after) (TB_after : LamX.TabB base mg c_after t.ta)
    (D_told : Df K mg "told" s_told ["then", "reply"] f8 d8)
    (D_serve : Df K mg "serve" s_serve ["process", "state", "answer", "finish"] f9 d9)
    (hc_serve : d9.code = .ref c_serve) (TB_serve : LamX.TabB base mg c_serve t.ts)
    (D_outcome : Df K mg "outcome" s_outcome ["won"] f10 d10)
    (D_bit_of : Df K mg "bit_of" s_bit_of ["seen", "number"] f11 d11)
    (D_made_of : Df K mg "made_of" s_made_of ["parts", "seen"] f12 d12)
    (D_run_plain : Df K mg "run_plain" s_run_plain ["breaker", "seen"] f13 d13)
    (hc_run_plain : d13.code = .ref c_run_plain) (TB_run_plain : LamX.TabB base mg c_run_plain t.tp)
    (D_run : Df K mg "run" s_run ["breaker", "challenge"] f14 d14)
    (hc_run : d14.code = .ref c_run) (TB_run : LamX.TabB base mg c_run tu)
    (D_no_answer : Df K mg "no_answer" s_no_answer ["state", "_"] f15 d15)
    (D_said_one : Df K mg "said_one" s_said_one ["state", "asked", "said"] f16 d16)
    (D_guess_of : Df K mg "guess_of" s_guess_of ["said"] f17 d17)
    (D_hint : Df K mg "hint" s_hint ["row", "place"] f18 d18)
    (D_guesses_bit : Df K mg "guesses_bit" s_guesses_bit ["bit"] f19 d19)
    (hc_guesses_bit : d19.code = .ref c_guesses_bit) (TB_guesses_bit : LamX.TabB base mg c_guesses_bit t.tg)
    (D_number_of : Df K mg "number_of" s_number_of ["string"] f20 d20)
    (D_xor : Df K mg "xor" s_xor ["first", "second"] f21 d21)
    (D_opening_game : Df K mg "opening_game" s_opening_game ["parts", "meet"] f22 d22)
    (hc_opening_game : d22.code = .ref c_opening_game) (TB_opening_game : LamX.TabB base mg c_opening_game t.to_)
    (D_next_game : Df K mg "next_game" s_next_game ["parts", "meet"] f23 d23)
    (hc_next_game : d23.code = .ref c_next_game) (TB_next_game : LamX.TabB base mg c_next_game t.tn)
    (D_contest : Df K mg "contest" s_contest ["game", "breaker"] f24 d24)
    (hc_contest : d24.code = .ref c_contest) (TB_contest : LamX.TabB base mg c_contest t.tc)
    (D_is_whole : Df K mg "is_whole" s_is_whole ["value", "low", "high"] f25 d25)
    (D_are_rows : Df K mg "are_rows" s_are_rows ["value", "many", "m"] f26 d26)
    (D_is_generator : Df K mg "is_generator" s_is_generator ["value"] f27 d27)
    (D_is_function : Df K mg "is_function" s_is_function ["value"] f28 d28)
    (D_fits : Df K mg "fits" s_fits ["value", "told", "game"] f29 d29)
    (D_check_game : Df K mg "check_game" s_check_game ["game"] f30 d30)
    (D_are_numbers : Df K mg "are_numbers" s_are_numbers ["own", "bounds"] f31 d31)
    (D_fits_longer : Df K mg "fits_longer" s_fits_longer ["own"] f32 d32)
    (D_fits_tree : Df K mg "fits_tree" s_fits_tree ["own"] f33 d33)
    (D_fits_opening : Df K mg "fits_opening" s_fits_opening ["own"] f34 d34)
    (D_fits_onetime : Df K mg "fits_onetime" s_fits_onetime ["own"] f35 d35)
    (D_is_made : Df K mg "is_made" s_is_made ["value"] f36 d36)
    (D_fits_kind : Df K mg "fits_kind" s_fits_kind ["made"] f37 d37)
    (D_is_part : Df K mg "is_part" s_is_part ["value"] f38 d38)
    (D_are_parts : Df K mg "are_parts" s_are_parts ["value"] f39 d39)
    (D_looks_plain : Df K mg "looks_plain" s_looks_plain ["value"] f40 d40)
    (D_directly_within : Df K mg "directly_within" s_directly_within ["plain"] f41 d41)
    (D_is_plain_breaker : Df K mg "is_plain_breaker" s_is_plain_breaker ["value"] f42 d42)
    (D_check_breaker : Df K mg "check_breaker" s_check_breaker ["breaker"] f43 d43)
    (D_init_Play : Fun K "__init__" "Play.__init__" s_init_Play f44 d44) (m_Play : FnOk P w K mg base CX0 1 f44 d44 ["self", "outcome", "said", "draws", "asked"] (spInitPlay cs.Play) → C8.Mak P w K mg base 1 "Play" cs.Play (spInitPlay cs.Play) [])
    (D_play : Df K mg "play" s_play ["game", "breaker", "choices"] f45 d45)
    (D__law_draws : Df K mg "_law_draws" s_law_draws ["script", "many"] f46 d46)
    (D__law_take : Df K mg "_law_take" s_law_take ["hand", "many"] f47 d47)
    (D__law_string : Df K mg "_law_string" s_law_string ["hand", "length"] f48 d48)
    (D__law_table : Df K mg "_law_table" s_law_table ["hand", "n", "m"] f49 d49)
    (D__law_parts : Df K mg "_law_parts" s_law_parts ["hand", "length"] f50 d50)
    (D__law_bits : Df K mg "_law_bits" s_law_bits ["length", "number"] f51 d51)
    (D__law_breaker : Df K mg "_law_breaker" s_law_breaker ["hand", "depth", "asks", "length", "said"] f52 d52)
    (D__law_made : Df K mg "_law_made" s_law_made ["parts", "handed"] f53 d53)
    (D__law_choice : Df K mg "_law_choice" s_law_choice ["state", "many"] f54 d54)
    (D__law_any : Df K mg "_law_any" s_law_any ["state", "length"] f55 d55)
    (D__law_xor : Df K mg "_law_xor" s_law_xor ["first", "second"] f56 d56)
    (D__law_row : Df K mg "_law_row" s_law_row ["state", "table", "real"] f57 d57)
    (D__law_start : Df K mg "_law_start" s_law_start ["game", "state"] f58 d58)
    (D__law_reply : Df K mg "_law_reply" s_law_reply ["game", "state", "ask_v"] f59 d59)
    (D__law_end : Df K mg "_law_end" s_law_end ["game", "state", "said"] f60 d60)
    (D__law_run : Df K mg "_law_run" s_law_run ["game", "breaker", "row"] f61 d61)
    (D__law_same_play : Df K mg "_law_same_play" s_law_same_play ["told_v", "due"] f62 d62)
    (D__law_is_played : Df K mg "_law_is_played" s_law_is_played ["game", "breaker", "hand"] f63 d63)
    (D__law_asked : Df K mg "_law_asked" s_law_asked ["hand"] f64 d64)
    (F : Fun K "law" "law" s_law f fd) : FnOk P w K mg base CX0 43 f fd ["script"] (spLawT K t) := by
  have c_draw : Cl P w K mg base CX0 1 "draw" spDraw := D_draw.cl (ok_draw D_draw)
  have c_end : Cl P w K mg base CX0 1 "end" spEnd := D_end.cl (ok_end D_end)
  have c_ask : Cl P w K mg base CX0 1 "ask" spAsk := D_ask.cl (ok_ask D_ask)
  have o_bits := ok_bits (P := P) (w := w) (base := base) D_bits T
  have c_bits : Cl P w K mg base CX0 1 "bits" spBits := D_bits.cl o_bits
  have c_bitsT : Cl P w K mg base CX0 1 "bits" (spBitsT bitS) := D_bits.cl (o_bits.imp fun vs H Q E ⟨l, i, e, h1, h2, q⟩ => ⟨l, i, e, by omega, h2, q⟩)
  have c_outcome : Cl P w K mg base CX0 2 "outcome" spOutcome := D_outcome.cl (ok_outcome D_outcome c_end)
  have c_draw_bits : Cl P w K mg base CX0 2 "draw_bits" (spDrawBits P w K mg base t.tb bitS (RRes K) 14 22) := D_draw_bits.cl (ok_draw_bits D_draw_bits hc_draw_bits TB_draw_bits c_draw c_bitsT RRes.stay (by decide) (by decide))
  have c_draw_row : Cl P w K mg base CX0 3 "draw_row" (spDrawRow P w K mg base t.tr t.tb bitS (RRes K) 14 22) := D_draw_row.cl (ok_draw_row D_draw_row hc_draw_row TB_draw_row c_draw c_draw_bits RRes.stay (by decide) (by decide))
  have c_told : Cl P w K mg base CX0 5 "told" (spTold P w K mg base RStr False "" 4) := D_told.cl (ok_told (k_then := 4) (NN := False) D_told c_end (fun z => False.elim z))
  have c_serve : Cl P w K mg base CX0 12 "serve" (fun vs H Q E => ∃ p : Pr Str, spServe P w K mg base RStr (RRes K) (SHeld K SNone) False t.ts t.ta "" 4 11 11 21 22 p vs H Q E) := D_serve.cl (FnOk.ex (ok_serve (kS := 11) D_serve hc_serve TB_serve D_after hc_after TB_after c_draw c_told RStr.stay RRes.stay (SHeld.stay SNone.stay) (by decide) (by decide)))
  have c_bit_of : Cl P w K mg base CX0 1 "bit_of" spBitOf := D_bit_of.cl (ok_bit_of D_bit_of T)
  have c_made_of : Cl P w K mg base CX0 2 "made_of" (spMadeOf K) := D_made_of.cl (ok_made_of D_made_of T c_bit_of)
  have c_run_plain : Cl P w K mg base CX0 3 "run_plain" (spRun P w K mg base t.tp 4 4) := D_run_plain.cl (ok_run_plain D_run_plain hc_run_plain TB_run_plain T c_bit_of c_made_of c_end c_draw c_ask (by decide) 4)
  have c_run : Cl P w K mg base CX0 4 "run" (spRun P w K mg base t.tp 4 4) := D_run.cl (ok_run (k_lead := 3) D_run hc_run TB_run T c_run_plain (by decide))
  have k_no := ok_no_answer (P := P) (w := w) (base := base) (La := 20) SNone.stay D_no_answer c_end
  have k_one := ok_said_one (P := P) (w := w) (base := base) (S := SNone) (Lj := 20) D_said_one c_outcome
  have c_guess := D_guess_of.cl (ok_guess_of (P := P) (w := w) (base := base) D_guess_of)
  have c_hint : Cl P w K mg base CX0 1 "hint" spHint := D_hint.cl (ok_hint D_hint T)
  have c_guesses_bit : Cl P w K mg base CX0 1 "guesses_bit" (spGuesses P w K mg base t.tg SNone 20) := D_guesses_bit.cl (ok_guesses_bit D_guesses_bit hc_guesses_bit TB_guesses_bit c_outcome c_guess)
  have c_xor : Cl P w K mg base CX0 2 "xor" spXor := D_xor.cl (ok_xor D_xor T c_bits (D_number_of.cl (ok_number D_number_of T)))
  have k_opening : FnOk P w K mg base CX0 4 f22 d22 ["parts", "meet"] (fun vs H Q E => ∃ br, spOpening P w K mg base t.to_ t.tr t.tb 22 br vs H Q E) := FnOk.ex fun br => ok_opening_game D_opening_game hc_opening_game TB_opening_game rfl c_xor c_draw_row D_no_answer D_said_one k_no k_one
  have k_next : FnOk P w K mg base CX0 2 f23 d23 ["parts", "meet"] (fun vs H Q E => ∃ br, spNext P w K mg base t.tn t.tr t.tb t.tg 22 br vs H Q E) := FnOk.ex fun br => ok_next_game D_next_game hc_next_game TB_next_game rfl c_draw c_hint c_guesses_bit c_draw_row D_no_answer k_no (by decide)
  have c_con_opening : Cl P w K mg base CX0 5 "contest" (spContest P w K mg base SNone t.tc t.ts t.ta t.tp 22 4 "opening" _) := D_contest.cl (ok_contest D_contest hc_contest TB_contest T SNone.stay D_after hc_after TB_after c_end (by decide) (by decide) c_run c_serve D_opening_game k_opening rfl (by decide))
  have c_con_next : Cl P w K mg base CX0 3 "contest" (spContest P w K mg base SNone t.tc t.ts t.ta t.tp 22 4 "next" _) := D_contest.cl (ok_contest D_contest hc_contest TB_contest T SNone.stay D_after hc_after TB_after c_end (by decide) (by decide) c_run c_serve D_next_game k_next rfl (by decide))
  have c_is_whole : Cl P w K mg base CX0 1 "is_whole" (spWhole K) := D_is_whole.cl (ok_whole D_is_whole T)
  have c_rows : Cl P w K mg base CX0 1 "are_rows" (spRows K) := D_are_rows.cl (ok_rows D_are_rows T)
  have c_gen : Cl P w K mg base CX0 2 "is_generator" (spD K genOk) := D_is_generator.cl (ok_gen D_is_generator T c_is_whole c_rows)
  have c_genG : Cl P w K mg base CX0 2 "is_generator" (spGen K) := D_is_generator.cl ((ok_gen D_is_generator T c_is_whole c_rows).imp fun vs H Q E ⟨v, d, n, e, h1, h2, _, q⟩ => ⟨v, d, n, e, h1, h2, q⟩)
  have c_fun : Cl P w K mg base CX0 2 "is_function" (spFun K) := D_is_function.cl (ok_fun D_is_function T c_is_whole c_rows)
  have c_fits : Cl P w K mg base CX0 3 "fits" (spFits K) := D_fits.cl (ok_fits D_fits T c_is_whole c_rows c_genG c_fun)
  have c_checkg : Cl P w K mg base (L2.CX P w) 4 "check_game" (spCheckGame K) := D_check_game.cl (ok_check_game D_check_game T c_fits)
  have c_nums : Cl P w K mg base CX0 2 "are_numbers" (spNums K) := D_are_numbers.cl (ok_numbers D_are_numbers T c_is_whole)
  have c_l : Cl P w K mg base CX0 3 "fits_longer" (spOwn K fitLonger) := D_fits_longer.cl (ok_longerF D_fits_longer T c_is_whole c_gen)
  have c_t : Cl P w K mg base CX0 3 "fits_tree" (spOwn K fitTree) := D_fits_tree.cl (ok_treeF D_fits_tree T c_is_whole c_gen)
  have c_o : Cl P w K mg base CX0 3 "fits_opening" (spOwn K fitOpening) := D_fits_opening.cl (ok_openingF D_fits_opening T c_rows)
  have c_1 : Cl P w K mg base CX0 3 "fits_onetime" (spOwn K fitOnetime) := D_fits_onetime.cl (ok_onetimeF D_fits_onetime T c_is_whole c_gen)
  have c_made : Cl P w K mg base CX0 1 "is_made" (spD K madeD) := D_is_made.cl (ok_made D_is_made T)
  have c_kind : Cl P w K mg base CX0 4 "fits_kind" (spKind K) := D_fits_kind.cl (ok_kind D_fits_kind T c_nums fun f sp h => by
    rcases h with ⟨e, rfl⟩ | ⟨e, rfl⟩ | ⟨e, rfl⟩ | ⟨e, rfl⟩
    · exact held_of c_l e
    · exact held_of c_t e
    · exact held_of c_o e
    · exact held_of c_1 e)
  have c_parts : Cl P w K mg base CX0 3 "are_parts" (spD K partsOk) := D_are_parts.cl (ok_parts D_are_parts T (D_is_part.cl (ok_part D_is_part T c_is_whole)))
  have c_looks : Cl P w K mg base CX0 4 "looks_plain" (spD K looksOk) := D_looks_plain.cl (ok_looks D_looks_plain T c_is_whole c_parts)
  have c_kids : Cl P w K mg base CX0 1 "directly_within" (spKids K) := D_directly_within.cl (ok_kids D_directly_within T)
  have c_plain : Cl P w K mg base CX0 5 "is_plain_breaker" (spD K plainOk) := D_is_plain_breaker.cl (ok_plainB D_is_plain_breaker T c_looks c_kids)
  have c_check : Cl P w K mg base (L2.CX P w) 6 "check_breaker" (spCheckB K cs.BadBreaker) := D_check_breaker.cl (ok_checkB D_check_breaker T c_made c_kind c_plain)
  have mP := m_Play (ok_init_play D_init_Play PC)
  have o_play := play_law (ok_play D_play T c_checkg c_check c_is_whole c_con_opening mP rfl (by decide) (by decide)) (ok_play D_play T c_checkg c_check c_is_whole c_con_next mP rfl (by decide) (by decide))
  have c_play : Cl P w K mg base (L2.CX P w) 40 "play" (spPlayL K t 4 cs.Play) := D_play.cl o_play
  have k_play : Ck P w K mg base (L2.CX P w) 40 0 "play" ["choices", "breaker", "game"] (fun _ zs => zs.reverse) (spPlayL K t 4 cs.Play) := ⟨_, _, _, _, o_play, D_play.gl, D_play.fn.kp, kb2 D_play.fn (fun _ _ _ _ _ _ us ws hu hw => match us, ws, hu, hw with | [], [_, _, _], _, _ => rfl)⟩
  have c_take : Cl P w K mg base CX0 1 "_law_take" spTake := D__law_take.cl (ok_take D__law_take T)
  have c_string : Cl P w K mg base CX0 2 "_law_string" spString := D__law_string.cl (ok_string D__law_string T c_take)
  have c_table : Cl P w K mg base CX0 3 "_law_table" (spTable K) := D__law_table.cl (ok_table D__law_table T c_string)
  have c_lparts : Cl P w K mg base CX0 2 "_law_parts" (spParts8 K) := D__law_parts.cl (ok_lawparts D__law_parts T c_take)
  have c_br : Cl P w K mg base CX0 6 "_law_breaker" (spBr K 3) := D__law_breaker.cl (ok_br D__law_breaker T c_take c_lparts 3)
  have c_choice : Cl P w K mg base CX0 1 "_law_choice" (spChoice K) := D__law_choice.cl (ok_choice D__law_choice T)
  have c_any : Cl P w K mg base CX0 2 "_law_any" (spAny K) := D__law_any.cl (ok_any D__law_any T (D__law_bits.cl (ok_lawbitsS D__law_bits T)) c_choice)
  have c_row : Cl P w K mg base CX0 3 "_law_row" (spLRow K) := D__law_row.cl (ok_law_row D__law_row T c_choice c_any)
  have c_start : Cl P w K mg base CX0 4 "_law_start" (spStart K) := D__law_start.cl (ok_start D__law_start T c_choice c_row (D__law_xor.cl (ok_law_xor D__law_xor T)))
  have c_run : Cl P w K mg base CX0 5 "_law_run" (spLRun K) := D__law_run.cl (ok_law_run D__law_run T c_start c_choice (D__law_made.cl (ok_law_made D__law_made T)) (D__law_reply.cl (ok_reply D__law_reply T)) (D__law_end.cl (ok_end13 D__law_end T)))
  have c_played : Cl P w K mg base CX0 41 "_law_is_played" (spPlayed K t 4) := D__law_is_played.cl (ok_played D__law_is_played T c_take c_run (D__law_same_play.cl (ok_same D__law_same_play T PC PI)) c_play k_play)
  have c_asked : Cl P w K mg base CX0 42 "_law_asked" (spAsked t) := D__law_asked.cl (ok_asked D__law_asked T c_take c_string c_table c_lparts c_br c_played)
  exact ok_law13 F T (D__law_draws.cl (ok_draws D__law_draws T)) c_asked
end

end
section
/-! ### the dicts of games, read off the written part -/
def strB (u : Value) (z : Str) : Bool := match u with
  | .str x _ => decide (x = z)
  | _ => false
theorem strB_ok {u : Value} {z : Str} (h : strB u z = true) : RelV (.str z) u := by
  unfold strB at h
  split at h
  · rename_i x t
    rw [← of_decide_eq_true h]
    exact ⟨_, rfl⟩
  · cases h
def relB (u : Value) : V → Bool
  | .str z => strB u z
  | .int i => intB u i
  | _ => false
theorem relB_ok {u : Value} : ∀ {v : V}, relB u v = true → RelV v u
  | .str z, h => strB_ok h
  | .int i, h => intB_ok h
def relsB : List Value → List V → Bool
  | [], [] => true
  | u :: us, v :: vs => relB u v && relsB us vs
  | _, _ => false
theorem relsB_ok : ∀ {us : List Value} {vs : List V}, relsB us vs = true → Vals vs us
  | [], [], _ => .nil
  | [], _ :: _, h => by cases h
  | _ :: _, [], h => by cases h
  | u :: us, v :: vs, h => by
    have h' : (relB u v && relsB us vs) = true := h
    rw [Bool.and_eq_true] at h'
    exact .cons (relB_ok h'.1) (relsB_ok h'.2)
def seqB (K : PySem.W.Frag) (u : Value) (vs : List V) : Bool := match u with
  | .ref a => (match K.lookup a with
    | some ⟨.type c, _, .seq its _, _⟩ => decide (c = "tuple") && (decide (its.toList.length ≤ 100) && relsB its.toList vs)
    | _ => false)
  | _ => false
theorem seqB_ok {K : PySem.W.Frag} {u : Value} {vs : List V} (h : seqB K u vs = true) : ∃ a, u = .ref a ∧ ∀ H, SqT K H a vs := by
  unfold seqB at h
  split at h
  · rename_i a
    refine ⟨a, rfl, ?_⟩
    split at h
    · rename_i c dd its n sl e
      rw [Bool.and_eq_true, Bool.and_eq_true, decide_eq_true_eq, decide_eq_true_eq] at h
      obtain ⟨rfl, hl, h⟩ := h
      have hs : its.size ≤ sizeLine := by
        rw [← Array.length_toList, sizeLine_eq]
        omega
      exact fun H => .inr ⟨_, its, n, e, rfl, rfl, hs, relsB_ok h⟩
    · cases h
  · cases h
/-- the value is what the top gives this name -/
def glB (K : PySem.W.Frag) (x : Str) (u : Value) : Bool := match u with
  | .ref f => (match PySem.W.nsIn K mainGlobals x with
    | some (some (.ref g)) => f == g
    | _ => false)
  | _ => false
theorem glB_ok {K : PySem.W.Frag} {h : Heap} {mg : Str → Option Value} {x : Str} {u : Value} (X : K.In h) (G : h.Ns mainGlobals mg) (e : glB K x u = true) : ∃ f, u = .ref f ∧ mg x = some (.ref f) := by
  unfold glB at e
  split at e
  · rename_i f
    refine ⟨f, rfl, ?_⟩
    split at e
    · rename_i g hg
      rw [eq_of_beq e]
      exact PySem.W.mg_of X G hg
    · cases e
  · cases e
def keysB (p : Str → Value → Bool) : List DictEntry → List Str → Bool
  | [], [] => true
  | e :: es, k :: ks => (match e.key with
    | .str x _ => decide (x = k)
    | _ => false) && (p k e.val && keysB p es ks)
  | _, _ => false
theorem keysB_ok {p : Str → Value → Bool} {R : Str → Value → Prop} (hp : ∀ z u, p z u = true → R z u) : ∀ {es : List DictEntry} {ks : List Str}, keysB p es ks = true → KeysAre R es ks
  | [], [], _ => .nil
  | [], _ :: _, h => by cases h
  | _ :: _, [], h => by cases h
  | e :: es, k :: ks, h => by
    have h' : ((match e.key with
      | .str x _ => decide (x = k)
      | _ => false) && (p k e.val && keysB p es ks)) = true := h
    rw [Bool.and_eq_true, Bool.and_eq_true] at h'
    obtain ⟨h1, h2, h3⟩ := h'
    split at h1
    · rename_i x t ek
      rw [of_decide_eq_true h1] at ek
      exact .cons ek (hp _ _ h2) (keysB_ok hp h3)
    · cases h1
def partB (K : PySem.W.Frag) (z : Str) (u : Value) : Bool := seqB K u ((partsOf z).map V.str)
def boundB (K : PySem.W.Frag) (z : Str) (u : Value) : Bool := seqB K u [.int (boundOf z).1, .int (boundOf z).2]
theorem part_has {K : PySem.W.Frag} : HasV (partR K) := fun z u ⟨a, e, _⟩ => ⟨.ref a, e⟩
theorem bound_has {K : PySem.W.Frag} : HasV (boundR K) := fun z u ⟨a, e, _⟩ => ⟨.ref a, e⟩
theorem rule_has {mg : Str → Option Value} : HasV (ruleR mg) := fun z u ⟨a, e, _⟩ => ⟨.ref a, e⟩
theorem lead_has {mg : Str → Option Value} : HasV (leadR mg) := fun z u ⟨a, e, _⟩ => ⟨.ref a, e⟩


end
end My
/-! ### the end by one kernel run: what the top leaves is looked at by one Bool, by the defs' own texts and by the dicts' keys -/
namespace Hz
open PySem PySem.Spec PyProof.Rows L2 He
def dEs (K : PySem.W.Frag) (x : Str) : List DictEntry := match K.lookup (ga K x) with
  | some ⟨_, _, .dict es _, _⟩ => es.toList
  | _ => []
abbrev Al : Type := Bool × List FnV × List (Option (List (Option (Str × Int))))
section
variable (as : List Addr) (fa : List Fa) (fn : List FnD) (ts : List (Str × List Str)) (tf : List Defn) (ex : PySem.W.Frag → Bool)
def bz (g : Addr → Option Obj) (K : PySem.W.Frag) : Bool := (fa.all fun f => f.ok K) && ((fn.all fun d => (Fa.code d.at_ d.qual).ok K) && (ex K && tabsB g tf K))
def oz (g : Addr → Option Obj) (K : PySem.W.Frag) : Al := (bz fa fn tf ex g K, fn.map fun d => fnObs K d.at_, ts.map fun t => dicW K (ga K t.1))
def obsZ (g : Addr → Option Obj) : Al := oz fa fn ts tf ex g (frT g as)
def valZ (w : World) : Al := (true, fn.map FnD.val, ts.map fun t => some (keysIn w.params t.2))
/-- what is told of the written part K and the heap -/
structure SaysZ (w : World) (h : Heap) (K : PySem.W.Frag) : Prop where
  fact : ∀ f ∈ fa, f.ok K = true
  defs : ∀ d ∈ fn, ∃ oc od osl kV doc pm an cdv ct, K.lookup (fAd K d.at_) = some ⟨oc, od, .func (PySem.W.fnOf d.name d.qual d.params d.body d.scope .none kV doc pm an cdv ct), osl⟩ ∧ PySem.W.codeIn K cdv d.qual = true
  dicts : ∀ t ∈ ts, ∃ es n, KDict K w (ga K t.1) es n
  more : ex K = true
  hd : ∀ p ∈ tf, PySem.W.codeHdIn K (cT K p).1 (cT K p).2 = true
  out : ∀ p ∈ tf, K.lookup (cT K p).2 = none
  empty : ∀ p ∈ tf, h.get? (cT K p).2 = some { cls := .none, data := .fields #[] }
end
variable {as : List Addr} {fa : List Fa} {fn : List FnD} {ts : List (Str × List Str)} {tf : List Defn} {ex : PySem.W.Frag → Bool}
theorem says_of {w : World} {h : Heap} (e : obsZ as fa fn ts tf ex h.get? = valZ fn ts w) : SaysZ fa fn ts tf ex w h (frT h.get? as) := by
  generalize hK : frT h.get? as = K
  have e0 : oz fa fn ts tf ex h.get? K = valZ fn ts w := by rw [← hK]; exact e
  have e1 : bz fa fn tf ex h.get? K = true := congrArg (fun z : Al => z.1) e0
  have e2 : (fn.map fun d => fnObs K d.at_) = fn.map FnD.val := congrArg (fun z : Al => z.2.1) e0
  have e3 : (ts.map fun t => dicW K (ga K t.1)) = ts.map fun t => some (keysIn w.params t.2) := congrArg (fun z : Al => z.2.2) e0
  obtain ⟨b1, b2⟩ := ba e1
  obtain ⟨b3, b4⟩ := ba b2
  obtain ⟨b5, b6⟩ := ba b4
  have key : ∀ p ∈ tf, PySem.W.codeHdIn K (cT K p).1 (cT K p).2 = true ∧ ∃ o, h.get? (cT K p).2 = some o ∧ emptyTab o = true := fun p hp => by
    obtain ⟨h3, h4⟩ := ba (List.all_eq_true.mp b6 p hp)
    refine ⟨h3, ?_⟩
    cases q : h.get? (cT K p).2 with
    | none => rw [q] at h4; cases h4
    | some o => rw [q] at h4; exact ⟨o, rfl, h4⟩
  refine ⟨fun f hf => List.all_eq_true.mp b1 f hf, fun d hd => fn_ok (List.map_inj_left.mp e2 d hd) (List.all_eq_true.mp b3 d hd), fun t ht => dicW_ok (List.map_inj_left.mp e3 t ht), b5, fun p hp => (key p hp).1, fun p hp => ?_, fun p hp => ?_⟩
  · obtain ⟨_, o, q, z⟩ := key p hp
    rw [← hK] at q ⊢
    exact frT_none q z
  · obtain ⟨_, o, q, z⟩ := key p hp
    rw [q, emptyTab_eq z]
def hookZ (as : List Addr) (fa : List Fa) (fn : List FnD) (ts : List (Str × List Str)) (tf : List Defn) (ex : PySem.W.Frag → Bool) : PySem.W.Hook where
  α := Al
  obs := fun s => obsZ as fa fn ts tf ex s.heap.get?
  val := fun w => valZ fn ts w
  says := fun w h => ∃ K : PySem.W.Frag, K.In h ∧ SaysZ fa fn ts tf ex w h K
  of := fun _ _ e => ⟨_, frT_in, says_of e⟩
  keeps := fun _ _ _ ⟨K, hK, c⟩ k => ⟨K, PySem.W.Frag.In.keeps hK k, ⟨c.fact, c.defs, c.dicts, c.more, c.hd, c.out, fun p hp => k _ _ (c.empty p hp)⟩⟩
theorem obsZ_eq {s : PySem.W.SharedT} : obsZ as fa fn ts tf ex (HandSHeadRun.getT s) = (hookZ as fa fn ts tf ex).obs s.abs := by
  have e : HandSHeadRun.getT s = s.abs.heap.get? := funext (HandSHeadRun.getT_eq s)
  rw [e] <;> rfl
section
variable {w : World} {h : Heap} {K : PySem.W.Frag}
theorem SaysZ.f (c : SaysZ fa fn ts tf ex w h K) (i : Nat) {f : Fa} (e : fa[i]? = some f := by rfl) : f.ok K = true := c.fact f (List.mem_of_getElem? e)
theorem SaysZ.d (c : SaysZ fa fn ts tf ex w h K) (i : Nat) {d : FnD} (e : fn[i]? = some d := by rfl) :
    ∃ oc od osl kV doc pm an cdv ct, K.lookup (fAd K d.at_) = some ⟨oc, od, .func (PySem.W.fnOf d.name d.qual d.params d.body d.scope .none kV doc pm an cdv ct), osl⟩ ∧ PySem.W.codeIn K cdv d.qual = true := c.defs d (List.mem_of_getElem? e)
theorem SaysZ.k (c : SaysZ fa fn ts tf ex w h K) (i : Nat) {t : Str × List Str} (e : ts[i]? = some t := by rfl) : ∃ es n, KDict K w (ga K t.1) es n := c.dicts t (List.mem_of_getElem? e)
theorem dEs_eq {x : Str} {es : Array DictEntry} {n : Nat} (e : KDict K w (ga K x) es n) : dEs K x = es.toList := by
  unfold dEs
  rw [e.at_]
/-- the def's code object, its table -/
theorem cd_eq {d : FnD} {oc : Value} {od : Option Addr} {osl : Array (Option Value)} {kV doc pm : Value} {an : Option Addr} {cdv ct : Value} {q : Str}
    (l : K.lookup (fAd K d.at_) = some ⟨oc, od, .func (PySem.W.fnOf d.name d.qual d.params d.body d.scope .none kV doc pm an cdv ct), osl⟩) (hc : PySem.W.codeIn K cdv q = true) : cdv = .ref (codeOf K d.at_) := by
  obtain ⟨c, rfl⟩ := codeIn_ref hc
  rw [codeOf_eq l rfl]
end
/-- functions under texts -/
def fnE (K : PySem.W.Frag) (k f : Str) : Value → Value → Bool
  | .str x _, .ref a => decide (x = k) && decide (a = ga K f)
  | _, _ => false
theorem fnE_ok {K : PySem.W.Frag} {k f : Str} {u v : Value} (h : fnE K k f u v = true) : ∃ t, u = .str k t ∧ v = .ref (ga K f) := by
  unfold fnE at h
  split at h
  · rename_i x t a
    obtain ⟨q1, q2⟩ := ba h
    rw [of_decide_eq_true q1, of_decide_eq_true q2]
    exact ⟨t, rfl, rfl⟩
  · cases h
def fourB (K : PySem.W.Frag) : List DictEntry → List (Str × Str) → Bool
  | [], [] => true
  | e :: es, p :: r => fnE K p.1 p.2 e.key e.val && fourB K es r
  | _, _ => false
theorem four_ok {K : PySem.W.Frag} {k1 f1 k2 f2 k3 f3 k4 f4 : Str} : ∀ {es : List DictEntry}, fourB K es [(k1, f1), (k2, f2), (k3, f3), (k4, f4)] = true → ∃ h1 h2 h3 h4 t1 t2 t3 t4, es = [⟨h1, .str k1 t1, .ref (ga K f1)⟩, ⟨h2, .str k2 t2, .ref (ga K f2)⟩, ⟨h3, .str k3 t3, .ref (ga K f3)⟩, ⟨h4, .str k4 t4, .ref (ga K f4)⟩]
  | [], h => by cases h
  | [_], h => by simp [fourB] at h
  | [_, _], h => by simp [fourB] at h
  | [_, _, _], h => by simp [fourB] at h
  | [⟨g1, a1, b1⟩, ⟨g2, a2, b2⟩, ⟨g3, a3, b3⟩, ⟨g4, a4, b4⟩], h => by
    obtain ⟨e1, h⟩ := ba h
    obtain ⟨e2, h⟩ := ba h
    obtain ⟨e3, h⟩ := ba h
    obtain ⟨e4, _⟩ := ba h
    obtain ⟨t1, q1, r1⟩ := fnE_ok e1
    obtain ⟨t2, q2, r2⟩ := fnE_ok e2
    obtain ⟨t3, q3, r3⟩ := fnE_ok e3
    obtain ⟨t4, q4, r4⟩ := fnE_ok e4
    refine ⟨g1, g2, g3, g4, t1, t2, t3, t4, ?_⟩
    rw [show a1 = .str k1 t1 from q1, show b1 = .ref (ga K f1) from r1, show a2 = .str k2 t2 from q2, show b2 = .ref (ga K f2) from r2, show a3 = .str k3 t3 from q3, show b3 = .ref (ga K f3) from r3, show a4 = .str k4 t4 from q4, show b4 = .ref (ga K f4) from r4]
  | _ :: _ :: _ :: _ :: _ :: _, h => by simp [fourB] at h
end Hz
namespace Hz
open PySem PySem.Spec PyProof.Rows L2 He
theorem glo_is {K : PySem.W.Frag} {x : Str} (c : (Fa.glo x).ok K = true) : PySem.W.nsIn K mainGlobals x = some (some (.ref (ga K x))) := eqO_ok c
theorem free_is {K : PySem.W.Frag} {x : Str} (c : (Fa.free x).ok K = true) : PySem.W.nsIn K mainGlobals x = some none := eqO_ok c
theorem int_is {K : PySem.W.Frag} {x : Str} {i : Int} (c : (Fa.int x i).ok K = true) : ∃ t, PySem.W.nsIn K mainGlobals x = some (some (.int i t)) := by
  have c2 : (match PySem.W.nsIn K mainGlobals x with
    | some (some (.int j _)) => decide (j = i)
    | _ => false) = true := c
  split at c2
  · rename_i j t e
    rw [of_decide_eq_true c2] at e
    exact ⟨t, e⟩
  · cases c2
theorem all4 {σ A B C D : Type} {x : Option σ} {f1 : σ → A} {f2 : σ → B} {f3 : σ → C} {f4 : σ → D} {a : A} {b : B} {c : C} {d : D} (h12 : x.map (fun s => (f1 s, f2 s)) = some (a, b)) (h3 : x.map f3 = some c) (h4 : x.map f4 = some d) :
    x.map (fun s => (f1 s, f2 s, (f3 s, f4 s))) = some (a, b, (c, d)) := by
  cases x with
  | none => cases h3
  | some s =>
    obtain ⟨e1, e2⟩ := Prod.mk.inj (Option.some.inj h12)
    have e3 : f3 s = c := Option.some.inj h3
    have e4 : f4 s = d := Option.some.inj h4
    show some (f1 s, f2 s, (f3 s, f4 s)) = _
    rw [e1, e2, e3, e4]
theorem mem_at {α : Type} (l : List α) (i : Nat) {x : α} (e : l[i]? = some x) : x ∈ l := List.mem_of_getElem? e
end Hz
namespace My
open PySem PySem.Spec PyProof.Rows L2
theorem all_mz {l : PySem.W.OpenLaw} {w : World} {K : PySem.W.Frag} {h : Heap} {mg : Str → Option Value} {fa f1 f2 f3 f4 f5 f6 f7 f8 f9 f10 f11 f12 f13 f14 f15 f16 f17 f18 f19 f20 f21 f22 f23 f24 f25 f26 f27 f28 f29 f30 f31 f32 f33 f34 f35 f36 f37 f38 f39 f40 f41 f42 f43 f44 f45 f46 f47 f48 f49 f50 f51 f52 f53 f54 f55 f56 f57 f58 f59 f60 f61 f62 f63 f64 f65 : Addr} (X : K.In h) (G : h.Ns mainGlobals mg) (hfa : mg "law" = some (.ref fa))
    {od1 an1 od2 an2 od3 an3 od4 an4 od5 an5 od6 an6 od7 an7 od8 an8 od9 an9 od10 an10 od11 an11 od12 an12 od13 an13 od14 an14 od15 an15 od16 an16 od17 an17 od18 an18 od19 an19 od20 an20 od21 an21 od22 an22 od23 an23 od24 an24 od25 an25 od26 an26 od27 an27 od28 an28 od29 an29 od30 an30 od31 an31 od32 an32 od33 an33 od34 an34 od35 an35 od36 an36 od37 an37 od38 an38 od39 an39 od40 an40 od41 an41 od42 an42 od43 an43 od44 an44 od45 an45 od46 an46 od47 an47 od48 an48 od49 an49 od50 an50 od51 an51 od52 an52 od53 an53 od54 an54 od55 an55 od56 an56 od57 an57 od58 an58 od59 an59 od60 an60 od61 an61 od62 an62 od63 an63 od64 an64 od65 an65 : Option Addr} {sl1 sl2 sl3 sl4 sl5 sl6 sl7 sl8 sl9 sl10 sl11 sl12 sl13 sl14 sl15 sl16 sl17 sl18 sl19 sl20 sl21 sl22 sl23 sl24 sl25 sl26 sl27 sl28 sl29 sl30 sl31 sl32 sl33 sl34 sl35 sl36 sl37 sl38 sl39 sl40 sl41 sl42 sl43 sl44 sl45 sl46 sl47 sl48 sl49 sl50 sl51 sl52 sl53 sl54 sl55 sl56 sl57 sl58 sl59 sl60 sl61 sl62 sl63 sl64 sl65 : Array (Option Value)} {oc1 kV1 dc1 pm1 cd1 ct1 oc2 kV2 dc2 pm2 cd2 ct2 oc3 kV3 dc3 pm3 cd3 ct3 oc4 kV4 dc4 pm4 cd4 ct4 oc5 kV5 dc5 pm5 cd5 ct5 oc6 kV6 dc6 pm6 cd6 ct6 oc7 kV7 dc7 pm7 cd7 ct7 oc8 kV8 dc8 pm8 cd8 ct8 oc9 kV9 dc9 pm9 cd9 ct9 oc10 kV10 dc10 pm10 cd10 ct10 oc11 kV11 dc11 pm11 cd11 ct11 oc12 kV12 dc12 pm12 cd12 ct12 oc13 kV13 dc13 pm13 cd13 ct13 oc14 kV14 dc14 pm14 cd14 ct14 oc15 kV15 dc15 pm15 cd15 ct15 oc16 kV16 dc16 pm16 cd16 ct16 oc17 kV17 dc17 pm17 cd17 ct17 oc18 kV18 dc18 pm18 cd18 ct18 oc19 kV19 dc19 pm19 cd19 ct19 oc20 kV20 dc20 pm20 cd20 ct20 oc21 kV21 dc21 pm21 cd21 ct21 oc22 kV22 dc22 pm22 cd22 ct22 oc23 kV23 dc23 pm23 cd23 ct23 oc24 kV24 dc24 pm24 cd24 ct24 oc25 kV25 dc25 pm25 cd25 ct25 oc26 kV26 dc26 pm26 cd26 ct26 oc27 kV27 dc27 pm27 cd27 ct27 oc28 kV28 dc28 pm28 cd28 ct28 oc29 kV29 dc29 pm29 cd29 ct29 oc30 kV30 dc30 pm30 cd30 ct30 oc31 kV31 dc31 pm31 cd31 ct31 oc32 kV32 dc32 pm32 cd32 ct32 oc33 kV33 dc33 pm33 cd33 ct33 oc34 kV34 dc34 pm34 cd34 ct34 oc35 kV35 dc35 pm35 cd35 ct35 oc36 kV36 dc36 pm36 cd36 ct36 oc37 kV37 dc37 pm37 cd37 ct37 oc38 kV38 dc38 pm38 cd38 ct38 oc39 kV39 dc39 pm39 cd39 ct39 oc40 kV40 dc40 pm40 cd40 ct40 oc41 kV41 dc41 pm41 cd41 ct41 oc42 kV42 dc42 pm42 cd42 ct42 oc43 kV43 dc43 pm43 cd43 ct43 oc44 kV44 dc44 pm44 cd44 ct44 oc45 kV45 dc45 pm45 cd45 ct45 oc46 kV46 dc46 pm46 cd46 ct46 oc47 kV47 dc47 pm47 cd47 ct47 oc48 kV48 dc48 pm48 cd48 ct48 oc49 kV49 dc49 pm49 cd49 ct49 oc50 kV50 dc50 pm50 cd50 ct50 oc51 kV51 dc51 pm51 cd51 ct51 oc52 kV52 dc52 pm52 cd52 ct52 oc53 kV53 dc53 pm53 cd53 ct53 oc54 kV54 dc54 pm54 cd54 ct54 oc55 kV55 dc55 pm55 cd55 ct55 oc56 kV56 dc56 pm56 cd56 ct56 oc57 kV57 dc57 pm57 cd57 ct57 oc58 kV58 dc58 pm58 cd58 ct58 oc59 kV59 dc59 pm59 cd59 ct59 oc60 kV60 dc60 pm60 cd60 ct60 oc61 kV61 dc61 pm61 cd61 ct61 oc62 kV62 dc62 pm62 cd62 ct62 oc63 kV63 dc63 pm63 cd63 ct63 oc64 kV64 dc64 pm64 cd64 ct64 oc65 kV65 dc65 pm65 cd65 ct65 : Value}
    (a1 : PySem.W.nsIn K mainGlobals "draw" = some (some (.ref f1)))
    (l1 : K.lookup f1 = some ⟨oc1, od1, .func (PySem.W.fnOf "draw" "draw" (defArgs s_draw) (defBody s_draw) (defScope s_draw) .none kV1 dc1 pm1 an1 cd1 ct1), sl1⟩)
    (c1 : PySem.W.codeIn K cd1 "draw" = true)
    (k1 : PySem.W.keepIn K (.ref f1) = true)
    (a2 : PySem.W.nsIn K mainGlobals "end" = some (some (.ref f2)))
    (l2 : K.lookup f2 = some ⟨oc2, od2, .func (PySem.W.fnOf "end" "end" (defArgs s_end) (defBody s_end) (defScope s_end) .none kV2 dc2 pm2 an2 cd2 ct2), sl2⟩)
    (c2 : PySem.W.codeIn K cd2 "end" = true)
    (k2 : PySem.W.keepIn K (.ref f2) = true)
    (a3 : PySem.W.nsIn K mainGlobals "ask" = some (some (.ref f3)))
    (l3 : K.lookup f3 = some ⟨oc3, od3, .func (PySem.W.fnOf "ask" "ask" (defArgs s_ask) (defBody s_ask) (defScope s_ask) .none kV3 dc3 pm3 an3 cd3 ct3), sl3⟩)
    (c3 : PySem.W.codeIn K cd3 "ask" = true)
    (k3 : PySem.W.keepIn K (.ref f3) = true)
    (a4 : PySem.W.nsIn K mainGlobals "bits" = some (some (.ref f4)))
    (l4 : K.lookup f4 = some ⟨oc4, od4, .func (PySem.W.fnOf "bits" "bits" (defArgs s_bits) (defBody s_bits) (defScope s_bits) .none kV4 dc4 pm4 an4 cd4 ct4), sl4⟩)
    (c4 : PySem.W.codeIn K cd4 "bits" = true)
    (k4 : PySem.W.keepIn K (.ref f4) = true)
    (a5 : PySem.W.nsIn K mainGlobals "draw_bits" = some (some (.ref f5)))
    (l5 : K.lookup f5 = some ⟨oc5, od5, .func (PySem.W.fnOf "draw_bits" "draw_bits" (defArgs s_draw_bits) (defBody s_draw_bits) (defScope s_draw_bits) .none kV5 dc5 pm5 an5 cd5 ct5), sl5⟩)
    (c5 : PySem.W.codeIn K cd5 "draw_bits" = true)
    (k5 : PySem.W.keepIn K (.ref f5) = true)
    (a6 : PySem.W.nsIn K mainGlobals "draw_row" = some (some (.ref f6)))
    (l6 : K.lookup f6 = some ⟨oc6, od6, .func (PySem.W.fnOf "draw_row" "draw_row" (defArgs s_draw_row) (defBody s_draw_row) (defScope s_draw_row) .none kV6 dc6 pm6 an6 cd6 ct6), sl6⟩)
    (c6 : PySem.W.codeIn K cd6 "draw_row" = true)
    (k6 : PySem.W.keepIn K (.ref f6) = true)
    (a7 : PySem.W.nsIn K mainGlobals "after" = some (some (.ref f7)))
    (l7 : K.lookup f7 = some ⟨oc7, od7, .func (PySem.W.fnOf "after" "after" (defArgs s_after) (defBody s_after) (defScope s_after) .none kV7 dc7 pm7 an7 cd7 ct7), sl7⟩)
    (c7 : PySem.W.codeIn K cd7 "after" = true)
    (k7 : PySem.W.keepIn K (.ref f7) = true)
    (a8 : PySem.W.nsIn K mainGlobals "told" = some (some (.ref f8)))
    (l8 : K.lookup f8 = some ⟨oc8, od8, .func (PySem.W.fnOf "told" "told" (defArgs s_told) (defBody s_told) (defScope s_told) .none kV8 dc8 pm8 an8 cd8 ct8), sl8⟩)
    (c8 : PySem.W.codeIn K cd8 "told" = true)
    (k8 : PySem.W.keepIn K (.ref f8) = true)
    (a9 : PySem.W.nsIn K mainGlobals "serve" = some (some (.ref f9)))
    (l9 : K.lookup f9 = some ⟨oc9, od9, .func (PySem.W.fnOf "serve" "serve" (defArgs s_serve) (defBody s_serve) (defScope s_serve) .none kV9 dc9 pm9 an9 cd9 ct9), sl9⟩)
    (c9 : PySem.W.codeIn K cd9 "serve" = true)
    (k9 : PySem.W.keepIn K (.ref f9) = true)
    (a10 : PySem.W.nsIn K mainGlobals "outcome" = some (some (.ref f10)))
    (l10 : K.lookup f10 = some ⟨oc10, od10, .func (PySem.W.fnOf "outcome" "outcome" (defArgs s_outcome) (defBody s_outcome) (defScope s_outcome) .none kV10 dc10 pm10 an10 cd10 ct10), sl10⟩)
    (c10 : PySem.W.codeIn K cd10 "outcome" = true)
    (k10 : PySem.W.keepIn K (.ref f10) = true)
    (a11 : PySem.W.nsIn K mainGlobals "bit_of" = some (some (.ref f11)))
    (l11 : K.lookup f11 = some ⟨oc11, od11, .func (PySem.W.fnOf "bit_of" "bit_of" (defArgs s_bit_of) (defBody s_bit_of) (defScope s_bit_of) .none kV11 dc11 pm11 an11 cd11 ct11), sl11⟩)
    (c11 : PySem.W.codeIn K cd11 "bit_of" = true)
    (k11 : PySem.W.keepIn K (.ref f11) = true)
    (a12 : PySem.W.nsIn K mainGlobals "made_of" = some (some (.ref f12)))
    (l12 : K.lookup f12 = some ⟨oc12, od12, .func (PySem.W.fnOf "made_of" "made_of" (defArgs s_made_of) (defBody s_made_of) (defScope s_made_of) .none kV12 dc12 pm12 an12 cd12 ct12), sl12⟩)
    (c12 : PySem.W.codeIn K cd12 "made_of" = true)
    (k12 : PySem.W.keepIn K (.ref f12) = true)
    (a13 : PySem.W.nsIn K mainGlobals "run_plain" = some (some (.ref f13)))
    (l13 : K.lookup f13 = some ⟨oc13, od13, .func (PySem.W.fnOf "run_plain" "run_plain" (defArgs s_run_plain) (defBody s_run_plain) (defScope s_run_plain) .none kV13 dc13 pm13 an13 cd13 ct13), sl13⟩)
    (c13 : PySem.W.codeIn K cd13 "run_plain" = true)
    (k13 : PySem.W.keepIn K (.ref f13) = true)
    (a14 : PySem.W.nsIn K mainGlobals "run" = some (some (.ref f14)))
    (l14 : K.lookup f14 = some ⟨oc14, od14, .func (PySem.W.fnOf "run" "run" (defArgs s_run) (defBody s_run) (defScope s_run) .none kV14 dc14 pm14 an14 cd14 ct14), sl14⟩)
    (c14 : PySem.W.codeIn K cd14 "run" = true)
    (k14 : PySem.W.keepIn K (.ref f14) = true)
    (a15 : PySem.W.nsIn K mainGlobals "no_answer" = some (some (.ref f15)))
    (l15 : K.lookup f15 = some ⟨oc15, od15, .func (PySem.W.fnOf "no_answer" "no_answer" (defArgs s_no_answer) (defBody s_no_answer) (defScope s_no_answer) .none kV15 dc15 pm15 an15 cd15 ct15), sl15⟩)
    (c15 : PySem.W.codeIn K cd15 "no_answer" = true)
    (k15 : PySem.W.keepIn K (.ref f15) = true)
    (a16 : PySem.W.nsIn K mainGlobals "said_one" = some (some (.ref f16)))
    (l16 : K.lookup f16 = some ⟨oc16, od16, .func (PySem.W.fnOf "said_one" "said_one" (defArgs s_said_one) (defBody s_said_one) (defScope s_said_one) .none kV16 dc16 pm16 an16 cd16 ct16), sl16⟩)
    (c16 : PySem.W.codeIn K cd16 "said_one" = true)
    (k16 : PySem.W.keepIn K (.ref f16) = true)
    (a17 : PySem.W.nsIn K mainGlobals "guess_of" = some (some (.ref f17)))
    (l17 : K.lookup f17 = some ⟨oc17, od17, .func (PySem.W.fnOf "guess_of" "guess_of" (defArgs s_guess_of) (defBody s_guess_of) (defScope s_guess_of) .none kV17 dc17 pm17 an17 cd17 ct17), sl17⟩)
    (c17 : PySem.W.codeIn K cd17 "guess_of" = true)
    (k17 : PySem.W.keepIn K (.ref f17) = true)
    (a18 : PySem.W.nsIn K mainGlobals "hint" = some (some (.ref f18)))
    (l18 : K.lookup f18 = some ⟨oc18, od18, .func (PySem.W.fnOf "hint" "hint" (defArgs s_hint) (defBody s_hint) (defScope s_hint) .none kV18 dc18 pm18 an18 cd18 ct18), sl18⟩)
    (c18 : PySem.W.codeIn K cd18 "hint" = true)
    (k18 : PySem.W.keepIn K (.ref f18) = true)
    (a19 : PySem.W.nsIn K mainGlobals "guesses_bit" = some (some (.ref f19)))
    (l19 : K.lookup f19 = some ⟨oc19, od19, .func (PySem.W.fnOf "guesses_bit" "guesses_bit" (defArgs s_guesses_bit) (defBody s_guesses_bit) (defScope s_guesses_bit) .none kV19 dc19 pm19 an19 cd19 ct19), sl19⟩)
    (c19 : PySem.W.codeIn K cd19 "guesses_bit" = true)
    (k19 : PySem.W.keepIn K (.ref f19) = true)
    (a20 : PySem.W.nsIn K mainGlobals "number_of" = some (some (.ref f20)))
    (l20 : K.lookup f20 = some ⟨oc20, od20, .func (PySem.W.fnOf "number_of" "number_of" (defArgs s_number_of) (defBody s_number_of) (defScope s_number_of) .none kV20 dc20 pm20 an20 cd20 ct20), sl20⟩)
    (c20 : PySem.W.codeIn K cd20 "number_of" = true)
    (k20 : PySem.W.keepIn K (.ref f20) = true)
    (a21 : PySem.W.nsIn K mainGlobals "xor" = some (some (.ref f21)))
    (l21 : K.lookup f21 = some ⟨oc21, od21, .func (PySem.W.fnOf "xor" "xor" (defArgs s_xor) (defBody s_xor) (defScope s_xor) .none kV21 dc21 pm21 an21 cd21 ct21), sl21⟩)
    (c21 : PySem.W.codeIn K cd21 "xor" = true)
    (k21 : PySem.W.keepIn K (.ref f21) = true)
    (a22 : PySem.W.nsIn K mainGlobals "opening_game" = some (some (.ref f22)))
    (l22 : K.lookup f22 = some ⟨oc22, od22, .func (PySem.W.fnOf "opening_game" "opening_game" (defArgs s_opening_game) (defBody s_opening_game) (defScope s_opening_game) .none kV22 dc22 pm22 an22 cd22 ct22), sl22⟩)
    (c22 : PySem.W.codeIn K cd22 "opening_game" = true)
    (k22 : PySem.W.keepIn K (.ref f22) = true)
    (a23 : PySem.W.nsIn K mainGlobals "next_game" = some (some (.ref f23)))
    (l23 : K.lookup f23 = some ⟨oc23, od23, .func (PySem.W.fnOf "next_game" "next_game" (defArgs s_next_game) (defBody s_next_game) (defScope s_next_game) .none kV23 dc23 pm23 an23 cd23 ct23), sl23⟩)
    (c23 : PySem.W.codeIn K cd23 "next_game" = true)
    (k23 : PySem.W.keepIn K (.ref f23) = true)
    (a24 : PySem.W.nsIn K mainGlobals "contest" = some (some (.ref f24)))
    (l24 : K.lookup f24 = some ⟨oc24, od24, .func (PySem.W.fnOf "contest" "contest" (defArgs s_contest) (defBody s_contest) (defScope s_contest) .none kV24 dc24 pm24 an24 cd24 ct24), sl24⟩)
    (c24 : PySem.W.codeIn K cd24 "contest" = true)
    (k24 : PySem.W.keepIn K (.ref f24) = true)
    (a25 : PySem.W.nsIn K mainGlobals "is_whole" = some (some (.ref f25)))
    (l25 : K.lookup f25 = some ⟨oc25, od25, .func (PySem.W.fnOf "is_whole" "is_whole" (defArgs s_is_whole) (defBody s_is_whole) (defScope s_is_whole) .none kV25 dc25 pm25 an25 cd25 ct25), sl25⟩)
    (c25 : PySem.W.codeIn K cd25 "is_whole" = true)
    (k25 : PySem.W.keepIn K (.ref f25) = true)
    (a26 : PySem.W.nsIn K mainGlobals "are_rows" = some (some (.ref f26)))
    (l26 : K.lookup f26 = some ⟨oc26, od26, .func (PySem.W.fnOf "are_rows" "are_rows" (defArgs s_are_rows) (defBody s_are_rows) (defScope s_are_rows) .none kV26 dc26 pm26 an26 cd26 ct26), sl26⟩)
    (c26 : PySem.W.codeIn K cd26 "are_rows" = true)
    (k26 : PySem.W.keepIn K (.ref f26) = true)
    (a27 : PySem.W.nsIn K mainGlobals "is_generator" = some (some (.ref f27)))
    (l27 : K.lookup f27 = some ⟨oc27, od27, .func (PySem.W.fnOf "is_generator" "is_generator" (defArgs s_is_generator) (defBody s_is_generator) (defScope s_is_generator) .none kV27 dc27 pm27 an27 cd27 ct27), sl27⟩)
    (c27 : PySem.W.codeIn K cd27 "is_generator" = true)
    (k27 : PySem.W.keepIn K (.ref f27) = true)
    (a28 : PySem.W.nsIn K mainGlobals "is_function" = some (some (.ref f28)))
    (l28 : K.lookup f28 = some ⟨oc28, od28, .func (PySem.W.fnOf "is_function" "is_function" (defArgs s_is_function) (defBody s_is_function) (defScope s_is_function) .none kV28 dc28 pm28 an28 cd28 ct28), sl28⟩)
    (c28 : PySem.W.codeIn K cd28 "is_function" = true)
    (k28 : PySem.W.keepIn K (.ref f28) = true)
    (a29 : PySem.W.nsIn K mainGlobals "fits" = some (some (.ref f29)))
    (l29 : K.lookup f29 = some ⟨oc29, od29, .func (PySem.W.fnOf "fits" "fits" (defArgs s_fits) (defBody s_fits) (defScope s_fits) .none kV29 dc29 pm29 an29 cd29 ct29), sl29⟩)
    (c29 : PySem.W.codeIn K cd29 "fits" = true)
    (k29 : PySem.W.keepIn K (.ref f29) = true)
    (a30 : PySem.W.nsIn K mainGlobals "check_game" = some (some (.ref f30)))
    (l30 : K.lookup f30 = some ⟨oc30, od30, .func (PySem.W.fnOf "check_game" "check_game" (defArgs s_check_game) (defBody s_check_game) (defScope s_check_game) .none kV30 dc30 pm30 an30 cd30 ct30), sl30⟩)
    (c30 : PySem.W.codeIn K cd30 "check_game" = true)
    (k30 : PySem.W.keepIn K (.ref f30) = true)
    (a31 : PySem.W.nsIn K mainGlobals "are_numbers" = some (some (.ref f31)))
    (l31 : K.lookup f31 = some ⟨oc31, od31, .func (PySem.W.fnOf "are_numbers" "are_numbers" (defArgs s_are_numbers) (defBody s_are_numbers) (defScope s_are_numbers) .none kV31 dc31 pm31 an31 cd31 ct31), sl31⟩)
    (c31 : PySem.W.codeIn K cd31 "are_numbers" = true)
    (k31 : PySem.W.keepIn K (.ref f31) = true)
    (a32 : PySem.W.nsIn K mainGlobals "fits_longer" = some (some (.ref f32)))
    (l32 : K.lookup f32 = some ⟨oc32, od32, .func (PySem.W.fnOf "fits_longer" "fits_longer" (defArgs s_fits_longer) (defBody s_fits_longer) (defScope s_fits_longer) .none kV32 dc32 pm32 an32 cd32 ct32), sl32⟩)
    (c32 : PySem.W.codeIn K cd32 "fits_longer" = true)
    (k32 : PySem.W.keepIn K (.ref f32) = true)
    (a33 : PySem.W.nsIn K mainGlobals "fits_tree" = some (some (.ref f33)))
    (l33 : K.lookup f33 = some ⟨oc33, od33, .func (PySem.W.fnOf "fits_tree" "fits_tree" (defArgs s_fits_tree) (defBody s_fits_tree) (defScope s_fits_tree) .none kV33 dc33 pm33 an33 cd33 ct33), sl33⟩)
    (c33 : PySem.W.codeIn K cd33 "fits_tree" = true)
    (k33 : PySem.W.keepIn K (.ref f33) = true)
    (a34 : PySem.W.nsIn K mainGlobals "fits_opening" = some (some (.ref f34)))
    (l34 : K.lookup f34 = some ⟨oc34, od34, .func (PySem.W.fnOf "fits_opening" "fits_opening" (defArgs s_fits_opening) (defBody s_fits_opening) (defScope s_fits_opening) .none kV34 dc34 pm34 an34 cd34 ct34), sl34⟩)
    (c34 : PySem.W.codeIn K cd34 "fits_opening" = true)
    (k34 : PySem.W.keepIn K (.ref f34) = true)
    (a35 : PySem.W.nsIn K mainGlobals "fits_onetime" = some (some (.ref f35)))
    (l35 : K.lookup f35 = some ⟨oc35, od35, .func (PySem.W.fnOf "fits_onetime" "fits_onetime" (defArgs s_fits_onetime) (defBody s_fits_onetime) (defScope s_fits_onetime) .none kV35 dc35 pm35 an35 cd35 ct35), sl35⟩)
    (c35 : PySem.W.codeIn K cd35 "fits_onetime" = true)
    (k35 : PySem.W.keepIn K (.ref f35) = true)
    (a36 : PySem.W.nsIn K mainGlobals "is_made" = some (some (.ref f36)))
    (l36 : K.lookup f36 = some ⟨oc36, od36, .func (PySem.W.fnOf "is_made" "is_made" (defArgs s_is_made) (defBody s_is_made) (defScope s_is_made) .none kV36 dc36 pm36 an36 cd36 ct36), sl36⟩)
    (c36 : PySem.W.codeIn K cd36 "is_made" = true)
    (k36 : PySem.W.keepIn K (.ref f36) = true)
    (a37 : PySem.W.nsIn K mainGlobals "fits_kind" = some (some (.ref f37)))
    (l37 : K.lookup f37 = some ⟨oc37, od37, .func (PySem.W.fnOf "fits_kind" "fits_kind" (defArgs s_fits_kind) (defBody s_fits_kind) (defScope s_fits_kind) .none kV37 dc37 pm37 an37 cd37 ct37), sl37⟩)
    (c37 : PySem.W.codeIn K cd37 "fits_kind" = true)
    (k37 : PySem.W.keepIn K (.ref f37) = true)
    (a38 : PySem.W.nsIn K mainGlobals "is_part" = some (some (.ref f38)))
    (l38 : K.lookup f38 = some ⟨oc38, od38, .func (PySem.W.fnOf "is_part" "is_part" (defArgs s_is_part) (defBody s_is_part) (defScope s_is_part) .none kV38 dc38 pm38 an38 cd38 ct38), sl38⟩)
    (c38 : PySem.W.codeIn K cd38 "is_part" = true)
    (k38 : PySem.W.keepIn K (.ref f38) = true)
    (a39 : PySem.W.nsIn K mainGlobals "are_parts" = some (some (.ref f39)))
    (l39 : K.lookup f39 = some ⟨oc39, od39, .func (PySem.W.fnOf "are_parts" "are_parts" (defArgs s_are_parts) (defBody s_are_parts) (defScope s_are_parts) .none kV39 dc39 pm39 an39 cd39 ct39), sl39⟩)
    (c39 : PySem.W.codeIn K cd39 "are_parts" = true)
    (k39 : PySem.W.keepIn K (.ref f39) = true)
    (a40 : PySem.W.nsIn K mainGlobals "looks_plain" = some (some (.ref f40)))
    (l40 : K.lookup f40 = some ⟨oc40, od40, .func (PySem.W.fnOf "looks_plain" "looks_plain" (defArgs s_looks_plain) (defBody s_looks_plain) (defScope s_looks_plain) .none kV40 dc40 pm40 an40 cd40 ct40), sl40⟩)
    (c40 : PySem.W.codeIn K cd40 "looks_plain" = true)
    (k40 : PySem.W.keepIn K (.ref f40) = true)
    (a41 : PySem.W.nsIn K mainGlobals "directly_within" = some (some (.ref f41)))
    (l41 : K.lookup f41 = some ⟨oc41, od41, .func (PySem.W.fnOf "directly_within" "directly_within" (defArgs s_directly_within) (defBody s_directly_within) (defScope s_directly_within) .none kV41 dc41 pm41 an41 cd41 ct41), sl41⟩)
    (c41 : PySem.W.codeIn K cd41 "directly_within" = true)
    (k41 : PySem.W.keepIn K (.ref f41) = true)
    (a42 : PySem.W.nsIn K mainGlobals "is_plain_breaker" = some (some (.ref f42)))
    (l42 : K.lookup f42 = some ⟨oc42, od42, .func (PySem.W.fnOf "is_plain_breaker" "is_plain_breaker" (defArgs s_is_plain_breaker) (defBody s_is_plain_breaker) (defScope s_is_plain_breaker) .none kV42 dc42 pm42 an42 cd42 ct42), sl42⟩)
    (c42 : PySem.W.codeIn K cd42 "is_plain_breaker" = true)
    (k42 : PySem.W.keepIn K (.ref f42) = true)
    (a43 : PySem.W.nsIn K mainGlobals "check_breaker" = some (some (.ref f43)))
    (l43 : K.lookup f43 = some ⟨oc43, od43, .func (PySem.W.fnOf "check_breaker" "check_breaker" (defArgs s_check_breaker) (defBody s_check_breaker) (defScope s_check_breaker) .none kV43 dc43 pm43 an43 cd43 ct43), sl43⟩)
    (c43 : PySem.W.codeIn K cd43 "check_breaker" = true)
    (k43 : PySem.W.keepIn K (.ref f43) = true)
    (l44 : K.lookup f44 = some ⟨oc44, od44, .func (PySem.W.fnOf "__init__" "Play.__init__" (defArgs s_init_Play) (defBody s_init_Play) (defScope s_init_Play) .none kV44 dc44 pm44 an44 cd44 ct44), sl44⟩)
    (c44 : PySem.W.codeIn K cd44 "Play.__init__" = true)
    (k44 : PySem.W.keepIn K (.ref f44) = true)
    (a45 : PySem.W.nsIn K mainGlobals "play" = some (some (.ref f45)))
    (l45 : K.lookup f45 = some ⟨oc45, od45, .func (PySem.W.fnOf "play" "play" (defArgs s_play) (defBody s_play) (defScope s_play) .none kV45 dc45 pm45 an45 cd45 ct45), sl45⟩)
    (c45 : PySem.W.codeIn K cd45 "play" = true)
    (k45 : PySem.W.keepIn K (.ref f45) = true)
    (a46 : PySem.W.nsIn K mainGlobals "_law_draws" = some (some (.ref f46)))
    (l46 : K.lookup f46 = some ⟨oc46, od46, .func (PySem.W.fnOf "_law_draws" "_law_draws" (defArgs s_law_draws) (defBody s_law_draws) (defScope s_law_draws) .none kV46 dc46 pm46 an46 cd46 ct46), sl46⟩)
    (c46 : PySem.W.codeIn K cd46 "_law_draws" = true)
    (k46 : PySem.W.keepIn K (.ref f46) = true)
    (a47 : PySem.W.nsIn K mainGlobals "_law_take" = some (some (.ref f47)))
    (l47 : K.lookup f47 = some ⟨oc47, od47, .func (PySem.W.fnOf "_law_take" "_law_take" (defArgs s_law_take) (defBody s_law_take) (defScope s_law_take) .none kV47 dc47 pm47 an47 cd47 ct47), sl47⟩)
    (c47 : PySem.W.codeIn K cd47 "_law_take" = true)
    (k47 : PySem.W.keepIn K (.ref f47) = true)
    (a48 : PySem.W.nsIn K mainGlobals "_law_string" = some (some (.ref f48)))
    (l48 : K.lookup f48 = some ⟨oc48, od48, .func (PySem.W.fnOf "_law_string" "_law_string" (defArgs s_law_string) (defBody s_law_string) (defScope s_law_string) .none kV48 dc48 pm48 an48 cd48 ct48), sl48⟩)
    (c48 : PySem.W.codeIn K cd48 "_law_string" = true)
    (k48 : PySem.W.keepIn K (.ref f48) = true)
    (a49 : PySem.W.nsIn K mainGlobals "_law_table" = some (some (.ref f49)))
    (l49 : K.lookup f49 = some ⟨oc49, od49, .func (PySem.W.fnOf "_law_table" "_law_table" (defArgs s_law_table) (defBody s_law_table) (defScope s_law_table) .none kV49 dc49 pm49 an49 cd49 ct49), sl49⟩)
    (c49 : PySem.W.codeIn K cd49 "_law_table" = true)
    (k49 : PySem.W.keepIn K (.ref f49) = true)
    (a50 : PySem.W.nsIn K mainGlobals "_law_parts" = some (some (.ref f50)))
    (l50 : K.lookup f50 = some ⟨oc50, od50, .func (PySem.W.fnOf "_law_parts" "_law_parts" (defArgs s_law_parts) (defBody s_law_parts) (defScope s_law_parts) .none kV50 dc50 pm50 an50 cd50 ct50), sl50⟩)
    (c50 : PySem.W.codeIn K cd50 "_law_parts" = true)
    (k50 : PySem.W.keepIn K (.ref f50) = true)
    (a51 : PySem.W.nsIn K mainGlobals "_law_bits" = some (some (.ref f51)))
    (l51 : K.lookup f51 = some ⟨oc51, od51, .func (PySem.W.fnOf "_law_bits" "_law_bits" (defArgs s_law_bits) (defBody s_law_bits) (defScope s_law_bits) .none kV51 dc51 pm51 an51 cd51 ct51), sl51⟩)
    (c51 : PySem.W.codeIn K cd51 "_law_bits" = true)
    (k51 : PySem.W.keepIn K (.ref f51) = true)
    (a52 : PySem.W.nsIn K mainGlobals "_law_breaker" = some (some (.ref f52)))
    (l52 : K.lookup f52 = some ⟨oc52, od52, .func (PySem.W.fnOf "_law_breaker" "_law_breaker" (defArgs s_law_breaker) (defBody s_law_breaker) (defScope s_law_breaker) .none kV52 dc52 pm52 an52 cd52 ct52), sl52⟩)
    (c52 : PySem.W.codeIn K cd52 "_law_breaker" = true)
    (k52 : PySem.W.keepIn K (.ref f52) = true)
    (a53 : PySem.W.nsIn K mainGlobals "_law_made" = some (some (.ref f53)))
    (l53 : K.lookup f53 = some ⟨oc53, od53, .func (PySem.W.fnOf "_law_made" "_law_made" (defArgs s_law_made) (defBody s_law_made) (defScope s_law_made) .none kV53 dc53 pm53 an53 cd53 ct53), sl53⟩)
    (c53 : PySem.W.codeIn K cd53 "_law_made" = true)
    (k53 : PySem.W.keepIn K (.ref f53) = true)
    (a54 : PySem.W.nsIn K mainGlobals "_law_choice" = some (some (.ref f54)))
    (l54 : K.lookup f54 = some ⟨oc54, od54, .func (PySem.W.fnOf "_law_choice" "_law_choice" (defArgs s_law_choice) (defBody s_law_choice) (defScope s_law_choice) .none kV54 dc54 pm54 an54 cd54 ct54), sl54⟩)
    (c54 : PySem.W.codeIn K cd54 "_law_choice" = true)
    (k54 : PySem.W.keepIn K (.ref f54) = true)
    (a55 : PySem.W.nsIn K mainGlobals "_law_any" = some (some (.ref f55)))
    (l55 : K.lookup f55 = some ⟨oc55, od55, .func (PySem.W.fnOf "_law_any" "_law_any" (defArgs s_law_any) (defBody s_law_any) (defScope s_law_any) .none kV55 dc55 pm55 an55 cd55 ct55), sl55⟩)
    (c55 : PySem.W.codeIn K cd55 "_law_any" = true)
    (k55 : PySem.W.keepIn K (.ref f55) = true)
    (a56 : PySem.W.nsIn K mainGlobals "_law_xor" = some (some (.ref f56)))
    (l56 : K.lookup f56 = some ⟨oc56, od56, .func (PySem.W.fnOf "_law_xor" "_law_xor" (defArgs s_law_xor) (defBody s_law_xor) (defScope s_law_xor) .none kV56 dc56 pm56 an56 cd56 ct56), sl56⟩)
    (c56 : PySem.W.codeIn K cd56 "_law_xor" = true)
    (k56 : PySem.W.keepIn K (.ref f56) = true)
    (a57 : PySem.W.nsIn K mainGlobals "_law_row" = some (some (.ref f57)))
    (l57 : K.lookup f57 = some ⟨oc57, od57, .func (PySem.W.fnOf "_law_row" "_law_row" (defArgs s_law_row) (defBody s_law_row) (defScope s_law_row) .none kV57 dc57 pm57 an57 cd57 ct57), sl57⟩)
    (c57 : PySem.W.codeIn K cd57 "_law_row" = true)
    (k57 : PySem.W.keepIn K (.ref f57) = true)
    (a58 : PySem.W.nsIn K mainGlobals "_law_start" = some (some (.ref f58)))
    (l58 : K.lookup f58 = some ⟨oc58, od58, .func (PySem.W.fnOf "_law_start" "_law_start" (defArgs s_law_start) (defBody s_law_start) (defScope s_law_start) .none kV58 dc58 pm58 an58 cd58 ct58), sl58⟩)
    (c58 : PySem.W.codeIn K cd58 "_law_start" = true)
    (k58 : PySem.W.keepIn K (.ref f58) = true)
    (a59 : PySem.W.nsIn K mainGlobals "_law_reply" = some (some (.ref f59)))
    (l59 : K.lookup f59 = some ⟨oc59, od59, .func (PySem.W.fnOf "_law_reply" "_law_reply" (defArgs s_law_reply) (defBody s_law_reply) (defScope s_law_reply) .none kV59 dc59 pm59 an59 cd59 ct59), sl59⟩)
    (c59 : PySem.W.codeIn K cd59 "_law_reply" = true)
    (k59 : PySem.W.keepIn K (.ref f59) = true)
    (a60 : PySem.W.nsIn K mainGlobals "_law_end" = some (some (.ref f60)))
    (l60 : K.lookup f60 = some ⟨oc60, od60, .func (PySem.W.fnOf "_law_end" "_law_end" (defArgs s_law_end) (defBody s_law_end) (defScope s_law_end) .none kV60 dc60 pm60 an60 cd60 ct60), sl60⟩)
    (c60 : PySem.W.codeIn K cd60 "_law_end" = true)
    (k60 : PySem.W.keepIn K (.ref f60) = true)
    (a61 : PySem.W.nsIn K mainGlobals "_law_run" = some (some (.ref f61)))
    (l61 : K.lookup f61 = some ⟨oc61, od61, .func (PySem.W.fnOf "_law_run" "_law_run" (defArgs s_law_run) (defBody s_law_run) (defScope s_law_run) .none kV61 dc61 pm61 an61 cd61 ct61), sl61⟩)
    (c61 : PySem.W.codeIn K cd61 "_law_run" = true)
    (k61 : PySem.W.keepIn K (.ref f61) = true)
    (a62 : PySem.W.nsIn K mainGlobals "_law_same_play" = some (some (.ref f62)))
    (l62 : K.lookup f62 = some ⟨oc62, od62, .func (PySem.W.fnOf "_law_same_play" "_law_same_play" (defArgs s_law_same_play) (defBody s_law_same_play) (defScope s_law_same_play) .none kV62 dc62 pm62 an62 cd62 ct62), sl62⟩)
    (c62 : PySem.W.codeIn K cd62 "_law_same_play" = true)
    (k62 : PySem.W.keepIn K (.ref f62) = true)
    (a63 : PySem.W.nsIn K mainGlobals "_law_is_played" = some (some (.ref f63)))
    (l63 : K.lookup f63 = some ⟨oc63, od63, .func (PySem.W.fnOf "_law_is_played" "_law_is_played" (defArgs s_law_is_played) (defBody s_law_is_played) (defScope s_law_is_played) .none kV63 dc63 pm63 an63 cd63 ct63), sl63⟩)
    (c63 : PySem.W.codeIn K cd63 "_law_is_played" = true)
    (k63 : PySem.W.keepIn K (.ref f63) = true)
    (a64 : PySem.W.nsIn K mainGlobals "_law_asked" = some (some (.ref f64)))
    (l64 : K.lookup f64 = some ⟨oc64, od64, .func (PySem.W.fnOf "_law_asked" "_law_asked" (defArgs s_law_asked) (defBody s_law_asked) (defScope s_law_asked) .none kV64 dc64 pm64 an64 cd64 ct64), sl64⟩)
    (c64 : PySem.W.codeIn K cd64 "_law_asked" = true)
    (k64 : PySem.W.keepIn K (.ref f64) = true)
    (a65 : PySem.W.nsIn K mainGlobals "law" = some (some (.ref f65)))
    (l65 : K.lookup f65 = some ⟨oc65, od65, .func (PySem.W.fnOf "law" "law" (defArgs s_law) (defBody s_law) (defScope s_law) .none kV65 dc65 pm65 an65 cd65 ct65), sl65⟩)
    (c65 : PySem.W.codeIn K cd65 "law" = true)
    (k65 : PySem.W.keepIn K (.ref f65) = true)
    (z_abs : PySem.W.nsIn K mainGlobals "abs" = some none)
    (z_all : PySem.W.nsIn K mainGlobals "all" = some none)
    (z_bool : PySem.W.nsIn K mainGlobals "bool" = some none)
    (z_int : PySem.W.nsIn K mainGlobals "int" = some none)
    (z_isinstance : PySem.W.nsIn K mainGlobals "isinstance" = some none)
    (z_len : PySem.W.nsIn K mainGlobals "len" = some none)
    (z_list : PySem.W.nsIn K mainGlobals "list" = some none)
    (z_range : PySem.W.nsIn K mainGlobals "range" = some none)
    (z_str : PySem.W.nsIn K mainGlobals "str" = some none)
    (z_sum : PySem.W.nsIn K mainGlobals "sum" = some none)
    (z_tuple : PySem.W.nsIn K mainGlobals "tuple" = some none)
    (z_zip : PySem.W.nsIn K mainGlobals "zip" = some none)
    (z_max : PySem.W.nsIn K mainGlobals "max" = some none)
    (z_min : PySem.W.nsIn K mainGlobals "min" = some none)
    (z_ValueError : PySem.W.nsIn K mainGlobals "ValueError" = some none)
    {tk_MOST_BITS : Tok}
    (y_MOST_BITS : PySem.W.nsIn K mainGlobals "MOST_BITS" = some (some (.int 40 tk_MOST_BITS)))
    {tk_DEEPEST_PLAIN : Tok}
    (y_DEEPEST_PLAIN : PySem.W.nsIn K mainGlobals "DEEPEST_PLAIN" = some (some (.int 60 tk_DEEPEST_PLAIN)))
    {tk_MOST_WITHIN : Tok}
    (y_MOST_WITHIN : PySem.W.nsIn K mainGlobals "MOST_WITHIN" = some (some (.int 2000 tk_MOST_WITHIN)))
    {tk_MOST_TOSSED : Tok}
    (y_MOST_TOSSED : PySem.W.nsIn K mainGlobals "MOST_TOSSED" = some (some (.int 64 tk_MOST_TOSSED)))
    {tk_LAST_BIT : Tok}
    (y_LAST_BIT : PySem.W.nsIn K mainGlobals "LAST_BIT" = some (some (.int 9999 tk_LAST_BIT)))
    {tk_DEEPEST_MADE : Tok}
    (y_DEEPEST_MADE : PySem.W.nsIn K mainGlobals "DEEPEST_MADE" = some (some (.int 20 tk_DEEPEST_MADE)))
    {CBadBreaker CBadGame CBadChoice CBreakError CNUMBERS CFITTING CPARTS CBOUNDS CLEADERS CRULES CPlay : Addr}
    (gBadBreaker : PySem.W.nsIn K mainGlobals "BadBreaker" = some (some (.ref CBadBreaker)))
    (gBadGame : PySem.W.nsIn K mainGlobals "BadGame" = some (some (.ref CBadGame)))
    (gBadChoice : PySem.W.nsIn K mainGlobals "BadChoice" = some (some (.ref CBadChoice)))
    (gBreakError : PySem.W.nsIn K mainGlobals "BreakError" = some (some (.ref CBreakError)))
    (gNUMBERS : PySem.W.nsIn K mainGlobals "NUMBERS" = some (some (.ref CNUMBERS)))
    (gFITTING : PySem.W.nsIn K mainGlobals "FITTING" = some (some (.ref CFITTING)))
    (gPARTS : PySem.W.nsIn K mainGlobals "PARTS" = some (some (.ref CPARTS)))
    (gBOUNDS : PySem.W.nsIn K mainGlobals "BOUNDS" = some (some (.ref CBOUNDS)))
    (gLEADERS : PySem.W.nsIn K mainGlobals "LEADERS" = some (some (.ref CLEADERS)))
    (gRULES : PySem.W.nsIn K mainGlobals "RULES" = some (some (.ref CRULES)))
    (gPlay : PySem.W.nsIn K mainGlobals "Play" = some (some (.ref CPlay)))
    (xBadBreaker : PySem.W.excIn K CBadBreaker [.type "ValueError", .type "Exception", .type "BaseException", .type "object"] "ValueError.__new__" = true)
    (kBadBreaker : PySem.W.keepIn K (.ref CBadBreaker) = true)
    (bBadBreaker : PySem.W.subIn K (.ref CBadBreaker) (.type "BaseException") = some true)
    (tBadBreaker : PySem.W.typeIn K (.ref CBadBreaker) = some (.type "type"))
    (xBadGame : PySem.W.excIn K CBadGame [.type "ValueError", .type "Exception", .type "BaseException", .type "object"] "ValueError.__new__" = true)
    (kBadGame : PySem.W.keepIn K (.ref CBadGame) = true)
    (bBadGame : PySem.W.subIn K (.ref CBadGame) (.type "BaseException") = some true)
    (tBadGame : PySem.W.typeIn K (.ref CBadGame) = some (.type "type"))
    (xBadChoice : PySem.W.excIn K CBadChoice [.type "ValueError", .type "Exception", .type "BaseException", .type "object"] "ValueError.__new__" = true)
    (kBadChoice : PySem.W.keepIn K (.ref CBadChoice) = true)
    (bBadChoice : PySem.W.subIn K (.ref CBadChoice) (.type "BaseException") = some true)
    (tBadChoice : PySem.W.typeIn K (.ref CBadChoice) = some (.type "type"))
    (eBadBreaker_BadBreaker : PySem.W.exmOne K (.ref CBadBreaker) (.ref CBadBreaker) = some true)
    {esNUMBERS : Array DictEntry} {nnNUMBERS : Nat}
    (lNUMBERS : K.lookup CNUMBERS = some ⟨.type "dict", none, .dict esNUMBERS nnNUMBERS, #[]⟩)
    (qNUMBERS : PySem.W.KeysLit w.params esNUMBERS.toList)
    (loNUMBERS : (CNUMBERS == sysModules) = false)
    {esFITTING : Array DictEntry} {nnFITTING : Nat}
    (lFITTING : K.lookup CFITTING = some ⟨.type "dict", none, .dict esFITTING nnFITTING, #[]⟩)
    (qFITTING : PySem.W.KeysLit w.params esFITTING.toList)
    (loFITTING : (CFITTING == sysModules) = false)
    {esPARTS : Array DictEntry} {nnPARTS : Nat}
    (lPARTS : K.lookup CPARTS = some ⟨.type "dict", none, .dict esPARTS nnPARTS, #[]⟩)
    (qPARTS : PySem.W.KeysLit w.params esPARTS.toList)
    (loPARTS : (CPARTS == sysModules) = false)
    {esBOUNDS : Array DictEntry} {nnBOUNDS : Nat}
    (lBOUNDS : K.lookup CBOUNDS = some ⟨.type "dict", none, .dict esBOUNDS nnBOUNDS, #[]⟩)
    (qBOUNDS : PySem.W.KeysLit w.params esBOUNDS.toList)
    (loBOUNDS : (CBOUNDS == sysModules) = false)
    {esLEADERS : Array DictEntry} {nnLEADERS : Nat}
    (lLEADERS : K.lookup CLEADERS = some ⟨.type "dict", none, .dict esLEADERS nnLEADERS, #[]⟩)
    (qLEADERS : PySem.W.KeysLit w.params esLEADERS.toList)
    (loLEADERS : (CLEADERS == sysModules) = false)
    {esRULES : Array DictEntry} {nnRULES : Nat}
    (lRULES : K.lookup CRULES = some ⟨.type "dict", none, .dict esRULES nnRULES, #[]⟩)
    (qRULES : PySem.W.KeysLit w.params esRULES.toList)
    (loRULES : (CRULES == sysModules) = false)
    (rNUMBERS : numB K esNUMBERS.toList numK = true)
    {hF1 hF2 hF3 hF4 : Int} {tF1 tF2 tF3 tF4 : Tok}
    (rFITTING : esFITTING.toList = [⟨hF1, .str "longer" tF1, .ref f32⟩, ⟨hF2, .str "tree" tF2, .ref f33⟩, ⟨hF3, .str "opening" tF3, .ref f34⟩, ⟨hF4, .str "onetime" tF4, .ref f35⟩])
    (rPARTS : keysB (partB K) esPARTS.toList gameK = true)
    (rBOUNDS : keysB (boundB K) esBOUNDS.toList boundK = true)
    (rLEADERS : keysB (fun z u => glB K ("lead_" ++ z) u) esLEADERS.toList leadK = true)
    (rRULES : keysB (fun z u => glB K (z ++ "_game") u) esRULES.toList gameK = true)
    (iC : PySem.W.findIn K (.ref CPlay) "__init__" = some (some (.ref f44)))
    (mkC : PySem.W.makesIn K CPlay = true)
    (fnI : PySem.W.isFn K (.ref f44) = true)
    (kpC : PySem.W.keepIn K (.ref CPlay) = true)
    (pgC : PySem.W.plainGet K CPlay Str.empty = true)
    (hdC : PySem.W.hasDictIn K CPlay = true)
    (poC : PySem.W.plainOver K CPlay = true)
    (saC : PySem.W.findIn K (.ref CPlay) "__setattr__" = some (some (.builtin "object.__setattr__")))
    (na1 : PySem.W.findIn K (.ref CPlay) "outcome" = some none)
    (na2 : PySem.W.findIn K (.ref CPlay) "said" = some none)
    (na3 : PySem.W.findIn K (.ref CPlay) "draws" = some none)
    (na4 : PySem.W.findIn K (.ref CPlay) "asked" = some none)
    (haC : PySem.W.findIn K (.ref CPlay) "__class__" = some (some (.builtin "object.__class__")))
    (hnC : PySem.W.specialIn K (.builtin "object.__class__") "__get__" = some (some (.builtin "getset_descriptor.__get__")))
    (htC : PySem.W.takesIn K (.builtin "object.__class__") = some true)
    (hmC : PySem.W.mroIn K CPlay (.type "object") = some true)
    (kiC : PySem.W.kitOne K (.ref CPlay) (.ref CPlay) = some true)
    {cc_contest TT_contest cc_serve TT_serve cc_after TT_after cc_run_plain TT_run_plain cc_opening_game TT_opening_game cc_draw_row TT_draw_row cc_draw_bits TT_draw_bits cc_next_game TT_next_game cc_guesses_bit TT_guesses_bit cc_run TT_run : Addr}
    (u2_contest : cd24 = .ref cc_contest)
    (u3_contest : PySem.W.codeHdIn K cc_contest TT_contest = true)
    (u4_contest : K.lookup TT_contest = none)
    (u5_contest : h.get? TT_contest = some { cls := .none, data := .fields #[] })
    (u2_serve : cd9 = .ref cc_serve)
    (u3_serve : PySem.W.codeHdIn K cc_serve TT_serve = true)
    (u4_serve : K.lookup TT_serve = none)
    (u5_serve : h.get? TT_serve = some { cls := .none, data := .fields #[] })
    (u2_after : cd7 = .ref cc_after)
    (u3_after : PySem.W.codeHdIn K cc_after TT_after = true)
    (u4_after : K.lookup TT_after = none)
    (u5_after : h.get? TT_after = some { cls := .none, data := .fields #[] })
    (u2_run_plain : cd13 = .ref cc_run_plain)
    (u3_run_plain : PySem.W.codeHdIn K cc_run_plain TT_run_plain = true)
    (u4_run_plain : K.lookup TT_run_plain = none)
    (u5_run_plain : h.get? TT_run_plain = some { cls := .none, data := .fields #[] })
    (u2_opening_game : cd22 = .ref cc_opening_game)
    (u3_opening_game : PySem.W.codeHdIn K cc_opening_game TT_opening_game = true)
    (u4_opening_game : K.lookup TT_opening_game = none)
    (u5_opening_game : h.get? TT_opening_game = some { cls := .none, data := .fields #[] })
    (u2_draw_row : cd6 = .ref cc_draw_row)
    (u3_draw_row : PySem.W.codeHdIn K cc_draw_row TT_draw_row = true)
    (u4_draw_row : K.lookup TT_draw_row = none)
    (u5_draw_row : h.get? TT_draw_row = some { cls := .none, data := .fields #[] })
    (u2_draw_bits : cd5 = .ref cc_draw_bits)
    (u3_draw_bits : PySem.W.codeHdIn K cc_draw_bits TT_draw_bits = true)
    (u4_draw_bits : K.lookup TT_draw_bits = none)
    (u5_draw_bits : h.get? TT_draw_bits = some { cls := .none, data := .fields #[] })
    (u2_next_game : cd23 = .ref cc_next_game)
    (u3_next_game : PySem.W.codeHdIn K cc_next_game TT_next_game = true)
    (u4_next_game : K.lookup TT_next_game = none)
    (u5_next_game : h.get? TT_next_game = some { cls := .none, data := .fields #[] })
    (u2_guesses_bit : cd19 = .ref cc_guesses_bit)
    (u3_guesses_bit : PySem.W.codeHdIn K cc_guesses_bit TT_guesses_bit = true)
    (u4_guesses_bit : K.lookup TT_guesses_bit = none)
    (u5_guesses_bit : h.get? TT_guesses_bit = some { cls := .none, data := .fields #[] })
    (u2_run : cd14 = .ref cc_run)
    (u3_run : PySem.W.codeHdIn K cc_run TT_run = true)
    (u4_run : K.lookup TT_run = none)
    (u5_run : h.get? TT_run = some { cls := .none, data := .fields #[] }) : LamX.LawAtS l w K CX0 43 63 "script" mg fa h := by
  have e := hfa.symm.trans (PySem.W.mg_of X G a65)
  cases e
  have T : Txt K w mg ⟨CBadBreaker, CBadGame, CBadChoice, CBreakError, CNUMBERS, CFITTING, CPARTS, CBOUNDS, CLEADERS, CRULES, CPlay⟩ := { n_abs := PySem.W.mg_none_of X G z_abs, n_all := PySem.W.mg_none_of X G z_all, n_bool := PySem.W.mg_none_of X G z_bool, n_int := PySem.W.mg_none_of X G z_int, n_isinstance := PySem.W.mg_none_of X G z_isinstance, n_len := PySem.W.mg_none_of X G z_len, n_list := PySem.W.mg_none_of X G z_list, n_range := PySem.W.mg_none_of X G z_range, n_str := PySem.W.mg_none_of X G z_str, n_sum := PySem.W.mg_none_of X G z_sum, n_tuple := PySem.W.mg_none_of X G z_tuple, n_zip := PySem.W.mg_none_of X G z_zip, n_max := PySem.W.mg_none_of X G z_max, n_min := PySem.W.mg_none_of X G z_min, n_ValueError := PySem.W.mg_none_of X G z_ValueError, g_MOST_BITS := ⟨_, PySem.W.mg_of X G y_MOST_BITS, ⟨_, rfl⟩⟩, g_DEEPEST_PLAIN := ⟨_, PySem.W.mg_of X G y_DEEPEST_PLAIN, ⟨_, rfl⟩⟩, g_MOST_WITHIN := ⟨_, PySem.W.mg_of X G y_MOST_WITHIN, ⟨_, rfl⟩⟩, g_MOST_TOSSED := ⟨_, PySem.W.mg_of X G y_MOST_TOSSED, ⟨_, rfl⟩⟩, g_LAST_BIT := ⟨_, PySem.W.mg_of X G y_LAST_BIT, ⟨_, rfl⟩⟩, g_DEEPEST_MADE := ⟨_, PySem.W.mg_of X G y_DEEPEST_MADE, ⟨_, rfl⟩⟩, gl_BadBreaker := PySem.W.mg_of X G gBadBreaker, gl_BadGame := PySem.W.mg_of X G gBadGame, gl_BadChoice := PySem.W.mg_of X G gBadChoice, gl_BreakError := PySem.W.mg_of X G gBreakError, gl_NUMBERS := PySem.W.mg_of X G gNUMBERS, gl_FITTING := PySem.W.mg_of X G gFITTING, gl_PARTS := PySem.W.mg_of X G gPARTS, gl_BOUNDS := PySem.W.mg_of X G gBOUNDS, gl_LEADERS := PySem.W.mg_of X G gLEADERS, gl_RULES := PySem.W.mg_of X G gRULES, gl_Play := PySem.W.mg_of X G gPlay, dk_NUMBERS := ⟨⟨_, _, ⟨lNUMBERS, qNUMBERS, loNUMBERS⟩, numB_ok rNUMBERS⟩, num_has⟩, dk_FITTING := ⟨⟨_, _, ⟨lFITTING, qFITTING, loFITTING⟩, fitB_ok rFITTING (PySem.W.mg_of X G a32) (PySem.W.mg_of X G a33) (PySem.W.mg_of X G a34) (PySem.W.mg_of X G a35)⟩, fit_has⟩, dk_PARTS := ⟨⟨_, _, ⟨lPARTS, qPARTS, loPARTS⟩, keysB_ok (fun _ _ z => seqB_ok z) rPARTS⟩, part_has⟩, dk_BOUNDS := ⟨⟨_, _, ⟨lBOUNDS, qBOUNDS, loBOUNDS⟩, keysB_ok (fun _ _ z => seqB_ok z) rBOUNDS⟩, bound_has⟩, dk_LEADERS := ⟨⟨_, _, ⟨lLEADERS, qLEADERS, loLEADERS⟩, keysB_ok (fun _ _ z => glB_ok X G z) rLEADERS⟩, lead_has⟩, dk_RULES := ⟨⟨_, _, ⟨lRULES, qRULES, loRULES⟩, keysB_ok (fun _ _ z => glB_ok X G z) rRULES⟩, rule_has⟩, x_BadBreaker := ⟨xBadBreaker, PySem.W.mg_of X G gBadBreaker, kBadBreaker, bBadBreaker, tBadBreaker⟩, x_BadGame := ⟨xBadGame, PySem.W.mg_of X G gBadGame, kBadGame, bBadGame, tBadGame⟩, x_BadChoice := ⟨xBadChoice, PySem.W.mg_of X G gBadChoice, kBadChoice, bBadChoice, tBadChoice⟩, exm_BadBreaker_BadBreaker := eBadBreaker_BadBreaker }
  have F1 := fun_mk (st := s_draw) l1 c1 k1
  have b1 := F1.binds (ps := ["many", "then"]) fun _ _ _ _ _ _ us hl => match us, hl with | [_, _], _ => rfl
  have F2 := fun_mk (st := s_end) l2 c2 k2
  have b2 := F2.binds (ps := ["value"]) fun _ _ _ _ _ _ us hl => match us, hl with | [_], _ => rfl
  have F3 := fun_mk (st := s_ask) l3 c3 k3
  have b3 := F3.binds (ps := ["string", "then"]) fun _ _ _ _ _ _ us hl => match us, hl with | [_, _], _ => rfl
  have F4 := fun_mk (st := s_bits) l4 c4 k4
  have b4 := F4.binds (ps := ["length", "number"]) fun _ _ _ _ _ _ us hl => match us, hl with | [_, _], _ => rfl
  have F5 := fun_mk (st := s_draw_bits) l5 c5 k5
  have b5 := F5.binds (ps := ["length", "then"]) fun _ _ _ _ _ _ us hl => match us, hl with | [_, _], _ => rfl
  have F6 := fun_mk (st := s_draw_row) l6 c6 k6
  have b6 := F6.binds (ps := ["block", "real", "then"]) fun _ _ _ _ _ _ us hl => match us, hl with | [_, _, _], _ => rfl
  have F7 := fun_mk (st := s_after) l7 c7 k7
  have b7 := F7.binds (ps := ["process", "onward"]) fun _ _ _ _ _ _ us hl => match us, hl with | [_, _], _ => rfl
  have F8 := fun_mk (st := s_told) l8 c8 k8
  have b8 := F8.binds (ps := ["then", "reply"]) fun _ _ _ _ _ _ us hl => match us, hl with | [_, _], _ => rfl
  have F9 := fun_mk (st := s_serve) l9 c9 k9
  have b9 := F9.binds (ps := ["process", "state", "answer", "finish"]) fun _ _ _ _ _ _ us hl => match us, hl with | [_, _, _, _], _ => rfl
  have F10 := fun_mk (st := s_outcome) l10 c10 k10
  have b10 := F10.binds (ps := ["won"]) fun _ _ _ _ _ _ us hl => match us, hl with | [_], _ => rfl
  have F11 := fun_mk (st := s_bit_of) l11 c11 k11
  have b11 := F11.binds (ps := ["seen", "number"]) fun _ _ _ _ _ _ us hl => match us, hl with | [_, _], _ => rfl
  have F12 := fun_mk (st := s_made_of) l12 c12 k12
  have b12 := F12.binds (ps := ["parts", "seen"]) fun _ _ _ _ _ _ us hl => match us, hl with | [_, _], _ => rfl
  have F13 := fun_mk (st := s_run_plain) l13 c13 k13
  have b13 := F13.binds (ps := ["breaker", "seen"]) fun _ _ _ _ _ _ us hl => match us, hl with | [_, _], _ => rfl
  have F14 := fun_mk (st := s_run) l14 c14 k14
  have b14 := F14.binds (ps := ["breaker", "challenge"]) fun _ _ _ _ _ _ us hl => match us, hl with | [_, _], _ => rfl
  have F15 := fun_mk (st := s_no_answer) l15 c15 k15
  have b15 := F15.binds (ps := ["state", "_"]) fun _ _ _ _ _ _ us hl => match us, hl with | [_, _], _ => rfl
  have F16 := fun_mk (st := s_said_one) l16 c16 k16
  have b16 := F16.binds (ps := ["state", "asked", "said"]) fun _ _ _ _ _ _ us hl => match us, hl with | [_, _, _], _ => rfl
  have F17 := fun_mk (st := s_guess_of) l17 c17 k17
  have b17 := F17.binds (ps := ["said"]) fun _ _ _ _ _ _ us hl => match us, hl with | [_], _ => rfl
  have F18 := fun_mk (st := s_hint) l18 c18 k18
  have b18 := F18.binds (ps := ["row", "place"]) fun _ _ _ _ _ _ us hl => match us, hl with | [_, _], _ => rfl
  have F19 := fun_mk (st := s_guesses_bit) l19 c19 k19
  have b19 := F19.binds (ps := ["bit"]) fun _ _ _ _ _ _ us hl => match us, hl with | [_], _ => rfl
  have F20 := fun_mk (st := s_number_of) l20 c20 k20
  have b20 := F20.binds (ps := ["string"]) fun _ _ _ _ _ _ us hl => match us, hl with | [_], _ => rfl
  have F21 := fun_mk (st := s_xor) l21 c21 k21
  have b21 := F21.binds (ps := ["first", "second"]) fun _ _ _ _ _ _ us hl => match us, hl with | [_, _], _ => rfl
  have F22 := fun_mk (st := s_opening_game) l22 c22 k22
  have b22 := F22.binds (ps := ["parts", "meet"]) fun _ _ _ _ _ _ us hl => match us, hl with | [_, _], _ => rfl
  have F23 := fun_mk (st := s_next_game) l23 c23 k23
  have b23 := F23.binds (ps := ["parts", "meet"]) fun _ _ _ _ _ _ us hl => match us, hl with | [_, _], _ => rfl
  have F24 := fun_mk (st := s_contest) l24 c24 k24
  have b24 := F24.binds (ps := ["game", "breaker"]) fun _ _ _ _ _ _ us hl => match us, hl with | [_, _], _ => rfl
  have F25 := fun_mk (st := s_is_whole) l25 c25 k25
  have b25 := F25.binds (ps := ["value", "low", "high"]) fun _ _ _ _ _ _ us hl => match us, hl with | [_, _, _], _ => rfl
  have F26 := fun_mk (st := s_are_rows) l26 c26 k26
  have b26 := F26.binds (ps := ["value", "many", "m"]) fun _ _ _ _ _ _ us hl => match us, hl with | [_, _, _], _ => rfl
  have F27 := fun_mk (st := s_is_generator) l27 c27 k27
  have b27 := F27.binds (ps := ["value"]) fun _ _ _ _ _ _ us hl => match us, hl with | [_], _ => rfl
  have F28 := fun_mk (st := s_is_function) l28 c28 k28
  have b28 := F28.binds (ps := ["value"]) fun _ _ _ _ _ _ us hl => match us, hl with | [_], _ => rfl
  have F29 := fun_mk (st := s_fits) l29 c29 k29
  have b29 := F29.binds (ps := ["value", "told", "game"]) fun _ _ _ _ _ _ us hl => match us, hl with | [_, _, _], _ => rfl
  have F30 := fun_mk (st := s_check_game) l30 c30 k30
  have b30 := F30.binds (ps := ["game"]) fun _ _ _ _ _ _ us hl => match us, hl with | [_], _ => rfl
  have F31 := fun_mk (st := s_are_numbers) l31 c31 k31
  have b31 := F31.binds (ps := ["own", "bounds"]) fun _ _ _ _ _ _ us hl => match us, hl with | [_, _], _ => rfl
  have F32 := fun_mk (st := s_fits_longer) l32 c32 k32
  have b32 := F32.binds (ps := ["own"]) fun _ _ _ _ _ _ us hl => match us, hl with | [_], _ => rfl
  have F33 := fun_mk (st := s_fits_tree) l33 c33 k33
  have b33 := F33.binds (ps := ["own"]) fun _ _ _ _ _ _ us hl => match us, hl with | [_], _ => rfl
  have F34 := fun_mk (st := s_fits_opening) l34 c34 k34
  have b34 := F34.binds (ps := ["own"]) fun _ _ _ _ _ _ us hl => match us, hl with | [_], _ => rfl
  have F35 := fun_mk (st := s_fits_onetime) l35 c35 k35
  have b35 := F35.binds (ps := ["own"]) fun _ _ _ _ _ _ us hl => match us, hl with | [_], _ => rfl
  have F36 := fun_mk (st := s_is_made) l36 c36 k36
  have b36 := F36.binds (ps := ["value"]) fun _ _ _ _ _ _ us hl => match us, hl with | [_], _ => rfl
  have F37 := fun_mk (st := s_fits_kind) l37 c37 k37
  have b37 := F37.binds (ps := ["made"]) fun _ _ _ _ _ _ us hl => match us, hl with | [_], _ => rfl
  have F38 := fun_mk (st := s_is_part) l38 c38 k38
  have b38 := F38.binds (ps := ["value"]) fun _ _ _ _ _ _ us hl => match us, hl with | [_], _ => rfl
  have F39 := fun_mk (st := s_are_parts) l39 c39 k39
  have b39 := F39.binds (ps := ["value"]) fun _ _ _ _ _ _ us hl => match us, hl with | [_], _ => rfl
  have F40 := fun_mk (st := s_looks_plain) l40 c40 k40
  have b40 := F40.binds (ps := ["value"]) fun _ _ _ _ _ _ us hl => match us, hl with | [_], _ => rfl
  have F41 := fun_mk (st := s_directly_within) l41 c41 k41
  have b41 := F41.binds (ps := ["plain"]) fun _ _ _ _ _ _ us hl => match us, hl with | [_], _ => rfl
  have F42 := fun_mk (st := s_is_plain_breaker) l42 c42 k42
  have b42 := F42.binds (ps := ["value"]) fun _ _ _ _ _ _ us hl => match us, hl with | [_], _ => rfl
  have F43 := fun_mk (st := s_check_breaker) l43 c43 k43
  have b43 := F43.binds (ps := ["breaker"]) fun _ _ _ _ _ _ us hl => match us, hl with | [_], _ => rfl
  have F44 := fun_mk (st := s_init_Play) l44 c44 k44
  have b44 := F44.binds (ps := ["self", "outcome", "said", "draws", "asked"]) fun _ _ _ _ _ _ us hl => match us, hl with | [_, _, _, _, _], _ => rfl
  have F45 := fun_mk (st := s_play) l45 c45 k45
  have b45 := F45.binds (ps := ["game", "breaker", "choices"]) fun _ _ _ _ _ _ us hl => match us, hl with | [_, _, _], _ => rfl
  have F46 := fun_mk (st := s_law_draws) l46 c46 k46
  have b46 := F46.binds (ps := ["script", "many"]) fun _ _ _ _ _ _ us hl => match us, hl with | [_, _], _ => rfl
  have F47 := fun_mk (st := s_law_take) l47 c47 k47
  have b47 := F47.binds (ps := ["hand", "many"]) fun _ _ _ _ _ _ us hl => match us, hl with | [_, _], _ => rfl
  have F48 := fun_mk (st := s_law_string) l48 c48 k48
  have b48 := F48.binds (ps := ["hand", "length"]) fun _ _ _ _ _ _ us hl => match us, hl with | [_, _], _ => rfl
  have F49 := fun_mk (st := s_law_table) l49 c49 k49
  have b49 := F49.binds (ps := ["hand", "n", "m"]) fun _ _ _ _ _ _ us hl => match us, hl with | [_, _, _], _ => rfl
  have F50 := fun_mk (st := s_law_parts) l50 c50 k50
  have b50 := F50.binds (ps := ["hand", "length"]) fun _ _ _ _ _ _ us hl => match us, hl with | [_, _], _ => rfl
  have F51 := fun_mk (st := s_law_bits) l51 c51 k51
  have b51 := F51.binds (ps := ["length", "number"]) fun _ _ _ _ _ _ us hl => match us, hl with | [_, _], _ => rfl
  have F52 := fun_mk (st := s_law_breaker) l52 c52 k52
  have b52 := F52.binds (ps := ["hand", "depth", "asks", "length", "said"]) fun _ _ _ _ _ _ us hl => match us, hl with | [_, _, _, _, _], _ => rfl
  have F53 := fun_mk (st := s_law_made) l53 c53 k53
  have b53 := F53.binds (ps := ["parts", "handed"]) fun _ _ _ _ _ _ us hl => match us, hl with | [_, _], _ => rfl
  have F54 := fun_mk (st := s_law_choice) l54 c54 k54
  have b54 := F54.binds (ps := ["state", "many"]) fun _ _ _ _ _ _ us hl => match us, hl with | [_, _], _ => rfl
  have F55 := fun_mk (st := s_law_any) l55 c55 k55
  have b55 := F55.binds (ps := ["state", "length"]) fun _ _ _ _ _ _ us hl => match us, hl with | [_, _], _ => rfl
  have F56 := fun_mk (st := s_law_xor) l56 c56 k56
  have b56 := F56.binds (ps := ["first", "second"]) fun _ _ _ _ _ _ us hl => match us, hl with | [_, _], _ => rfl
  have F57 := fun_mk (st := s_law_row) l57 c57 k57
  have b57 := F57.binds (ps := ["state", "table", "real"]) fun _ _ _ _ _ _ us hl => match us, hl with | [_, _, _], _ => rfl
  have F58 := fun_mk (st := s_law_start) l58 c58 k58
  have b58 := F58.binds (ps := ["game", "state"]) fun _ _ _ _ _ _ us hl => match us, hl with | [_, _], _ => rfl
  have F59 := fun_mk (st := s_law_reply) l59 c59 k59
  have b59 := F59.binds (ps := ["game", "state", "ask_v"]) fun _ _ _ _ _ _ us hl => match us, hl with | [_, _, _], _ => rfl
  have F60 := fun_mk (st := s_law_end) l60 c60 k60
  have b60 := F60.binds (ps := ["game", "state", "said"]) fun _ _ _ _ _ _ us hl => match us, hl with | [_, _, _], _ => rfl
  have F61 := fun_mk (st := s_law_run) l61 c61 k61
  have b61 := F61.binds (ps := ["game", "breaker", "row"]) fun _ _ _ _ _ _ us hl => match us, hl with | [_, _, _], _ => rfl
  have F62 := fun_mk (st := s_law_same_play) l62 c62 k62
  have b62 := F62.binds (ps := ["told_v", "due"]) fun _ _ _ _ _ _ us hl => match us, hl with | [_, _], _ => rfl
  have F63 := fun_mk (st := s_law_is_played) l63 c63 k63
  have b63 := F63.binds (ps := ["game", "breaker", "hand"]) fun _ _ _ _ _ _ us hl => match us, hl with | [_, _, _], _ => rfl
  have F64 := fun_mk (st := s_law_asked) l64 c64 k64
  have b64 := F64.binds (ps := ["hand"]) fun _ _ _ _ _ _ us hl => match us, hl with | [_], _ => rfl
  have F65 := fun_mk (st := s_law) l65 c65 k65
  have PC : PlayC K CPlay := ⟨⟨pgC, hdC, poC, saC⟩, na1, na2, na3, na4⟩
  have PI : PlayI K CPlay := ⟨haC, hnC, htC, hmC, kiC⟩
  let t : TbA := ⟨TT_contest, TT_serve, TT_after, TT_run_plain, TT_opening_game, TT_draw_row, TT_draw_bits, TT_next_game, TT_guesses_bit⟩
  let cl : List (Addr × Addr) := [(cc_contest, TT_contest), (cc_serve, TT_serve), (cc_after, TT_after), (cc_run_plain, TT_run_plain), (cc_opening_game, TT_opening_game), (cc_draw_row, TT_draw_row), (cc_draw_bits, TT_draw_bits), (cc_next_game, TT_next_game), (cc_guesses_bit, TT_guesses_bit), (cc_run, TT_run)]
  refine ⟨PySem.W.fnOf "law" "law" (defArgs s_law) (defBody s_law) (defScope s_law) .none kV65 dc65 pm65 an65 cd65 ct65, cl, spLawT K t, List.forall_mem_cons.mpr ⟨u5_contest, List.forall_mem_cons.mpr ⟨u5_serve, List.forall_mem_cons.mpr ⟨u5_after, List.forall_mem_cons.mpr ⟨u5_run_plain, List.forall_mem_cons.mpr ⟨u5_opening_game, List.forall_mem_cons.mpr ⟨u5_draw_row, List.forall_mem_cons.mpr ⟨u5_draw_bits, List.forall_mem_cons.mpr ⟨u5_next_game, List.forall_mem_cons.mpr ⟨u5_guesses_bit, List.forall_mem_cons.mpr ⟨u5_run, fun _ hp => nomatch hp⟩⟩⟩⟩⟩⟩⟩⟩⟩⟩, List.forall_mem_cons.mpr ⟨u4_contest, List.forall_mem_cons.mpr ⟨u4_serve, List.forall_mem_cons.mpr ⟨u4_after, List.forall_mem_cons.mpr ⟨u4_run_plain, List.forall_mem_cons.mpr ⟨u4_opening_game, List.forall_mem_cons.mpr ⟨u4_draw_row, List.forall_mem_cons.mpr ⟨u4_draw_bits, List.forall_mem_cons.mpr ⟨u4_next_game, List.forall_mem_cons.mpr ⟨u4_guesses_bit, List.forall_mem_cons.mpr ⟨u4_run, fun _ hp => nomatch hp⟩⟩⟩⟩⟩⟩⟩⟩⟩⟩, List.forall_mem_cons.mpr ⟨PySem.W.codeHd_of_K X u3_contest, List.forall_mem_cons.mpr ⟨PySem.W.codeHd_of_K X u3_serve, List.forall_mem_cons.mpr ⟨PySem.W.codeHd_of_K X u3_after, List.forall_mem_cons.mpr ⟨PySem.W.codeHd_of_K X u3_run_plain, List.forall_mem_cons.mpr ⟨PySem.W.codeHd_of_K X u3_opening_game, List.forall_mem_cons.mpr ⟨PySem.W.codeHd_of_K X u3_draw_row, List.forall_mem_cons.mpr ⟨PySem.W.codeHd_of_K X u3_draw_bits, List.forall_mem_cons.mpr ⟨PySem.W.codeHd_of_K X u3_next_game, List.forall_mem_cons.mpr ⟨PySem.W.codeHd_of_K X u3_guesses_bit, List.forall_mem_cons.mpr ⟨PySem.W.codeHd_of_K X u3_run, fun _ hp => nomatch hp⟩⟩⟩⟩⟩⟩⟩⟩⟩⟩, fun s v => .of_eq rfl, fun H a ns hl hbits hP hS => ?_, fun base _ _ B => ?_⟩
  · exact ⟨a, ns, rfl, hS, hl, ⟨Tb.nil (hP (cc_contest, TT_contest) (.head _)), Tb.nil (hP (cc_serve, TT_serve) (.tail _ (.head _))), Tb.nil (hP (cc_after, TT_after) (.tail _ (.tail _ (.head _)))), Tb.nil (hP (cc_run_plain, TT_run_plain) (.tail _ (.tail _ (.tail _ (.head _))))), Tb.nil (hP (cc_opening_game, TT_opening_game) (.tail _ (.tail _ (.tail _ (.tail _ (.head _)))))), Tb.nil (hP (cc_draw_row, TT_draw_row) (.tail _ (.tail _ (.tail _ (.tail _ (.tail _ (.head _))))))), Tb.nil (hP (cc_draw_bits, TT_draw_bits) (.tail _ (.tail _ (.tail _ (.tail _ (.tail _ (.tail _ (.head _)))))))), Tb.nil (hP (cc_next_game, TT_next_game) (.tail _ (.tail _ (.tail _ (.tail _ (.tail _ (.tail _ (.tail _ (.head _))))))))), Tb.nil (hP (cc_guesses_bit, TT_guesses_bit) (.tail _ (.tail _ (.tail _ (.tail _ (.tail _ (.tail _ (.tail _ (.tail _ (.head _))))))))))⟩, fun _ => rfl⟩
  · exact mk_law (t := t) T PC PI ⟨F1, b1, PySem.W.mg_of X G a1⟩ ⟨F2, b2, PySem.W.mg_of X G a2⟩ ⟨F3, b3, PySem.W.mg_of X G a3⟩ ⟨F4, b4, PySem.W.mg_of X G a4⟩ ⟨F5, b5, PySem.W.mg_of X G a5⟩ u2_draw_bits (B (cc_draw_bits, TT_draw_bits) (.tail _ (.tail _ (.tail _ (.tail _ (.tail _ (.tail _ (.head _)))))))) ⟨F6, b6, PySem.W.mg_of X G a6⟩ u2_draw_row (B (cc_draw_row, TT_draw_row) (.tail _ (.tail _ (.tail _ (.tail _ (.tail _ (.head _))))))) ⟨F7, b7, PySem.W.mg_of X G a7⟩ u2_after (B (cc_after, TT_after) (.tail _ (.tail _ (.head _)))) ⟨F8, b8, PySem.W.mg_of X G a8⟩ ⟨F9, b9, PySem.W.mg_of X G a9⟩ u2_serve (B (cc_serve, TT_serve) (.tail _ (.head _))) ⟨F10, b10, PySem.W.mg_of X G a10⟩ ⟨F11, b11, PySem.W.mg_of X G a11⟩ ⟨F12, b12, PySem.W.mg_of X G a12⟩ ⟨F13, b13, PySem.W.mg_of X G a13⟩ u2_run_plain (B (cc_run_plain, TT_run_plain) (.tail _ (.tail _ (.tail _ (.head _))))) ⟨F14, b14, PySem.W.mg_of X G a14⟩ u2_run (B (cc_run, TT_run) (.tail _ (.tail _ (.tail _ (.tail _ (.tail _ (.tail _ (.tail _ (.tail _ (.tail _ (.head _))))))))))) ⟨F15, b15, PySem.W.mg_of X G a15⟩ ⟨F16, b16, PySem.W.mg_of X G a16⟩ ⟨F17, b17, PySem.W.mg_of X G a17⟩ ⟨F18, b18, PySem.W.mg_of X G a18⟩ ⟨F19, b19, PySem.W.mg_of X G a19⟩ u2_guesses_bit (B (cc_guesses_bit, TT_guesses_bit) (.tail _ (.tail _ (.tail _ (.tail _ (.tail _ (.tail _ (.tail _ (.tail _ (.head _)))))))))) ⟨F20, b20, PySem.W.mg_of X G a20⟩ ⟨F21, b21, PySem.W.mg_of X G a21⟩ ⟨F22, b22, PySem.W.mg_of X G a22⟩ u2_opening_game (B (cc_opening_game, TT_opening_game) (.tail _ (.tail _ (.tail _ (.tail _ (.head _)))))) ⟨F23, b23, PySem.W.mg_of X G a23⟩ u2_next_game (B (cc_next_game, TT_next_game) (.tail _ (.tail _ (.tail _ (.tail _ (.tail _ (.tail _ (.tail _ (.head _))))))))) ⟨F24, b24, PySem.W.mg_of X G a24⟩ u2_contest (B (cc_contest, TT_contest) (.head _)) ⟨F25, b25, PySem.W.mg_of X G a25⟩ ⟨F26, b26, PySem.W.mg_of X G a26⟩ ⟨F27, b27, PySem.W.mg_of X G a27⟩ ⟨F28, b28, PySem.W.mg_of X G a28⟩ ⟨F29, b29, PySem.W.mg_of X G a29⟩ ⟨F30, b30, PySem.W.mg_of X G a30⟩ ⟨F31, b31, PySem.W.mg_of X G a31⟩ ⟨F32, b32, PySem.W.mg_of X G a32⟩ ⟨F33, b33, PySem.W.mg_of X G a33⟩ ⟨F34, b34, PySem.W.mg_of X G a34⟩ ⟨F35, b35, PySem.W.mg_of X G a35⟩ ⟨F36, b36, PySem.W.mg_of X G a36⟩ ⟨F37, b37, PySem.W.mg_of X G a37⟩ ⟨F38, b38, PySem.W.mg_of X G a38⟩ ⟨F39, b39, PySem.W.mg_of X G a39⟩ ⟨F40, b40, PySem.W.mg_of X G a40⟩ ⟨F41, b41, PySem.W.mg_of X G a41⟩ ⟨F42, b42, PySem.W.mg_of X G a42⟩ ⟨F43, b43, PySem.W.mg_of X G a43⟩ F44 (fun z => ⟨_, _, _, [], ⟨mkC, iC, fnI, kpC⟩, z, PySem.W.mg_of X G gPlay, b44, .nil⟩) ⟨F45, b45, PySem.W.mg_of X G a45⟩ ⟨F46, b46, PySem.W.mg_of X G a46⟩ ⟨F47, b47, PySem.W.mg_of X G a47⟩ ⟨F48, b48, PySem.W.mg_of X G a48⟩ ⟨F49, b49, PySem.W.mg_of X G a49⟩ ⟨F50, b50, PySem.W.mg_of X G a50⟩ ⟨F51, b51, PySem.W.mg_of X G a51⟩ ⟨F52, b52, PySem.W.mg_of X G a52⟩ ⟨F53, b53, PySem.W.mg_of X G a53⟩ ⟨F54, b54, PySem.W.mg_of X G a54⟩ ⟨F55, b55, PySem.W.mg_of X G a55⟩ ⟨F56, b56, PySem.W.mg_of X G a56⟩ ⟨F57, b57, PySem.W.mg_of X G a57⟩ ⟨F58, b58, PySem.W.mg_of X G a58⟩ ⟨F59, b59, PySem.W.mg_of X G a59⟩ ⟨F60, b60, PySem.W.mg_of X G a60⟩ ⟨F61, b61, PySem.W.mg_of X G a61⟩ ⟨F62, b62, PySem.W.mg_of X G a62⟩ ⟨F63, b63, PySem.W.mg_of X G a63⟩ ⟨F64, b64, PySem.W.mg_of X G a64⟩ F65
/-! ### the end -/
abbrev z_draw : He.FnD := ⟨("draw", none), "draw", "draw", defArgs s_draw, defBody s_draw, defScope s_draw⟩
abbrev z_end : He.FnD := ⟨("end", none), "end", "end", defArgs s_end, defBody s_end, defScope s_end⟩
abbrev z_ask : He.FnD := ⟨("ask", none), "ask", "ask", defArgs s_ask, defBody s_ask, defScope s_ask⟩
abbrev z_bits : He.FnD := ⟨("bits", none), "bits", "bits", defArgs s_bits, defBody s_bits, defScope s_bits⟩
abbrev z_draw_bits : He.FnD := ⟨("draw_bits", none), "draw_bits", "draw_bits", defArgs s_draw_bits, defBody s_draw_bits, defScope s_draw_bits⟩
abbrev z_draw_row : He.FnD := ⟨("draw_row", none), "draw_row", "draw_row", defArgs s_draw_row, defBody s_draw_row, defScope s_draw_row⟩
abbrev z_after : He.FnD := ⟨("after", none), "after", "after", defArgs s_after, defBody s_after, defScope s_after⟩
abbrev z_told : He.FnD := ⟨("told", none), "told", "told", defArgs s_told, defBody s_told, defScope s_told⟩
abbrev z_serve : He.FnD := ⟨("serve", none), "serve", "serve", defArgs s_serve, defBody s_serve, defScope s_serve⟩
abbrev z_outcome : He.FnD := ⟨("outcome", none), "outcome", "outcome", defArgs s_outcome, defBody s_outcome, defScope s_outcome⟩
abbrev z_bit_of : He.FnD := ⟨("bit_of", none), "bit_of", "bit_of", defArgs s_bit_of, defBody s_bit_of, defScope s_bit_of⟩
abbrev z_made_of : He.FnD := ⟨("made_of", none), "made_of", "made_of", defArgs s_made_of, defBody s_made_of, defScope s_made_of⟩
abbrev z_run_plain : He.FnD := ⟨("run_plain", none), "run_plain", "run_plain", defArgs s_run_plain, defBody s_run_plain, defScope s_run_plain⟩
abbrev z_run : He.FnD := ⟨("run", none), "run", "run", defArgs s_run, defBody s_run, defScope s_run⟩
abbrev z_no_answer : He.FnD := ⟨("no_answer", none), "no_answer", "no_answer", defArgs s_no_answer, defBody s_no_answer, defScope s_no_answer⟩
abbrev z_said_one : He.FnD := ⟨("said_one", none), "said_one", "said_one", defArgs s_said_one, defBody s_said_one, defScope s_said_one⟩
abbrev z_guess_of : He.FnD := ⟨("guess_of", none), "guess_of", "guess_of", defArgs s_guess_of, defBody s_guess_of, defScope s_guess_of⟩
abbrev z_hint : He.FnD := ⟨("hint", none), "hint", "hint", defArgs s_hint, defBody s_hint, defScope s_hint⟩
abbrev z_guesses_bit : He.FnD := ⟨("guesses_bit", none), "guesses_bit", "guesses_bit", defArgs s_guesses_bit, defBody s_guesses_bit, defScope s_guesses_bit⟩
abbrev z_number_of : He.FnD := ⟨("number_of", none), "number_of", "number_of", defArgs s_number_of, defBody s_number_of, defScope s_number_of⟩
abbrev z_xor : He.FnD := ⟨("xor", none), "xor", "xor", defArgs s_xor, defBody s_xor, defScope s_xor⟩
abbrev z_opening_game : He.FnD := ⟨("opening_game", none), "opening_game", "opening_game", defArgs s_opening_game, defBody s_opening_game, defScope s_opening_game⟩
abbrev z_next_game : He.FnD := ⟨("next_game", none), "next_game", "next_game", defArgs s_next_game, defBody s_next_game, defScope s_next_game⟩
abbrev z_contest : He.FnD := ⟨("contest", none), "contest", "contest", defArgs s_contest, defBody s_contest, defScope s_contest⟩
abbrev z_is_whole : He.FnD := ⟨("is_whole", none), "is_whole", "is_whole", defArgs s_is_whole, defBody s_is_whole, defScope s_is_whole⟩
abbrev z_are_rows : He.FnD := ⟨("are_rows", none), "are_rows", "are_rows", defArgs s_are_rows, defBody s_are_rows, defScope s_are_rows⟩
abbrev z_is_generator : He.FnD := ⟨("is_generator", none), "is_generator", "is_generator", defArgs s_is_generator, defBody s_is_generator, defScope s_is_generator⟩
abbrev z_is_function : He.FnD := ⟨("is_function", none), "is_function", "is_function", defArgs s_is_function, defBody s_is_function, defScope s_is_function⟩
abbrev z_fits : He.FnD := ⟨("fits", none), "fits", "fits", defArgs s_fits, defBody s_fits, defScope s_fits⟩
abbrev z_check_game : He.FnD := ⟨("check_game", none), "check_game", "check_game", defArgs s_check_game, defBody s_check_game, defScope s_check_game⟩
abbrev z_are_numbers : He.FnD := ⟨("are_numbers", none), "are_numbers", "are_numbers", defArgs s_are_numbers, defBody s_are_numbers, defScope s_are_numbers⟩
abbrev z_fits_longer : He.FnD := ⟨("fits_longer", none), "fits_longer", "fits_longer", defArgs s_fits_longer, defBody s_fits_longer, defScope s_fits_longer⟩
abbrev z_fits_tree : He.FnD := ⟨("fits_tree", none), "fits_tree", "fits_tree", defArgs s_fits_tree, defBody s_fits_tree, defScope s_fits_tree⟩
abbrev z_fits_opening : He.FnD := ⟨("fits_opening", none), "fits_opening", "fits_opening", defArgs s_fits_opening, defBody s_fits_opening, defScope s_fits_opening⟩
abbrev z_fits_onetime : He.FnD := ⟨("fits_onetime", none), "fits_onetime", "fits_onetime", defArgs s_fits_onetime, defBody s_fits_onetime, defScope s_fits_onetime⟩
abbrev z_is_made : He.FnD := ⟨("is_made", none), "is_made", "is_made", defArgs s_is_made, defBody s_is_made, defScope s_is_made⟩
abbrev z_fits_kind : He.FnD := ⟨("fits_kind", none), "fits_kind", "fits_kind", defArgs s_fits_kind, defBody s_fits_kind, defScope s_fits_kind⟩
abbrev z_is_part : He.FnD := ⟨("is_part", none), "is_part", "is_part", defArgs s_is_part, defBody s_is_part, defScope s_is_part⟩
abbrev z_are_parts : He.FnD := ⟨("are_parts", none), "are_parts", "are_parts", defArgs s_are_parts, defBody s_are_parts, defScope s_are_parts⟩
abbrev z_looks_plain : He.FnD := ⟨("looks_plain", none), "looks_plain", "looks_plain", defArgs s_looks_plain, defBody s_looks_plain, defScope s_looks_plain⟩
abbrev z_directly_within : He.FnD := ⟨("directly_within", none), "directly_within", "directly_within", defArgs s_directly_within, defBody s_directly_within, defScope s_directly_within⟩
abbrev z_is_plain_breaker : He.FnD := ⟨("is_plain_breaker", none), "is_plain_breaker", "is_plain_breaker", defArgs s_is_plain_breaker, defBody s_is_plain_breaker, defScope s_is_plain_breaker⟩
abbrev z_check_breaker : He.FnD := ⟨("check_breaker", none), "check_breaker", "check_breaker", defArgs s_check_breaker, defBody s_check_breaker, defScope s_check_breaker⟩
abbrev z_init_Play : He.FnD := ⟨("Play", some "__init__"), "__init__", "Play.__init__", defArgs s_init_Play, defBody s_init_Play, defScope s_init_Play⟩
abbrev z_play : He.FnD := ⟨("play", none), "play", "play", defArgs s_play, defBody s_play, defScope s_play⟩
abbrev z_law_draws : He.FnD := ⟨("_law_draws", none), "_law_draws", "_law_draws", defArgs s_law_draws, defBody s_law_draws, defScope s_law_draws⟩
abbrev z_law_take : He.FnD := ⟨("_law_take", none), "_law_take", "_law_take", defArgs s_law_take, defBody s_law_take, defScope s_law_take⟩
abbrev z_law_string : He.FnD := ⟨("_law_string", none), "_law_string", "_law_string", defArgs s_law_string, defBody s_law_string, defScope s_law_string⟩
abbrev z_law_table : He.FnD := ⟨("_law_table", none), "_law_table", "_law_table", defArgs s_law_table, defBody s_law_table, defScope s_law_table⟩
abbrev z_law_parts : He.FnD := ⟨("_law_parts", none), "_law_parts", "_law_parts", defArgs s_law_parts, defBody s_law_parts, defScope s_law_parts⟩
abbrev z_law_bits : He.FnD := ⟨("_law_bits", none), "_law_bits", "_law_bits", defArgs s_law_bits, defBody s_law_bits, defScope s_law_bits⟩
abbrev z_law_breaker : He.FnD := ⟨("_law_breaker", none), "_law_breaker", "_law_breaker", defArgs s_law_breaker, defBody s_law_breaker, defScope s_law_breaker⟩
abbrev z_law_made : He.FnD := ⟨("_law_made", none), "_law_made", "_law_made", defArgs s_law_made, defBody s_law_made, defScope s_law_made⟩
abbrev z_law_choice : He.FnD := ⟨("_law_choice", none), "_law_choice", "_law_choice", defArgs s_law_choice, defBody s_law_choice, defScope s_law_choice⟩
abbrev z_law_any : He.FnD := ⟨("_law_any", none), "_law_any", "_law_any", defArgs s_law_any, defBody s_law_any, defScope s_law_any⟩
abbrev z_law_xor : He.FnD := ⟨("_law_xor", none), "_law_xor", "_law_xor", defArgs s_law_xor, defBody s_law_xor, defScope s_law_xor⟩
abbrev z_law_row : He.FnD := ⟨("_law_row", none), "_law_row", "_law_row", defArgs s_law_row, defBody s_law_row, defScope s_law_row⟩
abbrev z_law_start : He.FnD := ⟨("_law_start", none), "_law_start", "_law_start", defArgs s_law_start, defBody s_law_start, defScope s_law_start⟩
abbrev z_law_reply : He.FnD := ⟨("_law_reply", none), "_law_reply", "_law_reply", defArgs s_law_reply, defBody s_law_reply, defScope s_law_reply⟩
abbrev z_law_end : He.FnD := ⟨("_law_end", none), "_law_end", "_law_end", defArgs s_law_end, defBody s_law_end, defScope s_law_end⟩
abbrev z_law_run : He.FnD := ⟨("_law_run", none), "_law_run", "_law_run", defArgs s_law_run, defBody s_law_run, defScope s_law_run⟩
abbrev z_law_same_play : He.FnD := ⟨("_law_same_play", none), "_law_same_play", "_law_same_play", defArgs s_law_same_play, defBody s_law_same_play, defScope s_law_same_play⟩
abbrev z_law_is_played : He.FnD := ⟨("_law_is_played", none), "_law_is_played", "_law_is_played", defArgs s_law_is_played, defBody s_law_is_played, defScope s_law_is_played⟩
abbrev z_law_asked : He.FnD := ⟨("_law_asked", none), "_law_asked", "_law_asked", defArgs s_law_asked, defBody s_law_asked, defScope s_law_asked⟩
abbrev z_law : He.FnD := ⟨("law", none), "law", "law", defArgs s_law, defBody s_law, defScope s_law⟩
def fitL : List (Str × Str) := [("longer", "fits_longer"), ("tree", "fits_tree"), ("opening", "fits_opening"), ("onetime", "fits_onetime")]
def faz0 : List He.Fa := [.glo "draw", .keep "draw", .glo "end", .keep "end", .glo "ask", .keep "ask", .glo "bits", .keep "bits", .glo "draw_bits", .keep "draw_bits", .glo "draw_row", .keep "draw_row", .glo "after", .keep "after", .glo "told"]
def faz1 : List He.Fa := [.keep "told", .glo "serve", .keep "serve", .glo "outcome", .keep "outcome", .glo "bit_of", .keep "bit_of", .glo "made_of", .keep "made_of", .glo "run_plain", .keep "run_plain", .glo "run", .keep "run", .glo "no_answer", .keep "no_answer"]
def faz2 : List He.Fa := [.glo "said_one", .keep "said_one", .glo "guess_of", .keep "guess_of", .glo "hint", .keep "hint", .glo "guesses_bit", .keep "guesses_bit", .glo "number_of", .keep "number_of", .glo "xor", .keep "xor", .glo "opening_game", .keep "opening_game", .glo "next_game"]
def faz3 : List He.Fa := [.keep "next_game", .glo "contest", .keep "contest", .glo "is_whole", .keep "is_whole", .glo "are_rows", .keep "are_rows", .glo "is_generator", .keep "is_generator", .glo "is_function", .keep "is_function", .glo "fits", .keep "fits", .glo "check_game", .keep "check_game"]
def faz4 : List He.Fa := [.glo "are_numbers", .keep "are_numbers", .glo "fits_longer", .keep "fits_longer", .glo "fits_tree", .keep "fits_tree", .glo "fits_opening", .keep "fits_opening", .glo "fits_onetime", .keep "fits_onetime", .glo "is_made", .keep "is_made", .glo "fits_kind", .keep "fits_kind", .glo "is_part"]
def faz5 : List He.Fa := [.keep "is_part", .glo "are_parts", .keep "are_parts", .glo "looks_plain", .keep "looks_plain", .glo "directly_within", .keep "directly_within", .glo "is_plain_breaker", .keep "is_plain_breaker", .glo "check_breaker", .keep "check_breaker", .glo "play", .keep "play", .glo "_law_draws", .keep "_law_draws"]
def faz6 : List He.Fa := [.glo "_law_take", .keep "_law_take", .glo "_law_string", .keep "_law_string", .glo "_law_table", .keep "_law_table", .glo "_law_parts", .keep "_law_parts", .glo "_law_bits", .keep "_law_bits", .glo "_law_breaker", .keep "_law_breaker", .glo "_law_made", .keep "_law_made", .glo "_law_choice"]
def faz7 : List He.Fa := [.keep "_law_choice", .glo "_law_any", .keep "_law_any", .glo "_law_xor", .keep "_law_xor", .glo "_law_row", .keep "_law_row", .glo "_law_start", .keep "_law_start", .glo "_law_reply", .keep "_law_reply", .glo "_law_end", .keep "_law_end", .glo "_law_run", .keep "_law_run"]
def faz8 : List He.Fa := [.glo "_law_same_play", .keep "_law_same_play", .glo "_law_is_played", .keep "_law_is_played", .glo "_law_asked", .keep "_law_asked", .glo "law", .keep "law", .free "abs", .free "all", .free "bool", .free "int", .free "isinstance", .free "len", .free "list"]
def faz9 : List He.Fa := [.free "range", .free "str", .free "sum", .free "tuple", .free "zip", .free "max", .free "min", .free "ValueError", .int "MOST_BITS" 40, .int "DEEPEST_PLAIN" 60, .int "MOST_WITHIN" 2000, .int "MOST_TOSSED" 64, .int "LAST_BIT" 9999, .int "DEEPEST_MADE" 20, .glo "BadBreaker"]
def faz10 : List He.Fa := [.glo "BadGame", .glo "BadChoice", .glo "BreakError", .glo "NUMBERS", .glo "FITTING", .glo "PARTS", .glo "BOUNDS", .glo "LEADERS", .glo "RULES", .glo "Play", .exc "BadBreaker", .exc "BadGame", .exc "BadChoice", .exm "BadBreaker" "BadBreaker" true, .noat "Play" "outcome"]
def faz11 : List He.Fa := [.noat "Play" "said", .noat "Play" "draws", .noat "Play" "asked", .cls "Play", .mkr "Play", .meth "Play" "__init__"]
def faz : List He.Fa := faz0 ++ (faz1 ++ (faz2 ++ (faz3 ++ (faz4 ++ (faz5 ++ (faz6 ++ (faz7 ++ (faz8 ++ (faz9 ++ (faz10 ++ (faz11)))))))))))
def fnz0 : List He.FnD := [z_draw, z_end, z_ask, z_bits, z_draw_bits, z_draw_row, z_after, z_told, z_serve, z_outcome, z_bit_of, z_made_of, z_run_plain, z_run, z_no_answer]
def fnz1 : List He.FnD := [z_said_one, z_guess_of, z_hint, z_guesses_bit, z_number_of, z_xor, z_opening_game, z_next_game, z_contest, z_is_whole, z_are_rows, z_is_generator, z_is_function, z_fits, z_check_game]
def fnz2 : List He.FnD := [z_are_numbers, z_fits_longer, z_fits_tree, z_fits_opening, z_fits_onetime, z_is_made, z_fits_kind, z_is_part, z_are_parts, z_looks_plain, z_directly_within, z_is_plain_breaker, z_check_breaker, z_init_Play, z_play]
def fnz3 : List He.FnD := [z_law_draws, z_law_take, z_law_string, z_law_table, z_law_parts, z_law_bits, z_law_breaker, z_law_made, z_law_choice, z_law_any, z_law_xor, z_law_row, z_law_start, z_law_reply, z_law_end]
def fnz4 : List He.FnD := [z_law_run, z_law_same_play, z_law_is_played, z_law_asked, z_law]
def fnz : List He.FnD := fnz0 ++ (fnz1 ++ (fnz2 ++ (fnz3 ++ (fnz4))))
def tsz : List (Str × List Str) := [("NUMBERS", numK), ("FITTING", (fitL.map (·.1))), ("PARTS", gameK), ("BOUNDS", boundK), ("LEADERS", leadK), ("RULES", gameK)]
def tfz : List He.Defn := [("contest", none), ("serve", none), ("after", none), ("run_plain", none), ("opening_game", none), ("draw_row", none), ("draw_bits", none), ("next_game", none), ("guesses_bit", none), ("run", none)]
def exz (K : PySem.W.Frag) : Bool := numB K (Hz.dEs K "NUMBERS") numK && (Hz.fourB K (Hz.dEs K "FITTING") fitL && (keysB (partB K) (Hz.dEs K "PARTS") gameK && (keysB (boundB K) (Hz.dEs K "BOUNDS") boundK && (keysB (fun z u => glB K ("lead_" ++ z) u) (Hz.dEs K "LEADERS") leadK && (keysB (fun z u => glB K (z ++ "_game") u) (Hz.dEs K "RULES") gameK && (decide (PySem.W.findIn K (.ref (He.ga K "Play")) "__class__" = some (some (.builtin "object.__class__"))) && (decide (PySem.W.specialIn K (.builtin "object.__class__") "__get__" = some (some (.builtin "getset_descriptor.__get__"))) && (decide (PySem.W.takesIn K (.builtin "object.__class__") = some true) && (decide (PySem.W.mroIn K (He.ga K "Play") (.type "object") = some true) && (decide (PySem.W.kitOne K (.ref (He.ga K "Play")) (.ref (He.ga K "Play")) = some true)))))))))))
def loz0 : List Str := ["bits", "all_bits", "number_of", "xor", "parity", "BreakError", "BadBreaker", "BadGame", "BadChoice", "MOST_BITS", "is_whole", "are_rows", "is_generator", "is_function", "put_out"]
def loz1 : List Str := ["go_down", "DEEPEST_PLAIN", "MOST_WITHIN", "MOST_TOSSED", "LAST_BIT", "DEEPEST_MADE", "NUMBERS", "are_numbers", "fits_longer", "fits_tree", "fits_opening", "fits_onetime", "FITTING", "is_made", "fits_kind"]
def loz2 : List Str := ["is_part", "are_parts", "looks_plain", "directly_within", "is_plain_breaker", "check_breaker", "message_of", "hint", "guess_of", "places_of", "wins_onetime", "end", "draw", "draw_bits", "draw_strings"]
def loz3 : List Str := ["ask", "after", "serve", "told", "no_answer", "as_said", "quiet", "verdict", "lead_longer", "lead_tree", "in_tree", "lead_counter", "lead_cut", "lead_marks", "lead_secrets"]
def loz4 : List Str := ["lead_once", "lead_opening", "lead_next", "lead_guess", "lead_onetime", "lead_bit", "lead_hard", "guesses", "pick", "correlations", "LEADERS", "bit_of", "made_of", "run_plain", "run"]
def loz5 : List Str := ["outcome", "said_one", "guesses_bit", "draw_row", "draw_function", "any_function", "value_at", "function_answer", "generator_game", "function_game", "permutation_game", "swaps_game", "swap", "marks_game", "secrets_game"]
def loz6 : List Str := ["hide_by", "once_game", "opening_game", "next_game", "inverse_game", "onetime_game", "hard_game", "RULES", "PARTS", "BOUNDS", "fits", "check_game", "contest", "Play", "play"]
def loz7 : List Str := ["_law_draws", "_law_take", "_law_string", "_law_parts", "_law_breaker", "_law_table", "_law_made", "_law_bits", "_law_choice", "_law_any", "_law_xor", "_law_row", "_law_start", "_law_reply", "_law_end"]
def loz8 : List Str := ["_law_run", "_law_same_play", "_law_is_played", "_law_asked"]
def loz : List Str := loz0 ++ (loz1 ++ (loz2 ++ (loz3 ++ (loz4 ++ (loz5 ++ (loz6 ++ (loz7 ++ (loz8))))))))
theorem end_mk {l : PySem.W.OpenLaw} {w : World} {K : PySem.W.Frag} {h : Heap} {mg : Str → Option Value} {fa : Addr} (X : K.In h) (G : h.Ns mainGlobals mg) (hfa : mg "law" = some (.ref fa)) (c : Hz.SaysZ faz fnz tsz tfz exz w h K) : LamX.LawAtS l w K CX0 43 63 "script" mg fa h := by
  obtain ⟨oc1, od1, sl1, kV1, dc1, pm1, an1, cd1, ct1, l1, c1⟩ := c.d 0 (d := z_draw)
  obtain ⟨oc2, od2, sl2, kV2, dc2, pm2, an2, cd2, ct2, l2, c2⟩ := c.d 1 (d := z_end)
  obtain ⟨oc3, od3, sl3, kV3, dc3, pm3, an3, cd3, ct3, l3, c3⟩ := c.d 2 (d := z_ask)
  obtain ⟨oc4, od4, sl4, kV4, dc4, pm4, an4, cd4, ct4, l4, c4⟩ := c.d 3 (d := z_bits)
  obtain ⟨oc5, od5, sl5, kV5, dc5, pm5, an5, cd5, ct5, l5, c5⟩ := c.d 4 (d := z_draw_bits)
  obtain ⟨oc6, od6, sl6, kV6, dc6, pm6, an6, cd6, ct6, l6, c6⟩ := c.d 5 (d := z_draw_row)
  obtain ⟨oc7, od7, sl7, kV7, dc7, pm7, an7, cd7, ct7, l7, c7⟩ := c.d 6 (d := z_after)
  obtain ⟨oc8, od8, sl8, kV8, dc8, pm8, an8, cd8, ct8, l8, c8⟩ := c.d 7 (d := z_told)
  obtain ⟨oc9, od9, sl9, kV9, dc9, pm9, an9, cd9, ct9, l9, c9⟩ := c.d 8 (d := z_serve)
  obtain ⟨oc10, od10, sl10, kV10, dc10, pm10, an10, cd10, ct10, l10, c10⟩ := c.d 9 (d := z_outcome)
  obtain ⟨oc11, od11, sl11, kV11, dc11, pm11, an11, cd11, ct11, l11, c11⟩ := c.d 10 (d := z_bit_of)
  obtain ⟨oc12, od12, sl12, kV12, dc12, pm12, an12, cd12, ct12, l12, c12⟩ := c.d 11 (d := z_made_of)
  obtain ⟨oc13, od13, sl13, kV13, dc13, pm13, an13, cd13, ct13, l13, c13⟩ := c.d 12 (d := z_run_plain)
  obtain ⟨oc14, od14, sl14, kV14, dc14, pm14, an14, cd14, ct14, l14, c14⟩ := c.d 13 (d := z_run)
  obtain ⟨oc15, od15, sl15, kV15, dc15, pm15, an15, cd15, ct15, l15, c15⟩ := c.d 14 (d := z_no_answer)
  obtain ⟨oc16, od16, sl16, kV16, dc16, pm16, an16, cd16, ct16, l16, c16⟩ := c.d 15 (d := z_said_one)
  obtain ⟨oc17, od17, sl17, kV17, dc17, pm17, an17, cd17, ct17, l17, c17⟩ := c.d 16 (d := z_guess_of)
  obtain ⟨oc18, od18, sl18, kV18, dc18, pm18, an18, cd18, ct18, l18, c18⟩ := c.d 17 (d := z_hint)
  obtain ⟨oc19, od19, sl19, kV19, dc19, pm19, an19, cd19, ct19, l19, c19⟩ := c.d 18 (d := z_guesses_bit)
  obtain ⟨oc20, od20, sl20, kV20, dc20, pm20, an20, cd20, ct20, l20, c20⟩ := c.d 19 (d := z_number_of)
  obtain ⟨oc21, od21, sl21, kV21, dc21, pm21, an21, cd21, ct21, l21, c21⟩ := c.d 20 (d := z_xor)
  obtain ⟨oc22, od22, sl22, kV22, dc22, pm22, an22, cd22, ct22, l22, c22⟩ := c.d 21 (d := z_opening_game)
  obtain ⟨oc23, od23, sl23, kV23, dc23, pm23, an23, cd23, ct23, l23, c23⟩ := c.d 22 (d := z_next_game)
  obtain ⟨oc24, od24, sl24, kV24, dc24, pm24, an24, cd24, ct24, l24, c24⟩ := c.d 23 (d := z_contest)
  obtain ⟨oc25, od25, sl25, kV25, dc25, pm25, an25, cd25, ct25, l25, c25⟩ := c.d 24 (d := z_is_whole)
  obtain ⟨oc26, od26, sl26, kV26, dc26, pm26, an26, cd26, ct26, l26, c26⟩ := c.d 25 (d := z_are_rows)
  obtain ⟨oc27, od27, sl27, kV27, dc27, pm27, an27, cd27, ct27, l27, c27⟩ := c.d 26 (d := z_is_generator)
  obtain ⟨oc28, od28, sl28, kV28, dc28, pm28, an28, cd28, ct28, l28, c28⟩ := c.d 27 (d := z_is_function)
  obtain ⟨oc29, od29, sl29, kV29, dc29, pm29, an29, cd29, ct29, l29, c29⟩ := c.d 28 (d := z_fits)
  obtain ⟨oc30, od30, sl30, kV30, dc30, pm30, an30, cd30, ct30, l30, c30⟩ := c.d 29 (d := z_check_game)
  obtain ⟨oc31, od31, sl31, kV31, dc31, pm31, an31, cd31, ct31, l31, c31⟩ := c.d 30 (d := z_are_numbers)
  obtain ⟨oc32, od32, sl32, kV32, dc32, pm32, an32, cd32, ct32, l32, c32⟩ := c.d 31 (d := z_fits_longer)
  obtain ⟨oc33, od33, sl33, kV33, dc33, pm33, an33, cd33, ct33, l33, c33⟩ := c.d 32 (d := z_fits_tree)
  obtain ⟨oc34, od34, sl34, kV34, dc34, pm34, an34, cd34, ct34, l34, c34⟩ := c.d 33 (d := z_fits_opening)
  obtain ⟨oc35, od35, sl35, kV35, dc35, pm35, an35, cd35, ct35, l35, c35⟩ := c.d 34 (d := z_fits_onetime)
  obtain ⟨oc36, od36, sl36, kV36, dc36, pm36, an36, cd36, ct36, l36, c36⟩ := c.d 35 (d := z_is_made)
  obtain ⟨oc37, od37, sl37, kV37, dc37, pm37, an37, cd37, ct37, l37, c37⟩ := c.d 36 (d := z_fits_kind)
  obtain ⟨oc38, od38, sl38, kV38, dc38, pm38, an38, cd38, ct38, l38, c38⟩ := c.d 37 (d := z_is_part)
  obtain ⟨oc39, od39, sl39, kV39, dc39, pm39, an39, cd39, ct39, l39, c39⟩ := c.d 38 (d := z_are_parts)
  obtain ⟨oc40, od40, sl40, kV40, dc40, pm40, an40, cd40, ct40, l40, c40⟩ := c.d 39 (d := z_looks_plain)
  obtain ⟨oc41, od41, sl41, kV41, dc41, pm41, an41, cd41, ct41, l41, c41⟩ := c.d 40 (d := z_directly_within)
  obtain ⟨oc42, od42, sl42, kV42, dc42, pm42, an42, cd42, ct42, l42, c42⟩ := c.d 41 (d := z_is_plain_breaker)
  obtain ⟨oc43, od43, sl43, kV43, dc43, pm43, an43, cd43, ct43, l43, c43⟩ := c.d 42 (d := z_check_breaker)
  obtain ⟨oc44, od44, sl44, kV44, dc44, pm44, an44, cd44, ct44, l44, c44⟩ := c.d 43 (d := z_init_Play)
  obtain ⟨oc45, od45, sl45, kV45, dc45, pm45, an45, cd45, ct45, l45, c45⟩ := c.d 44 (d := z_play)
  obtain ⟨oc46, od46, sl46, kV46, dc46, pm46, an46, cd46, ct46, l46, c46⟩ := c.d 45 (d := z_law_draws)
  obtain ⟨oc47, od47, sl47, kV47, dc47, pm47, an47, cd47, ct47, l47, c47⟩ := c.d 46 (d := z_law_take)
  obtain ⟨oc48, od48, sl48, kV48, dc48, pm48, an48, cd48, ct48, l48, c48⟩ := c.d 47 (d := z_law_string)
  obtain ⟨oc49, od49, sl49, kV49, dc49, pm49, an49, cd49, ct49, l49, c49⟩ := c.d 48 (d := z_law_table)
  obtain ⟨oc50, od50, sl50, kV50, dc50, pm50, an50, cd50, ct50, l50, c50⟩ := c.d 49 (d := z_law_parts)
  obtain ⟨oc51, od51, sl51, kV51, dc51, pm51, an51, cd51, ct51, l51, c51⟩ := c.d 50 (d := z_law_bits)
  obtain ⟨oc52, od52, sl52, kV52, dc52, pm52, an52, cd52, ct52, l52, c52⟩ := c.d 51 (d := z_law_breaker)
  obtain ⟨oc53, od53, sl53, kV53, dc53, pm53, an53, cd53, ct53, l53, c53⟩ := c.d 52 (d := z_law_made)
  obtain ⟨oc54, od54, sl54, kV54, dc54, pm54, an54, cd54, ct54, l54, c54⟩ := c.d 53 (d := z_law_choice)
  obtain ⟨oc55, od55, sl55, kV55, dc55, pm55, an55, cd55, ct55, l55, c55⟩ := c.d 54 (d := z_law_any)
  obtain ⟨oc56, od56, sl56, kV56, dc56, pm56, an56, cd56, ct56, l56, c56⟩ := c.d 55 (d := z_law_xor)
  obtain ⟨oc57, od57, sl57, kV57, dc57, pm57, an57, cd57, ct57, l57, c57⟩ := c.d 56 (d := z_law_row)
  obtain ⟨oc58, od58, sl58, kV58, dc58, pm58, an58, cd58, ct58, l58, c58⟩ := c.d 57 (d := z_law_start)
  obtain ⟨oc59, od59, sl59, kV59, dc59, pm59, an59, cd59, ct59, l59, c59⟩ := c.d 58 (d := z_law_reply)
  obtain ⟨oc60, od60, sl60, kV60, dc60, pm60, an60, cd60, ct60, l60, c60⟩ := c.d 59 (d := z_law_end)
  obtain ⟨oc61, od61, sl61, kV61, dc61, pm61, an61, cd61, ct61, l61, c61⟩ := c.d 60 (d := z_law_run)
  obtain ⟨oc62, od62, sl62, kV62, dc62, pm62, an62, cd62, ct62, l62, c62⟩ := c.d 61 (d := z_law_same_play)
  obtain ⟨oc63, od63, sl63, kV63, dc63, pm63, an63, cd63, ct63, l63, c63⟩ := c.d 62 (d := z_law_is_played)
  obtain ⟨oc64, od64, sl64, kV64, dc64, pm64, an64, cd64, ct64, l64, c64⟩ := c.d 63 (d := z_law_asked)
  obtain ⟨oc65, od65, sl65, kV65, dc65, pm65, an65, cd65, ct65, l65, c65⟩ := c.d 64 (d := z_law)
  obtain ⟨_, y_MOST_BITS⟩ := Hz.int_is (c.f 143 (f := .int "MOST_BITS" 40))
  obtain ⟨_, y_DEEPEST_PLAIN⟩ := Hz.int_is (c.f 144 (f := .int "DEEPEST_PLAIN" 60))
  obtain ⟨_, y_MOST_WITHIN⟩ := Hz.int_is (c.f 145 (f := .int "MOST_WITHIN" 2000))
  obtain ⟨_, y_MOST_TOSSED⟩ := Hz.int_is (c.f 146 (f := .int "MOST_TOSSED" 64))
  obtain ⟨_, y_LAST_BIT⟩ := Hz.int_is (c.f 147 (f := .int "LAST_BIT" 9999))
  obtain ⟨_, y_DEEPEST_MADE⟩ := Hz.int_is (c.f 148 (f := .int "DEEPEST_MADE" 20))
  obtain ⟨xBadBreaker, kBadBreaker, bBadBreaker, tBadBreaker⟩ := He.exc_ok (c.f 160 (f := .exc "BadBreaker"))
  obtain ⟨xBadGame, kBadGame, bBadGame, tBadGame⟩ := He.exc_ok (c.f 161 (f := .exc "BadGame"))
  obtain ⟨xBadChoice, kBadChoice, bBadChoice, tBadChoice⟩ := He.exc_ok (c.f 162 (f := .exc "BadChoice"))
  obtain ⟨_, _, qNUMBERS⟩ := c.k 0 (t := ("NUMBERS", numK))
  obtain ⟨_, _, qFITTING⟩ := c.k 1 (t := ("FITTING", (fitL.map (·.1))))
  obtain ⟨_, _, qPARTS⟩ := c.k 2 (t := ("PARTS", gameK))
  obtain ⟨_, _, qBOUNDS⟩ := c.k 3 (t := ("BOUNDS", boundK))
  obtain ⟨_, _, qLEADERS⟩ := c.k 4 (t := ("LEADERS", leadK))
  obtain ⟨_, _, qRULES⟩ := c.k 5 (t := ("RULES", gameK))
  obtain ⟨pgC, hdC, poC, saC⟩ := He.cls_ok (c.f 168 (f := .cls "Play"))
  obtain ⟨mkC, iC, fnI, kpC⟩ := He.mkr_ok (c.f 169 (f := .mkr "Play"))
  obtain ⟨_, _, km⟩ := He.meth_ok (c.f 170 (f := .meth "Play" "__init__"))
  obtain ⟨rNUMBERS, rFITTING, rPARTS, rBOUNDS, rLEADERS, rRULES, haC, hnC, htC, hmC, kiC⟩ : (numB K (Hz.dEs K "NUMBERS") numK) = true ∧ (Hz.fourB K (Hz.dEs K "FITTING") fitL) = true ∧ (keysB (partB K) (Hz.dEs K "PARTS") gameK) = true ∧ (keysB (boundB K) (Hz.dEs K "BOUNDS") boundK) = true ∧ (keysB (fun z u => glB K ("lead_" ++ z) u) (Hz.dEs K "LEADERS") leadK) = true ∧ (keysB (fun z u => glB K (z ++ "_game") u) (Hz.dEs K "RULES") gameK) = true ∧ (decide (PySem.W.findIn K (.ref (He.ga K "Play")) "__class__" = some (some (.builtin "object.__class__")))) = true ∧ (decide (PySem.W.specialIn K (.builtin "object.__class__") "__get__" = some (some (.builtin "getset_descriptor.__get__")))) = true ∧ (decide (PySem.W.takesIn K (.builtin "object.__class__") = some true)) = true ∧ (decide (PySem.W.mroIn K (He.ga K "Play") (.type "object") = some true)) = true ∧ (decide (PySem.W.kitOne K (.ref (He.ga K "Play")) (.ref (He.ga K "Play")) = some true)) = true := by
    have q := c.more
    simpa only [exz, Bool.and_eq_true] using q
  rw [Hz.dEs_eq qNUMBERS] at rNUMBERS
  rw [Hz.dEs_eq qFITTING] at rFITTING
  rw [Hz.dEs_eq qPARTS] at rPARTS
  rw [Hz.dEs_eq qBOUNDS] at rBOUNDS
  rw [Hz.dEs_eq qLEADERS] at rLEADERS
  rw [Hz.dEs_eq qRULES] at rRULES
  obtain ⟨hF1, hF2, hF3, hF4, tF1, tF2, tF3, tF4, rFITTING⟩ := Hz.four_ok rFITTING
  exact all_mz X G hfa (Hz.glo_is (c.f 0)) l1 c1 (He.keep_ok (c.f 1)) (Hz.glo_is (c.f 2)) l2 c2 (He.keep_ok (c.f 3)) (Hz.glo_is (c.f 4)) l3 c3 (He.keep_ok (c.f 5)) (Hz.glo_is (c.f 6)) l4 c4 (He.keep_ok (c.f 7)) (Hz.glo_is (c.f 8)) l5 c5 (He.keep_ok (c.f 9)) (Hz.glo_is (c.f 10)) l6 c6 (He.keep_ok (c.f 11)) (Hz.glo_is (c.f 12)) l7 c7 (He.keep_ok (c.f 13)) (Hz.glo_is (c.f 14)) l8 c8 (He.keep_ok (c.f 15)) (Hz.glo_is (c.f 16)) l9 c9 (He.keep_ok (c.f 17)) (Hz.glo_is (c.f 18)) l10 c10 (He.keep_ok (c.f 19)) (Hz.glo_is (c.f 20)) l11 c11 (He.keep_ok (c.f 21)) (Hz.glo_is (c.f 22)) l12 c12 (He.keep_ok (c.f 23)) (Hz.glo_is (c.f 24)) l13 c13 (He.keep_ok (c.f 25)) (Hz.glo_is (c.f 26)) l14 c14 (He.keep_ok (c.f 27)) (Hz.glo_is (c.f 28)) l15 c15 (He.keep_ok (c.f 29)) (Hz.glo_is (c.f 30)) l16 c16 (He.keep_ok (c.f 31)) (Hz.glo_is (c.f 32)) l17 c17 (He.keep_ok (c.f 33)) (Hz.glo_is (c.f 34)) l18 c18 (He.keep_ok (c.f 35)) (Hz.glo_is (c.f 36)) l19 c19 (He.keep_ok (c.f 37)) (Hz.glo_is (c.f 38)) l20 c20 (He.keep_ok (c.f 39)) (Hz.glo_is (c.f 40)) l21 c21 (He.keep_ok (c.f 41)) (Hz.glo_is (c.f 42)) l22 c22 (He.keep_ok (c.f 43)) (Hz.glo_is (c.f 44)) l23 c23 (He.keep_ok (c.f 45)) (Hz.glo_is (c.f 46)) l24 c24 (He.keep_ok (c.f 47)) (Hz.glo_is (c.f 48)) l25 c25 (He.keep_ok (c.f 49)) (Hz.glo_is (c.f 50)) l26 c26 (He.keep_ok (c.f 51)) (Hz.glo_is (c.f 52)) l27 c27 (He.keep_ok (c.f 53)) (Hz.glo_is (c.f 54)) l28 c28 (He.keep_ok (c.f 55)) (Hz.glo_is (c.f 56)) l29 c29 (He.keep_ok (c.f 57)) (Hz.glo_is (c.f 58)) l30 c30 (He.keep_ok (c.f 59)) (Hz.glo_is (c.f 60)) l31 c31 (He.keep_ok (c.f 61)) (Hz.glo_is (c.f 62)) l32 c32 (He.keep_ok (c.f 63)) (Hz.glo_is (c.f 64)) l33 c33 (He.keep_ok (c.f 65)) (Hz.glo_is (c.f 66)) l34 c34 (He.keep_ok (c.f 67)) (Hz.glo_is (c.f 68)) l35 c35 (He.keep_ok (c.f 69)) (Hz.glo_is (c.f 70)) l36 c36 (He.keep_ok (c.f 71)) (Hz.glo_is (c.f 72)) l37 c37 (He.keep_ok (c.f 73)) (Hz.glo_is (c.f 74)) l38 c38 (He.keep_ok (c.f 75)) (Hz.glo_is (c.f 76)) l39 c39 (He.keep_ok (c.f 77)) (Hz.glo_is (c.f 78)) l40 c40 (He.keep_ok (c.f 79)) (Hz.glo_is (c.f 80)) l41 c41 (He.keep_ok (c.f 81)) (Hz.glo_is (c.f 82)) l42 c42 (He.keep_ok (c.f 83)) (Hz.glo_is (c.f 84)) l43 c43 (He.keep_ok (c.f 85)) l44 c44 km (Hz.glo_is (c.f 86)) l45 c45 (He.keep_ok (c.f 87)) (Hz.glo_is (c.f 88)) l46 c46 (He.keep_ok (c.f 89)) (Hz.glo_is (c.f 90)) l47 c47 (He.keep_ok (c.f 91)) (Hz.glo_is (c.f 92)) l48 c48 (He.keep_ok (c.f 93)) (Hz.glo_is (c.f 94)) l49 c49 (He.keep_ok (c.f 95)) (Hz.glo_is (c.f 96)) l50 c50 (He.keep_ok (c.f 97)) (Hz.glo_is (c.f 98)) l51 c51 (He.keep_ok (c.f 99)) (Hz.glo_is (c.f 100)) l52 c52 (He.keep_ok (c.f 101)) (Hz.glo_is (c.f 102)) l53 c53 (He.keep_ok (c.f 103)) (Hz.glo_is (c.f 104)) l54 c54 (He.keep_ok (c.f 105)) (Hz.glo_is (c.f 106)) l55 c55 (He.keep_ok (c.f 107)) (Hz.glo_is (c.f 108)) l56 c56 (He.keep_ok (c.f 109)) (Hz.glo_is (c.f 110)) l57 c57 (He.keep_ok (c.f 111)) (Hz.glo_is (c.f 112)) l58 c58 (He.keep_ok (c.f 113)) (Hz.glo_is (c.f 114)) l59 c59 (He.keep_ok (c.f 115)) (Hz.glo_is (c.f 116)) l60 c60 (He.keep_ok (c.f 117)) (Hz.glo_is (c.f 118)) l61 c61 (He.keep_ok (c.f 119)) (Hz.glo_is (c.f 120)) l62 c62 (He.keep_ok (c.f 121)) (Hz.glo_is (c.f 122)) l63 c63 (He.keep_ok (c.f 123)) (Hz.glo_is (c.f 124)) l64 c64 (He.keep_ok (c.f 125)) (Hz.glo_is (c.f 126)) l65 c65 (He.keep_ok (c.f 127)) (Hz.free_is (c.f 128)) (Hz.free_is (c.f 129)) (Hz.free_is (c.f 130)) (Hz.free_is (c.f 131)) (Hz.free_is (c.f 132)) (Hz.free_is (c.f 133)) (Hz.free_is (c.f 134)) (Hz.free_is (c.f 135)) (Hz.free_is (c.f 136)) (Hz.free_is (c.f 137)) (Hz.free_is (c.f 138)) (Hz.free_is (c.f 139)) (Hz.free_is (c.f 140)) (Hz.free_is (c.f 141)) (Hz.free_is (c.f 142)) y_MOST_BITS y_DEEPEST_PLAIN y_MOST_WITHIN y_MOST_TOSSED y_LAST_BIT y_DEEPEST_MADE (Hz.glo_is (c.f 149)) (Hz.glo_is (c.f 150)) (Hz.glo_is (c.f 151)) (Hz.glo_is (c.f 152)) (Hz.glo_is (c.f 153)) (Hz.glo_is (c.f 154)) (Hz.glo_is (c.f 155)) (Hz.glo_is (c.f 156)) (Hz.glo_is (c.f 157)) (Hz.glo_is (c.f 158)) (Hz.glo_is (c.f 159)) xBadBreaker kBadBreaker bBadBreaker tBadBreaker xBadGame kBadGame bBadGame tBadGame xBadChoice kBadChoice bBadChoice tBadChoice (He.exm_ok (c.f 163)) qNUMBERS.at_ qNUMBERS.lit qNUMBERS.low qFITTING.at_ qFITTING.lit qFITTING.low qPARTS.at_ qPARTS.lit qPARTS.low qBOUNDS.at_ qBOUNDS.lit qBOUNDS.low qLEADERS.at_ qLEADERS.lit qLEADERS.low qRULES.at_ qRULES.lit qRULES.low rNUMBERS rFITTING rPARTS rBOUNDS rLEADERS rRULES iC mkC fnI kpC pgC hdC poC saC (He.noat_ok (c.f 164)) (He.noat_ok (c.f 165)) (He.noat_ok (c.f 166)) (He.noat_ok (c.f 167)) (of_decide_eq_true haC) (of_decide_eq_true hnC) (of_decide_eq_true htC) (of_decide_eq_true hmC) (of_decide_eq_true kiC) (Hz.cd_eq (d := z_contest) l24 c24) (c.hd ("contest", none) (Hz.mem_at tfz 0 (by rfl))) (c.out ("contest", none) (Hz.mem_at tfz 0 (by rfl))) (c.empty ("contest", none) (Hz.mem_at tfz 0 (by rfl))) (Hz.cd_eq (d := z_serve) l9 c9) (c.hd ("serve", none) (Hz.mem_at tfz 1 (by rfl))) (c.out ("serve", none) (Hz.mem_at tfz 1 (by rfl))) (c.empty ("serve", none) (Hz.mem_at tfz 1 (by rfl))) (Hz.cd_eq (d := z_after) l7 c7) (c.hd ("after", none) (Hz.mem_at tfz 2 (by rfl))) (c.out ("after", none) (Hz.mem_at tfz 2 (by rfl))) (c.empty ("after", none) (Hz.mem_at tfz 2 (by rfl))) (Hz.cd_eq (d := z_run_plain) l13 c13) (c.hd ("run_plain", none) (Hz.mem_at tfz 3 (by rfl))) (c.out ("run_plain", none) (Hz.mem_at tfz 3 (by rfl))) (c.empty ("run_plain", none) (Hz.mem_at tfz 3 (by rfl))) (Hz.cd_eq (d := z_opening_game) l22 c22) (c.hd ("opening_game", none) (Hz.mem_at tfz 4 (by rfl))) (c.out ("opening_game", none) (Hz.mem_at tfz 4 (by rfl))) (c.empty ("opening_game", none) (Hz.mem_at tfz 4 (by rfl))) (Hz.cd_eq (d := z_draw_row) l6 c6) (c.hd ("draw_row", none) (Hz.mem_at tfz 5 (by rfl))) (c.out ("draw_row", none) (Hz.mem_at tfz 5 (by rfl))) (c.empty ("draw_row", none) (Hz.mem_at tfz 5 (by rfl))) (Hz.cd_eq (d := z_draw_bits) l5 c5) (c.hd ("draw_bits", none) (Hz.mem_at tfz 6 (by rfl))) (c.out ("draw_bits", none) (Hz.mem_at tfz 6 (by rfl))) (c.empty ("draw_bits", none) (Hz.mem_at tfz 6 (by rfl))) (Hz.cd_eq (d := z_next_game) l23 c23) (c.hd ("next_game", none) (Hz.mem_at tfz 7 (by rfl))) (c.out ("next_game", none) (Hz.mem_at tfz 7 (by rfl))) (c.empty ("next_game", none) (Hz.mem_at tfz 7 (by rfl))) (Hz.cd_eq (d := z_guesses_bit) l19 c19) (c.hd ("guesses_bit", none) (Hz.mem_at tfz 8 (by rfl))) (c.out ("guesses_bit", none) (Hz.mem_at tfz 8 (by rfl))) (c.empty ("guesses_bit", none) (Hz.mem_at tfz 8 (by rfl))) (Hz.cd_eq (d := z_run) l14 c14) (c.hd ("run", none) (Hz.mem_at tfz 9 (by rfl))) (c.out ("run", none) (Hz.mem_at tfz 9 (by rfl))) (c.empty ("run", none) (Hz.mem_at tfz 9 (by rfl)))
end My
namespace Hzz
open PySem PySem.Spec PyProof.Rows L2
abbrev R : PySem.W.OpenRow := PySem.W.OpenLaw.row PySem.Challenge.rw_breakback_k13_opening_next
def asz0 : List Addr := [3, 2, 21, 20, 33, 32, 40, 39, 103, 102, 108, 107, 115, 114, 120]
def asz1 : List Addr := [119, 161, 160, 168, 167, 175, 174, 182, 181, 189, 188, 197, 196, 204, 203]
def asz2 : List Addr := [211, 210, 216, 215, 223, 222, 230, 229, 235, 234, 242, 241, 256, 255, 263]
def asz3 : List Addr := [262, 282, 281, 289, 288, 296, 295, 310, 309, 317, 316, 324, 323, 331, 330]
def asz4 : List Addr := [338, 337, 480, 479, 485, 484, 492, 491, 499, 498, 506, 505, 513, 512, 520]
def asz5 : List Addr := [519, 527, 526, 625, 624, 632, 631, 678, 677, 685, 684, 692, 691, 706, 705]
def asz6 : List Addr := [720, 719, 725, 724, 732, 731, 737, 736, 744, 743, 749, 748, 754, 753, 761]
def asz7 : List Addr := [760, 768, 767, 775, 774, 782, 781, 787, 786, 794, 793, 801, 800, 808, 807]
def asz8 : List Addr := [815, 814, 822, 821, 829, 828, 834, 833, 841, 840, 848, 847, 57, 70, 82]
def asz9 : List Addr := [94, 709, 56, 55, 58, 69, 68, 81, 80, 93, 92, 708, 707, 710, 711]
def asz10 : List Addr := [135, 138, 136, 137, 141, 139, 140, 143, 142, 147, 144, 145, 146, 149, 148]
def asz11 : List Addr := [151, 150, 153, 152, 154, 156, 155, 190, 473, 654, 655, 656, 657, 658, 659]
def asz12 : List Addr := [660, 661, 662, 663, 664, 665, 666, 667, 668, 669, 670, 671]
def asz : List Addr := asz0 ++ (asz1 ++ (asz2 ++ (asz3 ++ (asz4 ++ (asz5 ++ (asz6 ++ (asz7 ++ (asz8 ++ (asz9 ++ (asz10 ++ (asz11 ++ (asz12))))))))))))
abbrev hk : PySem.W.Hook := Hz.hookZ asz My.faz My.fnz My.tsz My.tfz My.exz
def ob (s : PySem.W.SharedT) : Hz.Al := Hz.obsZ asz My.faz My.fnz My.tsz My.tfz My.exz (HandSHeadRun.getT s)
theorem run_f1 (w : World) (os : OsState) : (HandSHeadRun.endF (HandSHeadRun.stepQ (HandSHeadRun.denQ HandSHeadRun.tabQ) R.prog (w.withFollow "special-get-raises" false)) 8000 R.prog (w.withFollow "special-get-raises" false) os).map (fun s => (HandSHeadRun.looksF R.prog (PySem.W.boot_heap (w.withFollow "special-get-raises" false).params) s.abs, HandSHeadRun.seenQ (PySem.W.view R.prog [135]) My.loz (importedModules R.prog.main.body) (fun s => PySem.W.xlAt (PySem.W.view R.prog [135]) [] s && PySem.W.recOk R.toRowW.records s) s.abs)) = some (true, PySem.W.openGood (PySem.W.view R.prog [135]) My.loz) := by
  kernel_rfl
theorem run_f2 (w : World) (os : OsState) : (HandSHeadRun.endF (HandSHeadRun.stepQ (HandSHeadRun.denQ HandSHeadRun.tabQ) R.prog (w.withFollow "special-get-raises" false)) 8000 R.prog (w.withFollow "special-get-raises" false) os).map (fun s => Hz.bz My.faz My.fnz My.tfz My.exz (HandSHeadRun.getT s) (He.frT (HandSHeadRun.getT s) asz)) = some true := by
  kernel_rfl
theorem run_f3 (w : World) (os : OsState) : (HandSHeadRun.endF (HandSHeadRun.stepQ (HandSHeadRun.denQ HandSHeadRun.tabQ) R.prog (w.withFollow "special-get-raises" false)) 8000 R.prog (w.withFollow "special-get-raises" false) os).map (fun s => (My.fnz.map fun d => He.fnObs (He.frT (HandSHeadRun.getT s) asz) d.at_, My.tsz.map fun t => He.dicW (He.frT (HandSHeadRun.getT s) asz) (He.ga (He.frT (HandSHeadRun.getT s) asz) t.1))) = some (My.fnz.map He.FnD.val, My.tsz.map fun t => some (He.keysIn (w.withFollow "special-get-raises" false).params t.2)) := by
  kernel_rfl
theorem run_f (w : World) (os : OsState) : (HandSHeadRun.endF (HandSHeadRun.stepQ (HandSHeadRun.denQ HandSHeadRun.tabQ) R.prog (w.withFollow "special-get-raises" false)) 8000 R.prog (w.withFollow "special-get-raises" false) os).map (fun s => (HandSHeadRun.looksF R.prog (PySem.W.boot_heap (w.withFollow "special-get-raises" false).params) s.abs, HandSHeadRun.seenQ (PySem.W.view R.prog [135]) My.loz (importedModules R.prog.main.body) (fun s => PySem.W.xlAt (PySem.W.view R.prog [135]) [] s && PySem.W.recOk R.toRowW.records s) s.abs, ob s)) = some (true, PySem.W.openGood (PySem.W.view R.prog [135]) My.loz, hk.val (w.withFollow "special-get-raises" false)) := Hz.all4 (run_f1 w os) (run_f2 w os) (run_f3 w os)
theorem run_t1 (w : World) (os : OsState) : (HandSHeadRun.endF (HandSHeadRun.stepQ (HandSHeadRun.denQ HandSHeadRun.tabQ) R.prog (w.withFollow "special-get-raises" true)) 8000 R.prog (w.withFollow "special-get-raises" true) os).map (fun s => (HandSHeadRun.looksF R.prog (PySem.W.boot_heap (w.withFollow "special-get-raises" true).params) s.abs, HandSHeadRun.seenQ (PySem.W.view R.prog [135]) My.loz (importedModules R.prog.main.body) (fun s => PySem.W.xlAt (PySem.W.view R.prog [135]) [] s && PySem.W.recOk R.toRowW.records s) s.abs)) = some (true, PySem.W.openGood (PySem.W.view R.prog [135]) My.loz) := by
  kernel_rfl
theorem run_t2 (w : World) (os : OsState) : (HandSHeadRun.endF (HandSHeadRun.stepQ (HandSHeadRun.denQ HandSHeadRun.tabQ) R.prog (w.withFollow "special-get-raises" true)) 8000 R.prog (w.withFollow "special-get-raises" true) os).map (fun s => Hz.bz My.faz My.fnz My.tfz My.exz (HandSHeadRun.getT s) (He.frT (HandSHeadRun.getT s) asz)) = some true := by
  kernel_rfl
theorem run_t3 (w : World) (os : OsState) : (HandSHeadRun.endF (HandSHeadRun.stepQ (HandSHeadRun.denQ HandSHeadRun.tabQ) R.prog (w.withFollow "special-get-raises" true)) 8000 R.prog (w.withFollow "special-get-raises" true) os).map (fun s => (My.fnz.map fun d => He.fnObs (He.frT (HandSHeadRun.getT s) asz) d.at_, My.tsz.map fun t => He.dicW (He.frT (HandSHeadRun.getT s) asz) (He.ga (He.frT (HandSHeadRun.getT s) asz) t.1))) = some (My.fnz.map He.FnD.val, My.tsz.map fun t => some (He.keysIn (w.withFollow "special-get-raises" true).params t.2)) := by
  kernel_rfl
theorem run_t (w : World) (os : OsState) : (HandSHeadRun.endF (HandSHeadRun.stepQ (HandSHeadRun.denQ HandSHeadRun.tabQ) R.prog (w.withFollow "special-get-raises" true)) 8000 R.prog (w.withFollow "special-get-raises" true) os).map (fun s => (HandSHeadRun.looksF R.prog (PySem.W.boot_heap (w.withFollow "special-get-raises" true).params) s.abs, HandSHeadRun.seenQ (PySem.W.view R.prog [135]) My.loz (importedModules R.prog.main.body) (fun s => PySem.W.xlAt (PySem.W.view R.prog [135]) [] s && PySem.W.recOk R.toRowW.records s) s.abs, ob s)) = some (true, PySem.W.openGood (PySem.W.view R.prog [135]) My.loz, hk.val (w.withFollow "special-get-raises" true)) := Hz.all4 (run_t1 w os) (run_t2 w os) (run_t3 w os)
theorem run (w : World) : HandSHeadRun.RunEq R (PySem.W.view R.prog [135]) hk ob 8000 My.loz w :=
  PySem.W.byRow2 "special-get-raises" (P := fun w => HandSHeadRun.RunEq R (PySem.W.view R.prog [135]) hk ob 8000 My.loz w) (fun w os => run_f w os) (fun w os => run_t w os) w
end Hzz
open PySem PySem.W PyProof.Rows
set_option maxRecDepth 100000 in
set_option maxHeartbeats 0 in
theorem PySem.Challenge.cw_breakback_k13_opening_next_holds : PySem.Challenge.rw_breakback_k13_opening_next.Holds := by
  w_on; o_law
  refine HandSHeadRun.head_any (r := OpenLaw.row PySem.Challenge.rw_breakback_k13_opening_next) (q := view (OpenLaw.row PySem.Challenge.rw_breakback_k13_opening_next).prog [135]) (H := Hzz.hk) (ob := Hzz.ob) (M := 8000) (loose := My.loz) (d := HandSHeadRun.topDef (OpenLaw.row PySem.Challenge.rw_breakback_k13_opening_next).prog 135) (kwd := []) (fun _ => Hz.obsZ_eq)
    (by kernel_rfl) (fun s => by kernel_rfl) Hzz.run (by kernel_rfl) (by kernel_rfl) (by kernel_rfl) (by rfl) (by first | assumption | decide +kernel) (by decide +kernel) ⟨rfl, rfl, rfl, rfl, rfl, by decide +kernel⟩ ?hw ?hc
  case hw => w_witness2
  case hc =>
    refine LamX.walk_ofTsE (l := PySem.Challenge.rw_breakback_k13_opening_next) (n := 63) (k := 43) (x := "script") (CX := fun _ => L2.CX0) rfl (by decide) (by kernel_rfl) ⟨rfl, by decide, by decide⟩ ?F (fun _ _ _ _ _ h => h)
    case F =>
      intro w mg fa h Y G hmg0
      obtain ⟨K, KX, c⟩ := Y
      have hmg : mg ("law" : PySem.Str) = some (.ref fa) := by
        have e : (HandSHeadRun.topDef (OpenLaw.row PySem.Challenge.rw_breakback_k13_opening_next).prog 135).name = ("law" : PySem.Str) := by kernel_rfl
        rw [← e]
        exact hmg0
      exact ⟨K, KX, My.end_mk KX G hmg c⟩
#print axioms PySem.Challenge.cw_breakback_k13_opening_next_holds
